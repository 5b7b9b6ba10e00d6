import Derived.Test.YthhogjkicgiliaaGreatJ00
import Derived.Test.YthhogjkicgiliaaGreatJ37
import Derived.Test.YthhogjkicgiliaaGreatJ38
namespace Go.Proofs.YthhogjkicgiliaaGreat.P
open Go.RowKit
theorem sub_one (A:List Int) (p:Int):sub A p (p + 1)=if 0≤p then (A[p.toNat]?).toList else []:=by
 unfold sub clp
 by_cases h0:0≤p
 ·rw [if_pos h0]
  by_cases h1:p.toNat < A.length
  ·rw [if_neg (by omega),List.getElem?_eq_getElem h1]
   simp only
   rw [show (max p 0).toNat=p.toNat by omega,show (min (p + 1) (A.length:Int)).toNat - p.toNat=1 by omega,List.drop_eq_getElem_cons h1]
   rfl
  ·rw [if_pos (by omega),List.getElem?_eq_none (by omega)]
   simp
 ·rw [if_neg h0,if_pos (by omega)]
  simp
def isA (A:List Int) (p x:Int):Bool:=decide (0≤p∧A[p.toNat]?=some x)
set_option maxRecDepth 100000 in
theorem isAtom_any (enc:Int) (w:World) (t:Nat) (A:List Int) (p x:Int) (h:Tz enc w t A) (h1:-9≤p) (h2:p≤1099511627776):Calls Tryz.prog 39 #[.pointer (some ⟨t,0,none⟩),.int .i64 p,.int .i64 x] w fun e w'=>e=.returned (.bool (isA A p x))∧Below w.heap.size w w':=by
 have hw:IntKind.i64.wrap (p + 1)=p + 1:=by rw [IntKind.wrap_i64];omega
 have AT:=hidIt (Atoms_z enc w t A p (p + 1) h)
 rw [sub_one] at AT
 clear h
 by_cases hc:0≤p∧p.toNat < A.length
 ·obtain ⟨y,hy⟩:∃ y,A[p.toNat]?=some y:=⟨_,List.getElem?_eq_getElem hc.2⟩
  rw [if_pos hc.1,hy] at AT
  have HA:Hid (isA A p x=decide (y=x)):=by unfold Hid isA;simp [hc.1,hy]
  clear hc
  go_enter Tryz.func39,Tryz.ntmps39
  go_wp2_with (go_at_call 22;refine AT.out.mono ?_;rintro e w1 ⟨v,rfl,ho,hb⟩;obtain ⟨g,cap,rfl,hg,hl,hm,hcc⟩:=OwnI.row ho (by simp);have c0:w1.cell? ⟨g,0,none⟩=some (.int .i64 y):=hcc 0 _ rfl;have HB:=hidIt hb;clear hb ho hcc;(try dsimp only [Option.toList,List.length_cons,List.length_nil,Nat.zero_add] at *))
  go_ret
  exact ⟨by rw [HA.out];rfl,HB.out⟩
 ·have e:(if 0≤p then (A[p.toNat]?).toList else [])=[]:=by
   split
   ·rw [List.getElem?_eq_none (by omega)];rfl
   ·rfl
  rw [e] at AT
  have HA:Hid (isA A p x=false):=by
   unfold Hid isA
   rw [decide_eq_false_iff_not]
   rintro ⟨q1,q2⟩
   exact hc ⟨q1,(List.getElem?_eq_some_iff.1 q2).1⟩
  clear e hc
  go_enter Tryz.func39,Tryz.ntmps39
  go_wp2_with (go_at_call 22;refine AT.out.mono ?_;rintro e w1 ⟨v,rfl,ho,hb⟩;obtain ⟨ao,cap,rfl⟩:=ho.form;have HB:=hidIt hb;clear hb ho;(try dsimp only [List.length_nil]))
  go_ret
  exact ⟨by rw [HA.out];rfl,HB.out⟩
end Go.Proofs.YthhogjkicgiliaaGreat.P

namespace Go.Proofs.YthhogjkicgiliaaGreat.P
open Go.RowKit
theorem width_any (k:Int) (w:World):Calls Tryz.prog 44 #[.int .i64 k] w fun e w'=>e=.returned (.int .i64 (wid k))∧w'=w:=by
 by_cases h:k=2
 ·subst h
  go_enter Tryz.func44,Tryz.ntmps44
  go_wp2_with fail
  go_ret
  exact ⟨rfl,rfl⟩
 ·have e:wid k=1:=by unfold wid;rw [if_neg h]
  have hb:(k == 2)=false:=by simp [h]
  rw [e]
  clear e
  go_enter Tryz.func44,Tryz.ntmps44
  go_wp2_with fail
  go_ret
  exact ⟨rfl,rfl⟩
set_option maxRecDepth 100000 in
theorem kindAhead_any (enc:Int) (w:World) (t:Nat) (A:List Int) (p:Nat) (h:Tz enc w t A) (h1:1≤p) (h2:p≤1099511627776):Calls Tryz.prog 43 #[.pointer (some ⟨t,0,none⟩),.int .i64 (p:Nat)] w fun e w'=>e=.returned (.int .i64 (knd A p))∧Below w.heap.size w w':=by
 have w1:IntKind.i64.wrap ((p:Int) - 1)=(p:Int) - 1:=by rw [IntKind.wrap_i64];omega
 have w2:IntKind.i64.wrap ((p:Int) - 2)=(p:Int) - 2:=by rw [IntKind.wrap_i64];omega
 have IA:Hid (∀ w',Below w.heap.size w w'→∀ q:Int,-9≤q→q≤1099511627776→Calls Tryz.prog 39 #[.pointer (some ⟨t,0,none⟩),.int .i64 q,.int .i64 13] w' fun e w''=>e=.returned (.bool (isA A q 13))∧Below w'.heap.size w' w''):=fun w' hb q q1 q2=>isAtom_any enc w' t A q 13 (h.ext hb) q1 q2
 have e1:isA A ((p:Int) - 1) 13=decide (A[p - 1]?=some 13):=by unfold isA;rw [show ((p:Int) - 1).toNat=p - 1 by omega];simp;intro _;omega
 have e2:isA A ((p:Int) - 2) 13=decide (2≤p∧A[p - 2]?=some 13):=by unfold isA;rw [show ((p:Int) - 2).toNat=p - 2 by omega];congr 1;rw [show (0≤(p:Int) - 2)=(2≤p) from propext (by omega)]
 have C1:=hidIt (IA.out w (Below.refl _ _) ((p:Int) - 1) (by omega) (by omega))
 have C2:Hid (∀ w',Below w.heap.size w w'→Calls Tryz.prog 39 #[.pointer (some ⟨t,0,none⟩),.int .i64 ((p:Int) - 2),.int .i64 13] w' fun e w''=>e=.returned (.bool (decide (2≤p∧A[p - 2]?=some 13)))∧Below w'.heap.size w' w''):=fun w' hb=>by
  have:=IA.out w' hb ((p:Int) - 2) (by omega) (by omega)
  rwa [e2] at this
 rw [e1] at C1
 clear IA e1 e2 h h1 h2
 by_cases q1:A[p - 1]?=some 13
 ·have HE:=hidIt (show knd A p=3 by unfold knd;rw [if_pos q1])
  rw [decide_eq_true q1] at C1
  clear q1 C2
  go_enter Tryz.func43,Tryz.ntmps43
  go_wp2_with (go_at_call 39;refine C1.out.mono ?_;rintro e w3 ⟨rfl,hb⟩;have HB:=hidIt hb;clear hb;(try dsimp only))
  go_ret
  exact ⟨by rw [HE.out];rfl,HB.out⟩
 ·rw [decide_eq_false q1] at C1
  by_cases q2:2≤p∧A[p - 2]?=some 13
  ·have HE:=hidIt (show knd A p=2 by unfold knd;rw [if_neg q1,if_pos q2])
   rw [decide_eq_true q2] at C2
   clear q1 q2
   go_enter Tryz.func43,Tryz.ntmps43
   go_upto_region 3 with (go_at_call 39;refine C1.out.mono ?_;rintro e w3 ⟨rfl,hb⟩;have HB:=hidIt hb;clear hb;(try dsimp only))
   go_wp2_with (go_at_call 39;refine (C2.out _ HB.out).mono ?_;rintro e w4 ⟨rfl,hb⟩;have HB2:=hidIt (ext_trans HB.out hb);clear hb;(try dsimp only))
   go_ret
   exact ⟨by rw [HE.out];rfl,HB2.out⟩
  ·have HE:=hidIt (show knd A p=1 by unfold knd;rw [if_neg q1,if_neg q2])
   rw [decide_eq_false q2] at C2
   clear q1 q2
   go_enter Tryz.func43,Tryz.ntmps43
   go_upto_region 3 with (go_at_call 39;refine C1.out.mono ?_;rintro e w3 ⟨rfl,hb⟩;have HB:=hidIt hb;clear hb;(try dsimp only))
   go_wp2_with (go_at_call 39;refine (C2.out _ HB.out).mono ?_;rintro e w4 ⟨rfl,hb⟩;have HB2:=hidIt (ext_trans HB.out hb);clear hb;(try dsimp only))
   go_ret
   exact ⟨by rw [HE.out];rfl,HB2.out⟩
set_option maxRecDepth 100000 in
set_option maxHeartbeats 4000000 in
theorem At_z (enc:Int) (w:World) (t:Nat) (A:List Int) (k:Int) (h:Tz enc w t A):Calls Tryz.prog 17 #[.pointer (some ⟨t,0,none⟩),.int .i64 k] w fun e w'=>e=.returned (.tuple #[.agg #[.int .i64 (lnA enc A k).f,.int .i64 (lnA enc A k).t,.int .i64 (lnA enc A k).n,.int .i64 (lnA enc A k).b],.int .i64 (lnE enc A k)])∧Below w.heap.size w w':=by
 obtain ⟨w0,hw0,kk0,hb0⟩:∃ w0,w0=w.alloc (.cells #[.int .i64 0,.int .i64 0,.int .i64 0,.int .i64 0] 50)∧w0.heap[w.heap.size]?=some (.cells #[.int .i64 0,.int .i64 0,.int .i64 0,.int .i64 0] 50 (0,0))∧Below w.heap.size w w0:=⟨_,rfl,heap_alloc_new _ _,ext_alloc (Below.refl _ _) _⟩
 have hl:=h.len
 have HT:=hidIt (h.ext hb0)
 have HB0:=hidIt hb0
 have HK0:=hidIt kk0
 obtain ⟨B,hB⟩:∃ B:Nat,(spn enc A).b=B:=⟨(spn enc A).b.toNat,by have:=spn_nn enc A;omega⟩
 have hBl:B≤A.length:=by have:=spn_len enc A;omega
 have LN:=hidIt (Len_z enc w0 t A HT.out)
 have BR:Hid (∀ w',Below w0.heap.size w0 w'→Calls Tryz.prog 33 #[.pointer (some ⟨t,0,none⟩),.int .i64 (A.length:Nat)] w' fun e w''=>e=.returned (.int .i64 (B:Nat))∧Below w'.heap.size w' w''):=fun w' hb=>by
  have:=Breaks_z enc w' t A (A.length:Nat) (HT.out.ext hb)
  rw [brk_at,bAt_len enc A _ (by simp),hB] at this
  exact this
 have SK:Hid (∀ w' q,Below w0.heap.size w0 w'→Calls Tryz.prog 42 #[.pointer (some ⟨t,0,none⟩),.int .i64 q] w' fun e w''=>e=.returned (.int .i64 (skA enc A q))∧Below w'.heap.size w' w''):=fun w' q hb=>Seek_z enc w' t A q (HT.out.ext hb)
 have CL:Hid (∀ w1,Below w0.heap.size w0 w1→w1.heap[w.heap.size]?=some (.cells #[.int .i64 0,.int .i64 0,.int .i64 0,.int .i64 0] 50 (0,0))):=fun w1 hb=>(hb.block _ (Array.getElem?_eq_some_iff.1 HK0.out).1).trans HK0.out
 clear hb0 kk0 h
 by_cases h0:k < 0
 ·have HE:Hid (lnA enc A k=⟨0,0,0,0⟩∧lnE enc A k=2):=⟨by unfold lnA;rw [if_pos (.inl h0)],by unfold lnE;rw [if_pos (.inl h0)]⟩
  clear hB
  go_enter Tryz.func17,Tryz.ntmps17
  go_upto_region 1 with fail
  rw [← hw0]
  clear hw0
  go_upto_region 3 with (first
   | (go_at_call 34;refine LN.out.mono ?_;rintro e w1 ⟨rfl,hb⟩;have HB1:=hidIt hb;clear hb;(try dsimp only))
   | (go_at_call 33;refine (BR.out _ HB1.out).mono ?_;rintro e w2 ⟨rfl,hb⟩;have HB2:=hidIt (ext_trans HB1.out hb);clear hb;(try dsimp only)))
  obtain ⟨hlt,c0,c1,c2,c3,fz⟩:=cells4 (CL.out _ HB2.out)
  go_wp2_with fail
  exact bodyPost_ret (v:=.tuple #[.agg #[.int .i64 0,.int .i64 0,.int .i64 0,.int .i64 0],.int .i64 2]) (by simp [results,Tryz.results17,go_sem,c0,c1,c2,c3]) rfl ⟨by rw [HE.out.1,HE.out.2],below4 HB0.out (CL.out _ HB2.out) HB2.out _ _ _ _⟩
 by_cases h1:(B:Int) < k
 ·have HE:Hid (lnA enc A k=⟨0,0,0,0⟩∧lnE enc A k=2):=⟨by unfold lnA;rw [if_pos (.inr (by omega))],by unfold lnE;rw [if_pos (.inr (by omega))]⟩
  clear hB
  go_enter Tryz.func17,Tryz.ntmps17
  go_upto_region 1 with fail
  rw [← hw0]
  clear hw0
  go_upto_region 3 with (first
   | (go_at_call 34;refine LN.out.mono ?_;rintro e w1 ⟨rfl,hb⟩;have HB1:=hidIt hb;clear hb;(try dsimp only))
   | (go_at_call 33;refine (BR.out _ HB1.out).mono ?_;rintro e w2 ⟨rfl,hb⟩;have HB2:=hidIt (ext_trans HB1.out hb);clear hb;(try dsimp only)))
  obtain ⟨hlt,c0,c1,c2,c3,fz⟩:=cells4 (CL.out _ HB2.out)
  go_wp2_with fail
  exact bodyPost_ret (v:=.tuple #[.agg #[.int .i64 0,.int .i64 0,.int .i64 0,.int .i64 0],.int .i64 2]) (by simp [results,Tryz.results17,go_sem,c0,c1,c2,c3]) rfl ⟨by rw [HE.out.1,HE.out.2],below4 HB0.out (CL.out _ HB2.out) HB2.out _ _ _ _⟩
 have HE:Hid (lnA enc A k=lnK enc A k∧lnE enc A k=0):=⟨by unfold lnA;rw [if_neg (by omega)],by unfold lnE;rw [if_neg (by omega)]⟩
 obtain ⟨i,rfl⟩:∃ i:Nat,k=i:=⟨k.toNat,by omega⟩
 have hiB:i≤B:=by omega
 have S1:Hid (∀ w',Below w0.heap.size w0 w'→Calls Tryz.prog 42 #[.pointer (some ⟨t,0,none⟩),.int .i64 (i:Nat)] w' fun e w''=>e=.returned (.int .i64 (skA enc A (i:Nat)))∧Below w'.heap.size w' w''):=fun w' hb=>SK.out w' _ hb
 rcases Nat.lt_or_eq_of_le hiB with h2 | h2
 ·obtain ⟨p,hp,hp1,hp2,_⟩:=skA_at enc A ((i:Int) + 1) (by omega) (by omega)
  have HY:Hid (lnK enc A (i:Nat)=⟨skA enc A (i:Nat),(p:Nat) - wid (knd A p),(p:Nat),knd A p⟩):=by
   unfold Hid lnK
   rw [if_neg (by omega),hp]
   simp
  have hwd:1≤wid (knd A p)∧wid (knd A p)≤2:=by unfold wid;split <;> omega
  have S2:Hid (∀ w',Below w0.heap.size w0 w'→Calls Tryz.prog 42 #[.pointer (some ⟨t,0,none⟩),.int .i64 ((i:Int) + 1)] w' fun e w''=>e=.returned (.int .i64 (p:Nat))∧Below w'.heap.size w' w''):=fun w' hb=>by
   have:=SK.out w' ((i:Int) + 1) hb
   rwa [hp] at this
  have KA:Hid (∀ w',Below w0.heap.size w0 w'→Calls Tryz.prog 43 #[.pointer (some ⟨t,0,none⟩),.int .i64 (p:Nat)] w' fun e w''=>e=.returned (.int .i64 (knd A p))∧Below w'.heap.size w' w''):=fun w' hb=>kindAhead_any enc w' t A p (HT.out.ext hb) hp1 (by omega)
  have WD:Hid (∀ w',Calls Tryz.prog 44 #[.int .i64 (knd A p)] w' fun e w''=>e=.returned (.int .i64 (wid (knd A p)))∧w''=w'):=fun w'=>width_any _ w'
  have hwi:IntKind.i64.wrap ((i:Int) + 1)=(i:Int) + 1:=by rw [IntKind.wrap_i64];omega
  have hws:IntKind.i64.wrap ((p:Int) - wid (knd A p))=(p:Int) - wid (knd A p):=by rw [IntKind.wrap_i64];omega
  have hne:¬ ((i:Int)=(B:Int)):=by omega
  have hne':((i:Int) == (B:Int))=false:=by simp;omega
  generalize knd A p=kd at *
  generalize wid kd=wk at *
  generalize skA enc A (i:Nat)=f at *
  clear hB hp SK hwd
  go_enter Tryz.func17,Tryz.ntmps17
  go_upto_region 1 with fail
  rw [← hw0]
  clear hw0
  go_upto_region 3 with (first
   | (go_at_call 34;refine LN.out.mono ?_;rintro e w1 ⟨rfl,hb⟩;have HB1:=hidIt hb;clear hb;(try dsimp only))
   | (go_at_call 33;refine (BR.out _ HB1.out).mono ?_;rintro e w2 ⟨rfl,hb⟩;have HB2:=hidIt (ext_trans HB1.out hb);clear hb;(try dsimp only)))
  go_upto_region 6 with (go_at_call 42;refine (S1.out _ HB2.out).mono ?_;rintro e w3 ⟨rfl,hb⟩;have HB3:=hidIt (ext_trans HB2.out hb);clear hb;(try dsimp only))
  go_upto_region 9 with (go_at_call 42;refine (S2.out _ HB3.out).mono ?_;rintro e w4 ⟨rfl,hb⟩;have HB4:=hidIt (ext_trans HB3.out hb);clear hb;(try dsimp only))
  go_upto_region 10 with (go_at_call 43;refine (KA.out _ HB4.out).mono ?_;rintro e w5 ⟨rfl,hb⟩;have HB5:=hidIt (ext_trans HB4.out hb);clear hb;(try dsimp only))
  obtain ⟨hlt,c0,c1,c2,c3,fz⟩:=cells4 (CL.out _ HB5.out)
  go_wp2_with (go_at_call 44;refine (WD.out _).mono ?_;rintro e w6 ⟨rfl,hb⟩;subst hb;(try dsimp only))
  exact bodyPost_ret (v:=.tuple #[.agg #[.int .i64 f,.int .i64 ((p:Nat) - wk),.int .i64 (p:Nat),.int .i64 kd],.int .i64 0]) (by simp [results,Tryz.results17,go_sem,c0,c1,c2,c3]) rfl ⟨by rw [HE.out.1,HE.out.2,HY.out],below4 HB0.out (CL.out _ HB5.out) HB5.out _ _ _ _⟩
 ·subst h2
  have HY:Hid (lnK enc A (i:Nat)=⟨skA enc A (i:Nat),(A.length:Nat),(A.length:Nat),0⟩):=by
   unfold Hid lnK
   rw [if_pos hB.symm]
  generalize skA enc A (i:Nat)=f at *
  clear hB SK
  go_enter Tryz.func17,Tryz.ntmps17
  go_upto_region 1 with fail
  rw [← hw0]
  clear hw0
  go_upto_region 3 with (first
   | (go_at_call 34;refine LN.out.mono ?_;rintro e w1 ⟨rfl,hb⟩;have HB1:=hidIt hb;clear hb;(try dsimp only))
   | (go_at_call 33;refine (BR.out _ HB1.out).mono ?_;rintro e w2 ⟨rfl,hb⟩;have HB2:=hidIt (ext_trans HB1.out hb);clear hb;(try dsimp only)))
  go_upto_region 6 with (go_at_call 42;refine (S1.out _ HB2.out).mono ?_;rintro e w3 ⟨rfl,hb⟩;have HB3:=hidIt (ext_trans HB2.out hb);clear hb;(try dsimp only))
  obtain ⟨hlt,c0,c1,c2,c3,fz⟩:=cells4 (CL.out _ HB3.out)
  go_wp2_with fail
  exact bodyPost_ret (v:=.tuple #[.agg #[.int .i64 f,.int .i64 (A.length:Nat),.int .i64 (A.length:Nat),.int .i64 0],.int .i64 0]) (by simp [results,Tryz.results17,go_sem,c0,c1,c2,c3]) rfl ⟨by rw [HE.out.1,HE.out.2,HY.out],below4 HB0.out (CL.out _ HB3.out) HB3.out _ _ _ _⟩
end Go.Proofs.YthhogjkicgiliaaGreat.P

namespace Go.Proofs.YthhogjkicgiliaaGreat.P
open Go.RowKit
def tl (b f n:Int):Bool:=decide (0 < b∧f=n)
set_option maxRecDepth 100000 in
theorem isTail_any (b f n:Int) (w:World):Calls Tryz.prog 35 #[.int .i64 b,.agg #[.int .i64 f,.int .i64 n,.int .i64 n,.int .i64 0]] w fun e w'=>e=.returned (.bool (tl b f n))∧Below w.heap.size w w':=by
 by_cases h0:0 < b
 ·by_cases h1:f=n
  ·subst h1
   have HE:=hidIt (show tl b f f=true by unfold tl;simp [h0])
   go_enter Tryz.func35,Tryz.ntmps35
   go_wp2_with fail
   go_ret
   exact ⟨by rw [HE.out];rfl,ext_alloc (Below.refl _ _) _⟩
  ·have HE:=hidIt (show tl b f n=false by unfold tl;simp [h1])
   have hb1:(n == f)=false:=by simp;omega
   go_enter Tryz.func35,Tryz.ntmps35
   go_wp2_with fail
   go_ret
   exact ⟨by rw [HE.out];rfl,ext_alloc (Below.refl _ _) _⟩
 ·have HE:=hidIt (show tl b f n=false by unfold tl;simp [h0])
  go_enter Tryz.func35,Tryz.ntmps35
  go_wp2_with fail
  go_ret
  exact ⟨by rw [HE.out];rfl,ext_alloc (Below.refl _ _) _⟩
theorem lnA_last (enc:Int) (A:List Int):lnA enc A (spn enc A).b=⟨skA enc A (spn enc A).b,A.length,A.length,0⟩∧lnE enc A (spn enc A).b=0:=by
 have:=spn_nn enc A
 unfold lnA lnE lnK
 rw [if_neg (by omega),if_pos rfl,if_neg (by omega)]
 exact ⟨rfl,rfl⟩
theorem cnt_tl (enc:Int) (A:List Int):cnt enc A=if tl (spn enc A).b (skA enc A (spn enc A).b) A.length=true then (spn enc A).b else (spn enc A).b + 1:=by
 rw [cnt_tail]
 unfold tl
 simp only [decide_eq_true_eq]
set_option maxRecDepth 100000 in
theorem Count_z (enc:Int) (w:World) (t:Nat) (A:List Int) (h:Tz enc w t A):Calls Tryz.prog 9 #[.pointer (some ⟨t,0,none⟩)] w fun e w'=>e=.returned (.int .i64 (cnt enc A))∧Below w.heap.size w w':=by
 have hl:=h.len
 have HT:=hidIt h
 have LN:=hidIt (Len_z enc w t A h)
 have HC:=hidIt (cnt_tl enc A)
 obtain ⟨hA1,hA2⟩:=lnA_last enc A
 obtain ⟨B,hB⟩:∃ B:Nat,(spn enc A).b=B:=⟨(spn enc A).b.toNat,by have:=spn_nn enc A;omega⟩
 have hBl:B≤A.length:=by have:=spn_len enc A;omega
 have BR:Hid (∀ w',Below w.heap.size w w'→Calls Tryz.prog 33 #[.pointer (some ⟨t,0,none⟩),.int .i64 (A.length:Nat)] w' fun e w''=>e=.returned (.int .i64 (B:Nat))∧Below w'.heap.size w' w''):=fun w' hb=>by
  have:=Breaks_z enc w' t A (A.length:Nat) (HT.out.ext hb)
  rw [brk_at,bAt_len enc A _ (by simp),hB] at this
  exact this
 rw [hB] at hA1 hA2 HC
 have AT:Hid (∀ w',Below w.heap.size w w'→Calls Tryz.prog 17 #[.pointer (some ⟨t,0,none⟩),.int .i64 (B:Nat)] w' fun e w''=>e=.returned (.tuple #[.agg #[.int .i64 (skA enc A (B:Nat)),.int .i64 (A.length:Nat),.int .i64 (A.length:Nat),.int .i64 0],.int .i64 0])∧Below w'.heap.size w' w''):=fun w' hb=>by
  have:=At_z enc w' t A (B:Nat) (HT.out.ext hb)
  rwa [hA1,hA2] at this
 have IT:Hid (∀ w':World,Calls Tryz.prog 35 #[.int .i64 (B:Nat),.agg #[.int .i64 (skA enc A (B:Nat)),.int .i64 (A.length:Nat),.int .i64 (A.length:Nat),.int .i64 0]] w' fun e w''=>e=.returned (.bool (tl (B:Nat) (skA enc A (B:Nat)) A.length))∧Below w'.heap.size w' w''):=fun w'=>isTail_any _ _ _ w'
 have hw:IntKind.i64.wrap ((B:Int) + 1)=(B:Int) + 1:=by rw [IntKind.wrap_i64];omega
 generalize skA enc A (B:Nat)=f at *
 generalize htl:tl (B:Nat) f A.length=q at *
 clear h hA1 hA2 hB htl
 cases q with
 | true =>
   go_enter Tryz.func9,Tryz.ntmps9
   go_wp2_with (first
    | (go_at_call 34;refine LN.out.mono ?_;rintro e w1 ⟨rfl,hb⟩;have HB1:=hidIt hb;clear hb;(try dsimp only))
    | (go_at_call 33;refine (BR.out _ HB1.out).mono ?_;rintro e w2 ⟨rfl,hb⟩;have HB2:=hidIt (ext_trans HB1.out hb);clear hb;(try dsimp only))
    | (go_at_call 17;refine (AT.out _ HB2.out).mono ?_;rintro e w3 ⟨rfl,hb⟩;have HB3:=hidIt (ext_trans HB2.out hb);clear hb;(try dsimp only))
    | (go_at_call 35;refine (IT.out _).mono ?_;rintro e w4 ⟨rfl,hb⟩;have HB4:=hidIt (ext_trans (ext_trans HB3.out (ext_alloc (Below.refl _ _) _)) hb);clear hb;(try dsimp only)))
   go_ret
   exact ⟨by rw [HC.out];rfl,HB4.out⟩
 | false =>
   go_enter Tryz.func9,Tryz.ntmps9
   go_wp2_with (first
    | (go_at_call 34;refine LN.out.mono ?_;rintro e w1 ⟨rfl,hb⟩;have HB1:=hidIt hb;clear hb;(try dsimp only))
    | (go_at_call 33;refine (BR.out _ HB1.out).mono ?_;rintro e w2 ⟨rfl,hb⟩;have HB2:=hidIt (ext_trans HB1.out hb);clear hb;(try dsimp only))
    | (go_at_call 17;refine (AT.out _ HB2.out).mono ?_;rintro e w3 ⟨rfl,hb⟩;have HB3:=hidIt (ext_trans HB2.out hb);clear hb;(try dsimp only))
    | (go_at_call 35;refine (IT.out _).mono ?_;rintro e w4 ⟨rfl,hb⟩;have HB4:=hidIt (ext_trans (ext_trans HB3.out (ext_alloc (Below.refl _ _) _)) hb);clear hb;(try dsimp only)))
   go_ret
   exact ⟨by rw [HC.out];rfl,HB4.out⟩
theorem Of_z (enc:Int) (w:World) (t:Nat) (A:List Int) (z:Int) (h:Tz enc w t A):Calls Tryz.prog 21 #[.pointer (some ⟨t,0,none⟩),.int .i64 z] w fun e w'=>e=.returned (.int .i64 (brk enc A z))∧Below w.heap.size w w':=by
 have BR:=hidIt (Breaks_z enc w t A z h)
 clear h
 go_enter Tryz.func21,Tryz.ntmps21
 go_wp2_with (go_at_call 33;refine BR.out.mono ?_;rintro e w2 ⟨rfl,hb⟩;have HB2:=hidIt hb;clear hb;(try dsimp only))
 go_ret
 exact ⟨rfl,HB2.out⟩
end Go.Proofs.YthhogjkicgiliaaGreat.P

namespace Go.Proofs.YthhogjkicgiliaaGreat.P
open Go.RowKit
structure Opv where
 who:Int
 k:Int
 a:Int
 b:Int
 put:List Int
def Opv.val (o:Opv) (v:Value):Value:=.agg #[.int .i64 o.who,.int .i64 o.k,.int .i64 o.a,.int .i64 o.b,v]
structure Opv.Ok (o:Opv):Prop where
 a:-9223372036854775808≤o.a∧o.a≤9223372036854775807
 b:-9223372036854775808≤o.b∧o.b≤9223372036854775807
 z:o.put.length * 8≤140737488351232
def StO (enc:Int) (w:World) (g t m:Nat) (w':World):Prop:=(∃ A',BtW enc w' g t A' (m + 1))∧Kps (fun k=>k=g∨k=t) w w'
theorem StO.of {enc:Int} {w w':World} {g t:Nat} {A:List Int} {m:Nat} (h:BtW enc w g t A m) (hb:Below w.heap.size w w'):StO enc w g t m w':=by
 have h1:=h.ext hb
 exact ⟨⟨A,h1.ex,h1.tz,by have:=h1.bd;omega,h1.en⟩,Kps.of_below _ hb⟩
end Go.Proofs.YthhogjkicgiliaaGreat.P

namespace Go.Proofs.YthhogjkicgiliaaGreat.P
open Go.RowKit
theorem Tz.kps {enc:Int} {w w':World} {t:Nat} {A:List Int} {own:Nat→Prop} (h:Tz enc w t A) (hk:Kps own w w') (h1:∀ k,own k→¬ Typ 5 w k∧¬ Typ 152 w k) (h2:¬ own t):Tz enc w' t A:=by
 obtain ⟨L,ps,k1,k2⟩:=h
 obtain ⟨lv,u,q1,q2,q3⟩:=k1.ex
 refine ⟨L,ps,⟨⟨lv,u,(hk.same t (Array.getElem?_eq_some_iff.1 q1).1 h2).trans q1,q2.same ?_,q3.same ?_⟩,k1.pc.same ?_,k1.en,k1.by',k1.ll,k1.l0,k1.lm,k1.sz⟩,k2⟩
 ·exact fun b hb=>hk.same b hb.lt (fun e=>(h1 b e).1 hb)
 ·exact fun b hb=>hk.same b hb.lt (fun e=>(h1 b e).2 hb)
 ·exact fun b hb=>hk.same b hb.lt (fun e=>(h1 b e).1 hb)
theorem OwnI.kps2 {w w':World} {base:Nat} {v:Value} {zs:List Int} {own:Nat→Prop} (h:OwnI w base v zs) (hk:Kps own w w') (h1:∀ k,own k→¬ Typ 3 w k):OwnI w' base v zs:=by
 obtain ⟨k1,h2⟩:=id h
 refine ⟨k1,?_⟩
 rcases h2 with h2 | ⟨k,cap,cur,hv,hb,hgg,r⟩
 ·exact .inl h2
 ·exact .inr ⟨k,cap,cur,hv,hb,(hk.same k (Array.getElem?_eq_some_iff.1 hgg).1 (fun e=>h1 k e ⟨_,hgg⟩)).trans hgg,r⟩
theorem BtW.oth {enc enc':Int} {w w':World} {g t g' t':Nat} {A A':List Int} {m m':Nat} (h:BtW enc w g t A m) (h':BtW enc' w g' t' A' m') (hk:Kps (fun k=>k=g'∨k=t') w w') (h1:g≠g') (h2:t≠t'):BtW enc w' g t A (m + 1):=by
 have a1:=h.typ
 have a2:=h.tz.typ
 have b1:=h'.typ
 have b2:=h'.tz.typ
 obtain ⟨v,q1,q2⟩:=h.ex
 refine ⟨⟨v,(hk.same g h.lt ?_).trans q1,q2.kps2 hk ?_⟩,h.tz.kps hk ?_ ?_,by have:=h.bd;omega,h.en⟩
 ·rintro (e | e)
  ·exact h1 e
  ·subst e;exact absurd (a1.uniq b2) (by decide)
 ·rintro k (rfl | rfl) e
  ·exact absurd (b1.uniq e) (by decide)
  ·exact absurd (b2.uniq e) (by decide)
 ·rintro k (rfl | rfl)
  ·exact ⟨fun e=>absurd (b1.uniq e) (by decide),fun e=>absurd (b1.uniq e) (by decide)⟩
  ·exact ⟨fun e=>absurd (b2.uniq e) (by decide),fun e=>absurd (b2.uniq e) (by decide)⟩
 ·rintro (e | e)
  ·subst e;exact absurd (a2.uniq b1) (by decide)
  ·exact h2 e
def RdO (w:World) (v:Value) (os:List Opv):Prop:=∃ ao cap,v=.slice ao os.length cap∧os.length≤cap∧cap≤9223372036854775807∧(∀ o ∈ os,o.Ok)∧(os≠[]→∃ b off,ao=some ⟨b,off,none⟩∧b < w.heap.size∧∀ i o,os[i]?=some o →
 w.cell? ⟨b,off + i * 5,none⟩=some (.int .i64 o.who)∧w.cell? ⟨b,off + i * 5 + 1,none⟩=some (.int .i64 o.k)∧w.cell? ⟨b,off + i * 5 + 2,none⟩=some (.int .i64 o.a)∧w.cell? ⟨b,off + i * 5 + 3,none⟩=some (.int .i64 o.b)∧∃ pv,w.cell? ⟨b,off + i * 5 + 4,none⟩=some pv∧Rd .i64 w pv o.put)
theorem RdO.ext {w w':World} {v:Value} {os:List Opv} (h:RdO w v os) (hb:Below w.heap.size w w'):RdO w' v os:=by
 obtain ⟨ao,cap,h1,h2,h3,h4,h5⟩:=h
 refine ⟨ao,cap,h1,h2,h3,h4,fun hn=>?_⟩
 obtain ⟨b,o,k1,k2,k3⟩:=h5 hn
 refine ⟨b,o,k1,Nat.lt_of_lt_of_le k2 hb.size,fun i x hx=>?_⟩
 obtain ⟨c0,c1,c2,c3,pv,c4,c5⟩:=k3 i x hx
 exact ⟨(hb.cell (p:=⟨b,_,none⟩) k2).trans c0,(hb.cell (p:=⟨b,_,none⟩) k2).trans c1,(hb.cell (p:=⟨b,_,none⟩) k2).trans c2,(hb.cell (p:=⟨b,_,none⟩) k2).trans c3,pv,(hb.cell (p:=⟨b,_,none⟩) k2).trans c4,c5.ext hb⟩
end Go.Proofs.YthhogjkicgiliaaGreat.P

namespace Go.Proofs.YthhogjkicgiliaaGreat
open Go.ChangeShapes Go.WideShapes Go.ChangeAt Go.RowKit
theorem cSl:Tryz.prog.cellsOf 27=1:=by kernel_rfl
theorem cSb:Tryz.prog.cellsOf 22=1:=by kernel_rfl
theorem cIn:Tryz.prog.cellsOf 3=1:=by kernel_rfl
theorem cOp:Tryz.prog.cellsOf 38=5:=by kernel_rfl
theorem cSt:Tryz.prog.cellsOf 24=2:=by kernel_rfl
theorem weights_elem {H:Type} {P:Program} {e:TypeId}:∀ {l:List (DataW H)} {d:DataW H},d ∈ l→∀ n ∈ d.weights P e,n ∈ DataW.weightsAll P e l
 | x :: l,d,h,n,hn=>by
   simp only [DataW.weightsAll,List.mem_append]
   rcases List.mem_cons.1 h with rfl | h
   ·exact Or.inl hn
   ·exact Or.inr (weights_elem h n hn)
theorem weights_slice {H:Type} {P:Program} {t e:TypeId} {el sp:List (DataW H)} {d:DataW H} (hu:P.underlying t=some (.slice e)) (h:d ∈ el):∀ n ∈ d.weights P e,n ∈ (DataW.slice el sp).weights P t:=by
 intro n hn
 simp only [DataW.weights,hu,List.mem_cons,List.mem_append]
 exact Or.inr (Or.inl (weights_elem h n hn))
theorem weights_part {H:Type} {P:Program} {t:TypeId} {fs:Array Field} {parts:List (DataW H)} {d:DataW H} (hu:P.underlying t=some (.struct fs)) {j:Nat} {f:Field} (hf:fs[j]?=some f) (hd:parts[j]?=some d):∀ n ∈ d.weights P f.type,n ∈ (DataW.agg parts).weights P t:=by
 intro n hn
 simp only [DataW.weights,hu]
 exact DataW.weights_mem_each (j:=j) (by simp [hf]) hd n hn
theorem inner_of {H:Type} {enc:TypeId × Value→H} {W:World} {fuel:Nat} {c:Value} {d:DataW H} {p:List MemPlace}
  (h:DataW.trod enc Tryz.prog W 0 (fun _=>true) true fuel 27 [c]=some (d,p)) :
  ∃ ao cap zs,c=.slice ao zs.length cap∧Rd .i64 W (.slice ao zs.length cap) zs∧(zs=[]∨∃ el sp,d=.slice el sp∧el.length=zs.length):=by
 have hs:∃ ao len cap,c=.slice ao len cap:=by
  rcases DataW.trod_slice Tryz.underlying27 h with ⟨hcs,_⟩ | ⟨x,l,k,elems,rest,n,_,hcs,_⟩
  ·exact ⟨none,0,0,by simpa using hcs⟩
  ·exact ⟨some x,l,k,by simpa using hcs⟩
 obtain ⟨ao,len,cap,rfl⟩:=hs
 obtain ⟨zs,hr,_,hd⟩:=rd_of (enc:=enc) (d:=d) (p:=p) Tryz.underlying27 Tryz.underlying3 (by kernel_rfl) ⟨fuel,by simpa [Value.cells] using h⟩
 obtain ⟨ao',cap',hv,r1,r2,r3⟩:=id hr
 simp only [Value.slice.injEq] at hv
 obtain ⟨rfl,rfl,rfl⟩:=hv
 exact ⟨ao,cap,zs,rfl,hr,hd⟩
theorem inner_bound {H:Type} {zs:List Int} {d:DataW H} (hd:zs=[]∨∃ el sp,d=DataW.slice el sp∧el.length=zs.length) (hw:∀ n ∈ d.weights Tryz.prog 27,n≤reachBytes):zs.length * 8≤140737488351232:=by
 rcases hd with rfl | ⟨el,sp,rfl,hel⟩
 ·simp
 ·have:=hw ((el.length + sp.length) * Tryz.prog.bytesOf 3) (by simp [DataW.weights,Tryz.underlying27])
  rw [bytesK_i64] at this
  simp only [reachBytes] at this
  omega
set_option maxRecDepth 100000 in
theorem start_of {H:Type} {enc:TypeId × Value→H} {W:World} {base:Nat} {v:Value} {d:DataW H} {p:List MemPlace} (hv:Value.okWide Tryz.prog W .any base 24 v)
  (h:DataW.Trod enc Tryz.prog W 0 (fun _=>true) true 24 v d p):∃ x ad nd cd D,v=.agg #[.int .i64 x,.slice ad nd cd]∧Rd .u8 W (.slice ad nd cd) D∧Byt D:=by
 obtain ⟨cs,rfl,hs⟩:=okWide_struct Tryz.underlying24 hv
 obtain ⟨fuel,hf⟩:=h
 have hc:(Value.agg cs).cells=cs:=by simp [Value.cells]
 rw [hc] at hf
 obtain ⟨xs,n,rfl,hx,hl,hxl,hall⟩:=DataW.trod_struct Tryz.underlying24 hf
 match xs,hxl with
 | [x0,x1],_ =>
   obtain ⟨k0,e0,r0,w0⟩:=DataW.trod_int Tryz.underlying3 (hall 0 _ rfl)
   have h1:=hall 1 _ rfl
   have e0':(cs.toList.drop 0).take (Tryz.prog.cellsOf 3)=[.int .i64 k0]:=e0
   have h1':DataW.trod enc Tryz.prog W 0 (fun _=>true) true n 22 ((cs.toList.drop 1).take (Tryz.prog.cellsOf 22))=some x1:=h1
   rw [cSt] at hl
   rw [cIn] at e0'
   rw [cSb] at h1'
   obtain ⟨l⟩:=cs
   match l,hl with
   | [c0,c1],_ =>
     simp at e0'
     subst e0'
     simp only [List.drop_succ_cons,List.drop_zero,List.take_succ_cons,List.take_zero] at h1'
     have hsl:∃ ao len cap,c1=.slice ao len cap:=by
      rcases DataW.trod_slice Tryz.underlying22 h1' with ⟨hcs,_⟩ | ⟨x,l,k,elems,rest,n,_,hcs,_⟩
      ·exact ⟨none,0,0,by simpa using hcs⟩
      ·exact ⟨some x,l,k,by simpa using hcs⟩
     obtain ⟨ao,len,cap,rfl⟩:=hsl
     obtain ⟨zs,hr,hw,_⟩:=rd_of (enc:=enc) (d:=x1.1) (p:=x1.2) Tryz.underlying22 Tryz.underlying5 (by kernel_rfl) ⟨n,by simpa [Value.cells] using h1'⟩
     exact ⟨k0,ao,len,cap,zs,rfl,hr,byt_of hw⟩
structure OpAt (w:World) (f:Nat→Option Value) (o:P.Opv):Prop where
 c0:f 0=some (.int .i64 o.who)
 c1:f 1=some (.int .i64 o.k)
 c2:f 2=some (.int .i64 o.a)
 c3:f 3=some (.int .i64 o.b)
 c4:∃ pv,f 4=some pv∧Rd .i64 w pv o.put
 ok:o.Ok
set_option maxRecDepth 100000 in
theorem op_cells {H:Type} {enc:TypeId × Value→H} {w:World} {fuel:Nat} {cs:List Value} {d:DataW H} {p:List MemPlace}
  (h:DataW.trod enc Tryz.prog w 0 (fun _=>true) true fuel 38 cs=some (d,p)) (hw:∀ n ∈ d.weights Tryz.prog 38,n≤reachBytes) :
  ∃ o:P.Opv,OpAt w (fun i=>cs[i]?) o:=by
 obtain ⟨xs,n,rfl,hx,hl,hxl,hall⟩:=DataW.trod_struct Tryz.underlying38 h
 match xs,hxl with
 | [x0,x1,x2,x3,x4],_ =>
   obtain ⟨k0,e0,r0,w0⟩:=DataW.trod_int Tryz.underlying3 (hall 0 _ rfl)
   obtain ⟨k1,e1,r1,w1⟩:=DataW.trod_int Tryz.underlying3 (hall 1 _ rfl)
   obtain ⟨k2,e2,r2,w2⟩:=DataW.trod_int Tryz.underlying3 (hall 2 _ rfl)
   obtain ⟨k3,e3,r3,w3⟩:=DataW.trod_int Tryz.underlying3 (hall 3 _ rfl)
   have h4:=hall 4 _ rfl
   have e0':(cs.drop 0).take (Tryz.prog.cellsOf 3)=[.int .i64 k0]:=e0
   have e1':(cs.drop 1).take (Tryz.prog.cellsOf 3)=[.int .i64 k1]:=e1
   have e2':(cs.drop 2).take (Tryz.prog.cellsOf 3)=[.int .i64 k2]:=e2
   have e3':(cs.drop 3).take (Tryz.prog.cellsOf 3)=[.int .i64 k3]:=e3
   have h4':DataW.trod enc Tryz.prog w 0 (fun _=>true) true n 27 ((cs.drop 4).take (Tryz.prog.cellsOf 27))=some x4:=h4
   rw [cOp] at hl
   rw [cIn] at e0' e1' e2' e3'
   rw [cSl] at h4'
   match cs,hl with
   | [c0,c1,c2,c3,c4],_ =>
     simp at e0' e1' e2' e3'
     subst e0';subst e1';subst e2';subst e3'
     simp only [List.drop_succ_cons,List.drop_zero,List.take_succ_cons,List.take_zero] at h4'
     obtain ⟨ai,ci,zs,rfl,hr,hd⟩:=inner_of (d:=x4.1) (p:=x4.2) h4'
     have q2:=bounds_i64 w2
     have q3:=bounds_i64 w3
     refine ⟨⟨k0,k1,k2,k3,zs⟩,rfl,rfl,rfl,rfl,⟨_,rfl,hr⟩,⟨by dsimp only;omega,by dsimp only;omega,inner_bound hd ?_⟩⟩
     intro m hm
     refine hw m ?_
     obtain ⟨rfl,_⟩:=Prod.mk.inj hx
     exact weights_part (t:=38) (j:=4) Tryz.underlying38 rfl (d:=x4.1) rfl m hm
set_option maxRecDepth 100000 in
theorem ops_of {H:Type} {enc:TypeId × Value→H} {W:World} {a0:Option Addr} {len0 cap0:Nat} {d:DataW H} {p:List MemPlace}
  (h:DataW.Trod enc Tryz.prog W 0 (fun _=>true) true 25 (.slice a0 len0 cap0) d p) (hw:∀ n ∈ d.weights Tryz.prog 25,n≤reachBytes) :
  ∃ os,P.RdO W (.slice a0 len0 cap0) os:=by
 obtain ⟨fuel,hf⟩:=h
 rcases DataW.trod_slice Tryz.underlying25 hf with ⟨hcs,_⟩ | ⟨x,l,c,elems,rest,n,_,hcs,hx,hb,hl,hm,hlen,hel,_,_⟩
 ·simp [Value.cells] at hcs
  obtain ⟨rfl,rfl,rfl⟩:=hcs
  exact ⟨[],none,0,rfl,Nat.le_refl _,by omega,(fun o ho=>by cases ho),fun h=>absurd rfl h⟩
 ·simp [Value.cells] at hcs
  obtain ⟨rfl,rfl,rfl⟩:=hcs
  rw [cOp] at hel
  obtain ⟨rfl,_⟩:=Prod.mk.inj hx
  obtain ⟨b,off,spot⟩:=x
  have each:∀ i,∃ o:P.Opv,i < len0→OpAt W (fun j=>W.cell? (((⟨b,off,spot⟩:Addr).add (i * 5)).add j)) o:=by
   intro i
   by_cases hi:i < len0
   ·have hi':i < elems.length:=by omega
    have:=hel i hi
    rw [List.getElem?_eq_getElem hi',Option.bind_eq_some_iff] at this
    obtain ⟨cs,hcs,hy⟩:=this
    obtain ⟨o,ho⟩:=op_cells (d:=elems[i].1) (p:=elems[i].2) hy (fun m hm=>hw m (weights_slice Tryz.underlying25 (List.mem_map.2 ⟨elems[i],List.getElem_mem hi',rfl⟩) m hm))
    have hcell:=(World.cells?_some hcs).2.2
    obtain ⟨pv,h1,h2⟩:=ho.c4
    exact ⟨o,fun _=>⟨(hcell 0 (by omega)).trans ho.c0,(hcell 1 (by omega)).trans ho.c1,(hcell 2 (by omega)).trans ho.c2,(hcell 3 (by omega)).trans ho.c3,⟨pv,(hcell 4 (by omega)).trans h1,h2⟩,ho.ok⟩⟩
   ·exact ⟨⟨0,0,0,0,[]⟩,fun h=>absurd h hi⟩
  obtain ⟨f,hf'⟩:=Classical.skolem.1 each
  have hlr:((List.range len0).map f).length=len0:=by simp
  refine ⟨(List.range len0).map f,some ⟨b,off,spot⟩,cap0,by rw [hlr],by rw [hlr];exact hl,by unfold maxLen at hm;exact hm,fun o ho=>?_,fun hn=>?_⟩
  ·rw [List.mem_map] at ho
   obtain ⟨i,hi,rfl⟩:=ho
   exact (hf' i (List.mem_range.1 hi)).ok
  ·have hpos:0 < len0:=by rw [← hlr];exact List.length_pos_iff.2 hn
   have hs:spot=none:=by simpa [Addr.add] using World.cell?_spot (hf' 0 hpos).c0
   subst hs
   refine ⟨b,off,rfl,World.block_lt_of_cell? W _ (by simpa [Addr.add] using (hf' 0 hpos).c0),fun i e hie=>?_⟩
   have hi:i < len0:=by have:=(List.getElem?_eq_some_iff.1 hie).1;rwa [hlr] at this
   have e1:e=f i:=by rw [List.getElem?_map,List.getElem?_range hi] at hie;simpa using hie.symm
   subst e1
   have:=hf' i hi
   simp only [Addr.add_lit] at this
   exact ⟨this.c0,this.c1,this.c2,this.c3,this.c4⟩
end Go.Proofs.YthhogjkicgiliaaGreat
