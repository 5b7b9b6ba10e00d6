import Derived.Test.YtgfdfajblidleaaGreatK23
import Derived.ProofKit
import Derived.OpenShut
import Derived.ChangeOld
import Derived.SizedLaws
import Derived.Below
set_option maxRecDepth 100000
namespace Go.Proofs.YtgfdfajblidleaaGreat.P
open Go.RowKit
theorem width_any (k:Int) (w:World):Calls Tryz.prog 42 #[.int .i64 k] w fun e w'=>e=.returned (.int .i64 (wid k))∧w'=w:=by
 by_cases h:k=2
 ·subst h
  go_enter Tryz.func42,Tryz.ntmps42
  go_wp2_with fail
  go_ret
  exact ⟨rfl,rfl⟩
 ·have e:wid k=1:=by unfold wid;rw [if_neg h]
  have hb:(k == 2)=false:=by simp [h]
  rw [e]
  clear e
  go_enter Tryz.func42,Tryz.ntmps42
  go_wp2_with fail
  go_ret
  exact ⟨rfl,rfl⟩
theorem sub_ahead (A:List Int) (p:Nat) (h1:1≤p) (h2:p≤A.length):∃ y,A[p - 1]?=some y∧((p=1∧sub A ((p:Int) - 2) (p:Nat)=[y])∨(2≤p∧∃ x,A[p - 2]?=some x∧sub A ((p:Int) - 2) (p:Nat)=[x,y])):=by
 obtain ⟨y,hy⟩:∃ y,A[p - 1]?=some y:=⟨_,List.getElem?_eq_getElem (by omega)⟩
 refine ⟨y,hy,?_⟩
 by_cases hp:p=1
 ·subst hp
  refine .inl ⟨rfl,?_⟩
  unfold sub clp
  rw [if_neg (by omega)]
  simp only
  rw [show (max (((1:Nat):Int) - 2) 0).toNat=0 by omega,show (min ((1:Nat):Int) (A.length:Int)).toNat - 0=1 by omega,drop_of hy]
  rfl
 ·obtain ⟨x,hx⟩:∃ x,A[p - 2]?=some x:=⟨_,List.getElem?_eq_getElem (by omega)⟩
  refine .inr ⟨by omega,x,hx,?_⟩
  unfold sub clp
  rw [if_neg (by omega)]
  simp only
  rw [show (max ((p:Int) - 2) 0).toNat=p - 2 by omega,show (min (p:Int) (A.length:Int)).toNat - (p - 2)=2 by omega,drop_of hx,show p - 2 + 1=p - 1 by omega,drop_of hy]
  rfl
theorem kindAhead_any (enc:Int) (w:World) (t:Nat) (A:List Int) (p:Nat) (h:Tz enc w t A) (h1:1≤p) (h2:p≤A.length):Calls Tryz.prog 41 #[.pointer (some ⟨t,0,none⟩),.int .i64 (p:Nat)] w fun e w'=>e=.returned (.int .i64 (knd A p))∧Below w.heap.size w w':=by
 have hlA:=h.len
 have w2:IntKind.i64.wrap ((p:Int) - 2)=(p:Int) - 2:=by rw [IntKind.wrap_i64];omega
 have AT:=zh (Atoms_z enc w t A ((p:Int) - 2) (p:Nat) h)
 obtain ⟨y,hy,hc⟩:=sub_ahead A p h1 h2
 rcases hc with ⟨hp,hs⟩ | ⟨hp,x,hx,hs⟩
 ·rw [hs] at AT
  by_cases q1:y=13
  ·have HE:=zh (show knd A p=3 by unfold knd;rw [if_pos (by rw [hy,q1])])
   rw [q1] at AT
   clear hy hs h h1 h2 hp q1
   go_enter Tryz.func41,Tryz.ntmps41
   go_wp2_with (go_at_call 19;refine AT.out.mono ?_;rintro e w1 ⟨v,rfl,ho,hb⟩;obtain ⟨g,cap,rfl,hg,hl,hm,hcc⟩:=OwnI.row ho (by simp);have c0:w1.cell? ⟨g,0,none⟩=some (.int .i64 13):=hcc 0 _ rfl;have HB:=zh hb;clear hb ho hcc;(try dsimp only [List.length_cons,List.length_nil,Nat.zero_add] at *))
   go_ret
   exact ⟨by rw [HE.out];rfl,HB.out⟩
  ·have HE:=zh (show knd A p=1 by unfold knd;rw [if_neg (by rw [hy];simpa using q1),if_neg (by omega)])
   have hyb:(y == 13)=false:=by simpa using q1
   clear hy hs h h1 h2 hp
   go_enter Tryz.func41,Tryz.ntmps41
   go_wp2_with (go_at_call 19;refine AT.out.mono ?_;rintro e w1 ⟨v,rfl,ho,hb⟩;obtain ⟨g,cap,rfl,hg,hl,hm,hcc⟩:=OwnI.row ho (by simp);have c0:w1.cell? ⟨g,0,none⟩=some (.int .i64 y):=hcc 0 _ rfl;have HB:=zh hb;clear hb ho hcc;(try dsimp only [List.length_cons,List.length_nil,Nat.zero_add] at *))
   go_ret
   exact ⟨by rw [HE.out];rfl,HB.out⟩
 ·rw [hs] at AT
  by_cases q1:y=13
  ·have HE:=zh (show knd A p=3 by unfold knd;rw [if_pos (by rw [hy,q1])])
   rw [q1] at AT
   clear hy hx hs h h1 h2 hp q1
   go_enter Tryz.func41,Tryz.ntmps41
   go_wp2_with (go_at_call 19;refine AT.out.mono ?_;rintro e w1 ⟨v,rfl,ho,hb⟩;obtain ⟨g,cap,rfl,hg,hl,hm,hcc⟩:=OwnI.row ho (by simp);have c0:w1.cell? ⟨g,0,none⟩=some (.int .i64 x):=hcc 0 _ rfl;have c1:w1.cell? ⟨g,1,none⟩=some (.int .i64 13):=hcc 1 _ rfl;have HB:=zh hb;clear hb ho hcc;(try dsimp only [List.length_cons,List.length_nil,Nat.zero_add] at *))
   go_ret
   exact ⟨by rw [HE.out];rfl,HB.out⟩
  ·have hyb:(y == 13)=false:=by simpa using q1
   by_cases q2:x=13
   ·have HE:=zh (show knd A p=2 by unfold knd;rw [if_neg (by rw [hy];simpa using q1),if_pos ⟨hp,by rw [hx,q2]⟩])
    rw [q2] at AT
    clear hy hx hs h h1 h2 hp q2
    go_enter Tryz.func41,Tryz.ntmps41
    go_wp2_with (go_at_call 19;refine AT.out.mono ?_;rintro e w1 ⟨v,rfl,ho,hb⟩;obtain ⟨g,cap,rfl,hg,hl,hm,hcc⟩:=OwnI.row ho (by simp);have c0:w1.cell? ⟨g,0,none⟩=some (.int .i64 13):=hcc 0 _ rfl;have c1:w1.cell? ⟨g,1,none⟩=some (.int .i64 y):=hcc 1 _ rfl;have HB:=zh hb;clear hb ho hcc;(try dsimp only [List.length_cons,List.length_nil,Nat.zero_add] at *))
    go_ret
    exact ⟨by rw [HE.out];rfl,HB.out⟩
   ·have HE:=zh (show knd A p=1 by unfold knd;rw [if_neg (by rw [hy];simpa using q1),if_neg (by rw [hx];simpa using fun _=>q2)])
    have hxb:(x == 13)=false:=by simpa using q2
    clear hy hx hs h h1 h2 hp
    go_enter Tryz.func41,Tryz.ntmps41
    go_wp2_with (go_at_call 19;refine AT.out.mono ?_;rintro e w1 ⟨v,rfl,ho,hb⟩;obtain ⟨g,cap,rfl,hg,hl,hm,hcc⟩:=OwnI.row ho (by simp);have c0:w1.cell? ⟨g,0,none⟩=some (.int .i64 x):=hcc 0 _ rfl;have c1:w1.cell? ⟨g,1,none⟩=some (.int .i64 y):=hcc 1 _ rfl;have HB:=zh hb;clear hb ho hcc;(try dsimp only [List.length_cons,List.length_nil,Nat.zero_add] at *))
    go_ret
    exact ⟨by rw [HE.out];rfl,HB.out⟩
set_option maxHeartbeats 4000000 in
theorem At_z (enc:Int) (w:World) (t:Nat) (A:List Int) (k:Int) (h:Tz enc w t A):Calls Tryz.prog 14 #[.pointer (some ⟨t,0,none⟩),.int .i64 k] w fun e w'=>e=.returned (.tuple #[.agg #[.int .i64 (lnA enc A k).f,.int .i64 (lnA enc A k).t,.int .i64 (lnA enc A k).n,.int .i64 (lnA enc A k).b],.int .i64 (lnE enc A k)])∧Below w.heap.size w w':=by
 obtain ⟨w0,hw0,kk0,hb0⟩:∃ w0,w0=w.alloc (.cells #[.int .i64 0,.int .i64 0,.int .i64 0,.int .i64 0] 50)∧w0.heap[w.heap.size]?=some (.cells #[.int .i64 0,.int .i64 0,.int .i64 0,.int .i64 0] 50 (0,0))∧Below w.heap.size w w0:=⟨_,rfl,heap_alloc_new _ _,zxa (Below.refl _ _) _⟩
 have hl:=h.len
 have HT:=zh (h.ext hb0)
 have HB0:=zh hb0
 have HK0:=zh kk0
 obtain ⟨B,hB⟩:∃ B:Nat,(spn enc A).b=B:=⟨(spn enc A).b.toNat,by have:=spn_nn enc A;omega⟩
 have hBl:B≤A.length:=by have:=spn_len enc A;omega
 have LN:=zh (Len_z enc w0 t A HT.out)
 have BR:Hid (∀ w',Below w0.heap.size w0 w'→Calls Tryz.prog 31 #[.pointer (some ⟨t,0,none⟩),.int .i64 (A.length:Nat)] w' fun e w''=>e=.returned (.int .i64 (B:Nat))∧Below w'.heap.size w' w''):=fun w' hb=>by
  have:=Breaks_z enc w' t A (A.length:Nat) (HT.out.ext hb)
  rw [brk_at,bAt_len enc A _ (by simp),hB] at this
  exact this
 have SK:Hid (∀ w' q,Below w0.heap.size w0 w'→Calls Tryz.prog 40 #[.pointer (some ⟨t,0,none⟩),.int .i64 q] w' fun e w''=>e=.returned (.int .i64 (skA enc A q))∧Below w'.heap.size w' w''):=fun w' q hb=>Seek_z enc w' t A q (HT.out.ext hb)
 have CL:Hid (∀ w1,Below w0.heap.size w0 w1→w1.heap[w.heap.size]?=some (.cells #[.int .i64 0,.int .i64 0,.int .i64 0,.int .i64 0] 50 (0,0))):=fun w1 hb=>(hb.block _ (Array.getElem?_eq_some_iff.1 HK0.out).1).trans HK0.out
 clear hb0 kk0 h
 by_cases h0:k < 0
 ·have HE:Hid (lnA enc A k=⟨0,0,0,0⟩∧lnE enc A k=2):=⟨by unfold lnA;rw [if_pos (.inl h0)],by unfold lnE;rw [if_pos (.inl h0)]⟩
  clear hB
  go_enter Tryz.func14,Tryz.ntmps14
  go_upto_region 1 with fail
  rw [← hw0]
  clear hw0
  go_upto_region 3 with (first
   | (go_at_call 32;refine LN.out.mono ?_;rintro e w1 ⟨rfl,hb⟩;have HB1:=zh hb;clear hb;(try dsimp only))
   | (go_at_call 31;refine (BR.out _ HB1.out).mono ?_;rintro e w2 ⟨rfl,hb⟩;have HB2:=zh (zxt HB1.out hb);clear hb;(try dsimp only)))
  obtain ⟨hlt,c0,c1,c2,c3,fz⟩:=cells4 (CL.out _ HB2.out)
  go_wp2_with fail
  exact bodyPost_ret (v:=.tuple #[.agg #[.int .i64 0,.int .i64 0,.int .i64 0,.int .i64 0],.int .i64 2]) (by simp [results,Tryz.results14,go_sem,c0,c1,c2,c3]) rfl ⟨by rw [HE.out.1,HE.out.2],below4 HB0.out (CL.out _ HB2.out) HB2.out _ _ _ _⟩
 by_cases h1:(B:Int) < k
 ·have HE:Hid (lnA enc A k=⟨0,0,0,0⟩∧lnE enc A k=2):=⟨by unfold lnA;rw [if_pos (.inr (by omega))],by unfold lnE;rw [if_pos (.inr (by omega))]⟩
  clear hB
  go_enter Tryz.func14,Tryz.ntmps14
  go_upto_region 1 with fail
  rw [← hw0]
  clear hw0
  go_upto_region 3 with (first
   | (go_at_call 32;refine LN.out.mono ?_;rintro e w1 ⟨rfl,hb⟩;have HB1:=zh hb;clear hb;(try dsimp only))
   | (go_at_call 31;refine (BR.out _ HB1.out).mono ?_;rintro e w2 ⟨rfl,hb⟩;have HB2:=zh (zxt HB1.out hb);clear hb;(try dsimp only)))
  obtain ⟨hlt,c0,c1,c2,c3,fz⟩:=cells4 (CL.out _ HB2.out)
  go_wp2_with fail
  exact bodyPost_ret (v:=.tuple #[.agg #[.int .i64 0,.int .i64 0,.int .i64 0,.int .i64 0],.int .i64 2]) (by simp [results,Tryz.results14,go_sem,c0,c1,c2,c3]) rfl ⟨by rw [HE.out.1,HE.out.2],below4 HB0.out (CL.out _ HB2.out) HB2.out _ _ _ _⟩
 have HE:Hid (lnA enc A k=lnK enc A k∧lnE enc A k=0):=⟨by unfold lnA;rw [if_neg (by omega)],by unfold lnE;rw [if_neg (by omega)]⟩
 obtain ⟨i,rfl⟩:∃ i:Nat,k=i:=⟨k.toNat,by omega⟩
 have hiB:i≤B:=by omega
 have S1:Hid (∀ w',Below w0.heap.size w0 w'→Calls Tryz.prog 40 #[.pointer (some ⟨t,0,none⟩),.int .i64 (i:Nat)] w' fun e w''=>e=.returned (.int .i64 (skA enc A (i:Nat)))∧Below w'.heap.size w' w''):=fun w' hb=>SK.out w' _ hb
 rcases Nat.lt_or_eq_of_le hiB with h2 | h2
 ·obtain ⟨p,hp,hp1,hp2,_⟩:=skA_at enc A ((i:Int) + 1) (by omega) (by omega)
  have HY:Hid (lnK enc A (i:Nat)=⟨skA enc A (i:Nat),(p:Nat) - wid (knd A p),(p:Nat),knd A p⟩):=by
   unfold Hid lnK
   rw [if_neg (by omega),hp]
   simp
  have hwd:1≤wid (knd A p)∧wid (knd A p)≤2:=by unfold wid;split <;> omega
  have S2:Hid (∀ w',Below w0.heap.size w0 w'→Calls Tryz.prog 40 #[.pointer (some ⟨t,0,none⟩),.int .i64 ((i:Int) + 1)] w' fun e w''=>e=.returned (.int .i64 (p:Nat))∧Below w'.heap.size w' w''):=fun w' hb=>by
   have:=SK.out w' ((i:Int) + 1) hb
   rwa [hp] at this
  have KA:Hid (∀ w',Below w0.heap.size w0 w'→Calls Tryz.prog 41 #[.pointer (some ⟨t,0,none⟩),.int .i64 (p:Nat)] w' fun e w''=>e=.returned (.int .i64 (knd A p))∧Below w'.heap.size w' w''):=fun w' hb=>kindAhead_any enc w' t A p (HT.out.ext hb) hp1 hp2
  have WD:Hid (∀ w',Calls Tryz.prog 42 #[.int .i64 (knd A p)] w' fun e w''=>e=.returned (.int .i64 (wid (knd A p)))∧w''=w'):=fun w'=>width_any _ w'
  have hwi:IntKind.i64.wrap ((i:Int) + 1)=(i:Int) + 1:=by rw [IntKind.wrap_i64];omega
  have hws:IntKind.i64.wrap ((p:Int) - wid (knd A p))=(p:Int) - wid (knd A p):=by rw [IntKind.wrap_i64];omega
  have hne:¬ ((i:Int)=(B:Int)):=by omega
  have hne':((i:Int) == (B:Int))=false:=by simp;omega
  generalize knd A p=kd at *
  generalize wid kd=wk at *
  generalize skA enc A (i:Nat)=f at *
  clear hB hp SK hwd
  go_enter Tryz.func14,Tryz.ntmps14
  go_upto_region 1 with fail
  rw [← hw0]
  clear hw0
  go_upto_region 3 with (first
   | (go_at_call 32;refine LN.out.mono ?_;rintro e w1 ⟨rfl,hb⟩;have HB1:=zh hb;clear hb;(try dsimp only))
   | (go_at_call 31;refine (BR.out _ HB1.out).mono ?_;rintro e w2 ⟨rfl,hb⟩;have HB2:=zh (zxt HB1.out hb);clear hb;(try dsimp only)))
  go_upto_region 6 with (go_at_call 40;refine (S1.out _ HB2.out).mono ?_;rintro e w3 ⟨rfl,hb⟩;have HB3:=zh (zxt HB2.out hb);clear hb;(try dsimp only))
  go_upto_region 9 with (go_at_call 40;refine (S2.out _ HB3.out).mono ?_;rintro e w4 ⟨rfl,hb⟩;have HB4:=zh (zxt HB3.out hb);clear hb;(try dsimp only))
  go_upto_region 10 with (go_at_call 41;refine (KA.out _ HB4.out).mono ?_;rintro e w5 ⟨rfl,hb⟩;have HB5:=zh (zxt HB4.out hb);clear hb;(try dsimp only))
  obtain ⟨hlt,c0,c1,c2,c3,fz⟩:=cells4 (CL.out _ HB5.out)
  go_wp2_with (go_at_call 42;refine (WD.out _).mono ?_;rintro e w6 ⟨rfl,hb⟩;subst hb;(try dsimp only))
  exact bodyPost_ret (v:=.tuple #[.agg #[.int .i64 f,.int .i64 ((p:Nat) - wk),.int .i64 (p:Nat),.int .i64 kd],.int .i64 0]) (by simp [results,Tryz.results14,go_sem,c0,c1,c2,c3]) rfl ⟨by rw [HE.out.1,HE.out.2,HY.out],below4 HB0.out (CL.out _ HB5.out) HB5.out _ _ _ _⟩
 ·subst h2
  have HY:Hid (lnK enc A (i:Nat)=⟨skA enc A (i:Nat),(A.length:Nat),(A.length:Nat),0⟩):=by
   unfold Hid lnK
   rw [if_pos hB.symm]
  generalize skA enc A (i:Nat)=f at *
  clear hB SK
  go_enter Tryz.func14,Tryz.ntmps14
  go_upto_region 1 with fail
  rw [← hw0]
  clear hw0
  go_upto_region 3 with (first
   | (go_at_call 32;refine LN.out.mono ?_;rintro e w1 ⟨rfl,hb⟩;have HB1:=zh hb;clear hb;(try dsimp only))
   | (go_at_call 31;refine (BR.out _ HB1.out).mono ?_;rintro e w2 ⟨rfl,hb⟩;have HB2:=zh (zxt HB1.out hb);clear hb;(try dsimp only)))
  go_upto_region 6 with (go_at_call 40;refine (S1.out _ HB2.out).mono ?_;rintro e w3 ⟨rfl,hb⟩;have HB3:=zh (zxt HB2.out hb);clear hb;(try dsimp only))
  obtain ⟨hlt,c0,c1,c2,c3,fz⟩:=cells4 (CL.out _ HB3.out)
  go_wp2_with fail
  exact bodyPost_ret (v:=.tuple #[.agg #[.int .i64 f,.int .i64 (A.length:Nat),.int .i64 (A.length:Nat),.int .i64 0],.int .i64 0]) (by simp [results,Tryz.results14,go_sem,c0,c1,c2,c3]) rfl ⟨by rw [HE.out.1,HE.out.2,HY.out],below4 HB0.out (CL.out _ HB3.out) HB3.out _ _ _ _⟩
open Go.RowKit
def tl (b f n:Int):Bool:=decide (0 < b∧f=n)
theorem isTail_any (b f n:Int) (w:World):Calls Tryz.prog 33 #[.int .i64 b,.agg #[.int .i64 f,.int .i64 n,.int .i64 n,.int .i64 0]] w fun e w'=>e=.returned (.bool (tl b f n))∧Below w.heap.size w w':=by
 by_cases h0:0 < b
 ·by_cases h1:f=n
  ·subst h1
   have HE:=zh (show tl b f f=true by unfold tl;simp [h0])
   go_enter Tryz.func33,Tryz.ntmps33
   go_wp2_with fail
   go_ret
   exact ⟨by rw [HE.out];rfl,zxa (Below.refl _ _) _⟩
  ·have HE:=zh (show tl b f n=false by unfold tl;simp [h1])
   have hb1:(n == f)=false:=by simp;omega
   go_enter Tryz.func33,Tryz.ntmps33
   go_wp2_with fail
   go_ret
   exact ⟨by rw [HE.out];rfl,zxa (Below.refl _ _) _⟩
 ·have HE:=zh (show tl b f n=false by unfold tl;simp [h0])
  go_enter Tryz.func33,Tryz.ntmps33
  go_wp2_with fail
  go_ret
  exact ⟨by rw [HE.out];rfl,zxa (Below.refl _ _) _⟩
theorem lnA_last (enc:Int) (A:List Int):lnA enc A (spn enc A).b=⟨skA enc A (spn enc A).b,A.length,A.length,0⟩∧lnE enc A (spn enc A).b=0:=by
 have:=spn_nn enc A
 unfold lnA lnE lnK
 rw [if_neg (by omega),if_pos rfl,if_neg (by omega)]
 exact ⟨rfl,rfl⟩
theorem cnt_tl (enc:Int) (A:List Int):cnt enc A=if tl (spn enc A).b (skA enc A (spn enc A).b) A.length=true then (spn enc A).b else (spn enc A).b + 1:=by
 rw [cnt_tail]
 unfold tl
 simp only [decide_eq_true_eq]
theorem Count_z (enc:Int) (w:World) (t:Nat) (A:List Int) (h:Tz enc w t A):Calls Tryz.prog 6 #[.pointer (some ⟨t,0,none⟩)] w fun e w'=>e=.returned (.int .i64 (cnt enc A))∧Below w.heap.size w w':=by
 have hl:=h.len
 have HT:=zh h
 have LN:=zh (Len_z enc w t A h)
 have HC:=zh (cnt_tl enc A)
 obtain ⟨hA1,hA2⟩:=lnA_last enc A
 obtain ⟨B,hB⟩:∃ B:Nat,(spn enc A).b=B:=⟨(spn enc A).b.toNat,by have:=spn_nn enc A;omega⟩
 have hBl:B≤A.length:=by have:=spn_len enc A;omega
 have BR:Hid (∀ w',Below w.heap.size w w'→Calls Tryz.prog 31 #[.pointer (some ⟨t,0,none⟩),.int .i64 (A.length:Nat)] w' fun e w''=>e=.returned (.int .i64 (B:Nat))∧Below w'.heap.size w' w''):=fun w' hb=>by
  have:=Breaks_z enc w' t A (A.length:Nat) (HT.out.ext hb)
  rw [brk_at,bAt_len enc A _ (by simp),hB] at this
  exact this
 rw [hB] at hA1 hA2 HC
 have AT:Hid (∀ w',Below w.heap.size w w'→Calls Tryz.prog 14 #[.pointer (some ⟨t,0,none⟩),.int .i64 (B:Nat)] w' fun e w''=>e=.returned (.tuple #[.agg #[.int .i64 (skA enc A (B:Nat)),.int .i64 (A.length:Nat),.int .i64 (A.length:Nat),.int .i64 0],.int .i64 0])∧Below w'.heap.size w' w''):=fun w' hb=>by
  have:=At_z enc w' t A (B:Nat) (HT.out.ext hb)
  rwa [hA1,hA2] at this
 have IT:Hid (∀ w':World,Calls Tryz.prog 33 #[.int .i64 (B:Nat),.agg #[.int .i64 (skA enc A (B:Nat)),.int .i64 (A.length:Nat),.int .i64 (A.length:Nat),.int .i64 0]] w' fun e w''=>e=.returned (.bool (tl (B:Nat) (skA enc A (B:Nat)) A.length))∧Below w'.heap.size w' w''):=fun w'=>isTail_any _ _ _ w'
 have hw:IntKind.i64.wrap ((B:Int) + 1)=(B:Int) + 1:=by rw [IntKind.wrap_i64];omega
 generalize skA enc A (B:Nat)=f at *
 generalize htl:tl (B:Nat) f A.length=q at *
 clear h hA1 hA2 hB htl
 cases q with
 | true =>
   go_enter Tryz.func6,Tryz.ntmps6
   go_wp2_with (first
    | (go_at_call 32;refine LN.out.mono ?_;rintro e w1 ⟨rfl,hb⟩;have HB1:=zh hb;clear hb;(try dsimp only))
    | (go_at_call 31;refine (BR.out _ HB1.out).mono ?_;rintro e w2 ⟨rfl,hb⟩;have HB2:=zh (zxt HB1.out hb);clear hb;(try dsimp only))
    | (go_at_call 14;refine (AT.out _ HB2.out).mono ?_;rintro e w3 ⟨rfl,hb⟩;have HB3:=zh (zxt HB2.out hb);clear hb;(try dsimp only))
    | (go_at_call 33;refine (IT.out _).mono ?_;rintro e w4 ⟨rfl,hb⟩;have HB4:=zh (zxt (zxt HB3.out (zxa (Below.refl _ _) _)) hb);clear hb;(try dsimp only)))
   go_ret
   exact ⟨by rw [HC.out];rfl,HB4.out⟩
 | false =>
   go_enter Tryz.func6,Tryz.ntmps6
   go_wp2_with (first
    | (go_at_call 32;refine LN.out.mono ?_;rintro e w1 ⟨rfl,hb⟩;have HB1:=zh hb;clear hb;(try dsimp only))
    | (go_at_call 31;refine (BR.out _ HB1.out).mono ?_;rintro e w2 ⟨rfl,hb⟩;have HB2:=zh (zxt HB1.out hb);clear hb;(try dsimp only))
    | (go_at_call 14;refine (AT.out _ HB2.out).mono ?_;rintro e w3 ⟨rfl,hb⟩;have HB3:=zh (zxt HB2.out hb);clear hb;(try dsimp only))
    | (go_at_call 33;refine (IT.out _).mono ?_;rintro e w4 ⟨rfl,hb⟩;have HB4:=zh (zxt (zxt HB3.out (zxa (Below.refl _ _) _)) hb);clear hb;(try dsimp only)))
   go_ret
   exact ⟨by rw [HC.out];rfl,HB4.out⟩
theorem Of_z (enc:Int) (w:World) (t:Nat) (A:List Int) (z:Int) (h:Tz enc w t A):Calls Tryz.prog 18 #[.pointer (some ⟨t,0,none⟩),.int .i64 z] w fun e w'=>e=.returned (.int .i64 (brk enc A z))∧Below w.heap.size w w':=by
 have BR:=zh (Breaks_z enc w t A z h)
 clear h
 go_enter Tryz.func18,Tryz.ntmps18
 go_wp2_with (go_at_call 31;refine BR.out.mono ?_;rintro e w2 ⟨rfl,hb⟩;have HB2:=zh hb;clear hb;(try dsimp only))
 go_ret
 exact ⟨rfl,HB2.out⟩
open Go.RowKit
structure Opv where
 who:Int
 k:Int
 a:Int
 b:Int
 put:List Int
def Opv.val (o:Opv) (v:Value):Value:=.agg #[.int .i64 o.who,.int .i64 o.k,.int .i64 o.a,.int .i64 o.b,v]
structure Opv.Ok (o:Opv):Prop where
 a:-9223372036854775808≤o.a∧o.a≤9223372036854775807
 b:-9223372036854775808≤o.b∧o.b≤9223372036854775807
 z:o.put.length * 8≤140737488351232
def StO (enc:Int) (w:World) (g t m:Nat) (w':World):Prop:=(∃ A',BtW enc w' g t A' (m + 1))∧Kps (fun k=>k=g∨k=t) w w'
theorem cells5 {w:World} {b:Nat} {T:TypeId} {v0 v1 v2 v3 v4:Value} (h:w.heap[b]?=some (.cells #[v0,v1,v2,v3,v4] T (0,0))):b < w.heap.size∧w.cell? ⟨b,0,none⟩=some v0∧w.cell? ⟨b,1,none⟩=some v1∧w.cell? ⟨b,2,none⟩=some v2∧w.cell? ⟨b,3,none⟩=some v3∧w.cell? ⟨b,4,none⟩=some v4:=by
 refine ⟨(Array.getElem?_eq_some_iff.1 h).1,?_,?_,?_,?_,?_⟩ <;> (rw [cell_of_row _ _ _ _ _ _ h];rfl)
theorem OwnI.kps2 {w w':World} {base:Nat} {v:Value} {zs:List Int} {own:Nat→Prop} (h:OwnI w base v zs) (hk:Kps own w w') (h1:∀ k,own k→¬ Typ 3 w k):OwnI w' base v zs:=by
 obtain ⟨k1,h2⟩:=id h
 refine ⟨k1,?_⟩
 rcases h2 with h2 | ⟨k,cap,cur,hv,hb,hgg,r⟩
 ·exact .inl h2
 ·exact .inr ⟨k,cap,cur,hv,hb,(hk.same k (Array.getElem?_eq_some_iff.1 hgg).1 (fun e=>h1 k e ⟨_,hgg⟩)).trans hgg,r⟩
def RdO (w:World) (v:Value) (os:List Opv):Prop:=∃ ao cap,v=.slice ao os.length cap∧os.length≤cap∧cap≤9223372036854775807∧(∀ o ∈ os,o.Ok)∧(os≠[]→∃ b off,ao=some ⟨b,off,none⟩∧b < w.heap.size∧∀ i o,os[i]?=some o →
 w.cell? ⟨b,off + i * 5,none⟩=some (.int .i64 o.who)∧w.cell? ⟨b,off + i * 5 + 1,none⟩=some (.int .i64 o.k)∧w.cell? ⟨b,off + i * 5 + 2,none⟩=some (.int .i64 o.a)∧w.cell? ⟨b,off + i * 5 + 3,none⟩=some (.int .i64 o.b)∧∃ pv,w.cell? ⟨b,off + i * 5 + 4,none⟩=some pv∧Rd .i64 w pv o.put)
end Go.Proofs.YtgfdfajblidleaaGreat.P
namespace Go.Proofs.YtgfdfajblidleaaGreat
open Go.ChangeShapes Go.WideShapes Go.ChangeAt Go.RowKit
theorem ownK:ownKnob Tryz.prog.godebug=none:=by kernel_rfl
theorem laidOutK:laidOutB Tryz.prog=true:=by kernel_rfl
theorem rd_of {H:Type} {enc:TypeId × Value→H} {W:World} {t e:TypeId} {k:IntKind} {a0:Option Addr} {len0 cap0:Nat} {d:DataW H} {p:List MemPlace}
  (ht:Tryz.prog.underlying t=some (.slice e)) (he:Tryz.prog.underlying e=some (.int k)) (hc:Tryz.prog.cellsOf e=1)
  (h:DataW.Trod enc Tryz.prog W 0 (fun _=>true) true t (.slice a0 len0 cap0) d p) :
  ∃ zs,Rd k W (.slice a0 len0 cap0) zs∧(∀ n ∈ zs,(Lit.int k n).wf=true)∧(zs=[]∨∃ el sp,d=.slice el sp∧el.length=zs.length):=by
 obtain ⟨fuel,hf⟩:=h
 rcases open_ints ht he hc hf with ⟨hcs,_⟩ | ⟨x,l,c,zs,hcs,_,hl,hm,hz,hx,hcell,hwz⟩
 ·simp [Value.cells] at hcs
  obtain ⟨rfl,rfl,rfl⟩:=hcs
  exact ⟨[],⟨none,0,rfl,Nat.le_refl _,by simp [maxLen],fun h=>absurd rfl h⟩,by simp,.inl rfl⟩
 ·simp [Value.cells] at hcs
  obtain ⟨rfl,rfl,rfl⟩:=hcs
  simp at hz
  have hlen:(zs.take len0).length=len0:=by rw [List.length_take];omega
  refine ⟨zs.take len0,⟨some x,cap0,by rw [hlen],by omega,hm,fun hn=>?_⟩,fun n hn=>hwz n (List.mem_of_mem_take hn),.inr ⟨_,_,(Prod.mk.inj hx).1,by simp [lits]⟩⟩
  have hpos:0 < len0:=by
   rcases Nat.eq_zero_or_pos len0 with h | h
   ·subst h;simp at hn
   ·exact h
  obtain ⟨b,off,spot⟩:=x
  have hc0:=hcell 0 (by omega)
  have hspot:spot=none:=by simpa [Addr.add] using World.cell?_spot hc0
  subst hspot
  refine ⟨b,off,rfl,World.block_lt_of_cell? W _ (by simpa [Addr.add] using hc0),fun i hi=>?_⟩
  rw [hlen] at hi
  have:=hcell i (by omega)
  rw [Addr.add_lit] at this
  rw [this,List.getElem?_take,if_pos hi]
  simp [List.getD]
theorem byt_of {zs:List Int} (h:∀ n ∈ zs,(Lit.int .u8 n).wf=true):Byt zs:=by
 intro z hz
 have:=bounds_u8 (h z hz)
 omega
end Go.Proofs.YtgfdfajblidleaaGreat
namespace Go.Proofs.YtgfdfajblidleaaGreat
open Go.ChangeShapes Go.WideShapes Go.ChangeAt Go.RowKit
theorem cSl:Tryz.prog.cellsOf 27=1:=by kernel_rfl
theorem cSb:Tryz.prog.cellsOf 22=1:=by kernel_rfl
theorem cIn:Tryz.prog.cellsOf 3=1:=by kernel_rfl
theorem cOp:Tryz.prog.cellsOf 38=5:=by kernel_rfl
theorem cSt:Tryz.prog.cellsOf 24=2:=by kernel_rfl
theorem inner_of {H:Type} {enc:TypeId × Value→H} {W:World} {fuel:Nat} {c:Value} {d:DataW H} {p:List MemPlace}
  (h:DataW.trod enc Tryz.prog W 0 (fun _=>true) true fuel 27 [c]=some (d,p)) :
  ∃ ao cap zs,c=.slice ao zs.length cap∧Rd .i64 W (.slice ao zs.length cap) zs∧(zs=[]∨∃ el sp,d=.slice el sp∧el.length=zs.length):=by
 have hs:∃ ao len cap,c=.slice ao len cap:=by
  rcases DataW.trod_slice Tryz.underlying27 h with ⟨hcs,_⟩ | ⟨x,l,k,elems,rest,n,_,hcs,_⟩
  ·exact ⟨none,0,0,by simpa using hcs⟩
  ·exact ⟨some x,l,k,by simpa using hcs⟩
 obtain ⟨ao,len,cap,rfl⟩:=hs
 obtain ⟨zs,hr,_,hd⟩:=rd_of (enc:=enc) (d:=d) (p:=p) Tryz.underlying27 Tryz.underlying3 (by kernel_rfl) ⟨fuel,by simpa [Value.cells] using h⟩
 obtain ⟨ao',cap',hv,r1,r2,r3⟩:=id hr
 simp only [Value.slice.injEq] at hv
 obtain ⟨rfl,rfl,rfl⟩:=hv
 exact ⟨ao,cap,zs,rfl,hr,hd⟩
theorem start_of {H:Type} {enc:TypeId × Value→H} {W:World} {base:Nat} {v:Value} {d:DataW H} {p:List MemPlace} (hv:Value.okWide Tryz.prog W .any base 24 v)
  (h:DataW.Trod enc Tryz.prog W 0 (fun _=>true) true 24 v d p):∃ x ad nd cd D,v=.agg #[.int .i64 x,.slice ad nd cd]∧Rd .u8 W (.slice ad nd cd) D∧Byt D:=by
 obtain ⟨cs,rfl,hs⟩:=okWide_struct Tryz.underlying24 hv
 obtain ⟨fuel,hf⟩:=h
 have hc:(Value.agg cs).cells=cs:=by simp [Value.cells]
 rw [hc] at hf
 obtain ⟨xs,n,rfl,hx,hl,hxl,hall⟩:=DataW.trod_struct Tryz.underlying24 hf
 match xs,hxl with
 | [x0,x1],_ =>
   obtain ⟨k0,e0,r0,w0⟩:=DataW.trod_int Tryz.underlying3 (hall 0 _ rfl)
   have h1:=hall 1 _ rfl
   have e0':(cs.toList.drop 0).take (Tryz.prog.cellsOf 3)=[.int .i64 k0]:=e0
   have h1':DataW.trod enc Tryz.prog W 0 (fun _=>true) true n 22 ((cs.toList.drop 1).take (Tryz.prog.cellsOf 22))=some x1:=h1
   rw [cSt] at hl
   rw [cIn] at e0'
   rw [cSb] at h1'
   obtain ⟨l⟩:=cs
   match l,hl with
   | [c0,c1],_ =>
     simp at e0'
     subst e0'
     simp only [List.drop_succ_cons,List.drop_zero,List.take_succ_cons,List.take_zero] at h1'
     have hsl:∃ ao len cap,c1=.slice ao len cap:=by
      rcases DataW.trod_slice Tryz.underlying22 h1' with ⟨hcs,_⟩ | ⟨x,l,k,elems,rest,n,_,hcs,_⟩
      ·exact ⟨none,0,0,by simpa using hcs⟩
      ·exact ⟨some x,l,k,by simpa using hcs⟩
     obtain ⟨ao,len,cap,rfl⟩:=hsl
     obtain ⟨zs,hr,hw,_⟩:=rd_of (enc:=enc) (d:=x1.1) (p:=x1.2) Tryz.underlying22 Tryz.underlying5 (by kernel_rfl) ⟨n,by simpa [Value.cells] using h1'⟩
     exact ⟨k0,ao,len,cap,zs,rfl,hr,byt_of hw⟩
structure OpAt (w:World) (f:Nat→Option Value) (o:P.Opv):Prop where
 c0:f 0=some (.int .i64 o.who)
 c1:f 1=some (.int .i64 o.k)
 c2:f 2=some (.int .i64 o.a)
 c3:f 3=some (.int .i64 o.b)
 c4:∃ pv,f 4=some pv∧Rd .i64 w pv o.put
 ok:o.Ok
end Go.Proofs.YtgfdfajblidleaaGreat
namespace Go.Proofs.YtgfdfajblidleaaGreat.P
open Go.RowKit
theorem rep_map (n:Nat) (m:Int):(List.replicate n m).map (Value.int .i64)=List.replicate n (.int .i64 m):=by simp
theorem run_append_marks {P:Program} (w:World) (B:Nat) (t ty e:TypeId) (i:TypeInfo) (ht:P.underlying t=some (.slice e)) (hi:P.info? e=some i) (hz:i.zero=some (.int .i64 0)) (hsize:i.size=1) (hby:i.bytes=8) (he:e=3)
  (m:Int) (n j:Nat) (v:Value) (hown:OwnI w B v (List.replicate n m)) (a:Addr) (c:Nat) (hsrc:∀ k,k < j→w.cell? (a.add k)=some (.int .i64 m)) (hj:0 < j) (hn:n + j≤1000000000000) (hB:B≤w.heap.size) :
  ∃ v' w',(Builtin.append_ #[t,t] ty #[v,.slice (some a) j c]).run P w=.ok v' w'∧OwnI w' B v' (List.replicate (n + j) m)∧(∀ y k,OwnI w B y (List.replicate k m)→OwnI w' B y (List.replicate k m))∧w.grownBy w' v.ownBlock∧(v'.ownBlock=v.ownBlock∨v'.ownBlock=some w.heap.size):=by
 subst he
 have hnews:∀ q u,(List.replicate j (Value.int .i64 m))[q]?=some u→w.cell? (a.add q)=some u:=fun q u hq=>by
  have hql:q < j:=by have:=(List.getElem?_eq_some_iff.1 hq).1;simpa using this
  rw [hsrc q hql]
  rw [List.getElem?_replicate,if_pos hql] at hq
  exact hq
 have hone:∀ u ∈ List.replicate j (Value.int .i64 m),u.oneCell'=true:=fun u hu=>by
  rw [List.eq_of_mem_replicate hu];rfl
 have hown':w.ownsRow B 3 1 v n (List.replicate n (.int .i64 m)):=by
  have:=hown
  unfold OwnI at this
  rw [rep_map,List.length_replicate] at this
  exact this
 obtain ⟨v',w',hr,h2,h3,h4⟩:=run_append_blk (P:=P) w B t ty 3 i (.int .i64 0) 1 8 ht hi hz hsize hby rfl (by decide) v n _ hown' a j c (List.replicate j (.int .i64 m)) (by simp) hnews hone (by unfold maxLen;omega) (by omega) hB hj
 refine ⟨v',w',hr,?_,?_,h3,h4⟩
 ·unfold OwnI
  rw [rep_map,List.length_replicate]
  rw [List.replicate_append_replicate] at h2
  exact h2
 ·intro y k hy
  obtain ⟨y1,y2⟩:=hy
  refine ⟨y1,?_⟩
  rcases y2 with y2 | ⟨g,cap,cur,hv,hg1,hg2,hg3,hg4,hg5,hg6⟩
  ·exact .inl y2
  ·by_cases hvb:v.ownBlock=some g
   ·rcases hown'.2 with ⟨rfl,_⟩ | ⟨g',cap',cur',rfl,b1,b2,b3,b4,b5,b6⟩
    ·cases hvb
    ·have eg:g=g':=by cases hvb;rfl
     subst eg
     rw [hg2] at b2
     cases b2
     by_cases hroom:n + j≤cap'
     ·have hr2:=run_append_room (P:=P) w t ty 3 i ht hi g n cap' cur hg2 a j c (List.replicate j (.int .i64 m)) (by rw [hsize];simp) hnews hone hroom (by rw [hsize];simp;omega)
      rw [hsize,Nat.mul_one] at hr2
      rw [hr2] at hr
      cases hr
      refine .inr ⟨g,cap,_,hv,hg1,setRow_heap w g cur _ 3 _ hg2,hg3,hg4,?_,?_⟩
      ·simp only [List.size_toArray,List.length_append,List.length_take,List.length_drop,Array.length_toList,List.length_replicate]
       omega
      ·rw [rep_map,List.length_replicate] at *
       rw [Nat.mul_one] at *
       apply List.ext_getElem?
       intro q
       by_cases hq:q < k
       ·rw [List.getElem?_take_of_lt hq,List.getElem?_replicate,if_pos hq]
        have hcq:cur.toList[q]?=some (.int .i64 m):=by
         have:=congrArg (fun l=>l[q]?) hg6
         simp only [List.getElem?_take_of_lt hq,List.getElem?_replicate,if_pos hq] at this
         exact this
        have hql:=(List.getElem?_eq_some_iff.1 hcq).1
        rw [List.getElem?_append]
        have hn':min n cur.toList.length=n:=by simp;omega
        by_cases q1:q < n
        ·rw [if_pos (by rw [List.length_append,List.length_take,hn'];omega),List.getElem?_append,if_pos (by rw [List.length_take,hn'];exact q1),List.getElem?_take_of_lt q1]
         exact hcq
        ·by_cases q2:q < n + j
         ·rw [if_pos (by rw [List.length_append,List.length_take,hn',List.length_replicate];exact q2),List.getElem?_append,if_neg (by rw [List.length_take,hn'];exact q1),List.getElem?_replicate,if_pos (by rw [List.length_take,hn'];omega)]
         ·rw [if_neg (by rw [List.length_append,List.length_take,hn',List.length_replicate];exact q2),List.getElem?_drop]
          rw [← hcq]
          congr 1
          rw [List.length_append,List.length_take,hn',List.length_replicate]
          omega
       ·rw [List.getElem?_take_eq_none (by omega),List.getElem?_eq_none (by simp;omega)]
     ·have holds:∀ j u,(List.replicate n (Value.int .i64 m))[j]?=some u→w.cell? ((⟨g,0,none⟩:Addr).add j)=some u:=hown'.cells (g:=g) rfl
      have hr2:=run_append_grow (P:=P) w t ty 3 i (.int .i64 0) ht hi hz ⟨g,0,none⟩ n cap' _ (by rw [hsize];simp) holds a j c (List.replicate j (.int .i64 m)) (by rw [hsize];simp) hnews (by omega) (by omega) (by rw [hby];exact growslice_fits (by omega) (by omega))
      rw [hr2] at hr
      cases hr
      exact .inr ⟨g,cap,cur,hv,hg1,(heap_alloc_old w.drew _ (Array.getElem?_eq_some_iff.1 hg2).1).trans hg2,hg3,hg4,hg5,hg6⟩
   ·exact .inr ⟨g,cap,cur,hv,hg1,(h3.block g (Array.getElem?_eq_some_iff.1 hg2).1 (fun e=>hvb e.symm)).trans hg2,hg3,hg4,hg5,hg6⟩
section
variable {P:Program} {W:World} {ops:Array Oper} {rest:List Oper} {o:Oper} {a:Act} {Q:Exit→Act→World→Prop}
theorem wpl_marks (hgd:o.guard=none) (s x:Operand) (t:TypeId) (ho:o.op=.call { callee:=.builtin .append,args:=#[s,x],argTypes:=#[t,t] })
  (B:Nat) (hinf:(P.info? 3).map (fun i=>(i.zero,i.size,i.bytes))=some (some (.int .i64 0),1,8)) (ht:P.underlying t=some (.slice 3))
  (m:Int) (n j:Nat) (v:Value) (hs:a.eval s=v) (hown:OwnI W B v (List.replicate n m)) (sb c:Nat) (hx:a.eval x=.slice (some ⟨sb,0,none⟩) j c) (hsrc:∀ k,k < j→W.cell? ⟨sb,k,none⟩=some (.int .i64 m)) (hj:0 < j) (hn:n + j≤1000000000000) (hB:B≤W.heap.size)
  (h:∀ v' w',OwnI w' B v' (List.replicate (n + j) m)→(∀ y k,OwnI W B y (List.replicate k m)→OwnI w' B y (List.replicate k m))→W.grownBy w' v.ownBlock→(v'.ownBlock=v.ownBlock∨v'.ownBlock=some W.heap.size)→wpList P ops Q rest (a.put o.dst v') w'):wpList P ops Q (o :: rest) a W:=by
 obtain ⟨i0,hi,hz0,hz1,hz2⟩:=info_parts hinf
 obtain ⟨v',w',hrun,h1,h2,h3,h4⟩:=run_append_marks (P:=P) W B t o.type 3 i0 ht hi hz0 hz1 hz2 rfl m n j v hown ⟨sb,0,none⟩ c (fun k hk=>by rw [Addr.add_lit,Nat.zero_add];exact hsrc k hk) hj hn hB
 refine wpList_plain hgd fun K hK=>?_
 unfold Oper.wp execOp
 simp only [ho,resolve,invoke,builtin,Sem.run_bind,Sem.run_pure,Result.andThen_ok,List.map_toArray,List.map_cons,List.map_nil,hs,hx,hrun]
 exact hK _ _ (h v' w' h1 h2 h3 h4)
end
end Go.Proofs.YtgfdfajblidleaaGreat.P
