import Derived.Test.YtjomfbegghgbdaaGreatJ00
import Derived.Test.YtjomfbegghgbdaaGreatJ29
namespace Go.Proofs.YtjomfbegghgbdaaGreat.P
open Go.RowKit
theorem width_any (k:Int) (w:World):Calls Tryz.prog 63 #[.int .i64 k] w fun e w'=>e=.returned (.int .i64 (wid k))∧w'=w:=by
 by_cases h:k=2
 ·subst h
  go_enter Tryz.func63,Tryz.ntmps63
  go_wp2_with fail
  go_ret
  exact ⟨rfl,rfl⟩
 ·have e:wid k=1:=by unfold wid;rw [if_neg h]
  have hb:(k == 2)=false:=by simp [h]
  rw [e]
  clear e
  go_enter Tryz.func63,Tryz.ntmps63
  go_wp2_with fail
  go_ret
  exact ⟨rfl,rfl⟩
theorem sub_ahead (A:List Int) (p:Nat) (h1:1≤p) (h2:p≤A.length):∃ y,A[p - 1]?=some y∧((p=1∧sub A ((p:Int) - 2) (p:Nat)=[y])∨(2≤p∧∃ x,A[p - 2]?=some x∧sub A ((p:Int) - 2) (p:Nat)=[x,y])):=by
 obtain ⟨y,hy⟩:∃ y,A[p - 1]?=some y:=⟨_,List.getElem?_eq_getElem (by omega)⟩
 refine ⟨y,hy,?_⟩
 by_cases hp:p=1
 ·subst hp
  refine .inl ⟨rfl,?_⟩
  unfold sub clp
  rw [if_neg (by omega)]
  simp only
  rw [show (max (((1:Nat):Int) - 2) 0).toNat=0 by omega,show (min ((1:Nat):Int) (A.length:Int)).toNat - 0=1 by omega,drop_of hy]
  rfl
 ·obtain ⟨x,hx⟩:∃ x,A[p - 2]?=some x:=⟨_,List.getElem?_eq_getElem (by omega)⟩
  refine .inr ⟨by omega,x,hx,?_⟩
  unfold sub clp
  rw [if_neg (by omega)]
  simp only
  rw [show (max ((p:Int) - 2) 0).toNat=p - 2 by omega,show (min (p:Int) (A.length:Int)).toNat - (p - 2)=2 by omega,drop_of hx,show p - 2 + 1=p - 1 by omega,drop_of hy]
  rfl
set_option maxRecDepth 100000 in
theorem kindAhead_any (enc:Int) (w:World) (t:Nat) (A:List Int) (p:Nat) (h:Tz enc w t A) (h1:1≤p) (h2:p≤A.length):Calls Tryz.prog 62 #[.pointer (some ⟨t,0,none⟩),.int .i64 (p:Nat)] w fun e w'=>e=.returned (.int .i64 (knd A p))∧Below w.heap.size w w':=by
 have hlA:=h.len
 have w2:IntKind.i64.wrap ((p:Int) - 2)=(p:Int) - 2:=by rw [IntKind.wrap_i64];omega
 have AT:=hidIt (Atoms_z enc w t A ((p:Int) - 2) (p:Nat) h)
 obtain ⟨y,hy,hc⟩:=sub_ahead A p h1 h2
 rcases hc with ⟨hp,hs⟩ | ⟨hp,x,hx,hs⟩
 ·rw [hs] at AT
  by_cases q1:y=13
  ·have HE:=hidIt (show knd A p=3 by unfold knd;rw [if_pos (by rw [hy,q1])])
   rw [q1] at AT
   clear hy hs h h1 h2 hp q1
   go_enter Tryz.func62,Tryz.ntmps62
   go_wp2_with (go_at_call 32;refine AT.out.mono ?_;rintro e w1 ⟨v,rfl,ho,hb⟩;obtain ⟨g,cap,rfl,hg,hl,hm,hcc⟩:=OwnI.row ho (by simp);have c0:w1.cell? ⟨g,0,none⟩=some (.int .i64 13):=hcc 0 _ rfl;have HB:=hidIt hb;clear hb ho hcc;(try dsimp only [List.length_cons,List.length_nil,Nat.zero_add] at *))
   go_ret
   exact ⟨by rw [HE.out];rfl,HB.out⟩
  ·have HE:=hidIt (show knd A p=1 by unfold knd;rw [if_neg (by rw [hy];simpa using q1),if_neg (by omega)])
   have hyb:(y == 13)=false:=by simpa using q1
   clear hy hs h h1 h2 hp
   go_enter Tryz.func62,Tryz.ntmps62
   go_wp2_with (go_at_call 32;refine AT.out.mono ?_;rintro e w1 ⟨v,rfl,ho,hb⟩;obtain ⟨g,cap,rfl,hg,hl,hm,hcc⟩:=OwnI.row ho (by simp);have c0:w1.cell? ⟨g,0,none⟩=some (.int .i64 y):=hcc 0 _ rfl;have HB:=hidIt hb;clear hb ho hcc;(try dsimp only [List.length_cons,List.length_nil,Nat.zero_add] at *))
   go_ret
   exact ⟨by rw [HE.out];rfl,HB.out⟩
 ·rw [hs] at AT
  by_cases q1:y=13
  ·have HE:=hidIt (show knd A p=3 by unfold knd;rw [if_pos (by rw [hy,q1])])
   rw [q1] at AT
   clear hy hx hs h h1 h2 hp q1
   go_enter Tryz.func62,Tryz.ntmps62
   go_wp2_with (go_at_call 32;refine AT.out.mono ?_;rintro e w1 ⟨v,rfl,ho,hb⟩;obtain ⟨g,cap,rfl,hg,hl,hm,hcc⟩:=OwnI.row ho (by simp);have c0:w1.cell? ⟨g,0,none⟩=some (.int .i64 x):=hcc 0 _ rfl;have c1:w1.cell? ⟨g,1,none⟩=some (.int .i64 13):=hcc 1 _ rfl;have HB:=hidIt hb;clear hb ho hcc;(try dsimp only [List.length_cons,List.length_nil,Nat.zero_add] at *))
   go_ret
   exact ⟨by rw [HE.out];rfl,HB.out⟩
  ·have hyb:(y == 13)=false:=by simpa using q1
   by_cases q2:x=13
   ·have HE:=hidIt (show knd A p=2 by unfold knd;rw [if_neg (by rw [hy];simpa using q1),if_pos ⟨hp,by rw [hx,q2]⟩])
    rw [q2] at AT
    clear hy hx hs h h1 h2 hp q2
    go_enter Tryz.func62,Tryz.ntmps62
    go_wp2_with (go_at_call 32;refine AT.out.mono ?_;rintro e w1 ⟨v,rfl,ho,hb⟩;obtain ⟨g,cap,rfl,hg,hl,hm,hcc⟩:=OwnI.row ho (by simp);have c0:w1.cell? ⟨g,0,none⟩=some (.int .i64 13):=hcc 0 _ rfl;have c1:w1.cell? ⟨g,1,none⟩=some (.int .i64 y):=hcc 1 _ rfl;have HB:=hidIt hb;clear hb ho hcc;(try dsimp only [List.length_cons,List.length_nil,Nat.zero_add] at *))
    go_ret
    exact ⟨by rw [HE.out];rfl,HB.out⟩
   ·have HE:=hidIt (show knd A p=1 by unfold knd;rw [if_neg (by rw [hy];simpa using q1),if_neg (by rw [hx];simpa using fun _=>q2)])
    have hxb:(x == 13)=false:=by simpa using q2
    clear hy hx hs h h1 h2 hp
    go_enter Tryz.func62,Tryz.ntmps62
    go_wp2_with (go_at_call 32;refine AT.out.mono ?_;rintro e w1 ⟨v,rfl,ho,hb⟩;obtain ⟨g,cap,rfl,hg,hl,hm,hcc⟩:=OwnI.row ho (by simp);have c0:w1.cell? ⟨g,0,none⟩=some (.int .i64 x):=hcc 0 _ rfl;have c1:w1.cell? ⟨g,1,none⟩=some (.int .i64 y):=hcc 1 _ rfl;have HB:=hidIt hb;clear hb ho hcc;(try dsimp only [List.length_cons,List.length_nil,Nat.zero_add] at *))
    go_ret
    exact ⟨by rw [HE.out];rfl,HB.out⟩
set_option maxRecDepth 100000 in
set_option maxHeartbeats 4000000 in
theorem At_z (enc:Int) (w:World) (t:Nat) (A:List Int) (k:Int) (h:Tz enc w t A):Calls Tryz.prog 27 #[.pointer (some ⟨t,0,none⟩),.int .i64 k] w fun e w'=>e=.returned (.tuple #[.agg #[.int .i64 (lnA enc A k).f,.int .i64 (lnA enc A k).t,.int .i64 (lnA enc A k).n,.int .i64 (lnA enc A k).b],.int .i64 (lnE enc A k)])∧Below w.heap.size w w':=by
 obtain ⟨w0,hw0,kk0,hb0⟩:∃ w0,w0=w.alloc (.cells #[.int .i64 0,.int .i64 0,.int .i64 0,.int .i64 0] 50)∧w0.heap[w.heap.size]?=some (.cells #[.int .i64 0,.int .i64 0,.int .i64 0,.int .i64 0] 50 (0,0))∧Below w.heap.size w w0:=⟨_,rfl,heap_alloc_new _ _,ext_alloc (Below.refl _ _) _⟩
 have hl:=h.len
 have HT:=hidIt (h.ext hb0)
 have HB0:=hidIt hb0
 have HK0:=hidIt kk0
 obtain ⟨B,hB⟩:∃ B:Nat,(spn enc A).b=B:=⟨(spn enc A).b.toNat,by have:=spn_nn enc A;omega⟩
 have hBl:B≤A.length:=by have:=spn_len enc A;omega
 have LN:=hidIt (Len_z enc w0 t A HT.out)
 have BR:Hid (∀ w',Below w0.heap.size w0 w'→Calls Tryz.prog 52 #[.pointer (some ⟨t,0,none⟩),.int .i64 (A.length:Nat)] w' fun e w''=>e=.returned (.int .i64 (B:Nat))∧Below w'.heap.size w' w''):=fun w' hb=>by
  have:=Breaks_z enc w' t A (A.length:Nat) (HT.out.ext hb)
  rw [brk_at,bAt_len enc A _ (by simp),hB] at this
  exact this
 have SK:Hid (∀ w' q,Below w0.heap.size w0 w'→Calls Tryz.prog 61 #[.pointer (some ⟨t,0,none⟩),.int .i64 q] w' fun e w''=>e=.returned (.int .i64 (skA enc A q))∧Below w'.heap.size w' w''):=fun w' q hb=>Seek_z enc w' t A q (HT.out.ext hb)
 have CL:Hid (∀ w1,Below w0.heap.size w0 w1→w1.heap[w.heap.size]?=some (.cells #[.int .i64 0,.int .i64 0,.int .i64 0,.int .i64 0] 50 (0,0))):=fun w1 hb=>(hb.block _ (Array.getElem?_eq_some_iff.1 HK0.out).1).trans HK0.out
 clear hb0 kk0 h
 by_cases h0:k < 0
 ·have HE:Hid (lnA enc A k=⟨0,0,0,0⟩∧lnE enc A k=2):=⟨by unfold lnA;rw [if_pos (.inl h0)],by unfold lnE;rw [if_pos (.inl h0)]⟩
  clear hB
  go_enter Tryz.func27,Tryz.ntmps27
  go_upto_region 1 with fail
  rw [← hw0]
  clear hw0
  go_upto_region 3 with (first
   | (go_at_call 53;refine LN.out.mono ?_;rintro e w1 ⟨rfl,hb⟩;have HB1:=hidIt hb;clear hb;(try dsimp only))
   | (go_at_call 52;refine (BR.out _ HB1.out).mono ?_;rintro e w2 ⟨rfl,hb⟩;have HB2:=hidIt (ext_trans HB1.out hb);clear hb;(try dsimp only)))
  obtain ⟨hlt,c0,c1,c2,c3,fz⟩:=cells4 (CL.out _ HB2.out)
  go_wp2_with fail
  exact bodyPost_ret (v:=.tuple #[.agg #[.int .i64 0,.int .i64 0,.int .i64 0,.int .i64 0],.int .i64 2]) (by simp [results,Tryz.results27,go_sem,c0,c1,c2,c3]) rfl ⟨by rw [HE.out.1,HE.out.2],below4 HB0.out (CL.out _ HB2.out) HB2.out _ _ _ _⟩
 by_cases h1:(B:Int) < k
 ·have HE:Hid (lnA enc A k=⟨0,0,0,0⟩∧lnE enc A k=2):=⟨by unfold lnA;rw [if_pos (.inr (by omega))],by unfold lnE;rw [if_pos (.inr (by omega))]⟩
  clear hB
  go_enter Tryz.func27,Tryz.ntmps27
  go_upto_region 1 with fail
  rw [← hw0]
  clear hw0
  go_upto_region 3 with (first
   | (go_at_call 53;refine LN.out.mono ?_;rintro e w1 ⟨rfl,hb⟩;have HB1:=hidIt hb;clear hb;(try dsimp only))
   | (go_at_call 52;refine (BR.out _ HB1.out).mono ?_;rintro e w2 ⟨rfl,hb⟩;have HB2:=hidIt (ext_trans HB1.out hb);clear hb;(try dsimp only)))
  obtain ⟨hlt,c0,c1,c2,c3,fz⟩:=cells4 (CL.out _ HB2.out)
  go_wp2_with fail
  exact bodyPost_ret (v:=.tuple #[.agg #[.int .i64 0,.int .i64 0,.int .i64 0,.int .i64 0],.int .i64 2]) (by simp [results,Tryz.results27,go_sem,c0,c1,c2,c3]) rfl ⟨by rw [HE.out.1,HE.out.2],below4 HB0.out (CL.out _ HB2.out) HB2.out _ _ _ _⟩
 have HE:Hid (lnA enc A k=lnK enc A k∧lnE enc A k=0):=⟨by unfold lnA;rw [if_neg (by omega)],by unfold lnE;rw [if_neg (by omega)]⟩
 obtain ⟨i,rfl⟩:∃ i:Nat,k=i:=⟨k.toNat,by omega⟩
 have hiB:i≤B:=by omega
 have S1:Hid (∀ w',Below w0.heap.size w0 w'→Calls Tryz.prog 61 #[.pointer (some ⟨t,0,none⟩),.int .i64 (i:Nat)] w' fun e w''=>e=.returned (.int .i64 (skA enc A (i:Nat)))∧Below w'.heap.size w' w''):=fun w' hb=>SK.out w' _ hb
 rcases Nat.lt_or_eq_of_le hiB with h2 | h2
 ·obtain ⟨p,hp,hp1,hp2,_⟩:=skA_at enc A ((i:Int) + 1) (by omega) (by omega)
  have HY:Hid (lnK enc A (i:Nat)=⟨skA enc A (i:Nat),(p:Nat) - wid (knd A p),(p:Nat),knd A p⟩):=by
   unfold Hid lnK
   rw [if_neg (by omega),hp]
   simp
  have hwd:1≤wid (knd A p)∧wid (knd A p)≤2:=by unfold wid;split <;> omega
  have S2:Hid (∀ w',Below w0.heap.size w0 w'→Calls Tryz.prog 61 #[.pointer (some ⟨t,0,none⟩),.int .i64 ((i:Int) + 1)] w' fun e w''=>e=.returned (.int .i64 (p:Nat))∧Below w'.heap.size w' w''):=fun w' hb=>by
   have:=SK.out w' ((i:Int) + 1) hb
   rwa [hp] at this
  have KA:Hid (∀ w',Below w0.heap.size w0 w'→Calls Tryz.prog 62 #[.pointer (some ⟨t,0,none⟩),.int .i64 (p:Nat)] w' fun e w''=>e=.returned (.int .i64 (knd A p))∧Below w'.heap.size w' w''):=fun w' hb=>kindAhead_any enc w' t A p (HT.out.ext hb) hp1 hp2
  have WD:Hid (∀ w',Calls Tryz.prog 63 #[.int .i64 (knd A p)] w' fun e w''=>e=.returned (.int .i64 (wid (knd A p)))∧w''=w'):=fun w'=>width_any _ w'
  have hwi:IntKind.i64.wrap ((i:Int) + 1)=(i:Int) + 1:=by rw [IntKind.wrap_i64];omega
  have hws:IntKind.i64.wrap ((p:Int) - wid (knd A p))=(p:Int) - wid (knd A p):=by rw [IntKind.wrap_i64];omega
  have hne:¬ ((i:Int)=(B:Int)):=by omega
  have hne':((i:Int) == (B:Int))=false:=by simp;omega
  generalize knd A p=kd at *
  generalize wid kd=wk at *
  generalize skA enc A (i:Nat)=f at *
  clear hB hp SK hwd
  go_enter Tryz.func27,Tryz.ntmps27
  go_upto_region 1 with fail
  rw [← hw0]
  clear hw0
  go_upto_region 3 with (first
   | (go_at_call 53;refine LN.out.mono ?_;rintro e w1 ⟨rfl,hb⟩;have HB1:=hidIt hb;clear hb;(try dsimp only))
   | (go_at_call 52;refine (BR.out _ HB1.out).mono ?_;rintro e w2 ⟨rfl,hb⟩;have HB2:=hidIt (ext_trans HB1.out hb);clear hb;(try dsimp only)))
  go_upto_region 6 with (go_at_call 61;refine (S1.out _ HB2.out).mono ?_;rintro e w3 ⟨rfl,hb⟩;have HB3:=hidIt (ext_trans HB2.out hb);clear hb;(try dsimp only))
  go_upto_region 9 with (go_at_call 61;refine (S2.out _ HB3.out).mono ?_;rintro e w4 ⟨rfl,hb⟩;have HB4:=hidIt (ext_trans HB3.out hb);clear hb;(try dsimp only))
  go_upto_region 10 with (go_at_call 62;refine (KA.out _ HB4.out).mono ?_;rintro e w5 ⟨rfl,hb⟩;have HB5:=hidIt (ext_trans HB4.out hb);clear hb;(try dsimp only))
  obtain ⟨hlt,c0,c1,c2,c3,fz⟩:=cells4 (CL.out _ HB5.out)
  go_wp2_with (go_at_call 63;refine (WD.out _).mono ?_;rintro e w6 ⟨rfl,hb⟩;subst hb;(try dsimp only))
  exact bodyPost_ret (v:=.tuple #[.agg #[.int .i64 f,.int .i64 ((p:Nat) - wk),.int .i64 (p:Nat),.int .i64 kd],.int .i64 0]) (by simp [results,Tryz.results27,go_sem,c0,c1,c2,c3]) rfl ⟨by rw [HE.out.1,HE.out.2,HY.out],below4 HB0.out (CL.out _ HB5.out) HB5.out _ _ _ _⟩
 ·subst h2
  have HY:Hid (lnK enc A (i:Nat)=⟨skA enc A (i:Nat),(A.length:Nat),(A.length:Nat),0⟩):=by
   unfold Hid lnK
   rw [if_pos hB.symm]
  generalize skA enc A (i:Nat)=f at *
  clear hB SK
  go_enter Tryz.func27,Tryz.ntmps27
  go_upto_region 1 with fail
  rw [← hw0]
  clear hw0
  go_upto_region 3 with (first
   | (go_at_call 53;refine LN.out.mono ?_;rintro e w1 ⟨rfl,hb⟩;have HB1:=hidIt hb;clear hb;(try dsimp only))
   | (go_at_call 52;refine (BR.out _ HB1.out).mono ?_;rintro e w2 ⟨rfl,hb⟩;have HB2:=hidIt (ext_trans HB1.out hb);clear hb;(try dsimp only)))
  go_upto_region 6 with (go_at_call 61;refine (S1.out _ HB2.out).mono ?_;rintro e w3 ⟨rfl,hb⟩;have HB3:=hidIt (ext_trans HB2.out hb);clear hb;(try dsimp only))
  obtain ⟨hlt,c0,c1,c2,c3,fz⟩:=cells4 (CL.out _ HB3.out)
  go_wp2_with fail
  exact bodyPost_ret (v:=.tuple #[.agg #[.int .i64 f,.int .i64 (A.length:Nat),.int .i64 (A.length:Nat),.int .i64 0],.int .i64 0]) (by simp [results,Tryz.results27,go_sem,c0,c1,c2,c3]) rfl ⟨by rw [HE.out.1,HE.out.2,HY.out],below4 HB0.out (CL.out _ HB3.out) HB3.out _ _ _ _⟩
end Go.Proofs.YtjomfbegghgbdaaGreat.P

namespace Go.Proofs.YtjomfbegghgbdaaGreat.P
open Go.RowKit
def tl (b f n:Int):Bool:=decide (0 < b∧f=n)
set_option maxRecDepth 100000 in
theorem isTail_any (b f n:Int) (w:World):Calls Tryz.prog 54 #[.int .i64 b,.agg #[.int .i64 f,.int .i64 n,.int .i64 n,.int .i64 0]] w fun e w'=>e=.returned (.bool (tl b f n))∧Below w.heap.size w w':=by
 by_cases h0:0 < b
 ·by_cases h1:f=n
  ·subst h1
   have HE:=hidIt (show tl b f f=true by unfold tl;simp [h0])
   go_enter Tryz.func54,Tryz.ntmps54
   go_wp2_with fail
   go_ret
   exact ⟨by rw [HE.out];rfl,ext_alloc (Below.refl _ _) _⟩
  ·have HE:=hidIt (show tl b f n=false by unfold tl;simp [h1])
   have hb1:(n == f)=false:=by simp;omega
   go_enter Tryz.func54,Tryz.ntmps54
   go_wp2_with fail
   go_ret
   exact ⟨by rw [HE.out];rfl,ext_alloc (Below.refl _ _) _⟩
 ·have HE:=hidIt (show tl b f n=false by unfold tl;simp [h0])
  go_enter Tryz.func54,Tryz.ntmps54
  go_wp2_with fail
  go_ret
  exact ⟨by rw [HE.out];rfl,ext_alloc (Below.refl _ _) _⟩
theorem lnA_last (enc:Int) (A:List Int):lnA enc A (spn enc A).b=⟨skA enc A (spn enc A).b,A.length,A.length,0⟩∧lnE enc A (spn enc A).b=0:=by
 have:=spn_nn enc A
 unfold lnA lnE lnK
 rw [if_neg (by omega),if_pos rfl,if_neg (by omega)]
 exact ⟨rfl,rfl⟩
theorem cnt_tl (enc:Int) (A:List Int):cnt enc A=if tl (spn enc A).b (skA enc A (spn enc A).b) A.length=true then (spn enc A).b else (spn enc A).b + 1:=by
 rw [cnt_tail]
 unfold tl
 simp only [decide_eq_true_eq]
set_option maxRecDepth 100000 in
theorem Count_z (enc:Int) (w:World) (t:Nat) (A:List Int) (h:Tz enc w t A):Calls Tryz.prog 19 #[.pointer (some ⟨t,0,none⟩)] w fun e w'=>e=.returned (.int .i64 (cnt enc A))∧Below w.heap.size w w':=by
 have hl:=h.len
 have HT:=hidIt h
 have LN:=hidIt (Len_z enc w t A h)
 have HC:=hidIt (cnt_tl enc A)
 obtain ⟨hA1,hA2⟩:=lnA_last enc A
 obtain ⟨B,hB⟩:∃ B:Nat,(spn enc A).b=B:=⟨(spn enc A).b.toNat,by have:=spn_nn enc A;omega⟩
 have hBl:B≤A.length:=by have:=spn_len enc A;omega
 have BR:Hid (∀ w',Below w.heap.size w w'→Calls Tryz.prog 52 #[.pointer (some ⟨t,0,none⟩),.int .i64 (A.length:Nat)] w' fun e w''=>e=.returned (.int .i64 (B:Nat))∧Below w'.heap.size w' w''):=fun w' hb=>by
  have:=Breaks_z enc w' t A (A.length:Nat) (HT.out.ext hb)
  rw [brk_at,bAt_len enc A _ (by simp),hB] at this
  exact this
 rw [hB] at hA1 hA2 HC
 have AT:Hid (∀ w',Below w.heap.size w w'→Calls Tryz.prog 27 #[.pointer (some ⟨t,0,none⟩),.int .i64 (B:Nat)] w' fun e w''=>e=.returned (.tuple #[.agg #[.int .i64 (skA enc A (B:Nat)),.int .i64 (A.length:Nat),.int .i64 (A.length:Nat),.int .i64 0],.int .i64 0])∧Below w'.heap.size w' w''):=fun w' hb=>by
  have:=At_z enc w' t A (B:Nat) (HT.out.ext hb)
  rwa [hA1,hA2] at this
 have IT:Hid (∀ w':World,Calls Tryz.prog 54 #[.int .i64 (B:Nat),.agg #[.int .i64 (skA enc A (B:Nat)),.int .i64 (A.length:Nat),.int .i64 (A.length:Nat),.int .i64 0]] w' fun e w''=>e=.returned (.bool (tl (B:Nat) (skA enc A (B:Nat)) A.length))∧Below w'.heap.size w' w''):=fun w'=>isTail_any _ _ _ w'
 have hw:IntKind.i64.wrap ((B:Int) + 1)=(B:Int) + 1:=by rw [IntKind.wrap_i64];omega
 generalize skA enc A (B:Nat)=f at *
 generalize htl:tl (B:Nat) f A.length=q at *
 clear h hA1 hA2 hB htl
 cases q with
 | true =>
   go_enter Tryz.func19,Tryz.ntmps19
   go_wp2_with (first
    | (go_at_call 53;refine LN.out.mono ?_;rintro e w1 ⟨rfl,hb⟩;have HB1:=hidIt hb;clear hb;(try dsimp only))
    | (go_at_call 52;refine (BR.out _ HB1.out).mono ?_;rintro e w2 ⟨rfl,hb⟩;have HB2:=hidIt (ext_trans HB1.out hb);clear hb;(try dsimp only))
    | (go_at_call 27;refine (AT.out _ HB2.out).mono ?_;rintro e w3 ⟨rfl,hb⟩;have HB3:=hidIt (ext_trans HB2.out hb);clear hb;(try dsimp only))
    | (go_at_call 54;refine (IT.out _).mono ?_;rintro e w4 ⟨rfl,hb⟩;have HB4:=hidIt (ext_trans (ext_trans HB3.out (ext_alloc (Below.refl _ _) _)) hb);clear hb;(try dsimp only)))
   go_ret
   exact ⟨by rw [HC.out];rfl,HB4.out⟩
 | false =>
   go_enter Tryz.func19,Tryz.ntmps19
   go_wp2_with (first
    | (go_at_call 53;refine LN.out.mono ?_;rintro e w1 ⟨rfl,hb⟩;have HB1:=hidIt hb;clear hb;(try dsimp only))
    | (go_at_call 52;refine (BR.out _ HB1.out).mono ?_;rintro e w2 ⟨rfl,hb⟩;have HB2:=hidIt (ext_trans HB1.out hb);clear hb;(try dsimp only))
    | (go_at_call 27;refine (AT.out _ HB2.out).mono ?_;rintro e w3 ⟨rfl,hb⟩;have HB3:=hidIt (ext_trans HB2.out hb);clear hb;(try dsimp only))
    | (go_at_call 54;refine (IT.out _).mono ?_;rintro e w4 ⟨rfl,hb⟩;have HB4:=hidIt (ext_trans (ext_trans HB3.out (ext_alloc (Below.refl _ _) _)) hb);clear hb;(try dsimp only)))
   go_ret
   exact ⟨by rw [HC.out];rfl,HB4.out⟩
theorem Of_z (enc:Int) (w:World) (t:Nat) (A:List Int) (z:Int) (h:Tz enc w t A):Calls Tryz.prog 31 #[.pointer (some ⟨t,0,none⟩),.int .i64 z] w fun e w'=>e=.returned (.int .i64 (brk enc A z))∧Below w.heap.size w w':=by
 have BR:=hidIt (Breaks_z enc w t A z h)
 clear h
 go_enter Tryz.func31,Tryz.ntmps31
 go_wp2_with (go_at_call 52;refine BR.out.mono ?_;rintro e w2 ⟨rfl,hb⟩;have HB2:=hidIt hb;clear hb;(try dsimp only))
 go_ret
 exact ⟨rfl,HB2.out⟩
end Go.Proofs.YtjomfbegghgbdaaGreat.P

namespace Go.Proofs.YtjomfbegghgbdaaGreat.P
open Go.RowKit
structure Opv where
 who:Int
 k:Int
 a:Int
 b:Int
 put:List Int
def Opv.val (o:Opv) (v:Value):Value:=.agg #[.int .i64 o.who,.int .i64 o.k,.int .i64 o.a,.int .i64 o.b,v]
structure Opv.Ok (o:Opv):Prop where
 a:-9223372036854775808≤o.a∧o.a≤9223372036854775807
 b:-9223372036854775808≤o.b∧o.b≤9223372036854775807
 z:o.put.length * 8≤140737488351232
def Yes (f:Nat) (w:World) (g:Nat) (o:Opv) (v:Value):Prop:=∀ w',Below w.heap.size w w'→Calls Tryz.prog f #[.pointer (some ⟨g,0,none⟩),o.val v] w' fun e w''=>e=.returned (.bool true)∧Below w'.heap.size w' w''
def StO (enc:Int) (w:World) (g t m:Nat) (w':World):Prop:=(∃ A',BtW enc w' g t A' (m + 1))∧Kps (fun k=>k=g∨k=t) w w'
theorem StO.of {enc:Int} {w w':World} {g t:Nat} {A:List Int} {m:Nat} (h:BtW enc w g t A m) (hb:Below w.heap.size w w'):StO enc w g t m w':=by
 have h1:=h.ext hb
 exact ⟨⟨A,h1.ex,h1.tz,by have:=h1.bd;omega,h1.en⟩,Kps.of_below _ hb⟩
theorem cells5 {w:World} {b:Nat} {T:TypeId} {v0 v1 v2 v3 v4:Value} (h:w.heap[b]?=some (.cells #[v0,v1,v2,v3,v4] T (0,0))):b < w.heap.size∧w.cell? ⟨b,0,none⟩=some v0∧w.cell? ⟨b,1,none⟩=some v1∧w.cell? ⟨b,2,none⟩=some v2∧w.cell? ⟨b,3,none⟩=some v3∧w.cell? ⟨b,4,none⟩=some v4:=by
 refine ⟨(Array.getElem?_eq_some_iff.1 h).1,?_,?_,?_,?_,?_⟩ <;> (rw [cell_of_row _ _ _ _ _ _ h];rfl)
set_option maxRecDepth 100000 in
set_option maxHeartbeats 8000000 in
theorem played_any (lo hi enc:Int) (w:World) (g t:Nat) (A:List Int) (m:Nat) (o:Opv) (ap:Option Addr) (np cp:Nat) (h:BtW enc w g t A m) (hm:m≤199) (ho:o.Ok) (hp:Rd .i64 w (.slice ap np cp) o.put)
  (q2:lo≤o.k→o.k≤hi→(o.k=2∨o.k=5∨o.k=6)→Yes 101 w g o (.slice ap np cp)) (q3:lo≤o.k→o.k≤hi→o.k=3→Yes 102 w g o (.slice ap np cp))
  (q7:lo≤o.k→o.k≤hi→o.k=7→Yes 104 w g o (.slice ap np cp)) (q8:lo≤o.k→o.k≤hi→o.k=8→Yes 105 w g o (.slice ap np cp)) (q9:lo≤o.k→o.k≤hi→o.k=9→Yes 106 w g o (.slice ap np cp)) :
  Calls Tryz.prog 72 #[.pointer (some ⟨g,0,none⟩),o.val (.slice ap np cp),.int .i64 lo,.int .i64 hi] w fun e w'=>e=.returned (.bool true)∧Hid (StO enc w g t m w'):=by
 obtain ⟨who,k,a,b,put⟩:=o
 obtain ⟨h1,h2,h3⟩:=ho
 dsimp only at *
 unfold Opv.val
 dsimp only
 obtain ⟨w0,hw0,kk0,hb0⟩:∃ w0,w0=w.alloc (.cells #[.int .i64 who,.int .i64 k,.int .i64 a,.int .i64 b,.slice ap np cp] 38)∧w0.heap[w.heap.size]?=some (.cells #[.int .i64 who,.int .i64 k,.int .i64 a,.int .i64 b,.slice ap np cp] 38 (0,0))∧Below w.heap.size w w0:=⟨_,rfl,heap_alloc_new _ _,ext_alloc (Below.refl _ _) _⟩
 have HB0:=hidIt hb0
 have HW:=hidIt h
 obtain ⟨hlt,c0,c1,c2,c3,c4⟩:=cells5 kk0
 have ED:=hidIt (edited_any enc w0 g t A m a b (.slice ap np cp) put (h.ext hb0) hm h1 h2 (hp.ext hb0))
 have Q2:Hid (lo≤k→k≤hi→(k=2∨k=5∨k=6)→Calls Tryz.prog 101 #[.pointer (some ⟨g,0,none⟩),.agg #[.int .i64 who,.int .i64 k,.int .i64 a,.int .i64 b,.slice ap np cp]] w0 fun e w''=>e=.returned (.bool true)∧Below w0.heap.size w0 w''):=fun x y z=>q2 x y z w0 hb0
 have Q3:Hid (lo≤k→k≤hi→k=3→Calls Tryz.prog 102 #[.pointer (some ⟨g,0,none⟩),.agg #[.int .i64 who,.int .i64 k,.int .i64 a,.int .i64 b,.slice ap np cp]] w0 fun e w''=>e=.returned (.bool true)∧Below w0.heap.size w0 w''):=fun x y z=>q3 x y z w0 hb0
 have Q7:Hid (lo≤k→k≤hi→k=7→Calls Tryz.prog 104 #[.pointer (some ⟨g,0,none⟩),.agg #[.int .i64 who,.int .i64 k,.int .i64 a,.int .i64 b,.slice ap np cp]] w0 fun e w''=>e=.returned (.bool true)∧Below w0.heap.size w0 w''):=fun x y z=>q7 x y z w0 hb0
 have Q8:Hid (lo≤k→k≤hi→k=8→Calls Tryz.prog 105 #[.pointer (some ⟨g,0,none⟩),.agg #[.int .i64 who,.int .i64 k,.int .i64 a,.int .i64 b,.slice ap np cp]] w0 fun e w''=>e=.returned (.bool true)∧Below w0.heap.size w0 w''):=fun x y z=>q8 x y z w0 hb0
 have Q9:Hid (lo≤k→k≤hi→k=9→Calls Tryz.prog 106 #[.pointer (some ⟨g,0,none⟩),.agg #[.int .i64 who,.int .i64 k,.int .i64 a,.int .i64 b,.slice ap np cp]] w0 fun e w''=>e=.returned (.bool true)∧Below w0.heap.size w0 w''):=fun x y z=>q9 x y z w0 hb0
 clear q2 q3 q7 q8 q9 hp h kk0 hb0 h1 h2 h3 hm
 by_cases k1:k=1
 ·subst k1
  clear Q2 Q3 Q7 Q8 Q9
  go_enter Tryz.func72,Tryz.ntmps72
  go_upto_region 1 with fail
  rw [← hw0]
  clear hw0
  go_wp2_with (go_at_call 39;refine ED.out.mono ?_;rintro e w1 ⟨rfl,hA,hk⟩;have HA:=hidIt hA.out;have HK:=hidIt hk;clear hA hk;(try dsimp only))
  go_ret
  exact ⟨rfl,HA.out,(Kps.of_below (fun k=>k=g∨k=t) HB0.out).trans HK.out (fun _ _ e=>e)⟩
 clear ED
 have b1:(k == 1)=false:=by simp [k1]
 by_cases hlo:k < lo
 ·go_enter Tryz.func72,Tryz.ntmps72
  go_upto_region 1 with fail
  rw [← hw0]
  clear hw0
  go_wp2_with fail
  go_ret
  exact ⟨rfl,StO.of HW.out HB0.out⟩
 by_cases hhi:hi < k
 ·go_enter Tryz.func72,Tryz.ntmps72
  go_upto_region 1 with fail
  rw [← hw0]
  clear hw0
  go_wp2_with fail
  go_ret
  exact ⟨rfl,StO.of HW.out HB0.out⟩
 have hl1:lo≤k:=by omega
 have hh1:k≤hi:=by omega
 by_cases n2:k=2
 ·subst n2
  have CC:=hidIt (Q2.out hl1 hh1 (.inl rfl))
  clear Q2 Q3 Q7 Q8 Q9
  go_enter Tryz.func72,Tryz.ntmps72
  go_upto_region 1 with fail
  rw [← hw0]
  clear hw0
  go_wp2_with (go_at_call 101;refine CC.out.mono ?_;rintro e w1 ⟨rfl,hb⟩;have HB1:=hidIt hb;clear hb;(try dsimp only))
  go_ret
  exact ⟨rfl,StO.of HW.out (ext_trans HB0.out HB1.out)⟩
 by_cases n5:k=5
 ·subst n5
  have CC:=hidIt (Q2.out hl1 hh1 (.inr (.inl rfl)))
  clear Q2 Q3 Q7 Q8 Q9
  go_enter Tryz.func72,Tryz.ntmps72
  go_upto_region 1 with fail
  rw [← hw0]
  clear hw0
  go_wp2_with (go_at_call 101;refine CC.out.mono ?_;rintro e w1 ⟨rfl,hb⟩;have HB1:=hidIt hb;clear hb;(try dsimp only))
  go_ret
  exact ⟨rfl,StO.of HW.out (ext_trans HB0.out HB1.out)⟩
 by_cases n6:k=6
 ·subst n6
  have CC:=hidIt (Q2.out hl1 hh1 (.inr (.inr rfl)))
  clear Q2 Q3 Q7 Q8 Q9
  go_enter Tryz.func72,Tryz.ntmps72
  go_upto_region 1 with fail
  rw [← hw0]
  clear hw0
  go_wp2_with (go_at_call 101;refine CC.out.mono ?_;rintro e w1 ⟨rfl,hb⟩;have HB1:=hidIt hb;clear hb;(try dsimp only))
  go_ret
  exact ⟨rfl,StO.of HW.out (ext_trans HB0.out HB1.out)⟩
 by_cases n3:k=3
 ·subst n3
  have CC:=hidIt (Q3.out hl1 hh1 rfl)
  clear Q2 Q3 Q7 Q8 Q9
  go_enter Tryz.func72,Tryz.ntmps72
  go_upto_region 1 with fail
  rw [← hw0]
  clear hw0
  go_wp2_with (go_at_call 102;refine CC.out.mono ?_;rintro e w1 ⟨rfl,hb⟩;have HB1:=hidIt hb;clear hb;(try dsimp only))
  go_ret
  exact ⟨rfl,StO.of HW.out (ext_trans HB0.out HB1.out)⟩
 by_cases n7:k=7
 ·subst n7
  have CC:=hidIt (Q7.out hl1 hh1 rfl)
  clear Q2 Q3 Q7 Q8 Q9
  go_enter Tryz.func72,Tryz.ntmps72
  go_upto_region 1 with fail
  rw [← hw0]
  clear hw0
  go_wp2_with (go_at_call 104;refine CC.out.mono ?_;rintro e w1 ⟨rfl,hb⟩;have HB1:=hidIt hb;clear hb;(try dsimp only))
  go_ret
  exact ⟨rfl,StO.of HW.out (ext_trans HB0.out HB1.out)⟩
 by_cases n8:k=8
 ·subst n8
  have CC:=hidIt (Q8.out hl1 hh1 rfl)
  clear Q2 Q3 Q7 Q8 Q9
  go_enter Tryz.func72,Tryz.ntmps72
  go_upto_region 1 with fail
  rw [← hw0]
  clear hw0
  go_wp2_with (go_at_call 105;refine CC.out.mono ?_;rintro e w1 ⟨rfl,hb⟩;have HB1:=hidIt hb;clear hb;(try dsimp only))
  go_ret
  exact ⟨rfl,StO.of HW.out (ext_trans HB0.out HB1.out)⟩
 by_cases n9:k=9
 ·subst n9
  have CC:=hidIt (Q9.out hl1 hh1 rfl)
  clear Q2 Q3 Q7 Q8 Q9
  go_enter Tryz.func72,Tryz.ntmps72
  go_upto_region 1 with fail
  rw [← hw0]
  clear hw0
  go_wp2_with (go_at_call 106;refine CC.out.mono ?_;rintro e w1 ⟨rfl,hb⟩;have HB1:=hidIt hb;clear hb;(try dsimp only))
  go_ret
  exact ⟨rfl,StO.of HW.out (ext_trans HB0.out HB1.out)⟩
 by_cases n4:k=4
 ·subst n4
  clear Q2 Q3 Q7 Q8 Q9
  have HW0:=hidIt (HW.out.ext HB0.out)
  obtain ⟨va,hg,hva⟩:=HW0.out.ex
  obtain ⟨aa,ca,hvv⟩:=hva.form
  subst hvv
  have HGG:=hidIt hg
  have HVA:=hidIt hva
  have hlen:=HW0.out.tz.len
  have OF:Hid (∀ w',Below w0.heap.size w0 w'→Calls Tryz.prog 31 #[.pointer (some ⟨t,0,none⟩),.int .i64 a] w' fun e w''=>e=.returned (.int .i64 (brk enc A a))∧Below w'.heap.size w' w''):=fun w' hb=>Of_z enc w' t A a (HW0.out.tz.ext hb)
  have RO:Hid (∀ w',Below w0.heap.size w0 w'→Calls Tryz.prog 103 #[.slice aa A.length ca,.int .i64 a] w' fun e w''=>e=.returned (.int .i64 (brk enc A a))∧Below w'.heap.size w' w''):=fun w' hb=>rOf_any enc _ A a w' (HVA.out.ext hb).rdi hlen
  have HS:Hid (∀ w',Below w0.heap.size w0 w'→w'.cell? ⟨g,0,none⟩=some (.pointer (some ⟨t,0,none⟩))∧w'.cell? ⟨g,1,none⟩=some (.slice aa A.length ca)∧w'.cell? ⟨w.heap.size,2,none⟩=some (.int .i64 a)):=fun w' hb=>⟨(hb.cell (p:=⟨g,0,none⟩) HW0.out.lt).trans (cells2 HGG.out).2.1,(hb.cell (p:=⟨g,1,none⟩) HW0.out.lt).trans (cells2 HGG.out).2.2.1,(hb.cell (p:=⟨w.heap.size,2,none⟩) hlt).trans c2⟩
  have ks:=HS.out w0 (Below.refl _ _)
  generalize brk enc A a=z at *
  clear hg hva
  go_enter Tryz.func72,Tryz.ntmps72
  go_upto_region 1 with fail
  rw [← hw0]
  clear hw0
  go_upto_region 13 with fail
  refine wp_region_held_drew (S:=fun w''=>w''.cell? ⟨g,0,none⟩=some (.pointer (some ⟨t,0,none⟩))∧w''.cell? ⟨g,1,none⟩=some (.slice aa A.length ca)∧w''.cell? ⟨w.heap.size,2,none⟩=some (.int .i64 a)) (by kernel_rfl) (ks) (fun hHeld=>?_)
  refine tkH 0 rfl ?_
  try simp only [Act.put,tS]
  refine tkH 1 rfl ?_
  try simp only [Act.put,tS]
  refine tkH 2 rfl ?_
  try simp only [Act.put,tS]
  refine tkH 3 rfl ?_
  try simp only [Act.put,tS]
  refine tkH 4 rfl ?_
  try simp only [Act.put,tS]
  refine tkH 5 rfl ?_
  try simp only [Act.put,tS]
  refine tkH 7 rfl ?_
  try simp only [Act.put,tS]
  refine tkH 8 rfl ?_
  try simp only [Act.put,tS]
  refine tkH 9 rfl ?_
  try simp only [Act.put,tS]
  refine tkH 10 rfl ?_
  try simp only [Act.put,tS]
  refine tkH 11 rfl ?_
  try simp only [Act.put,tS]
  refine tkH 12 rfl ?_
  try simp only [Act.put,tS]
  refine rdH 6 rfl fun K hK=>?_
  go_simp
  refine (OF.out _ (Below.drew (Below.refl _ _))).mono ?_;clear ks;rintro e y2 ⟨rfl,hb⟩;have HY2:=hidIt (ext_trans (Below.drew (Below.refl w0.heap.size w0)) hb);clear hb;have ks:=HS.out y2 HY2.out;try dsimp only
  refine hK.out _ _ ?_ (fun hHeld=>?_)
  ·(try simp only [World.cell?_drew]);exact ks
  clear hK K
  try simp only [Act.put,tS]
  refine rdH 13 rfl fun K hK=>?_
  go_simp
  refine (RO.out _ HY2.out).mono ?_;clear ks;rintro e y3 ⟨rfl,hb⟩;have HY3:=hidIt (ext_trans HY2.out hb);clear hb;have ks:=HS.out y3 HY3.out;try dsimp only
  refine hK.out _ _ ?_ (fun hHeld=>?_)
  ·(try simp only [World.cell?_drew]);exact ks
  clear hK K
  try simp only [Act.put,tS]
  refine tkH 14 rfl ?_
  try simp only [Act.put,tS]
  refine tkH 15 rfl ?_
  try simp only [Act.put,tS]
  refine wpAnyH_done (by kernel_rfl) ?_ _
  go_wp2_with fail
  go_ret
  exact ⟨rfl,StO.of HW.out (ext_trans HB0.out HY3.out)⟩
 have b2:(k == 2)=false:=by simp [n2]
 have b3:(k == 3)=false:=by simp [n3]
 have b4:(k == 4)=false:=by simp [n4]
 have b5:(k == 5)=false:=by simp [n5]
 have b6:(k == 6)=false:=by simp [n6]
 have b7:(k == 7)=false:=by simp [n7]
 have b8:(k == 8)=false:=by simp [n8]
 have b9:(k == 9)=false:=by simp [n9]
 go_enter Tryz.func72,Tryz.ntmps72
 go_upto_region 1 with fail
 rw [← hw0]
 clear hw0
 go_wp2_with fail
 go_ret
 exact ⟨rfl,StO.of HW.out HB0.out⟩
end Go.Proofs.YtjomfbegghgbdaaGreat.P

namespace Go.Proofs.YtjomfbegghgbdaaGreat.P
open Go.RowKit
theorem Tz.kps {enc:Int} {w w':World} {t:Nat} {A:List Int} {own:Nat→Prop} (h:Tz enc w t A) (hk:Kps own w w') (h1:∀ k,own k→¬ Typ 5 w k∧¬ Typ 163 w k) (h2:¬ own t):Tz enc w' t A:=by
 obtain ⟨L,ps,k1,k2⟩:=h
 obtain ⟨lv,u,q1,q2,q3⟩:=k1.ex
 refine ⟨L,ps,⟨⟨lv,u,(hk.same t (Array.getElem?_eq_some_iff.1 q1).1 h2).trans q1,q2.same ?_,q3.same ?_⟩,k1.pc.same ?_,k1.en,k1.by',k1.ll,k1.l0,k1.lm,k1.sz⟩,k2⟩
 ·exact fun b hb=>hk.same b hb.lt (fun e=>(h1 b e).1 hb)
 ·exact fun b hb=>hk.same b hb.lt (fun e=>(h1 b e).2 hb)
 ·exact fun b hb=>hk.same b hb.lt (fun e=>(h1 b e).1 hb)
theorem OwnI.kps2 {w w':World} {base:Nat} {v:Value} {zs:List Int} {own:Nat→Prop} (h:OwnI w base v zs) (hk:Kps own w w') (h1:∀ k,own k→¬ Typ 3 w k):OwnI w' base v zs:=by
 obtain ⟨k1,h2⟩:=id h
 refine ⟨k1,?_⟩
 rcases h2 with h2 | ⟨k,cap,cur,hv,hb,hgg,r⟩
 ·exact .inl h2
 ·exact .inr ⟨k,cap,cur,hv,hb,(hk.same k (Array.getElem?_eq_some_iff.1 hgg).1 (fun e=>h1 k e ⟨_,hgg⟩)).trans hgg,r⟩
theorem BtW.oth {enc enc':Int} {w w':World} {g t g' t':Nat} {A A':List Int} {m m':Nat} (h:BtW enc w g t A m) (h':BtW enc' w g' t' A' m') (hk:Kps (fun k=>k=g'∨k=t') w w') (h1:g≠g') (h2:t≠t'):BtW enc w' g t A (m + 1):=by
 have a1:=h.typ
 have a2:=h.tz.typ
 have b1:=h'.typ
 have b2:=h'.tz.typ
 obtain ⟨v,q1,q2⟩:=h.ex
 refine ⟨⟨v,(hk.same g h.lt ?_).trans q1,q2.kps2 hk ?_⟩,h.tz.kps hk ?_ ?_,by have:=h.bd;omega,h.en⟩
 ·rintro (e | e)
  ·exact h1 e
  ·subst e;exact absurd (a1.uniq b2) (by decide)
 ·rintro k (rfl | rfl) e
  ·exact absurd (b1.uniq e) (by decide)
  ·exact absurd (b2.uniq e) (by decide)
 ·rintro k (rfl | rfl)
  ·exact ⟨fun e=>absurd (b1.uniq e) (by decide),fun e=>absurd (b1.uniq e) (by decide)⟩
  ·exact ⟨fun e=>absurd (b2.uniq e) (by decide),fun e=>absurd (b2.uniq e) (by decide)⟩
 ·rintro (e | e)
  ·subst e;exact absurd (a2.uniq b1) (by decide)
  ·exact h2 e
def RdO (w:World) (v:Value) (os:List Opv):Prop:=∃ ao cap,v=.slice ao os.length cap∧os.length≤cap∧cap≤9223372036854775807∧(∀ o ∈ os,o.Ok)∧(os≠[]→∃ b off,ao=some ⟨b,off,none⟩∧b < w.heap.size∧∀ i o,os[i]?=some o →
 w.cell? ⟨b,off + i * 5,none⟩=some (.int .i64 o.who)∧w.cell? ⟨b,off + i * 5 + 1,none⟩=some (.int .i64 o.k)∧w.cell? ⟨b,off + i * 5 + 2,none⟩=some (.int .i64 o.a)∧w.cell? ⟨b,off + i * 5 + 3,none⟩=some (.int .i64 o.b)∧∃ pv,w.cell? ⟨b,off + i * 5 + 4,none⟩=some pv∧Rd .i64 w pv o.put)
theorem RdO.ext {w w':World} {v:Value} {os:List Opv} (h:RdO w v os) (hb:Below w.heap.size w w'):RdO w' v os:=by
 obtain ⟨ao,cap,h1,h2,h3,h4,h5⟩:=h
 refine ⟨ao,cap,h1,h2,h3,h4,fun hn=>?_⟩
 obtain ⟨b,o,k1,k2,k3⟩:=h5 hn
 refine ⟨b,o,k1,Nat.lt_of_lt_of_le k2 hb.size,fun i x hx=>?_⟩
 obtain ⟨c0,c1,c2,c3,pv,c4,c5⟩:=k3 i x hx
 exact ⟨(hb.cell (p:=⟨b,_,none⟩) k2).trans c0,(hb.cell (p:=⟨b,_,none⟩) k2).trans c1,(hb.cell (p:=⟨b,_,none⟩) k2).trans c2,(hb.cell (p:=⟨b,_,none⟩) k2).trans c3,pv,(hb.cell (p:=⟨b,_,none⟩) k2).trans c4,c5.ext hb⟩
def Ask (K:Opv→Prop) (lo hi:Int):Prop:=∀ (enc:Int) (w:World) (g t:Nat) (A:List Int) (m:Nat) (o:Opv) (v:Value),BtW enc w g t A m→o.Ok→K o→Rd .i64 w v o.put→(∃ ap np cp,v=.slice ap np cp)→lo≤o.k→o.k≤hi →
 ((o.k=2∨o.k=5∨o.k=6)→Yes 101 w g o v)∧(o.k=3→Yes 102 w g o v)∧(o.k=7→Yes 104 w g o v)∧(o.k=8→Yes 105 w g o v)∧(o.k=9→Yes 106 w g o v)
theorem play_of {K:Opv→Prop} {lo hi enc:Int} {w:World} {g t:Nat} {A:List Int} {m:Nat} {o:Opv} {ap:Option Addr} {np cp:Nat} (q:Ask K lo hi) (h:BtW enc w g t A m) (hm:m≤199) (ho:o.Ok) (hk:K o) (hp:Rd .i64 w (.slice ap np cp) o.put) :
  Calls Tryz.prog 72 #[.pointer (some ⟨g,0,none⟩),o.val (.slice ap np cp),.int .i64 lo,.int .i64 hi] w fun e w'=>e=.returned (.bool true)∧Hid (StO enc w g t m w') :=
 played_any lo hi enc w g t A m o ap np cp h hm ho hp (fun x y=>(q enc w g t A m o _ h ho hk hp ⟨_,_,_,rfl⟩ x y).1) (fun x y=>(q enc w g t A m o _ h ho hk hp ⟨_,_,_,rfl⟩ x y).2.1) (fun x y=>(q enc w g t A m o _ h ho hk hp ⟨_,_,_,rfl⟩ x y).2.2.1) (fun x y=>(q enc w g t A m o _ h ho hk hp ⟨_,_,_,rfl⟩ x y).2.2.2.1) (fun x y=>(q enc w g t A m o _ h ho hk hp ⟨_,_,_,rfl⟩ x y).2.2.2.2)
structure RnI (w:World) (e1 e2:Int) (ga t1 gb t2 i:Nat) (wr:World):Prop where
 a:∃ A,BtW e1 wr ga t1 A i
 b:∃ A,BtW e2 wr gb t2 A i
 ng:ga≠gb
 nt:t1≠t2
 lo:w.heap.size≤ga∧w.heap.size≤t1∧w.heap.size≤gb∧w.heap.size≤t2
 bel:Below w.heap.size w wr
theorem RnI.stepA {w:World} {e1 e2:Int} {ga t1 gb t2 i:Nat} {wr w':World} (h:RnI w e1 e2 ga t1 gb t2 i wr) (hs:StO e1 wr ga t1 i w'):RnI w e1 e2 ga t1 gb t2 (i + 1) w':=by
 obtain ⟨A,ha⟩:=h.a
 obtain ⟨B,hb⟩:=h.b
 refine ⟨hs.1,⟨B,hb.oth ha hs.2 h.ng.symm h.nt.symm⟩,h.ng,h.nt,h.lo,h.bel.trans (hs.2.below h.bel.size fun k hk=>?_)⟩
 rcases hk with rfl | rfl
 ·exact h.lo.1
 ·exact h.lo.2.1
theorem RnI.stepB {w:World} {e1 e2:Int} {ga t1 gb t2 i:Nat} {wr w':World} (h:RnI w e1 e2 ga t1 gb t2 i wr) (hs:StO e2 wr gb t2 i w'):RnI w e1 e2 ga t1 gb t2 (i + 1) w':=by
 obtain ⟨A,ha⟩:=h.a
 obtain ⟨B,hb⟩:=h.b
 refine ⟨⟨A,ha.oth hb hs.2 h.ng h.nt⟩,hs.1,h.ng,h.nt,h.lo,h.bel.trans (hs.2.below h.bel.size fun k hk=>?_)⟩
 rcases hk with rfl | rfl
 ·exact h.lo.2.2.1
 ·exact h.lo.2.2.2
set_option maxRecDepth 100000 in
set_option maxHeartbeats 8000000 in
theorem run_any (K:Opv→Prop) (lo hi:Int) (Q:Ask K lo hi) (x1 x2:Int) (ad1 ad2:Option Addr) (nd1 cd1 nd2 cd2:Nat) (D1 D2:List Int) (v:Value) (os:List Opv) (w:World) (hD1:Rd .u8 w (.slice ad1 nd1 cd1) D1) (hB1:Byt D1) (hD2:Rd .u8 w (.slice ad2 nd2 cd2) D2) (hB2:Byt D2) (hO:RdO w v os) (hK:∀ o ∈ os,K o) :
  Calls Tryz.prog 49 #[.agg #[.int .i64 x1,.slice ad1 nd1 cd1],.agg #[.int .i64 x2,.slice ad2 nd2 cd2],v,.int .i64 lo,.int .i64 hi] w fun e w'=>e=.returned (.bool true)∧Below w.heap.size w w':=by
 obtain ⟨ao,cap,rfl,ho1,ho2,ho3,ho4⟩:=id hO
 have HO:=hidIt hO
 have HKS:=hidIt hK
 obtain ⟨w0,hw0⟩:∃ w0,w0=(w.alloc (.cells #[.int .i64 x1,.slice ad1 nd1 cd1] 24)).alloc (.cells #[.int .i64 x2,.slice ad2 nd2 cd2] 24):=⟨_,rfl⟩
 have HS0:Hid (w0.heap[w.heap.size]?=some (.cells #[.int .i64 x1,.slice ad1 nd1 cd1] 24 (0,0))∧w0.heap[w.heap.size + 1]?=some (.cells #[.int .i64 x2,.slice ad2 nd2 cd2] 24 (0,0))∧Below w.heap.size w w0∧w0.heap.size=w.heap.size + 2):=by
  obtain ⟨v1,hv1⟩:∃ v,v=w.alloc (.cells #[.int .i64 x1,.slice ad1 nd1 cd1] 24):=⟨_,rfl⟩
  rw [← hv1] at hw0
  have s1:v1.heap.size=w.heap.size + 1:=by rw [hv1];simp
  have b1:Below w.heap.size w v1:=by rw [hv1];exact ext_alloc (Below.refl _ _) _
  have b2:Below v1.heap.size v1 w0:=by rw [hw0];exact ext_alloc (Below.refl _ _) _
  refine ⟨(b2.block _ (by omega)).trans (by rw [hv1];exact heap_alloc_new _ _),?_,ext_trans b1 b2,by rw [hw0];simp [s1]⟩
  rw [← s1,hw0];exact heap_alloc_new _ _
 have HB0:=hidIt HS0.out.2.2.1
 have O1:=hidIt (opened_any x1 (.slice ad1 nd1 cd1) D1 w0 (hD1.ext HB0.out) hB1)
 have O2:Hid (∀ w',Below w.heap.size w w'→Calls Tryz.prog 18 #[.agg #[.int .i64 x2,.slice ad2 nd2 cd2]] w' fun e w''=>∃ t v,e=.returned (.tuple #[.agg #[.pointer (some ⟨t,0,none⟩),v],.bool true])∧Hid (OpO w' t v w'')∧Below w'.heap.size w' w''):=fun w' hb=>opened_any x2 (.slice ad2 nd2 cd2) D2 w' (hD2.ext hb) hB2
 obtain ⟨_,c0,c1,_⟩:=cells2 HS0.out.1
 clear hD1 hD2 hB1 hB2 hO ho3 ho4 hK
 go_enter Tryz.func49,Tryz.ntmps49
 go_upto_region 1 with fail
 rw [← hw0]
 clear hw0
 go_upto_region 2 with (go_at_call 18;refine O1.out.mono ?_;rintro e w1 ⟨t1,v1,rfl,hop,hb⟩;obtain ⟨enc1,A1,hen,hoi,htz,hln,hle⟩:=hop.out;obtain ⟨a1,k1,hv⟩:=hoi.form;generalize hnn:A1.length=n1 at hv;clear hnn;subst hv;have HP1:=hidIt (And.intro hen (And.intro hoi (And.intro htz (And.intro hln hle))));have HB1:=hidIt hb;clear hop hb hen hoi htz hln hle;(try dsimp only))
 generalize hw2:World.alloc _ _=w2
 have HK2:Hid (w2.heap[w1.heap.size]?=some (.cells #[.pointer (some ⟨t1,0,none⟩),.slice a1 n1 k1] 29 (0,0))∧Below w1.heap.size w1 w2):=by unfold Hid;rw [← hw2];exact ⟨heap_alloc_new _ _,ext_alloc (Below.refl _ _) _⟩
 have HZ2:=hidIt (show w2.heap.size=w1.heap.size + 1 by rw [← hw2];simp)
 clear hw2 c0 c1
 have HT1:Hid (BtW enc1 w2 w1.heap.size t1 A1 0):=⟨⟨_,HK2.out.1,(HP1.out.2.1.ext HK2.out.2).le (Nat.zero_le _)⟩,HP1.out.2.2.1.ext HK2.out.2,by have:=HP1.out.2.2.2.1;omega,HP1.out.1⟩
 have hlen:=HT1.out.tz.len
 have HW2:=hidIt (ext_trans HB0.out (ext_trans HB1.out HK2.out.2))
 have CN:Hid (∀ w',Below w2.heap.size w2 w'→Calls Tryz.prog 19 #[.pointer (some ⟨t1,0,none⟩)] w' fun e w''=>e=.returned (.int .i64 (cnt enc1 A1))∧Below w'.heap.size w' w''):=fun w' hb=>Count_z enc1 w' t1 A1 (HT1.out.tz.ext hb)
 have RC:Hid (∀ w',Below w2.heap.size w2 w'→Calls Tryz.prog 71 #[.slice a1 n1 k1] w' fun e w''=>e=.returned (.int .i64 (cnt enc1 A1))∧Below w'.heap.size w' w''):=fun w' hb=>rCount_any enc1 _ A1 w' ((HP1.out.2.1.ext HK2.out.2).ext hb).rdi hlen
 have HS:Hid (∀ w',Below w2.heap.size w2 w'→w'.cell? ⟨w1.heap.size,0,none⟩=some (.pointer (some ⟨t1,0,none⟩))∧w'.cell? ⟨w1.heap.size,1,none⟩=some (.slice a1 n1 k1)):=fun w' hb=>⟨(hb.cell (p:=⟨w1.heap.size,0,none⟩) HT1.out.lt).trans (cells2 HK2.out.1).2.1,(hb.cell (p:=⟨w1.heap.size,1,none⟩) HT1.out.lt).trans (cells2 HK2.out.1).2.2.1⟩
 have ks:=HS.out w2 (Below.refl _ _)
 generalize cnt enc1 A1=z at *
 refine wp_region_held_drew (S:=fun w''=>w''.cell? ⟨w1.heap.size,0,none⟩=some (.pointer (some ⟨t1,0,none⟩))∧w''.cell? ⟨w1.heap.size,1,none⟩=some (.slice a1 n1 k1)) (by kernel_rfl) (ks) (fun hHeld=>?_)
 refine tkH 0 rfl ?_
 try simp only [Act.put,tS]
 refine tkH 1 rfl ?_
 try simp only [Act.put,tS]
 refine tkH 2 rfl ?_
 try simp only [Act.put,tS]
 refine tkH 3 rfl ?_
 try simp only [Act.put,tS]
 refine tkH 4 rfl ?_
 try simp only [Act.put,tS]
 refine tkH 6 rfl ?_
 try simp only [Act.put,tS]
 refine tkH 7 rfl ?_
 try simp only [Act.put,tS]
 refine rdH 5 rfl fun K hK=>?_
 go_simp
 refine (CN.out _ (Below.drew (Below.refl _ _))).mono ?_;clear ks;rintro e y2 ⟨rfl,hb⟩;have Hy2:=hidIt (ext_trans (Below.drew (Below.refl w2.heap.size w2)) hb);clear hb;have ks:=HS.out y2 Hy2.out;try dsimp only
 refine hK.out _ _ ?_ (fun hHeld=>?_)
 ·(try simp only [World.cell?_drew]);exact ks
 clear hK K
 try simp only [Act.put,tS]
 refine rdH 8 rfl fun K hK=>?_
 go_simp
 refine (RC.out _ Hy2.out).mono ?_;clear ks;rintro e y3 ⟨rfl,hb⟩;have Hy3:=hidIt (ext_trans Hy2.out hb);clear hb;have ks:=HS.out y3 Hy3.out;try dsimp only
 refine hK.out _ _ ?_ (fun hHeld=>?_)
 ·(try simp only [World.cell?_drew]);exact ks
 clear hK K
 try simp only [Act.put,tS]
 refine tkH 9 rfl ?_
 try simp only [Act.put,tS]
 refine tkH 10 rfl ?_
 try simp only [Act.put,tS]
 refine wpAnyH_done (by kernel_rfl) ?_ _
 have HY:=hidIt (ext_trans HW2.out Hy3.out)
 obtain ⟨_,c0,c1,_⟩:=cells2 (((ext_trans HB1.out (ext_trans HK2.out.2 Hy3.out)).block _ (Array.getElem?_eq_some_iff.1 HS0.out.2.1).1).trans HS0.out.2.1)
 have O2':=hidIt (O2.out y3 HY.out)
 clear ks hHeld
 go_upto_region 5 with (go_at_call 18;refine O2'.out.mono ?_;rintro e w4 ⟨t2,v2,rfl,hop,hb⟩;obtain ⟨enc2,A2,hen,hoi,htz,hln,hle⟩:=hop.out;obtain ⟨a2,k2,hv⟩:=hoi.form;generalize hnn:A2.length=n2 at hv;clear hnn;subst hv;have HP2:=hidIt (And.intro hen (And.intro hoi (And.intro htz (And.intro hln hle))));have HB2:=hidIt hb;clear hop hb hen hoi htz hln hle;(try dsimp only))
 generalize hw5:World.alloc _ _=w5
 have HK5:Hid (w5.heap[w4.heap.size]?=some (.cells #[.pointer (some ⟨t2,0,none⟩),.slice a2 n2 k2] 29 (0,0))∧Below w4.heap.size w4 w5):=by unfold Hid;rw [← hw5];exact ⟨heap_alloc_new _ _,ext_alloc (Below.refl _ _) _⟩
 clear hw5 c0 c1
 have HT2:Hid (BtW enc2 w5 w4.heap.size t2 A2 0):=⟨⟨_,HK5.out.1,(HP2.out.2.1.ext HK5.out.2).le (Nat.zero_le _)⟩,HP2.out.2.2.1.ext HK5.out.2,by have:=HP2.out.2.2.2.1;omega,HP2.out.1⟩
 have HI0:Hid (RnI w enc1 enc2 w1.heap.size t1 w4.heap.size t2 0 w5):=by
  have r1:Below w2.heap.size w2 w5:=ext_trans Hy3.out (ext_trans HB2.out HK5.out.2)
  have s1:=HZ2.out
  have s2:=Hy3.out.size
  have s3:=HB2.out.size
  have s4:=HT1.out.tz.lt
  have s5:=HP2.out.2.2.2.2
  have s6:=HP1.out.2.2.2.2
  have s7:=HB0.out.size
  have s8:=HB1.out.size
  exact ⟨⟨_,HT1.out.ext r1⟩,⟨_,HT2.out⟩,by omega,by omega,⟨by omega,by omega,by omega,by omega⟩,ext_trans HW2.out r1⟩
 generalize w1.heap.size=ga at *
 generalize w4.heap.size=gb at *
 clear HT2 HK5 HP2 HB2 O2' O2 HY Hy3 Hy2 HS RC CN HW2 HT1 HZ2 HK2 HP1 HB1 O1 HB0 HS0 hlen
 go_wp2_with fail
 go_loopg [12,14] 200 (fun gk kv p wr=>∃ i:Nat,i + gk=200∧p=.int .i64 (i:Nat)∧kv=.bool true∧Hid (RnI w enc1 enc2 ga t1 gb t2 i wr))
 case atStart=>exact ⟨0,by omega,rfl,rfl,HI0.out⟩
 case round =>
  obtain ⟨i,hig,rfl,rfl,HI⟩:=hrel
  by_cases hlt:i < os.length
  ·have hltI:(i:Int) < (os.length:Int):=by omega
   by_cases h200:(i:Int) < 200
   ·obtain ⟨ao',cap',e1,_,_,hok,r5⟩:=HO.out.ext HI.out.bel
    simp only [Value.slice.injEq,true_and] at e1
    obtain ⟨rfl,rfl⟩:=e1
    obtain ⟨b,off,rfl,hbl,hc⟩:=r5 (by intro e;subst e;simp at hlt)
    obtain ⟨o,ho⟩:∃ o,os[i]?=some o:=⟨_,List.getElem?_eq_getElem hlt⟩
    have HOK:=hidIt (hok o (List.mem_of_getElem? ho))
    have HKO:=hidIt (HKS.out o (List.mem_of_getElem? ho))
    obtain ⟨c0,c1,c2,c3,pv,c4,hr⟩:=hc i o ho
    obtain ⟨ap,cp,hpv,_⟩:=id hr
    generalize hnp:o.put.length=np at hpv
    clear hnp
    subst hpv
    have HR:=hidIt hr
    have h199:i≤199:=by omega
    clear hc hok r5 ho hr
    by_cases hw:o.who=0
    ·obtain ⟨A,ha⟩:=HI.out.a
     have PA:Hid (Calls Tryz.prog 72 #[.pointer (some ⟨ga,0,none⟩),.agg #[.int .i64 o.who,.int .i64 o.k,.int .i64 o.a,.int .i64 o.b,.slice ap np cp],.int .i64 lo,.int .i64 hi] wr fun e w'=>e=.returned (.bool true)∧Hid (StO enc1 wr ga t1 i w')):=play_of Q ha h199 HOK.out HKO.out HR.out
     rw [hw] at PA
     clear ha
     go_wp2_with (go_at_call 72;refine PA.out.mono ?_;rintro e w9 ⟨rfl,hst⟩;have HN:=hidIt (HI.out.stepA hst.out);clear hst;(try dsimp only))
     go_roundg (200 - (i + 1))
     case rel=>exact ⟨i + 1,by omega,by go_num,rfl,HN.out⟩
     case measure=>omega
    ·have hwb:(o.who == 0)=false:=by simp [hw]
     obtain ⟨A,ha⟩:=HI.out.b
     have PA:Hid (Calls Tryz.prog 72 #[.pointer (some ⟨gb,0,none⟩),.agg #[.int .i64 o.who,.int .i64 o.k,.int .i64 o.a,.int .i64 o.b,.slice ap np cp],.int .i64 lo,.int .i64 hi] wr fun e w'=>e=.returned (.bool true)∧Hid (StO enc2 wr gb t2 i w')):=play_of Q ha h199 HOK.out HKO.out HR.out
     clear ha
     go_wp2_with (go_at_call 72;refine PA.out.mono ?_;rintro e w9 ⟨rfl,hst⟩;have HN:=hidIt (HI.out.stepB hst.out);clear hst;(try dsimp only))
     go_roundg (200 - (i + 1))
     case rel=>exact ⟨i + 1,by omega,by go_num,rfl,HN.out⟩
     case measure=>omega
   ·go_wp2_with fail
    go_ret
    exact ⟨rfl,HI.out.bel⟩
  ·have hnl:¬ (i:Int) < (os.length:Int):=by omega
   go_wp2_with fail
   go_ret
   exact ⟨rfl,HI.out.bel⟩
end Go.Proofs.YtjomfbegghgbdaaGreat.P
