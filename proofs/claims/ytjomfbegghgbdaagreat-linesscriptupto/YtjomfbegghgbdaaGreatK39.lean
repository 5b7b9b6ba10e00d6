import Derived.Test.YtjomfbegghgbdaaGreatK38
import Derived.Test.YtjomfbegghgbdaaGreatK37
set_option maxRecDepth 100000
namespace Go.Proofs.YtjomfbegghgbdaaGreat.P
open Go.RowKit
theorem width_any (k:Int) (w:World):Calls Tryz.prog 63 #[.int .i64 k] w fun e w'=>e=.returned (.int .i64 (wid k))∧w'=w:=by
 by_cases h:k=2
 ·subst h
  go_enter Tryz.func63,Tryz.ntmps63
  go_wp2_with fail
  go_ret
  exact ⟨rfl,rfl⟩
 ·have e:wid k=1:=by unfold wid;rw [if_neg h]
  have hb:(k == 2)=false:=by simp [h]
  rw [e]
  clear e
  go_enter Tryz.func63,Tryz.ntmps63
  go_wp2_with fail
  go_ret
  exact ⟨rfl,rfl⟩
theorem sub_ahead (A:List Int) (p:Nat) (h1:1≤p) (h2:p≤A.length):∃ y,A[p - 1]?=some y∧((p=1∧sub A ((p:Int) - 2) (p:Nat)=[y])∨(2≤p∧∃ x,A[p - 2]?=some x∧sub A ((p:Int) - 2) (p:Nat)=[x,y])):=by
 obtain ⟨y,hy⟩:∃ y,A[p - 1]?=some y:=⟨_,List.getElem?_eq_getElem (by omega)⟩
 refine ⟨y,hy,?_⟩
 by_cases hp:p=1
 ·subst hp
  refine .inl ⟨rfl,?_⟩
  unfold sub clp
  rw [if_neg (by omega)]
  simp only
  rw [show (max (((1:Nat):Int) - 2) 0).toNat=0 by omega,show (min ((1:Nat):Int) (A.length:Int)).toNat - 0=1 by omega,drop_of hy]
  rfl
 ·obtain ⟨x,hx⟩:∃ x,A[p - 2]?=some x:=⟨_,List.getElem?_eq_getElem (by omega)⟩
  refine .inr ⟨by omega,x,hx,?_⟩
  unfold sub clp
  rw [if_neg (by omega)]
  simp only
  rw [show (max ((p:Int) - 2) 0).toNat=p - 2 by omega,show (min (p:Int) (A.length:Int)).toNat - (p - 2)=2 by omega,drop_of hx,show p - 2 + 1=p - 1 by omega,drop_of hy]
  rfl
theorem kindAhead_any (enc:Int) (w:World) (t:Nat) (A:List Int) (p:Nat) (h:Tz enc w t A) (h1:1≤p) (h2:p≤A.length):Calls Tryz.prog 62 #[.pointer (some ⟨t,0,none⟩),.int .i64 (p:Nat)] w fun e w'=>e=.returned (.int .i64 (knd A p))∧Below w.heap.size w w':=by
 have hlA:=h.len
 have w2:IntKind.i64.wrap ((p:Int) - 2)=(p:Int) - 2:=by rw [IntKind.wrap_i64];omega
 have AT:=zh (Atoms_z enc w t A ((p:Int) - 2) (p:Nat) h)
 obtain ⟨y,hy,hc⟩:=sub_ahead A p h1 h2
 rcases hc with ⟨hp,hs⟩ | ⟨hp,x,hx,hs⟩
 ·rw [hs] at AT
  by_cases q1:y=13
  ·have HE:=zh (show knd A p=3 by unfold knd;rw [if_pos (by rw [hy,q1])])
   rw [q1] at AT
   clear hy hs h h1 h2 hp q1
   go_enter Tryz.func62,Tryz.ntmps62
   go_wp2_with (go_at_call 32;refine AT.out.mono ?_;rintro e w1 ⟨v,rfl,ho,hb⟩;obtain ⟨g,cap,rfl,hg,hl,hm,hcc⟩:=OwnI.row ho (by simp);have c0:w1.cell? ⟨g,0,none⟩=some (.int .i64 13):=hcc 0 _ rfl;have HB:=zh hb;clear hb ho hcc;(try dsimp only [List.length_cons,List.length_nil,Nat.zero_add] at *))
   go_ret
   exact ⟨by rw [HE.out];rfl,HB.out⟩
  ·have HE:=zh (show knd A p=1 by unfold knd;rw [if_neg (by rw [hy];simpa using q1),if_neg (by omega)])
   have hyb:(y == 13)=false:=by simpa using q1
   clear hy hs h h1 h2 hp
   go_enter Tryz.func62,Tryz.ntmps62
   go_wp2_with (go_at_call 32;refine AT.out.mono ?_;rintro e w1 ⟨v,rfl,ho,hb⟩;obtain ⟨g,cap,rfl,hg,hl,hm,hcc⟩:=OwnI.row ho (by simp);have c0:w1.cell? ⟨g,0,none⟩=some (.int .i64 y):=hcc 0 _ rfl;have HB:=zh hb;clear hb ho hcc;(try dsimp only [List.length_cons,List.length_nil,Nat.zero_add] at *))
   go_ret
   exact ⟨by rw [HE.out];rfl,HB.out⟩
 ·rw [hs] at AT
  by_cases q1:y=13
  ·have HE:=zh (show knd A p=3 by unfold knd;rw [if_pos (by rw [hy,q1])])
   rw [q1] at AT
   clear hy hx hs h h1 h2 hp q1
   go_enter Tryz.func62,Tryz.ntmps62
   go_wp2_with (go_at_call 32;refine AT.out.mono ?_;rintro e w1 ⟨v,rfl,ho,hb⟩;obtain ⟨g,cap,rfl,hg,hl,hm,hcc⟩:=OwnI.row ho (by simp);have c0:w1.cell? ⟨g,0,none⟩=some (.int .i64 x):=hcc 0 _ rfl;have c1:w1.cell? ⟨g,1,none⟩=some (.int .i64 13):=hcc 1 _ rfl;have HB:=zh hb;clear hb ho hcc;(try dsimp only [List.length_cons,List.length_nil,Nat.zero_add] at *))
   go_ret
   exact ⟨by rw [HE.out];rfl,HB.out⟩
  ·have hyb:(y == 13)=false:=by simpa using q1
   by_cases q2:x=13
   ·have HE:=zh (show knd A p=2 by unfold knd;rw [if_neg (by rw [hy];simpa using q1),if_pos ⟨hp,by rw [hx,q2]⟩])
    rw [q2] at AT
    clear hy hx hs h h1 h2 hp q2
    go_enter Tryz.func62,Tryz.ntmps62
    go_wp2_with (go_at_call 32;refine AT.out.mono ?_;rintro e w1 ⟨v,rfl,ho,hb⟩;obtain ⟨g,cap,rfl,hg,hl,hm,hcc⟩:=OwnI.row ho (by simp);have c0:w1.cell? ⟨g,0,none⟩=some (.int .i64 13):=hcc 0 _ rfl;have c1:w1.cell? ⟨g,1,none⟩=some (.int .i64 y):=hcc 1 _ rfl;have HB:=zh hb;clear hb ho hcc;(try dsimp only [List.length_cons,List.length_nil,Nat.zero_add] at *))
    go_ret
    exact ⟨by rw [HE.out];rfl,HB.out⟩
   ·have HE:=zh (show knd A p=1 by unfold knd;rw [if_neg (by rw [hy];simpa using q1),if_neg (by rw [hx];simpa using fun _=>q2)])
    have hxb:(x == 13)=false:=by simpa using q2
    clear hy hx hs h h1 h2 hp
    go_enter Tryz.func62,Tryz.ntmps62
    go_wp2_with (go_at_call 32;refine AT.out.mono ?_;rintro e w1 ⟨v,rfl,ho,hb⟩;obtain ⟨g,cap,rfl,hg,hl,hm,hcc⟩:=OwnI.row ho (by simp);have c0:w1.cell? ⟨g,0,none⟩=some (.int .i64 x):=hcc 0 _ rfl;have c1:w1.cell? ⟨g,1,none⟩=some (.int .i64 y):=hcc 1 _ rfl;have HB:=zh hb;clear hb ho hcc;(try dsimp only [List.length_cons,List.length_nil,Nat.zero_add] at *))
    go_ret
    exact ⟨by rw [HE.out];rfl,HB.out⟩
set_option maxHeartbeats 4000000 in
theorem At_z (enc:Int) (w:World) (t:Nat) (A:List Int) (k:Int) (h:Tz enc w t A):Calls Tryz.prog 27 #[.pointer (some ⟨t,0,none⟩),.int .i64 k] w fun e w'=>e=.returned (.tuple #[.agg #[.int .i64 (lnA enc A k).f,.int .i64 (lnA enc A k).t,.int .i64 (lnA enc A k).n,.int .i64 (lnA enc A k).b],.int .i64 (lnE enc A k)])∧Below w.heap.size w w':=by
 obtain ⟨w0,hw0,kk0,hb0⟩:∃ w0,w0=w.alloc (.cells #[.int .i64 0,.int .i64 0,.int .i64 0,.int .i64 0] 50)∧w0.heap[w.heap.size]?=some (.cells #[.int .i64 0,.int .i64 0,.int .i64 0,.int .i64 0] 50 (0,0))∧Below w.heap.size w w0:=⟨_,rfl,heap_alloc_new _ _,zxa (Below.refl _ _) _⟩
 have hl:=h.len
 have HT:=zh (h.ext hb0)
 have HB0:=zh hb0
 have HK0:=zh kk0
 obtain ⟨B,hB⟩:∃ B:Nat,(spn enc A).b=B:=⟨(spn enc A).b.toNat,by have:=spn_nn enc A;omega⟩
 have hBl:B≤A.length:=by have:=spn_len enc A;omega
 have LN:=zh (Len_z enc w0 t A HT.out)
 have BR:Hid (∀ w',Below w0.heap.size w0 w'→Calls Tryz.prog 52 #[.pointer (some ⟨t,0,none⟩),.int .i64 (A.length:Nat)] w' fun e w''=>e=.returned (.int .i64 (B:Nat))∧Below w'.heap.size w' w''):=fun w' hb=>by
  have:=Breaks_z enc w' t A (A.length:Nat) (HT.out.ext hb)
  rw [brk_at,bAt_len enc A _ (by simp),hB] at this
  exact this
 have SK:Hid (∀ w' q,Below w0.heap.size w0 w'→Calls Tryz.prog 61 #[.pointer (some ⟨t,0,none⟩),.int .i64 q] w' fun e w''=>e=.returned (.int .i64 (skA enc A q))∧Below w'.heap.size w' w''):=fun w' q hb=>Seek_z enc w' t A q (HT.out.ext hb)
 have CL:Hid (∀ w1,Below w0.heap.size w0 w1→w1.heap[w.heap.size]?=some (.cells #[.int .i64 0,.int .i64 0,.int .i64 0,.int .i64 0] 50 (0,0))):=fun w1 hb=>(hb.block _ (Array.getElem?_eq_some_iff.1 HK0.out).1).trans HK0.out
 clear hb0 kk0 h
 by_cases h0:k < 0
 ·have HE:Hid (lnA enc A k=⟨0,0,0,0⟩∧lnE enc A k=2):=⟨by unfold lnA;rw [if_pos (.inl h0)],by unfold lnE;rw [if_pos (.inl h0)]⟩
  clear hB
  go_enter Tryz.func27,Tryz.ntmps27
  go_upto_region 1 with fail
  rw [← hw0]
  clear hw0
  go_upto_region 3 with (first
   | (go_at_call 53;refine LN.out.mono ?_;rintro e w1 ⟨rfl,hb⟩;have HB1:=zh hb;clear hb;(try dsimp only))
   | (go_at_call 52;refine (BR.out _ HB1.out).mono ?_;rintro e w2 ⟨rfl,hb⟩;have HB2:=zh (zxt HB1.out hb);clear hb;(try dsimp only)))
  obtain ⟨hlt,c0,c1,c2,c3,fz⟩:=cells4 (CL.out _ HB2.out)
  go_wp2_with fail
  exact bodyPost_ret (v:=.tuple #[.agg #[.int .i64 0,.int .i64 0,.int .i64 0,.int .i64 0],.int .i64 2]) (by simp [results,Tryz.results27,go_sem,c0,c1,c2,c3]) rfl ⟨by rw [HE.out.1,HE.out.2],below4 HB0.out (CL.out _ HB2.out) HB2.out _ _ _ _⟩
 by_cases h1:(B:Int) < k
 ·have HE:Hid (lnA enc A k=⟨0,0,0,0⟩∧lnE enc A k=2):=⟨by unfold lnA;rw [if_pos (.inr (by omega))],by unfold lnE;rw [if_pos (.inr (by omega))]⟩
  clear hB
  go_enter Tryz.func27,Tryz.ntmps27
  go_upto_region 1 with fail
  rw [← hw0]
  clear hw0
  go_upto_region 3 with (first
   | (go_at_call 53;refine LN.out.mono ?_;rintro e w1 ⟨rfl,hb⟩;have HB1:=zh hb;clear hb;(try dsimp only))
   | (go_at_call 52;refine (BR.out _ HB1.out).mono ?_;rintro e w2 ⟨rfl,hb⟩;have HB2:=zh (zxt HB1.out hb);clear hb;(try dsimp only)))
  obtain ⟨hlt,c0,c1,c2,c3,fz⟩:=cells4 (CL.out _ HB2.out)
  go_wp2_with fail
  exact bodyPost_ret (v:=.tuple #[.agg #[.int .i64 0,.int .i64 0,.int .i64 0,.int .i64 0],.int .i64 2]) (by simp [results,Tryz.results27,go_sem,c0,c1,c2,c3]) rfl ⟨by rw [HE.out.1,HE.out.2],below4 HB0.out (CL.out _ HB2.out) HB2.out _ _ _ _⟩
 have HE:Hid (lnA enc A k=lnK enc A k∧lnE enc A k=0):=⟨by unfold lnA;rw [if_neg (by omega)],by unfold lnE;rw [if_neg (by omega)]⟩
 obtain ⟨i,rfl⟩:∃ i:Nat,k=i:=⟨k.toNat,by omega⟩
 have hiB:i≤B:=by omega
 have S1:Hid (∀ w',Below w0.heap.size w0 w'→Calls Tryz.prog 61 #[.pointer (some ⟨t,0,none⟩),.int .i64 (i:Nat)] w' fun e w''=>e=.returned (.int .i64 (skA enc A (i:Nat)))∧Below w'.heap.size w' w''):=fun w' hb=>SK.out w' _ hb
 rcases Nat.lt_or_eq_of_le hiB with h2 | h2
 ·obtain ⟨p,hp,hp1,hp2,_⟩:=skA_at enc A ((i:Int) + 1) (by omega) (by omega)
  have HY:Hid (lnK enc A (i:Nat)=⟨skA enc A (i:Nat),(p:Nat) - wid (knd A p),(p:Nat),knd A p⟩):=by
   unfold Hid lnK
   rw [if_neg (by omega),hp]
   simp
  have hwd:1≤wid (knd A p)∧wid (knd A p)≤2:=by unfold wid;split <;> omega
  have S2:Hid (∀ w',Below w0.heap.size w0 w'→Calls Tryz.prog 61 #[.pointer (some ⟨t,0,none⟩),.int .i64 ((i:Int) + 1)] w' fun e w''=>e=.returned (.int .i64 (p:Nat))∧Below w'.heap.size w' w''):=fun w' hb=>by
   have:=SK.out w' ((i:Int) + 1) hb
   rwa [hp] at this
  have KA:Hid (∀ w',Below w0.heap.size w0 w'→Calls Tryz.prog 62 #[.pointer (some ⟨t,0,none⟩),.int .i64 (p:Nat)] w' fun e w''=>e=.returned (.int .i64 (knd A p))∧Below w'.heap.size w' w''):=fun w' hb=>kindAhead_any enc w' t A p (HT.out.ext hb) hp1 hp2
  have WD:Hid (∀ w',Calls Tryz.prog 63 #[.int .i64 (knd A p)] w' fun e w''=>e=.returned (.int .i64 (wid (knd A p)))∧w''=w'):=fun w'=>width_any _ w'
  have hwi:IntKind.i64.wrap ((i:Int) + 1)=(i:Int) + 1:=by rw [IntKind.wrap_i64];omega
  have hws:IntKind.i64.wrap ((p:Int) - wid (knd A p))=(p:Int) - wid (knd A p):=by rw [IntKind.wrap_i64];omega
  have hne:¬ ((i:Int)=(B:Int)):=by omega
  have hne':((i:Int) == (B:Int))=false:=by simp;omega
  generalize knd A p=kd at *
  generalize wid kd=wk at *
  generalize skA enc A (i:Nat)=f at *
  clear hB hp SK hwd
  go_enter Tryz.func27,Tryz.ntmps27
  go_upto_region 1 with fail
  rw [← hw0]
  clear hw0
  go_upto_region 3 with (first
   | (go_at_call 53;refine LN.out.mono ?_;rintro e w1 ⟨rfl,hb⟩;have HB1:=zh hb;clear hb;(try dsimp only))
   | (go_at_call 52;refine (BR.out _ HB1.out).mono ?_;rintro e w2 ⟨rfl,hb⟩;have HB2:=zh (zxt HB1.out hb);clear hb;(try dsimp only)))
  go_upto_region 6 with (go_at_call 61;refine (S1.out _ HB2.out).mono ?_;rintro e w3 ⟨rfl,hb⟩;have HB3:=zh (zxt HB2.out hb);clear hb;(try dsimp only))
  go_upto_region 9 with (go_at_call 61;refine (S2.out _ HB3.out).mono ?_;rintro e w4 ⟨rfl,hb⟩;have HB4:=zh (zxt HB3.out hb);clear hb;(try dsimp only))
  go_upto_region 10 with (go_at_call 62;refine (KA.out _ HB4.out).mono ?_;rintro e w5 ⟨rfl,hb⟩;have HB5:=zh (zxt HB4.out hb);clear hb;(try dsimp only))
  obtain ⟨hlt,c0,c1,c2,c3,fz⟩:=cells4 (CL.out _ HB5.out)
  go_wp2_with (go_at_call 63;refine (WD.out _).mono ?_;rintro e w6 ⟨rfl,hb⟩;subst hb;(try dsimp only))
  exact bodyPost_ret (v:=.tuple #[.agg #[.int .i64 f,.int .i64 ((p:Nat) - wk),.int .i64 (p:Nat),.int .i64 kd],.int .i64 0]) (by simp [results,Tryz.results27,go_sem,c0,c1,c2,c3]) rfl ⟨by rw [HE.out.1,HE.out.2,HY.out],below4 HB0.out (CL.out _ HB5.out) HB5.out _ _ _ _⟩
 ·subst h2
  have HY:Hid (lnK enc A (i:Nat)=⟨skA enc A (i:Nat),(A.length:Nat),(A.length:Nat),0⟩):=by
   unfold Hid lnK
   rw [if_pos hB.symm]
  generalize skA enc A (i:Nat)=f at *
  clear hB SK
  go_enter Tryz.func27,Tryz.ntmps27
  go_upto_region 1 with fail
  rw [← hw0]
  clear hw0
  go_upto_region 3 with (first
   | (go_at_call 53;refine LN.out.mono ?_;rintro e w1 ⟨rfl,hb⟩;have HB1:=zh hb;clear hb;(try dsimp only))
   | (go_at_call 52;refine (BR.out _ HB1.out).mono ?_;rintro e w2 ⟨rfl,hb⟩;have HB2:=zh (zxt HB1.out hb);clear hb;(try dsimp only)))
  go_upto_region 6 with (go_at_call 61;refine (S1.out _ HB2.out).mono ?_;rintro e w3 ⟨rfl,hb⟩;have HB3:=zh (zxt HB2.out hb);clear hb;(try dsimp only))
  obtain ⟨hlt,c0,c1,c2,c3,fz⟩:=cells4 (CL.out _ HB3.out)
  go_wp2_with fail
  exact bodyPost_ret (v:=.tuple #[.agg #[.int .i64 f,.int .i64 (A.length:Nat),.int .i64 (A.length:Nat),.int .i64 0],.int .i64 0]) (by simp [results,Tryz.results27,go_sem,c0,c1,c2,c3]) rfl ⟨by rw [HE.out.1,HE.out.2,HY.out],below4 HB0.out (CL.out _ HB3.out) HB3.out _ _ _ _⟩
open Go.RowKit
def tl (b f n:Int):Bool:=decide (0 < b∧f=n)
theorem isTail_any (b f n:Int) (w:World):Calls Tryz.prog 54 #[.int .i64 b,.agg #[.int .i64 f,.int .i64 n,.int .i64 n,.int .i64 0]] w fun e w'=>e=.returned (.bool (tl b f n))∧Below w.heap.size w w':=by
 by_cases h0:0 < b
 ·by_cases h1:f=n
  ·subst h1
   have HE:=zh (show tl b f f=true by unfold tl;simp [h0])
   go_enter Tryz.func54,Tryz.ntmps54
   go_wp2_with fail
   go_ret
   exact ⟨by rw [HE.out];rfl,zxa (Below.refl _ _) _⟩
  ·have HE:=zh (show tl b f n=false by unfold tl;simp [h1])
   have hb1:(n == f)=false:=by simp;omega
   go_enter Tryz.func54,Tryz.ntmps54
   go_wp2_with fail
   go_ret
   exact ⟨by rw [HE.out];rfl,zxa (Below.refl _ _) _⟩
 ·have HE:=zh (show tl b f n=false by unfold tl;simp [h0])
  go_enter Tryz.func54,Tryz.ntmps54
  go_wp2_with fail
  go_ret
  exact ⟨by rw [HE.out];rfl,zxa (Below.refl _ _) _⟩
theorem lnA_last (enc:Int) (A:List Int):lnA enc A (spn enc A).b=⟨skA enc A (spn enc A).b,A.length,A.length,0⟩∧lnE enc A (spn enc A).b=0:=by
 have:=spn_nn enc A
 unfold lnA lnE lnK
 rw [if_neg (by omega),if_pos rfl,if_neg (by omega)]
 exact ⟨rfl,rfl⟩
theorem cnt_tl (enc:Int) (A:List Int):cnt enc A=if tl (spn enc A).b (skA enc A (spn enc A).b) A.length=true then (spn enc A).b else (spn enc A).b + 1:=by
 rw [cnt_tail]
 unfold tl
 simp only [decide_eq_true_eq]
theorem Count_z (enc:Int) (w:World) (t:Nat) (A:List Int) (h:Tz enc w t A):Calls Tryz.prog 19 #[.pointer (some ⟨t,0,none⟩)] w fun e w'=>e=.returned (.int .i64 (cnt enc A))∧Below w.heap.size w w':=by
 have hl:=h.len
 have HT:=zh h
 have LN:=zh (Len_z enc w t A h)
 have HC:=zh (cnt_tl enc A)
 obtain ⟨hA1,hA2⟩:=lnA_last enc A
 obtain ⟨B,hB⟩:∃ B:Nat,(spn enc A).b=B:=⟨(spn enc A).b.toNat,by have:=spn_nn enc A;omega⟩
 have hBl:B≤A.length:=by have:=spn_len enc A;omega
 have BR:Hid (∀ w',Below w.heap.size w w'→Calls Tryz.prog 52 #[.pointer (some ⟨t,0,none⟩),.int .i64 (A.length:Nat)] w' fun e w''=>e=.returned (.int .i64 (B:Nat))∧Below w'.heap.size w' w''):=fun w' hb=>by
  have:=Breaks_z enc w' t A (A.length:Nat) (HT.out.ext hb)
  rw [brk_at,bAt_len enc A _ (by simp),hB] at this
  exact this
 rw [hB] at hA1 hA2 HC
 have AT:Hid (∀ w',Below w.heap.size w w'→Calls Tryz.prog 27 #[.pointer (some ⟨t,0,none⟩),.int .i64 (B:Nat)] w' fun e w''=>e=.returned (.tuple #[.agg #[.int .i64 (skA enc A (B:Nat)),.int .i64 (A.length:Nat),.int .i64 (A.length:Nat),.int .i64 0],.int .i64 0])∧Below w'.heap.size w' w''):=fun w' hb=>by
  have:=At_z enc w' t A (B:Nat) (HT.out.ext hb)
  rwa [hA1,hA2] at this
 have IT:Hid (∀ w':World,Calls Tryz.prog 54 #[.int .i64 (B:Nat),.agg #[.int .i64 (skA enc A (B:Nat)),.int .i64 (A.length:Nat),.int .i64 (A.length:Nat),.int .i64 0]] w' fun e w''=>e=.returned (.bool (tl (B:Nat) (skA enc A (B:Nat)) A.length))∧Below w'.heap.size w' w''):=fun w'=>isTail_any _ _ _ w'
 have hw:IntKind.i64.wrap ((B:Int) + 1)=(B:Int) + 1:=by rw [IntKind.wrap_i64];omega
 generalize skA enc A (B:Nat)=f at *
 generalize htl:tl (B:Nat) f A.length=q at *
 clear h hA1 hA2 hB htl
 cases q with
 | true =>
   go_enter Tryz.func19,Tryz.ntmps19
   go_wp2_with (first
    | (go_at_call 53;refine LN.out.mono ?_;rintro e w1 ⟨rfl,hb⟩;have HB1:=zh hb;clear hb;(try dsimp only))
    | (go_at_call 52;refine (BR.out _ HB1.out).mono ?_;rintro e w2 ⟨rfl,hb⟩;have HB2:=zh (zxt HB1.out hb);clear hb;(try dsimp only))
    | (go_at_call 27;refine (AT.out _ HB2.out).mono ?_;rintro e w3 ⟨rfl,hb⟩;have HB3:=zh (zxt HB2.out hb);clear hb;(try dsimp only))
    | (go_at_call 54;refine (IT.out _).mono ?_;rintro e w4 ⟨rfl,hb⟩;have HB4:=zh (zxt (zxt HB3.out (zxa (Below.refl _ _) _)) hb);clear hb;(try dsimp only)))
   go_ret
   exact ⟨by rw [HC.out];rfl,HB4.out⟩
 | false =>
   go_enter Tryz.func19,Tryz.ntmps19
   go_wp2_with (first
    | (go_at_call 53;refine LN.out.mono ?_;rintro e w1 ⟨rfl,hb⟩;have HB1:=zh hb;clear hb;(try dsimp only))
    | (go_at_call 52;refine (BR.out _ HB1.out).mono ?_;rintro e w2 ⟨rfl,hb⟩;have HB2:=zh (zxt HB1.out hb);clear hb;(try dsimp only))
    | (go_at_call 27;refine (AT.out _ HB2.out).mono ?_;rintro e w3 ⟨rfl,hb⟩;have HB3:=zh (zxt HB2.out hb);clear hb;(try dsimp only))
    | (go_at_call 54;refine (IT.out _).mono ?_;rintro e w4 ⟨rfl,hb⟩;have HB4:=zh (zxt (zxt HB3.out (zxa (Below.refl _ _) _)) hb);clear hb;(try dsimp only)))
   go_ret
   exact ⟨by rw [HC.out];rfl,HB4.out⟩
theorem Of_z (enc:Int) (w:World) (t:Nat) (A:List Int) (z:Int) (h:Tz enc w t A):Calls Tryz.prog 31 #[.pointer (some ⟨t,0,none⟩),.int .i64 z] w fun e w'=>e=.returned (.int .i64 (brk enc A z))∧Below w.heap.size w w':=by
 have BR:=zh (Breaks_z enc w t A z h)
 clear h
 go_enter Tryz.func31,Tryz.ntmps31
 go_wp2_with (go_at_call 52;refine BR.out.mono ?_;rintro e w2 ⟨rfl,hb⟩;have HB2:=zh hb;clear hb;(try dsimp only))
 go_ret
 exact ⟨rfl,HB2.out⟩
open Go.RowKit
structure Opv where
 who:Int
 k:Int
 a:Int
 b:Int
 put:List Int
def Opv.val (o:Opv) (v:Value):Value:=.agg #[.int .i64 o.who,.int .i64 o.k,.int .i64 o.a,.int .i64 o.b,v]
structure Opv.Ok (o:Opv):Prop where
 a:-9223372036854775808≤o.a∧o.a≤9223372036854775807
 b:-9223372036854775808≤o.b∧o.b≤9223372036854775807
 z:o.put.length * 8≤140737488351232
def Yes (f:Nat) (w:World) (g:Nat) (o:Opv) (v:Value):Prop:=∀ w',Below w.heap.size w w'→Calls Tryz.prog f #[.pointer (some ⟨g,0,none⟩),o.val v] w' fun e w''=>e=.returned (.bool true)∧Below w'.heap.size w' w''
def StO (enc:Int) (w:World) (g t m:Nat) (w':World):Prop:=(∃ A',BtW enc w' g t A' (m + 1))∧Kps (fun k=>k=g∨k=t) w w'
theorem StO.of {enc:Int} {w w':World} {g t:Nat} {A:List Int} {m:Nat} (h:BtW enc w g t A m) (hb:Below w.heap.size w w'):StO enc w g t m w':=by
 have h1:=h.ext hb
 exact ⟨⟨A,h1.ex,h1.tz,by have:=h1.bd;omega,h1.en⟩,Kps.of_below _ hb⟩
theorem cells5 {w:World} {b:Nat} {T:TypeId} {v0 v1 v2 v3 v4:Value} (h:w.heap[b]?=some (.cells #[v0,v1,v2,v3,v4] T (0,0))):b < w.heap.size∧w.cell? ⟨b,0,none⟩=some v0∧w.cell? ⟨b,1,none⟩=some v1∧w.cell? ⟨b,2,none⟩=some v2∧w.cell? ⟨b,3,none⟩=some v3∧w.cell? ⟨b,4,none⟩=some v4:=by
 refine ⟨(Array.getElem?_eq_some_iff.1 h).1,?_,?_,?_,?_,?_⟩ <;> (rw [cell_of_row _ _ _ _ _ _ h];rfl)
set_option maxHeartbeats 8000000 in
theorem played_any (lo hi enc:Int) (w:World) (g t:Nat) (A:List Int) (m:Nat) (o:Opv) (ap:Option Addr) (np cp:Nat) (h:BtW enc w g t A m) (hm:m≤199) (ho:o.Ok) (hp:Rd .i64 w (.slice ap np cp) o.put)
  (q2:lo≤o.k→o.k≤hi→(o.k=2∨o.k=5∨o.k=6)→Yes 101 w g o (.slice ap np cp)) (q3:lo≤o.k→o.k≤hi→o.k=3→Yes 102 w g o (.slice ap np cp))
  (q7:lo≤o.k→o.k≤hi→o.k=7→Yes 104 w g o (.slice ap np cp)) (q8:lo≤o.k→o.k≤hi→o.k=8→Yes 105 w g o (.slice ap np cp)) (q9:lo≤o.k→o.k≤hi→o.k=9→Yes 106 w g o (.slice ap np cp)) :
  Calls Tryz.prog 72 #[.pointer (some ⟨g,0,none⟩),o.val (.slice ap np cp),.int .i64 lo,.int .i64 hi] w fun e w'=>e=.returned (.bool true)∧Hid (StO enc w g t m w'):=by
 obtain ⟨who,k,a,b,put⟩:=o
 obtain ⟨h1,h2,h3⟩:=ho
 dsimp only at *
 unfold Opv.val
 dsimp only
 obtain ⟨w0,hw0,kk0,hb0⟩:∃ w0,w0=w.alloc (.cells #[.int .i64 who,.int .i64 k,.int .i64 a,.int .i64 b,.slice ap np cp] 38)∧w0.heap[w.heap.size]?=some (.cells #[.int .i64 who,.int .i64 k,.int .i64 a,.int .i64 b,.slice ap np cp] 38 (0,0))∧Below w.heap.size w w0:=⟨_,rfl,heap_alloc_new _ _,zxa (Below.refl _ _) _⟩
 have HB0:=zh hb0
 have HW:=zh h
 obtain ⟨hlt,c0,c1,c2,c3,c4⟩:=cells5 kk0
 have ED:=zh (edited_any enc w0 g t A m a b (.slice ap np cp) put (h.ext hb0) hm h1 h2 (hp.ext hb0))
 have Q2:Hid (lo≤k→k≤hi→(k=2∨k=5∨k=6)→Calls Tryz.prog 101 #[.pointer (some ⟨g,0,none⟩),.agg #[.int .i64 who,.int .i64 k,.int .i64 a,.int .i64 b,.slice ap np cp]] w0 fun e w''=>e=.returned (.bool true)∧Below w0.heap.size w0 w''):=fun x y z=>q2 x y z w0 hb0
 have Q3:Hid (lo≤k→k≤hi→k=3→Calls Tryz.prog 102 #[.pointer (some ⟨g,0,none⟩),.agg #[.int .i64 who,.int .i64 k,.int .i64 a,.int .i64 b,.slice ap np cp]] w0 fun e w''=>e=.returned (.bool true)∧Below w0.heap.size w0 w''):=fun x y z=>q3 x y z w0 hb0
 have Q7:Hid (lo≤k→k≤hi→k=7→Calls Tryz.prog 104 #[.pointer (some ⟨g,0,none⟩),.agg #[.int .i64 who,.int .i64 k,.int .i64 a,.int .i64 b,.slice ap np cp]] w0 fun e w''=>e=.returned (.bool true)∧Below w0.heap.size w0 w''):=fun x y z=>q7 x y z w0 hb0
 have Q8:Hid (lo≤k→k≤hi→k=8→Calls Tryz.prog 105 #[.pointer (some ⟨g,0,none⟩),.agg #[.int .i64 who,.int .i64 k,.int .i64 a,.int .i64 b,.slice ap np cp]] w0 fun e w''=>e=.returned (.bool true)∧Below w0.heap.size w0 w''):=fun x y z=>q8 x y z w0 hb0
 have Q9:Hid (lo≤k→k≤hi→k=9→Calls Tryz.prog 106 #[.pointer (some ⟨g,0,none⟩),.agg #[.int .i64 who,.int .i64 k,.int .i64 a,.int .i64 b,.slice ap np cp]] w0 fun e w''=>e=.returned (.bool true)∧Below w0.heap.size w0 w''):=fun x y z=>q9 x y z w0 hb0
 clear q2 q3 q7 q8 q9 hp h kk0 hb0 h1 h2 h3 hm
 by_cases k1:k=1
 ·subst k1
  clear Q2 Q3 Q7 Q8 Q9
  go_enter Tryz.func72,Tryz.ntmps72
  go_upto_region 1 with fail
  rw [← hw0]
  clear hw0
  go_wp2_with (go_at_call 39;refine ED.out.mono ?_;rintro e w1 ⟨rfl,hA,hk⟩;have HA:=zh hA.out;have HK:=zh hk;clear hA hk;(try dsimp only))
  go_ret
  exact ⟨rfl,HA.out,(Kps.of_below (fun k=>k=g∨k=t) HB0.out).trans HK.out (fun _ _ e=>e)⟩
 clear ED
 have b1:(k == 1)=false:=by simp [k1]
 by_cases hlo:k < lo
 ·go_enter Tryz.func72,Tryz.ntmps72
  go_upto_region 1 with fail
  rw [← hw0]
  clear hw0
  go_wp2_with fail
  go_ret
  exact ⟨rfl,StO.of HW.out HB0.out⟩
 by_cases hhi:hi < k
 ·go_enter Tryz.func72,Tryz.ntmps72
  go_upto_region 1 with fail
  rw [← hw0]
  clear hw0
  go_wp2_with fail
  go_ret
  exact ⟨rfl,StO.of HW.out HB0.out⟩
 have hl1:lo≤k:=by omega
 have hh1:k≤hi:=by omega
 by_cases n2:k=2
 ·subst n2
  have CC:=zh (Q2.out hl1 hh1 (.inl rfl))
  clear Q2 Q3 Q7 Q8 Q9
  go_enter Tryz.func72,Tryz.ntmps72
  go_upto_region 1 with fail
  rw [← hw0]
  clear hw0
  go_wp2_with (go_at_call 101;refine CC.out.mono ?_;rintro e w1 ⟨rfl,hb⟩;have HB1:=zh hb;clear hb;(try dsimp only))
  go_ret
  exact ⟨rfl,StO.of HW.out (zxt HB0.out HB1.out)⟩
 by_cases n5:k=5
 ·subst n5
  have CC:=zh (Q2.out hl1 hh1 (.inr (.inl rfl)))
  clear Q2 Q3 Q7 Q8 Q9
  go_enter Tryz.func72,Tryz.ntmps72
  go_upto_region 1 with fail
  rw [← hw0]
  clear hw0
  go_wp2_with (go_at_call 101;refine CC.out.mono ?_;rintro e w1 ⟨rfl,hb⟩;have HB1:=zh hb;clear hb;(try dsimp only))
  go_ret
  exact ⟨rfl,StO.of HW.out (zxt HB0.out HB1.out)⟩
 by_cases n6:k=6
 ·subst n6
  have CC:=zh (Q2.out hl1 hh1 (.inr (.inr rfl)))
  clear Q2 Q3 Q7 Q8 Q9
  go_enter Tryz.func72,Tryz.ntmps72
  go_upto_region 1 with fail
  rw [← hw0]
  clear hw0
  go_wp2_with (go_at_call 101;refine CC.out.mono ?_;rintro e w1 ⟨rfl,hb⟩;have HB1:=zh hb;clear hb;(try dsimp only))
  go_ret
  exact ⟨rfl,StO.of HW.out (zxt HB0.out HB1.out)⟩
 by_cases n3:k=3
 ·subst n3
  have CC:=zh (Q3.out hl1 hh1 rfl)
  clear Q2 Q3 Q7 Q8 Q9
  go_enter Tryz.func72,Tryz.ntmps72
  go_upto_region 1 with fail
  rw [← hw0]
  clear hw0
  go_wp2_with (go_at_call 102;refine CC.out.mono ?_;rintro e w1 ⟨rfl,hb⟩;have HB1:=zh hb;clear hb;(try dsimp only))
  go_ret
  exact ⟨rfl,StO.of HW.out (zxt HB0.out HB1.out)⟩
 by_cases n7:k=7
 ·subst n7
  have CC:=zh (Q7.out hl1 hh1 rfl)
  clear Q2 Q3 Q7 Q8 Q9
  go_enter Tryz.func72,Tryz.ntmps72
  go_upto_region 1 with fail
  rw [← hw0]
  clear hw0
  go_wp2_with (go_at_call 104;refine CC.out.mono ?_;rintro e w1 ⟨rfl,hb⟩;have HB1:=zh hb;clear hb;(try dsimp only))
  go_ret
  exact ⟨rfl,StO.of HW.out (zxt HB0.out HB1.out)⟩
 by_cases n8:k=8
 ·subst n8
  have CC:=zh (Q8.out hl1 hh1 rfl)
  clear Q2 Q3 Q7 Q8 Q9
  go_enter Tryz.func72,Tryz.ntmps72
  go_upto_region 1 with fail
  rw [← hw0]
  clear hw0
  go_wp2_with (go_at_call 105;refine CC.out.mono ?_;rintro e w1 ⟨rfl,hb⟩;have HB1:=zh hb;clear hb;(try dsimp only))
  go_ret
  exact ⟨rfl,StO.of HW.out (zxt HB0.out HB1.out)⟩
 by_cases n9:k=9
 ·subst n9
  have CC:=zh (Q9.out hl1 hh1 rfl)
  clear Q2 Q3 Q7 Q8 Q9
  go_enter Tryz.func72,Tryz.ntmps72
  go_upto_region 1 with fail
  rw [← hw0]
  clear hw0
  go_wp2_with (go_at_call 106;refine CC.out.mono ?_;rintro e w1 ⟨rfl,hb⟩;have HB1:=zh hb;clear hb;(try dsimp only))
  go_ret
  exact ⟨rfl,StO.of HW.out (zxt HB0.out HB1.out)⟩
 by_cases n4:k=4
 ·subst n4
  clear Q2 Q3 Q7 Q8 Q9
  have HW0:=zh (HW.out.ext HB0.out)
  obtain ⟨va,hg,hva⟩:=HW0.out.ex
  obtain ⟨aa,ca,hvv⟩:=hva.form
  subst hvv
  have HGG:=zh hg
  have HVA:=zh hva
  have hlen:=HW0.out.tz.len
  have OF:Hid (∀ w',Below w0.heap.size w0 w'→Calls Tryz.prog 31 #[.pointer (some ⟨t,0,none⟩),.int .i64 a] w' fun e w''=>e=.returned (.int .i64 (brk enc A a))∧Below w'.heap.size w' w''):=fun w' hb=>Of_z enc w' t A a (HW0.out.tz.ext hb)
  have RO:Hid (∀ w',Below w0.heap.size w0 w'→Calls Tryz.prog 103 #[.slice aa A.length ca,.int .i64 a] w' fun e w''=>e=.returned (.int .i64 (brk enc A a))∧Below w'.heap.size w' w''):=fun w' hb=>rOf_any enc _ A a w' (HVA.out.ext hb).rdi hlen
  have HS:Hid (∀ w',Below w0.heap.size w0 w'→w'.cell? ⟨g,0,none⟩=some (.pointer (some ⟨t,0,none⟩))∧w'.cell? ⟨g,1,none⟩=some (.slice aa A.length ca)∧w'.cell? ⟨w.heap.size,2,none⟩=some (.int .i64 a)):=fun w' hb=>⟨(hb.cell (p:=⟨g,0,none⟩) HW0.out.lt).trans (cells2 HGG.out).2.1,(hb.cell (p:=⟨g,1,none⟩) HW0.out.lt).trans (cells2 HGG.out).2.2.1,(hb.cell (p:=⟨w.heap.size,2,none⟩) hlt).trans c2⟩
  have ks:=HS.out w0 (Below.refl _ _)
  generalize brk enc A a=z at *
  clear hg hva
  go_enter Tryz.func72,Tryz.ntmps72
  go_upto_region 1 with fail
  rw [← hw0]
  clear hw0
  go_upto_region 13 with fail
  refine wp_region_held_drew (S:=fun w''=>w''.cell? ⟨g,0,none⟩=some (.pointer (some ⟨t,0,none⟩))∧w''.cell? ⟨g,1,none⟩=some (.slice aa A.length ca)∧w''.cell? ⟨w.heap.size,2,none⟩=some (.int .i64 a)) (by kernel_rfl) (ks) (fun _=>?_)
  refine tkH 0 rfl ?_
  refine tkH 1 rfl ?_
  refine tkH 2 rfl ?_
  refine tkH 3 rfl ?_
  refine tkH 4 rfl ?_
  refine tkH 5 rfl ?_
  refine tkH 7 rfl ?_
  refine tkH 8 rfl ?_
  refine tkH 9 rfl ?_
  refine tkH 10 rfl ?_
  refine tkH 11 rfl ?_
  refine tkH 12 rfl ?_
  refine rdH 6 rfl fun K hK=>?_
  go_simp
  refine (OF.out _ (Below.drew (Below.refl _ _))).mono ?_;clear ks;rintro e y2 ⟨rfl,hb⟩;have HY2:=zh (zxt (Below.drew (Below.refl w0.heap.size w0)) hb);clear hb;have ks:=HS.out y2 HY2.out;try dsimp only
  refine hK.out _ _ ?_ (fun _=>?_)
  ·(try simp only [World.cell?_drew]);exact ks
  clear hK K
  try simp only [Act.put,tS]
  refine rdH 13 rfl fun K hK=>?_
  go_simp
  refine (RO.out _ HY2.out).mono ?_;clear ks;rintro e y3 ⟨rfl,hb⟩;have HY3:=zh (zxt HY2.out hb);clear hb;have ks:=HS.out y3 HY3.out;try dsimp only
  refine hK.out _ _ ?_ (fun _=>?_)
  ·(try simp only [World.cell?_drew]);exact ks
  clear hK K
  try simp only [Act.put,tS]
  refine tkH 14 rfl ?_
  refine tkH 15 rfl ?_
  refine dnH ?_
  go_wp2_with fail
  go_ret
  exact ⟨rfl,StO.of HW.out (zxt HB0.out HY3.out)⟩
 have b2:(k == 2)=false:=by simp [n2]
 have b3:(k == 3)=false:=by simp [n3]
 have b4:(k == 4)=false:=by simp [n4]
 have b5:(k == 5)=false:=by simp [n5]
 have b6:(k == 6)=false:=by simp [n6]
 have b7:(k == 7)=false:=by simp [n7]
 have b8:(k == 8)=false:=by simp [n8]
 have b9:(k == 9)=false:=by simp [n9]
 go_enter Tryz.func72,Tryz.ntmps72
 go_upto_region 1 with fail
 rw [← hw0]
 clear hw0
 go_wp2_with fail
 go_ret
 exact ⟨rfl,StO.of HW.out HB0.out⟩
end Go.Proofs.YtjomfbegghgbdaaGreat.P
