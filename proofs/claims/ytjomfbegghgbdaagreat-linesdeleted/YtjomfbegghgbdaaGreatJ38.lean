import Derived.Test.YtjomfbegghgbdaaGreatJ00
import Derived.Test.YtjomfbegghgbdaaGreatJ30
namespace Go.Proofs.YtjomfbegghgbdaaGreat.P
open Go.RowKit
structure Wh where
 f:Int
 t:Int
 k:Int
 e:Int
def whA (enc:Int) (A:List Int) (f l:Int):Wh:=if f < 0∨l < f∨cnt enc A≤l then ⟨0,0,0,2⟩
 else if (lnK enc A l).b=0∧0 < f∧(lnK enc A (f - 1)).f < (lnK enc A (f - 1)).t then ⟨(lnK enc A (f - 1)).t,(lnK enc A l).n,1,0⟩ else ⟨(lnK enc A f).f,(lnK enc A l).n,1,0⟩
theorem cnt_le (enc:Int) (A:List Int):cnt enc A≤(spn enc A).b + 1:=by unfold cnt;split <;> omega
theorem lnA_in (enc:Int) (A:List Int) (q:Int) (h0:0≤q) (h1:q≤(spn enc A).b):lnA enc A q=lnK enc A q∧lnE enc A q=0:=by
 unfold lnA lnE
 rw [if_neg (by omega),if_neg (by omega)]
 exact ⟨rfl,rfl⟩
theorem cells3 {w:World} {b:Nat} {T:TypeId} {v0 v1 v2:Value} (h:w.heap[b]?=some (.cells #[v0,v1,v2] T (0,0))):b < w.heap.size∧w.cell? ⟨b,0,none⟩=some v0∧w.cell? ⟨b,1,none⟩=some v1∧w.cell? ⟨b,2,none⟩=some v2∧(∀ i,w.frozen? ⟨b,i,none⟩=false):=by
 refine ⟨(Array.getElem?_eq_some_iff.1 h).1,?_,?_,?_,fun i=>by simp [World.frozen?,h]⟩ <;> (rw [cell_of_row _ _ _ _ _ _ h];rfl)
theorem below3 {w w0 w1:World} {T:TypeId} {cs:Array Value} (hb0:Below w.heap.size w w0) (hg:w1.heap[w.heap.size]?=some (.cells cs T (0,0))) (hb:Below w0.heap.size w0 w1) (v0 v1 v2:Value):Below w.heap.size w (((w1.setCell ⟨w.heap.size,0,none⟩ v0).setCell ⟨w.heap.size,1,none⟩ v1).setCell ⟨w.heap.size,2,none⟩ v2):=by
 obtain ⟨h1,g1⟩:=set1 hg 0 v0
 obtain ⟨h2,g2⟩:=set1 h1 1 v1
 obtain ⟨_,g3⟩:=set1 h2 2 v2
 exact below_put (ext_trans hb0 hb) (ext_trans hb0 hb).size (grown_trans (grown_trans g1 g2) g3) (Nat.le_refl _)
set_option maxRecDepth 100000 in
set_option maxHeartbeats 4000000 in
theorem Whole_z (enc:Int) (w:World) (t:Nat) (A:List Int) (f l:Int) (h:Tz enc w t A):Calls Tryz.prog 29 #[.pointer (some ⟨t,0,none⟩),.int .i64 f,.int .i64 l] w fun e w'=>e=.returned (.tuple #[.agg #[.int .i64 (whA enc A f l).f,.int .i64 (whA enc A f l).t,.int .i64 (whA enc A f l).k],.int .i64 (whA enc A f l).e])∧Below w.heap.size w w':=by
 obtain ⟨w0,hw0,kk0,hb0⟩:∃ w0,w0=w.alloc (.cells #[.int .i64 0,.int .i64 0,.int .i64 0] 56)∧w0.heap[w.heap.size]?=some (.cells #[.int .i64 0,.int .i64 0,.int .i64 0] 56 (0,0))∧Below w.heap.size w w0:=⟨_,rfl,heap_alloc_new _ _,ext_alloc (Below.refl _ _) _⟩
 have hl:=h.len
 have HT:=hidIt (h.ext hb0)
 have HB0:=hidIt hb0
 have HK0:=hidIt kk0
 have CL:Hid (∀ w1,Below w0.heap.size w0 w1→w1.heap[w.heap.size]?=some (.cells #[.int .i64 0,.int .i64 0,.int .i64 0] 56 (0,0))):=fun w1 hb=>(hb.block _ (Array.getElem?_eq_some_iff.1 HK0.out).1).trans HK0.out
 have CN:=hidIt (Count_z enc w0 t A HT.out)
 clear h hb0 kk0
 by_cases h0:f < 0
 ·have HE:=hidIt (show whA enc A f l=⟨0,0,0,2⟩ by unfold whA;rw [if_pos (.inl h0)])
  go_enter Tryz.func29,Tryz.ntmps29
  go_upto_region 1 with fail
  rw [← hw0]
  clear hw0
  obtain ⟨_,c0,c1,c2,fz⟩:=cells3 HK0.out
  go_wp2_with fail
  exact bodyPost_ret (v:=.tuple #[.agg #[.int .i64 0,.int .i64 0,.int .i64 0],.int .i64 2]) (by simp [results,Tryz.results29,go_sem,c0,c1,c2]) rfl ⟨by rw [HE.out],below3 HB0.out HK0.out (Below.refl _ _) _ _ _⟩
 by_cases h1:l < f
 ·have HE:=hidIt (show whA enc A f l=⟨0,0,0,2⟩ by unfold whA;rw [if_pos (.inr (.inl h1))])
  go_enter Tryz.func29,Tryz.ntmps29
  go_upto_region 1 with fail
  rw [← hw0]
  clear hw0
  obtain ⟨_,c0,c1,c2,fz⟩:=cells3 HK0.out
  go_wp2_with fail
  exact bodyPost_ret (v:=.tuple #[.agg #[.int .i64 0,.int .i64 0,.int .i64 0],.int .i64 2]) (by simp [results,Tryz.results29,go_sem,c0,c1,c2]) rfl ⟨by rw [HE.out],below3 HB0.out HK0.out (Below.refl _ _) _ _ _⟩
 by_cases h2:cnt enc A≤l
 ·have HE:=hidIt (show whA enc A f l=⟨0,0,0,2⟩ by unfold whA;rw [if_pos (.inr (.inr h2))])
  generalize cnt enc A=z at *
  go_enter Tryz.func29,Tryz.ntmps29
  go_upto_region 1 with fail
  rw [← hw0]
  clear hw0
  go_wp2_with (go_at_call 19;refine CN.out.mono ?_;rintro e w1 ⟨rfl,hb⟩;have HB1:=hidIt hb;clear hb;obtain ⟨_,c0,c1,c2,fz⟩:=cells3 (CL.out _ HB1.out);(try dsimp only))
  exact bodyPost_ret (v:=.tuple #[.agg #[.int .i64 0,.int .i64 0,.int .i64 0],.int .i64 2]) (by simp [results,Tryz.results29,go_sem,c0,c1,c2]) rfl ⟨by rw [HE.out],below3 HB0.out (CL.out _ HB1.out) HB1.out _ _ _⟩
 have hc:=cnt_le enc A
 have sL:=spn_len enc A
 obtain ⟨a1,a2⟩:=lnA_in enc A f (by omega) (by omega)
 obtain ⟨b1,b2⟩:=lnA_in enc A l (by omega) (by omega)
 have HE:=hidIt (show whA enc A f l=if (lnK enc A l).b=0∧0 < f∧(lnK enc A (f - 1)).f < (lnK enc A (f - 1)).t then ⟨(lnK enc A (f - 1)).t,(lnK enc A l).n,1,0⟩ else ⟨(lnK enc A f).f,(lnK enc A l).n,1,0⟩ by unfold whA;rw [if_neg (by omega)])
 have AF:Hid (∀ w',Below w0.heap.size w0 w'→Calls Tryz.prog 27 #[.pointer (some ⟨t,0,none⟩),.int .i64 f] w' fun e w''=>e=.returned (.tuple #[.agg #[.int .i64 (lnK enc A f).f,.int .i64 (lnK enc A f).t,.int .i64 (lnK enc A f).n,.int .i64 (lnK enc A f).b],.int .i64 0])∧Below w'.heap.size w' w''):=fun w' hb=>by
  have:=At_z enc w' t A f (HT.out.ext hb)
  rwa [a1,a2] at this
 have AL:Hid (∀ w',Below w0.heap.size w0 w'→Calls Tryz.prog 27 #[.pointer (some ⟨t,0,none⟩),.int .i64 l] w' fun e w''=>e=.returned (.tuple #[.agg #[.int .i64 (lnK enc A l).f,.int .i64 (lnK enc A l).t,.int .i64 (lnK enc A l).n,.int .i64 (lnK enc A l).b],.int .i64 0])∧Below w'.heap.size w' w''):=fun w' hb=>by
  have:=At_z enc w' t A l (HT.out.ext hb)
  rwa [b1,b2] at this
 have AP:Hid (0 < f→∀ w',Below w0.heap.size w0 w'→Calls Tryz.prog 27 #[.pointer (some ⟨t,0,none⟩),.int .i64 (f - 1)] w' fun e w''=>e=.returned (.tuple #[.agg #[.int .i64 (lnK enc A (f - 1)).f,.int .i64 (lnK enc A (f - 1)).t,.int .i64 (lnK enc A (f - 1)).n,.int .i64 (lnK enc A (f - 1)).b],.int .i64 0])∧Below w'.heap.size w' w''):=fun hf w' hb=>by
  obtain ⟨c1,c2⟩:=lnA_in enc A (f - 1) (by omega) (by omega)
  have:=At_z enc w' t A (f - 1) (HT.out.ext hb)
  rwa [c1,c2] at this
 have hw:0 < f→IntKind.i64.wrap (f - 1)=f - 1:=fun hf=>by rw [IntKind.wrap_i64];omega
 clear a1 a2 b1 b2 hc sL
 generalize cnt enc A=z at *
 generalize lnK enc A l=y at *
 generalize lnK enc A f=x at *
 generalize lnK enc A (f - 1)=u at *
 go_enter Tryz.func29,Tryz.ntmps29
 go_upto_region 1 with fail
 rw [← hw0]
 clear hw0
 go_upto_region 3 with (go_at_call 19;refine CN.out.mono ?_;rintro e w1 ⟨rfl,hb⟩;have HB1:=hidIt hb;clear hb;(try dsimp only))
 go_upto_region 4 with (go_at_call 27;refine (AF.out _ HB1.out).mono ?_;rintro e w2 ⟨rfl,hb⟩;have HB2:=hidIt (ext_trans HB1.out hb);clear hb;(try dsimp only))
 generalize hw3:World.alloc _ _=w3
 have H3:Hid (w3.heap[w2.heap.size]?=some (.cells #[.int .i64 x.f,.int .i64 x.t,.int .i64 x.n,.int .i64 x.b] 50 (0,0))∧Below w2.heap.size w2 w3):=by unfold Hid;rw [← hw3];exact ⟨heap_alloc_new _ _,ext_alloc (Below.refl _ _) _⟩
 clear hw3
 have HB3:=hidIt (ext_trans HB2.out H3.out.2)
 go_upto_region 5 with (go_at_call 27;refine (AL.out _ HB3.out).mono ?_;rintro e w4 ⟨rfl,hb⟩;have HB4:=hidIt hb;clear hb;(try dsimp only))
 generalize hw5:World.alloc _ _=w5
 have H5:Hid (w5.heap[w4.heap.size]?=some (.cells #[.int .i64 y.f,.int .i64 y.t,.int .i64 y.n,.int .i64 y.b] 50 (0,0))∧Below w4.heap.size w4 w5):=by unfold Hid;rw [← hw5];exact ⟨heap_alloc_new _ _,ext_alloc (Below.refl _ _) _⟩
 clear hw5
 have H35:=hidIt (ext_trans HB4.out H5.out.2)
 have HB5:=hidIt (ext_trans HB3.out H35.out)
 obtain ⟨_,d0,d1,d2,d3,_⟩:=cells4 ((H35.out.block _ (Array.getElem?_eq_some_iff.1 H3.out.1).1).trans H3.out.1)
 obtain ⟨_,e0,e1,e2,e3,_⟩:=cells4 H5.out.1
 obtain ⟨_,c0,c1,c2,fz⟩:=cells3 (CL.out _ HB5.out)
 by_cases hy:y.b=0∧0 < f
 ·obtain ⟨hy,hf⟩:=hy
  have hwf:=hw hf
  have AP':=hidIt (AP.out hf w5 HB5.out)
  rw [hy] at e3
  go_upto_region 8 with (go_at_call 27;refine AP'.out.mono ?_;rintro e w6 ⟨rfl,hb⟩;have HB6:=hidIt hb;clear hb;(try dsimp only))
  generalize hw7:World.alloc _ _=w7
  have H7:Hid (w7.heap[w6.heap.size]?=some (.cells #[.int .i64 u.f,.int .i64 u.t,.int .i64 u.n,.int .i64 u.b] 50 (0,0))∧Below w6.heap.size w6 w7):=by unfold Hid;rw [← hw7];exact ⟨heap_alloc_new _ _,ext_alloc (Below.refl _ _) _⟩
  clear hw7 c0 c1 c2 fz d0 d1 d2 d3 e0 e1 e2 e3
  have H57:=hidIt (ext_trans HB6.out H7.out.2)
  have HB7:=hidIt (ext_trans HB5.out H57.out)
  obtain ⟨_,e0,e1,e2,e3,_⟩:=cells4 ((H57.out.block _ (Array.getElem?_eq_some_iff.1 H5.out.1).1).trans H5.out.1)
  obtain ⟨_,f0,f1,f2,f3,_⟩:=cells4 H7.out.1
  obtain ⟨_,c0,c1,c2,fz⟩:=cells3 (CL.out _ HB7.out)
  by_cases hu:u.f < u.t
  ·have HE2:=hidIt (HE.out.trans (if_pos ⟨hy,hf,hu⟩))
   go_wp2_with fail
   exact bodyPost_ret (v:=.tuple #[.agg #[.int .i64 u.t,.int .i64 y.n,.int .i64 1],.int .i64 0]) (by simp [results,Tryz.results29,go_sem,c0,c1,c2]) rfl ⟨by rw [HE2.out],below3 HB0.out (CL.out _ HB7.out) HB7.out _ _ _⟩
  ·have HE2:=hidIt (HE.out.trans (if_neg (fun e=>hu e.2.2)))
   go_wp2_with fail
   exact bodyPost_ret (v:=.tuple #[.agg #[.int .i64 x.f,.int .i64 y.n,.int .i64 1],.int .i64 0]) (by simp [results,Tryz.results29,go_sem,c0,c1,c2]) rfl ⟨by rw [HE2.out],below3 HB0.out (CL.out _ HB7.out) HB7.out _ _ _⟩
 ·have HE2:=hidIt (HE.out.trans (if_neg (fun e=>hy ⟨e.1,e.2.1⟩)))
  by_cases hyb:y.b=0
  ·have hf:¬ 0 < f:=fun e=>hy ⟨hyb,e⟩
   rw [hyb] at e3
   go_wp2_with fail
   exact bodyPost_ret (v:=.tuple #[.agg #[.int .i64 x.f,.int .i64 y.n,.int .i64 1],.int .i64 0]) (by simp [results,Tryz.results29,go_sem,c0,c1,c2]) rfl ⟨by rw [HE2.out],below3 HB0.out (CL.out _ HB5.out) HB5.out _ _ _⟩
  ·have hb':(y.b == 0)=false:=by simp [hyb]
   go_wp2_with fail
   exact bodyPost_ret (v:=.tuple #[.agg #[.int .i64 x.f,.int .i64 y.n,.int .i64 1],.int .i64 0]) (by simp [results,Tryz.results29,go_sem,c0,c1,c2]) rfl ⟨by rw [HE2.out],below3 HB0.out (CL.out _ HB5.out) HB5.out _ _ _⟩
end Go.Proofs.YtjomfbegghgbdaaGreat.P
