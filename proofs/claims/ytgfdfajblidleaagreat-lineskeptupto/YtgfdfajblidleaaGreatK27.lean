import Derived.Test.YtgfdfajblidleaaGreatK26
set_option maxRecDepth 100000
namespace Go.Proofs.YtgfdfajblidleaaGreat.P
open Go.RowKit
structure Wh where
 f:Int
 t:Int
 k:Int
 e:Int
def whA (enc:Int) (A:List Int) (f l:Int):Wh:=if f < 0∨l < f∨cnt enc A≤l then ⟨0,0,0,2⟩
 else if (lnK enc A l).b=0∧0 < f∧(lnK enc A (f - 1)).f < (lnK enc A (f - 1)).t then ⟨(lnK enc A (f - 1)).t,(lnK enc A l).n,1,0⟩ else ⟨(lnK enc A f).f,(lnK enc A l).n,1,0⟩
theorem cnt_le (enc:Int) (A:List Int):cnt enc A≤(spn enc A).b + 1:=by unfold cnt;split <;> omega
theorem lnA_in (enc:Int) (A:List Int) (q:Int) (h0:0≤q) (h1:q≤(spn enc A).b):lnA enc A q=lnK enc A q∧lnE enc A q=0:=by
 unfold lnA lnE
 rw [if_neg (by omega),if_neg (by omega)]
 exact ⟨rfl,rfl⟩
theorem cells3 {w:World} {b:Nat} {T:TypeId} {v0 v1 v2:Value} (h:w.heap[b]?=some (.cells #[v0,v1,v2] T (0,0))):b < w.heap.size∧w.cell? ⟨b,0,none⟩=some v0∧w.cell? ⟨b,1,none⟩=some v1∧w.cell? ⟨b,2,none⟩=some v2∧(∀ i,w.frozen? ⟨b,i,none⟩=false):=by
 refine ⟨(Array.getElem?_eq_some_iff.1 h).1,?_,?_,?_,fun i=>by simp [World.frozen?,h]⟩ <;> (rw [cell_of_row _ _ _ _ _ _ h];rfl)
theorem below3 {w w0 w1:World} {T:TypeId} {cs:Array Value} (hb0:Below w.heap.size w w0) (hg:w1.heap[w.heap.size]?=some (.cells cs T (0,0))) (hb:Below w0.heap.size w0 w1) (v0 v1 v2:Value):Below w.heap.size w (((w1.setCell ⟨w.heap.size,0,none⟩ v0).setCell ⟨w.heap.size,1,none⟩ v1).setCell ⟨w.heap.size,2,none⟩ v2):=by
 obtain ⟨h1,g1⟩:=set1 hg 0 v0
 obtain ⟨h2,g2⟩:=set1 h1 1 v1
 obtain ⟨_,g3⟩:=set1 h2 2 v2
 exact zbp (zxt hb0 hb) (zxt hb0 hb).size (zgt (zgt g1 g2) g3) (Nat.le_refl _)
set_option maxHeartbeats 4000000 in
theorem Whole_z (enc:Int) (w:World) (t:Nat) (A:List Int) (f l:Int) (h:Tz enc w t A):Calls Tryz.prog 16 #[.pointer (some ⟨t,0,none⟩),.int .i64 f,.int .i64 l] w fun e w'=>e=.returned (.tuple #[.agg #[.int .i64 (whA enc A f l).f,.int .i64 (whA enc A f l).t,.int .i64 (whA enc A f l).k],.int .i64 (whA enc A f l).e])∧Below w.heap.size w w':=by
 obtain ⟨w0,hw0,kk0,hb0⟩:∃ w0,w0=w.alloc (.cells #[.int .i64 0,.int .i64 0,.int .i64 0] 56)∧w0.heap[w.heap.size]?=some (.cells #[.int .i64 0,.int .i64 0,.int .i64 0] 56 (0,0))∧Below w.heap.size w w0:=⟨_,rfl,heap_alloc_new _ _,zxa (Below.refl _ _) _⟩
 have hl:=h.len
 have HT:=zh (h.ext hb0)
 have HB0:=zh hb0
 have HK0:=zh kk0
 have CL:Hid (∀ w1,Below w0.heap.size w0 w1→w1.heap[w.heap.size]?=some (.cells #[.int .i64 0,.int .i64 0,.int .i64 0] 56 (0,0))):=fun w1 hb=>(hb.block _ (Array.getElem?_eq_some_iff.1 HK0.out).1).trans HK0.out
 have CN:=zh (Count_z enc w0 t A HT.out)
 clear h hb0 kk0
 by_cases h0:f < 0
 ·have HE:=zh (show whA enc A f l=⟨0,0,0,2⟩ by unfold whA;rw [if_pos (.inl h0)])
  go_enter Tryz.func16,Tryz.ntmps16
  go_upto_region 1 with fail
  rw [← hw0]
  clear hw0
  obtain ⟨_,c0,c1,c2,fz⟩:=cells3 HK0.out
  go_wp2_with fail
  exact bodyPost_ret (v:=.tuple #[.agg #[.int .i64 0,.int .i64 0,.int .i64 0],.int .i64 2]) (by simp [results,Tryz.results16,go_sem,c0,c1,c2]) rfl ⟨by rw [HE.out],below3 HB0.out HK0.out (Below.refl _ _) _ _ _⟩
 by_cases h1:l < f
 ·have HE:=zh (show whA enc A f l=⟨0,0,0,2⟩ by unfold whA;rw [if_pos (.inr (.inl h1))])
  go_enter Tryz.func16,Tryz.ntmps16
  go_upto_region 1 with fail
  rw [← hw0]
  clear hw0
  obtain ⟨_,c0,c1,c2,fz⟩:=cells3 HK0.out
  go_wp2_with fail
  exact bodyPost_ret (v:=.tuple #[.agg #[.int .i64 0,.int .i64 0,.int .i64 0],.int .i64 2]) (by simp [results,Tryz.results16,go_sem,c0,c1,c2]) rfl ⟨by rw [HE.out],below3 HB0.out HK0.out (Below.refl _ _) _ _ _⟩
 by_cases h2:cnt enc A≤l
 ·have HE:=zh (show whA enc A f l=⟨0,0,0,2⟩ by unfold whA;rw [if_pos (.inr (.inr h2))])
  generalize cnt enc A=z at *
  go_enter Tryz.func16,Tryz.ntmps16
  go_upto_region 1 with fail
  rw [← hw0]
  clear hw0
  go_wp2_with (go_at_call 6;refine CN.out.mono ?_;rintro e w1 ⟨rfl,hb⟩;have HB1:=zh hb;clear hb;obtain ⟨_,c0,c1,c2,fz⟩:=cells3 (CL.out _ HB1.out);(try dsimp only))
  exact bodyPost_ret (v:=.tuple #[.agg #[.int .i64 0,.int .i64 0,.int .i64 0],.int .i64 2]) (by simp [results,Tryz.results16,go_sem,c0,c1,c2]) rfl ⟨by rw [HE.out],below3 HB0.out (CL.out _ HB1.out) HB1.out _ _ _⟩
 have hc:=cnt_le enc A
 have sL:=spn_len enc A
 obtain ⟨a1,a2⟩:=lnA_in enc A f (by omega) (by omega)
 obtain ⟨b1,b2⟩:=lnA_in enc A l (by omega) (by omega)
 have HE:=zh (show whA enc A f l=if (lnK enc A l).b=0∧0 < f∧(lnK enc A (f - 1)).f < (lnK enc A (f - 1)).t then ⟨(lnK enc A (f - 1)).t,(lnK enc A l).n,1,0⟩ else ⟨(lnK enc A f).f,(lnK enc A l).n,1,0⟩ by unfold whA;rw [if_neg (by omega)])
 have AF:Hid (∀ w',Below w0.heap.size w0 w'→Calls Tryz.prog 14 #[.pointer (some ⟨t,0,none⟩),.int .i64 f] w' fun e w''=>e=.returned (.tuple #[.agg #[.int .i64 (lnK enc A f).f,.int .i64 (lnK enc A f).t,.int .i64 (lnK enc A f).n,.int .i64 (lnK enc A f).b],.int .i64 0])∧Below w'.heap.size w' w''):=fun w' hb=>by
  have:=At_z enc w' t A f (HT.out.ext hb)
  rwa [a1,a2] at this
 have AL:Hid (∀ w',Below w0.heap.size w0 w'→Calls Tryz.prog 14 #[.pointer (some ⟨t,0,none⟩),.int .i64 l] w' fun e w''=>e=.returned (.tuple #[.agg #[.int .i64 (lnK enc A l).f,.int .i64 (lnK enc A l).t,.int .i64 (lnK enc A l).n,.int .i64 (lnK enc A l).b],.int .i64 0])∧Below w'.heap.size w' w''):=fun w' hb=>by
  have:=At_z enc w' t A l (HT.out.ext hb)
  rwa [b1,b2] at this
 have AP:Hid (0 < f→∀ w',Below w0.heap.size w0 w'→Calls Tryz.prog 14 #[.pointer (some ⟨t,0,none⟩),.int .i64 (f - 1)] w' fun e w''=>e=.returned (.tuple #[.agg #[.int .i64 (lnK enc A (f - 1)).f,.int .i64 (lnK enc A (f - 1)).t,.int .i64 (lnK enc A (f - 1)).n,.int .i64 (lnK enc A (f - 1)).b],.int .i64 0])∧Below w'.heap.size w' w''):=fun hf w' hb=>by
  obtain ⟨c1,c2⟩:=lnA_in enc A (f - 1) (by omega) (by omega)
  have:=At_z enc w' t A (f - 1) (HT.out.ext hb)
  rwa [c1,c2] at this
 have hw:0 < f→IntKind.i64.wrap (f - 1)=f - 1:=fun hf=>by rw [IntKind.wrap_i64];omega
 clear a1 a2 b1 b2 hc sL
 generalize cnt enc A=z at *
 generalize lnK enc A l=y at *
 generalize lnK enc A f=x at *
 generalize lnK enc A (f - 1)=u at *
 go_enter Tryz.func16,Tryz.ntmps16
 go_upto_region 1 with fail
 rw [← hw0]
 clear hw0
 go_upto_region 3 with (go_at_call 6;refine CN.out.mono ?_;rintro e w1 ⟨rfl,hb⟩;have HB1:=zh hb;clear hb;(try dsimp only))
 go_upto_region 4 with (go_at_call 14;refine (AF.out _ HB1.out).mono ?_;rintro e w2 ⟨rfl,hb⟩;have HB2:=zh (zxt HB1.out hb);clear hb;(try dsimp only))
 generalize hw3:World.alloc _ _=w3
 have H3:Hid (w3.heap[w2.heap.size]?=some (.cells #[.int .i64 x.f,.int .i64 x.t,.int .i64 x.n,.int .i64 x.b] 50 (0,0))∧Below w2.heap.size w2 w3):=by unfold Hid;rw [← hw3];exact ⟨heap_alloc_new _ _,zxa (Below.refl _ _) _⟩
 clear hw3
 have HB3:=zh (zxt HB2.out H3.out.2)
 go_upto_region 5 with (go_at_call 14;refine (AL.out _ HB3.out).mono ?_;rintro e w4 ⟨rfl,hb⟩;have HB4:=zh hb;clear hb;(try dsimp only))
 generalize hw5:World.alloc _ _=w5
 have H5:Hid (w5.heap[w4.heap.size]?=some (.cells #[.int .i64 y.f,.int .i64 y.t,.int .i64 y.n,.int .i64 y.b] 50 (0,0))∧Below w4.heap.size w4 w5):=by unfold Hid;rw [← hw5];exact ⟨heap_alloc_new _ _,zxa (Below.refl _ _) _⟩
 clear hw5
 have H35:=zh (zxt HB4.out H5.out.2)
 have HB5:=zh (zxt HB3.out H35.out)
 obtain ⟨_,d0,d1,d2,d3,_⟩:=cells4 ((H35.out.block _ (Array.getElem?_eq_some_iff.1 H3.out.1).1).trans H3.out.1)
 obtain ⟨_,e0,e1,e2,e3,_⟩:=cells4 H5.out.1
 obtain ⟨_,c0,c1,c2,fz⟩:=cells3 (CL.out _ HB5.out)
 by_cases hy:y.b=0∧0 < f
 ·obtain ⟨hy,hf⟩:=hy
  have hwf:=hw hf
  have AP':=zh (AP.out hf w5 HB5.out)
  rw [hy] at e3
  go_upto_region 8 with (go_at_call 14;refine AP'.out.mono ?_;rintro e w6 ⟨rfl,hb⟩;have HB6:=zh hb;clear hb;(try dsimp only))
  generalize hw7:World.alloc _ _=w7
  have H7:Hid (w7.heap[w6.heap.size]?=some (.cells #[.int .i64 u.f,.int .i64 u.t,.int .i64 u.n,.int .i64 u.b] 50 (0,0))∧Below w6.heap.size w6 w7):=by unfold Hid;rw [← hw7];exact ⟨heap_alloc_new _ _,zxa (Below.refl _ _) _⟩
  clear hw7 c0 c1 c2 fz d0 d1 d2 d3 e0 e1 e2 e3
  have H57:=zh (zxt HB6.out H7.out.2)
  have HB7:=zh (zxt HB5.out H57.out)
  obtain ⟨_,e0,e1,e2,e3,_⟩:=cells4 ((H57.out.block _ (Array.getElem?_eq_some_iff.1 H5.out.1).1).trans H5.out.1)
  obtain ⟨_,f0,f1,f2,f3,_⟩:=cells4 H7.out.1
  obtain ⟨_,c0,c1,c2,fz⟩:=cells3 (CL.out _ HB7.out)
  by_cases hu:u.f < u.t
  ·have HE2:=zh (HE.out.trans (if_pos ⟨hy,hf,hu⟩))
   go_wp2_with fail
   exact bodyPost_ret (v:=.tuple #[.agg #[.int .i64 u.t,.int .i64 y.n,.int .i64 1],.int .i64 0]) (by simp [results,Tryz.results16,go_sem,c0,c1,c2]) rfl ⟨by rw [HE2.out],below3 HB0.out (CL.out _ HB7.out) HB7.out _ _ _⟩
  ·have HE2:=zh (HE.out.trans (if_neg (fun e=>hu e.2.2)))
   go_wp2_with fail
   exact bodyPost_ret (v:=.tuple #[.agg #[.int .i64 x.f,.int .i64 y.n,.int .i64 1],.int .i64 0]) (by simp [results,Tryz.results16,go_sem,c0,c1,c2]) rfl ⟨by rw [HE2.out],below3 HB0.out (CL.out _ HB7.out) HB7.out _ _ _⟩
 ·have HE2:=zh (HE.out.trans (if_neg (fun e=>hy ⟨e.1,e.2.1⟩)))
  by_cases hyb:y.b=0
  ·have hf:¬ 0 < f:=fun e=>hy ⟨hyb,e⟩
   rw [hyb] at e3
   go_wp2_with fail
   exact bodyPost_ret (v:=.tuple #[.agg #[.int .i64 x.f,.int .i64 y.n,.int .i64 1],.int .i64 0]) (by simp [results,Tryz.results16,go_sem,c0,c1,c2]) rfl ⟨by rw [HE2.out],below3 HB0.out (CL.out _ HB5.out) HB5.out _ _ _⟩
  ·have hb':(y.b == 0)=false:=by simp [hyb]
   go_wp2_with fail
   exact bodyPost_ret (v:=.tuple #[.agg #[.int .i64 x.f,.int .i64 y.n,.int .i64 1],.int .i64 0]) (by simp [results,Tryz.results16,go_sem,c0,c1,c2]) rfl ⟨by rw [HE2.out],below3 HB0.out (CL.out _ HB5.out) HB5.out _ _ _⟩
open Go.RowKit
theorem cellOf {w:World} {g:Nat} {cs:Array Value} {T:TypeId} (h:w.heap[g]?=some (.cells cs T (0,0))) (i:Nat):w.cell? ⟨g,i,none⟩=cs[i]?:=cell_of_row w g i cs T (0,0) h
theorem own_one (w:World) (m:Int):∀ k,k < 1→(w.alloc (.cells #[.int .i64 m] 3)).cell? ⟨w.heap.size,k,none⟩=some (.int .i64 m):=fun k hk=>by
 rw [cellOf (heap_alloc_new w _)]
 match k,hk with
 | 0,_=>rfl
def Near (w:World) (v y:Value):Prop:=∀ k,y.ownBlock=some k→v.ownBlock=some k∨w.heap.size≤k
theorem Near.trans {w w2:World} {v x y:Value} (h:Near w v x) (hs:w.heap.size≤w2.heap.size) (k:y.ownBlock=x.ownBlock∨y.ownBlock=some w2.heap.size):Near w v y:=by
 intro q hq
 rcases k with k | k
 ·exact h q (k ▸ hq)
 ·rw [k] at hq
  cases hq
  exact .inr hs
theorem Near.self (w:World) (v:Value):Near w v v:=fun _ h=>.inl h
theorem kps_near {w w2 w3:World} {v x:Value} (k:Kps (fun k=>v.ownBlock=some k) w w2) (h:Near w v x) (g:w2.grownBy w3 x.ownBlock):Kps (fun k=>v.ownBlock=some k) w w3:=by
 refine k.trans (Kps.grown (o:=fun q=>x.ownBlock=some q) g (fun q e _=>e)) (fun q hq e=>?_)
 rcases h q e with h | h
 ·exact h
 ·omega
structure Rm (w:World) (B:Nat) (v:Value) (n cap:Nat):Prop where
 ex:(v=.slice none 0 0∧n=0∧cap=0)∨∃ g cur,v=.slice (some ⟨g,0,none⟩) n cap∧B≤g∧w.heap[g]?=some (.cells cur 3 (0,0))∧n≤cap∧cap≤maxLen∧cur.size=cap
theorem OwnI.rm {w:World} {B:Nat} {v:Value} {zs:List Int} (h:OwnI w B v zs):∃ cap,Rm w B v zs.length cap:=by
 rcases h.2 with ⟨h2,h3⟩ | ⟨g,cap,cur,hv,hb,hg,k1,k2,k3,k4⟩
 ·exact ⟨0,⟨.inl ⟨h2,h3,rfl⟩⟩⟩
 ·exact ⟨cap,⟨.inr ⟨g,cur,hv,hb,hg,k1,k2,by rw [k3,Nat.mul_one]⟩⟩⟩
theorem own_marks {w:World} {B g n cap:Nat} {cur:Array Value} {m:Int} (hb:B≤g) (hg:w.heap[g]?=some (.cells cur 3 (0,0))) (hn:n≤cap) (hc:cap≤maxLen) (hs:cur.size=cap) (hm:∀ k,k < cap→cur[k]?=some (.int .i64 m)):OwnI w B (.slice (some ⟨g,0,none⟩) n cap) (List.replicate n m):=by
 refine ⟨by simp,.inr ⟨g,cap,cur,by rw [List.length_replicate],hb,hg,by rw [List.length_replicate];exact hn,hc,by rw [hs,Nat.mul_one],?_⟩⟩
 rw [rep_map,List.length_replicate,Nat.mul_one]
 apply List.ext_getElem?
 intro k
 by_cases hk:k < n
 ·rw [List.getElem?_take_of_lt hk,Array.getElem?_toList,hm k (by omega),List.getElem?_replicate,if_pos hk]
 ·rw [List.getElem?_take_eq_none (by omega),List.getElem?_eq_none (by simp;omega)]
def HoR (B:Nat) (w:World) (v:Value) (m:Int) (e:Ending) (w':World):Prop:=∃ a1 n1 c1 a2 n2 c2,e=.returned (.agg #[.slice a1 n1 c1,.slice a2 n2 c2,.int .i64 m])∧OwnI w' B (.slice a1 n1 c1) (List.replicate n1 m)∧OwnI w' B (.slice a2 n2 c2) (List.replicate n2 m)∧Near w v (.slice a1 n1 c1)∧Near w v (.slice a2 n2 c2)∧Kps (fun k=>v.ownBlock=some k) w w'
set_option maxHeartbeats 4000000 in
theorem hold_any {B:Nat} (w:World) (ao:Option Addr) (n c:Nat) (zs:List Int) (m:Int) (hv:OwnI w B (.slice ao n c) zs) (hB:B≤w.heap.size) (hl:n≤100000000000) :
  Calls Tryz.prog 12 #[.slice ao n c,.int .i64 m] w fun e w'=>Hid (HoR B w (.slice ao n c) m e w'):=by
 obtain ⟨w0,hw0,hbx,hb0⟩:∃ w0,w0=w.alloc (.cells #[.slice none 0 0,.slice none 0 0,.int .i64 0] 45)∧w0.heap[w.heap.size]?=some (.cells #[.slice none 0 0,.slice none 0 0,.int .i64 0] 45 (0,0))∧Below w.heap.size w w0:=⟨_,rfl,heap_alloc_new _ _,zxa (Below.refl _ _) _⟩
 obtain ⟨cap,hr⟩:=OwnI.rm hv
 have hn:n=zs.length:=by obtain ⟨_,_,e⟩:=hv.form;simp only [Value.slice.injEq] at e;exact e.2.1
 rw [← hn] at hr
 have hcm:(c:Int)≤9223372036854775807:=by
  rcases hr.ex with ⟨e,_⟩ | ⟨g,cur,e,_,_,_,h4,_⟩
  ·cases e;decide
  ·cases e;unfold maxLen at h4;omega
 have hob:∀ k,(Value.slice ao n c).ownBlock=some k→k < w.heap.size:=fun k hk=>by
  rcases hr.ex with ⟨e,_⟩ | ⟨g,cur,e,_,h2,_⟩
  ·cases e;cases hk
  ·cases e;cases hk;exact (Array.getElem?_eq_some_iff.1 h2).1
 have HOB:=zh hob
 have HS0:Hid ((ao=none∧n=0∧c=0)∨∃ g cur,ao=some ⟨g,0,none⟩∧B≤g∧w0.heap[g]?=some (.cells cur 3 (0,0))∧n≤c∧c≤maxLen∧cur.size=c∧∀ k,k < 0→cur[k]?=some (.int .i64 m)):=by
  rcases hr.ex with ⟨e,h1,h2⟩ | ⟨g,cur,e,h1,h2,h3,h4,h5⟩
  ·cases e;exact .inl ⟨rfl,h1,rfl⟩
  ·cases e;exact .inr ⟨g,cur,rfl,h1,(hb0.block g (Array.getElem?_eq_some_iff.1 h2).1).trans h2,h3,h4,h5,fun k hk=>by omega⟩
 have HB0:=zh hb0
 have HBX:=zh hbx
 have HBB:=zh hB
 have HX:Hid (∀ w',Kps (fun k=>(Value.slice ao n c).ownBlock=some k) w0 w'→w'.heap[w.heap.size]?=some (.cells #[.slice none 0 0,.slice none 0 0,.int .i64 0] 45 (0,0))):=fun w' hk=>(hk.same _ (Array.getElem?_eq_some_iff.1 HBX.out).1 (fun e=>by have:=HOB.out _ e;omega)).trans HBX.out
 clear hv hr hb0 hbx hB hob hn zs cap
 go_enter Tryz.func12,Tryz.ntmps12
 go_upto_region 1 with fail
 rw [← hw0]
 clear hw0
 go_wp2_with fail
 go_loopw [6] (fun i wr=>∃ j:Nat,j≤c∧i=.int .i64 j∧Hid ((ao=none∧n=0∧c=0)∨∃ g cur,ao=some ⟨g,0,none⟩∧B≤g∧wr.heap[g]?=some (.cells cur 3 (0,0))∧n≤c∧c≤maxLen∧cur.size=c∧∀ k,k < j→cur[k]?=some (.int .i64 m))∧Hid (Kps (fun k=>(Value.slice ao n c).ownBlock=some k) w0 wr)) (fun i _=>c - (intOf i).toNat)
 case atStart=>exact ⟨0,Nat.zero_le _,rfl,HS0.out,Kps.refl _ _⟩
 case round =>
  clear HS0
  obtain ⟨j,hj,rfl,HS,HK⟩:=hrel
  by_cases hlt:(j:Int) < (c:Int)
  ·obtain ⟨g,cur,rfl,h1,h2,h3,h4,h5,h6⟩:=HS.out.resolve_left (fun h=>by have:=h.2.2;omega)
   obtain ⟨y,hy⟩:∃ y,cur[j]?=some y:=⟨_,Array.getElem?_eq_getElem (by omega)⟩
   have c1:wr.cell? ⟨g,j,none⟩=some y:=by rw [cellOf h2];exact hy
   have fr:wr.frozen? ⟨g,j,none⟩=false:=by simp [World.frozen?,h2]
   obtain ⟨s1,s2⟩:=set1 h2 j (.int .i64 m)
   have S1:=zh s1
   have S2:=zh s2
   have H:=zh (And.intro h1 (And.intro h3 (And.intro h4 (And.intro h5 h6))))
   clear h1 h2 h3 h4 h5 h6 s1 s2 hy HS
   go_wp2_with fail
   go_roundw
   case rel =>
    refine ⟨j + 1,by omega,by go_num,.inr ⟨g,_,rfl,H.out.1,S1.out,H.out.2.1,H.out.2.2.1,by simpa using H.out.2.2.2.1,fun k hk=>?_⟩,HK.out.trans (Kps.grown (o:=fun k=>some g=some k) S2.out (fun k e _=>e)) (fun _ _ e=>e)⟩
    have:=H.out.2.2.2.1
    by_cases e:k=j
    ·subst e
     rw [Array.getElem?_setIfInBounds_self_of_lt (by omega)]
    ·rw [Array.getElem?_setIfInBounds_ne (Ne.symm e)]
     exact H.out.2.2.2.2 k (by omega)
   case measure=>simp [intOf];omega
  ·have hjc:j=c:=by omega
   subst hjc
   have HO:Hid (OwnI wr B (.slice ao n j) (List.replicate n m)∧OwnI wr B (.slice ao j j) (List.replicate j m)):=by
    rcases HS.out with ⟨rfl,rfl,rfl⟩ | ⟨g,cur,rfl,h1,h2,h3,h4,h5,h6⟩
    ·exact ⟨World.ownsRow_nil _ _ _ _,World.ownsRow_nil _ _ _ _⟩
    ·exact ⟨own_marks h1 h2 h3 h4 h5 h6,own_marks h1 h2 (Nat.le_refl _) h4 h5 h6⟩
   clear HS hlt hj
   go_wp2_with fail
   go_loopw [7,8] (fun f i wr=>∃ (k:Nat) (a2:Option Addr) (n2 c2:Nat),k≤100∧i=.int .i64 k∧f=.slice a2 n2 c2∧n2=n + k∧Hid (OwnI wr B (.slice a2 n2 c2) (List.replicate (n + k) m)∧OwnI wr B (.slice ao j j) (List.replicate j m)∧Near w0 (.slice ao n j) (.slice a2 n2 c2)∧Kps (fun k=>(Value.slice ao n j).ownBlock=some k) w0 wr)) (fun _ i _=>100 - (intOf i).toNat)
   case atStart=>exact ⟨0,ao,n,j,by omega,rfl,rfl,rfl,HO.out.1,HO.out.2,Near.self _ _,HK.out⟩
   case round =>
    clear HO HK
    obtain ⟨k,a2,n2,c2,hk,rfl,rfl,hn2,HI⟩:=hrel
    have HN2:=zh hn2
    clear hn2
    have XB:=zh (show B≤wr.heap.size from Nat.le_trans HBB.out (Nat.le_trans HB0.out.size HI.out.2.2.2.size))
    by_cases hlt:(k:Int) < 100
    ·go_wp2_with (at_builtin;refine wpl_marks rfl _ _ 27 rfl B Tryz.info_i64 Tryz.underlying27 m (n + k) 1 _ rfl (HI.out.1.ext (zxa (Below.refl _ _) _)) wr.heap.size 1 rfl (own_one wr m) (by decide) (by omega) (by have:=XB.out;simp;omega) ?_;intro v5 w5 o5 p5 g5 n5;obtain ⟨a5,c5,e5⟩:=o5.form;rw [List.length_replicate] at e5;subst e5;have O5:=zh o5;have P5:=zh (p5 _ j (HI.out.2.1.ext (zxa (Below.refl _ _) _)));have N5:=zh (HI.out.2.2.1.trans (y:=.slice a5 (n + k + 1) c5) (by have:=HI.out.2.2.2.size;simp;omega) n5);have K5:=zh (kps_near (HI.out.2.2.2.trans (Kps.of_below _ (zxa (Below.refl _ _) _)) (fun _ _ h=>h)) HI.out.2.2.1 g5);clear o5 p5 g5 n5)
     go_roundw
     case rel=>exact ⟨k + 1,a5,n + k + 1,c5,by omega,by go_num,rfl,by omega,O5.out,P5.out,N5.out,K5.out⟩
     case measure=>simp [intOf];omega
    ·have hk1:k=100:=by omega
     subst hk1
     have hx:=HX.out wr HI.out.2.2.2
     obtain ⟨_,x0,x1,x2,fz⟩:=cells3 hx
     obtain ⟨q1,g1⟩:=set1 hx 0 (.slice ao j j)
     obtain ⟨q2,g2⟩:=set1 q1 1 (.slice a2 n2 c2)
     obtain ⟨q3,g3⟩:=set1 q2 2 (.int .i64 m)
     have G:=zh (zgt (zgt g1 g2) g3)
     have HXX:=zh hx
     clear hx q1 g1 q2 g2 q3 g3
     go_wp2_with fail
     have hkk:Kps (fun k=>k=w.heap.size) wr _:=Kps.grown G.out (fun k e _=>(Option.some.inj e).symm)
     have hty:Typ 45 wr w.heap.size:=⟨_,HXX.out⟩
     refine bodyPost_ret (v:=.agg #[.slice ao j j,.slice a2 n2 c2,.int .i64 m]) (by simp [results,Tryz.results12,go_sem,x0,x1,x2]) rfl ?_
     refine ⟨ao,j,j,a2,n2,c2,rfl,HI.out.2.1.oth hkk hty (by decide),by have:=HI.out.1.oth hkk hty (by decide);rwa [← HN2.out] at this,(fun k h=>.inl (by cases ao <;> exact h)),(fun q hq=>(HI.out.2.2.1 q hq).imp id (fun h=>Nat.le_trans HB0.out.size h)),?_⟩
     exact ((Kps.of_below (fun k=>(Value.slice ao n j).ownBlock=some k) HB0.out).trans HI.out.2.2.2 (fun _ _ e=>e)).trans hkk (fun i hi e=>by omega)
open Go.RowKit
structure Hel where
 l:Value
 a:Nat
 v:Value
 b:Nat
 x:Int
def hcs (h:Hel):List Value:=[h.l,h.v,.int .i64 h.x]
def hfl (hs:List Hel):List Value:=hs.flatMap hcs
theorem hfl_app (xs ys:List Hel):hfl (xs ++ ys)=hfl xs ++ hfl ys:=by simp [hfl]
theorem hfl_at:∀ (xs:List Hel) (i:Nat) (x:Hel),xs[i]?=some x→∀ r,r < 3→(hfl xs)[i * 3 + r]?=(hcs x)[r]?:=by
 intro xs
 induction xs with
 | nil=>intro i x h;simp at h
 | cons y xs ih =>
   intro i x h r hr
   rw [show hfl (y :: xs)=hcs y ++ hfl xs from rfl]
   cases i with
   | zero=>rw [List.getElem?_append_left (by show 0 * 3 + r < 3;omega)];simp at h;subst h;simp
   | succ i=>rw [List.getElem?_append_right (by show 3≤_;omega),show (i + 1) * 3 + r - (hcs y).length=i * 3 + r by show _ - 3=_;omega,ih i x (by simpa using h) r hr]
def OwnH (w:World) (B:Nat) (v:Value) (hs:List Hel):Prop:=w.ownsRow B 45 3 v hs.length (hfl hs)
theorem OwnH.ext {w w':World} {base:Nat} {v:Value} {xs:List Hel} (h:OwnH w base v xs) (hb:Below w.heap.size w w'):OwnH w' base v xs :=
 World.ownsRow.kept (row:=none) h ⟨hb.os,hb.tape,hb.output,hb.size,fun k hk _=>hb.block k hk⟩ (by cases v.ownBlock <;> simp)
theorem OwnH.form {w:World} {base:Nat} {v:Value} {xs:List Hel} (h:OwnH w base v xs):∃ ao cap,v=.slice ao xs.length cap:=by
 rcases h.2 with ⟨rfl,hn⟩ | ⟨g,cap,cur,hv,_⟩
 ·exact ⟨none,0,by rw [hn]⟩
 ·exact ⟨_,cap,hv⟩
theorem OwnH.typ {w:World} {B:Nat} {v:Value} {hs:List Hel} (h:OwnH w B v hs) {k:Nat} (hk:v.ownBlock=some k):Typ 45 w k:=by
 rcases h.2 with ⟨rfl,_⟩ | ⟨g,cap,cur,rfl,hb,hg,_⟩
 ·cases hk
 ·cases hk;exact ⟨_,hg⟩
theorem OwnH.at {w:World} {B:Nat} {ao:Option Addr} {n c:Nat} {hs:List Hel} (h:OwnH w B (.slice ao n c) hs) (i:Nat) (x:Hel) (hx:hs[i]?=some x):∃ g,ao=some ⟨g,0,none⟩∧g < w.heap.size∧n≤c∧w.cell? ⟨g,i * 3,none⟩=some x.l∧w.cell? ⟨g,i * 3 + 1,none⟩=some x.v∧w.cell? ⟨g,i * 3 + 2,none⟩=some (.int .i64 x.x):=by
 have hil:=(List.getElem?_eq_some_iff.1 hx).1
 rcases h.2 with ⟨e,hn⟩ | ⟨g,cap,cur,hv,hb,hg,k1,k2,k3,k4⟩
 ·rw [hn] at hil;omega
 ·simp only [Value.slice.injEq] at hv
  obtain ⟨rfl,rfl,rfl⟩:=hv
  have h3:∀ r,r < 3→w.cell? ⟨g,i * 3 + r,none⟩=(hcs x)[r]?:=by
   intro r hr
   have h3:=hfl_at hs i x hx r hr
   rw [← k4,List.getElem?_take,if_pos (by omega)] at h3
   rw [cellOf hg]
   simpa using h3
  exact ⟨g,rfl,(Array.getElem?_eq_some_iff.1 hg).1,k1,h3 0 (by omega),h3 1 (by omega),h3 2 (by omega)⟩
def HelI (w:World) (B:Nat) (h:Hel):Prop:=OwnI w B h.l (List.replicate h.a h.x)∧OwnI w B h.v (List.replicate h.b h.x)
theorem marks_at {w:World} {B:Nat} {ao:Option Addr} {n c m:Nat} {x:Int} (h:OwnI w B (.slice ao n c) (List.replicate m x)) (k:Nat) (hk:k < n):∃ g,ao=some ⟨g,0,none⟩∧g < w.heap.size∧n≤c∧w.cell? ⟨g,k,none⟩=some (.int .i64 x):=by
 obtain ⟨a9,c9,e9⟩:=h.form
 simp only [Value.slice.injEq] at e9
 have e:n=m:=by rw [e9.2.1,List.length_replicate]
 subst e
 have hne:List.replicate n x≠[]:=by intro e;have:=congrArg List.length e;simp at this;omega
 obtain ⟨g,cap,hv,hg,h1,h2,h3⟩:=h.row hne
 simp only [Value.slice.injEq] at hv
 obtain ⟨rfl,_,rfl⟩:=hv
 refine ⟨g,rfl,hg,by simpa using h1,?_⟩
 have:=h3 k (.int .i64 x) (by rw [rep_map,List.getElem?_replicate,if_pos hk])
 rw [Addr.add_lit,Nat.zero_add] at this
 exact this
theorem OwnI.bdm {w:World} {B:Nat} {ao:Option Addr} {n c m:Nat} {x:Int} (h:OwnI w B (.slice ao n c) (List.replicate m x)):(m:Int)≤9223372036854775807:=by
 obtain ⟨_,_,_,h1,h2,_⟩:=h.rdi
 rw [List.length_replicate] at h1
 unfold maxLen at h2
 omega
set_option maxHeartbeats 8000000 in
theorem stands_any {B:Nat} (w:World) (ao:Option Addr) (n c:Nat) (hs:List Hel) (hH:OwnH w B (.slice ao n c) hs) (hI:∀ h ∈ hs,HelI w B h) (hn:n≤1000000) :
  Calls Tryz.prog 20 #[.slice ao n c] w fun e w'=>e=.returned (.bool true)∧Below w.heap.size w w':=by
 have hnl:n=hs.length:=by obtain ⟨_,_,e⟩:=hH.form;simp only [Value.slice.injEq] at e;exact e.2.1
 have HN:=zh hnl
 have HH:=zh hH
 have HI:=zh hI
 clear hH hI hnl
 go_enter Tryz.func20,Tryz.ntmps20
 go_wp2_with fail
 go_loopw [3] (fun i wr=>∃ j:Nat,j≤n∧i=.int .i64 j∧Hid (Below w.heap.size w wr)) (fun i _=>n - (intOf i).toNat)
 case atStart=>exact ⟨0,Nat.zero_le _,rfl,Below.refl _ _⟩
 case round =>
  obtain ⟨i,hi,rfl,HB⟩:=hrel
  by_cases hlt:(i:Int) < (n:Int)
  ·obtain ⟨x,hx⟩:∃ x,hs[i]?=some x:=⟨_,List.getElem?_eq_getElem (by have:=HN.out;omega)⟩
   obtain ⟨hl,hv⟩:=HI.out x (List.mem_of_getElem? hx)
   obtain ⟨g,rfl,hg,hnc,y0,y1,y2⟩:=HH.out.at i x hx
   obtain ⟨al,cl,el⟩:=hl.form
   obtain ⟨am,cm,em⟩:=hv.form
   rw [el] at y0 hl
   rw [em] at y1 hv
   have z0:=(HB.out.cell (p:=⟨g,i * 3,none⟩) hg).trans y0
   have z1:=(HB.out.cell (p:=⟨g,i * 3 + 1,none⟩) hg).trans y1
   have z2:=(HB.out.cell (p:=⟨g,i * 3 + 2,none⟩) hg).trans y2
   rw [List.length_replicate] at z0 z1 hl hv
   have HL:=zh hl
   have HV:=zh hv
   have hla:(x.a:Int)≤9223372036854775807:=OwnI.bdm hl
   have hlb:(x.b:Int)≤9223372036854775807:=OwnI.bdm hv
   generalize x.a=na at *
   generalize x.b=nb at *
   generalize x.x=m at *
   clear hl hv hx y0 y1 y2 el em
   go_upto_region 5 with fail
   generalize hy1:World.alloc _ _=y1
   have HX:Hid (y1.heap[wr.heap.size]?=some (.cells #[.slice al na cl,.slice am nb cm,.int .i64 m] 45 (0,0))):=by unfold Hid;rw [← hy1];exact heap_alloc_new _ _
   have HY:Hid (Below w.heap.size w y1):=by unfold Hid;rw [← hy1];exact zxa HB.out _
   clear hy1 z0 z1 z2
   obtain ⟨bx,hbx⟩:∃ bx,bx=wr.heap.size:=⟨_,rfl⟩
   rw [← hbx] at HX ⊢
   clear hbx
   have HC:Hid (∀ y,Below y1.heap.size y1 y→y.cell? ⟨bx,0,none⟩=some (.slice al na cl)∧y.cell? ⟨bx,1,none⟩=some (.slice am nb cm)∧y.cell? ⟨bx,2,none⟩=some (.int .i64 m)):=fun y hy=>by
    obtain ⟨_,c0,c1,c2,_⟩:=cells3 ((hy.block bx (Array.getElem?_eq_some_iff.1 HX.out).1).trans HX.out)
    exact ⟨c0,c1,c2⟩
   go_wp2_with fail
   go_loopg [5] na (fun gi i wz=>∃ k:Nat,k + gi=na∧i=.int .i64 (k:Nat)∧Hid (Below y1.heap.size y1 wz))
   case atStart=>exact ⟨0,by omega,rfl,Below.refl _ _⟩
   case round =>
    obtain ⟨k,hk,rfl,HZ⟩:=hrel
    have HK:=zh hk
    clear hk
    obtain ⟨c0,c1,c2⟩:=HC.out _ HZ.out
    by_cases hkn:(k:Int) < (na:Int)
    ·obtain ⟨g9,rfl,hg9,hnc,cx⟩:=marks_at HL.out k (by omega)
     have cz:wr.cell? ⟨g9,k,none⟩=some (.int .i64 m):=((HY.out.trans (HZ.out.mono HY.out.size)).cell (p:=⟨g9,k,none⟩) hg9).trans cx
     clear cx
     go_wp2_with fail
     go_quiet (fail)
     go_wp2_with fail
     go_roundg (na - (k + 1))
     case measure=>have:=HK.out;omega
     exact ⟨k + 1,by omega,by go_num,below_drewN HZ.out _⟩
    ·have hkn2:¬ k < na:=by omega
     clear hkn
     go_wp2_with fail
     go_loopg [6] nb (fun gi i wz=>∃ k:Nat,k + gi=nb∧i=.int .i64 (k:Nat)∧Hid (Below y1.heap.size y1 wz))
     case atStart=>exact ⟨0,by omega,rfl,HZ.out⟩
     case round =>
      clear HZ c0 c1 c2
      obtain ⟨q,hk,rfl,HZ⟩:=hrel
      have HQ:=zh hk
      clear hk
      obtain ⟨c0,c1,c2⟩:=HC.out _ HZ.out
      by_cases hkn:(q:Int) < (nb:Int)
      ·obtain ⟨g9,rfl,hg9,hnc,cx⟩:=marks_at HV.out q (by omega)
       have cz:wr.cell? ⟨g9,q,none⟩=some (.int .i64 m):=((HY.out.trans (HZ.out.mono HY.out.size)).cell (p:=⟨g9,q,none⟩) hg9).trans cx
       clear cx
       go_wp2_with fail
       go_quiet (fail)
       go_wp2_with fail
       go_roundg (nb - (q + 1))
       case measure=>have:=HQ.out;omega
       exact ⟨q + 1,by omega,by go_num,below_drewN HZ.out _⟩
      ·have hkn3:¬ q < nb:=by omega
       clear hkn
       go_wp2_with fail
       go_roundw
       case rel=>exact ⟨i + 1,by omega,by go_num,HY.out.trans (HZ.out.mono HY.out.size)⟩
       case measure=>simp [intOf];omega
  ·go_wp2_with fail
   go_ret
   exact ⟨rfl,HB.out⟩
end Go.Proofs.YtgfdfajblidleaaGreat.P
