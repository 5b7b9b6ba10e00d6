import Derived.Test.YtjomfbegghgbdaaGreatK39
set_option maxRecDepth 100000
namespace Go.Proofs.YtjomfbegghgbdaaGreat.P
open Go.RowKit
theorem lay4 {w0 y3:World} {gl:Nat} {T:TypeId} {cs:Array Value} (h:y3.heap[gl]?=some (.cells cs T (0,0))) (hs:cs.size=4) (hb:Below w0.heap.size w0 y3) (hge:w0.heap.size≤gl) (v0 v1 v2 v3:Value) :
  ((((y3.setCell ⟨gl,0,none⟩ v0).setCell ⟨gl,1,none⟩ v1).setCell ⟨gl,2,none⟩ v2).setCell ⟨gl,3,none⟩ v3).heap[gl]?=some (.cells #[v0,v1,v2,v3] T (0,0))∧Below w0.heap.size w0 ((((y3.setCell ⟨gl,0,none⟩ v0).setCell ⟨gl,1,none⟩ v1).setCell ⟨gl,2,none⟩ v2).setCell ⟨gl,3,none⟩ v3):=by
 obtain ⟨h1,g1⟩:=set1 h 0 v0
 obtain ⟨h2,g2⟩:=set1 h1 1 v1
 obtain ⟨h3,g3⟩:=set1 h2 2 v2
 obtain ⟨h4,g4⟩:=set1 h3 3 v3
 refine ⟨?_,zbp hb hb.size (zgt (zgt (zgt g1 g2) g3) g4) hge⟩
 rw [h4]
 obtain ⟨l⟩:=cs
 match l,hs with
 | [_,_,_,_],_=>rfl
theorem line_any (x:Ln) (w:World):Calls Tryz.prog 47 #[.agg #[.int .i64 x.f,.int .i64 x.t,.int .i64 x.n,.int .i64 x.b],.agg #[.int .i64 x.f,.int .i64 x.t,.int .i64 x.n,.int .i64 x.b]] w fun e w'=>e=.returned (.bool true)∧Below w.heap.size w w':=by
 go_enter Tryz.func47,Tryz.ntmps47
 go_wp2_with fail
 go_ret
 exact ⟨rfl,zxa (zxa (Below.refl _ _) _) _⟩
set_option maxHeartbeats 8000000 in
theorem counts_two (enc:Int) (w:World) (g t:Nat) (A:List Int) (m:Nat) (o:Opv) (v:Value) (h:BtW enc w g t A m) (hk:o.k=2) (hv:∃ ap np cp,v=.slice ap np cp):Yes 101 w g o v:=by
 intro w1 hb1
 obtain ⟨ap,np,cp,rfl⟩:=hv
 obtain ⟨who,k,a,b,put⟩:=o
 dsimp only at hk
 subst hk
 unfold Opv.val
 dsimp only
 obtain ⟨w0,hw0,kk0,hb0⟩:∃ w0,w0=w1.alloc (.cells #[.int .i64 who,.int .i64 2,.int .i64 a,.int .i64 b,.slice ap np cp] 38)∧w0.heap[w1.heap.size]?=some (.cells #[.int .i64 who,.int .i64 2,.int .i64 a,.int .i64 b,.slice ap np cp] 38 (0,0))∧Below w1.heap.size w1 w0:=⟨_,rfl,heap_alloc_new _ _,zxa (Below.refl _ _) _⟩
 have HB0:=zh hb0
 have HW0:=zh ((h.ext hb1).ext hb0)
 obtain ⟨hlt,c0,c1,c2,c3,c4⟩:=cells5 kk0
 obtain ⟨va,hg,hva⟩:=HW0.out.ex
 obtain ⟨aa,ca,hvv⟩:=hva.form
 subst hvv
 have HGG:=zh hg
 have HVA:=zh hva
 have hlen:=HW0.out.tz.len
 have HS:Hid (∀ w',Below w0.heap.size w0 w'→w'.cell? ⟨g,0,none⟩=some (.pointer (some ⟨t,0,none⟩))∧w'.cell? ⟨g,1,none⟩=some (.slice aa A.length ca)∧w'.cell? ⟨w1.heap.size,2,none⟩=some (.int .i64 a)):=fun w' hb=>⟨(hb.cell (p:=⟨g,0,none⟩) HW0.out.lt).trans (cells2 HGG.out).2.1,(hb.cell (p:=⟨g,1,none⟩) HW0.out.lt).trans (cells2 HGG.out).2.2.1,(hb.cell (p:=⟨w1.heap.size,2,none⟩) hlt).trans c2⟩
 have ks:=HS.out w0 (Below.refl _ _)
 clear hg hva h hb0 hb1 kk0
 have CN:Hid (∀ w',Below w0.heap.size w0 w'→Calls Tryz.prog 19 #[.pointer (some ⟨t,0,none⟩)] w' fun e w''=>e=.returned (.int .i64 (cnt enc A))∧Below w'.heap.size w' w''):=fun w' hb=>Count_z enc w' t A (HW0.out.tz.ext hb)
 have RC:Hid (∀ w',Below w0.heap.size w0 w'→Calls Tryz.prog 71 #[.slice aa A.length ca] w' fun e w''=>e=.returned (.int .i64 (cnt enc A))∧Below w'.heap.size w' w''):=fun w' hb=>rCount_any enc _ A w' (HVA.out.ext hb).rdi hlen
 generalize cnt enc A=z at *
 go_enter Tryz.func101,Tryz.ntmps101
 go_upto_region 1 with fail
 rw [← hw0]
 clear hw0
 go_upto_region 3 with fail
 refine wp_region_held_drew (S:=fun w''=>w''.cell? ⟨g,0,none⟩=some (.pointer (some ⟨t,0,none⟩))∧w''.cell? ⟨g,1,none⟩=some (.slice aa A.length ca)∧w''.cell? ⟨w1.heap.size,2,none⟩=some (.int .i64 a)) (by kernel_rfl) (ks) (fun _=>?_)
 refine tkH 0 rfl ?_
 refine tkH 1 rfl ?_
 refine tkH 2 rfl ?_
 refine tkH 3 rfl ?_
 refine tkH 5 rfl ?_
 refine tkH 6 rfl ?_
 refine tkH 7 rfl ?_
 refine tkH 8 rfl ?_
 refine rdH 4 rfl fun K hK=>?_
 go_simp
 refine (CN.out _ (Below.drew (Below.refl _ _))).mono ?_;clear ks;rintro e y2 ⟨rfl,hb⟩;have Hy2:=zh (zxt (Below.drew (Below.refl w0.heap.size w0)) hb);clear hb;have ks:=HS.out y2 Hy2.out;try dsimp only
 refine hK.out _ _ ?_ (fun _=>?_)
 ·(try simp only [World.cell?_drew]);exact ks
 clear hK K
 try simp only [Act.put,tS]
 refine rdH 9 rfl fun K hK=>?_
 go_simp
 refine (RC.out _ Hy2.out).mono ?_;clear ks;rintro e y3 ⟨rfl,hb⟩;have Hy3:=zh (zxt Hy2.out hb);clear hb;have ks:=HS.out y3 Hy3.out;try dsimp only
 refine hK.out _ _ ?_ (fun _=>?_)
 ·(try simp only [World.cell?_drew]);exact ks
 clear hK K
 try simp only [Act.put,tS]
 refine tkH 10 rfl ?_
 refine tkH 11 rfl ?_
 refine dnH ?_
 go_wp2_with fail
 go_ret
 exact ⟨rfl,zxt HB0.out Hy3.out⟩
set_option maxHeartbeats 8000000 in
theorem ats_any (enc:Int) (w:World) (g t:Nat) (A:List Int) (m:Nat) (o:Opv) (v:Value) (h:BtW enc w g t A m) (hv:∃ ap np cp,v=.slice ap np cp):Yes 102 w g o v:=by
 intro w1 hb1
 obtain ⟨ap,np,cp,rfl⟩:=hv
 obtain ⟨who,k,a,b,put⟩:=o
 unfold Opv.val
 dsimp only
 obtain ⟨w0,hw0,kk0,hb0⟩:∃ w0,w0=w1.alloc (.cells #[.int .i64 who,.int .i64 k,.int .i64 a,.int .i64 b,.slice ap np cp] 38)∧w0.heap[w1.heap.size]?=some (.cells #[.int .i64 who,.int .i64 k,.int .i64 a,.int .i64 b,.slice ap np cp] 38 (0,0))∧Below w1.heap.size w1 w0:=⟨_,rfl,heap_alloc_new _ _,zxa (Below.refl _ _) _⟩
 have HB0:=zh hb0
 have HW0:=zh ((h.ext hb1).ext hb0)
 obtain ⟨hlt,c0,c1,c2,c3,c4⟩:=cells5 kk0
 obtain ⟨va,hg,hva⟩:=HW0.out.ex
 obtain ⟨aa,ca,hvv⟩:=hva.form
 subst hvv
 have HGG:=zh hg
 have HVA:=zh hva
 have hlen:=HW0.out.tz.len
 have HS:Hid (∀ w',Below w0.heap.size w0 w'→w'.cell? ⟨g,0,none⟩=some (.pointer (some ⟨t,0,none⟩))∧w'.cell? ⟨g,1,none⟩=some (.slice aa A.length ca)∧w'.cell? ⟨w1.heap.size,2,none⟩=some (.int .i64 a)):=fun w' hb=>⟨(hb.cell (p:=⟨g,0,none⟩) HW0.out.lt).trans (cells2 HGG.out).2.1,(hb.cell (p:=⟨g,1,none⟩) HW0.out.lt).trans (cells2 HGG.out).2.2.1,(hb.cell (p:=⟨w1.heap.size,2,none⟩) hlt).trans c2⟩
 have ks:=HS.out w0 (Below.refl _ _)
 clear hg hva h hb0 hb1 kk0
 have AT:Hid (∀ w',Below w0.heap.size w0 w'→Calls Tryz.prog 27 #[.pointer (some ⟨t,0,none⟩),.int .i64 a] w' fun e w''=>e=.returned (.tuple #[.agg #[.int .i64 (lnA enc A a).f,.int .i64 (lnA enc A a).t,.int .i64 (lnA enc A a).n,.int .i64 (lnA enc A a).b],.int .i64 (lnE enc A a)])∧Below w'.heap.size w' w''):=fun w' hb=>At_z enc w' t A a (HW0.out.tz.ext hb)
 have RA:Hid (∀ w',Below w0.heap.size w0 w'→Calls Tryz.prog 126 #[.slice aa A.length ca,.int .i64 a] w' fun e w''=>e=.returned (.tuple #[.agg #[.int .i64 (lnA enc A a).f,.int .i64 (lnA enc A a).t,.int .i64 (lnA enc A a).n,.int .i64 (lnA enc A a).b],.int .i64 (lnE enc A a)])∧Below w'.heap.size w' w''):=fun w' hb=>rAt_any enc _ A a w' (HVA.out.ext hb).rdi hlen
 have LI:Hid (∀ w',Calls Tryz.prog 47 #[.agg #[.int .i64 (lnA enc A a).f,.int .i64 (lnA enc A a).t,.int .i64 (lnA enc A a).n,.int .i64 (lnA enc A a).b],.agg #[.int .i64 (lnA enc A a).f,.int .i64 (lnA enc A a).t,.int .i64 (lnA enc A a).n,.int .i64 (lnA enc A a).b]] w' fun e w''=>e=.returned (.bool true)∧Below w'.heap.size w' w''):=fun w'=>line_any _ w'
 generalize lnA enc A a=y at *
 generalize lnE enc A a=z at *
 go_enter Tryz.func102,Tryz.ntmps102
 go_upto_region 1 with fail
 rw [← hw0]
 clear hw0
 go_cut [5,6] from 9 to 18 (fun p e wF=>∃ gl:Nat,p=.pointer (some ⟨gl,0,none⟩)∧e=.int .i64 z∧Hid (wF.heap[gl]?=some (.cells #[.int .i64 y.f,.int .i64 y.t,.int .i64 y.n,.int .i64 y.b] 50 (0,0))∧Below w0.heap.size w0 wF))
 case first =>
  have HIN:=zh (Below.refl w0.heap.size w0)
  refine wp_region_held_drew (S:=fun w''=>w''.cell? ⟨g,0,none⟩=some (.pointer (some ⟨t,0,none⟩))∧w''.cell? ⟨g,1,none⟩=some (.slice aa A.length ca)∧w''.cell? ⟨w1.heap.size,2,none⟩=some (.int .i64 a)) (by kernel_rfl) (ks) (fun _=>?_)
  refine tkH 0 rfl ?_
  refine tkH 1 rfl ?_
  refine tkH 2 rfl ?_
  refine tkH 3 rfl ?_
  refine tkH 4 rfl ?_
  refine tkH 5 rfl ?_
  refine wpAnyH_ready (rs:=[6,10]) (by kernel_rfl) (by simp) ?_
  refine (AllReadyH.cons (o:=_) rfl (fun K hK=>?_) (AllReadyH.cons (o:=_) rfl (fun K hK=>?_) AllReadyH.nil))
  ·skip
   go_simp
   refine (AT.out _ (zxt HIN.out (Below.drew (Below.refl _ _)))).mono ?_;rintro e y2 ⟨rfl,hb⟩;have Hy2:=zh (zxt (Below.drew (Below.refl w0.heap.size w0)) hb);clear hb;clear ks;have ks:=HS.out y2 (zxt HIN.out Hy2.out);try dsimp only
   refine hK.out _ _ ?_ (fun _=>?_)
   ·(try simp only [World.cell?_drew]);exact ks
   clear hK K
   try simp only [Act.put,tS]
   refine tkH 7 rfl ?_
   refine tkH 8 rfl ?_
   refine tkH 9 rfl ?_
   refine rdH 10 rfl fun K hK=>?_
   go_simp
   generalize hwN:World.alloc _ _=y3;have hst:Below y2.heap.size y2 y3:=(by rw [← hwN];exact zxa (Below.refl _ _) _);have HL:Hid (y3.heap[y2.heap.size]?=some (.cells #[.int .i64 0,.int .i64 0,.int .i64 0,.int .i64 0] 50 (0,0))):=(by unfold Hid;rw [← hwN];exact heap_alloc_new _ _);have Hy3:=zh (zxt Hy2.out hst);clear hwN hst;clear ks;have ks:=HS.out y3 (zxt HIN.out Hy3.out);have hge:=zh Hy2.out.size;obtain ⟨hgl,d0,d1,d2,d3,fz⟩:=cells4 HL.out;try dsimp only
   refine hK.out _ _ ?_ (fun _=>?_)
   ·(try simp only [World.cell?_drew]);exact ks
   clear hK K
   try simp only [Act.put,tS]
   refine rdH 11 rfl fun K hK=>?_
   go_simp
   generalize hwF:World.setCell (World.setCell (World.setCell (World.setCell y3 _ _) _ _) _ _) _ _=yF;have HL2:Hid (yF.heap[y2.heap.size]?=some (.cells #[.int .i64 y.f,.int .i64 y.t,.int .i64 y.n,.int .i64 y.b] 50 (0,0))):=(by unfold Hid;rw [← hwF];exact (lay4 HL.out rfl Hy3.out hge.out _ _ _ _).1);have HyF:Hid (Below w0.heap.size w0 yF):=(by unfold Hid;rw [← hwF];exact (lay4 HL.out rfl Hy3.out hge.out _ _ _ _).2);clear hwF d0 d1 d2 d3 fz hgl;clear ks;have ks:=HS.out yF (zxt HIN.out HyF.out);try dsimp only
   refine hK.out _ _ ?_ (fun _=>?_)
   ·(try simp only [World.cell?_drew]);exact ks
   clear hK K
   try simp only [Act.put,tS]
   refine tkH 12 rfl ?_
   refine dnH ?_
   go_wp2_with fail
   go_meet
   case rel=>exact ⟨y2.heap.size,rfl,rfl,HL2.out,by first | exact HyF.out | exact HyF.out.drew⟩
  ·skip
   go_simp
   generalize hwN:World.alloc _ _=y2;have Hy2:Hid (Below w0.heap.size w0 y2):=(by unfold Hid;rw [← hwN];exact zxa (Below.refl _ _) _);have HLa:Hid (y2.heap[w0.heap.size]?=some (.cells #[.int .i64 0,.int .i64 0,.int .i64 0,.int .i64 0] 50 (0,0))):=(by unfold Hid;rw [← hwN];exact heap_alloc_new _ _);clear hwN;clear ks;have ks:=HS.out y2 (zxt HIN.out Hy2.out);have hge:=zh (Nat.le_refl w0.heap.size);try dsimp only
   refine hK.out _ _ ?_ (fun _=>?_)
   ·(try simp only [World.cell?_drew]);exact ks
   clear hK K
   try simp only [Act.put,tS]
   refine rdH 6 rfl fun K hK=>?_
   go_simp
   refine (AT.out _ (zxt HIN.out Hy2.out.drew)).mono ?_;rintro e y3 ⟨rfl,hb⟩;have HL:Hid (y3.heap[w0.heap.size]?=some (.cells #[.int .i64 0,.int .i64 0,.int .i64 0,.int .i64 0] 50 (0,0))):=(hb.block _ (Array.getElem?_eq_some_iff.1 HLa.out).1).trans HLa.out;have Hy3:=zh (zxt Hy2.out.drew hb);clear hb HLa;clear ks;have ks:=HS.out y3 (zxt HIN.out Hy3.out);obtain ⟨hgl,d0,d1,d2,d3,fz⟩:=cells4 HL.out;try dsimp only
   refine hK.out _ _ ?_ (fun _=>?_)
   ·(try simp only [World.cell?_drew]);exact ks
   clear hK K
   try simp only [Act.put,tS]
   refine tkH 7 rfl ?_
   refine tkH 8 rfl ?_
   refine tkH 9 rfl ?_
   refine rdH 11 rfl fun K hK=>?_
   go_simp
   generalize hwF:World.setCell (World.setCell (World.setCell (World.setCell y3 _ _) _ _) _ _) _ _=yF;have HL2:Hid (yF.heap[w0.heap.size]?=some (.cells #[.int .i64 y.f,.int .i64 y.t,.int .i64 y.n,.int .i64 y.b] 50 (0,0))):=(by unfold Hid;rw [← hwF];exact (lay4 HL.out rfl Hy3.out hge.out _ _ _ _).1);have HyF:Hid (Below w0.heap.size w0 yF):=(by unfold Hid;rw [← hwF];exact (lay4 HL.out rfl Hy3.out hge.out _ _ _ _).2);clear hwF d0 d1 d2 d3 fz hgl;clear ks;have ks:=HS.out yF (zxt HIN.out HyF.out);try dsimp only
   refine hK.out _ _ ?_ (fun _=>?_)
   ·(try simp only [World.cell?_drew]);exact ks
   clear hK K
   try simp only [Act.put,tS]
   refine tkH 12 rfl ?_
   refine dnH ?_
   go_wp2_with fail
   go_meet
   case rel=>exact ⟨w0.heap.size,rfl,rfl,HL2.out,by first | exact HyF.out | exact HyF.out.drew⟩
 obtain ⟨g5,rfl,rfl,H5⟩:=hcut
 clear ks
 have ks:=HS.out wc H5.out.2
 go_upto_region 2 with fail
 go_cut [7,8] from 19 to 28 (fun p e wF=>∃ gl:Nat,p=.pointer (some ⟨gl,0,none⟩)∧e=.int .i64 z∧Hid (wF.heap[gl]?=some (.cells #[.int .i64 y.f,.int .i64 y.t,.int .i64 y.n,.int .i64 y.b] 85 (0,0))∧Below wc.heap.size wc wF))
 case first =>
  have HIN:=zh H5.out.2
  refine wp_region_held_drew (S:=fun w''=>w''.cell? ⟨g,0,none⟩=some (.pointer (some ⟨t,0,none⟩))∧w''.cell? ⟨g,1,none⟩=some (.slice aa A.length ca)∧w''.cell? ⟨w1.heap.size,2,none⟩=some (.int .i64 a)) (by kernel_rfl) (ks) (fun _=>?_)
  refine tkH 0 rfl ?_
  refine tkH 1 rfl ?_
  refine tkH 2 rfl ?_
  refine tkH 3 rfl ?_
  refine tkH 4 rfl ?_
  refine tkH 5 rfl ?_
  refine wpAnyH_ready (rs:=[6,10]) (by kernel_rfl) (by simp) ?_
  refine (AllReadyH.cons (o:=_) rfl (fun K hK=>?_) (AllReadyH.cons (o:=_) rfl (fun K hK=>?_) AllReadyH.nil))
  ·skip
   go_simp
   refine (RA.out _ (zxt HIN.out (Below.drew (Below.refl _ _)))).mono ?_;rintro e y2 ⟨rfl,hb⟩;have Hy2:=zh (zxt (Below.drew (Below.refl wc.heap.size wc)) hb);clear hb;clear ks;have ks:=HS.out y2 (zxt HIN.out Hy2.out);try dsimp only
   refine hK.out _ _ ?_ (fun _=>?_)
   ·(try simp only [World.cell?_drew]);exact ks
   clear hK K
   try simp only [Act.put,tS]
   refine tkH 7 rfl ?_
   refine tkH 8 rfl ?_
   refine tkH 9 rfl ?_
   refine rdH 10 rfl fun K hK=>?_
   go_simp
   generalize hwN:World.alloc _ _=y3;have hst:Below y2.heap.size y2 y3:=(by rw [← hwN];exact zxa (Below.refl _ _) _);have HL:Hid (y3.heap[y2.heap.size]?=some (.cells #[.int .i64 0,.int .i64 0,.int .i64 0,.int .i64 0] 85 (0,0))):=(by unfold Hid;rw [← hwN];exact heap_alloc_new _ _);have Hy3:=zh (zxt Hy2.out hst);clear hwN hst;clear ks;have ks:=HS.out y3 (zxt HIN.out Hy3.out);have hge:=zh Hy2.out.size;obtain ⟨hgl,d0,d1,d2,d3,fz⟩:=cells4 HL.out;try dsimp only
   refine hK.out _ _ ?_ (fun _=>?_)
   ·(try simp only [World.cell?_drew]);exact ks
   clear hK K
   try simp only [Act.put,tS]
   refine rdH 11 rfl fun K hK=>?_
   go_simp
   generalize hwF:World.setCell (World.setCell (World.setCell (World.setCell y3 _ _) _ _) _ _) _ _=yF;have HL2:Hid (yF.heap[y2.heap.size]?=some (.cells #[.int .i64 y.f,.int .i64 y.t,.int .i64 y.n,.int .i64 y.b] 85 (0,0))):=(by unfold Hid;rw [← hwF];exact (lay4 HL.out rfl Hy3.out hge.out _ _ _ _).1);have HyF:Hid (Below wc.heap.size wc yF):=(by unfold Hid;rw [← hwF];exact (lay4 HL.out rfl Hy3.out hge.out _ _ _ _).2);clear hwF d0 d1 d2 d3 fz hgl;clear ks;have ks:=HS.out yF (zxt HIN.out HyF.out);try dsimp only
   refine hK.out _ _ ?_ (fun _=>?_)
   ·(try simp only [World.cell?_drew]);exact ks
   clear hK K
   try simp only [Act.put,tS]
   refine tkH 12 rfl ?_
   refine dnH ?_
   go_wp2_with fail
   go_meet
   case rel=>exact ⟨y2.heap.size,rfl,rfl,HL2.out,by first | exact HyF.out | exact HyF.out.drew⟩
  ·skip
   go_simp
   generalize hwN:World.alloc _ _=y2;have Hy2:Hid (Below wc.heap.size wc y2):=(by unfold Hid;rw [← hwN];exact zxa (Below.refl _ _) _);have HLa:Hid (y2.heap[wc.heap.size]?=some (.cells #[.int .i64 0,.int .i64 0,.int .i64 0,.int .i64 0] 85 (0,0))):=(by unfold Hid;rw [← hwN];exact heap_alloc_new _ _);clear hwN;clear ks;have ks:=HS.out y2 (zxt HIN.out Hy2.out);have hge:=zh (Nat.le_refl wc.heap.size);try dsimp only
   refine hK.out _ _ ?_ (fun _=>?_)
   ·(try simp only [World.cell?_drew]);exact ks
   clear hK K
   try simp only [Act.put,tS]
   refine rdH 6 rfl fun K hK=>?_
   go_simp
   refine (RA.out _ (zxt HIN.out Hy2.out.drew)).mono ?_;rintro e y3 ⟨rfl,hb⟩;have HL:Hid (y3.heap[wc.heap.size]?=some (.cells #[.int .i64 0,.int .i64 0,.int .i64 0,.int .i64 0] 85 (0,0))):=(hb.block _ (Array.getElem?_eq_some_iff.1 HLa.out).1).trans HLa.out;have Hy3:=zh (zxt Hy2.out.drew hb);clear hb HLa;clear ks;have ks:=HS.out y3 (zxt HIN.out Hy3.out);obtain ⟨hgl,d0,d1,d2,d3,fz⟩:=cells4 HL.out;try dsimp only
   refine hK.out _ _ ?_ (fun _=>?_)
   ·(try simp only [World.cell?_drew]);exact ks
   clear hK K
   try simp only [Act.put,tS]
   refine tkH 7 rfl ?_
   refine tkH 8 rfl ?_
   refine tkH 9 rfl ?_
   refine rdH 11 rfl fun K hK=>?_
   go_simp
   generalize hwF:World.setCell (World.setCell (World.setCell (World.setCell y3 _ _) _ _) _ _) _ _=yF;have HL2:Hid (yF.heap[wc.heap.size]?=some (.cells #[.int .i64 y.f,.int .i64 y.t,.int .i64 y.n,.int .i64 y.b] 85 (0,0))):=(by unfold Hid;rw [← hwF];exact (lay4 HL.out rfl Hy3.out hge.out _ _ _ _).1);have HyF:Hid (Below wc.heap.size wc yF):=(by unfold Hid;rw [← hwF];exact (lay4 HL.out rfl Hy3.out hge.out _ _ _ _).2);clear hwF d0 d1 d2 d3 fz hgl;clear ks;have ks:=HS.out yF (zxt HIN.out HyF.out);try dsimp only
   refine hK.out _ _ ?_ (fun _=>?_)
   ·(try simp only [World.cell?_drew]);exact ks
   clear hK K
   try simp only [Act.put,tS]
   refine tkH 12 rfl ?_
   refine dnH ?_
   go_wp2_with fail
   go_meet
   case rel=>exact ⟨wc.heap.size,rfl,rfl,HL2.out,by first | exact HyF.out | exact HyF.out.drew⟩
 obtain ⟨g7,rfl,rfl,H7⟩:=hcut
 rename_i wd
 obtain ⟨_,e0,e1,e2,e3,_⟩:=cells4 ((H7.out.2.block g5 (Array.getElem?_eq_some_iff.1 H5.out.1).1).trans H5.out.1)
 obtain ⟨_,f0,f1,f2,f3,_⟩:=cells4 H7.out.1
 clear ks
 go_wp2_with (go_at_call 47;refine (LI.out _).mono ?_;rintro e w9 ⟨rfl,hb⟩;have HB9:=zh hb;clear hb;(try dsimp only))
 go_ret
 exact ⟨rfl,zxt HB0.out (zxt H5.out.2 (zxt H7.out.2 HB9.out))⟩
open Go.RowKit
structure Wh where
 f:Int
 t:Int
 k:Int
 e:Int
def whA (enc:Int) (A:List Int) (f l:Int):Wh:=if f < 0∨l < f∨cnt enc A≤l then ⟨0,0,0,2⟩
 else if (lnK enc A l).b=0∧0 < f∧(lnK enc A (f - 1)).f < (lnK enc A (f - 1)).t then ⟨(lnK enc A (f - 1)).t,(lnK enc A l).n,1,0⟩ else ⟨(lnK enc A f).f,(lnK enc A l).n,1,0⟩
theorem cnt_le (enc:Int) (A:List Int):cnt enc A≤(spn enc A).b + 1:=by unfold cnt;split <;> omega
theorem lnA_in (enc:Int) (A:List Int) (q:Int) (h0:0≤q) (h1:q≤(spn enc A).b):lnA enc A q=lnK enc A q∧lnE enc A q=0:=by
 unfold lnA lnE
 rw [if_neg (by omega),if_neg (by omega)]
 exact ⟨rfl,rfl⟩
theorem cells3 {w:World} {b:Nat} {T:TypeId} {v0 v1 v2:Value} (h:w.heap[b]?=some (.cells #[v0,v1,v2] T (0,0))):b < w.heap.size∧w.cell? ⟨b,0,none⟩=some v0∧w.cell? ⟨b,1,none⟩=some v1∧w.cell? ⟨b,2,none⟩=some v2∧(∀ i,w.frozen? ⟨b,i,none⟩=false):=by
 refine ⟨(Array.getElem?_eq_some_iff.1 h).1,?_,?_,?_,fun i=>by simp [World.frozen?,h]⟩ <;> (rw [cell_of_row _ _ _ _ _ _ h];rfl)
theorem below3 {w w0 w1:World} {T:TypeId} {cs:Array Value} (hb0:Below w.heap.size w w0) (hg:w1.heap[w.heap.size]?=some (.cells cs T (0,0))) (hb:Below w0.heap.size w0 w1) (v0 v1 v2:Value):Below w.heap.size w (((w1.setCell ⟨w.heap.size,0,none⟩ v0).setCell ⟨w.heap.size,1,none⟩ v1).setCell ⟨w.heap.size,2,none⟩ v2):=by
 obtain ⟨h1,g1⟩:=set1 hg 0 v0
 obtain ⟨h2,g2⟩:=set1 h1 1 v1
 obtain ⟨_,g3⟩:=set1 h2 2 v2
 exact zbp (zxt hb0 hb) (zxt hb0 hb).size (zgt (zgt g1 g2) g3) (Nat.le_refl _)
set_option maxHeartbeats 4000000 in
theorem Whole_z (enc:Int) (w:World) (t:Nat) (A:List Int) (f l:Int) (h:Tz enc w t A):Calls Tryz.prog 29 #[.pointer (some ⟨t,0,none⟩),.int .i64 f,.int .i64 l] w fun e w'=>e=.returned (.tuple #[.agg #[.int .i64 (whA enc A f l).f,.int .i64 (whA enc A f l).t,.int .i64 (whA enc A f l).k],.int .i64 (whA enc A f l).e])∧Below w.heap.size w w':=by
 obtain ⟨w0,hw0,kk0,hb0⟩:∃ w0,w0=w.alloc (.cells #[.int .i64 0,.int .i64 0,.int .i64 0] 56)∧w0.heap[w.heap.size]?=some (.cells #[.int .i64 0,.int .i64 0,.int .i64 0] 56 (0,0))∧Below w.heap.size w w0:=⟨_,rfl,heap_alloc_new _ _,zxa (Below.refl _ _) _⟩
 have hl:=h.len
 have HT:=zh (h.ext hb0)
 have HB0:=zh hb0
 have HK0:=zh kk0
 have CL:Hid (∀ w1,Below w0.heap.size w0 w1→w1.heap[w.heap.size]?=some (.cells #[.int .i64 0,.int .i64 0,.int .i64 0] 56 (0,0))):=fun w1 hb=>(hb.block _ (Array.getElem?_eq_some_iff.1 HK0.out).1).trans HK0.out
 have CN:=zh (Count_z enc w0 t A HT.out)
 clear h hb0 kk0
 by_cases h0:f < 0
 ·have HE:=zh (show whA enc A f l=⟨0,0,0,2⟩ by unfold whA;rw [if_pos (.inl h0)])
  go_enter Tryz.func29,Tryz.ntmps29
  go_upto_region 1 with fail
  rw [← hw0]
  clear hw0
  obtain ⟨_,c0,c1,c2,fz⟩:=cells3 HK0.out
  go_wp2_with fail
  exact bodyPost_ret (v:=.tuple #[.agg #[.int .i64 0,.int .i64 0,.int .i64 0],.int .i64 2]) (by simp [results,Tryz.results29,go_sem,c0,c1,c2]) rfl ⟨by rw [HE.out],below3 HB0.out HK0.out (Below.refl _ _) _ _ _⟩
 by_cases h1:l < f
 ·have HE:=zh (show whA enc A f l=⟨0,0,0,2⟩ by unfold whA;rw [if_pos (.inr (.inl h1))])
  go_enter Tryz.func29,Tryz.ntmps29
  go_upto_region 1 with fail
  rw [← hw0]
  clear hw0
  obtain ⟨_,c0,c1,c2,fz⟩:=cells3 HK0.out
  go_wp2_with fail
  exact bodyPost_ret (v:=.tuple #[.agg #[.int .i64 0,.int .i64 0,.int .i64 0],.int .i64 2]) (by simp [results,Tryz.results29,go_sem,c0,c1,c2]) rfl ⟨by rw [HE.out],below3 HB0.out HK0.out (Below.refl _ _) _ _ _⟩
 by_cases h2:cnt enc A≤l
 ·have HE:=zh (show whA enc A f l=⟨0,0,0,2⟩ by unfold whA;rw [if_pos (.inr (.inr h2))])
  generalize cnt enc A=z at *
  go_enter Tryz.func29,Tryz.ntmps29
  go_upto_region 1 with fail
  rw [← hw0]
  clear hw0
  go_wp2_with (go_at_call 19;refine CN.out.mono ?_;rintro e w1 ⟨rfl,hb⟩;have HB1:=zh hb;clear hb;obtain ⟨_,c0,c1,c2,fz⟩:=cells3 (CL.out _ HB1.out);(try dsimp only))
  exact bodyPost_ret (v:=.tuple #[.agg #[.int .i64 0,.int .i64 0,.int .i64 0],.int .i64 2]) (by simp [results,Tryz.results29,go_sem,c0,c1,c2]) rfl ⟨by rw [HE.out],below3 HB0.out (CL.out _ HB1.out) HB1.out _ _ _⟩
 have hc:=cnt_le enc A
 have sL:=spn_len enc A
 obtain ⟨a1,a2⟩:=lnA_in enc A f (by omega) (by omega)
 obtain ⟨b1,b2⟩:=lnA_in enc A l (by omega) (by omega)
 have HE:=zh (show whA enc A f l=if (lnK enc A l).b=0∧0 < f∧(lnK enc A (f - 1)).f < (lnK enc A (f - 1)).t then ⟨(lnK enc A (f - 1)).t,(lnK enc A l).n,1,0⟩ else ⟨(lnK enc A f).f,(lnK enc A l).n,1,0⟩ by unfold whA;rw [if_neg (by omega)])
 have AF:Hid (∀ w',Below w0.heap.size w0 w'→Calls Tryz.prog 27 #[.pointer (some ⟨t,0,none⟩),.int .i64 f] w' fun e w''=>e=.returned (.tuple #[.agg #[.int .i64 (lnK enc A f).f,.int .i64 (lnK enc A f).t,.int .i64 (lnK enc A f).n,.int .i64 (lnK enc A f).b],.int .i64 0])∧Below w'.heap.size w' w''):=fun w' hb=>by
  have:=At_z enc w' t A f (HT.out.ext hb)
  rwa [a1,a2] at this
 have AL:Hid (∀ w',Below w0.heap.size w0 w'→Calls Tryz.prog 27 #[.pointer (some ⟨t,0,none⟩),.int .i64 l] w' fun e w''=>e=.returned (.tuple #[.agg #[.int .i64 (lnK enc A l).f,.int .i64 (lnK enc A l).t,.int .i64 (lnK enc A l).n,.int .i64 (lnK enc A l).b],.int .i64 0])∧Below w'.heap.size w' w''):=fun w' hb=>by
  have:=At_z enc w' t A l (HT.out.ext hb)
  rwa [b1,b2] at this
 have AP:Hid (0 < f→∀ w',Below w0.heap.size w0 w'→Calls Tryz.prog 27 #[.pointer (some ⟨t,0,none⟩),.int .i64 (f - 1)] w' fun e w''=>e=.returned (.tuple #[.agg #[.int .i64 (lnK enc A (f - 1)).f,.int .i64 (lnK enc A (f - 1)).t,.int .i64 (lnK enc A (f - 1)).n,.int .i64 (lnK enc A (f - 1)).b],.int .i64 0])∧Below w'.heap.size w' w''):=fun hf w' hb=>by
  obtain ⟨c1,c2⟩:=lnA_in enc A (f - 1) (by omega) (by omega)
  have:=At_z enc w' t A (f - 1) (HT.out.ext hb)
  rwa [c1,c2] at this
 have hw:0 < f→IntKind.i64.wrap (f - 1)=f - 1:=fun hf=>by rw [IntKind.wrap_i64];omega
 clear a1 a2 b1 b2 hc sL
 generalize cnt enc A=z at *
 generalize lnK enc A l=y at *
 generalize lnK enc A f=x at *
 generalize lnK enc A (f - 1)=u at *
 go_enter Tryz.func29,Tryz.ntmps29
 go_upto_region 1 with fail
 rw [← hw0]
 clear hw0
 go_upto_region 3 with (go_at_call 19;refine CN.out.mono ?_;rintro e w1 ⟨rfl,hb⟩;have HB1:=zh hb;clear hb;(try dsimp only))
 go_upto_region 4 with (go_at_call 27;refine (AF.out _ HB1.out).mono ?_;rintro e w2 ⟨rfl,hb⟩;have HB2:=zh (zxt HB1.out hb);clear hb;(try dsimp only))
 generalize hw3:World.alloc _ _=w3
 have H3:Hid (w3.heap[w2.heap.size]?=some (.cells #[.int .i64 x.f,.int .i64 x.t,.int .i64 x.n,.int .i64 x.b] 50 (0,0))∧Below w2.heap.size w2 w3):=by unfold Hid;rw [← hw3];exact ⟨heap_alloc_new _ _,zxa (Below.refl _ _) _⟩
 clear hw3
 have HB3:=zh (zxt HB2.out H3.out.2)
 go_upto_region 5 with (go_at_call 27;refine (AL.out _ HB3.out).mono ?_;rintro e w4 ⟨rfl,hb⟩;have HB4:=zh hb;clear hb;(try dsimp only))
 generalize hw5:World.alloc _ _=w5
 have H5:Hid (w5.heap[w4.heap.size]?=some (.cells #[.int .i64 y.f,.int .i64 y.t,.int .i64 y.n,.int .i64 y.b] 50 (0,0))∧Below w4.heap.size w4 w5):=by unfold Hid;rw [← hw5];exact ⟨heap_alloc_new _ _,zxa (Below.refl _ _) _⟩
 clear hw5
 have H35:=zh (zxt HB4.out H5.out.2)
 have HB5:=zh (zxt HB3.out H35.out)
 obtain ⟨_,d0,d1,d2,d3,_⟩:=cells4 ((H35.out.block _ (Array.getElem?_eq_some_iff.1 H3.out.1).1).trans H3.out.1)
 obtain ⟨_,e0,e1,e2,e3,_⟩:=cells4 H5.out.1
 obtain ⟨_,c0,c1,c2,fz⟩:=cells3 (CL.out _ HB5.out)
 by_cases hy:y.b=0∧0 < f
 ·obtain ⟨hy,hf⟩:=hy
  have hwf:=hw hf
  have AP':=zh (AP.out hf w5 HB5.out)
  rw [hy] at e3
  go_upto_region 8 with (go_at_call 27;refine AP'.out.mono ?_;rintro e w6 ⟨rfl,hb⟩;have HB6:=zh hb;clear hb;(try dsimp only))
  generalize hw7:World.alloc _ _=w7
  have H7:Hid (w7.heap[w6.heap.size]?=some (.cells #[.int .i64 u.f,.int .i64 u.t,.int .i64 u.n,.int .i64 u.b] 50 (0,0))∧Below w6.heap.size w6 w7):=by unfold Hid;rw [← hw7];exact ⟨heap_alloc_new _ _,zxa (Below.refl _ _) _⟩
  clear hw7 c0 c1 c2 fz d0 d1 d2 d3 e0 e1 e2 e3
  have H57:=zh (zxt HB6.out H7.out.2)
  have HB7:=zh (zxt HB5.out H57.out)
  obtain ⟨_,e0,e1,e2,e3,_⟩:=cells4 ((H57.out.block _ (Array.getElem?_eq_some_iff.1 H5.out.1).1).trans H5.out.1)
  obtain ⟨_,f0,f1,f2,f3,_⟩:=cells4 H7.out.1
  obtain ⟨_,c0,c1,c2,fz⟩:=cells3 (CL.out _ HB7.out)
  by_cases hu:u.f < u.t
  ·have HE2:=zh (HE.out.trans (if_pos ⟨hy,hf,hu⟩))
   go_wp2_with fail
   exact bodyPost_ret (v:=.tuple #[.agg #[.int .i64 u.t,.int .i64 y.n,.int .i64 1],.int .i64 0]) (by simp [results,Tryz.results29,go_sem,c0,c1,c2]) rfl ⟨by rw [HE2.out],below3 HB0.out (CL.out _ HB7.out) HB7.out _ _ _⟩
  ·have HE2:=zh (HE.out.trans (if_neg (fun e=>hu e.2.2)))
   go_wp2_with fail
   exact bodyPost_ret (v:=.tuple #[.agg #[.int .i64 x.f,.int .i64 y.n,.int .i64 1],.int .i64 0]) (by simp [results,Tryz.results29,go_sem,c0,c1,c2]) rfl ⟨by rw [HE2.out],below3 HB0.out (CL.out _ HB7.out) HB7.out _ _ _⟩
 ·have HE2:=zh (HE.out.trans (if_neg (fun e=>hy ⟨e.1,e.2.1⟩)))
  by_cases hyb:y.b=0
  ·have hf:¬ 0 < f:=fun e=>hy ⟨hyb,e⟩
   rw [hyb] at e3
   go_wp2_with fail
   exact bodyPost_ret (v:=.tuple #[.agg #[.int .i64 x.f,.int .i64 y.n,.int .i64 1],.int .i64 0]) (by simp [results,Tryz.results29,go_sem,c0,c1,c2]) rfl ⟨by rw [HE2.out],below3 HB0.out (CL.out _ HB5.out) HB5.out _ _ _⟩
  ·have hb':(y.b == 0)=false:=by simp [hyb]
   go_wp2_with fail
   exact bodyPost_ret (v:=.tuple #[.agg #[.int .i64 x.f,.int .i64 y.n,.int .i64 1],.int .i64 0]) (by simp [results,Tryz.results29,go_sem,c0,c1,c2]) rfl ⟨by rw [HE2.out],below3 HB0.out (CL.out _ HB5.out) HB5.out _ _ _⟩
end Go.Proofs.YtjomfbegghgbdaaGreat.P
