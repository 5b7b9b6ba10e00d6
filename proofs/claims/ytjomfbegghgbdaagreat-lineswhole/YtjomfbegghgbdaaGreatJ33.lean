import Derived.Test.YtjomfbegghgbdaaGreatJ00
import Derived.Test.YtjomfbegghgbdaaGreatJ30
namespace Go.Proofs.YtjomfbegghgbdaaGreat.P
open Go.RowKit
theorem lay4 {w0 y3:World} {gl:Nat} {T:TypeId} {cs:Array Value} (h:y3.heap[gl]?=some (.cells cs T (0,0))) (hs:cs.size=4) (hb:Below w0.heap.size w0 y3) (hge:w0.heap.size≤gl) (v0 v1 v2 v3:Value) :
  ((((y3.setCell ⟨gl,0,none⟩ v0).setCell ⟨gl,1,none⟩ v1).setCell ⟨gl,2,none⟩ v2).setCell ⟨gl,3,none⟩ v3).heap[gl]?=some (.cells #[v0,v1,v2,v3] T (0,0))∧Below w0.heap.size w0 ((((y3.setCell ⟨gl,0,none⟩ v0).setCell ⟨gl,1,none⟩ v1).setCell ⟨gl,2,none⟩ v2).setCell ⟨gl,3,none⟩ v3):=by
 obtain ⟨h1,g1⟩:=set1 h 0 v0
 obtain ⟨h2,g2⟩:=set1 h1 1 v1
 obtain ⟨h3,g3⟩:=set1 h2 2 v2
 obtain ⟨h4,g4⟩:=set1 h3 3 v3
 refine ⟨?_,below_put hb hb.size (grown_trans (grown_trans (grown_trans g1 g2) g3) g4) hge⟩
 rw [h4]
 obtain ⟨l⟩:=cs
 match l,hs with
 | [_,_,_,_],_=>rfl
set_option maxRecDepth 100000 in
theorem line_any (x:Ln) (w:World):Calls Tryz.prog 47 #[.agg #[.int .i64 x.f,.int .i64 x.t,.int .i64 x.n,.int .i64 x.b],.agg #[.int .i64 x.f,.int .i64 x.t,.int .i64 x.n,.int .i64 x.b]] w fun e w'=>e=.returned (.bool true)∧Below w.heap.size w w':=by
 go_enter Tryz.func47,Tryz.ntmps47
 go_wp2_with fail
 go_ret
 exact ⟨rfl,ext_alloc (ext_alloc (Below.refl _ _) _) _⟩
set_option maxRecDepth 100000 in
set_option maxHeartbeats 8000000 in
theorem counts_two (enc:Int) (w:World) (g t:Nat) (A:List Int) (m:Nat) (o:Opv) (v:Value) (h:BtW enc w g t A m) (hk:o.k=2) (hv:∃ ap np cp,v=.slice ap np cp):Yes 101 w g o v:=by
 intro w1 hb1
 obtain ⟨ap,np,cp,rfl⟩:=hv
 obtain ⟨who,k,a,b,put⟩:=o
 dsimp only at hk
 subst hk
 unfold Opv.val
 dsimp only
 obtain ⟨w0,hw0,kk0,hb0⟩:∃ w0,w0=w1.alloc (.cells #[.int .i64 who,.int .i64 2,.int .i64 a,.int .i64 b,.slice ap np cp] 38)∧w0.heap[w1.heap.size]?=some (.cells #[.int .i64 who,.int .i64 2,.int .i64 a,.int .i64 b,.slice ap np cp] 38 (0,0))∧Below w1.heap.size w1 w0:=⟨_,rfl,heap_alloc_new _ _,ext_alloc (Below.refl _ _) _⟩
 have HB0:=hidIt hb0
 have HW0:=hidIt ((h.ext hb1).ext hb0)
 obtain ⟨hlt,c0,c1,c2,c3,c4⟩:=cells5 kk0
 obtain ⟨va,hg,hva⟩:=HW0.out.ex
 obtain ⟨aa,ca,hvv⟩:=hva.form
 subst hvv
 have HGG:=hidIt hg
 have HVA:=hidIt hva
 have hlen:=HW0.out.tz.len
 have HS:Hid (∀ w',Below w0.heap.size w0 w'→w'.cell? ⟨g,0,none⟩=some (.pointer (some ⟨t,0,none⟩))∧w'.cell? ⟨g,1,none⟩=some (.slice aa A.length ca)∧w'.cell? ⟨w1.heap.size,2,none⟩=some (.int .i64 a)):=fun w' hb=>⟨(hb.cell (p:=⟨g,0,none⟩) HW0.out.lt).trans (cells2 HGG.out).2.1,(hb.cell (p:=⟨g,1,none⟩) HW0.out.lt).trans (cells2 HGG.out).2.2.1,(hb.cell (p:=⟨w1.heap.size,2,none⟩) hlt).trans c2⟩
 have ks:=HS.out w0 (Below.refl _ _)
 clear hg hva h hb0 hb1 kk0
 have CN:Hid (∀ w',Below w0.heap.size w0 w'→Calls Tryz.prog 19 #[.pointer (some ⟨t,0,none⟩)] w' fun e w''=>e=.returned (.int .i64 (cnt enc A))∧Below w'.heap.size w' w''):=fun w' hb=>Count_z enc w' t A (HW0.out.tz.ext hb)
 have RC:Hid (∀ w',Below w0.heap.size w0 w'→Calls Tryz.prog 71 #[.slice aa A.length ca] w' fun e w''=>e=.returned (.int .i64 (cnt enc A))∧Below w'.heap.size w' w''):=fun w' hb=>rCount_any enc _ A w' (HVA.out.ext hb).rdi hlen
 generalize cnt enc A=z at *
 go_enter Tryz.func101,Tryz.ntmps101
 go_upto_region 1 with fail
 rw [← hw0]
 clear hw0
 go_upto_region 3 with fail
 refine wp_region_held_drew (S:=fun w''=>w''.cell? ⟨g,0,none⟩=some (.pointer (some ⟨t,0,none⟩))∧w''.cell? ⟨g,1,none⟩=some (.slice aa A.length ca)∧w''.cell? ⟨w1.heap.size,2,none⟩=some (.int .i64 a)) (by kernel_rfl) (ks) (fun hHeld=>?_)
 refine tkH 0 rfl ?_
 try simp only [Act.put,tS]
 refine tkH 1 rfl ?_
 try simp only [Act.put,tS]
 refine tkH 2 rfl ?_
 try simp only [Act.put,tS]
 refine tkH 3 rfl ?_
 try simp only [Act.put,tS]
 refine tkH 5 rfl ?_
 try simp only [Act.put,tS]
 refine tkH 6 rfl ?_
 try simp only [Act.put,tS]
 refine tkH 7 rfl ?_
 try simp only [Act.put,tS]
 refine tkH 8 rfl ?_
 try simp only [Act.put,tS]
 refine rdH 4 rfl fun K hK=>?_
 go_simp
 refine (CN.out _ (Below.drew (Below.refl _ _))).mono ?_;clear ks;rintro e y2 ⟨rfl,hb⟩;have Hy2:=hidIt (ext_trans (Below.drew (Below.refl w0.heap.size w0)) hb);clear hb;have ks:=HS.out y2 Hy2.out;try dsimp only
 refine hK.out _ _ ?_ (fun hHeld=>?_)
 ·(try simp only [World.cell?_drew]);exact ks
 clear hK K
 try simp only [Act.put,tS]
 refine rdH 9 rfl fun K hK=>?_
 go_simp
 refine (RC.out _ Hy2.out).mono ?_;clear ks;rintro e y3 ⟨rfl,hb⟩;have Hy3:=hidIt (ext_trans Hy2.out hb);clear hb;have ks:=HS.out y3 Hy3.out;try dsimp only
 refine hK.out _ _ ?_ (fun hHeld=>?_)
 ·(try simp only [World.cell?_drew]);exact ks
 clear hK K
 try simp only [Act.put,tS]
 refine tkH 10 rfl ?_
 try simp only [Act.put,tS]
 refine tkH 11 rfl ?_
 try simp only [Act.put,tS]
 refine wpAnyH_done (by kernel_rfl) ?_ _
 go_wp2_with fail
 go_ret
 exact ⟨rfl,ext_trans HB0.out Hy3.out⟩
set_option maxRecDepth 100000 in
set_option maxHeartbeats 8000000 in
theorem ats_any (enc:Int) (w:World) (g t:Nat) (A:List Int) (m:Nat) (o:Opv) (v:Value) (h:BtW enc w g t A m) (hv:∃ ap np cp,v=.slice ap np cp):Yes 102 w g o v:=by
 intro w1 hb1
 obtain ⟨ap,np,cp,rfl⟩:=hv
 obtain ⟨who,k,a,b,put⟩:=o
 unfold Opv.val
 dsimp only
 obtain ⟨w0,hw0,kk0,hb0⟩:∃ w0,w0=w1.alloc (.cells #[.int .i64 who,.int .i64 k,.int .i64 a,.int .i64 b,.slice ap np cp] 38)∧w0.heap[w1.heap.size]?=some (.cells #[.int .i64 who,.int .i64 k,.int .i64 a,.int .i64 b,.slice ap np cp] 38 (0,0))∧Below w1.heap.size w1 w0:=⟨_,rfl,heap_alloc_new _ _,ext_alloc (Below.refl _ _) _⟩
 have HB0:=hidIt hb0
 have HW0:=hidIt ((h.ext hb1).ext hb0)
 obtain ⟨hlt,c0,c1,c2,c3,c4⟩:=cells5 kk0
 obtain ⟨va,hg,hva⟩:=HW0.out.ex
 obtain ⟨aa,ca,hvv⟩:=hva.form
 subst hvv
 have HGG:=hidIt hg
 have HVA:=hidIt hva
 have hlen:=HW0.out.tz.len
 have HS:Hid (∀ w',Below w0.heap.size w0 w'→w'.cell? ⟨g,0,none⟩=some (.pointer (some ⟨t,0,none⟩))∧w'.cell? ⟨g,1,none⟩=some (.slice aa A.length ca)∧w'.cell? ⟨w1.heap.size,2,none⟩=some (.int .i64 a)):=fun w' hb=>⟨(hb.cell (p:=⟨g,0,none⟩) HW0.out.lt).trans (cells2 HGG.out).2.1,(hb.cell (p:=⟨g,1,none⟩) HW0.out.lt).trans (cells2 HGG.out).2.2.1,(hb.cell (p:=⟨w1.heap.size,2,none⟩) hlt).trans c2⟩
 have ks:=HS.out w0 (Below.refl _ _)
 clear hg hva h hb0 hb1 kk0
 have AT:Hid (∀ w',Below w0.heap.size w0 w'→Calls Tryz.prog 27 #[.pointer (some ⟨t,0,none⟩),.int .i64 a] w' fun e w''=>e=.returned (.tuple #[.agg #[.int .i64 (lnA enc A a).f,.int .i64 (lnA enc A a).t,.int .i64 (lnA enc A a).n,.int .i64 (lnA enc A a).b],.int .i64 (lnE enc A a)])∧Below w'.heap.size w' w''):=fun w' hb=>At_z enc w' t A a (HW0.out.tz.ext hb)
 have RA:Hid (∀ w',Below w0.heap.size w0 w'→Calls Tryz.prog 126 #[.slice aa A.length ca,.int .i64 a] w' fun e w''=>e=.returned (.tuple #[.agg #[.int .i64 (lnA enc A a).f,.int .i64 (lnA enc A a).t,.int .i64 (lnA enc A a).n,.int .i64 (lnA enc A a).b],.int .i64 (lnE enc A a)])∧Below w'.heap.size w' w''):=fun w' hb=>rAt_any enc _ A a w' (HVA.out.ext hb).rdi hlen
 have LI:Hid (∀ w',Calls Tryz.prog 47 #[.agg #[.int .i64 (lnA enc A a).f,.int .i64 (lnA enc A a).t,.int .i64 (lnA enc A a).n,.int .i64 (lnA enc A a).b],.agg #[.int .i64 (lnA enc A a).f,.int .i64 (lnA enc A a).t,.int .i64 (lnA enc A a).n,.int .i64 (lnA enc A a).b]] w' fun e w''=>e=.returned (.bool true)∧Below w'.heap.size w' w''):=fun w'=>line_any _ w'
 generalize lnA enc A a=y at *
 generalize lnE enc A a=z at *
 go_enter Tryz.func102,Tryz.ntmps102
 go_upto_region 1 with fail
 rw [← hw0]
 clear hw0
 go_cut [5,6] from 9 to 18 (fun p e wF=>∃ gl:Nat,p=.pointer (some ⟨gl,0,none⟩)∧e=.int .i64 z∧Hid (wF.heap[gl]?=some (.cells #[.int .i64 y.f,.int .i64 y.t,.int .i64 y.n,.int .i64 y.b] 50 (0,0))∧Below w0.heap.size w0 wF))
 case first =>
  have HIN:=hidIt (Below.refl w0.heap.size w0)
  refine wp_region_held_drew (S:=fun w''=>w''.cell? ⟨g,0,none⟩=some (.pointer (some ⟨t,0,none⟩))∧w''.cell? ⟨g,1,none⟩=some (.slice aa A.length ca)∧w''.cell? ⟨w1.heap.size,2,none⟩=some (.int .i64 a)) (by kernel_rfl) (ks) (fun hHeld=>?_)
  refine tkH 0 rfl ?_
  try simp only [Act.put,tS]
  refine tkH 1 rfl ?_
  try simp only [Act.put,tS]
  refine tkH 2 rfl ?_
  try simp only [Act.put,tS]
  refine tkH 3 rfl ?_
  try simp only [Act.put,tS]
  refine tkH 4 rfl ?_
  try simp only [Act.put,tS]
  refine tkH 5 rfl ?_
  try simp only [Act.put,tS]
  refine wpAnyH_ready (rs:=[6,10]) (by kernel_rfl) (by simp) ?_
  refine (AllReadyH.cons (o:=_) rfl (fun K hK=>?_) (AllReadyH.cons (o:=_) rfl (fun K hK=>?_) AllReadyH.nil))
  ·skip
   go_simp
   refine (AT.out _ (ext_trans HIN.out (Below.drew (Below.refl _ _)))).mono ?_;rintro e y2 ⟨rfl,hb⟩;have Hy2:=hidIt (ext_trans (Below.drew (Below.refl w0.heap.size w0)) hb);clear hb;clear ks;have ks:=HS.out y2 (ext_trans HIN.out Hy2.out);try dsimp only
   refine hK.out _ _ ?_ (fun hHeld=>?_)
   ·(try simp only [World.cell?_drew]);exact ks
   clear hK K
   try simp only [Act.put,tS]
   refine tkH 7 rfl ?_
   try simp only [Act.put,tS]
   refine tkH 8 rfl ?_
   try simp only [Act.put,tS]
   refine tkH 9 rfl ?_
   try simp only [Act.put,tS]
   refine rdH 10 rfl fun K hK=>?_
   go_simp
   generalize hwN:World.alloc _ _=y3;have hst:Below y2.heap.size y2 y3:=(by rw [← hwN];exact ext_alloc (Below.refl _ _) _);have HL:Hid (y3.heap[y2.heap.size]?=some (.cells #[.int .i64 0,.int .i64 0,.int .i64 0,.int .i64 0] 50 (0,0))):=(by unfold Hid;rw [← hwN];exact heap_alloc_new _ _);have Hy3:=hidIt (ext_trans Hy2.out hst);clear hwN hst;clear ks;have ks:=HS.out y3 (ext_trans HIN.out Hy3.out);have hge:=hidIt Hy2.out.size;obtain ⟨hgl,d0,d1,d2,d3,fz⟩:=cells4 HL.out;try dsimp only
   refine hK.out _ _ ?_ (fun hHeld=>?_)
   ·(try simp only [World.cell?_drew]);exact ks
   clear hK K
   try simp only [Act.put,tS]
   refine rdH 11 rfl fun K hK=>?_
   go_simp
   generalize hwF:World.setCell (World.setCell (World.setCell (World.setCell y3 _ _) _ _) _ _) _ _=yF;have HL2:Hid (yF.heap[y2.heap.size]?=some (.cells #[.int .i64 y.f,.int .i64 y.t,.int .i64 y.n,.int .i64 y.b] 50 (0,0))):=(by unfold Hid;rw [← hwF];exact (lay4 HL.out rfl Hy3.out hge.out _ _ _ _).1);have HyF:Hid (Below w0.heap.size w0 yF):=(by unfold Hid;rw [← hwF];exact (lay4 HL.out rfl Hy3.out hge.out _ _ _ _).2);clear hwF d0 d1 d2 d3 fz hgl;clear ks;have ks:=HS.out yF (ext_trans HIN.out HyF.out);try dsimp only
   refine hK.out _ _ ?_ (fun hHeld=>?_)
   ·(try simp only [World.cell?_drew]);exact ks
   clear hK K
   try simp only [Act.put,tS]
   refine tkH 12 rfl ?_
   try simp only [Act.put,tS]
   refine wpAnyH_done (by kernel_rfl) ?_ _
   go_wp2_with fail
   go_meet
   case rel=>exact ⟨y2.heap.size,rfl,rfl,HL2.out,by first | exact HyF.out | exact HyF.out.drew⟩
  ·skip
   go_simp
   generalize hwN:World.alloc _ _=y2;have Hy2:Hid (Below w0.heap.size w0 y2):=(by unfold Hid;rw [← hwN];exact ext_alloc (Below.refl _ _) _);have HLa:Hid (y2.heap[w0.heap.size]?=some (.cells #[.int .i64 0,.int .i64 0,.int .i64 0,.int .i64 0] 50 (0,0))):=(by unfold Hid;rw [← hwN];exact heap_alloc_new _ _);clear hwN;clear ks;have ks:=HS.out y2 (ext_trans HIN.out Hy2.out);have hge:=hidIt (Nat.le_refl w0.heap.size);try dsimp only
   refine hK.out _ _ ?_ (fun hHeld=>?_)
   ·(try simp only [World.cell?_drew]);exact ks
   clear hK K
   try simp only [Act.put,tS]
   refine rdH 6 rfl fun K hK=>?_
   go_simp
   refine (AT.out _ (ext_trans HIN.out Hy2.out.drew)).mono ?_;rintro e y3 ⟨rfl,hb⟩;have HL:Hid (y3.heap[w0.heap.size]?=some (.cells #[.int .i64 0,.int .i64 0,.int .i64 0,.int .i64 0] 50 (0,0))):=(hb.block _ (Array.getElem?_eq_some_iff.1 HLa.out).1).trans HLa.out;have Hy3:=hidIt (ext_trans Hy2.out.drew hb);clear hb HLa;clear ks;have ks:=HS.out y3 (ext_trans HIN.out Hy3.out);obtain ⟨hgl,d0,d1,d2,d3,fz⟩:=cells4 HL.out;try dsimp only
   refine hK.out _ _ ?_ (fun hHeld=>?_)
   ·(try simp only [World.cell?_drew]);exact ks
   clear hK K
   try simp only [Act.put,tS]
   refine tkH 7 rfl ?_
   try simp only [Act.put,tS]
   refine tkH 8 rfl ?_
   try simp only [Act.put,tS]
   refine tkH 9 rfl ?_
   try simp only [Act.put,tS]
   refine rdH 11 rfl fun K hK=>?_
   go_simp
   generalize hwF:World.setCell (World.setCell (World.setCell (World.setCell y3 _ _) _ _) _ _) _ _=yF;have HL2:Hid (yF.heap[w0.heap.size]?=some (.cells #[.int .i64 y.f,.int .i64 y.t,.int .i64 y.n,.int .i64 y.b] 50 (0,0))):=(by unfold Hid;rw [← hwF];exact (lay4 HL.out rfl Hy3.out hge.out _ _ _ _).1);have HyF:Hid (Below w0.heap.size w0 yF):=(by unfold Hid;rw [← hwF];exact (lay4 HL.out rfl Hy3.out hge.out _ _ _ _).2);clear hwF d0 d1 d2 d3 fz hgl;clear ks;have ks:=HS.out yF (ext_trans HIN.out HyF.out);try dsimp only
   refine hK.out _ _ ?_ (fun hHeld=>?_)
   ·(try simp only [World.cell?_drew]);exact ks
   clear hK K
   try simp only [Act.put,tS]
   refine tkH 12 rfl ?_
   try simp only [Act.put,tS]
   refine wpAnyH_done (by kernel_rfl) ?_ _
   go_wp2_with fail
   go_meet
   case rel=>exact ⟨w0.heap.size,rfl,rfl,HL2.out,by first | exact HyF.out | exact HyF.out.drew⟩
 obtain ⟨g5,rfl,rfl,H5⟩:=hcut
 clear ks
 have ks:=HS.out wc H5.out.2
 go_upto_region 2 with fail
 go_cut [7,8] from 19 to 28 (fun p e wF=>∃ gl:Nat,p=.pointer (some ⟨gl,0,none⟩)∧e=.int .i64 z∧Hid (wF.heap[gl]?=some (.cells #[.int .i64 y.f,.int .i64 y.t,.int .i64 y.n,.int .i64 y.b] 85 (0,0))∧Below wc.heap.size wc wF))
 case first =>
  have HIN:=hidIt H5.out.2
  refine wp_region_held_drew (S:=fun w''=>w''.cell? ⟨g,0,none⟩=some (.pointer (some ⟨t,0,none⟩))∧w''.cell? ⟨g,1,none⟩=some (.slice aa A.length ca)∧w''.cell? ⟨w1.heap.size,2,none⟩=some (.int .i64 a)) (by kernel_rfl) (ks) (fun hHeld=>?_)
  refine tkH 0 rfl ?_
  try simp only [Act.put,tS]
  refine tkH 1 rfl ?_
  try simp only [Act.put,tS]
  refine tkH 2 rfl ?_
  try simp only [Act.put,tS]
  refine tkH 3 rfl ?_
  try simp only [Act.put,tS]
  refine tkH 4 rfl ?_
  try simp only [Act.put,tS]
  refine tkH 5 rfl ?_
  try simp only [Act.put,tS]
  refine wpAnyH_ready (rs:=[6,10]) (by kernel_rfl) (by simp) ?_
  refine (AllReadyH.cons (o:=_) rfl (fun K hK=>?_) (AllReadyH.cons (o:=_) rfl (fun K hK=>?_) AllReadyH.nil))
  ·skip
   go_simp
   refine (RA.out _ (ext_trans HIN.out (Below.drew (Below.refl _ _)))).mono ?_;rintro e y2 ⟨rfl,hb⟩;have Hy2:=hidIt (ext_trans (Below.drew (Below.refl wc.heap.size wc)) hb);clear hb;clear ks;have ks:=HS.out y2 (ext_trans HIN.out Hy2.out);try dsimp only
   refine hK.out _ _ ?_ (fun hHeld=>?_)
   ·(try simp only [World.cell?_drew]);exact ks
   clear hK K
   try simp only [Act.put,tS]
   refine tkH 7 rfl ?_
   try simp only [Act.put,tS]
   refine tkH 8 rfl ?_
   try simp only [Act.put,tS]
   refine tkH 9 rfl ?_
   try simp only [Act.put,tS]
   refine rdH 10 rfl fun K hK=>?_
   go_simp
   generalize hwN:World.alloc _ _=y3;have hst:Below y2.heap.size y2 y3:=(by rw [← hwN];exact ext_alloc (Below.refl _ _) _);have HL:Hid (y3.heap[y2.heap.size]?=some (.cells #[.int .i64 0,.int .i64 0,.int .i64 0,.int .i64 0] 85 (0,0))):=(by unfold Hid;rw [← hwN];exact heap_alloc_new _ _);have Hy3:=hidIt (ext_trans Hy2.out hst);clear hwN hst;clear ks;have ks:=HS.out y3 (ext_trans HIN.out Hy3.out);have hge:=hidIt Hy2.out.size;obtain ⟨hgl,d0,d1,d2,d3,fz⟩:=cells4 HL.out;try dsimp only
   refine hK.out _ _ ?_ (fun hHeld=>?_)
   ·(try simp only [World.cell?_drew]);exact ks
   clear hK K
   try simp only [Act.put,tS]
   refine rdH 11 rfl fun K hK=>?_
   go_simp
   generalize hwF:World.setCell (World.setCell (World.setCell (World.setCell y3 _ _) _ _) _ _) _ _=yF;have HL2:Hid (yF.heap[y2.heap.size]?=some (.cells #[.int .i64 y.f,.int .i64 y.t,.int .i64 y.n,.int .i64 y.b] 85 (0,0))):=(by unfold Hid;rw [← hwF];exact (lay4 HL.out rfl Hy3.out hge.out _ _ _ _).1);have HyF:Hid (Below wc.heap.size wc yF):=(by unfold Hid;rw [← hwF];exact (lay4 HL.out rfl Hy3.out hge.out _ _ _ _).2);clear hwF d0 d1 d2 d3 fz hgl;clear ks;have ks:=HS.out yF (ext_trans HIN.out HyF.out);try dsimp only
   refine hK.out _ _ ?_ (fun hHeld=>?_)
   ·(try simp only [World.cell?_drew]);exact ks
   clear hK K
   try simp only [Act.put,tS]
   refine tkH 12 rfl ?_
   try simp only [Act.put,tS]
   refine wpAnyH_done (by kernel_rfl) ?_ _
   go_wp2_with fail
   go_meet
   case rel=>exact ⟨y2.heap.size,rfl,rfl,HL2.out,by first | exact HyF.out | exact HyF.out.drew⟩
  ·skip
   go_simp
   generalize hwN:World.alloc _ _=y2;have Hy2:Hid (Below wc.heap.size wc y2):=(by unfold Hid;rw [← hwN];exact ext_alloc (Below.refl _ _) _);have HLa:Hid (y2.heap[wc.heap.size]?=some (.cells #[.int .i64 0,.int .i64 0,.int .i64 0,.int .i64 0] 85 (0,0))):=(by unfold Hid;rw [← hwN];exact heap_alloc_new _ _);clear hwN;clear ks;have ks:=HS.out y2 (ext_trans HIN.out Hy2.out);have hge:=hidIt (Nat.le_refl wc.heap.size);try dsimp only
   refine hK.out _ _ ?_ (fun hHeld=>?_)
   ·(try simp only [World.cell?_drew]);exact ks
   clear hK K
   try simp only [Act.put,tS]
   refine rdH 6 rfl fun K hK=>?_
   go_simp
   refine (RA.out _ (ext_trans HIN.out Hy2.out.drew)).mono ?_;rintro e y3 ⟨rfl,hb⟩;have HL:Hid (y3.heap[wc.heap.size]?=some (.cells #[.int .i64 0,.int .i64 0,.int .i64 0,.int .i64 0] 85 (0,0))):=(hb.block _ (Array.getElem?_eq_some_iff.1 HLa.out).1).trans HLa.out;have Hy3:=hidIt (ext_trans Hy2.out.drew hb);clear hb HLa;clear ks;have ks:=HS.out y3 (ext_trans HIN.out Hy3.out);obtain ⟨hgl,d0,d1,d2,d3,fz⟩:=cells4 HL.out;try dsimp only
   refine hK.out _ _ ?_ (fun hHeld=>?_)
   ·(try simp only [World.cell?_drew]);exact ks
   clear hK K
   try simp only [Act.put,tS]
   refine tkH 7 rfl ?_
   try simp only [Act.put,tS]
   refine tkH 8 rfl ?_
   try simp only [Act.put,tS]
   refine tkH 9 rfl ?_
   try simp only [Act.put,tS]
   refine rdH 11 rfl fun K hK=>?_
   go_simp
   generalize hwF:World.setCell (World.setCell (World.setCell (World.setCell y3 _ _) _ _) _ _) _ _=yF;have HL2:Hid (yF.heap[wc.heap.size]?=some (.cells #[.int .i64 y.f,.int .i64 y.t,.int .i64 y.n,.int .i64 y.b] 85 (0,0))):=(by unfold Hid;rw [← hwF];exact (lay4 HL.out rfl Hy3.out hge.out _ _ _ _).1);have HyF:Hid (Below wc.heap.size wc yF):=(by unfold Hid;rw [← hwF];exact (lay4 HL.out rfl Hy3.out hge.out _ _ _ _).2);clear hwF d0 d1 d2 d3 fz hgl;clear ks;have ks:=HS.out yF (ext_trans HIN.out HyF.out);try dsimp only
   refine hK.out _ _ ?_ (fun hHeld=>?_)
   ·(try simp only [World.cell?_drew]);exact ks
   clear hK K
   try simp only [Act.put,tS]
   refine tkH 12 rfl ?_
   try simp only [Act.put,tS]
   refine wpAnyH_done (by kernel_rfl) ?_ _
   go_wp2_with fail
   go_meet
   case rel=>exact ⟨wc.heap.size,rfl,rfl,HL2.out,by first | exact HyF.out | exact HyF.out.drew⟩
 obtain ⟨g7,rfl,rfl,H7⟩:=hcut
 rename_i wd
 obtain ⟨_,e0,e1,e2,e3,_⟩:=cells4 ((H7.out.2.block g5 (Array.getElem?_eq_some_iff.1 H5.out.1).1).trans H5.out.1)
 obtain ⟨_,f0,f1,f2,f3,_⟩:=cells4 H7.out.1
 clear ks
 go_wp2_with (go_at_call 47;refine (LI.out _).mono ?_;rintro e w9 ⟨rfl,hb⟩;have HB9:=hidIt hb;clear hb;(try dsimp only))
 go_ret
 exact ⟨rfl,ext_trans HB0.out (ext_trans H5.out.2 (ext_trans H7.out.2 HB9.out))⟩
end Go.Proofs.YtjomfbegghgbdaaGreat.P
