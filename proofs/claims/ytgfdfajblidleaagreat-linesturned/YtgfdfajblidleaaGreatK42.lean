import Derived.Test.YtgfdfajblidleaaGreatK41
set_option maxRecDepth 100000
namespace Go.Proofs.YtgfdfajblidleaaGreat.P
open Go.RowKit
structure RdW (enc:Int) (A:List Int) (w:World) (r t s:Nat) (H:Nat→Prop):Prop where
 ex:∃ v hand,w.heap[r]?=some (.cells #[.pointer (some ⟨t,0,none⟩),.int .i64 (s:Nat),v] 92 (0,0))∧OwnI w 0 v hand∧(hand=[]∨s + hand.length≤65536)∧∀ g,v.ownBlock=some g→H g
 tz:Tz enc w t A
theorem RdW.typ {enc:Int} {A:List Int} {w:World} {r t s:Nat} {H:Nat→Prop} (h:RdW enc A w r t s H):Typ 92 w r:=by obtain ⟨_,_,h1,_⟩:=h.ex;exact ⟨_,h1⟩
theorem RdW.ext {enc:Int} {A:List Int} {w w':World} {r t s:Nat} {H:Nat→Prop} (h:RdW enc A w r t s H) (hb:Below w.heap.size w w'):RdW enc A w' r t s H:=by
 obtain ⟨v,hand,h1,h2,h3⟩:=h.ex
 exact ⟨⟨v,hand,(hb.block r (Array.getElem?_eq_some_iff.1 h1).1).trans h1,h2.ext hb,h3⟩,h.tz.ext hb⟩
theorem Rdr.weak {enc:Int} {A:List Int} {w:World} {r t s:Nat} {H:Nat→Prop} (h:Rdr enc A w r t s H):RdW enc A w r t s H:=by
 obtain ⟨v,hand,h1,h2,h3,h4⟩:=h.ex
 refine ⟨⟨v,hand,h1,h2,?_,h4⟩,h.tz⟩
 have hl:=h.tz.len
 by_cases e:hand=[]
 ·exact .inl e
 ·right
  have h5:=congrArg List.length h3
  rw [List.length_take,List.length_drop] at h5
  have:0 < hand.length:=List.length_pos_iff.2 e
  omega
def AtW (enc:Int) (A:List Int) (r t p:Nat) (H:Nat→Prop) (w:World) (e:Ending) (w':World):Prop:=∃ (x:Int) (ok:Bool),e=.returned (.tuple #[.int .i64 x,.bool ok])∧(ok=true→p < 65536)∧Hid (∃ s',s'≤p∧RdW enc A w' r t s' H)∧Hid (Kps (fun k=>k=r) w w')
set_option maxHeartbeats 8000000 in
theorem watom_any (enc:Int) (A:List Int) (w:World) (r t s p:Nat) {H:Nat→Prop} (hH:∀ k,w.heap.size≤k→H k) (h:RdW enc A w r t s H) (hs:s≤p) (hp:p≤1000000):Calls Tryz.prog 67 #[.pointer (some ⟨r,0,none⟩),.int .i64 (p:Nat)] w (AtW enc A r t p H w):=by
 obtain ⟨v,hand,hg,ho,hh,_⟩:=h.ex
 have HHH:=zh hH
 clear hH
 obtain ⟨ah,ch,hv⟩:=ho.form
 have hlA:=h.tz.len
 obtain ⟨n,hn⟩:∃ n,n=hand.length:=⟨_,rfl⟩
 rw [← hn] at hv
 subst hv
 have HG:=zh hg
 have HO:=zh ho
 have HH:Hid (n=0∨s + n≤65536):=by rcases hh with rfl | hh;exact .inl hn;exact .inr (by omega)
 have HT:=zh h
 have HN:=zh hn
 obtain ⟨_,c0,c1,c2,fz⟩:=cells3x hg
 have hrt:r≠t:=fun e=>by subst e;exact absurd (Typ.uniq h.typ h.tz.typ) (by decide)
 have hn9:n≤65536:=by have:=HH.out;omega
 have hwn:IntKind.i64.wrap ((s:Int) + (n:Int))=((s + n:Nat):Int):=by rw [IntKind.wrap_i64];omega
 clear hg ho hh h hn
 by_cases hin:p < s + n
 ·obtain ⟨x,hxh⟩:∃ x,hand[p - s]?=some x:=⟨_,List.getElem?_eq_getElem (by rw [← HN.out];omega)⟩
  have HPS:Hid (p < 65536):=by have:=HH.out;unfold Hid;omega
  obtain ⟨b,o,hbo,hbl,cx,_⟩:=rd_at HO.out.rdi (p - s) (List.getElem?_eq_some_iff.1 hxh).1
  rw [hxh,Option.getD_some] at cx
  subst hbo
  have hlt:¬ (((s + n:Nat):Int)≤(p:Int)):=by omega
  have hlt':¬ (s + n≤p):=by omega
  have hnz:¬ ((n:Int)=0):=by omega
  have hnz':¬ (n=0):=by omega
  have hnb:((n:Int) == 0)=false:=by simp;omega
  have hws:IntKind.i64.wrap ((p:Int) - (s:Int))=((p - s:Nat):Int):=by rw [IntKind.wrap_i64];omega
  have hps:p - s < n:=by omega
  clear hxh hin
  go_enter Tryz.func67,Tryz.ntmps67
  go_upto_region 1 with fail
  refine wp_region_held_drew (S:=fun w''=>w''.cell? ⟨r,1,none⟩=some (.int .i64 (s:Nat))∧w''.cell? ⟨r,2,none⟩=some (.slice (some ⟨b,o,none⟩) n ch)∧w''.cell? ⟨b,o + (p - s),none⟩=some (.int .i64 x)) (by kernel_rfl) (⟨c1,c2,cx⟩) (fun hHeld=>?_)
  refine tkH 0 rfl ?_
  refine tkH 1 rfl ?_
  refine tkH 2 rfl ?_
  refine tkH 3 rfl ?_
  refine tkH 4 rfl ?_
  refine tkH 5 rfl ?_
  refine tkH 6 rfl ?_
  refine tkH 7 rfl ?_
  refine tkH 8 rfl ?_
  refine tkH 9 rfl ?_
  refine tkH 10 rfl ?_
  refine tkH 11 rfl ?_
  refine dnH ?_
  clear c1 c2 cx
  obtain ⟨c1,c2,cx⟩:=hHeld
  go_upto_region 5 with fail
  refine wp_region_held_drew (S:=fun w''=>w''.cell? ⟨r,1,none⟩=some (.int .i64 (s:Nat))∧w''.cell? ⟨r,2,none⟩=some (.slice (some ⟨b,o,none⟩) n ch)∧w''.cell? ⟨b,o + (p - s),none⟩=some (.int .i64 x)) (by kernel_rfl) (⟨c1,c2,cx⟩) (fun hHeld=>?_)
  refine tkH 0 rfl ?_
  refine tkH 1 rfl ?_
  refine tkH 2 rfl ?_
  refine tkH 3 rfl ?_
  refine tkH 4 rfl ?_
  refine tkH 5 rfl ?_
  refine tkH 6 rfl ?_
  refine tkH 7 rfl ?_
  refine tkH 8 rfl ?_
  refine tkH 9 rfl ?_
  refine tkH 10 rfl ?_
  refine tkH 11 rfl ?_
  refine tkH 12 rfl ?_
  refine tkH 13 rfl ?_
  refine dnH ?_
  go_wp2_with fail
  go_ret2
  exact ⟨x,true,rfl,fun _=>HPS.out,⟨s,hs,by first | exact HT.out | exact HT.out.ext (Below.refl _ _).drew | exact HT.out.ext ((Below.refl _ _).drew).drew⟩,by first | exact Kps.refl _ _ | exact Kps.of_below _ (Below.refl _ _).drew | exact Kps.of_below _ ((Below.refl _ _).drew).drew⟩
 ·have hge:((s + n:Nat):Int)≤(p:Int):=by omega
  have hge':s + n≤p:=by omega
  have hw5:IntKind.i64.wrap ((p:Int) + 512)=(p:Int) + 512:=by rw [IntKind.wrap_i64];omega
  have AT:Hid (∀ w',Below w.heap.size w w'→Calls Tryz.prog 19 #[.pointer (some ⟨t,0,none⟩),.int .i64 (p:Nat),.int .i64 ((p:Int) + 512)] w' fun e w''=>AtR ((A.drop p).take 512) w' e w''):=fun w' hb=>by
   have:=Atoms_z enc w' t A (p:Nat) ((p:Int) + 512) (HT.out.tz.ext hb)
   rwa [sub_512] at this
  go_enter Tryz.func67,Tryz.ntmps67
  go_upto_region 1 with fail
  refine wp_region_held_drew (S:=fun w''=>w''.cell? ⟨r,0,none⟩=some (.pointer (some ⟨t,0,none⟩))∧w''.cell? ⟨r,1,none⟩=some (.int .i64 (s:Nat))∧w''.cell? ⟨r,2,none⟩=some (.slice ah n ch)) (by kernel_rfl) (⟨c0,c1,c2⟩) (fun hHeld=>?_)
  refine tkH 0 rfl ?_
  refine tkH 1 rfl ?_
  refine tkH 2 rfl ?_
  refine tkH 3 rfl ?_
  refine tkH 4 rfl ?_
  refine tkH 5 rfl ?_
  refine tkH 6 rfl ?_
  refine tkH 7 rfl ?_
  refine tkH 8 rfl ?_
  refine tkH 9 rfl ?_
  refine tkH 10 rfl ?_
  refine tkH 11 rfl ?_
  refine dnH ?_
  clear c0 c1 c2
  obtain ⟨c0,c1,c2⟩:=hHeld
  have hHeld:=c0
  go_upto_region 3 with (go_at_call 19;refine (AT.out _ (Below.drew (Below.refl _ _))).mono ?_;rintro e w2 ⟨v2,rfl,ho2,hb⟩;have HB2:=zh (zxt (Below.drew (Below.refl w.heap.size w)) hb);obtain ⟨a2,k2,hv2⟩:=ho2.form;generalize hn2:((A.drop p).take 512).length=n2 at hv2;have HN2:=zh hn2;clear hn2;subst hv2;have HO2:=zh ho2;clear ho2 hb c0 c1 c2 fz hHeld;have HG2:=zh ((HB2.out.block r (Array.getElem?_eq_some_iff.1 HG.out).1).trans HG.out);obtain ⟨_,c0,c1,c2,fz⟩:=cells3x HG2.out;(try dsimp only))
  generalize hwF:World.setCell (World.setCell w2 _ _) _ _=wF
  have HF:Hid (wF.heap[r]?=some (.cells #[.pointer (some ⟨t,0,none⟩),.int .i64 (p:Nat),.slice a2 n2 k2] 92 (0,0))∧Kps (fun k=>k=r) w2 wF):=by
   unfold Hid
   rw [← hwF]
   obtain ⟨h1,g1⟩:=set1 HG2.out 1 (.int .i64 (p:Nat))
   obtain ⟨h2,g2⟩:=set1 h1 2 (.slice a2 n2 k2)
   exact ⟨h2,Kps.grown (zgt g1 g2) fun j e _=>by cases e;rfl⟩
  have HTY:Hid (Typ 92 w2 r):=⟨_,HG2.out⟩
  have HOF:Hid (OwnI wF 0 (.slice a2 n2 k2) ((A.drop p).take 512)):=((HO2.out.le (Nat.zero_le _)).oth HF.out.2 HTY.out (by decide))
  have HRF:Hid (RdW enc A wF r t p H):=⟨⟨_,_,HF.out.1,HOF.out,by
   by_cases e:p < A.length
   ·right;rw [List.length_take,List.length_drop];omega
   ·left;rw [List.drop_eq_nil_of_le (by omega)];rfl,fun g hg=>HHH.out g (ownI_ge HO2.out hg)⟩,(HT.out.tz.ext HB2.out).other HF.out.2 HTY.out (by decide) (by decide) hrt⟩
  have HKF:Hid (Kps (fun k=>k=r) w wF):=(Kps.of_below _ HB2.out).trans HF.out.2 (fun _ _ e=>e)
  obtain ⟨_,f0,f1,f2,_⟩:=cells3x HF.out.1
  clear hwF c0 c1 c2 fz
  cases hx:A[p]? with
  | none =>
    have hn0:n2=0:=by rw [← HN2.out,List.length_take,List.length_drop];have:=List.getElem?_eq_none_iff.1 hx;omega
    subst hn0
    clear hx
    go_wp2_with fail
    go_ret2
    exact ⟨0,false,rfl,(fun e=>by cases e),⟨p,Nat.le_refl _,HRF.out⟩,HKF.out⟩
  | some x =>
    have hpl:=(List.getElem?_eq_some_iff.1 hx).1
    have HPS:Hid (p < 65536):=by unfold Hid;omega
    have hn0:0 < n2:=by rw [← HN2.out,List.length_take,List.length_drop];omega
    have hh:((A.drop p).take 512)[0]?=some x:=by rw [List.getElem?_take,if_pos (by omega),List.getElem?_drop,Nat.add_zero];exact hx
    obtain ⟨b,o,hbo,hbl,cx,_⟩:=rd_at HOF.out.rdi 0 (List.getElem?_eq_some_iff.1 hh).1
    rw [hh,Option.getD_some,Nat.add_zero] at cx
    subst hbo
    have hnz:¬ ((n2:Int)=0):=by omega
    have hnz':¬ (n2=0):=by omega
    have hnb:((n2:Int) == 0)=false:=by simp;omega
    have hws:IntKind.i64.wrap 0=0:=by rw [IntKind.wrap_i64];omega
    clear hx hh
    go_upto_region 5 with fail
    refine wp_region_held_drew (S:=fun w''=>w''.cell? ⟨r,1,none⟩=some (.int .i64 (p:Nat))∧w''.cell? ⟨r,2,none⟩=some (.slice (some ⟨b,o,none⟩) n2 k2)∧w''.cell? ⟨b,o,none⟩=some (.int .i64 x)) (by kernel_rfl) (⟨f1,f2,cx⟩) (fun hHeld=>?_)
    refine tkH 0 rfl ?_
    refine tkH 1 rfl ?_
    refine tkH 2 rfl ?_
    refine tkH 3 rfl ?_
    refine tkH 4 rfl ?_
    refine tkH 5 rfl ?_
    refine tkH 6 rfl ?_
    refine tkH 7 rfl ?_
    refine tkH 8 rfl ?_
    refine tkH 9 rfl ?_
    refine tkH 10 rfl ?_
    refine tkH 11 rfl ?_
    refine tkH 12 rfl ?_
    refine tkH 13 rfl ?_
    refine dnH ?_
    go_wp2_with fail
    go_ret2
    exact ⟨x,true,rfl,fun _=>HPS.out,⟨p,Nat.le_refl _,HRF.out.ext (Below.refl _ _).drew⟩,HKF.out.trans (Kps.of_below (fun _=>False) (Below.refl _ _).drew) (fun _ _ e=>e.elim)⟩
def KdW (enc:Int) (A:List Int) (r t q:Nat) (_x:Int) (H:Nat→Prop) (w:World) (e:Ending) (w':World):Prop:=∃ k:Int,e=.returned (.int .i64 k)∧1≤k∧k≤3∧Hid (∃ s',s'≤q∧RdW enc A w' r t s' H)∧Hid (Kps (fun k=>k=r) w w')
theorem wkind_any (enc:Int) (A:List Int) (w:World) (r t s q:Nat) (x:Int) {H:Nat→Prop} (hH:∀ k,w.heap.size≤k→H k) (h:RdW enc A w r t s H) (hs:s≤q) (hq:q≤1000000):Calls Tryz.prog 68 #[.pointer (some ⟨r,0,none⟩),.int .i64 x,.int .i64 (q:Nat)] w (KdW enc A r t q x H w):=by
 have AT:=zh (watom_any enc A w r t s q hH h hs hq)
 by_cases hx:x=10
 ·have HH:=zh h
  subst hx
  clear h
  go_enter Tryz.func68,Tryz.ntmps68
  go_wp2_with fail
  go_ret
  exact ⟨1,rfl,by decide,by decide,⟨s,hs,HH.out⟩,Kps.refl _ _⟩
 ·have hxb:(x == 10)=false:=by simp [hx]
  clear h hs
  go_enter Tryz.func68,Tryz.ntmps68
  go_upto_region 4 with (go_at_call 67;refine AT.out.mono ?_;rintro e w1 ⟨y,ok,rfl,hok,hr,hk⟩;have HR:=zh hr.out;have HK:=zh hk.out;clear hr hk hok AT;(try dsimp only))
  cases ok with
  | true =>
    by_cases hy:y=10
    ·subst hy
     go_wp2_with fail
     go_ret
     exact ⟨2,rfl,by decide,by decide,HR.out,HK.out⟩
    ·have hyb:(y == 10)=false:=by simp [hy]
     go_wp2_with fail
     go_ret
     exact ⟨3,rfl,by decide,by decide,HR.out,HK.out⟩
  | false =>
    go_wp2_with fail
    go_ret
    exact ⟨3,rfl,by decide,by decide,HR.out,HK.out⟩
def LiW (enc:Int) (A:List Int) (r t f:Nat) (H:Nat→Prop) (w:World) (e:Ending) (w':World):Prop:=∃ L:Ln,e=.returned (.agg #[.int .i64 L.f,.int .i64 L.t,.int .i64 L.n,.int .i64 L.b])∧(L.b=0∨∃ n:Nat,L.n=n∧f < n∧n≤65537)∧Hid (∃ s':Nat,(s':Int)≤L.n∧RdW enc A w' r t s' H)∧Hid (Kps (fun j=>j=r) w w')
set_option maxHeartbeats 8000000 in
theorem wline_any (enc:Int) (A:List Int) (w:World) (r t s f:Nat) {H:Nat→Prop} (hH:∀ k,w.heap.size≤k→H k) (h:RdW enc A w r t s H) (hs:s≤f) (hf:f≤65537) :
  Calls Tryz.prog 44 #[.pointer (some ⟨r,0,none⟩),.int .i64 (f:Nat)] w (LiW enc A r t f H w):=by
 obtain ⟨w0,hw0,kk0,hb0⟩:∃ w0,w0=w.alloc (.cells #[.int .i64 0,.int .i64 0,.int .i64 0,.int .i64 0] 50)∧w0.heap[w.heap.size]?=some (.cells #[.int .i64 0,.int .i64 0,.int .i64 0,.int .i64 0] 50 (0,0))∧Below w.heap.size w w0:=⟨_,rfl,heap_alloc_new _ _,zxa (Below.refl _ _) _⟩
 have HB0:=zh hb0
 have HK0:=zh kk0
 have hrl:r < w.heap.size:=h.typ.lt
 have HI0:Hid (RdW enc A w0 r t s H∧Kps (fun j=>j=r) w0 w0):=⟨h.ext hb0,Kps.refl _ _⟩
 have HHH:Hid (∀ w',Kps (fun j=>j=r) w0 w'→∀ k,w'.heap.size≤k→H k):=fun w' hk k hl=>hH k (Nat.le_trans hb0.size (Nat.le_trans hk.size hl))
 clear hH
 have CL:Hid (∀ w1,Kps (fun j=>j=r) w0 w1→w1.heap[w.heap.size]?=some (.cells #[.int .i64 0,.int .i64 0,.int .i64 0,.int .i64 0] 50 (0,0))):=fun w1 hk=>(hk.same _ (Array.getElem?_eq_some_iff.1 HK0.out).1 (by omega)).trans HK0.out
 have FIN:Hid (∀ w1 v0 v1 v2 v3 s',Kps (fun j=>j=r) w0 w1→RdW enc A w1 r t s' H→RdW enc A ((((w1.setCell ⟨w.heap.size,0,none⟩ v0).setCell ⟨w.heap.size,1,none⟩ v1).setCell ⟨w.heap.size,2,none⟩ v2).setCell ⟨w.heap.size,3,none⟩ v3) r t s' H∧Kps (fun j=>j=r) w ((((w1.setCell ⟨w.heap.size,0,none⟩ v0).setCell ⟨w.heap.size,1,none⟩ v1).setCell ⟨w.heap.size,2,none⟩ v2).setCell ⟨w.heap.size,3,none⟩ v3)):=by
  intro w1 v0 v1 v2 v3 s' hk hr
  have hg:=CL.out w1 hk
  obtain ⟨q1,g1⟩:=set1 hg 0 v0
  obtain ⟨q2,g2⟩:=set1 q1 1 v1
  obtain ⟨q3,g3⟩:=set1 q2 2 v2
  obtain ⟨q4,g4⟩:=set1 q3 3 v3
  have g:=zgt (zgt (zgt g1 g2) g3) g4
  have hkk:Kps (fun j=>j=w.heap.size) w1 ((((w1.setCell ⟨w.heap.size,0,none⟩ v0).setCell ⟨w.heap.size,1,none⟩ v1).setCell ⟨w.heap.size,2,none⟩ v2).setCell ⟨w.heap.size,3,none⟩ v3):=Kps.grown g fun j e _=>by cases e;rfl
  have hty:Typ 50 w1 w.heap.size:=⟨_,hg⟩
  obtain ⟨v,hand,k1,k2,k3⟩:=hr.ex
  refine ⟨⟨⟨v,hand,(hkk.same r (Array.getElem?_eq_some_iff.1 k1).1 (by omega)).trans k1,k2.oth hkk hty (by decide),k3⟩,hr.tz.other hkk hty (by decide) (by decide) (fun e=>?_)⟩,?_⟩
  ·rw [e] at hty
   exact absurd (Typ.uniq hty hr.tz.typ) (by decide)
  ·exact ((Kps.of_below (fun j=>j=r) HB0.out).trans hk (fun _ _ e=>e)).trans hkk (fun i hi e=>by omega)
 clear hb0 kk0 h
 go_enter Tryz.func44,Tryz.ntmps44
 go_upto_region 1 with fail
 rw [← hw0]
 clear hw0
 go_wp2_with fail
 go_loopg [5] (65538 - f) (fun gk p wr=>∃ (q s':Nat),q + gk=65538∧f≤q∧q≤65537∧p=.int .i64 (q:Nat)∧s'≤q∧Hid (RdW enc A wr r t s' H∧Kps (fun j=>j=r) w0 wr))
 case atStart=>exact ⟨f,s,by omega,Nat.le_refl _,hf,rfl,hs,HI0.out⟩
 case round =>
  obtain ⟨q,s',hqg,hfq,hqA,rfl,hsq,HI⟩:=hrel
  have AT:=zh (watom_any enc A wr r t s' q (HHH.out _ HI.out.2) HI.out.1 hsq (by omega))
  have HGK:=zh hqg
  have KD:Hid (∀ w' s2 (x:Int),Kps (fun j=>j=r) w0 w'→RdW enc A w' r t s2 H→s2≤q→Calls Tryz.prog 68 #[.pointer (some ⟨r,0,none⟩),.int .i64 x,.int .i64 ((q + 1:Nat):Int)] w' (KdW enc A r t (q + 1) x H w')):=fun w' s2 x hk hr h2=>wkind_any enc A w' r t s2 (q + 1) x (HHH.out _ hk) hr (by omega) (by omega)
  have WD:Hid (∀ w' k,Calls Tryz.prog 42 #[.int .i64 k] w' fun e w''=>e=.returned (.int .i64 (wid k))∧w''=w'):=fun w' k=>width_any k w'
  have hwq:IntKind.i64.wrap ((q:Int) + 1)=((q + 1:Nat):Int):=by rw [IntKind.wrap_i64];omega
  clear hqg hsq
  go_upto_region 4 with (go_at_call 67;refine AT.out.mono ?_;rintro e w1 ⟨x,ok,rfl,hok,hr,hk⟩;obtain ⟨s2,hs2,hr2⟩:=hr.out;have HR:=zh hr2;have HS2:=zh hs2;have HOK:=zh hok;have HK:=zh (HI.out.2.trans hk.out (fun _ _ e=>e));clear hr hk hr2 hs2 hok;(try dsimp only))
  clear AT HI
  cases ok with
  | false =>
    obtain ⟨_,c0,c1,c2,c3,fz⟩:=cells4 (CL.out _ HK.out)
    go_wp2_with fail
    exact bodyPost_ret (v:=.agg #[.int .i64 (f:Nat),.int .i64 (q:Nat),.int .i64 (q:Nat),.int .i64 0]) (by simp [results,Tryz.results44,go_sem,c0,c1,c2,c3]) rfl ⟨⟨_,_,_,_⟩,rfl,.inl rfl,⟨s2,by have:=HS2.out;show (s2:Int)≤(q:Int);omega,(FIN.out _ _ _ _ _ _ HK.out HR.out).1⟩,(FIN.out _ _ _ _ _ _ HK.out HR.out).2⟩
  | true =>
    have hq6:q < 65536:=HOK.out rfl
    by_cases hbr:x=10∨x=13
    ·have KD':=zh (KD.out w1 s2 x HK.out HR.out HS2.out)
     have hcc:∃ b1 b2:Bool,(x == 10)=b1∧(x == 13)=b2∧(b1=true∨b2=true):=⟨_,_,rfl,rfl,by simpa using hbr⟩
     rcases hbr with rfl | rfl
     all_goals
      go_upto_region 8 with (go_at_call 68;refine KD'.out.mono ?_;rintro e w2 ⟨kd,rfl,hk1,hk3,hr,hk⟩;obtain ⟨s3,hs3,hr3⟩:=hr.out;have HR3:=zh hr3;have HS3:=zh hs3;have HK3:=zh (HK.out.trans hk.out (fun _ _ e=>e));clear hr hk hr3 hs3;(try dsimp only))
      have hwd:1≤wid kd∧wid kd≤2:=by unfold wid;split <;> omega
      obtain ⟨wk,hwk⟩:∃ wk:Nat,wid kd=(wk:Int):=⟨(wid kd).toNat,by omega⟩
      have WD':=zh (fun w'=>WD.out w' kd)
      rw [hwk] at WD' hwd
      have hwa:IntKind.i64.wrap ((q:Int) + (wk:Int))=((q + wk:Nat):Int):=by rw [IntKind.wrap_i64];omega
      clear hwk
      obtain ⟨_,c0,c1,c2,c3,fz⟩:=cells4 (CL.out _ HK3.out)
      go_wp2_with (go_at_call 42;refine (WD'.out _).mono ?_;rintro e w3 ⟨rfl,hw3⟩;rw [hw3];clear hw3;(try dsimp only))
      exact bodyPost_ret (v:=.agg #[.int .i64 (f:Nat),.int .i64 (q:Nat),.int .i64 ((q + wk:Nat):Int),.int .i64 kd]) (by simp [results,Tryz.results44,go_sem,c0,c1,c2,c3]) rfl ⟨⟨_,_,_,_⟩,rfl,.inr ⟨q + wk,rfl,by omega,by omega⟩,⟨s3,by have:=HS3.out;show (s3:Int)≤((q + wk:Nat):Int);omega,(FIN.out _ _ _ _ _ _ HK3.out HR3.out).1⟩,(FIN.out _ _ _ _ _ _ HK3.out HR3.out).2⟩
    ·have h10:¬ x=10:=fun e=>hbr (.inl e)
     have h13:¬ x=13:=fun e=>hbr (.inr e)
     have hb10:(x == 10)=false:=by simp [h10]
     have hb13:(x == 13)=false:=by simp [h13]
     go_wp2_with fail
     go_roundg (65538 - (q + 1))
     case rel=>exact ⟨q + 1,s2,by omega,by omega,by omega,by go_num,by have:=HS2.out;omega,HR.out,HK.out⟩
     case measure=>have:=HGK.out;omega
open Go.RowKit
theorem tuO_true {bt bg bn g t j:Nat} {e:Prop} (h:tuO bt bg bn g t e j):tuO bt bg bn g t True j:=by
 rcases h with h | h | h | ⟨_,h⟩
 ·exact .inl h
 ·exact .inr (.inl h)
 ·exact .inr (.inr (.inl h))
 ·exact .inr (.inr (.inr ⟨trivial,h⟩))
theorem RdW.yielded {enc:Int} {A A':List Int} {w w':World} {r t s:Nat} {own:Nat→Prop} (h:RdW enc A w r t s (fun q=>¬ own q)) (hr:¬ own r) (hk:Kps own w w') (ht:Tz enc w' t A'):RdW enc A' w' r t s (fun q=>¬ own q):=by
 obtain ⟨v,hand,h1,h2,h3,h4⟩:=h.ex
 exact ⟨⟨v,hand,(hk.same r (Array.getElem?_eq_some_iff.1 h1).1 hr).trans h1,ownI_same h2 (fun q hq=>hk.same q (ownI_lt h2 hq) (h4 q hq)),h3,h4⟩,ht⟩
def RdE (enc:Int) (A0 A:List Int) (a k f:Nat) (w:World) (r t:Nat) (H:Nat→Prop):Prop:=∃ s':Nat,s'≤f∧((k≤a∧A=A0∧(k:Int)≤(spn enc A0).b∧skA enc A0 (k:Nat)=(f:Nat)∧Rdr enc A0 w r t s' H)∨(a < k∧k≤65538 + f∧f≤65537∧RdW enc A w r t s' H))
set_option maxHeartbeats 16000000 in
theorem allTurn1 (enc:Int) (W:World) (g t bt ba bw bg bn bs gr mw cw a:Nat) (vs:Value) (A0:List Int) (os:List Opv) (w:World) (bx n:Nat) (hA:w.heap[bx]?=some (.cells #[.pointer (some ⟨t,0,none⟩)] 26 (0,0))) (hT:Tu enc W g t bt ba bw bg bn bs gr mw cw a vs A0 0 0 A0 w) (hO:RdO W vs os) (hn:(n:Int)=cnt enc A0) (han:a < n) (hka9:a < mw) :
  Calls Tryz.prog 43 #[.func (.func 23) #[] #[.pointer (some ⟨bt,0,none⟩),.pointer (some ⟨ba,0,none⟩),.pointer (some ⟨bw,0,none⟩),.pointer (some ⟨bg,0,none⟩),.pointer (some ⟨bn,0,none⟩),.pointer (some ⟨bs,0,none⟩),.pointer (some ⟨g,0,none⟩)],.pointer (some ⟨bx,0,none⟩)] w fun e w'=>(∃ v,e=.returned v)∧Hid ((∃ k x A,a < k∧Tu enc W g t bt ba bw bg bn bs gr mw cw a vs A0 k x A w')∧Kps (tuO bt bg bn g t True) w w'):=by
 have hB0:=spn_nn enc A0
 have hlA:=hT.b.tz.len
 have hBl:=spn_len enc A0
 have hnl:n≤65537:=by
  have h1:cnt enc A0≤(spn enc A0).b + 1:=by unfold cnt;split <;> omega
  omega
 have HT:=zh hT
 have HN:=zh hn
 have HOS:=zh hO
 have cb:w.cell? ⟨bx,0,none⟩=some (.pointer (some ⟨t,0,none⟩)):=by rw [cell_of_row w _ _ _ _ _ hA];rfl
 obtain ⟨W1,hW1,hr1,hb1⟩:∃ W1,w.alloc (.cells #[.pointer (some ⟨t,0,none⟩),.int .i64 0,.slice none 0 0] 92)=W1∧W1.heap[w.heap.size]?=some (.cells #[.pointer (some ⟨t,0,none⟩),.int .i64 ((0:Nat):Int),.slice none 0 0] 92 (0,0))∧Below w.heap.size w W1:=⟨_,rfl,heap_alloc_new _ _,zxa (Below.refl _ _) _⟩
 have hlo:∀ j,tuO bt bg bn g t True j→j < w.heap.size:=fun j o=>by
  rcases o with o | o | o | ⟨_,o | o⟩ <;> subst o
  ·exact (Array.getElem?_eq_some_iff.1 hT.told).1
  ·exact (Array.getElem?_eq_some_iff.1 hT.good).1
  ·exact (Array.getElem?_eq_some_iff.1 hT.nx).1
  ·exact hT.b.lt
  ·exact hT.b.tz.typ.lt
 have HLO:=zh hlo
 have HR1:Hid (RdE enc A0 A0 a 0 0 W1 w.heap.size t (fun q=>¬ tuO bt bg bn g t True q)):=⟨0,Nat.le_refl _,.inl ⟨Nat.zero_le _,rfl,hB0,skA_zero enc A0,⟨⟨_,[],hr1,⟨rfl,.inl ⟨rfl,rfl⟩⟩,by simp,fun q hq=>by cases hq⟩,HT.out.b.tz.ext hb1⟩⟩⟩
 have HJ1:Hid (Tu enc W g t bt ba bw bg bn bs gr mw cw a vs A0 0 0 A0 W1∧Kps (tuO bt bg bn g t True) w W1):=⟨HT.out.ext hb1,Kps.of_below _ hb1⟩
 have HRL:Hid (W.heap.size≤w.heap.size):=HT.out.bl.size
 have HW1:=zh hW1
 clear hT hn hO hA hW1 hr1 hb1 hlo HT
 go_enter Tryz.func43,Tryz.ntmps43
 go_upto_region 1 with fail
 rw [HW1.out]
 clear HW1
 go_wp2_with fail
 go_loopw [4,5] (fun av bv wr=>∃ (k f x:Nat) (A:List Int),av=.int .i64 (k:Nat)∧bv=.int .i64 (f:Nat)∧k≤131076∧Hid (RdE enc A0 A a k f wr w.heap.size t (fun q=>¬ tuO bt bg bn g t True q))∧Hid (Tu enc W g t bt ba bw bg bn bs gr mw cw a vs A0 k x A wr∧Kps (tuO bt bg bn g t True) w wr)) (fun av _ _=>200000 - (intOf av).toNat)
 case atStart=>exact ⟨0,0,0,A0,rfl,rfl,by omega,HR1.out,HJ1.out⟩
 case round =>
  clear HR1 HJ1 W1 cb
  obtain ⟨k,f,x,A,rfl,rfl,hk13,HRE,HJ⟩:=hrel
  obtain ⟨s',hsf,hcase⟩:=HRE.out
  clear HRE
  have hty:Typ 92 wr w.heap.size:=by
   rcases hcase with h | h
   ·exact h.2.2.2.2.typ
   ·exact h.2.2.2.typ
  have hrw:w.heap.size < wr.heap.size:=hty.lt
  have hnr:¬ tuO bt bg bn g t True w.heap.size:=fun o=>by have:=HLO.out _ o;omega
  have HNW:Hid (∀ (w1:World) (hz:w.heap.size≤w1.heap.size),¬ tuO bt bg bn g t (a≤k) w1.heap.size):=fun w1 hz o=>by have:=HLO.out _ (tuO_true o);omega
  -- the line that is told
  have hline:∃ (PL:Ln→Prop),Calls Tryz.prog 44 #[.pointer (some ⟨w.heap.size,0,none⟩),.int .i64 (f:Nat)] wr (fun e w1=>∃ L:Ln,e=.returned (.agg #[.int .i64 L.f,.int .i64 L.t,.int .i64 L.n,.int .i64 L.b])∧Hid (PL L)∧Hid (∃ s2:Nat,(L.b≠0→(s2:Int)≤L.n)∧((k≤a∧Rdr enc A0 w1 w.heap.size t s2 (fun q=>¬ tuO bt bg bn g t True q))∨(a < k∧RdW enc A w1 w.heap.size t s2 (fun q=>¬ tuO bt bg bn g t True q))))∧Hid (Kps (fun j=>j=w.heap.size) wr w1))∧∀ L,PL L→(k≤a→L=lnK enc A0 (k:Nat)∧A=A0)∧(tlG k L=true→a < k)∧(L.b=0→a < k + 1)∧(L.b≠0→∃ f':Nat,L.n=(f':Nat)∧k + 1≤131076∧(k + 1≤a→((k + 1:Nat):Int)≤(spn enc A0).b∧skA enc A0 ((k + 1:Nat):Int)=(f':Nat))∧(a < k + 1→k + 1≤65538 + f'∧f'≤65537)):=by
   have hH:∀ j,wr.heap.size≤j→¬ tuO bt bg bn g t True j:=fun j hj o=>by have:=HLO.out _ o;omega
   rcases hcase with ⟨hka,rfl,hkB,hsk,hR⟩ | ⟨hka,hkf,hf9,hR⟩
   ·refine ⟨fun L=>L=lnK enc A (k:Nat),(rline_any enc A wr w.heap.size t s' f k hH hR hsf (by have:=skA_in enc A k (by omega) hkB;omega) hkB hsk).mono ?_,?_⟩
    ·rintro e w1 ⟨rfl,hr1,hk1⟩
     obtain ⟨s2,hs2,hR1⟩:=hr1.out
     exact ⟨lnK enc A (k:Nat),rfl,rfl,⟨s2,fun _=>hs2,.inl ⟨hka,hR1⟩⟩,hk1⟩
    ·rintro L rfl
     have hkn:(k:Int) < cnt enc A:=by have:=HN.out;omega
     refine ⟨fun _=>⟨rfl,rfl⟩,fun e=>?_,fun e=>?_,fun e=>?_⟩
     ·exfalso
      rcases Int.lt_or_eq_of_le hkB with h | h
      ·have:=(ln_mid enc A k h).2.2.2.1;rw [e] at this;cases this
      ·rcases (ln_last enc A k h).2 with q | q
       ·omega
       ·rw [e] at q;cases q.1
     ·rcases Int.lt_or_eq_of_le hkB with h | h
      ·have:=(ln_mid enc A k h).1;omega
      ·rcases (ln_last enc A k h).2 with q | q
       ·omega
       ·have:=HN.out;omega
     ·have hkk:(k:Int) < (spn enc A).b:=by
       rcases Int.lt_or_eq_of_le hkB with h | h
       ·exact h
       ·exact absurd (ln_last enc A k h).1 e
      have h1:=(ln_mid enc A k hkk).2.2.1
      have h2:=skA_in enc A ((k:Int) + 1) (by omega) (by omega)
      refine ⟨(lnK enc A (k:Nat)).n.toNat,by omega,by omega,fun _=>⟨by omega,by rw [show ((k + 1:Nat):Int)=(k:Int) + 1 by omega,← h1];omega⟩,fun _=>⟨by omega,by omega⟩⟩
   ·refine ⟨fun L=>L.b=0∨∃ m:Nat,L.n=m∧f < m∧m≤65537,(wline_any enc A wr w.heap.size t s' f hH hR hsf hf9).mono ?_,?_⟩
    ·rintro e w1 ⟨L,rfl,hL,hr1,hk1⟩
     obtain ⟨s2,hs2,hR1⟩:=hr1.out
     exact ⟨L,rfl,hL,⟨s2,fun _=>hs2,.inr ⟨hka,hR1⟩⟩,hk1⟩
    ·intro L hL
     refine ⟨fun h=>by omega,fun _=>hka,fun _=>by omega,fun e=>?_⟩
     rcases hL with h | ⟨m,h1,h2,h3⟩
     ·exact absurd h e
     ·exact ⟨m,h1,by omega,fun h=>by omega,fun _=>⟨by omega,h3⟩⟩
  obtain ⟨PL,hcl,hPL⟩:=hline
  have RL:=zh hcl
  have HPL:=zh hPL
  clear hcl hPL hcase
  go_upto_region 4 with (go_at_call 44;refine RL.out.mono ?_;rintro e w1 ⟨L,rfl,hpl,hr1,hk1⟩;have HL1:=zh (HPL.out L hpl.out);have HR1:=zh hr1.out;have HK1:=zh hk1.out;clear hpl hr1 hk1;(try dsimp only))
  generalize hw2:World.alloc _ _=w2
  have HB2:Hid (Below w1.heap.size w1 w2∧w2.heap[w1.heap.size]?=some (.cells #[.int .i64 L.f,.int .i64 L.t,.int .i64 L.n,.int .i64 L.b] 50 (0,0))):=by unfold Hid;rw [← hw2];exact ⟨zxa (Below.refl _ _) _,heap_alloc_new _ _⟩
  have hz1:=HK1.out.size
  have IT:=zh (isTail_gen k L w2)
  unfold lnV at IT
  obtain ⟨_,x0,x1,x2,x3,_⟩:=cells4 HB2.out.2
  obtain ⟨s2,hs2,hR2⟩:=HR1.out
  have HS2:=zh hs2
  have HR2:=zh hR2
  clear hs2 hR2 HR1
  have HKW:Hid (∀ w',Below w1.heap.size w1 w'→Tu enc W g t bt ba bw bg bn bs gr mw cw a vs A0 k x A w'∧Kps (tuO bt bg bn g t True) w w'∧((k≤a∧Rdr enc A0 w' w.heap.size t s2 (fun q=>¬ tuO bt bg bn g t True q))∨(a < k∧RdW enc A w' w.heap.size t s2 (fun q=>¬ tuO bt bg bn g t True q)))):=fun w' hb=>⟨(HJ.out.1.stay HK1.out (fun j e=>by rw [e];exact ⟨HRL.out,hty⟩)).ext hb,(HJ.out.2.trans HK1.out (fun i hi e=>by omega)).trans (Kps.of_below (fun _=>False) hb) (fun _ _ e=>e.elim),HR2.out.imp (fun h=>⟨h.1,h.2.ext hb⟩) (fun h=>⟨h.1,h.2.ext hb⟩)⟩
  have CL:Hid (∀ w',Below w1.heap.size w1 w'→Calls Tryz.prog 23 #[.int .i64 (k:Nat),.agg #[.int .i64 L.f,.int .i64 L.t,.int .i64 L.n,.int .i64 L.b],.pointer (some ⟨bt,0,none⟩),.pointer (some ⟨ba,0,none⟩),.pointer (some ⟨bw,0,none⟩),.pointer (some ⟨bg,0,none⟩),.pointer (some ⟨bn,0,none⟩),.pointer (some ⟨bs,0,none⟩),.pointer (some ⟨g,0,none⟩)] w' fun e w''=>e=.returned (.bool true)∧Hid (TuR enc W g t bt ba bw bg bn bs gr mw cw a vs A0 k A w' w'')):=fun w' hb=>lturn1_any k x A w' L (HKW.out w' hb).1 HOS.out (fun h=>(HL1.out.1 h).1) hka9 (by omega)
  clear hw2 RL HPL
  cases htl:tlG k L with
  | true =>
    have hka:=HL1.out.2.1 htl
    rw [htl] at IT
    clear CL htl
    go_wp2_with (go_at_call 33;refine IT.out.mono ?_;rintro e w3 ⟨rfl,hb3⟩;have HB3:=zh (zxt HB2.out.1 hb3);clear hb3;(try dsimp only))
    refine bodyPost_ret (results_none rfl _ _ _) rfl ?_
    exact ⟨⟨_,rfl⟩,⟨k,x,A,hka,(HKW.out w3 HB3.out).1⟩,(HKW.out w3 HB3.out).2.1⟩
  | false =>
    rw [htl] at IT
    clear htl
    have HNX:=zh HL1.out.2.2.2
    have HEN:=zh HL1.out.2.2.1
    have HA0:Hid (k≤a→A=A0):=fun h=>(HL1.out.1 h).2
    clear HL1
    by_cases hb0:L.b=0
    ·have HE:=zh (HEN.out hb0)
     have hbb:(L.b == 0)=true:=by simp [hb0]
     clear hb0 HNX HEN
     go_wp2_with (first | (go_at_call 33;refine IT.out.mono ?_;rintro e w3 ⟨rfl,hb3⟩;have HB3:=zh (zxt HB2.out.1 hb3);have HX3:=zh ((hb3.block _ (Array.getElem?_eq_some_iff.1 HB2.out.2).1).trans HB2.out.2);clear hb3 x0 x1 x2 x3;obtain ⟨_,x0,x1,x2,x3,_⟩:=cells4 HX3.out;(try dsimp only)) | (go_at_call 23;refine (CL.out _ HB3.out).mono ?_;rintro e w4 ⟨rfl,h1⟩;have H1:=zh h1.out;have H2:=zh ((HKW.out _ HB3.out).2.1.trans (h1.out.2.mono (p:=(tuO bt bg bn g t True)) (fun j _ e=>tuO_true e)) (fun _ _ e=>e));have HX4:=zh ((h1.out.2.same w1.heap.size (Array.getElem?_eq_some_iff.1 HX3.out).1 (HNW.out _ (by omega))).trans HX3.out);clear h1 x0 x1 x2 x3;obtain ⟨_,x0,x1,x2,x3,_⟩:=cells4 HX4.out;(try dsimp only)))
     refine bodyPost_ret (results_none rfl _ _ _) rfl ?_
     obtain ⟨⟨x',A',h1,_⟩,_⟩:=H1.out
     exact ⟨⟨_,rfl⟩,⟨k + 1,x',A',HE.out,h1⟩,H2.out⟩
    ·obtain ⟨f',hf1,hk1,hx1,hx2⟩:=HNX.out hb0
     have HF1:=zh hf1
     have HX1:=zh hx1
     have HX2:=zh hx2
     have HSF:Hid (s2≤f'):=by have:=HS2.out hb0;unfold Hid;omega
     have hbb:(L.b == 0)=false:=by simp [hb0]
     clear hb0 HNX HEN hf1 hx1 hx2
     go_upto_region 5 with (first | (go_at_call 33;refine IT.out.mono ?_;rintro e w3 ⟨rfl,hb3⟩;have HB3:=zh (zxt HB2.out.1 hb3);have HX3:=zh ((hb3.block _ (Array.getElem?_eq_some_iff.1 HB2.out.2).1).trans HB2.out.2);clear hb3 x0 x1 x2 x3;obtain ⟨_,x0,x1,x2,x3,_⟩:=cells4 HX3.out;(try dsimp only)) | (go_at_call 23;refine (CL.out _ HB3.out).mono ?_;rintro e w4 ⟨rfl,h1⟩;have H1:=zh h1.out;have H2:=zh ((HKW.out _ HB3.out).2.1.trans (h1.out.2.mono (p:=(tuO bt bg bn g t True)) (fun j _ e=>tuO_true e)) (fun _ _ e=>e));have HX4:=zh ((h1.out.2.same w1.heap.size (Array.getElem?_eq_some_iff.1 HX3.out).1 (HNW.out _ (by omega))).trans HX3.out);clear h1 x0 x1 x2 x3;obtain ⟨_,x0,x1,x2,x3,_⟩:=cells4 HX4.out;(try dsimp only)))
     rw [HF1.out] at x2
     go_wp2_with fail
     go_roundw
     case rel =>
      obtain ⟨⟨x',A',h1,h2⟩,h3⟩:=H1.out
      refine ⟨k + 1,f',x',A',by go_num,rfl,by omega,⟨s2,HSF.out,?_⟩,h1,H2.out⟩
      have h3':=h3.mono (p:=(tuO bt bg bn g t True)) (fun j _ e=>tuO_true e)
      rcases (HKW.out _ HB3.out).2.2 with ⟨hka,hR⟩ | ⟨hka,hR⟩
      ·by_cases hlt:k + 1≤a
       ·have hA':A'=A0:=(h2 (by omega)).trans (HA0.out hka)
        subst hA'
        exact .inl ⟨hlt,rfl,(HX1.out hlt).1,(HX1.out hlt).2,hR.yielded hnr h3' (fun _ e=>.inl e) h1.b.tz⟩
       ·exact .inr ⟨by omega,(HX2.out (by omega)).1,(HX2.out (by omega)).2,hR.weak.yielded hnr h3' h1.b.tz⟩
      ·exact .inr ⟨by omega,(HX2.out (by omega)).1,(HX2.out (by omega)).2,hR.yielded hnr h3' h1.b.tz⟩
     case measure=>simp [intOf];omega
end Go.Proofs.YtgfdfajblidleaaGreat.P
