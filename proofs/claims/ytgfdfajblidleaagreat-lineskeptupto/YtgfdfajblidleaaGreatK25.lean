import Derived.Test.YtgfdfajblidleaaGreatK24
set_option maxRecDepth 100000
namespace Go.Proofs.YtgfdfajblidleaaGreat.P
open Go.RowKit
theorem cells3x {w:World} {b:Nat} {T:TypeId} {v0 v1 v2:Value} (h:w.heap[b]?=some (.cells #[v0,v1,v2] T (0,0))):b < w.heap.size∧w.cell? ⟨b,0,none⟩=some v0∧w.cell? ⟨b,1,none⟩=some v1∧w.cell? ⟨b,2,none⟩=some v2∧(∀ i,w.frozen? ⟨b,i,none⟩=false):=by
 refine ⟨(Array.getElem?_eq_some_iff.1 h).1,?_,?_,?_,fun i=>by simp [World.frozen?,h]⟩ <;> (rw [cell_of_row _ _ _ _ _ _ h];rfl)
theorem ownI_ge {w:World} {base:Nat} {v:Value} {zs:List Int} (h:OwnI w base v zs) {g:Nat} (hg:v.ownBlock=some g):base≤g:=by
 rcases h.2 with ⟨rfl,_⟩ | ⟨g',cap,cur,rfl,h0,hc,_⟩
 ·cases hg
 ·cases hg
  exact h0
structure Rdr (enc:Int) (A:List Int) (w:World) (r t s:Nat) (H:Nat→Prop):Prop where
 ex:∃ v hand,w.heap[r]?=some (.cells #[.pointer (some ⟨t,0,none⟩),.int .i64 (s:Nat),v] 92 (0,0))∧OwnI w 0 v hand∧hand=(A.drop s).take hand.length∧∀ g,v.ownBlock=some g→H g
 tz:Tz enc w t A
theorem Rdr.typ {enc:Int} {A:List Int} {w:World} {r t s:Nat} {H:Nat→Prop} (h:Rdr enc A w r t s H):Typ 92 w r:=by obtain ⟨_,_,h1,_⟩:=h.ex;exact ⟨_,h1⟩
theorem Rdr.ext {enc:Int} {A:List Int} {w w':World} {r t s:Nat} {H:Nat→Prop} (h:Rdr enc A w r t s H) (hb:Below w.heap.size w w'):Rdr enc A w' r t s H:=by
 obtain ⟨v,hand,h1,h2,h3⟩:=h.ex
 exact ⟨⟨v,hand,(hb.block r (Array.getElem?_eq_some_iff.1 h1).1).trans h1,h2.ext hb,h3⟩,h.tz.ext hb⟩
theorem sub_512 (A:List Int) (p:Nat):sub A p ((p:Int) + 512)=(A.drop p).take 512:=by
 unfold sub clp
 by_cases h:p < A.length
 ·rw [if_neg (by omega)]
  simp only
  rw [show (max (p:Int) 0).toNat=p by omega,show (min ((p:Int) + 512) (A.length:Int)).toNat - p=min 512 (A.length - p) by omega]
  rw [← List.length_drop,List.take_eq_take_min (i:=512)]
 ·rw [if_pos (by omega),List.drop_eq_nil_of_le (show A.length≤p by omega)]
  simp
def aV (A:List Int) (p:Nat):Int:=(A[p]?).getD 0
def aB (A:List Int) (p:Nat):Bool:=(A[p]?).isSome
set_option maxHeartbeats 8000000 in
theorem atom_any (enc:Int) (A:List Int) (w:World) (r t s p:Nat) {H:Nat→Prop} (hH:∀ k,w.heap.size≤k→H k) (h:Rdr enc A w r t s H) (hs:s≤p) (hp:p≤1000000):Calls Tryz.prog 67 #[.pointer (some ⟨r,0,none⟩),.int .i64 (p:Nat)] w fun e w'=>e=.returned (.tuple #[.int .i64 (aV A p),.bool (aB A p)])∧Hid (∃ s',s'≤p∧Rdr enc A w' r t s' H)∧Kps (fun k=>k=r) w w':=by
 obtain ⟨v,hand,hg,ho,hh,_⟩:=h.ex
 have HHH:=zh hH
 clear hH
 obtain ⟨ah,ch,hv⟩:=ho.form
 have hlh:hand.length≤A.length:=by rw [hh,List.length_take,List.length_drop];omega
 have hlA:=h.tz.len
 obtain ⟨n,hn⟩:∃ n,n=hand.length:=⟨_,rfl⟩
 rw [← hn] at hv
 subst hv
 have HG:=zh hg
 have HO:=zh ho
 have HH:=zh hh
 have HT:=zh h
 have HN:=zh hn
 obtain ⟨_,c0,c1,c2,fz⟩:=cells3x hg
 have hrt:r≠t:=fun e=>by subst e;exact absurd (Typ.uniq h.typ h.tz.typ) (by decide)
 have hn9:n≤65536:=by omega
 have hwn:IntKind.i64.wrap ((s:Int) + (n:Int))=((s + n:Nat):Int):=by rw [IntKind.wrap_i64];omega
 clear hg ho hh h hlh hn
 by_cases hin:p < s + n
 ·have h3:=congrArg (fun l=>l[p - s]?) HH.out
  simp only [List.getElem?_take,List.getElem?_drop] at h3
  rw [if_pos (show p - s < hand.length by rw [← HN.out];omega),show s + (p - s)=p by omega] at h3
  obtain ⟨x,hxh⟩:∃ x,hand[p - s]?=some x:=⟨_,List.getElem?_eq_getElem (by rw [← HN.out];omega)⟩
  have hx:A[p]?=some x:=by rw [← h3];exact hxh
  have HR:=zh (show aV A p=x∧aB A p=true from ⟨by unfold aV;rw [hx];rfl,by unfold aB;rw [hx];rfl⟩)
  obtain ⟨b,o,hbo,hbl,cx,_⟩:=rd_at HO.out.rdi (p - s) (List.getElem?_eq_some_iff.1 hxh).1
  rw [hxh,Option.getD_some] at cx
  subst hbo
  have hlt:¬ (((s + n:Nat):Int)≤(p:Int)):=by omega
  have hlt':¬ (s + n≤p):=by omega
  have hnz:¬ ((n:Int)=0):=by omega
  have hnz':¬ (n=0):=by omega
  have hnb:((n:Int) == 0)=false:=by simp;omega
  have hws:IntKind.i64.wrap ((p:Int) - (s:Int))=((p - s:Nat):Int):=by rw [IntKind.wrap_i64];omega
  have hps:p - s < n:=by omega
  clear hx hxh hin h3
  go_enter Tryz.func67,Tryz.ntmps67
  go_upto_region 1 with fail
  refine wp_region_held_drew (S:=fun w''=>w''.cell? ⟨r,1,none⟩=some (.int .i64 (s:Nat))∧w''.cell? ⟨r,2,none⟩=some (.slice (some ⟨b,o,none⟩) n ch)∧w''.cell? ⟨b,o + (p - s),none⟩=some (.int .i64 x)) (by kernel_rfl) (⟨c1,c2,cx⟩) (fun hHeld=>?_)
  refine tkH 0 rfl ?_
  refine tkH 1 rfl ?_
  refine tkH 2 rfl ?_
  refine tkH 3 rfl ?_
  refine tkH 4 rfl ?_
  refine tkH 5 rfl ?_
  refine tkH 6 rfl ?_
  refine tkH 7 rfl ?_
  refine tkH 8 rfl ?_
  refine tkH 9 rfl ?_
  refine tkH 10 rfl ?_
  refine tkH 11 rfl ?_
  refine dnH ?_
  clear c1 c2 cx
  obtain ⟨c1,c2,cx⟩:=hHeld
  go_upto_region 5 with fail
  refine wp_region_held_drew (S:=fun w''=>w''.cell? ⟨r,1,none⟩=some (.int .i64 (s:Nat))∧w''.cell? ⟨r,2,none⟩=some (.slice (some ⟨b,o,none⟩) n ch)∧w''.cell? ⟨b,o + (p - s),none⟩=some (.int .i64 x)) (by kernel_rfl) (⟨c1,c2,cx⟩) (fun hHeld=>?_)
  refine tkH 0 rfl ?_
  refine tkH 1 rfl ?_
  refine tkH 2 rfl ?_
  refine tkH 3 rfl ?_
  refine tkH 4 rfl ?_
  refine tkH 5 rfl ?_
  refine tkH 6 rfl ?_
  refine tkH 7 rfl ?_
  refine tkH 8 rfl ?_
  refine tkH 9 rfl ?_
  refine tkH 10 rfl ?_
  refine tkH 11 rfl ?_
  refine tkH 12 rfl ?_
  refine tkH 13 rfl ?_
  refine dnH ?_
  go_wp2_with fail
  go_ret2
  exact ⟨by rw [HR.out.1,HR.out.2];rfl,⟨s,hs,by first | exact HT.out | exact HT.out.ext (Below.refl _ _).drew | exact HT.out.ext ((Below.refl _ _).drew).drew⟩,by first | exact Kps.refl _ _ | exact Kps.of_below _ (Below.refl _ _).drew | exact Kps.of_below _ ((Below.refl _ _).drew).drew⟩
 ·have hge:((s + n:Nat):Int)≤(p:Int):=by omega
  have hge':s + n≤p:=by omega
  have hw5:IntKind.i64.wrap ((p:Int) + 512)=(p:Int) + 512:=by rw [IntKind.wrap_i64];omega
  have AT:Hid (∀ w',Below w.heap.size w w'→Calls Tryz.prog 19 #[.pointer (some ⟨t,0,none⟩),.int .i64 (p:Nat),.int .i64 ((p:Int) + 512)] w' fun e w''=>AtR ((A.drop p).take 512) w' e w''):=fun w' hb=>by
   have:=Atoms_z enc w' t A (p:Nat) ((p:Int) + 512) (HT.out.tz.ext hb)
   rwa [sub_512] at this
  go_enter Tryz.func67,Tryz.ntmps67
  go_upto_region 1 with fail
  refine wp_region_held_drew (S:=fun w''=>w''.cell? ⟨r,0,none⟩=some (.pointer (some ⟨t,0,none⟩))∧w''.cell? ⟨r,1,none⟩=some (.int .i64 (s:Nat))∧w''.cell? ⟨r,2,none⟩=some (.slice ah n ch)) (by kernel_rfl) (⟨c0,c1,c2⟩) (fun hHeld=>?_)
  refine tkH 0 rfl ?_
  refine tkH 1 rfl ?_
  refine tkH 2 rfl ?_
  refine tkH 3 rfl ?_
  refine tkH 4 rfl ?_
  refine tkH 5 rfl ?_
  refine tkH 6 rfl ?_
  refine tkH 7 rfl ?_
  refine tkH 8 rfl ?_
  refine tkH 9 rfl ?_
  refine tkH 10 rfl ?_
  refine tkH 11 rfl ?_
  refine dnH ?_
  clear c0 c1 c2
  obtain ⟨c0,c1,c2⟩:=hHeld
  have hHeld:=c0
  go_upto_region 3 with (go_at_call 19;refine (AT.out _ (Below.drew (Below.refl _ _))).mono ?_;rintro e w2 ⟨v2,rfl,ho2,hb⟩;have HB2:=zh (zxt (Below.drew (Below.refl w.heap.size w)) hb);obtain ⟨a2,k2,hv2⟩:=ho2.form;generalize hn2:((A.drop p).take 512).length=n2 at hv2;have HN2:=zh hn2;clear hn2;subst hv2;have HO2:=zh ho2;clear ho2 hb c0 c1 c2 fz hHeld;have HG2:=zh ((HB2.out.block r (Array.getElem?_eq_some_iff.1 HG.out).1).trans HG.out);obtain ⟨_,c0,c1,c2,fz⟩:=cells3x HG2.out;(try dsimp only))
  generalize hwF:World.setCell (World.setCell w2 _ _) _ _=wF
  have HF:Hid (wF.heap[r]?=some (.cells #[.pointer (some ⟨t,0,none⟩),.int .i64 (p:Nat),.slice a2 n2 k2] 92 (0,0))∧Kps (fun k=>k=r) w2 wF):=by
   unfold Hid
   rw [← hwF]
   obtain ⟨h1,g1⟩:=set1 HG2.out 1 (.int .i64 (p:Nat))
   obtain ⟨h2,g2⟩:=set1 h1 2 (.slice a2 n2 k2)
   exact ⟨h2,Kps.grown (zgt g1 g2) fun j e _=>by cases e;rfl⟩
  have HTY:Hid (Typ 92 w2 r):=⟨_,HG2.out⟩
  have HOF:Hid (OwnI wF 0 (.slice a2 n2 k2) ((A.drop p).take 512)):=((HO2.out.le (Nat.zero_le _)).oth HF.out.2 HTY.out (by decide))
  have HRF:Hid (Rdr enc A wF r t p H):=⟨⟨_,_,HF.out.1,HOF.out,by rw [List.length_take,List.take_eq_take_min],fun g hg=>HHH.out g (ownI_ge HO2.out hg)⟩,(HT.out.tz.ext HB2.out).other HF.out.2 HTY.out (by decide) (by decide) hrt⟩
  have HKF:Hid (Kps (fun k=>k=r) w wF):=(Kps.of_below _ HB2.out).trans HF.out.2 (fun _ _ e=>e)
  obtain ⟨_,f0,f1,f2,_⟩:=cells3x HF.out.1
  clear hwF c0 c1 c2 fz
  cases hx:A[p]? with
  | none =>
    have hn0:n2=0:=by rw [← HN2.out,List.length_take,List.length_drop];have:=List.getElem?_eq_none_iff.1 hx;omega
    have HR:=zh (show aV A p=0∧aB A p=false from ⟨by unfold aV;rw [hx];rfl,by unfold aB;rw [hx];rfl⟩)
    subst hn0
    clear hx
    go_wp2_with fail
    go_ret2
    exact ⟨by rw [HR.out.1,HR.out.2];rfl,⟨p,Nat.le_refl _,HRF.out⟩,HKF.out⟩
  | some x =>
    have hpl:=(List.getElem?_eq_some_iff.1 hx).1
    have hn0:0 < n2:=by rw [← HN2.out,List.length_take,List.length_drop];omega
    have hh:((A.drop p).take 512)[0]?=some x:=by rw [List.getElem?_take,if_pos (by omega),List.getElem?_drop,Nat.add_zero];exact hx
    have HR:=zh (show aV A p=x∧aB A p=true from ⟨by unfold aV;rw [hx];rfl,by unfold aB;rw [hx];rfl⟩)
    obtain ⟨b,o,hbo,hbl,cx,_⟩:=rd_at HOF.out.rdi 0 (List.getElem?_eq_some_iff.1 hh).1
    rw [hh,Option.getD_some,Nat.add_zero] at cx
    subst hbo
    have hnz:¬ ((n2:Int)=0):=by omega
    have hnz':¬ (n2=0):=by omega
    have hnb:((n2:Int) == 0)=false:=by simp;omega
    have hws:IntKind.i64.wrap 0=0:=by rw [IntKind.wrap_i64];omega
    clear hx hh
    go_upto_region 5 with fail
    refine wp_region_held_drew (S:=fun w''=>w''.cell? ⟨r,1,none⟩=some (.int .i64 (p:Nat))∧w''.cell? ⟨r,2,none⟩=some (.slice (some ⟨b,o,none⟩) n2 k2)∧w''.cell? ⟨b,o,none⟩=some (.int .i64 x)) (by kernel_rfl) (⟨f1,f2,cx⟩) (fun hHeld=>?_)
    refine tkH 0 rfl ?_
    refine tkH 1 rfl ?_
    refine tkH 2 rfl ?_
    refine tkH 3 rfl ?_
    refine tkH 4 rfl ?_
    refine tkH 5 rfl ?_
    refine tkH 6 rfl ?_
    refine tkH 7 rfl ?_
    refine tkH 8 rfl ?_
    refine tkH 9 rfl ?_
    refine tkH 10 rfl ?_
    refine tkH 11 rfl ?_
    refine tkH 12 rfl ?_
    refine tkH 13 rfl ?_
    refine dnH ?_
    go_wp2_with fail
    go_ret2
    exact ⟨by rw [HR.out.1,HR.out.2];rfl,⟨p,Nat.le_refl _,HRF.out.ext (Below.refl _ _).drew⟩,HKF.out.trans (Kps.of_below (fun _=>False) (Below.refl _ _).drew) (fun _ _ e=>e.elim)⟩
open Go.RowKit
def kdB (A:List Int) (x:Int) (q:Nat):Int:=if x=10 then 1 else if A[q]?=some 10 then 2 else 3
theorem aB_iff (A:List Int) (q:Nat):(aB A q=true∧aV A q=10) ↔ A[q]?=some 10:=by
 unfold aB aV
 cases A[q]? <;> simp
theorem rkind_any (enc:Int) (A:List Int) (w:World) (r t s q:Nat) (x:Int) {H:Nat→Prop} (hH:∀ k,w.heap.size≤k→H k) (h:Rdr enc A w r t s H) (hs:s≤q) (hq:q≤1000000):Calls Tryz.prog 68 #[.pointer (some ⟨r,0,none⟩),.int .i64 x,.int .i64 (q:Nat)] w fun e w'=>e=.returned (.int .i64 (kdB A x q))∧Hid (∃ s',s'≤q∧Rdr enc A w' r t s' H)∧Kps (fun k=>k=r) w w':=by
 have AT:=zh (atom_any enc A w r t s q hH h hs hq)
 by_cases hx:x=10
 ·have HE:=zh (show kdB A x q=1 by unfold kdB;rw [if_pos hx])
  have HH:=zh h
  subst hx
  clear h
  go_enter Tryz.func68,Tryz.ntmps68
  go_wp2_with fail
  go_ret
  exact ⟨by rw [HE.out];rfl,⟨s,hs,HH.out⟩,Kps.refl _ _⟩
 ·have hxb:(x == 10)=false:=by simp [hx]
  have hi:=aB_iff A q
  by_cases h10:A[q]?=some 10
  ·have HE:=zh (show kdB A x q=2 by unfold kdB;rw [if_neg hx,if_pos h10])
   obtain ⟨b1,b2⟩:=hi.2 h10
   rw [b1,b2] at AT
   clear h hi b1 b2 h10
   go_enter Tryz.func68,Tryz.ntmps68
   go_wp2_with (go_at_call 67;refine AT.out.mono ?_;rintro e w1 ⟨rfl,hr,hk⟩;have HR:=zh hr.out;have HK:=zh hk;clear hr hk;(try dsimp only))
   go_ret
   exact ⟨by rw [HE.out];rfl,HR.out,HK.out⟩
  ·have HE:=zh (show kdB A x q=3 by unfold kdB;rw [if_neg hx,if_neg h10])
   cases hB:aB A q with
   | true =>
     have hv:¬ aV A q=10:=fun e=>h10 (hi.1 ⟨hB,e⟩)
     have hvb:(aV A q == 10)=false:=by simp [hv]
     rw [hB] at AT
     clear h hi hB h10
     generalize aV A q=y at *
     go_enter Tryz.func68,Tryz.ntmps68
     go_wp2_with (go_at_call 67;refine AT.out.mono ?_;rintro e w1 ⟨rfl,hr,hk⟩;have HR:=zh hr.out;have HK:=zh hk;clear hr hk;(try dsimp only))
     go_ret
     exact ⟨by rw [HE.out];rfl,HR.out,HK.out⟩
   | false =>
     rw [hB] at AT
     clear h hi hB h10
     generalize aV A q=y at *
     go_enter Tryz.func68,Tryz.ntmps68
     go_wp2_with (go_at_call 67;refine AT.out.mono ?_;rintro e w1 ⟨rfl,hr,hk⟩;have HR:=zh hr.out;have HK:=zh hk;clear hr hk;(try dsimp only))
     go_ret
     exact ⟨by rw [HE.out];rfl,HR.out,HK.out⟩
theorem ln_start (enc:Int) (A:List Int) (k:Int) (p:Nat) (h0:0≤k) (hk:k≤(spn enc A).b) (hp:skA enc A k=p):bAt enc A p=k∧(A[p]?=some 10→p=0∨A[p - 1]?≠some 13)∧p≤A.length:=by
 by_cases h:k=0
 ·subst h
  rw [skA_zero] at hp
  obtain rfl:p=0:=by omega
  exact ⟨bAt_zero enc A,fun _=>.inl rfl,Nat.zero_le _⟩
 ·obtain ⟨q,e,h1,h2,h3,h4⟩:=skA_at enc A k (by omega) hk
  obtain rfl:p=q:=by omega
  refine ⟨h3,fun e=>.inr (fun e2=>?_),h2⟩
  have h5:=bAt_succ enc A (p - 1) (by omega)
  rw [show p - 1 + 1=p by omega] at h5
  have:isE A (p - 1)=false:=by
   unfold isE
   rw [e2,show p - 1 + 1=p by omega,e]
   simp
  rw [this] at h5
  simp at h5
  omega
set_option maxHeartbeats 8000000 in
theorem rline_any (enc:Int) (A:List Int) (w:World) (r t s f:Nat) (k:Int) {H:Nat→Prop} (hH:∀ k,w.heap.size≤k→H k) (h:Rdr enc A w r t s H) (hs:s≤f) (h0:0≤k) (hk:k≤(spn enc A).b) (hf:skA enc A k=f) :
  Calls Tryz.prog 44 #[.pointer (some ⟨r,0,none⟩),.int .i64 (f:Nat)] w fun e w'=>e=.returned (.agg #[.int .i64 (lnK enc A k).f,.int .i64 (lnK enc A k).t,.int .i64 (lnK enc A k).n,.int .i64 (lnK enc A k).b])∧Hid (∃ s':Nat,(s':Int)≤(lnK enc A k).n∧Rdr enc A w' r t s' H)∧Kps (fun j=>j=r) w w':=by
 obtain ⟨w0,hw0,kk0,hb0⟩:∃ w0,w0=w.alloc (.cells #[.int .i64 0,.int .i64 0,.int .i64 0,.int .i64 0] 50)∧w0.heap[w.heap.size]?=some (.cells #[.int .i64 0,.int .i64 0,.int .i64 0,.int .i64 0] 50 (0,0))∧Below w.heap.size w w0:=⟨_,rfl,heap_alloc_new _ _,zxa (Below.refl _ _) _⟩
 have hlA:=h.tz.len
 obtain ⟨st1,st2,st3⟩:=ln_start enc A k f h0 hk hf
 have HB0:=zh hb0
 have HK0:=zh kk0
 have hrl:r < w.heap.size:=h.typ.lt
 have HI0:Hid (Rdr enc A w0 r t s H∧Kps (fun j=>j=r) w0 w0):=⟨h.ext hb0,Kps.refl _ _⟩
 have HHH:Hid (∀ w',Kps (fun j=>j=r) w0 w'→∀ k,w'.heap.size≤k→H k):=fun w' hk k hl=>hH k (Nat.le_trans hb0.size (Nat.le_trans hk.size hl))
 clear hH
 have CL:Hid (∀ w1,Kps (fun j=>j=r) w0 w1→w1.heap[w.heap.size]?=some (.cells #[.int .i64 0,.int .i64 0,.int .i64 0,.int .i64 0] 50 (0,0))):=fun w1 hk=>(hk.same _ (Array.getElem?_eq_some_iff.1 HK0.out).1 (by omega)).trans HK0.out
 have FIN:Hid (∀ w1 v0 v1 v2 v3 s',Kps (fun j=>j=r) w0 w1→Rdr enc A w1 r t s' H→Rdr enc A ((((w1.setCell ⟨w.heap.size,0,none⟩ v0).setCell ⟨w.heap.size,1,none⟩ v1).setCell ⟨w.heap.size,2,none⟩ v2).setCell ⟨w.heap.size,3,none⟩ v3) r t s' H∧Kps (fun j=>j=r) w ((((w1.setCell ⟨w.heap.size,0,none⟩ v0).setCell ⟨w.heap.size,1,none⟩ v1).setCell ⟨w.heap.size,2,none⟩ v2).setCell ⟨w.heap.size,3,none⟩ v3)):=by
  intro w1 v0 v1 v2 v3 s' hk hr
  have hg:=CL.out w1 hk
  obtain ⟨q1,g1⟩:=set1 hg 0 v0
  obtain ⟨q2,g2⟩:=set1 q1 1 v1
  obtain ⟨q3,g3⟩:=set1 q2 2 v2
  obtain ⟨q4,g4⟩:=set1 q3 3 v3
  have g:=zgt (zgt (zgt g1 g2) g3) g4
  have hkk:Kps (fun j=>j=w.heap.size) w1 ((((w1.setCell ⟨w.heap.size,0,none⟩ v0).setCell ⟨w.heap.size,1,none⟩ v1).setCell ⟨w.heap.size,2,none⟩ v2).setCell ⟨w.heap.size,3,none⟩ v3):=Kps.grown g fun j e _=>by cases e;rfl
  have hty:Typ 50 w1 w.heap.size:=⟨_,hg⟩
  obtain ⟨v,hand,k1,k2,k3⟩:=hr.ex
  refine ⟨⟨⟨v,hand,(hkk.same r (Array.getElem?_eq_some_iff.1 k1).1 (by omega)).trans k1,k2.oth hkk hty (by decide),k3⟩,hr.tz.other hkk hty (by decide) (by decide) (fun e=>?_)⟩,?_⟩
  ·rw [e] at hty
   exact absurd (Typ.uniq hty hr.tz.typ) (by decide)
  ·exact ((Kps.of_below (fun j=>j=r) HB0.out).trans hk (fun _ _ e=>e)).trans hkk (fun i hi e=>by omega)
 clear hb0 kk0
 have HL0:Hid (bAt enc A f=k∧(A[f]?=some 10→f=0∨A[f - 1]?≠some 13)):=⟨st1,st2⟩
 have HFK:=zh hf
 have HKB:=zh hk
 have HKN:=zh h0
 clear h hk h0 hf st1 st2
 go_enter Tryz.func44,Tryz.ntmps44
 go_upto_region 1 with fail
 rw [← hw0]
 clear hw0
 go_wp2_with fail
 go_loopg [5] (A.length - f) (fun gk p wr=>∃ (q s':Nat),q + gk=A.length∧f≤q∧q≤A.length∧p=.int .i64 (q:Nat)∧s'≤q∧Hid (bAt enc A q=k∧(A[q]?=some 10→q=0∨A[q - 1]?≠some 13))∧Hid (Rdr enc A wr r t s' H∧Kps (fun j=>j=r) w0 wr))
 case atStart=>exact ⟨f,s,by omega,Nat.le_refl _,st3,rfl,hs,HL0.out,HI0.out⟩
 case round =>
  obtain ⟨q,s',hqg,hfq,hqA,rfl,hsq,HQ,HI⟩:=hrel
  have AT:=zh (atom_any enc A wr r t s' q (HHH.out _ HI.out.2) HI.out.1 hsq (by omega))
  cases hx:A[q]? with
  | none =>
    have hql:q=A.length:=by have:=List.getElem?_eq_none_iff.1 hx;omega
    have e1:aV A q=0∧aB A q=false:=⟨by unfold aV;rw [hx];rfl,by unfold aB;rw [hx];rfl⟩
    rw [e1.1,e1.2] at AT
    have HE:Hid (lnK enc A k=⟨(f:Nat),(q:Nat),(q:Nat),0⟩):=by
     have:=HQ.out.1
     rw [hql,bAt_len enc A _ (Nat.le_refl _)] at this
     unfold Hid lnK
     rw [if_pos this.symm,HFK.out,hql]
    clear e1 hx hql
    go_wp2_with (go_at_call 67;refine AT.out.mono ?_;rintro e w1 ⟨rfl,hr,hk⟩;obtain ⟨s2,hs2,hr2⟩:=hr.out;have HR:=zh hr2;have HS2:=zh hs2;have HK:=zh (HI.out.2.trans hk (fun _ _ e=>e));clear hr hk hr2 hs2;obtain ⟨_,c0,c1,c2,c3,fz⟩:=cells4 (CL.out _ HK.out);(try dsimp only))
    exact bodyPost_ret (v:=.agg #[.int .i64 (f:Nat),.int .i64 (q:Nat),.int .i64 (q:Nat),.int .i64 0]) (by simp [results,Tryz.results44,go_sem,c0,c1,c2,c3]) rfl ⟨by rw [HE.out],⟨s2,by rw [HE.out];have:=HS2.out;show (s2:Int)≤(q:Int);omega,(FIN.out _ _ _ _ _ _ HK.out HR.out).1⟩,(FIN.out _ _ _ _ _ _ HK.out HR.out).2⟩
  | some x =>
    have hql:=(List.getElem?_eq_some_iff.1 hx).1
    have e1:aV A q=x∧aB A q=true:=⟨by unfold aV;rw [hx];rfl,by unfold aB;rw [hx];rfl⟩
    rw [e1.1,e1.2] at AT
    have HX:=zh hx
    clear e1 hx
    by_cases hbr:x=10∨x=13
    ·have KD:Hid (∀ w' s2,Kps (fun j=>j=r) w0 w'→Rdr enc A w' r t s2 H→s2≤q→Calls Tryz.prog 68 #[.pointer (some ⟨r,0,none⟩),.int .i64 x,.int .i64 ((q + 1:Nat):Int)] w' fun e w''=>e=.returned (.int .i64 (kdB A x (q + 1)))∧Hid (∃ s',s'≤q + 1∧Rdr enc A w'' r t s' H)∧Kps (fun j=>j=r) w' w''):=fun w' s2 hk hr h2=>rkind_any enc A w' r t s2 (q + 1) x (HHH.out _ hk) hr (by omega) (by omega)
     have WD:Hid (∀ w',Calls Tryz.prog 42 #[.int .i64 (kdB A x (q + 1))] w' fun e w''=>e=.returned (.int .i64 (wid (kdB A x (q + 1))))∧w''=w'):=fun w'=>width_any _ w'
     have HE:Hid (lnK enc A k=⟨(f:Nat),(q:Nat),(q:Int) + wid (kdB A x (q + 1)),kdB A x (q + 1)⟩):=by
      unfold Hid
      rw [← HQ.out.1] at HFK ⊢
      rcases hbr with rfl | rfl
      ·obtain ⟨_,_,_,e4⟩:=ln_lf (enc:=enc) HX.out (HQ.out.2 HX.out)
       rw [e4,HFK.out]
       unfold kdB wid
       simp
      ·by_cases hn:A[q + 1]?=some 10
       ·obtain ⟨_,_,_,e4⟩:=ln_crlf (enc:=enc) HX.out hn
        rw [e4,HFK.out]
        unfold kdB wid
        simp [hn]
       ·obtain ⟨_,_,_,e4⟩:=ln_cr (enc:=enc) HX.out hn
        rw [e4,HFK.out]
        unfold kdB wid
        simp [hn]
     have hwd:1≤wid (kdB A x (q + 1))∧wid (kdB A x (q + 1))≤2:=by unfold wid;split <;> omega
     have hwa:IntKind.i64.wrap ((q:Int) + wid (kdB A x (q + 1)))=(q:Int) + wid (kdB A x (q + 1)):=by rw [IntKind.wrap_i64];omega
     have hwq:IntKind.i64.wrap ((q:Int) + 1)=((q + 1:Nat):Int):=by rw [IntKind.wrap_i64];omega
     have hw1:=zh hwd.1
     generalize kdB A x (q + 1)=kd at *
     generalize wid kd=wk at *
     clear hwd
     go_upto_region 6 with (go_at_call 67;refine AT.out.mono ?_;rintro e w1 ⟨rfl,hr,hk⟩;obtain ⟨s2,hs2,hr2⟩:=hr.out;have HR:=zh hr2;have HS2:=zh hs2;have HK:=zh (HI.out.2.trans hk (fun _ _ e=>e));clear hr hk hr2 hs2;(try dsimp only))
     have KD':=zh (KD.out w1 s2 HK.out HR.out HS2.out)
     by_cases h10:x=10
     ·subst h10
      go_upto_region 8 with (go_at_call 68;refine KD'.out.mono ?_;rintro e w2 ⟨rfl,hr,hk⟩;obtain ⟨s3,hs3,hr3⟩:=hr.out;have HR3:=zh hr3;have HS3:=zh hs3;have HK3:=zh (HK.out.trans hk (fun _ _ e=>e));clear hr hk hr3 hs3;(try dsimp only))
      obtain ⟨_,c0,c1,c2,c3,fz⟩:=cells4 (CL.out _ HK3.out)
      go_wp2_with (go_at_call 42;refine (WD.out _).mono ?_;rintro e w3 ⟨rfl,hw3⟩;rw [hw3];clear hw3;(try dsimp only))
      exact bodyPost_ret (v:=.agg #[.int .i64 (f:Nat),.int .i64 (q:Nat),.int .i64 ((q:Int) + wk),.int .i64 kd]) (by simp [results,Tryz.results44,go_sem,c0,c1,c2,c3]) rfl ⟨by rw [HE.out],⟨s3,by rw [HE.out];have:=HS3.out;have:=hw1.out;show (s3:Int)≤(q:Int) + wk;omega,(FIN.out _ _ _ _ _ _ HK3.out HR3.out).1⟩,(FIN.out _ _ _ _ _ _ HK3.out HR3.out).2⟩
     ·have hxb:(x == 10)=false:=by simp [h10]
      obtain rfl:x=13:=by omega
      go_upto_region 8 with (go_at_call 68;refine KD'.out.mono ?_;rintro e w2 ⟨rfl,hr,hk⟩;obtain ⟨s3,hs3,hr3⟩:=hr.out;have HR3:=zh hr3;have HS3:=zh hs3;have HK3:=zh (HK.out.trans hk (fun _ _ e=>e));clear hr hk hr3 hs3;(try dsimp only))
      obtain ⟨_,c0,c1,c2,c3,fz⟩:=cells4 (CL.out _ HK3.out)
      go_wp2_with (go_at_call 42;refine (WD.out _).mono ?_;rintro e w3 ⟨rfl,hw3⟩;rw [hw3];clear hw3;(try dsimp only))
      exact bodyPost_ret (v:=.agg #[.int .i64 (f:Nat),.int .i64 (q:Nat),.int .i64 ((q:Int) + wk),.int .i64 kd]) (by simp [results,Tryz.results44,go_sem,c0,c1,c2,c3]) rfl ⟨by rw [HE.out],⟨s3,by rw [HE.out];have:=HS3.out;have:=hw1.out;show (s3:Int)≤(q:Int) + wk;omega,(FIN.out _ _ _ _ _ _ HK3.out HR3.out).1⟩,(FIN.out _ _ _ _ _ _ HK3.out HR3.out).2⟩
    ·have h10:¬ x=10:=fun e=>hbr (.inl e)
     have h13:¬ x=13:=fun e=>hbr (.inr e)
     have hb10:(x == 10)=false:=by simp [h10]
     have hb13:(x == 13)=false:=by simp [h13]
     have HQ':Hid (bAt enc A (q + 1)=k∧(A[q + 1]?=some 10→q + 1=0∨A[q + 1 - 1]?≠some 13)):=⟨by rw [ln_no (enc:=enc) HX.out h10 h13];exact HQ.out.1,fun _=>.inr (by rw [show q + 1 - 1=q by omega,HX.out];intro e;exact h13 (Option.some.inj e))⟩
     have HGK:=zh hqg
     clear hqg
     go_wp2_with (go_at_call 67;refine AT.out.mono ?_;rintro e w1 ⟨rfl,hr,hk⟩;obtain ⟨s2,hs2,hr2⟩:=hr.out;have HR:=zh hr2;have HS2:=zh hs2;have HK:=zh (HI.out.2.trans hk (fun _ _ e=>e));clear hr hk hr2 hs2;(try dsimp only))
     go_roundg (A.length - (q + 1))
     case rel=>exact ⟨q + 1,s2,by omega,by omega,by omega,by go_num,by have:=HS2.out;omega,HQ'.out,HR.out,HK.out⟩
     case measure=>have:=HGK.out;omega
end Go.Proofs.YtgfdfajblidleaaGreat.P
