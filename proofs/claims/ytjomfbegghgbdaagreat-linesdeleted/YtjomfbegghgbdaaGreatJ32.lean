import Derived.Test.YtjomfbegghgbdaaGreatJ00
import Derived.Test.YtjomfbegghgbdaaGreatJ30
import Derived.Test.YtjomfbegghgbdaaGreatJ29
namespace Go.Proofs.YtjomfbegghgbdaaGreat.P
open Go.RowKit
theorem cells3x {w:World} {b:Nat} {T:TypeId} {v0 v1 v2:Value} (h:w.heap[b]?=some (.cells #[v0,v1,v2] T (0,0))):b < w.heap.size∧w.cell? ⟨b,0,none⟩=some v0∧w.cell? ⟨b,1,none⟩=some v1∧w.cell? ⟨b,2,none⟩=some v2∧(∀ i,w.frozen? ⟨b,i,none⟩=false):=by
 refine ⟨(Array.getElem?_eq_some_iff.1 h).1,?_,?_,?_,fun i=>by simp [World.frozen?,h]⟩ <;> (rw [cell_of_row _ _ _ _ _ _ h];rfl)
theorem ownI_ge {w:World} {base:Nat} {v:Value} {zs:List Int} (h:OwnI w base v zs) {g:Nat} (hg:v.ownBlock=some g):base≤g:=by
 rcases h.2 with ⟨rfl,_⟩ | ⟨g',cap,cur,rfl,h0,hc,_⟩
 ·cases hg
 ·cases hg
  exact h0
structure Rdr (enc:Int) (A:List Int) (w:World) (r t s:Nat) (H:Nat→Prop):Prop where
 ex:∃ v hand,w.heap[r]?=some (.cells #[.pointer (some ⟨t,0,none⟩),.int .i64 (s:Nat),v] 115 (0,0))∧OwnI w 0 v hand∧hand=(A.drop s).take hand.length∧∀ g,v.ownBlock=some g→H g
 tz:Tz enc w t A
theorem Rdr.typ {enc:Int} {A:List Int} {w:World} {r t s:Nat} {H:Nat→Prop} (h:Rdr enc A w r t s H):Typ 115 w r:=by obtain ⟨_,_,h1,_⟩:=h.ex;exact ⟨_,h1⟩
theorem Rdr.ext {enc:Int} {A:List Int} {w w':World} {r t s:Nat} {H:Nat→Prop} (h:Rdr enc A w r t s H) (hb:Below w.heap.size w w'):Rdr enc A w' r t s H:=by
 obtain ⟨v,hand,h1,h2,h3⟩:=h.ex
 exact ⟨⟨v,hand,(hb.block r (Array.getElem?_eq_some_iff.1 h1).1).trans h1,h2.ext hb,h3⟩,h.tz.ext hb⟩
theorem sub_512 (A:List Int) (p:Nat):sub A p ((p:Int) + 512)=(A.drop p).take 512:=by
 unfold sub clp
 by_cases h:p < A.length
 ·rw [if_neg (by omega)]
  simp only
  rw [show (max (p:Int) 0).toNat=p by omega,show (min ((p:Int) + 512) (A.length:Int)).toNat - p=min 512 (A.length - p) by omega]
  rw [← List.length_drop,List.take_eq_take_min (i:=512)]
 ·rw [if_pos (by omega),List.drop_eq_nil_of_le (show A.length≤p by omega)]
  simp
def aV (A:List Int) (p:Nat):Int:=(A[p]?).getD 0
def aB (A:List Int) (p:Nat):Bool:=(A[p]?).isSome
set_option maxRecDepth 100000 in
set_option maxHeartbeats 8000000 in
theorem atom_any (enc:Int) (A:List Int) (w:World) (r t s p:Nat) {H:Nat→Prop} (hH:∀ k,w.heap.size≤k→H k) (h:Rdr enc A w r t s H) (hs:s≤p) (hp:p≤1000000):Calls Tryz.prog 99 #[.pointer (some ⟨r,0,none⟩),.int .i64 (p:Nat)] w fun e w'=>e=.returned (.tuple #[.int .i64 (aV A p),.bool (aB A p)])∧Hid (∃ s',s'≤p∧Rdr enc A w' r t s' H)∧Kps (fun k=>k=r) w w':=by
 obtain ⟨v,hand,hg,ho,hh,_⟩:=h.ex
 have HHH:=hidIt hH
 clear hH
 obtain ⟨ah,ch,hv⟩:=ho.form
 have hlh:hand.length≤A.length:=by rw [hh,List.length_take,List.length_drop];omega
 have hlA:=h.tz.len
 obtain ⟨n,hn⟩:∃ n,n=hand.length:=⟨_,rfl⟩
 rw [← hn] at hv
 subst hv
 have HG:=hidIt hg
 have HO:=hidIt ho
 have HH:=hidIt hh
 have HT:=hidIt h
 have HN:=hidIt hn
 obtain ⟨_,c0,c1,c2,fz⟩:=cells3x hg
 have hrt:r≠t:=fun e=>by subst e;exact absurd (Typ.uniq h.typ h.tz.typ) (by decide)
 have hn9:n≤65536:=by omega
 have hwn:IntKind.i64.wrap ((s:Int) + (n:Int))=((s + n:Nat):Int):=by rw [IntKind.wrap_i64];omega
 clear hg ho hh h hlh hn
 by_cases hin:p < s + n
 ·have h3:=congrArg (fun l=>l[p - s]?) HH.out
  simp only [List.getElem?_take,List.getElem?_drop] at h3
  rw [if_pos (show p - s < hand.length by rw [← HN.out];omega),show s + (p - s)=p by omega] at h3
  obtain ⟨x,hxh⟩:∃ x,hand[p - s]?=some x:=⟨_,List.getElem?_eq_getElem (by rw [← HN.out];omega)⟩
  have hx:A[p]?=some x:=by rw [← h3];exact hxh
  have HR:=hidIt (show aV A p=x∧aB A p=true from ⟨by unfold aV;rw [hx];rfl,by unfold aB;rw [hx];rfl⟩)
  obtain ⟨b,o,hbo,hbl,cx,_⟩:=rd_at HO.out.rdi (p - s) (List.getElem?_eq_some_iff.1 hxh).1
  rw [hxh,Option.getD_some] at cx
  subst hbo
  have hlt:¬ (((s + n:Nat):Int)≤(p:Int)):=by omega
  have hlt':¬ (s + n≤p):=by omega
  have hnz:¬ ((n:Int)=0):=by omega
  have hnz':¬ (n=0):=by omega
  have hnb:((n:Int) == 0)=false:=by simp;omega
  have hws:IntKind.i64.wrap ((p:Int) - (s:Int))=((p - s:Nat):Int):=by rw [IntKind.wrap_i64];omega
  have hps:p - s < n:=by omega
  clear hx hxh hin h3
  go_enter Tryz.func99,Tryz.ntmps99
  go_upto_region 1 with fail
  refine wp_region_held_drew (S:=fun w''=>w''.cell? ⟨r,1,none⟩=some (.int .i64 (s:Nat))∧w''.cell? ⟨r,2,none⟩=some (.slice (some ⟨b,o,none⟩) n ch)∧w''.cell? ⟨b,o + (p - s),none⟩=some (.int .i64 x)) (by kernel_rfl) (⟨c1,c2,cx⟩) (fun hHeld=>?_)
  refine tkH 0 rfl ?_
  try simp only [Act.put,tS]
  refine tkH 1 rfl ?_
  try simp only [Act.put,tS]
  refine tkH 2 rfl ?_
  try simp only [Act.put,tS]
  refine tkH 3 rfl ?_
  try simp only [Act.put,tS]
  refine tkH 4 rfl ?_
  try simp only [Act.put,tS]
  refine tkH 5 rfl ?_
  try simp only [Act.put,tS]
  refine tkH 6 rfl ?_
  try simp only [Act.put,tS]
  refine tkH 7 rfl ?_
  try simp only [Act.put,tS]
  refine tkH 8 rfl ?_
  try simp only [Act.put,tS]
  refine tkH 9 rfl ?_
  try simp only [Act.put,tS]
  refine tkH 10 rfl ?_
  try simp only [Act.put,tS]
  refine tkH 11 rfl ?_
  try simp only [Act.put,tS]
  refine wpAnyH_done (by kernel_rfl) ?_ _
  clear c1 c2 cx
  obtain ⟨c1,c2,cx⟩:=hHeld
  go_upto_region 5 with fail
  refine wp_region_held_drew (S:=fun w''=>w''.cell? ⟨r,1,none⟩=some (.int .i64 (s:Nat))∧w''.cell? ⟨r,2,none⟩=some (.slice (some ⟨b,o,none⟩) n ch)∧w''.cell? ⟨b,o + (p - s),none⟩=some (.int .i64 x)) (by kernel_rfl) (⟨c1,c2,cx⟩) (fun hHeld=>?_)
  refine tkH 0 rfl ?_
  try simp only [Act.put,tS]
  refine tkH 1 rfl ?_
  try simp only [Act.put,tS]
  refine tkH 2 rfl ?_
  try simp only [Act.put,tS]
  refine tkH 3 rfl ?_
  try simp only [Act.put,tS]
  refine tkH 4 rfl ?_
  try simp only [Act.put,tS]
  refine tkH 5 rfl ?_
  try simp only [Act.put,tS]
  refine tkH 6 rfl ?_
  try simp only [Act.put,tS]
  refine tkH 7 rfl ?_
  try simp only [Act.put,tS]
  refine tkH 8 rfl ?_
  try simp only [Act.put,tS]
  refine tkH 9 rfl ?_
  try simp only [Act.put,tS]
  refine tkH 10 rfl ?_
  try simp only [Act.put,tS]
  refine tkH 11 rfl ?_
  try simp only [Act.put,tS]
  refine tkH 12 rfl ?_
  try simp only [Act.put,tS]
  refine tkH 13 rfl ?_
  try simp only [Act.put,tS]
  refine wpAnyH_done (by kernel_rfl) ?_ _
  go_wp2_with fail
  go_ret2
  exact ⟨by rw [HR.out.1,HR.out.2];rfl,⟨s,hs,by first | exact HT.out | exact HT.out.ext (Below.refl _ _).drew | exact HT.out.ext ((Below.refl _ _).drew).drew⟩,by first | exact Kps.refl _ _ | exact Kps.of_below _ (Below.refl _ _).drew | exact Kps.of_below _ ((Below.refl _ _).drew).drew⟩
 ·have hge:((s + n:Nat):Int)≤(p:Int):=by omega
  have hge':s + n≤p:=by omega
  have hw5:IntKind.i64.wrap ((p:Int) + 512)=(p:Int) + 512:=by rw [IntKind.wrap_i64];omega
  have AT:Hid (∀ w',Below w.heap.size w w'→Calls Tryz.prog 32 #[.pointer (some ⟨t,0,none⟩),.int .i64 (p:Nat),.int .i64 ((p:Int) + 512)] w' fun e w''=>AtR ((A.drop p).take 512) w' e w''):=fun w' hb=>by
   have:=Atoms_z enc w' t A (p:Nat) ((p:Int) + 512) (HT.out.tz.ext hb)
   rwa [sub_512] at this
  go_enter Tryz.func99,Tryz.ntmps99
  go_upto_region 1 with fail
  refine wp_region_held_drew (S:=fun w''=>w''.cell? ⟨r,0,none⟩=some (.pointer (some ⟨t,0,none⟩))∧w''.cell? ⟨r,1,none⟩=some (.int .i64 (s:Nat))∧w''.cell? ⟨r,2,none⟩=some (.slice ah n ch)) (by kernel_rfl) (⟨c0,c1,c2⟩) (fun hHeld=>?_)
  refine tkH 0 rfl ?_
  try simp only [Act.put,tS]
  refine tkH 1 rfl ?_
  try simp only [Act.put,tS]
  refine tkH 2 rfl ?_
  try simp only [Act.put,tS]
  refine tkH 3 rfl ?_
  try simp only [Act.put,tS]
  refine tkH 4 rfl ?_
  try simp only [Act.put,tS]
  refine tkH 5 rfl ?_
  try simp only [Act.put,tS]
  refine tkH 6 rfl ?_
  try simp only [Act.put,tS]
  refine tkH 7 rfl ?_
  try simp only [Act.put,tS]
  refine tkH 8 rfl ?_
  try simp only [Act.put,tS]
  refine tkH 9 rfl ?_
  try simp only [Act.put,tS]
  refine tkH 10 rfl ?_
  try simp only [Act.put,tS]
  refine tkH 11 rfl ?_
  try simp only [Act.put,tS]
  refine wpAnyH_done (by kernel_rfl) ?_ _
  clear c0 c1 c2
  obtain ⟨c0,c1,c2⟩:=hHeld
  have hHeld:=c0
  go_upto_region 3 with (go_at_call 32;refine (AT.out _ (Below.drew (Below.refl _ _))).mono ?_;rintro e w2 ⟨v2,rfl,ho2,hb⟩;have HB2:=hidIt (ext_trans (Below.drew (Below.refl w.heap.size w)) hb);obtain ⟨a2,k2,hv2⟩:=ho2.form;generalize hn2:((A.drop p).take 512).length=n2 at hv2;have HN2:=hidIt hn2;clear hn2;subst hv2;have HO2:=hidIt ho2;clear ho2 hb c0 c1 c2 fz hHeld;have HG2:=hidIt ((HB2.out.block r (Array.getElem?_eq_some_iff.1 HG.out).1).trans HG.out);obtain ⟨_,c0,c1,c2,fz⟩:=cells3x HG2.out;(try dsimp only))
  generalize hwF:World.setCell (World.setCell w2 _ _) _ _=wF
  have HF:Hid (wF.heap[r]?=some (.cells #[.pointer (some ⟨t,0,none⟩),.int .i64 (p:Nat),.slice a2 n2 k2] 115 (0,0))∧Kps (fun k=>k=r) w2 wF):=by
   unfold Hid
   rw [← hwF]
   obtain ⟨h1,g1⟩:=set1 HG2.out 1 (.int .i64 (p:Nat))
   obtain ⟨h2,g2⟩:=set1 h1 2 (.slice a2 n2 k2)
   exact ⟨h2,Kps.grown (grown_trans g1 g2) fun j e _=>by cases e;rfl⟩
  have HTY:Hid (Typ 115 w2 r):=⟨_,HG2.out⟩
  have HOF:Hid (OwnI wF 0 (.slice a2 n2 k2) ((A.drop p).take 512)):=((HO2.out.le (Nat.zero_le _)).oth HF.out.2 HTY.out (by decide))
  have HRF:Hid (Rdr enc A wF r t p H):=⟨⟨_,_,HF.out.1,HOF.out,by rw [List.length_take,List.take_eq_take_min],fun g hg=>HHH.out g (ownI_ge HO2.out hg)⟩,(HT.out.tz.ext HB2.out).other HF.out.2 HTY.out (by decide) (by decide) hrt⟩
  have HKF:Hid (Kps (fun k=>k=r) w wF):=(Kps.of_below _ HB2.out).trans HF.out.2 (fun _ _ e=>e)
  obtain ⟨_,f0,f1,f2,_⟩:=cells3x HF.out.1
  clear hwF c0 c1 c2 fz
  cases hx:A[p]? with
  | none =>
    have hn0:n2=0:=by rw [← HN2.out,List.length_take,List.length_drop];have:=List.getElem?_eq_none_iff.1 hx;omega
    have HR:=hidIt (show aV A p=0∧aB A p=false from ⟨by unfold aV;rw [hx];rfl,by unfold aB;rw [hx];rfl⟩)
    subst hn0
    clear hx
    go_wp2_with fail
    go_ret2
    exact ⟨by rw [HR.out.1,HR.out.2];rfl,⟨p,Nat.le_refl _,HRF.out⟩,HKF.out⟩
  | some x =>
    have hpl:=(List.getElem?_eq_some_iff.1 hx).1
    have hn0:0 < n2:=by rw [← HN2.out,List.length_take,List.length_drop];omega
    have hh:((A.drop p).take 512)[0]?=some x:=by rw [List.getElem?_take,if_pos (by omega),List.getElem?_drop,Nat.add_zero];exact hx
    have HR:=hidIt (show aV A p=x∧aB A p=true from ⟨by unfold aV;rw [hx];rfl,by unfold aB;rw [hx];rfl⟩)
    obtain ⟨b,o,hbo,hbl,cx,_⟩:=rd_at HOF.out.rdi 0 (List.getElem?_eq_some_iff.1 hh).1
    rw [hh,Option.getD_some,Nat.add_zero] at cx
    subst hbo
    have hnz:¬ ((n2:Int)=0):=by omega
    have hnz':¬ (n2=0):=by omega
    have hnb:((n2:Int) == 0)=false:=by simp;omega
    have hws:IntKind.i64.wrap 0=0:=by rw [IntKind.wrap_i64];omega
    clear hx hh
    go_upto_region 5 with fail
    refine wp_region_held_drew (S:=fun w''=>w''.cell? ⟨r,1,none⟩=some (.int .i64 (p:Nat))∧w''.cell? ⟨r,2,none⟩=some (.slice (some ⟨b,o,none⟩) n2 k2)∧w''.cell? ⟨b,o,none⟩=some (.int .i64 x)) (by kernel_rfl) (⟨f1,f2,cx⟩) (fun hHeld=>?_)
    refine tkH 0 rfl ?_
    try simp only [Act.put,tS]
    refine tkH 1 rfl ?_
    try simp only [Act.put,tS]
    refine tkH 2 rfl ?_
    try simp only [Act.put,tS]
    refine tkH 3 rfl ?_
    try simp only [Act.put,tS]
    refine tkH 4 rfl ?_
    try simp only [Act.put,tS]
    refine tkH 5 rfl ?_
    try simp only [Act.put,tS]
    refine tkH 6 rfl ?_
    try simp only [Act.put,tS]
    refine tkH 7 rfl ?_
    try simp only [Act.put,tS]
    refine tkH 8 rfl ?_
    try simp only [Act.put,tS]
    refine tkH 9 rfl ?_
    try simp only [Act.put,tS]
    refine tkH 10 rfl ?_
    try simp only [Act.put,tS]
    refine tkH 11 rfl ?_
    try simp only [Act.put,tS]
    refine tkH 12 rfl ?_
    try simp only [Act.put,tS]
    refine tkH 13 rfl ?_
    try simp only [Act.put,tS]
    refine wpAnyH_done (by kernel_rfl) ?_ _
    go_wp2_with fail
    go_ret2
    exact ⟨by rw [HR.out.1,HR.out.2];rfl,⟨p,Nat.le_refl _,HRF.out.ext (Below.refl _ _).drew⟩,HKF.out.trans (Kps.of_below (fun _=>False) (Below.refl _ _).drew) (fun _ _ e=>e.elim)⟩
end Go.Proofs.YtjomfbegghgbdaaGreat.P

namespace Go.Proofs.YtjomfbegghgbdaaGreat.P
open Go.RowKit
def kdB (A:List Int) (x:Int) (q:Nat):Int:=if x=10 then 1 else if A[q]?=some 10 then 2 else 3
theorem aB_iff (A:List Int) (q:Nat):(aB A q=true∧aV A q=10) ↔ A[q]?=some 10:=by
 unfold aB aV
 cases A[q]? <;> simp
set_option maxRecDepth 100000 in
theorem rkind_any (enc:Int) (A:List Int) (w:World) (r t s q:Nat) (x:Int) {H:Nat→Prop} (hH:∀ k,w.heap.size≤k→H k) (h:Rdr enc A w r t s H) (hs:s≤q) (hq:q≤1000000):Calls Tryz.prog 100 #[.pointer (some ⟨r,0,none⟩),.int .i64 x,.int .i64 (q:Nat)] w fun e w'=>e=.returned (.int .i64 (kdB A x q))∧Hid (∃ s',s'≤q∧Rdr enc A w' r t s' H)∧Kps (fun k=>k=r) w w':=by
 have AT:=hidIt (atom_any enc A w r t s q hH h hs hq)
 by_cases hx:x=10
 ·have HE:=hidIt (show kdB A x q=1 by unfold kdB;rw [if_pos hx])
  have HH:=hidIt h
  subst hx
  clear h
  go_enter Tryz.func100,Tryz.ntmps100
  go_wp2_with fail
  go_ret
  exact ⟨by rw [HE.out];rfl,⟨s,hs,HH.out⟩,Kps.refl _ _⟩
 ·have hxb:(x == 10)=false:=by simp [hx]
  have hi:=aB_iff A q
  by_cases h10:A[q]?=some 10
  ·have HE:=hidIt (show kdB A x q=2 by unfold kdB;rw [if_neg hx,if_pos h10])
   obtain ⟨b1,b2⟩:=hi.2 h10
   rw [b1,b2] at AT
   clear h hi b1 b2 h10
   go_enter Tryz.func100,Tryz.ntmps100
   go_wp2_with (go_at_call 99;refine AT.out.mono ?_;rintro e w1 ⟨rfl,hr,hk⟩;have HR:=hidIt hr.out;have HK:=hidIt hk;clear hr hk;(try dsimp only))
   go_ret
   exact ⟨by rw [HE.out];rfl,HR.out,HK.out⟩
  ·have HE:=hidIt (show kdB A x q=3 by unfold kdB;rw [if_neg hx,if_neg h10])
   cases hB:aB A q with
   | true =>
     have hv:¬ aV A q=10:=fun e=>h10 (hi.1 ⟨hB,e⟩)
     have hvb:(aV A q == 10)=false:=by simp [hv]
     rw [hB] at AT
     clear h hi hB h10
     generalize aV A q=y at *
     go_enter Tryz.func100,Tryz.ntmps100
     go_wp2_with (go_at_call 99;refine AT.out.mono ?_;rintro e w1 ⟨rfl,hr,hk⟩;have HR:=hidIt hr.out;have HK:=hidIt hk;clear hr hk;(try dsimp only))
     go_ret
     exact ⟨by rw [HE.out];rfl,HR.out,HK.out⟩
   | false =>
     rw [hB] at AT
     clear h hi hB h10
     generalize aV A q=y at *
     go_enter Tryz.func100,Tryz.ntmps100
     go_wp2_with (go_at_call 99;refine AT.out.mono ?_;rintro e w1 ⟨rfl,hr,hk⟩;have HR:=hidIt hr.out;have HK:=hidIt hk;clear hr hk;(try dsimp only))
     go_ret
     exact ⟨by rw [HE.out];rfl,HR.out,HK.out⟩
theorem ln_start (enc:Int) (A:List Int) (k:Int) (p:Nat) (h0:0≤k) (hk:k≤(spn enc A).b) (hp:skA enc A k=p):bAt enc A p=k∧(A[p]?=some 10→p=0∨A[p - 1]?≠some 13)∧p≤A.length:=by
 by_cases h:k=0
 ·subst h
  rw [skA_zero] at hp
  obtain rfl:p=0:=by omega
  exact ⟨bAt_zero enc A,fun _=>.inl rfl,Nat.zero_le _⟩
 ·obtain ⟨q,e,h1,h2,h3,h4⟩:=skA_at enc A k (by omega) hk
  obtain rfl:p=q:=by omega
  refine ⟨h3,fun e=>.inr (fun e2=>?_),h2⟩
  have h5:=bAt_succ enc A (p - 1) (by omega)
  rw [show p - 1 + 1=p by omega] at h5
  have:isE A (p - 1)=false:=by
   unfold isE
   rw [e2,show p - 1 + 1=p by omega,e]
   simp
  rw [this] at h5
  simp at h5
  omega
set_option maxRecDepth 100000 in
set_option maxHeartbeats 8000000 in
theorem rline_any (enc:Int) (A:List Int) (w:World) (r t s f:Nat) (k:Int) {H:Nat→Prop} (hH:∀ k,w.heap.size≤k→H k) (h:Rdr enc A w r t s H) (hs:s≤f) (h0:0≤k) (hk:k≤(spn enc A).b) (hf:skA enc A k=f) :
  Calls Tryz.prog 68 #[.pointer (some ⟨r,0,none⟩),.int .i64 (f:Nat)] w fun e w'=>e=.returned (.agg #[.int .i64 (lnK enc A k).f,.int .i64 (lnK enc A k).t,.int .i64 (lnK enc A k).n,.int .i64 (lnK enc A k).b])∧Hid (∃ s':Nat,(s':Int)≤(lnK enc A k).n∧Rdr enc A w' r t s' H)∧Kps (fun j=>j=r) w w':=by
 obtain ⟨w0,hw0,kk0,hb0⟩:∃ w0,w0=w.alloc (.cells #[.int .i64 0,.int .i64 0,.int .i64 0,.int .i64 0] 50)∧w0.heap[w.heap.size]?=some (.cells #[.int .i64 0,.int .i64 0,.int .i64 0,.int .i64 0] 50 (0,0))∧Below w.heap.size w w0:=⟨_,rfl,heap_alloc_new _ _,ext_alloc (Below.refl _ _) _⟩
 have hlA:=h.tz.len
 obtain ⟨st1,st2,st3⟩:=ln_start enc A k f h0 hk hf
 have HB0:=hidIt hb0
 have HK0:=hidIt kk0
 have hrl:r < w.heap.size:=h.typ.lt
 have HI0:Hid (Rdr enc A w0 r t s H∧Kps (fun j=>j=r) w0 w0):=⟨h.ext hb0,Kps.refl _ _⟩
 have HHH:Hid (∀ w',Kps (fun j=>j=r) w0 w'→∀ k,w'.heap.size≤k→H k):=fun w' hk k hl=>hH k (Nat.le_trans hb0.size (Nat.le_trans hk.size hl))
 clear hH
 have CL:Hid (∀ w1,Kps (fun j=>j=r) w0 w1→w1.heap[w.heap.size]?=some (.cells #[.int .i64 0,.int .i64 0,.int .i64 0,.int .i64 0] 50 (0,0))):=fun w1 hk=>(hk.same _ (Array.getElem?_eq_some_iff.1 HK0.out).1 (by omega)).trans HK0.out
 have FIN:Hid (∀ w1 v0 v1 v2 v3 s',Kps (fun j=>j=r) w0 w1→Rdr enc A w1 r t s' H→Rdr enc A ((((w1.setCell ⟨w.heap.size,0,none⟩ v0).setCell ⟨w.heap.size,1,none⟩ v1).setCell ⟨w.heap.size,2,none⟩ v2).setCell ⟨w.heap.size,3,none⟩ v3) r t s' H∧Kps (fun j=>j=r) w ((((w1.setCell ⟨w.heap.size,0,none⟩ v0).setCell ⟨w.heap.size,1,none⟩ v1).setCell ⟨w.heap.size,2,none⟩ v2).setCell ⟨w.heap.size,3,none⟩ v3)):=by
  intro w1 v0 v1 v2 v3 s' hk hr
  have hg:=CL.out w1 hk
  obtain ⟨q1,g1⟩:=set1 hg 0 v0
  obtain ⟨q2,g2⟩:=set1 q1 1 v1
  obtain ⟨q3,g3⟩:=set1 q2 2 v2
  obtain ⟨q4,g4⟩:=set1 q3 3 v3
  have g:=grown_trans (grown_trans (grown_trans g1 g2) g3) g4
  have hkk:Kps (fun j=>j=w.heap.size) w1 ((((w1.setCell ⟨w.heap.size,0,none⟩ v0).setCell ⟨w.heap.size,1,none⟩ v1).setCell ⟨w.heap.size,2,none⟩ v2).setCell ⟨w.heap.size,3,none⟩ v3):=Kps.grown g fun j e _=>by cases e;rfl
  have hty:Typ 50 w1 w.heap.size:=⟨_,hg⟩
  obtain ⟨v,hand,k1,k2,k3⟩:=hr.ex
  refine ⟨⟨⟨v,hand,(hkk.same r (Array.getElem?_eq_some_iff.1 k1).1 (by omega)).trans k1,k2.oth hkk hty (by decide),k3⟩,hr.tz.other hkk hty (by decide) (by decide) (fun e=>?_)⟩,?_⟩
  ·rw [e] at hty
   exact absurd (Typ.uniq hty hr.tz.typ) (by decide)
  ·exact ((Kps.of_below (fun j=>j=r) HB0.out).trans hk (fun _ _ e=>e)).trans hkk (fun i hi e=>by omega)
 clear hb0 kk0
 have HL0:Hid (bAt enc A f=k∧(A[f]?=some 10→f=0∨A[f - 1]?≠some 13)):=⟨st1,st2⟩
 have HFK:=hidIt hf
 have HKB:=hidIt hk
 have HKN:=hidIt h0
 clear h hk h0 hf st1 st2
 go_enter Tryz.func68,Tryz.ntmps68
 go_upto_region 1 with fail
 rw [← hw0]
 clear hw0
 go_wp2_with fail
 go_loopg [5] (A.length - f) (fun gk p wr=>∃ (q s':Nat),q + gk=A.length∧f≤q∧q≤A.length∧p=.int .i64 (q:Nat)∧s'≤q∧Hid (bAt enc A q=k∧(A[q]?=some 10→q=0∨A[q - 1]?≠some 13))∧Hid (Rdr enc A wr r t s' H∧Kps (fun j=>j=r) w0 wr))
 case atStart=>exact ⟨f,s,by omega,Nat.le_refl _,st3,rfl,hs,HL0.out,HI0.out⟩
 case round =>
  obtain ⟨q,s',hqg,hfq,hqA,rfl,hsq,HQ,HI⟩:=hrel
  have AT:=hidIt (atom_any enc A wr r t s' q (HHH.out _ HI.out.2) HI.out.1 hsq (by omega))
  cases hx:A[q]? with
  | none =>
    have hql:q=A.length:=by have:=List.getElem?_eq_none_iff.1 hx;omega
    have e1:aV A q=0∧aB A q=false:=⟨by unfold aV;rw [hx];rfl,by unfold aB;rw [hx];rfl⟩
    rw [e1.1,e1.2] at AT
    have HE:Hid (lnK enc A k=⟨(f:Nat),(q:Nat),(q:Nat),0⟩):=by
     have:=HQ.out.1
     rw [hql,bAt_len enc A _ (Nat.le_refl _)] at this
     unfold Hid lnK
     rw [if_pos this.symm,HFK.out,hql]
    clear e1 hx hql
    go_wp2_with (go_at_call 99;refine AT.out.mono ?_;rintro e w1 ⟨rfl,hr,hk⟩;obtain ⟨s2,hs2,hr2⟩:=hr.out;have HR:=hidIt hr2;have HS2:=hidIt hs2;have HK:=hidIt (HI.out.2.trans hk (fun _ _ e=>e));clear hr hk hr2 hs2;obtain ⟨_,c0,c1,c2,c3,fz⟩:=cells4 (CL.out _ HK.out);(try dsimp only))
    exact bodyPost_ret (v:=.agg #[.int .i64 (f:Nat),.int .i64 (q:Nat),.int .i64 (q:Nat),.int .i64 0]) (by simp [results,Tryz.results68,go_sem,c0,c1,c2,c3]) rfl ⟨by rw [HE.out],⟨s2,by rw [HE.out];have:=HS2.out;show (s2:Int)≤(q:Int);omega,(FIN.out _ _ _ _ _ _ HK.out HR.out).1⟩,(FIN.out _ _ _ _ _ _ HK.out HR.out).2⟩
  | some x =>
    have hql:=(List.getElem?_eq_some_iff.1 hx).1
    have e1:aV A q=x∧aB A q=true:=⟨by unfold aV;rw [hx];rfl,by unfold aB;rw [hx];rfl⟩
    rw [e1.1,e1.2] at AT
    have HX:=hidIt hx
    clear e1 hx
    by_cases hbr:x=10∨x=13
    ·have KD:Hid (∀ w' s2,Kps (fun j=>j=r) w0 w'→Rdr enc A w' r t s2 H→s2≤q→Calls Tryz.prog 100 #[.pointer (some ⟨r,0,none⟩),.int .i64 x,.int .i64 ((q + 1:Nat):Int)] w' fun e w''=>e=.returned (.int .i64 (kdB A x (q + 1)))∧Hid (∃ s',s'≤q + 1∧Rdr enc A w'' r t s' H)∧Kps (fun j=>j=r) w' w''):=fun w' s2 hk hr h2=>rkind_any enc A w' r t s2 (q + 1) x (HHH.out _ hk) hr (by omega) (by omega)
     have WD:Hid (∀ w',Calls Tryz.prog 63 #[.int .i64 (kdB A x (q + 1))] w' fun e w''=>e=.returned (.int .i64 (wid (kdB A x (q + 1))))∧w''=w'):=fun w'=>width_any _ w'
     have HE:Hid (lnK enc A k=⟨(f:Nat),(q:Nat),(q:Int) + wid (kdB A x (q + 1)),kdB A x (q + 1)⟩):=by
      unfold Hid
      rw [← HQ.out.1] at HFK ⊢
      rcases hbr with rfl | rfl
      ·obtain ⟨_,_,_,e4⟩:=ln_lf (enc:=enc) HX.out (HQ.out.2 HX.out)
       rw [e4,HFK.out]
       unfold kdB wid
       simp
      ·by_cases hn:A[q + 1]?=some 10
       ·obtain ⟨_,_,_,e4⟩:=ln_crlf (enc:=enc) HX.out hn
        rw [e4,HFK.out]
        unfold kdB wid
        simp [hn]
       ·obtain ⟨_,_,_,e4⟩:=ln_cr (enc:=enc) HX.out hn
        rw [e4,HFK.out]
        unfold kdB wid
        simp [hn]
     have hwd:1≤wid (kdB A x (q + 1))∧wid (kdB A x (q + 1))≤2:=by unfold wid;split <;> omega
     have hwa:IntKind.i64.wrap ((q:Int) + wid (kdB A x (q + 1)))=(q:Int) + wid (kdB A x (q + 1)):=by rw [IntKind.wrap_i64];omega
     have hwq:IntKind.i64.wrap ((q:Int) + 1)=((q + 1:Nat):Int):=by rw [IntKind.wrap_i64];omega
     have hw1:=hidIt hwd.1
     generalize kdB A x (q + 1)=kd at *
     generalize wid kd=wk at *
     clear hwd
     go_upto_region 6 with (go_at_call 99;refine AT.out.mono ?_;rintro e w1 ⟨rfl,hr,hk⟩;obtain ⟨s2,hs2,hr2⟩:=hr.out;have HR:=hidIt hr2;have HS2:=hidIt hs2;have HK:=hidIt (HI.out.2.trans hk (fun _ _ e=>e));clear hr hk hr2 hs2;(try dsimp only))
     have KD':=hidIt (KD.out w1 s2 HK.out HR.out HS2.out)
     by_cases h10:x=10
     ·subst h10
      go_upto_region 8 with (go_at_call 100;refine KD'.out.mono ?_;rintro e w2 ⟨rfl,hr,hk⟩;obtain ⟨s3,hs3,hr3⟩:=hr.out;have HR3:=hidIt hr3;have HS3:=hidIt hs3;have HK3:=hidIt (HK.out.trans hk (fun _ _ e=>e));clear hr hk hr3 hs3;(try dsimp only))
      obtain ⟨_,c0,c1,c2,c3,fz⟩:=cells4 (CL.out _ HK3.out)
      go_wp2_with (go_at_call 63;refine (WD.out _).mono ?_;rintro e w3 ⟨rfl,hw3⟩;rw [hw3];clear hw3;(try dsimp only))
      exact bodyPost_ret (v:=.agg #[.int .i64 (f:Nat),.int .i64 (q:Nat),.int .i64 ((q:Int) + wk),.int .i64 kd]) (by simp [results,Tryz.results68,go_sem,c0,c1,c2,c3]) rfl ⟨by rw [HE.out],⟨s3,by rw [HE.out];have:=HS3.out;have:=hw1.out;show (s3:Int)≤(q:Int) + wk;omega,(FIN.out _ _ _ _ _ _ HK3.out HR3.out).1⟩,(FIN.out _ _ _ _ _ _ HK3.out HR3.out).2⟩
     ·have hxb:(x == 10)=false:=by simp [h10]
      obtain rfl:x=13:=by omega
      go_upto_region 8 with (go_at_call 100;refine KD'.out.mono ?_;rintro e w2 ⟨rfl,hr,hk⟩;obtain ⟨s3,hs3,hr3⟩:=hr.out;have HR3:=hidIt hr3;have HS3:=hidIt hs3;have HK3:=hidIt (HK.out.trans hk (fun _ _ e=>e));clear hr hk hr3 hs3;(try dsimp only))
      obtain ⟨_,c0,c1,c2,c3,fz⟩:=cells4 (CL.out _ HK3.out)
      go_wp2_with (go_at_call 63;refine (WD.out _).mono ?_;rintro e w3 ⟨rfl,hw3⟩;rw [hw3];clear hw3;(try dsimp only))
      exact bodyPost_ret (v:=.agg #[.int .i64 (f:Nat),.int .i64 (q:Nat),.int .i64 ((q:Int) + wk),.int .i64 kd]) (by simp [results,Tryz.results68,go_sem,c0,c1,c2,c3]) rfl ⟨by rw [HE.out],⟨s3,by rw [HE.out];have:=HS3.out;have:=hw1.out;show (s3:Int)≤(q:Int) + wk;omega,(FIN.out _ _ _ _ _ _ HK3.out HR3.out).1⟩,(FIN.out _ _ _ _ _ _ HK3.out HR3.out).2⟩
    ·have h10:¬ x=10:=fun e=>hbr (.inl e)
     have h13:¬ x=13:=fun e=>hbr (.inr e)
     have hb10:(x == 10)=false:=by simp [h10]
     have hb13:(x == 13)=false:=by simp [h13]
     have HQ':Hid (bAt enc A (q + 1)=k∧(A[q + 1]?=some 10→q + 1=0∨A[q + 1 - 1]?≠some 13)):=⟨by rw [ln_no (enc:=enc) HX.out h10 h13];exact HQ.out.1,fun _=>.inr (by rw [show q + 1 - 1=q by omega,HX.out];intro e;exact h13 (Option.some.inj e))⟩
     have HGK:=hidIt hqg
     clear hqg
     go_wp2_with (go_at_call 99;refine AT.out.mono ?_;rintro e w1 ⟨rfl,hr,hk⟩;obtain ⟨s2,hs2,hr2⟩:=hr.out;have HR:=hidIt hr2;have HS2:=hidIt hs2;have HK:=hidIt (HI.out.2.trans hk (fun _ _ e=>e));clear hr hk hr2 hs2;(try dsimp only))
     go_roundg (A.length - (q + 1))
     case rel=>exact ⟨q + 1,s2,by omega,by omega,by omega,by go_num,by have:=HS2.out;omega,HQ'.out,HR.out,HK.out⟩
     case measure=>have:=HGK.out;omega
end Go.Proofs.YtjomfbegghgbdaaGreat.P

namespace Go.Proofs.YtjomfbegghgbdaaGreat.P
open Go.RowKit Go.Shelf
attribute [local go_sem] Oper.semAt_some
def lnV (l:Ln):Value:=.agg #[.int .i64 l.f,.int .i64 l.t,.int .i64 l.n,.int .i64 l.b]
def alF (enc:Int) (A:List Int) (m:Nat):List (Nat × Ln):=(List.range m).map fun k=>(k,lnK enc A (k:Nat))
def al (enc:Int) (A:List Int):List (Nat × Ln):=alF enc A (cnt enc A).toNat
theorem alF_succ (enc:Int) (A:List Int) (m:Nat):alF enc A (m + 1)=alF enc A m ++ [(m,lnK enc A (m:Nat))]:=by simp [alF,List.range_succ]
theorem alF_pre (enc:Int) (A:List Int) (m n:Nat) (h:m≤n):alF enc A m <+: alF enc A n:=by
 obtain ⟨d,rfl⟩:=Nat.exists_eq_add_of_le h
 induction d with
 | zero=>exact List.prefix_refl _
 | succ d ih=>rw [← Nat.add_assoc,alF_succ];exact (ih (by omega)).trans (List.prefix_append _ _)
def tlG (b:Int) (l:Ln):Bool:=decide (0 < b∧l.t=l.f∧l.n=l.f∧l.b=0)
theorem knd_pos (A:List Int) (e:Nat):1≤knd A e∧knd A e≤3:=by unfold knd;split;omega;split <;> omega
theorem ln_mid (enc:Int) (A:List Int) (k:Nat) (hk:(k:Int) < (spn enc A).b):1≤(lnK enc A k).b∧(lnK enc A k).b≤3∧(lnK enc A k).n=skA enc A ((k:Int) + 1)∧tlG k (lnK enc A k)=false∧(k:Int) < cnt enc A:=by
 have h1:=knd_pos A (skA enc A ((k:Int) + 1)).toNat
 have e:lnK enc A k=⟨skA enc A k,skA enc A (k + 1) - wid (knd A (skA enc A (k + 1)).toNat),skA enc A (k + 1),knd A (skA enc A (k + 1)).toNat⟩:=by unfold lnK;rw [if_neg (by omega)]
 rw [e]
 refine ⟨h1.1,h1.2,rfl,?_,?_⟩
 ·unfold tlG
  simp only [decide_eq_false_iff_not]
  rintro ⟨_,_,_,h⟩
  omega
 ·unfold cnt;split <;> omega
theorem ln_last (enc:Int) (A:List Int) (k:Nat) (hk:(k:Int)=(spn enc A).b):(lnK enc A k).b=0∧((tlG k (lnK enc A k)=true∧cnt enc A=k)∨(tlG k (lnK enc A k)=false∧cnt enc A=(k:Int) + 1)):=by
 have e:lnK enc A k=⟨skA enc A k,A.length,A.length,0⟩:=by unfold lnK;rw [if_pos hk]
 have hc:=cnt_tail enc A
 rw [← hk] at hc
 rw [e]
 refine ⟨rfl,?_⟩
 by_cases h:0 < (k:Int)∧skA enc A k=A.length
 ·left
  rw [if_pos h] at hc
  refine ⟨?_,hc⟩
  unfold tlG
  simp only [decide_eq_true_eq]
  exact ⟨h.1,h.2.symm,h.2.symm,trivial⟩
 ·right
  rw [if_neg h] at hc
  refine ⟨?_,hc⟩
  unfold tlG
  simp only [decide_eq_false_iff_not]
  rintro ⟨h1,h2,_,_⟩
  exact h ⟨h1,h2.symm⟩
set_option maxRecDepth 100000 in
theorem isTail_gen (b:Int) (l:Ln) (w:World):Calls Tryz.prog 54 #[.int .i64 b,lnV l] w fun e w'=>e=.returned (.bool (tlG b l))∧Below w.heap.size w w':=by
 obtain ⟨f,t,n,k⟩:=l
 unfold lnV
 have HE:=hidIt (show tlG b ⟨f,t,n,k⟩=decide (0 < b∧t=f∧n=f∧k=0) from rfl)
 generalize tlG b ⟨f,t,n,k⟩=ans at *
 simp only at HE ⊢
 by_cases h0:0 < b
 ·by_cases h1:t=f
  ·subst h1
   by_cases h2:n=t
   ·subst h2
    by_cases h3:k=0
    ·subst h3
     go_enter Tryz.func54,Tryz.ntmps54
     go_wp2_with fail
     go_ret
     exact ⟨ret_bool (by rw [HE.out];simp [h0]),ext_alloc (Below.refl _ _) _⟩
    ·have hb:(k == 0)=false:=by simp [h3]
     go_enter Tryz.func54,Tryz.ntmps54
     go_wp2_with fail
     go_ret
     exact ⟨ret_bool (by rw [HE.out];simp [h3]),ext_alloc (Below.refl _ _) _⟩
   ·have hb:(n == t)=false:=by simp [h2]
    go_enter Tryz.func54,Tryz.ntmps54
    go_wp2_with fail
    go_ret
    exact ⟨ret_bool (by rw [HE.out];simp [h2]),ext_alloc (Below.refl _ _) _⟩
  ·have hb:(t == f)=false:=by simp [h1]
   go_enter Tryz.func54,Tryz.ntmps54
   go_wp2_with fail
   go_ret
   exact ⟨ret_bool (by rw [HE.out];simp [h1]),ext_alloc (Below.refl _ _) _⟩
 ·go_enter Tryz.func54,Tryz.ntmps54
  go_wp2_with fail
  go_ret
  exact ⟨ret_bool (by rw [HE.out];simp;omega),ext_alloc (Below.refl _ _) _⟩
theorem All_any (t:Nat) (w:World):Calls Tryz.prog 38 #[.pointer (some ⟨t,0,none⟩)] w fun e w'=>e=.returned (.func (.func 67) #[] #[.pointer (some ⟨w.heap.size,0,none⟩)])∧w'=w.alloc (.cells #[.pointer (some ⟨t,0,none⟩)] 26):=by
 go_enter Tryz.func38,Tryz.ntmps38
 go_wp2_with fail
 go_ret
 exact ⟨rfl,rfl⟩
theorem ownI_same {w w':World} {base:Nat} {v:Value} {zs:List Int} (h:OwnI w base v zs) (hs:∀ g,v.ownBlock=some g→w'.heap[g]?=w.heap[g]?):OwnI w' base v zs:=by
 refine ⟨h.1,?_⟩
 rcases h.2 with h2 | ⟨g,cap,cur,rfl,h0,hc,r⟩
 ·exact .inl h2
 ·exact .inr ⟨g,cap,cur,rfl,h0,(hs g rfl).trans hc,r⟩
theorem ownI_lt {w:World} {base:Nat} {v:Value} {zs:List Int} (h:OwnI w base v zs) {g:Nat} (hg:v.ownBlock=some g):g < w.heap.size:=by
 rcases h.2 with ⟨rfl,_⟩ | ⟨g',cap,cur,rfl,h0,hc,_⟩
 ·cases hg
 ·cases hg
  exact (Array.getElem?_eq_some_iff.1 hc).1
theorem Rdr.yielded {enc:Int} {A:List Int} {w w':World} {r t s:Nat} {own own':Nat→Prop} (h:Rdr enc A w r t s (fun g=>¬ own g)) (hr:¬ own r) (hk:Kps own w w') (hn:∀ k,own' k→own k∨w.heap.size≤k) (ht:Tz enc w' t A):Rdr enc A w' r t s (fun g=>¬ own' g):=by
 obtain ⟨v,hand,h1,h2,h3,h4⟩:=h.ex
 refine ⟨⟨v,hand,(hk.same r (Array.getElem?_eq_some_iff.1 h1).1 hr).trans h1,ownI_same h2 (fun g hg=>hk.same g (ownI_lt h2 hg) (h4 g hg)),h3,fun g hg e=>?_⟩,ht⟩
 rcases hn g e with e | e
 ·exact h4 g hg e
 ·have:=ownI_lt h2 hg
  omega
set_option maxRecDepth 100000 in
set_option maxHeartbeats 8000000 in
theorem all_stops (n:Nat) (enc:Int) (A:List Int) (t:Nat) (wT:World) (hT:Tz enc wT t A) (w:World) (hBT:Below wT.heap.size wT w) (ba:Nat) (la:ba < w.heap.size) (hA:w.heap[ba]?=some (.cells #[.pointer (some ⟨t,0,none⟩)] 26 (0,0))) :
  SeqX Fence.wide n Tryz.prog 67 #[.pointer (some ⟨ba,0,none⟩)] (fun p=>#[.int .i64 (p.1:Nat),lnV p.2]) (fun k=>k < wT.heap.size∨k=ba) (fun xs=>xs=al enc A) (fun pre=>pre <+: al enc A) w:=by
 intro l σ G s W hK hrel hlean hY h0
 have hbW:Below wT.heap.size wT W:=⟨hK.os.trans hBT.os,hK.tape.trans hBT.tape,hK.output.trans hBT.output,by have:=hK.size;have:=hBT.size;omega,fun k hk=>(hK.same k (Nat.lt_of_lt_of_le hk hBT.size) (fun e=>e (.inl hk))).trans (hBT.block k hk)⟩
 have hAW:W.heap[ba]?=some (.cells #[.pointer (some ⟨t,0,none⟩)] 26 (0,0)):=(hK.same ba la (fun e=>e (.inr rfl))).trans hA
 have hlW:ba < W.heap.size:=by have:=hK.size;omega
 have hno:∀ k,k < wT.heap.size∨k=ba→¬ G.own s k:=fun k hk=>(hrel k hk).2
 have HT:=hidIt hT
 have hB0:=spn_nn enc A
 have hlA:=hT.len
 have hBl:=spn_len enc A
 -- the text,as long as only the caller's blocks turn
 have HKP:Hid (∀ W',Kps (G.own s) W W'→Tz enc W' t A):=fun W' k=>HT.out.ext ⟨k.os.trans hbW.os,k.tape.trans hbW.tape,k.output.trans hbW.output,Nat.le_trans hbW.size k.size,fun i hi=>(k.same i (Nat.lt_of_lt_of_le hi hbW.size) (hno i (.inl hi))).trans (hbW.block i hi)⟩
 have HYY:=hidIt hY
 have HLN:=hidIt hlean
 have HG:=hidIt h0
 have cb:W.cell? ⟨ba,0,none⟩=some (.pointer (some ⟨t,0,none⟩)):=by rw [cell_of_row W _ _ _ _ _ hAW];rfl
 have hrw:¬ G.own s W.heap.size:=fun e=>by have:=G.lives s [] W h0 _ e;omega
 obtain ⟨W1,hW1,hr1,hb1⟩:∃ W1,W.alloc (.cells #[.pointer (some ⟨t,0,none⟩),.int .i64 0,.slice none 0 0] 115)=W1∧W1.heap[W.heap.size]?=some (.cells #[.pointer (some ⟨t,0,none⟩),.int .i64 ((0:Nat):Int),.slice none 0 0] 115 (0,0))∧Below W.heap.size W W1:=⟨_,rfl,heap_alloc_new _ _,ext_alloc (Below.refl _ _) _⟩
 have HR1:Hid (Rdr enc A W1 W.heap.size t 0 (fun g=>¬ G.own s g)):=⟨⟨_,[],hr1,⟨rfl,.inl ⟨rfl,rfl⟩⟩,by simp,fun g hg=>by cases hg⟩,HKP.out W1 (Kps.of_below _ hb1)⟩
 have HJ1:Hid (G.J s [] W1∧Kps (G.own s) W W1∧Newer G.own s s W):=⟨G.stay s [] W W1 h0 hb1.size (fun k hk=>hb1.block k (hk.elim (fun h=>G.lives s [] W h0 k h) (fun h=>HLN.out k h))),Kps.of_below _ hb1,fun k h=>.inl h⟩
 have hrl:W.heap.size < W1.heap.size:=(Array.getElem?_eq_some_iff.1 hr1).1
 have HW1:=hidIt hW1
 clear hW1
 clear hK hrel hlean hY hA hBT hT hbW hAW hlW hno h0 hr1 hb1
 refine (callsIn_wide (n:=n)).2 ?_
 refine (callsIn_wide (n:=9)).1 ?_
 refine callsIn_of_wp Tryz.func67 rfl trivial ?_ rfl
 simp only [Tryz.ntmps67,List.size_toArray,List.length_cons,List.length_nil,Nat.reduceAdd,Nat.reduceSub,Array.replicate_succ,Array.replicate_zero,List.push_toArray,List.append_toArray,List.nil_append,List.cons_append]
 gi_wp2_with fail
 gi_loopw [4,5] (fun a b wr=>∃ (k f s':Nat) (s1:σ),a=.int .i64 (k:Nat)∧b=.int .i64 (f:Nat)∧(k:Int)≤(spn enc A).b∧Hid (skA enc A (k:Nat)=(f:Nat)∧s'≤f)∧Hid (Rdr enc A wr W.heap.size t s' (fun g=>¬ G.own s1 g)∧¬ G.own s1 W.heap.size)∧Hid (G.J s1 (alF enc A k) wr∧Kps (G.own s) W wr∧Newer G.own s s1 W)) (fun a _ _=>((spn enc A).b + 1).toNat - (intOf a).toNat)
 case atStart=>exact ⟨0,0,0,s,rfl,rfl,hB0,⟨skA_zero enc A,Nat.le_refl _⟩,⟨by rw [HW1.out];exact HR1.out,hrw⟩,by rw [HW1.out];exact HJ1.out⟩
 case round =>
  clear HR1 HJ1 hrw HG HW1 hrl W1 cb
  obtain ⟨k,f,s',s1,rfl,rfl,hkB,HF,HR,HJ⟩:=hrel
  have hfl:f≤65536:=by have:=skA_in enc A k (by omega) hkB;have:=HF.out.1;omega
  have HOW:Hid (∀ j,wr.heap.size≤j→¬ G.own s1 j):=fun j hj e=>by have:=G.lives s1 _ wr HJ.out.1 j e;omega
  have RL:=hidIt (rline_any enc A wr W.heap.size t s' f k HOW.out HR.out.1 HF.out.2 (by omega) hkB HF.out.1)
  have hrw:W.heap.size < wr.heap.size:=HR.out.1.typ.lt
  obtain ⟨L,hL⟩:∃ L,lnK enc A (k:Nat)=L:=⟨_,rfl⟩
  rw [hL] at RL
  have HL:=hidIt hL
  clear hL
  gi_wp2_with fail
  refine ⟨trivial,?_⟩
  refine (callsIn_wide.2 RL.out).mono ?_
  rintro e w1 ⟨rfl,hr1,hk1⟩
  obtain ⟨s2,hs2,hR1⟩:=hr1.out
  have HR1:=hidIt hR1
  have HS2:=hidIt hs2
  have HK1:=hidIt hk1
  have hz1:=hk1.size
  have HJ1:Hid (G.J s1 (alF enc A k) w1):=G.stay s1 _ wr w1 HJ.out.1 hk1.size (fun j hj=>by
   rcases hj with hj | hj
   ·exact HK1.out.same j (G.lives s1 _ wr HJ.out.1 j hj) (fun e=>HR.out.2 (e ▸ hj))
   ·have:=HLN.out j hj
    exact HK1.out.same j (by omega) (by omega))
  clear RL hr1 hR1 hs2 hk1
  gi_wp2_with fail
  generalize hw2:World.alloc _ _=w2
  obtain ⟨b1,hbx⟩:Below w1.heap.size w1 w2∧w2.heap[w1.heap.size]?=some (.cells #[.int .i64 L.f,.int .i64 L.t,.int .i64 L.n,.int .i64 L.b] 50 (0,0)):=by rw [← hw2];exact ⟨ext_alloc (Below.refl _ _) _,heap_alloc_new _ _⟩
  have HB1:=hidIt b1
  have HBX:=hidIt hbx
  have IT:=hidIt (isTail_gen k L w2)
  have hzx:=(Array.getElem?_eq_some_iff.1 hbx).1
  unfold lnV at IT
  clear hw2 b1 hbx
  refine ⟨trivial,?_⟩
  refine (callsIn_wide.2 IT.out).mono ?_
  rintro e w3 ⟨rfl,hb3⟩
  have HB3:=hidIt (ext_trans HB1.out hb3)
  have HBX3:=hidIt ((hb3.block _ hzx).trans HBX.out)
  obtain ⟨_,x0,x1,x2,x3,_⟩:=cells4 HBX3.out
  have HJ3:Hid (G.J s1 (alF enc A k) w3):=G.stay s1 _ w1 w3 HJ1.out HB3.out.size (fun j hj=>HB3.out.block j (hj.elim (fun h=>G.lives s1 _ w1 HJ1.out j h) (fun h=>by have:=HLN.out j h;omega)))
  have HR3:=hidIt (HR1.out.ext HB3.out)
  have hz3:=HB3.out.size
  have HKW3:Hid (Kps (G.own s) W w3):=(HJ.out.2.1.trans HK1.out (fun i hi e=>by omega)).trans (Kps.of_below (fun j=>False) HB3.out) (fun _ _ e=>e.elim)
  clear IT HBX hb3 HB1 HJ1 HR1
  have HM:Hid ((k:Int) < (spn enc A).b→1≤L.b∧L.n=skA enc A ((k:Int) + 1)):=fun h=>by have:=ln_mid enc A k h;rw [HL.out] at this;exact ⟨this.1,this.2.2.1⟩
  have HLT:Hid ((k:Int)=(spn enc A).b→L.b=0∧(tlG k L=true→cnt enc A=k)∧(tlG k L=false→cnt enc A=(k:Int) + 1)):=fun h=>by
   have:=ln_last enc A k h
   rw [HL.out] at this
   refine ⟨this.1,fun e=>?_,fun e=>?_⟩
   ·rcases this.2 with h | h
    ·exact h.2
    ·rw [e] at h;cases h.1
   ·rcases this.2 with h | h
    ·rw [e] at h;cases h.1
    ·exact h.2
  have HMT:Hid ((k:Int) < (spn enc A).b→tlG k L=false∧(k:Int) < cnt enc A):=fun h=>by have:=ln_mid enc A k h;rw [HL.out] at this;exact ⟨this.2.2.2.1,this.2.2.2.2⟩
  cases htl:tlG k L with
  | true =>
    have hkk:(k:Int)=(spn enc A).b:=by
     rcases Int.lt_or_eq_of_le hkB with h | h
     ·have:=(HMT.out h).1;rw [htl] at this;cases this
     ·exact h
    have HFI:Hid (alF enc A k=al enc A):=by unfold Hid al;rw [(HLT.out hkk).2.1 htl];rfl
    clear HM HLT HMT htl hkk
    gi_wp2_with fail
    refine ⟨fun f h=>(by cases h),?_⟩
    gi_wp2_with fail
    refine bodyPost_ret (results_none rfl _ _ _) rfl ?_
    exact ⟨⟨_,rfl⟩,s1,HKW3.out,HJ.out.2.2,.inl ⟨_,HFI.out,HJ3.out⟩⟩
  | false =>
    have hkc:(k:Int) < cnt enc A:=by
     rcases Int.lt_or_eq_of_le hkB with h | h
     ·exact (HMT.out h).2
     ·have:=(HLT.out h).2.2 htl;omega
    have HPR:Hid (alF enc A k ++ [(k,L)] <+: al enc A):=by unfold Hid al;rw [← HL.out,← alF_succ];exact alF_pre enc A _ _ (by omega)
    have HFN:Hid (L.b=0→alF enc A k ++ [(k,L)]=al enc A):=fun h0=>by
     have hkk:(k:Int)=(spn enc A).b:=by
      rcases Int.lt_or_eq_of_le hkB with h | h
      ·have:=(HM.out h).1;omega
      ·exact h
     unfold al
     rw [← HL.out,← alF_succ,(HLT.out hkk).2.2 htl]
     rfl
    have HNX:Hid (L.b≠0→((k + 1:Nat):Int)≤(spn enc A).b∧∃ f':Nat,L.n=(f':Nat)∧skA enc A ((k + 1:Nat):Int)=(f':Nat)∧s2≤f'):=fun h0=>by
     have hkk:(k:Int) < (spn enc A).b:=by
      rcases Int.lt_or_eq_of_le hkB with h | h
      ·exact h
      ·exact absurd (HLT.out h).1 h0
     have h1:=(HM.out hkk).2
     have h2:=skA_in enc A ((k:Int) + 1) (by omega) (by omega)
     have h3:=HS2.out
     refine ⟨by omega,L.n.toNat,by omega,by rw [show ((k + 1:Nat):Int)=(k:Int) + 1 by omega,← h1];omega,by omega⟩
    obtain ⟨fn,tmps,assign,body,hy,hR⟩:=yield_any 8 (HYY.out s1 (alF enc A k) (k,L) w3 HJ3.out HPR.out)
    have HRR:=hidIt hR
    clear hR HM HLT HMT
    unfold lnV at hy
    simp only at hy
    gi_wp2_with fail
    refine HRR.out.mono ?_
    clear hy HRR
    rintro e w4 (⟨rfl,s3,hJ4,k4,n4⟩ | ⟨rfl,s3,hx4,k4,n4⟩)
    ·have HBX4:=hidIt ((k4.same w1.heap.size (by omega) (HOW.out _ (by omega))).trans HBX3.out)
     obtain ⟨_,y0,y1,y2,y3,_⟩:=cells4 HBX4.out
     have HJ4:=hidIt hJ4
     have HK4:=hidIt (HKW3.out.next HJ.out.2.2 k4)
     have HN4:=hidIt (HJ.out.2.2.trans n4 (by have:=HJ.out.2.1.size;omega))
     have HR4:Hid (Rdr enc A w4 W.heap.size t s2 (fun g=>¬ G.own s3 g)∧¬ G.own s3 W.heap.size):=⟨HR3.out.yielded HR.out.2 k4 n4 (HKP.out w4 HK4.out),fun e=>by
      rcases n4 _ e with e | e
      ·exact HR.out.2 e
      ·omega⟩
     clear hJ4 k4 n4 x0 x1 x2 x3
     by_cases hb0:L.b=0
     ·rw [hb0] at y3
      have HE:=hidIt (HFN.out hb0)
      gi_wp2_with fail
      refine bodyPost_ret (results_none rfl _ _ _) rfl ?_
      exact ⟨⟨_,rfl⟩,s3,HK4.out,HN4.out,.inl ⟨_,HE.out,HJ4.out⟩⟩
     ·have hbb:(L.b == 0)=false:=by simp [hb0]
      obtain ⟨hk1,f',hf1,hf2,hf3⟩:=HNX.out hb0
      have HF2:=hidIt hf2
      rw [hf1] at y2
      clear hf1 hf2
      gi_wp2_with fail
      refine ⟨⟨k + 1,f',s2,s3,by rw [Int.natCast_add];rfl,rfl,hk1,⟨HF2.out,hf3⟩,HR4.out,?_,HK4.out,HN4.out⟩,by simp [intOf];omega⟩
      rw [alF_succ,HL.out]
      exact HJ4.out
    ·have HX4:=hidIt hx4
     have HK4:=hidIt (HKW3.out.next HJ.out.2.2 k4)
     have HN4:=hidIt (HJ.out.2.2.trans n4 (by have:=HJ.out.2.1.size;omega))
     clear hx4 k4 n4
     gi_wp2_with fail
     refine bodyPost_ret (results_none rfl _ _ _) rfl ?_
     exact ⟨⟨_,rfl⟩,s3,HK4.out,HN4.out,.inr ⟨_,HPR.out,HX4.out⟩⟩
end Go.Proofs.YtjomfbegghgbdaaGreat.P
