import Derived.Test.YtpfgoobmkkmidaaGreatJ00
import Derived.Test.YtpfgoobmkkmidaaGreatJ40
import Derived.Test.YtpfgoobmkkmidaaGreatJ41
import Derived.BigQuiet
namespace Go.Proofs.YtpfgoobmkkmidaaGreat.P
open Go.RowKit
def kdB (A:List Int) (x:Int) (q:Nat):Int:=if x=10 then 1 else if A[q]?=some 10 then 2 else 3
theorem aB_iff (A:List Int) (q:Nat):(aB A q=true∧aV A q=10) ↔ A[q]?=some 10:=by
 unfold aB aV
 cases A[q]? <;> simp
set_option maxRecDepth 100000 in
theorem rkind_any (enc:Int) (A:List Int) (w:World) (r t s q:Nat) (x:Int) {H:Nat→Prop} (hH:∀ k,w.heap.size≤k→H k) (h:Rdr enc A w r t s H) (hs:s≤q) (hq:q≤1000000):Calls Tryz.prog 100 #[.pointer (some ⟨r,0,none⟩),.int .i64 x,.int .i64 (q:Nat)] w fun e w'=>e=.returned (.int .i64 (kdB A x q))∧Hid (∃ s',s'≤q∧Rdr enc A w' r t s' H)∧Kps (fun k=>k=r) w w':=by
 have AT:=hidIt (atom_any enc A w r t s q hH h hs hq)
 by_cases hx:x=10
 ·have HE:=hidIt (show kdB A x q=1 by unfold kdB;rw [if_pos hx])
  have HH:=hidIt h
  subst hx
  clear h
  go_enter Tryz.func100,Tryz.ntmps100
  go_wp2_with fail
  go_ret
  exact ⟨by rw [HE.out];rfl,⟨s,hs,HH.out⟩,Kps.refl _ _⟩
 ·have hxb:(x == 10)=false:=by simp [hx]
  have hi:=aB_iff A q
  by_cases h10:A[q]?=some 10
  ·have HE:=hidIt (show kdB A x q=2 by unfold kdB;rw [if_neg hx,if_pos h10])
   obtain ⟨b1,b2⟩:=hi.2 h10
   rw [b1,b2] at AT
   clear h hi b1 b2 h10
   go_enter Tryz.func100,Tryz.ntmps100
   go_wp2_with (go_at_call 99;refine AT.out.mono ?_;rintro e w1 ⟨rfl,hr,hk⟩;have HR:=hidIt hr.out;have HK:=hidIt hk;clear hr hk;(try dsimp only))
   go_ret
   exact ⟨by rw [HE.out];rfl,HR.out,HK.out⟩
  ·have HE:=hidIt (show kdB A x q=3 by unfold kdB;rw [if_neg hx,if_neg h10])
   cases hB:aB A q with
   | true =>
     have hv:¬ aV A q=10:=fun e=>h10 (hi.1 ⟨hB,e⟩)
     have hvb:(aV A q == 10)=false:=by simp [hv]
     rw [hB] at AT
     clear h hi hB h10
     generalize aV A q=y at *
     go_enter Tryz.func100,Tryz.ntmps100
     go_wp2_with (go_at_call 99;refine AT.out.mono ?_;rintro e w1 ⟨rfl,hr,hk⟩;have HR:=hidIt hr.out;have HK:=hidIt hk;clear hr hk;(try dsimp only))
     go_ret
     exact ⟨by rw [HE.out];rfl,HR.out,HK.out⟩
   | false =>
     rw [hB] at AT
     clear h hi hB h10
     generalize aV A q=y at *
     go_enter Tryz.func100,Tryz.ntmps100
     go_wp2_with (go_at_call 99;refine AT.out.mono ?_;rintro e w1 ⟨rfl,hr,hk⟩;have HR:=hidIt hr.out;have HK:=hidIt hk;clear hr hk;(try dsimp only))
     go_ret
     exact ⟨by rw [HE.out];rfl,HR.out,HK.out⟩
theorem ln_start (enc:Int) (A:List Int) (k:Int) (p:Nat) (h0:0≤k) (hk:k≤(spn enc A).b) (hp:skA enc A k=p):bAt enc A p=k∧(A[p]?=some 10→p=0∨A[p - 1]?≠some 13)∧p≤A.length:=by
 by_cases h:k=0
 ·subst h
  rw [skA_zero] at hp
  obtain rfl:p=0:=by omega
  exact ⟨bAt_zero enc A,fun _=>.inl rfl,Nat.zero_le _⟩
 ·obtain ⟨q,e,h1,h2,h3,h4⟩:=skA_at enc A k (by omega) hk
  obtain rfl:p=q:=by omega
  refine ⟨h3,fun e=>.inr (fun e2=>?_),h2⟩
  have h5:=bAt_succ enc A (p - 1) (by omega)
  rw [show p - 1 + 1=p by omega] at h5
  have:isE A (p - 1)=false:=by
   unfold isE
   rw [e2,show p - 1 + 1=p by omega,e]
   simp
  rw [this] at h5
  simp at h5
  omega
set_option maxRecDepth 100000 in
set_option maxHeartbeats 8000000 in
theorem rline_any (enc:Int) (A:List Int) (w:World) (r t s f:Nat) (k:Int) {H:Nat→Prop} (hH:∀ k,w.heap.size≤k→H k) (h:Rdr enc A w r t s H) (hs:s≤f) (h0:0≤k) (hk:k≤(spn enc A).b) (hf:skA enc A k=f) :
  Calls Tryz.prog 68 #[.pointer (some ⟨r,0,none⟩),.int .i64 (f:Nat)] w fun e w'=>e=.returned (.agg #[.int .i64 (lnK enc A k).f,.int .i64 (lnK enc A k).t,.int .i64 (lnK enc A k).n,.int .i64 (lnK enc A k).b])∧Hid (∃ s':Nat,(s':Int)≤(lnK enc A k).n∧Rdr enc A w' r t s' H)∧Kps (fun j=>j=r) w w':=by
 obtain ⟨w0,hw0,kk0,hb0⟩:∃ w0,w0=w.alloc (.cells #[.int .i64 0,.int .i64 0,.int .i64 0,.int .i64 0] 50)∧w0.heap[w.heap.size]?=some (.cells #[.int .i64 0,.int .i64 0,.int .i64 0,.int .i64 0] 50 (0,0))∧Below w.heap.size w w0:=⟨_,rfl,heap_alloc_new _ _,ext_alloc (Below.refl _ _) _⟩
 have hlA:=h.tz.len
 obtain ⟨st1,st2,st3⟩:=ln_start enc A k f h0 hk hf
 have HB0:=hidIt hb0
 have HK0:=hidIt kk0
 have hrl:r < w.heap.size:=h.typ.lt
 have HI0:Hid (Rdr enc A w0 r t s H∧Kps (fun j=>j=r) w0 w0):=⟨h.ext hb0,Kps.refl _ _⟩
 have HHH:Hid (∀ w',Kps (fun j=>j=r) w0 w'→∀ k,w'.heap.size≤k→H k):=fun w' hk k hl=>hH k (Nat.le_trans hb0.size (Nat.le_trans hk.size hl))
 clear hH
 have CL:Hid (∀ w1,Kps (fun j=>j=r) w0 w1→w1.heap[w.heap.size]?=some (.cells #[.int .i64 0,.int .i64 0,.int .i64 0,.int .i64 0] 50 (0,0))):=fun w1 hk=>(hk.same _ (Array.getElem?_eq_some_iff.1 HK0.out).1 (by omega)).trans HK0.out
 have FIN:Hid (∀ w1 v0 v1 v2 v3 s',Kps (fun j=>j=r) w0 w1→Rdr enc A w1 r t s' H→Rdr enc A ((((w1.setCell ⟨w.heap.size,0,none⟩ v0).setCell ⟨w.heap.size,1,none⟩ v1).setCell ⟨w.heap.size,2,none⟩ v2).setCell ⟨w.heap.size,3,none⟩ v3) r t s' H∧Kps (fun j=>j=r) w ((((w1.setCell ⟨w.heap.size,0,none⟩ v0).setCell ⟨w.heap.size,1,none⟩ v1).setCell ⟨w.heap.size,2,none⟩ v2).setCell ⟨w.heap.size,3,none⟩ v3)):=by
  intro w1 v0 v1 v2 v3 s' hk hr
  have hg:=CL.out w1 hk
  obtain ⟨q1,g1⟩:=set1 hg 0 v0
  obtain ⟨q2,g2⟩:=set1 q1 1 v1
  obtain ⟨q3,g3⟩:=set1 q2 2 v2
  obtain ⟨q4,g4⟩:=set1 q3 3 v3
  have g:=grown_trans (grown_trans (grown_trans g1 g2) g3) g4
  have hkk:Kps (fun j=>j=w.heap.size) w1 ((((w1.setCell ⟨w.heap.size,0,none⟩ v0).setCell ⟨w.heap.size,1,none⟩ v1).setCell ⟨w.heap.size,2,none⟩ v2).setCell ⟨w.heap.size,3,none⟩ v3):=Kps.grown g fun j e _=>by cases e;rfl
  have hty:Typ 50 w1 w.heap.size:=⟨_,hg⟩
  obtain ⟨v,hand,k1,k2,k3⟩:=hr.ex
  refine ⟨⟨⟨v,hand,(hkk.same r (Array.getElem?_eq_some_iff.1 k1).1 (by omega)).trans k1,k2.oth hkk hty (by decide),k3⟩,hr.tz.other hkk hty (by decide) (by decide) (fun e=>?_)⟩,?_⟩
  ·rw [e] at hty
   exact absurd (Typ.uniq hty hr.tz.typ) (by decide)
  ·exact ((Kps.of_below (fun j=>j=r) HB0.out).trans hk (fun _ _ e=>e)).trans hkk (fun i hi e=>by omega)
 clear hb0 kk0
 have HL0:Hid (bAt enc A f=k∧(A[f]?=some 10→f=0∨A[f - 1]?≠some 13)):=⟨st1,st2⟩
 have HFK:=hidIt hf
 have HKB:=hidIt hk
 have HKN:=hidIt h0
 clear h hk h0 hf st1 st2
 go_enter Tryz.func68,Tryz.ntmps68
 go_upto_region 1 with fail
 rw [← hw0]
 clear hw0
 go_wp2_with fail
 go_loopg [5] (A.length - f) (fun gk p wr=>∃ (q s':Nat),q + gk=A.length∧f≤q∧q≤A.length∧p=.int .i64 (q:Nat)∧s'≤q∧Hid (bAt enc A q=k∧(A[q]?=some 10→q=0∨A[q - 1]?≠some 13))∧Hid (Rdr enc A wr r t s' H∧Kps (fun j=>j=r) w0 wr))
 case atStart=>exact ⟨f,s,by omega,Nat.le_refl _,st3,rfl,hs,HL0.out,HI0.out⟩
 case round =>
  obtain ⟨q,s',hqg,hfq,hqA,rfl,hsq,HQ,HI⟩:=hrel
  have AT:=hidIt (atom_any enc A wr r t s' q (HHH.out _ HI.out.2) HI.out.1 hsq (by omega))
  cases hx:A[q]? with
  | none =>
    have hql:q=A.length:=by have:=List.getElem?_eq_none_iff.1 hx;omega
    have e1:aV A q=0∧aB A q=false:=⟨by unfold aV;rw [hx];rfl,by unfold aB;rw [hx];rfl⟩
    rw [e1.1,e1.2] at AT
    have HE:Hid (lnK enc A k=⟨(f:Nat),(q:Nat),(q:Nat),0⟩):=by
     have:=HQ.out.1
     rw [hql,bAt_len enc A _ (Nat.le_refl _)] at this
     unfold Hid lnK
     rw [if_pos this.symm,HFK.out,hql]
    clear e1 hx hql
    go_wp2_with (go_at_call 99;refine AT.out.mono ?_;rintro e w1 ⟨rfl,hr,hk⟩;obtain ⟨s2,hs2,hr2⟩:=hr.out;have HR:=hidIt hr2;have HS2:=hidIt hs2;have HK:=hidIt (HI.out.2.trans hk (fun _ _ e=>e));clear hr hk hr2 hs2;obtain ⟨_,c0,c1,c2,c3,fz⟩:=cells4 (CL.out _ HK.out);(try dsimp only))
    exact bodyPost_ret (v:=.agg #[.int .i64 (f:Nat),.int .i64 (q:Nat),.int .i64 (q:Nat),.int .i64 0]) (by simp [results,Tryz.results68,go_sem,c0,c1,c2,c3]) rfl ⟨by rw [HE.out],⟨s2,by rw [HE.out];have:=HS2.out;show (s2:Int)≤(q:Int);omega,(FIN.out _ _ _ _ _ _ HK.out HR.out).1⟩,(FIN.out _ _ _ _ _ _ HK.out HR.out).2⟩
  | some x =>
    have hql:=(List.getElem?_eq_some_iff.1 hx).1
    have e1:aV A q=x∧aB A q=true:=⟨by unfold aV;rw [hx];rfl,by unfold aB;rw [hx];rfl⟩
    rw [e1.1,e1.2] at AT
    have HX:=hidIt hx
    clear e1 hx
    by_cases hbr:x=10∨x=13
    ·have KD:Hid (∀ w' s2,Kps (fun j=>j=r) w0 w'→Rdr enc A w' r t s2 H→s2≤q→Calls Tryz.prog 100 #[.pointer (some ⟨r,0,none⟩),.int .i64 x,.int .i64 ((q + 1:Nat):Int)] w' fun e w''=>e=.returned (.int .i64 (kdB A x (q + 1)))∧Hid (∃ s',s'≤q + 1∧Rdr enc A w'' r t s' H)∧Kps (fun j=>j=r) w' w''):=fun w' s2 hk hr h2=>rkind_any enc A w' r t s2 (q + 1) x (HHH.out _ hk) hr (by omega) (by omega)
     have WD:Hid (∀ w',Calls Tryz.prog 63 #[.int .i64 (kdB A x (q + 1))] w' fun e w''=>e=.returned (.int .i64 (wid (kdB A x (q + 1))))∧w''=w'):=fun w'=>width_any _ w'
     have HE:Hid (lnK enc A k=⟨(f:Nat),(q:Nat),(q:Int) + wid (kdB A x (q + 1)),kdB A x (q + 1)⟩):=by
      unfold Hid
      rw [← HQ.out.1] at HFK ⊢
      rcases hbr with rfl | rfl
      ·obtain ⟨_,_,_,e4⟩:=ln_lf (enc:=enc) HX.out (HQ.out.2 HX.out)
       rw [e4,HFK.out]
       unfold kdB wid
       simp
      ·by_cases hn:A[q + 1]?=some 10
       ·obtain ⟨_,_,_,e4⟩:=ln_crlf (enc:=enc) HX.out hn
        rw [e4,HFK.out]
        unfold kdB wid
        simp [hn]
       ·obtain ⟨_,_,_,e4⟩:=ln_cr (enc:=enc) HX.out hn
        rw [e4,HFK.out]
        unfold kdB wid
        simp [hn]
     have hwd:1≤wid (kdB A x (q + 1))∧wid (kdB A x (q + 1))≤2:=by unfold wid;split <;> omega
     have hwa:IntKind.i64.wrap ((q:Int) + wid (kdB A x (q + 1)))=(q:Int) + wid (kdB A x (q + 1)):=by rw [IntKind.wrap_i64];omega
     have hwq:IntKind.i64.wrap ((q:Int) + 1)=((q + 1:Nat):Int):=by rw [IntKind.wrap_i64];omega
     have hw1:=hidIt hwd.1
     generalize kdB A x (q + 1)=kd at *
     generalize wid kd=wk at *
     clear hwd
     go_upto_region 6 with (go_at_call 99;refine AT.out.mono ?_;rintro e w1 ⟨rfl,hr,hk⟩;obtain ⟨s2,hs2,hr2⟩:=hr.out;have HR:=hidIt hr2;have HS2:=hidIt hs2;have HK:=hidIt (HI.out.2.trans hk (fun _ _ e=>e));clear hr hk hr2 hs2;(try dsimp only))
     have KD':=hidIt (KD.out w1 s2 HK.out HR.out HS2.out)
     by_cases h10:x=10
     ·subst h10
      go_upto_region 8 with (go_at_call 100;refine KD'.out.mono ?_;rintro e w2 ⟨rfl,hr,hk⟩;obtain ⟨s3,hs3,hr3⟩:=hr.out;have HR3:=hidIt hr3;have HS3:=hidIt hs3;have HK3:=hidIt (HK.out.trans hk (fun _ _ e=>e));clear hr hk hr3 hs3;(try dsimp only))
      obtain ⟨_,c0,c1,c2,c3,fz⟩:=cells4 (CL.out _ HK3.out)
      go_wp2_with (go_at_call 63;refine (WD.out _).mono ?_;rintro e w3 ⟨rfl,hw3⟩;rw [hw3];clear hw3;(try dsimp only))
      exact bodyPost_ret (v:=.agg #[.int .i64 (f:Nat),.int .i64 (q:Nat),.int .i64 ((q:Int) + wk),.int .i64 kd]) (by simp [results,Tryz.results68,go_sem,c0,c1,c2,c3]) rfl ⟨by rw [HE.out],⟨s3,by rw [HE.out];have:=HS3.out;have:=hw1.out;show (s3:Int)≤(q:Int) + wk;omega,(FIN.out _ _ _ _ _ _ HK3.out HR3.out).1⟩,(FIN.out _ _ _ _ _ _ HK3.out HR3.out).2⟩
     ·have hxb:(x == 10)=false:=by simp [h10]
      obtain rfl:x=13:=by omega
      go_upto_region 8 with (go_at_call 100;refine KD'.out.mono ?_;rintro e w2 ⟨rfl,hr,hk⟩;obtain ⟨s3,hs3,hr3⟩:=hr.out;have HR3:=hidIt hr3;have HS3:=hidIt hs3;have HK3:=hidIt (HK.out.trans hk (fun _ _ e=>e));clear hr hk hr3 hs3;(try dsimp only))
      obtain ⟨_,c0,c1,c2,c3,fz⟩:=cells4 (CL.out _ HK3.out)
      go_wp2_with (go_at_call 63;refine (WD.out _).mono ?_;rintro e w3 ⟨rfl,hw3⟩;rw [hw3];clear hw3;(try dsimp only))
      exact bodyPost_ret (v:=.agg #[.int .i64 (f:Nat),.int .i64 (q:Nat),.int .i64 ((q:Int) + wk),.int .i64 kd]) (by simp [results,Tryz.results68,go_sem,c0,c1,c2,c3]) rfl ⟨by rw [HE.out],⟨s3,by rw [HE.out];have:=HS3.out;have:=hw1.out;show (s3:Int)≤(q:Int) + wk;omega,(FIN.out _ _ _ _ _ _ HK3.out HR3.out).1⟩,(FIN.out _ _ _ _ _ _ HK3.out HR3.out).2⟩
    ·have h10:¬ x=10:=fun e=>hbr (.inl e)
     have h13:¬ x=13:=fun e=>hbr (.inr e)
     have hb10:(x == 10)=false:=by simp [h10]
     have hb13:(x == 13)=false:=by simp [h13]
     have HQ':Hid (bAt enc A (q + 1)=k∧(A[q + 1]?=some 10→q + 1=0∨A[q + 1 - 1]?≠some 13)):=⟨by rw [ln_no (enc:=enc) HX.out h10 h13];exact HQ.out.1,fun _=>.inr (by rw [show q + 1 - 1=q by omega,HX.out];intro e;exact h13 (Option.some.inj e))⟩
     have HGK:=hidIt hqg
     clear hqg
     go_wp2_with (go_at_call 99;refine AT.out.mono ?_;rintro e w1 ⟨rfl,hr,hk⟩;obtain ⟨s2,hs2,hr2⟩:=hr.out;have HR:=hidIt hr2;have HS2:=hidIt hs2;have HK:=hidIt (HI.out.2.trans hk (fun _ _ e=>e));clear hr hk hr2 hs2;(try dsimp only))
     go_roundg (A.length - (q + 1))
     case rel=>exact ⟨q + 1,s2,by omega,by omega,by omega,by go_num,by have:=HS2.out;omega,HQ'.out,HR.out,HK.out⟩
     case measure=>have:=HGK.out;omega
end Go.Proofs.YtpfgoobmkkmidaaGreat.P

namespace Go.Proofs.YtpfgoobmkkmidaaGreat.P
open Go.RowKit Go.Shelf
attribute [local go_sem] Oper.semAt_some
def lnV (l:Ln):Value:=.agg #[.int .i64 l.f,.int .i64 l.t,.int .i64 l.n,.int .i64 l.b]
def alF (enc:Int) (A:List Int) (m:Nat):List (Nat × Ln):=(List.range m).map fun k=>(k,lnK enc A (k:Nat))
def al (enc:Int) (A:List Int):List (Nat × Ln):=alF enc A (cnt enc A).toNat
def tlG (b:Int) (l:Ln):Bool:=decide (0 < b∧l.t=l.f∧l.n=l.f∧l.b=0)
theorem knd_pos (A:List Int) (e:Nat):1≤knd A e∧knd A e≤3:=by unfold knd;split;omega;split <;> omega
theorem ln_mid (enc:Int) (A:List Int) (k:Nat) (hk:(k:Int) < (spn enc A).b):1≤(lnK enc A k).b∧(lnK enc A k).b≤3∧(lnK enc A k).n=skA enc A ((k:Int) + 1)∧tlG k (lnK enc A k)=false∧(k:Int) < cnt enc A:=by
 have h1:=knd_pos A (skA enc A ((k:Int) + 1)).toNat
 have e:lnK enc A k=⟨skA enc A k,skA enc A (k + 1) - wid (knd A (skA enc A (k + 1)).toNat),skA enc A (k + 1),knd A (skA enc A (k + 1)).toNat⟩:=by unfold lnK;rw [if_neg (by omega)]
 rw [e]
 refine ⟨h1.1,h1.2,rfl,?_,?_⟩
 ·unfold tlG
  simp only [decide_eq_false_iff_not]
  rintro ⟨_,_,_,h⟩
  omega
 ·unfold cnt;split <;> omega
theorem ln_last (enc:Int) (A:List Int) (k:Nat) (hk:(k:Int)=(spn enc A).b):(lnK enc A k).b=0∧((tlG k (lnK enc A k)=true∧cnt enc A=k)∨(tlG k (lnK enc A k)=false∧cnt enc A=(k:Int) + 1)):=by
 have e:lnK enc A k=⟨skA enc A k,A.length,A.length,0⟩:=by unfold lnK;rw [if_pos hk]
 have hc:=cnt_tail enc A
 rw [← hk] at hc
 rw [e]
 refine ⟨rfl,?_⟩
 by_cases h:0 < (k:Int)∧skA enc A k=A.length
 ·left
  rw [if_pos h] at hc
  refine ⟨?_,hc⟩
  unfold tlG
  simp only [decide_eq_true_eq]
  exact ⟨h.1,h.2.symm,h.2.symm,trivial⟩
 ·right
  rw [if_neg h] at hc
  refine ⟨?_,hc⟩
  unfold tlG
  simp only [decide_eq_false_iff_not]
  rintro ⟨h1,h2,_,_⟩
  exact h ⟨h1,h2.symm⟩
set_option maxRecDepth 100000 in
theorem isTail_gen (b:Int) (l:Ln) (w:World):Calls Tryz.prog 54 #[.int .i64 b,lnV l] w fun e w'=>e=.returned (.bool (tlG b l))∧Below w.heap.size w w':=by
 obtain ⟨f,t,n,k⟩:=l
 unfold lnV
 have HE:=hidIt (show tlG b ⟨f,t,n,k⟩=decide (0 < b∧t=f∧n=f∧k=0) from rfl)
 generalize tlG b ⟨f,t,n,k⟩=ans at *
 simp only at HE ⊢
 by_cases h0:0 < b
 ·by_cases h1:t=f
  ·subst h1
   by_cases h2:n=t
   ·subst h2
    by_cases h3:k=0
    ·subst h3
     go_enter Tryz.func54,Tryz.ntmps54
     go_wp2_with fail
     go_ret
     exact ⟨ret_bool (by rw [HE.out];simp [h0]),ext_alloc (Below.refl _ _) _⟩
    ·have hb:(k == 0)=false:=by simp [h3]
     go_enter Tryz.func54,Tryz.ntmps54
     go_wp2_with fail
     go_ret
     exact ⟨ret_bool (by rw [HE.out];simp [h3]),ext_alloc (Below.refl _ _) _⟩
   ·have hb:(n == t)=false:=by simp [h2]
    go_enter Tryz.func54,Tryz.ntmps54
    go_wp2_with fail
    go_ret
    exact ⟨ret_bool (by rw [HE.out];simp [h2]),ext_alloc (Below.refl _ _) _⟩
  ·have hb:(t == f)=false:=by simp [h1]
   go_enter Tryz.func54,Tryz.ntmps54
   go_wp2_with fail
   go_ret
   exact ⟨ret_bool (by rw [HE.out];simp [h1]),ext_alloc (Below.refl _ _) _⟩
 ·go_enter Tryz.func54,Tryz.ntmps54
  go_wp2_with fail
  go_ret
  exact ⟨ret_bool (by rw [HE.out];simp;omega),ext_alloc (Below.refl _ _) _⟩
theorem All_any (t:Nat) (w:World):Calls Tryz.prog 38 #[.pointer (some ⟨t,0,none⟩)] w fun e w'=>e=.returned (.func (.func 67) #[] #[.pointer (some ⟨w.heap.size,0,none⟩)])∧w'=w.alloc (.cells #[.pointer (some ⟨t,0,none⟩)] 26):=by
 go_enter Tryz.func38,Tryz.ntmps38
 go_wp2_with fail
 go_ret
 exact ⟨rfl,rfl⟩
theorem ownI_same {w w':World} {base:Nat} {v:Value} {zs:List Int} (h:OwnI w base v zs) (hs:∀ g,v.ownBlock=some g→w'.heap[g]?=w.heap[g]?):OwnI w' base v zs:=by
 refine ⟨h.1,?_⟩
 rcases h.2 with h2 | ⟨g,cap,cur,rfl,h0,hc,r⟩
 ·exact .inl h2
 ·exact .inr ⟨g,cap,cur,rfl,h0,(hs g rfl).trans hc,r⟩
theorem ownI_lt {w:World} {base:Nat} {v:Value} {zs:List Int} (h:OwnI w base v zs) {g:Nat} (hg:v.ownBlock=some g):g < w.heap.size:=by
 rcases h.2 with ⟨rfl,_⟩ | ⟨g',cap,cur,rfl,h0,hc,_⟩
 ·cases hg
 ·cases hg
  exact (Array.getElem?_eq_some_iff.1 hc).1
theorem Rdr.yielded {enc:Int} {A:List Int} {w w':World} {r t s:Nat} {own own':Nat→Prop} (h:Rdr enc A w r t s (fun g=>¬ own g)) (hr:¬ own r) (hk:Kps own w w') (hn:∀ k,own' k→own k∨w.heap.size≤k) (ht:Tz enc w' t A):Rdr enc A w' r t s (fun g=>¬ own' g):=by
 obtain ⟨v,hand,h1,h2,h3,h4⟩:=h.ex
 refine ⟨⟨v,hand,(hk.same r (Array.getElem?_eq_some_iff.1 h1).1 hr).trans h1,ownI_same h2 (fun g hg=>hk.same g (ownI_lt h2 hg) (h4 g hg)),h3,fun g hg e=>?_⟩,ht⟩
 rcases hn g e with e | e
 ·exact h4 g hg e
 ·have:=ownI_lt h2 hg
  omega
end Go.Proofs.YtpfgoobmkkmidaaGreat.P

namespace Go.Proofs.YtpfgoobmkkmidaaGreat.P
open Go.RowKit
set_option maxRecDepth 100000 in
theorem line_any (x:Ln) (w:World):Calls Tryz.prog 47 #[.agg #[.int .i64 x.f,.int .i64 x.t,.int .i64 x.n,.int .i64 x.b],.agg #[.int .i64 x.f,.int .i64 x.t,.int .i64 x.n,.int .i64 x.b]] w fun e w'=>e=.returned (.bool true)∧Below w.heap.size w w':=by
 go_enter Tryz.func47,Tryz.ntmps47
 go_wp2_with fail
 go_ret
 exact ⟨rfl,ext_alloc (ext_alloc (Below.refl _ _) _) _⟩
end Go.Proofs.YtpfgoobmkkmidaaGreat.P

namespace Go.Proofs.YtpfgoobmkkmidaaGreat.P
open Go.RowKit
def Wk (w:World) (q gr m cap n k:Nat):Prop:=w.heap[q]?=some (.cells #[.slice (some ⟨gr,0,none⟩) m cap,.int .i64 (n:Nat),.int .i64 (-1),.int .i64 (k:Nat),.bool false,.bool false] 80 (0,0))
theorem Wk.cs {w:World} {q gr m cap n k:Nat} (h:Wk w q gr m cap n k):q < w.heap.size∧w.cell? ⟨q,0,none⟩=some (.slice (some ⟨gr,0,none⟩) m cap)∧w.cell? ⟨q,1,none⟩=some (.int .i64 (n:Nat))∧w.cell? ⟨q,2,none⟩=some (.int .i64 (-1))∧w.cell? ⟨q,3,none⟩=some (.int .i64 (k:Nat))∧w.cell? ⟨q,4,none⟩=some (.bool false)∧w.cell? ⟨q,5,none⟩=some (.bool false)∧∀ i,w.frozen? ⟨q,i,none⟩=false:=by
 unfold Wk at h
 refine ⟨(Array.getElem?_eq_some_iff.1 h).1,?_,?_,?_,?_,?_,?_,fun i=>by simp [World.frozen?,h]⟩ <;> simp [World.cell?,h]
theorem Wk.ext {w w':World} {q gr m cap n k:Nat} (h:Wk w q gr m cap n k) (hb:Below w.heap.size w w'):Wk w' q gr m cap n k:=(hb.block q h.cs.1).trans h
def Rw4 (w:World) (gr k:Nat) (L:Ln):Prop:=w.cell? ⟨gr,k * 4,none⟩=some (.int .i64 L.f)∧w.cell? ⟨gr,k * 4 + 1,none⟩=some (.int .i64 L.t)∧w.cell? ⟨gr,k * 4 + 2,none⟩=some (.int .i64 L.n)∧w.cell? ⟨gr,k * 4 + 3,none⟩=some (.int .i64 L.b)
theorem Rw4.same {w w':World} {gr k:Nat} {L:Ln} (h:Rw4 w gr k L) (e:w'.heap[gr]?=w.heap[gr]?):Rw4 w' gr k L:=by
 unfold Rw4 World.cell? at *
 simp only [e]
 exact h
theorem cellq_lt {w:World} {g o:Nat} {v:Value} (h:w.cell? ⟨g,o,none⟩=some v):g < w.heap.size:=by
 unfold World.cell? at h
 cases hh:w.heap[g]? with
 | none=>simp [hh] at h
 | some x=>exact (Array.getElem?_eq_some_iff.1 hh).1
theorem Rw4.lt {w:World} {gr k:Nat} {L:Ln} (h:Rw4 w gr k L):gr < w.heap.size:=cellq_lt h.1
end Go.Proofs.YtpfgoobmkkmidaaGreat.P
