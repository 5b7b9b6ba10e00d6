import Derived.Test.YtgfdfajblidleaaGreatK40
import Derived.Deep.CutRange
import Derived.BigQuiet
import Derived.OwnWalk
set_option maxRecDepth 100000
namespace Go.Proofs.YtgfdfajblidleaaGreat.P
open Go.RowKit
theorem Tz.wk {enc:Int} {w w':World} {t q:Nat} {A:List Int} (h:Tz enc w t A) (hk:Kps (fun j=>j=q) w w') (hq:Typ 74 w q):Tz enc w' t A :=
 h.other hk hq (by decide) (by decide) (fun e=>by rw [e] at hq;exact absurd (Typ.uniq hq h.typ) (by decide))
theorem Wk.typ {w:World} {q gr m cap n k:Nat} (h:Wk w q gr m cap n k):Typ 74 w q:=⟨_,h⟩
theorem turned2_any {w:World} {bx q gr m cap n k:Nat} (hbx:w.heap[bx]?=some (.cells #[.pointer (some ⟨q,0,none⟩)] 72 (0,0))) (h:Wk w q gr m cap n k) (L:Ln) (hr:Rw4 w gr k L) (hkn:k < n) (hnm:n≤m) (hm:m≤65537) (hcap:m≤cap) (hcap2:cap≤9223372036854775807) (hgq:gr≠q) :
  Calls Tryz.prog 26 #[.int .i64 (k:Nat),lnV L,.pointer (some ⟨bx,0,none⟩)] w fun e w'=>e=.returned (.bool true)∧Wk w' q gr m cap n (k + 1)∧Kps (fun j=>j=q) w w':=by
 obtain ⟨w0,hw0,hlx,hb0⟩:∃ w0,w0=w.alloc (.cells #[.int .i64 L.f,.int .i64 L.t,.int .i64 L.n,.int .i64 L.b] 50)∧w0.heap[w.heap.size]?=some (.cells #[.int .i64 L.f,.int .i64 L.t,.int .i64 L.n,.int .i64 L.b] 50 (0,0))∧Below w.heap.size w w0:=⟨_,rfl,heap_alloc_new _ _,zxa (Below.refl _ _) _⟩
 have ME:=zh (met_any (h.ext hb0) L (hr.same (hb0.block gr hr.lt)) hkn hnm hm hcap hcap2 hgq)
 have cb:w0.cell? ⟨bx,0,none⟩=some (.pointer (some ⟨q,0,none⟩)):=by simp [World.cell?,(hb0.block bx (Array.getElem?_eq_some_iff.1 hbx).1).trans hbx]
 obtain ⟨_,x0,x1,x2,x3,_⟩:=cells4 hlx
 have HW0:=zh hw0
 have HB0:=zh hb0
 clear hw0 hb0 h hr hbx hlx
 unfold lnV at ME ⊢
 go_enter Tryz.func26,Tryz.ntmps26
 go_upto_region 1 with fail
 rw [← HW0.out]
 clear HW0
 go_wp2_with (go_at_call 27;refine ME.out.mono ?_;rintro e w9 ⟨rfl,h1,h2⟩;have H1:=zh h1;have H2:=zh ((Kps.of_below (fun j=>j=q) HB0.out).trans h2 (fun _ _ e=>e));clear h1 h2;(try dsimp only))
 go_ret
 exact ⟨rfl,H1.out,H2.out⟩
set_option maxHeartbeats 8000000 in
theorem allTurn2 (enc:Int) (A:List Int) (t:Nat) (w:World) (hT:Tz enc w t A) (ba bx q gr m cap n:Nat) (hA:w.heap[ba]?=some (.cells #[.pointer (some ⟨t,0,none⟩)] 26 (0,0))) (hbx:w.heap[bx]?=some (.cells #[.pointer (some ⟨q,0,none⟩)] 72 (0,0))) (hq:Wk w q gr m cap n 0) (hrow:∀ k,k < n→Rw4 w gr k (lnK enc A (k:Nat))) (hn:(n:Int)=cnt enc A) (hnm:n≤m) (hm:m≤65537) (hcap:m≤cap) (hcap2:cap≤9223372036854775807) (hgq:gr≠q) (hgl:gr < w.heap.size) :
  Calls Tryz.prog 43 #[.func (.func 26) #[] #[.pointer (some ⟨bx,0,none⟩)],.pointer (some ⟨ba,0,none⟩)] w fun e w'=>(∃ v,e=.returned v)∧Wk w' q gr m cap n n∧Kps (fun j=>j=q) w w':=by
 have hB0:=spn_nn enc A
 have hlA:=hT.len
 have hBl:=spn_len enc A
 have hql:=hq.cs.1
 have hbxq:bx≠q:=fun e=>by
  have h1:Typ 72 w bx:=⟨_,hbx⟩
  rw [e] at h1
  exact absurd (Typ.uniq h1 hq.typ) (by decide)
 have HT:=zh hT
 have HQ:=zh hq
 have HROW:=zh hrow
 have HBX:=zh hbx
 have HN:=zh hn
 have hlx:=(Array.getElem?_eq_some_iff.1 hbx).1
 have cb:w.cell? ⟨ba,0,none⟩=some (.pointer (some ⟨t,0,none⟩)):=by rw [cell_of_row w _ _ _ _ _ hA];rfl
 obtain ⟨W1,hW1,hr1,hb1⟩:∃ W1,w.alloc (.cells #[.pointer (some ⟨t,0,none⟩),.int .i64 0,.slice none 0 0] 92)=W1∧W1.heap[w.heap.size]?=some (.cells #[.pointer (some ⟨t,0,none⟩),.int .i64 ((0:Nat):Int),.slice none 0 0] 92 (0,0))∧Below w.heap.size w W1:=⟨_,rfl,heap_alloc_new _ _,zxa (Below.refl _ _) _⟩
 have HR1:Hid (Rdr enc A W1 w.heap.size t 0 (fun g=>¬ g=q)):=⟨⟨_,[],hr1,⟨rfl,.inl ⟨rfl,rfl⟩⟩,by simp,fun g hg=>by cases hg⟩,HT.out.ext hb1⟩
 have HJ1:Hid (Wk W1 q gr m cap n 0∧Kps (fun j=>j=q) w W1):=⟨HQ.out.ext hb1,Kps.of_below _ hb1⟩
 have HW1:=zh hW1
 clear hT hq hrow hbx hn hA hW1 hr1 hb1
 go_enter Tryz.func43,Tryz.ntmps43
 go_upto_region 1 with fail
 rw [HW1.out]
 clear HW1
 go_wp2_with fail
 go_loopw [4,5] (fun a b wr=>∃ (k f s':Nat),a=.int .i64 (k:Nat)∧b=.int .i64 (f:Nat)∧(k:Int)≤(spn enc A).b∧k≤n∧Hid (skA enc A (k:Nat)=(f:Nat)∧s'≤f)∧Hid (Rdr enc A wr w.heap.size t s' (fun g=>¬ g=q))∧Hid (Wk wr q gr m cap n k∧Kps (fun j=>j=q) w wr)) (fun a _ _=>((spn enc A).b + 1).toNat - (intOf a).toNat)
 case atStart=>exact ⟨0,0,0,rfl,rfl,hB0,Nat.zero_le _,⟨skA_zero enc A,Nat.le_refl _⟩,HR1.out,HJ1.out⟩
 case round =>
  clear HR1 HJ1 W1 cb
  obtain ⟨k,f,s',rfl,rfl,hkB,hkn,HF,HR,HJ⟩:=hrel
  have hfl:f≤65536:=by have:=skA_in enc A k (by omega) hkB;have:=HF.out.1;omega
  have hrw:w.heap.size < wr.heap.size:=HR.out.typ.lt
  have RL:=zh (rline_any enc A wr w.heap.size t s' f k (H:=fun g=>¬ g=q) (fun j hj e=>by omega) HR.out HF.out.2 (by omega) hkB HF.out.1)
  obtain ⟨L,hL⟩:∃ L,lnK enc A (k:Nat)=L:=⟨_,rfl⟩
  rw [hL] at RL
  have HL:=zh hL
  have HM:Hid ((k:Int) < (spn enc A).b→1≤L.b∧L.n=skA enc A ((k:Int) + 1)∧tlG k L=false∧(k:Int) < cnt enc A):=fun h=>by have:=ln_mid enc A k h;rw [HL.out] at this;exact ⟨this.1,this.2.2.1,this.2.2.2.1,this.2.2.2.2⟩
  have HLT:Hid ((k:Int)=(spn enc A).b→L.b=0∧(tlG k L=true→cnt enc A=k)∧(tlG k L=false→cnt enc A=(k:Int) + 1)):=fun h=>by
   have:=ln_last enc A k h
   rw [HL.out] at this
   refine ⟨this.1,fun e=>?_,fun e=>?_⟩
   ·rcases this.2 with h | h
    ·exact h.2
    ·rw [e] at h;cases h.1
   ·rcases this.2 with h | h
    ·rw [e] at h;cases h.1
    ·exact h.2
  clear hL
  go_upto_region 4 with (go_at_call 44;refine RL.out.mono ?_;rintro e w1 ⟨rfl,hr1,hk1⟩;obtain ⟨s2,hs2,hR1⟩:=hr1.out;have HR1:=zh hR1;have HS2:=zh hs2;have HK1:=zh hk1;clear hr1 hR1 hs2 hk1;(try dsimp only))
  generalize hw2:World.alloc _ _=w2
  have HB2:Hid (Below w1.heap.size w1 w2∧w2.heap[w1.heap.size]?=some (.cells #[.int .i64 L.f,.int .i64 L.t,.int .i64 L.n,.int .i64 L.b] 50 (0,0))):=by unfold Hid;rw [← hw2];exact ⟨zxa (Below.refl _ _) _,heap_alloc_new _ _⟩
  have hz1:=HK1.out.size
  have IT:=zh (isTail_gen k L w2)
  unfold lnV at IT
  obtain ⟨_,x0,x1,x2,x3,_⟩:=cells4 HB2.out.2
  have HKW:Hid (∀ w',Below w1.heap.size w1 w'→Wk w' q gr m cap n k∧Kps (fun j=>j=q) w w'∧Rdr enc A w' w.heap.size t s2 (fun g=>¬ g=q)):=fun w' hb=>⟨Wk.ext (w:=w1) ((HK1.out.same q (by have:=HJ.out.1.cs.1;exact this) (by omega)).trans HJ.out.1) hb,(HJ.out.2.trans HK1.out (fun i hi e=>by omega)).trans (Kps.of_below (fun _=>False) hb) (fun _ _ e=>e.elim),HR1.out.ext hb⟩
  clear hw2 RL
  cases htl:tlG k L with
  | true =>
    have hkk:(k:Int)=(spn enc A).b:=by
     rcases Int.lt_or_eq_of_le hkB with h | h
     ·have:=(HM.out h).2.2.1;rw [htl] at this;cases this
     ·exact h
    have hkn':k=n:=by have:=(HLT.out hkk).2.1 htl;have:=HN.out;omega
    rw [htl] at IT
    clear HM HLT htl hkk
    subst hkn'
    go_wp2_with (go_at_call 33;refine IT.out.mono ?_;rintro e w3 ⟨rfl,hb3⟩;have HB3:=zh (zxt HB2.out.1 hb3);clear hb3;(try dsimp only))
    refine bodyPost_ret (results_none rfl _ _ _) rfl ?_
    exact ⟨⟨_,rfl⟩,(HKW.out w3 HB3.out).1,(HKW.out w3 HB3.out).2.1⟩
  | false =>
    have hkc:k < n:=by
     have h1:=HN.out
     rcases Int.lt_or_eq_of_le hkB with h | h
     ·have:=(HM.out h).2.2.2;omega
     ·have:=(HLT.out h).2.2 htl;omega
    rw [htl] at IT
    have CL:Hid (∀ w',Below w1.heap.size w1 w'→Calls Tryz.prog 26 #[.int .i64 (k:Nat),.agg #[.int .i64 L.f,.int .i64 L.t,.int .i64 L.n,.int .i64 L.b],.pointer (some ⟨bx,0,none⟩)] w' fun e w''=>e=.returned (.bool true)∧Wk w'' q gr m cap n (k + 1)∧Kps (fun j=>j=q) w' w''):=fun w' hb=>by
     obtain ⟨h1,h2,_⟩:=HKW.out w' hb
     have h3:=HROW.out k hkc
     rw [HL.out] at h3
     exact turned2_any ((h2.same bx hlx hbxq).trans HBX.out) h1 L (h3.same (h2.same gr hgl hgq)) hkc hnm hm hcap hcap2 hgq
    have HEN:Hid (L.b=0→k + 1=n):=fun h0=>by
     have hkk:(k:Int)=(spn enc A).b:=by
      rcases Int.lt_or_eq_of_le hkB with h | h
      ·have:=(HM.out h).1;omega
      ·exact h
     have:=(HLT.out hkk).2.2 htl
     have:=HN.out
     omega
    have HNX:Hid (L.b≠0→((k + 1:Nat):Int)≤(spn enc A).b∧∃ f':Nat,L.n=(f':Nat)∧skA enc A ((k + 1:Nat):Int)=(f':Nat)∧s2≤f'):=fun h0=>by
     have hkk:(k:Int) < (spn enc A).b:=by
      rcases Int.lt_or_eq_of_le hkB with h | h
      ·exact h
      ·exact absurd (HLT.out h).1 h0
     have h1:=(HM.out hkk).2.1
     have h2:=skA_in enc A ((k:Int) + 1) (by omega) (by omega)
     have h3:=HS2.out
     refine ⟨by omega,L.n.toNat,by omega,by rw [show ((k + 1:Nat):Int)=(k:Int) + 1 by omega,← h1];omega,by omega⟩
    clear HM HLT htl
    by_cases hb0:L.b=0
    ·have HE:=zh (HEN.out hb0)
     have hbb:(L.b == 0)=true:=by simp [hb0]
     clear hb0 HNX HEN
     go_wp2_with (first | (go_at_call 33;refine IT.out.mono ?_;rintro e w3 ⟨rfl,hb3⟩;have HB3:=zh (zxt HB2.out.1 hb3);have HX3:=zh ((hb3.block _ (Array.getElem?_eq_some_iff.1 HB2.out.2).1).trans HB2.out.2);clear hb3 x0 x1 x2 x3;obtain ⟨_,x0,x1,x2,x3,_⟩:=cells4 HX3.out;(try dsimp only)) | (go_at_call 26;refine (CL.out _ HB3.out).mono ?_;rintro e w4 ⟨rfl,h1,h2⟩;have H1:=zh h1;have H2:=zh ((HKW.out _ HB3.out).2.1.trans h2 (fun _ _ e=>e));have H3:=zh h2;have HX4:=zh ((h2.same w1.heap.size (Array.getElem?_eq_some_iff.1 HX3.out).1 (by omega)).trans HX3.out);clear h1 h2 x0 x1 x2 x3;obtain ⟨_,x0,x1,x2,x3,_⟩:=cells4 HX4.out;(try dsimp only)))
     refine bodyPost_ret (results_none rfl _ _ _) rfl ?_
     have h1:=H1.out
     rw [HE.out] at h1
     exact ⟨⟨_,rfl⟩,h1,H2.out⟩
    ·obtain ⟨hk1,f',hf1,hf2,hf3⟩:=HNX.out hb0
     have HF1:=zh hf1
     have HF2:=zh hf2
     have hbb:(L.b == 0)=false:=by simp [hb0]
     clear hb0 HNX HEN hf1 hf2
     go_upto_region 5 with (first | (go_at_call 33;refine IT.out.mono ?_;rintro e w3 ⟨rfl,hb3⟩;have HB3:=zh (zxt HB2.out.1 hb3);have HX3:=zh ((hb3.block _ (Array.getElem?_eq_some_iff.1 HB2.out.2).1).trans HB2.out.2);clear hb3 x0 x1 x2 x3;obtain ⟨_,x0,x1,x2,x3,_⟩:=cells4 HX3.out;(try dsimp only)) | (go_at_call 26;refine (CL.out _ HB3.out).mono ?_;rintro e w4 ⟨rfl,h1,h2⟩;have H1:=zh h1;have H2:=zh ((HKW.out _ HB3.out).2.1.trans h2 (fun _ _ e=>e));have H3:=zh h2;have HX4:=zh ((h2.same w1.heap.size (Array.getElem?_eq_some_iff.1 HX3.out).1 (by omega)).trans HX3.out);clear h1 h2 x0 x1 x2 x3;obtain ⟨_,x0,x1,x2,x3,_⟩:=cells4 HX4.out;(try dsimp only)))
     rw [HF1.out] at x2
     go_wp2_with fail
     go_roundw
     case rel=>exact ⟨k + 1,f',s2,by go_num,rfl,hk1,by omega,⟨HF2.out,hf3⟩,(HKW.out _ HB3.out).2.2.yielded (own:=fun j=>j=q) (own':=fun j=>j=q) (by omega) H3.out (fun j h=>.inl h) (HT.out.wk H2.out HQ.out.typ),H1.out,H2.out⟩
     case measure=>simp [intOf];omega
end Go.Proofs.YtgfdfajblidleaaGreat.P
namespace Go.Proofs.YtgfdfajblidleaaGreat.P
open Go.RowKit Go.Shelf
attribute [local go_sem] Oper.semAt_some
open Go.RowKit
theorem same_yes (v1 v2:Value) (zs:List Int) (w:World) (h1:Rd .i64 w v1 zs) (h2:Rd .i64 w v2 zs) :
  Calls Tryz.prog 11 #[v1,v2] w fun e w'=>e=.returned (.bool true)∧Below w.heap.size w w':=by
 have hlen:=h1.len
 obtain ⟨ao,cap,rfl,hl1,hc1,h1⟩:=h1
 obtain ⟨ao2,cap2,rfl,hl2,hc2,h2⟩:=h2
 by_cases hn:zs=[]
 ·subst hn
  clear h1 h2
  simp only [List.length_nil]
  go_enter Tryz.func11,Tryz.ntmps11
  go_wp2
  refine wp_loop_rounds 1 ?_
  rw [rounds_succ]
  go_wp2
  go_ret
  exact ⟨rfl,Below.refl _ _⟩
 ·obtain ⟨b,off,rfl,hb,hcl⟩:=h1 hn
  obtain ⟨b2,off2,rfl,hb2,hcl2⟩:=h2 hn
  have hq:((zs.length:Int) != (zs.length:Int))=false:=by simp
  clear h1 h2 hn
  go_enter Tryz.func11,Tryz.ntmps11
  go_wp2
  go_loopw [5] (fun i wr=>∃ k:Nat,k≤zs.length∧i=.int .i64 k∧Below w.heap.size w wr) (fun i _=>zs.length - (intOf i).toNat)
  case atStart=>exact ⟨0,Nat.zero_le _,rfl,Below.refl _ _⟩
  case round =>
   obtain ⟨k,hk,rfl,hbw⟩:=hrel
   by_cases hlt:k < zs.length
   ·have c1:wr.cell? ⟨b,off + k,none⟩=some (.int .i64 (zs[k]?.getD 0)):=(hbw.cell (p:=⟨b,off + k,none⟩) hb).trans (hcl _ hlt)
    have c2:wr.cell? ⟨b2,off2 + k,none⟩=some (.int .i64 (zs[k]?.getD 0)):=(hbw.cell (p:=⟨b2,off2 + k,none⟩) hb2).trans (hcl2 _ hlt)
    have hi1:(k:Int) < (zs.length:Int):=by omega
    generalize zs[k]?.getD 0=x at *
    clear hcl hcl2
    go_wp2
    go_quiet (fail)
    go_wp2
    go_roundw
    case rel=>exact ⟨k + 1,by omega,by go_num,below_drewN hbw _⟩
    case measure=>simp [intOf];omega
   ·clear hcl hcl2
    go_wp2
    go_ret
    exact ⟨rfl,hbw⟩
open Go.RowKit
section
variable {P:Program} {W:World} {ops:Array Oper} {rest:List Oper} {o:Oper} {a:Act} {Q:Exit→Act→World→Prop}
end
open Go.RowKit
open Go.RowKit
def Near (w:World) (v y:Value):Prop:=∀ k,y.ownBlock=some k→v.ownBlock=some k∨w.heap.size≤k
open Go.RowKit
structure Hel where
 l:Value
 a:Nat
 v:Value
 b:Nat
 x:Int
def hcs (h:Hel):List Value:=[h.l,h.v,.int .i64 h.x]
def hfl (hs:List Hel):List Value:=hs.flatMap hcs
def OwnH (w:World) (B:Nat) (v:Value) (hs:List Hel):Prop:=w.ownsRow B 45 3 v hs.length (hfl hs)
def HelI (w:World) (B:Nat) (h:Hel):Prop:=OwnI w B h.l (List.replicate h.a h.x)∧OwnI w B h.v (List.replicate h.b h.x)
open Go.RowKit
open Go.RowKit
open Go.RowKit
def gb (c:Bool):List Int→Int
 | []=>0
 | x :: r=>(if x=13∨(x=10∧c=false) then 1 else 0) + gb (decide (x=13)) r
open Go.RowKit
open Go.RowKit
structure Sm (enc:Int) (W:World) (bo t:Nat) (v:Value) (w:World) (A:List Int):Prop where
 bx:w.heap[bo]?=some (.cells #[.pointer (some ⟨t,0,none⟩),v] 29 (0,0))
 tz:Tz enc w t A
 bl:Below W.heap.size W w
 b1:W.heap.size≤bo
 b2:W.heap.size≤t
structure Sl (enc:Int) (W:World) (bo t:Nat) (v:Value) (bl:Nat) (f:Int) (p:Nat) (w:World) (A:List Int):Prop where
 s:Sm enc W bo t v w A
 l:w.heap[bl]?=some (.cells #[.int .i64 f,.int .i64 (p:Nat),.int .i64 ((p:Int) + 2),.int .i64 2] 50 (0,0))
open Go.RowKit
theorem row_kps {w w':World} {B:Nat} {T:TypeId} {s n:Nat} {v:Value} {xs:List Value} {own:Nat→Prop} (h:w.ownsRow B T s v n xs) (hk:Kps own w w') (h1:∀ k,v.ownBlock=some k→Typ T w k→¬ own k):w'.ownsRow B T s v n xs:=by
 obtain ⟨k1,h2⟩:=id h
 refine ⟨k1,?_⟩
 rcases h2 with h2 | ⟨k,cap,cur,hv,hb,hgg,r⟩
 ·exact .inl h2
 ·exact .inr ⟨k,cap,cur,hv,hb,(hk.same k (Array.getElem?_eq_some_iff.1 hgg).1 (fun e=>h1 k (by rw [hv];rfl) ⟨_,hgg⟩ e)).trans hgg,r⟩
def Rws (W:World) (w:World) (own:Nat→Prop):Prop:=∀ k,own k→W.heap.size≤k∧(Typ 27 w k∨Typ 45 w k)
def Tg (enc:Int) (w:World) (t:Nat) (A T:List Int):Prop:=∃ L ps,Tx enc 65536 L w t ps∧asOf ps=A∧(sh enc ps).map Prod.snd=T
structure KS (enc:Int) (W:World) (bo t:Nat) (vA:Value) (A:List Int) (vt:Value) (T:List Int) (w:World):Prop where
 bx:w.heap[bo]?=some (.cells #[.pointer (some ⟨t,0,none⟩),vA] 29 (0,0))
 tg:Tg enc w t A T
 bl:Below W.heap.size W w
 oa:OwnI w 0 vA A
 ot:OwnI w 0 vt T
def RowQ (w:World) (B:Nat) (v:Value) (xs:List Value):Prop:=w.ownsRow B 27 1 v xs.length xs
structure KR (w:World) (B:Nat) (vh:Value) (hs:List Hel) (vq:Value) (qs:List (Value × List Int)):Prop where
 h:OwnH w B vh hs
 hi:∀ x ∈ hs,HelI w B x
 q:RowQ w B vq (qs.map Prod.fst)
 qi:∀ x ∈ qs,OwnI w B x.1 x.2∧x.2.length≤100000000000
 di:qs.Pairwise fun x y=>∀ g,x.1.ownBlock=some g→y.1.ownBlock≠some g
 hq:∀ x ∈ hs,∀ y ∈ qs,∀ g,y.1.ownBlock=some g→x.l.ownBlock≠some g∧x.v.ownBlock≠some g
section
variable {P:Program} {W:World} {ops:Array Oper} {rest:List Oper} {o:Oper} {a:Act} {Q:Exit→Act→World→Prop}
end
end Go.Proofs.YtgfdfajblidleaaGreat.P
