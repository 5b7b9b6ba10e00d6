import Derived.Test.YtpfgoobmkkmidaaGreatJ00
import Derived.Test.YtpfgoobmkkmidaaGreatJ40
import Derived.Test.YtpfgoobmkkmidaaGreatJ42
import Derived.Test.YtpfgoobmkkmidaaGreatJ43
namespace Go.Proofs.YtpfgoobmkkmidaaGreat.P
open Go.RowKit
set_option maxRecDepth 100000 in
set_option maxHeartbeats 40000000 in
theorem allGx (fn:Nat) (hf:fn=127∨fn=128∨fn=130) (enc:Int) (A:List Int) (t:Nat) (w:World) (hT:Tz enc w t A) (ba bx n:Nat) (hA:w.heap[ba]?=some (.cells #[.pointer (some ⟨t,0,none⟩)] 26 (0,0))) (own:Nat→Prop) (J:Nat→World→Prop) (ret:Nat→Bool) (hn:(n:Int)=cnt enc A) (hown:∀ j,own j→j < w.heap.size) (hTz:∀ w',Kps own w w'→Tz enc w' t A)
  (hJ:∀ k w1 w2,J k w1→(∀ j,j < w.heap.size→w2.heap[j]?=w1.heap[j]?)→J k w2)
  (hcl:∀ (k:Nat) w',k < n→(k=0∨ret (k - 1)=true)→J k w'→Kps own w w'→Calls Tryz.prog fn #[.int .i64 (k:Nat),lnV (lnK enc A (k:Nat)),.pointer (some ⟨bx,0,none⟩)] w' fun e w''=>e=.returned (.bool (ret k))∧J (k + 1) w''∧Kps own w' w'') (h0:J 0 w) :
  Calls Tryz.prog 67 #[.func (.func fn) #[] #[.pointer (some ⟨bx,0,none⟩)],.pointer (some ⟨ba,0,none⟩)] w fun e w'=>(∃ v,e=.returned v)∧(∃ kf:Nat,kf≤n∧(kf=n∨(1≤kf∧ret (kf - 1)=false))∧J kf w')∧Kps own w w':=by
 rcases hf with rfl | rfl | rfl
 all_goals
  have hB0:=spn_nn enc A
  have hlA:=hT.len
  have hBl:=spn_len enc A
  have HTZ:=hidIt hTz
  have HJJ:=hidIt hJ
  have HCL:=hidIt hcl
  have HOW:=hidIt hown
  have HN:=hidIt hn
  have cb:w.cell? ⟨ba,0,none⟩=some (.pointer (some ⟨t,0,none⟩)):=by rw [cell_of_row w _ _ _ _ _ hA];rfl
  obtain ⟨W1,hW1,hr1,hb1⟩:∃ W1,w.alloc (.cells #[.pointer (some ⟨t,0,none⟩),.int .i64 0,.slice none 0 0] 115)=W1∧W1.heap[w.heap.size]?=some (.cells #[.pointer (some ⟨t,0,none⟩),.int .i64 ((0:Nat):Int),.slice none 0 0] 115 (0,0))∧Below w.heap.size w W1:=⟨_,rfl,heap_alloc_new _ _,ext_alloc (Below.refl _ _) _⟩
  have HR1:Hid (Rdr enc A W1 w.heap.size t 0 (fun g=>¬ own g)):=⟨⟨_,[],hr1,⟨rfl,.inl ⟨rfl,rfl⟩⟩,by simp,fun g hg=>by cases hg⟩,hT.ext hb1⟩
  have HJ1:Hid (J 0 W1∧Kps own w W1):=⟨hJ 0 w W1 h0 (fun j hj=>hb1.block j hj),Kps.of_below _ hb1⟩
  have HW1:=hidIt hW1
  clear hT hA hW1 hr1 hb1 hTz hJ hcl hown hn h0
  go_enter Tryz.func67,Tryz.ntmps67
  go_upto_region 1 with fail
  rw [HW1.out]
  clear HW1
  go_wp2_with fail
  go_loopw [4,5] (fun a b wr=>∃ (k f s':Nat),a=.int .i64 (k:Nat)∧b=.int .i64 (f:Nat)∧(k:Int)≤(spn enc A).b∧k≤n∧Hid (skA enc A (k:Nat)=(f:Nat)∧s'≤f)∧Hid (k=0∨ret (k - 1)=true)∧Hid (Rdr enc A wr w.heap.size t s' (fun g=>¬ own g))∧Hid (J k wr∧Kps own w wr)) (fun a _ _=>((spn enc A).b + 1).toNat - (intOf a).toNat)
  case atStart=>exact ⟨0,0,0,rfl,rfl,hB0,Nat.zero_le _,⟨skA_zero enc A,Nat.le_refl _⟩,.inl rfl,HR1.out,HJ1.out⟩
  case round =>
   clear HR1 HJ1 W1 cb
   obtain ⟨k,f,s',rfl,rfl,hkB,hkn,HF,HRT,HR,HJ⟩:=hrel
   have hfl:f≤65536:=by have:=skA_in enc A k (by omega) hkB;have:=HF.out.1;omega
   have hrw:w.heap.size < wr.heap.size:=HR.out.typ.lt
   have RL:=hidIt (rline_any enc A wr w.heap.size t s' f k (H:=fun g=>¬ own g) (fun j hj e=>by have:=HOW.out j e;omega) HR.out HF.out.2 (by omega) hkB HF.out.1)
   obtain ⟨L,hL⟩:∃ L,lnK enc A (k:Nat)=L:=⟨_,rfl⟩
   rw [hL] at RL
   have HL:=hidIt hL
   have HM:Hid ((k:Int) < (spn enc A).b→1≤L.b∧L.n=skA enc A ((k:Int) + 1)∧tlG k L=false∧(k:Int) < cnt enc A):=fun h=>by have:=ln_mid enc A k h;rw [HL.out] at this;exact ⟨this.1,this.2.2.1,this.2.2.2.1,this.2.2.2.2⟩
   have HLT:Hid ((k:Int)=(spn enc A).b→L.b=0∧(tlG k L=true→cnt enc A=k)∧(tlG k L=false→cnt enc A=(k:Int) + 1)):=fun h=>by
    have:=ln_last enc A k h
    rw [HL.out] at this
    refine ⟨this.1,fun e=>?_,fun e=>?_⟩
    ·rcases this.2 with h | h
     ·exact h.2
     ·rw [e] at h;cases h.1
    ·rcases this.2 with h | h
     ·rw [e] at h;cases h.1
     ·exact h.2
   clear hL
   go_upto_region 4 with (go_at_call 68;refine RL.out.mono ?_;rintro e w1 ⟨rfl,hr1,hk1⟩;obtain ⟨s2,hs2,hR1⟩:=hr1.out;have HR1:=hidIt hR1;have HS2:=hidIt hs2;have HK1:=hidIt hk1;clear hr1 hR1 hs2 hk1;(try dsimp only))
   generalize hw2:World.alloc _ _=w2
   have HB2:Hid (Below w1.heap.size w1 w2∧w2.heap[w1.heap.size]?=some (.cells #[.int .i64 L.f,.int .i64 L.t,.int .i64 L.n,.int .i64 L.b] 50 (0,0))):=by unfold Hid;rw [← hw2];exact ⟨ext_alloc (Below.refl _ _) _,heap_alloc_new _ _⟩
   have hz1:=HK1.out.size
   have IT:=hidIt (isTail_gen k L w2)
   unfold lnV at IT
   obtain ⟨_,x0,x1,x2,x3,_⟩:=cells4 HB2.out.2
   have HKW:Hid (∀ w',Below w1.heap.size w1 w'→J k w'∧Kps own w w'∧Rdr enc A w' w.heap.size t s2 (fun g=>¬ own g)):=fun w' hb=>⟨HJJ.out k wr w' HJ.out.1 (fun j hj=>(hb.block j (by omega)).trans (HK1.out.same j (by omega) (by omega))),(HJ.out.2.trans HK1.out (fun i hi e=>by omega)).trans (Kps.of_below (fun _=>False) hb) (fun _ _ e=>e.elim),HR1.out.ext hb⟩
   clear hw2 RL
   cases htl:tlG k L with
   | true =>
     have hkk:(k:Int)=(spn enc A).b:=by
      rcases Int.lt_or_eq_of_le hkB with h | h
      ·have:=(HM.out h).2.2.1;rw [htl] at this;cases this
      ·exact h
     have HKN:Hid (k=n):=by have:=(HLT.out hkk).2.1 htl;have:=HN.out;unfold Hid;omega
     rw [htl] at IT
     clear HM HLT htl hkk
     go_wp2_with (go_at_call 54;refine IT.out.mono ?_;rintro e w3 ⟨rfl,hb3⟩;have HB3:=hidIt (ext_trans HB2.out.1 hb3);clear hb3;(try dsimp only))
     refine bodyPost_ret (results_none rfl _ _ _) rfl ?_
     exact ⟨⟨_,rfl⟩,⟨k,hkn,.inl HKN.out,(HKW.out w3 HB3.out).1⟩,(HKW.out w3 HB3.out).2.1⟩
   | false =>
     have hkc:k < n:=by
      have h1:=HN.out
      rcases Int.lt_or_eq_of_le hkB with h | h
      ·have:=(HM.out h).2.2.2;omega
      ·have:=(HLT.out h).2.2 htl;omega
     rw [htl] at IT
     obtain ⟨rk,hrk⟩:∃ rk,ret k=rk:=⟨_,rfl⟩
     have HRK:=hidIt hrk
     have CL:Hid (∀ w',Below w1.heap.size w1 w'→Calls Tryz.prog _ #[.int .i64 (k:Nat),.agg #[.int .i64 L.f,.int .i64 L.t,.int .i64 L.n,.int .i64 L.b],.pointer (some ⟨bx,0,none⟩)] w' fun e w''=>e=.returned (.bool rk)∧J (k + 1) w''∧Kps own w' w''):=fun w' hb=>by
      obtain ⟨h1,h2,_⟩:=HKW.out w' hb
      have h3:=HCL.out k w' hkc HRT.out h1 h2
      rw [HL.out,hrk] at h3
      exact h3
     clear hrk
     have HEN:Hid (L.b=0→k + 1=n):=fun h0=>by
      have hkk:(k:Int)=(spn enc A).b:=by
       rcases Int.lt_or_eq_of_le hkB with h | h
       ·have:=(HM.out h).1;omega
       ·exact h
      have:=(HLT.out hkk).2.2 htl
      have:=HN.out
      omega
     have HNX:Hid (L.b≠0→((k + 1:Nat):Int)≤(spn enc A).b∧∃ f':Nat,L.n=(f':Nat)∧skA enc A ((k + 1:Nat):Int)=(f':Nat)∧s2≤f'):=fun h0=>by
      have hkk:(k:Int) < (spn enc A).b:=by
       rcases Int.lt_or_eq_of_le hkB with h | h
       ·exact h
       ·exact absurd (HLT.out h).1 h0
      have h1:=(HM.out hkk).2.1
      have h2:=skA_in enc A ((k:Int) + 1) (by omega) (by omega)
      have h3:=HS2.out
      refine ⟨by omega,L.n.toNat,by omega,by rw [show ((k + 1:Nat):Int)=(k:Int) + 1 by omega,← h1];omega,by omega⟩
     clear HM HLT htl
     cases rk with
     | false =>
       go_wp2_with (first | (go_at_call 54;refine IT.out.mono ?_;rintro e w3 ⟨rfl,hb3⟩;have HB3:=hidIt (ext_trans HB2.out.1 hb3);have HX3:=hidIt ((hb3.block _ (Array.getElem?_eq_some_iff.1 HB2.out.2).1).trans HB2.out.2);clear hb3 x0 x1 x2 x3;obtain ⟨_,x0,x1,x2,x3,_⟩:=cells4 HX3.out;(try dsimp only)) | ((first | go_at_call 127 | go_at_call 128 | go_at_call 130);refine (CL.out _ HB3.out).mono ?_;rintro e w4 ⟨rfl,h1,h2⟩;have H1:=hidIt h1;have H2:=hidIt ((HKW.out _ HB3.out).2.1.trans h2 (fun _ _ e=>e));have H3:=hidIt h2;have HX4:=hidIt ((h2.same w1.heap.size (Array.getElem?_eq_some_iff.1 HX3.out).1 (fun e=>by have:=HOW.out _ e;omega)).trans HX3.out);clear h1 h2 x0 x1 x2 x3;obtain ⟨_,x0,x1,x2,x3,_⟩:=cells4 HX4.out;(try dsimp only)))
       refine bodyPost_ret (results_none rfl _ _ _) rfl ?_
       exact ⟨⟨_,rfl⟩,⟨k + 1,by omega,.inr ⟨by omega,HRK.out⟩,H1.out⟩,H2.out⟩
     | true =>
       by_cases hb0:L.b=0
       ·have HE:=hidIt (HEN.out hb0)
        have hbb:(L.b == 0)=true:=by simp [hb0]
        clear hb0 HNX HEN
        go_wp2_with (first | (go_at_call 54;refine IT.out.mono ?_;rintro e w3 ⟨rfl,hb3⟩;have HB3:=hidIt (ext_trans HB2.out.1 hb3);have HX3:=hidIt ((hb3.block _ (Array.getElem?_eq_some_iff.1 HB2.out.2).1).trans HB2.out.2);clear hb3 x0 x1 x2 x3;obtain ⟨_,x0,x1,x2,x3,_⟩:=cells4 HX3.out;(try dsimp only)) | ((first | go_at_call 127 | go_at_call 128 | go_at_call 130);refine (CL.out _ HB3.out).mono ?_;rintro e w4 ⟨rfl,h1,h2⟩;have H1:=hidIt h1;have H2:=hidIt ((HKW.out _ HB3.out).2.1.trans h2 (fun _ _ e=>e));have H3:=hidIt h2;have HX4:=hidIt ((h2.same w1.heap.size (Array.getElem?_eq_some_iff.1 HX3.out).1 (fun e=>by have:=HOW.out _ e;omega)).trans HX3.out);clear h1 h2 x0 x1 x2 x3;obtain ⟨_,x0,x1,x2,x3,_⟩:=cells4 HX4.out;(try dsimp only)))
        refine bodyPost_ret (results_none rfl _ _ _) rfl ?_
        exact ⟨⟨_,rfl⟩,⟨k + 1,by omega,.inl HE.out,H1.out⟩,H2.out⟩
       ·obtain ⟨hk1,f',hf1,hf2,hf3⟩:=HNX.out hb0
        have HF1:=hidIt hf1
        have HF2:=hidIt hf2
        have hbb:(L.b == 0)=false:=by simp [hb0]
        clear hb0 HNX HEN hf1 hf2
        go_upto_region 5 with (first | (go_at_call 54;refine IT.out.mono ?_;rintro e w3 ⟨rfl,hb3⟩;have HB3:=hidIt (ext_trans HB2.out.1 hb3);have HX3:=hidIt ((hb3.block _ (Array.getElem?_eq_some_iff.1 HB2.out.2).1).trans HB2.out.2);clear hb3 x0 x1 x2 x3;obtain ⟨_,x0,x1,x2,x3,_⟩:=cells4 HX3.out;(try dsimp only)) | ((first | go_at_call 127 | go_at_call 128 | go_at_call 130);refine (CL.out _ HB3.out).mono ?_;rintro e w4 ⟨rfl,h1,h2⟩;have H1:=hidIt h1;have H2:=hidIt ((HKW.out _ HB3.out).2.1.trans h2 (fun _ _ e=>e));have H3:=hidIt h2;have HX4:=hidIt ((h2.same w1.heap.size (Array.getElem?_eq_some_iff.1 HX3.out).1 (fun e=>by have:=HOW.out _ e;omega)).trans HX3.out);clear h1 h2 x0 x1 x2 x3;obtain ⟨_,x0,x1,x2,x3,_⟩:=cells4 HX4.out;(try dsimp only)))
        rw [HF1.out] at x2
        go_wp2_with fail
        go_roundw
        case rel=>exact ⟨k + 1,f',s2,by go_num,rfl,hk1,by omega,⟨HF2.out,hf3⟩,.inr HRK.out,(HKW.out _ HB3.out).2.2.yielded (own:=own) (own':=own) (fun e=>by have:=HOW.out _ e;omega) H3.out (fun j h=>.inl h) (HTZ.out _ H2.out),H1.out,H2.out⟩
        case measure=>simp [intOf];omega
set_option maxRecDepth 100000 in
set_option maxHeartbeats 8000000 in
theorem allG3 (enc:Int) (A:List Int) (t:Nat) (w:World) (hT:Tz enc w t A) (ba bi bx bz n:Nat) (hA:w.heap[ba]?=some (.cells #[.pointer (some ⟨t,0,none⟩)] 26 (0,0))) (own:Nat→Prop) (J:Nat→World→Prop) (ret:Nat→Bool) (hn:(n:Int)=cnt enc A) (hown:∀ j,own j→j < w.heap.size) (hTz:∀ w',Kps own w w'→Tz enc w' t A)
  (hJ:∀ k w1 w2,J k w1→(∀ j,j < w.heap.size→w2.heap[j]?=w1.heap[j]?)→J k w2)
  (hcl:∀ (k:Nat) w',k < n→(k=0∨ret (k - 1)=true)→J k w'→Kps own w w'→Calls Tryz.prog 129 #[.int .i64 (k:Nat),lnV (lnK enc A (k:Nat)),.pointer (some ⟨bi,0,none⟩),.pointer (some ⟨bx,0,none⟩),.pointer (some ⟨bz,0,none⟩)] w' fun e w''=>e=.returned (.bool (ret k))∧J (k + 1) w''∧Kps own w' w'') (h0:J 0 w) :
  Calls Tryz.prog 67 #[.func (.func 129) #[] #[.pointer (some ⟨bi,0,none⟩),.pointer (some ⟨bx,0,none⟩),.pointer (some ⟨bz,0,none⟩)],.pointer (some ⟨ba,0,none⟩)] w fun e w'=>(∃ v,e=.returned v)∧(∃ kf:Nat,kf≤n∧(kf=n∨(1≤kf∧ret (kf - 1)=false))∧J kf w')∧Kps own w w':=by
 have hB0:=spn_nn enc A
 have hlA:=hT.len
 have hBl:=spn_len enc A
 have HTZ:=hidIt hTz
 have HJJ:=hidIt hJ
 have HCL:=hidIt hcl
 have HOW:=hidIt hown
 have HN:=hidIt hn
 have cb:w.cell? ⟨ba,0,none⟩=some (.pointer (some ⟨t,0,none⟩)):=by rw [cell_of_row w _ _ _ _ _ hA];rfl
 obtain ⟨W1,hW1,hr1,hb1⟩:∃ W1,w.alloc (.cells #[.pointer (some ⟨t,0,none⟩),.int .i64 0,.slice none 0 0] 115)=W1∧W1.heap[w.heap.size]?=some (.cells #[.pointer (some ⟨t,0,none⟩),.int .i64 ((0:Nat):Int),.slice none 0 0] 115 (0,0))∧Below w.heap.size w W1:=⟨_,rfl,heap_alloc_new _ _,ext_alloc (Below.refl _ _) _⟩
 have HR1:Hid (Rdr enc A W1 w.heap.size t 0 (fun g=>¬ own g)):=⟨⟨_,[],hr1,⟨rfl,.inl ⟨rfl,rfl⟩⟩,by simp,fun g hg=>by cases hg⟩,hT.ext hb1⟩
 have HJ1:Hid (J 0 W1∧Kps own w W1):=⟨hJ 0 w W1 h0 (fun j hj=>hb1.block j hj),Kps.of_below _ hb1⟩
 have HW1:=hidIt hW1
 clear hT hA hW1 hr1 hb1 hTz hJ hcl hown hn h0
 go_enter Tryz.func67,Tryz.ntmps67
 go_upto_region 1 with fail
 rw [HW1.out]
 clear HW1
 go_wp2_with fail
 go_loopw [4,5] (fun a b wr=>∃ (k f s':Nat),a=.int .i64 (k:Nat)∧b=.int .i64 (f:Nat)∧(k:Int)≤(spn enc A).b∧k≤n∧Hid (skA enc A (k:Nat)=(f:Nat)∧s'≤f)∧Hid (k=0∨ret (k - 1)=true)∧Hid (Rdr enc A wr w.heap.size t s' (fun g=>¬ own g))∧Hid (J k wr∧Kps own w wr)) (fun a _ _=>((spn enc A).b + 1).toNat - (intOf a).toNat)
 case atStart=>exact ⟨0,0,0,rfl,rfl,hB0,Nat.zero_le _,⟨skA_zero enc A,Nat.le_refl _⟩,.inl rfl,HR1.out,HJ1.out⟩
 case round =>
  clear HR1 HJ1 W1 cb
  obtain ⟨k,f,s',rfl,rfl,hkB,hkn,HF,HRT,HR,HJ⟩:=hrel
  have hfl:f≤65536:=by have:=skA_in enc A k (by omega) hkB;have:=HF.out.1;omega
  have hrw:w.heap.size < wr.heap.size:=HR.out.typ.lt
  have RL:=hidIt (rline_any enc A wr w.heap.size t s' f k (H:=fun g=>¬ own g) (fun j hj e=>by have:=HOW.out j e;omega) HR.out HF.out.2 (by omega) hkB HF.out.1)
  obtain ⟨L,hL⟩:∃ L,lnK enc A (k:Nat)=L:=⟨_,rfl⟩
  rw [hL] at RL
  have HL:=hidIt hL
  have HM:Hid ((k:Int) < (spn enc A).b→1≤L.b∧L.n=skA enc A ((k:Int) + 1)∧tlG k L=false∧(k:Int) < cnt enc A):=fun h=>by have:=ln_mid enc A k h;rw [HL.out] at this;exact ⟨this.1,this.2.2.1,this.2.2.2.1,this.2.2.2.2⟩
  have HLT:Hid ((k:Int)=(spn enc A).b→L.b=0∧(tlG k L=true→cnt enc A=k)∧(tlG k L=false→cnt enc A=(k:Int) + 1)):=fun h=>by
   have:=ln_last enc A k h
   rw [HL.out] at this
   refine ⟨this.1,fun e=>?_,fun e=>?_⟩
   ·rcases this.2 with h | h
    ·exact h.2
    ·rw [e] at h;cases h.1
   ·rcases this.2 with h | h
    ·rw [e] at h;cases h.1
    ·exact h.2
  clear hL
  go_upto_region 4 with (go_at_call 68;refine RL.out.mono ?_;rintro e w1 ⟨rfl,hr1,hk1⟩;obtain ⟨s2,hs2,hR1⟩:=hr1.out;have HR1:=hidIt hR1;have HS2:=hidIt hs2;have HK1:=hidIt hk1;clear hr1 hR1 hs2 hk1;(try dsimp only))
  generalize hw2:World.alloc _ _=w2
  have HB2:Hid (Below w1.heap.size w1 w2∧w2.heap[w1.heap.size]?=some (.cells #[.int .i64 L.f,.int .i64 L.t,.int .i64 L.n,.int .i64 L.b] 50 (0,0))):=by unfold Hid;rw [← hw2];exact ⟨ext_alloc (Below.refl _ _) _,heap_alloc_new _ _⟩
  have hz1:=HK1.out.size
  have IT:=hidIt (isTail_gen k L w2)
  unfold lnV at IT
  obtain ⟨_,x0,x1,x2,x3,_⟩:=cells4 HB2.out.2
  have HKW:Hid (∀ w',Below w1.heap.size w1 w'→J k w'∧Kps own w w'∧Rdr enc A w' w.heap.size t s2 (fun g=>¬ own g)):=fun w' hb=>⟨HJJ.out k wr w' HJ.out.1 (fun j hj=>(hb.block j (by omega)).trans (HK1.out.same j (by omega) (by omega))),(HJ.out.2.trans HK1.out (fun i hi e=>by omega)).trans (Kps.of_below (fun _=>False) hb) (fun _ _ e=>e.elim),HR1.out.ext hb⟩
  clear hw2 RL
  cases htl:tlG k L with
  | true =>
    have hkk:(k:Int)=(spn enc A).b:=by
     rcases Int.lt_or_eq_of_le hkB with h | h
     ·have:=(HM.out h).2.2.1;rw [htl] at this;cases this
     ·exact h
    have HKN:Hid (k=n):=by have:=(HLT.out hkk).2.1 htl;have:=HN.out;unfold Hid;omega
    rw [htl] at IT
    clear HM HLT htl hkk
    go_wp2_with (go_at_call 54;refine IT.out.mono ?_;rintro e w3 ⟨rfl,hb3⟩;have HB3:=hidIt (ext_trans HB2.out.1 hb3);clear hb3;(try dsimp only))
    refine bodyPost_ret (results_none rfl _ _ _) rfl ?_
    exact ⟨⟨_,rfl⟩,⟨k,hkn,.inl HKN.out,(HKW.out w3 HB3.out).1⟩,(HKW.out w3 HB3.out).2.1⟩
  | false =>
    have hkc:k < n:=by
     have h1:=HN.out
     rcases Int.lt_or_eq_of_le hkB with h | h
     ·have:=(HM.out h).2.2.2;omega
     ·have:=(HLT.out h).2.2 htl;omega
    rw [htl] at IT
    obtain ⟨rk,hrk⟩:∃ rk,ret k=rk:=⟨_,rfl⟩
    have HRK:=hidIt hrk
    have CL:Hid (∀ w',Below w1.heap.size w1 w'→Calls Tryz.prog 129 #[.int .i64 (k:Nat),.agg #[.int .i64 L.f,.int .i64 L.t,.int .i64 L.n,.int .i64 L.b],.pointer (some ⟨bi,0,none⟩),.pointer (some ⟨bx,0,none⟩),.pointer (some ⟨bz,0,none⟩)] w' fun e w''=>e=.returned (.bool rk)∧J (k + 1) w''∧Kps own w' w''):=fun w' hb=>by
     obtain ⟨h1,h2,_⟩:=HKW.out w' hb
     have h3:=HCL.out k w' hkc HRT.out h1 h2
     rw [HL.out,hrk] at h3
     exact h3
    clear hrk
    have HEN:Hid (L.b=0→k + 1=n):=fun h0=>by
     have hkk:(k:Int)=(spn enc A).b:=by
      rcases Int.lt_or_eq_of_le hkB with h | h
      ·have:=(HM.out h).1;omega
      ·exact h
     have:=(HLT.out hkk).2.2 htl
     have:=HN.out
     omega
    have HNX:Hid (L.b≠0→((k + 1:Nat):Int)≤(spn enc A).b∧∃ f':Nat,L.n=(f':Nat)∧skA enc A ((k + 1:Nat):Int)=(f':Nat)∧s2≤f'):=fun h0=>by
     have hkk:(k:Int) < (spn enc A).b:=by
      rcases Int.lt_or_eq_of_le hkB with h | h
      ·exact h
      ·exact absurd (HLT.out h).1 h0
     have h1:=(HM.out hkk).2.1
     have h2:=skA_in enc A ((k:Int) + 1) (by omega) (by omega)
     have h3:=HS2.out
     refine ⟨by omega,L.n.toNat,by omega,by rw [show ((k + 1:Nat):Int)=(k:Int) + 1 by omega,← h1];omega,by omega⟩
    clear HM HLT htl
    cases rk with
    | false =>
      go_wp2_with (first | (go_at_call 54;refine IT.out.mono ?_;rintro e w3 ⟨rfl,hb3⟩;have HB3:=hidIt (ext_trans HB2.out.1 hb3);have HX3:=hidIt ((hb3.block _ (Array.getElem?_eq_some_iff.1 HB2.out.2).1).trans HB2.out.2);clear hb3 x0 x1 x2 x3;obtain ⟨_,x0,x1,x2,x3,_⟩:=cells4 HX3.out;(try dsimp only)) | (go_at_call 129;refine (CL.out _ HB3.out).mono ?_;rintro e w4 ⟨rfl,h1,h2⟩;have H1:=hidIt h1;have H2:=hidIt ((HKW.out _ HB3.out).2.1.trans h2 (fun _ _ e=>e));have H3:=hidIt h2;have HX4:=hidIt ((h2.same w1.heap.size (Array.getElem?_eq_some_iff.1 HX3.out).1 (fun e=>by have:=HOW.out _ e;omega)).trans HX3.out);clear h1 h2 x0 x1 x2 x3;obtain ⟨_,x0,x1,x2,x3,_⟩:=cells4 HX4.out;(try dsimp only)))
      refine bodyPost_ret (results_none rfl _ _ _) rfl ?_
      exact ⟨⟨_,rfl⟩,⟨k + 1,by omega,.inr ⟨by omega,HRK.out⟩,H1.out⟩,H2.out⟩
    | true =>
      by_cases hb0:L.b=0
      ·have HE:=hidIt (HEN.out hb0)
       have hbb:(L.b == 0)=true:=by simp [hb0]
       clear hb0 HNX HEN
       go_wp2_with (first | (go_at_call 54;refine IT.out.mono ?_;rintro e w3 ⟨rfl,hb3⟩;have HB3:=hidIt (ext_trans HB2.out.1 hb3);have HX3:=hidIt ((hb3.block _ (Array.getElem?_eq_some_iff.1 HB2.out.2).1).trans HB2.out.2);clear hb3 x0 x1 x2 x3;obtain ⟨_,x0,x1,x2,x3,_⟩:=cells4 HX3.out;(try dsimp only)) | (go_at_call 129;refine (CL.out _ HB3.out).mono ?_;rintro e w4 ⟨rfl,h1,h2⟩;have H1:=hidIt h1;have H2:=hidIt ((HKW.out _ HB3.out).2.1.trans h2 (fun _ _ e=>e));have H3:=hidIt h2;have HX4:=hidIt ((h2.same w1.heap.size (Array.getElem?_eq_some_iff.1 HX3.out).1 (fun e=>by have:=HOW.out _ e;omega)).trans HX3.out);clear h1 h2 x0 x1 x2 x3;obtain ⟨_,x0,x1,x2,x3,_⟩:=cells4 HX4.out;(try dsimp only)))
       refine bodyPost_ret (results_none rfl _ _ _) rfl ?_
       exact ⟨⟨_,rfl⟩,⟨k + 1,by omega,.inl HE.out,H1.out⟩,H2.out⟩
      ·obtain ⟨hk1,f',hf1,hf2,hf3⟩:=HNX.out hb0
       have HF1:=hidIt hf1
       have HF2:=hidIt hf2
       have hbb:(L.b == 0)=false:=by simp [hb0]
       clear hb0 HNX HEN hf1 hf2
       go_upto_region 5 with (first | (go_at_call 54;refine IT.out.mono ?_;rintro e w3 ⟨rfl,hb3⟩;have HB3:=hidIt (ext_trans HB2.out.1 hb3);have HX3:=hidIt ((hb3.block _ (Array.getElem?_eq_some_iff.1 HB2.out.2).1).trans HB2.out.2);clear hb3 x0 x1 x2 x3;obtain ⟨_,x0,x1,x2,x3,_⟩:=cells4 HX3.out;(try dsimp only)) | (go_at_call 129;refine (CL.out _ HB3.out).mono ?_;rintro e w4 ⟨rfl,h1,h2⟩;have H1:=hidIt h1;have H2:=hidIt ((HKW.out _ HB3.out).2.1.trans h2 (fun _ _ e=>e));have H3:=hidIt h2;have HX4:=hidIt ((h2.same w1.heap.size (Array.getElem?_eq_some_iff.1 HX3.out).1 (fun e=>by have:=HOW.out _ e;omega)).trans HX3.out);clear h1 h2 x0 x1 x2 x3;obtain ⟨_,x0,x1,x2,x3,_⟩:=cells4 HX4.out;(try dsimp only)))
       rw [HF1.out] at x2
       go_wp2_with fail
       go_roundw
       case rel=>exact ⟨k + 1,f',s2,by go_num,rfl,hk1,by omega,⟨HF2.out,hf3⟩,.inr HRK.out,(HKW.out _ HB3.out).2.2.yielded (own:=own) (own':=own) (fun e=>by have:=HOW.out _ e;omega) H3.out (fun j h=>.inl h) (HTZ.out _ H2.out),H1.out,H2.out⟩
       case measure=>simp [intOf];omega
end Go.Proofs.YtpfgoobmkkmidaaGreat.P

namespace Go.Proofs.YtpfgoobmkkmidaaGreat.P
open Go.RowKit
theorem Tz.wk {enc:Int} {w w':World} {t q:Nat} {A:List Int} (h:Tz enc w t A) (hk:Kps (fun j=>j=q) w w') (hq:Typ 80 w q):Tz enc w' t A :=
 h.other hk hq (by decide) (by decide) (fun e=>by rw [e] at hq;exact absurd (Typ.uniq hq h.typ) (by decide))
theorem Wk.typ {w:World} {q gr m cap n k:Nat} (h:Wk w q gr m cap n k):Typ 80 w q:=⟨_,h⟩
end Go.Proofs.YtpfgoobmkkmidaaGreat.P

namespace Go.Proofs.YtpfgoobmkkmidaaGreat.P
open Go.RowKit
theorem no_stop (k:Nat):((k:Int) + 1 == -1)=false:=by simp;omega
theorem inner_any (enc:Int) (A:List Int) (t:Nat) {w:World} (hT:Tz enc w t A) {ba bx q gr m cap n:Nat} (hba:w.heap[ba]?=some (.cells #[.pointer (some ⟨t,0,none⟩)] 26 (0,0))) (hbx:w.heap[bx]?=some (.cells #[.pointer (some ⟨q,0,none⟩)] 78 (0,0)))
  (hi:Wg w q gr m cap n (-1) 0 false) (hrow:∀ k,k < n→Rw4 w gr k (lnK enc A (k:Nat))) (hn:(n:Int)=cnt enc A) (hnm:n≤m) (hm:m≤65537) (hcap:m≤cap) (hcap2:cap≤9223372036854775807) (hgq:gr≠q) (hgl:gr < w.heap.size) :
  Calls Tryz.prog 67 #[.func (.func 130) #[] #[.pointer (some ⟨bx,0,none⟩)],.pointer (some ⟨ba,0,none⟩)] w fun e w'=>(∃ v,e=.returned v)∧Wg w' q gr m cap n (-1) n false∧Kps (fun j=>j=q) w w':=by
 have hql:=hi.cs.1
 have hbq:bx≠q:=fun e=>by
  have h1:Typ 78 w bx:=⟨_,hbx⟩
  rw [e] at h1
  exact absurd (Typ.uniq h1 hi.typ) (by decide)
 refine (allGx 130 (.inr (.inr rfl)) enc A t w hT ba bx n hba (fun j=>j=q) (fun k w'=>Wg w' q gr m cap n (-1) k false) (fun _=>true) hn (fun j e=>by rw [e];exact hql) (fun w' hk=>hT.wk hk hi.typ) (fun k w1 w2 h1 h2=>(h2 q hql).trans h1) ?_ hi).mono ?_
 ·intro k w' hk _ hj hkp
  refine (alls3x1_any ((hkp.same bx (Array.getElem?_eq_some_iff.1 hbx).1 hbq).trans hbx) hj _ ((hrow k hk).same (hkp.same gr hgl hgq)) hk hnm hm hcap hcap2 hgq).mono ?_
  rintro e w2 ⟨rfl,h1,h2⟩
  rw [no_stop] at h1
  exact ⟨by rw [no_stop];rfl,h1,h2⟩
 ·rintro e w' ⟨hv,⟨kf,_,h2,h3⟩,h4⟩
  rcases h2 with rfl | ⟨_,h⟩
  ·exact ⟨hv,h3,h4⟩
  ·cases h
set_option maxRecDepth 100000 in
set_option maxHeartbeats 8000000 in
theorem alls3_any (enc:Int) (A:List Int) (t:Nat) {w:World} (hT:Tz enc w t A) {bi bx bz ba qi qo gr m cap n k:Nat} (hbi:w.heap[bi]?=some (.cells #[.func (.func 67) #[] #[.pointer (some ⟨ba,0,none⟩)]] 72 (0,0))) (hba:w.heap[ba]?=some (.cells #[.pointer (some ⟨t,0,none⟩)] 26 (0,0))) (hbx:w.heap[bx]?=some (.cells #[.pointer (some ⟨qi,0,none⟩)] 78 (0,0))) (hbz:w.heap[bz]?=some (.cells #[.pointer (some ⟨qo,0,none⟩)] 78 (0,0)))
  (hi:Wg w qi gr m cap n (-1) (if k=0 then 0 else n) false) (ho:Wg w qo gr m cap n (-1) k false) (hrow:∀ k,k < n→Rw4 w gr k (lnK enc A (k:Nat))) (hn:(n:Int)=cnt enc A) (hkn:k < n) (hnm:n≤m) (hm:m≤65537) (hcap:m≤cap) (hcap2:cap≤9223372036854775807) (hqq:qi≠qo) (hg1:gr≠qi) (hg2:gr≠qo) (hgl:gr < w.heap.size) :
  Calls Tryz.prog 129 #[.int .i64 (k:Nat),lnV (lnK enc A (k:Nat)),.pointer (some ⟨bi,0,none⟩),.pointer (some ⟨bx,0,none⟩),.pointer (some ⟨bz,0,none⟩)] w fun e w'=>e=.returned (.bool true)∧(Wg w' qi gr m cap n (-1) n false∧Wg w' qo gr m cap n (-1) (k + 1) false)∧Kps (fun j=>j=qi∨j=qo) w w':=by
 obtain ⟨L,hL⟩:∃ L,lnK enc A (k:Nat)=L:=⟨_,rfl⟩
 obtain ⟨w0,hw0,hlx,hb0⟩:∃ w0,w0=w.alloc (.cells #[.int .i64 L.f,.int .i64 L.t,.int .i64 L.n,.int .i64 L.b] 50)∧w0.heap[w.heap.size]?=some (.cells #[.int .i64 L.f,.int .i64 L.t,.int .i64 L.n,.int .i64 L.b] 50 (0,0))∧Below w.heap.size w w0:=⟨_,rfl,heap_alloc_new _ _,ext_alloc (Below.refl _ _) _⟩
 have hbzq:bz≠qi:=fun e=>by
  have h1:Typ 78 w bz:=⟨_,hbz⟩
  rw [e] at h1
  exact absurd (Typ.uniq h1 hi.typ) (by decide)
 have h3:=hrow k hkn
 rw [hL] at h3 ⊢
 have hol:=ho.cs.1
 have hil:=hi.cs.1
 -- what is done behind the inner going through,in whatever world
 have ME:Hid (∀ w',Kps (fun j=>j=qi) w0 w'→Calls Tryz.prog 42 #[.pointer (some ⟨qo,0,none⟩),.int .i64 (k:Nat),.agg #[.int .i64 L.f,.int .i64 L.t,.int .i64 L.n,.int .i64 L.b]] w' fun e w''=>e=.returned (.bool true)∧Wg w'' qo gr m cap n (-1) (k + 1) false∧Kps (fun j=>j=qo) w' w''):=fun w' hk=>by
  have e1:Wg w' qo gr m cap n (-1) k false:=(hk.same qo (Nat.lt_of_lt_of_le hol hb0.size) (Ne.symm hqq)).trans (ho.ext hb0)
  refine (metG_any e1 L ((h3.same (hb0.block gr hgl)).same (hk.same gr (Nat.lt_of_lt_of_le hgl hb0.size) hg1)) hkn hnm hm hcap hcap2 hg2).mono ?_
  rintro e w2 ⟨rfl,h1,h2⟩
  rw [no_stop] at h1
  exact ⟨by rw [no_stop];rfl,h1,h2⟩
 have CZ:Hid (∀ w',Kps (fun j=>j=qi) w0 w'→w'.cell? ⟨bz,0,none⟩=some (.pointer (some ⟨qo,0,none⟩))∧w'.cell? ⟨w.heap.size,0,none⟩=some (.int .i64 L.f)∧w'.cell? ⟨w.heap.size,1,none⟩=some (.int .i64 L.t)∧w'.cell? ⟨w.heap.size,2,none⟩=some (.int .i64 L.n)∧w'.cell? ⟨w.heap.size,3,none⟩=some (.int .i64 L.b)):=fun w' hk=>by
  have lz:=(Array.getElem?_eq_some_iff.1 hbz).1
  have e1:=(hk.same bz (Nat.lt_of_lt_of_le lz hb0.size) hbzq).trans ((hb0.block bz lz).trans hbz)
  obtain ⟨_,x0,x1,x2,x3,_⟩:=cells4 ((hk.same w.heap.size (Array.getElem?_eq_some_iff.1 hlx).1 (by omega)).trans hlx)
  exact ⟨by simp [World.cell?,e1],x0,x1,x2,x3⟩
 have cb:w0.cell? ⟨bi,0,none⟩=some (.func (.func 67) #[] #[.pointer (some ⟨ba,0,none⟩)]):=by simp [World.cell?,(hb0.block bi (Array.getElem?_eq_some_iff.1 hbi).1).trans hbi]
 have HW0:=hidIt hw0
 have HB0:=hidIt hb0
 have HI:=hidIt hi
 have IN:Hid (k=0→Calls Tryz.prog 67 #[.func (.func 130) #[] #[.pointer (some ⟨bx,0,none⟩)],.pointer (some ⟨ba,0,none⟩)] w0 fun e w'=>(∃ v,e=.returned v)∧Wg w' qi gr m cap n (-1) n false∧Kps (fun j=>j=qi) w0 w'):=fun h0=>by
  rw [if_pos h0] at hi
  exact inner_any enc A t (hT.ext hb0) ((hb0.block ba (Array.getElem?_eq_some_iff.1 hba).1).trans hba) ((hb0.block bx (Array.getElem?_eq_some_iff.1 hbx).1).trans hbx) (hi.ext hb0) (fun j hj=>(hrow j hj).same (hb0.block gr hgl)) hn hnm hm hcap hcap2 hg1 (Nat.lt_of_lt_of_le hgl hb0.size)
 have FIN:Hid (∀ w1 w2,Kps (fun j=>j=qi) w0 w1→Wg w1 qi gr m cap n (-1) n false→Wg w2 qo gr m cap n (-1) (k + 1) false→Kps (fun j=>j=qo) w1 w2→(Wg w2 qi gr m cap n (-1) n false∧Wg w2 qo gr m cap n (-1) (k + 1) false)∧Kps (fun j=>j=qi∨j=qo) w w2):=fun w1 w2 h1 h2 h4 h5 =>
  ⟨⟨(h5.same qi h2.cs.1 hqq).trans h2,h4⟩,((Kps.of_below (fun j=>j=qi∨j=qo) HB0.out).trans h1 (fun _ _ e=>.inl e)).trans h5 (fun _ _ e=>.inr e)⟩
 clear hT hbi hba hbx hbz hi ho hrow hw0 hb0 hlx h3 hL hn
 unfold lnV
 by_cases hk0:k=0
 ·have AC:=hidIt (IN.out hk0)
  subst hk0
  go_enter Tryz.func129,Tryz.ntmps129
  go_upto_region 1 with fail
  rw [← HW0.out]
  clear HW0
  go_upto_region 3 with (go_at_call 67;refine AC.out.mono ?_;rintro e w1 ⟨⟨ve,rfl⟩,h1,h2⟩;have H1:=hidIt h1;have H2:=hidIt h2;clear h1 h2;(try dsimp only))
  obtain ⟨z0,x0,x1,x2,x3⟩:=CZ.out w1 H2.out
  go_wp2_with (go_at_call 42;refine (ME.out w1 H2.out).mono ?_;rintro e w9 ⟨rfl,h1,h2⟩;have H3:=hidIt h1;have H4:=hidIt h2;clear h1 h2;(try dsimp only))
  go_ret
  exact ⟨rfl,FIN.out w1 w9 H2.out H1.out H3.out H4.out⟩
 ·have hkb:((k:Int) == 0)=false:=by simp;omega
  have hkb':¬ ((k:Int)=0):=by omega
  have hi2:=HI.out
  rw [if_neg hk0] at hi2
  have HI2:=hidIt (hi2.ext HB0.out)
  obtain ⟨z0,x0,x1,x2,x3⟩:=CZ.out w0 (Kps.refl _ _)
  clear hi2 IN HI
  go_enter Tryz.func129,Tryz.ntmps129
  go_upto_region 1 with fail
  rw [← HW0.out]
  clear HW0
  go_wp2_with (go_at_call 42;refine (ME.out w0 (Kps.refl _ _)).mono ?_;rintro e w9 ⟨rfl,h1,h2⟩;have H3:=hidIt h1;have H4:=hidIt h2;clear h1 h2;(try dsimp only))
  go_ret
  exact ⟨rfl,FIN.out w0 w9 (Kps.refl _ _) HI2.out H3.out H4.out⟩
end Go.Proofs.YtpfgoobmkkmidaaGreat.P

namespace Go.Proofs.YtpfgoobmkkmidaaGreat.P
open Go.RowKit
theorem ne_walk {w:World} {b q:Nat} {vs:Array Value} {T:TypeId} (h:w.heap[b]?=some (.cells vs T (0,0))) (hq:Typ 80 w q) (hT:T≠80):b≠q:=fun e=>by
 have h1:Typ T w b:=⟨_,h⟩
 rw [e] at h1
 exact hT (Typ.uniq h1 hq)
theorem goneA (enc:Int) (A:List Int) (t:Nat) {w:World} (hT:Tz enc w t A) {ba bx q gr m cap n:Nat} {a:Int} (hba:w.heap[ba]?=some (.cells #[.pointer (some ⟨t,0,none⟩)] 26 (0,0))) (hbx:w.heap[bx]?=some (.cells #[.pointer (some ⟨q,0,none⟩)] 78 (0,0)))
  (hi:Wg w q gr m cap n a 0 false) (hrow:∀ k,k < n→Rw4 w gr k (lnK enc A (k:Nat))) (hn:(n:Int)=cnt enc A) (hnm:n≤m) (hm:m≤65537) (hcap:m≤cap) (hcap2:cap≤9223372036854775807) (hgq:gr≠q) (hgl:gr < w.heap.size) :
  Calls Tryz.prog 67 #[.func (.func 127) #[] #[.pointer (some ⟨bx,0,none⟩)],.pointer (some ⟨ba,0,none⟩)] w fun e w'=>(∃ v,e=.returned v)∧(∃ kf e,Wg w' q gr m cap n a kf e∧(kf=n∨(kf:Int)=a))∧Kps (fun j=>j=q) w w':=by
 have hql:=hi.cs.1
 have hbq:bx≠q:=ne_walk hbx hi.typ (by decide)
 refine (allGx 127 (.inl rfl) enc A t w hT ba bx n hba (fun j=>j=q) (fun k w'=>Wg w' q gr m cap n a k (decide (1≤k) && ((k:Int) == a))) (fun k=>!((k:Int) + 1 == a)) hn (fun j e=>by rw [e];exact hql) (fun w' hk=>hT.wk hk hi.typ) (fun k w1 w2 h1 h2=>(h2 q hql).trans h1) ?_ (by simpa using hi)).mono ?_
 ·intro k w' hk hr hj hkp
  have he:(decide (1≤k) && ((k:Int) == a))=false:=by
   rcases hr with rfl | hr
   ·rfl
   ·by_cases h1:1≤k
    ·have e1:((k - 1:Nat):Int) + 1=k:=by omega
     rw [e1] at hr
     simp only [Bool.not_eq_true'] at hr
     rw [hr,Bool.and_false]
    ·simp [h1]
  simp only [he] at hj
  refine (alls1_any ((hkp.same bx (Array.getElem?_eq_some_iff.1 hbx).1 hbq).trans hbx) hj _ ((hrow k hk).same (hkp.same gr hgl hgq)) hk hnm hm hcap hcap2 hgq).mono ?_
  rintro e w2 ⟨rfl,h1,h2⟩
  refine ⟨rfl,?_,h2⟩
  have e2:(decide (1≤k + 1) && (((k + 1:Nat):Int) == a))=((k:Int) + 1 == a):=by
   rw [decide_eq_true (by omega:1≤k + 1),Bool.true_and,Int.natCast_add];rfl
  rw [e2]
  exact h1
 ·rintro e w' ⟨hv,⟨kf,_,h2,h3⟩,h4⟩
  refine ⟨hv,⟨kf,_,h3,?_⟩,h4⟩
  rcases h2 with rfl | ⟨h5,h6⟩
  ·exact .inl rfl
  ·have e1:((kf - 1:Nat):Int) + 1=kf:=by omega
   rw [e1] at h6
   exact .inr (by simpa using h6)
theorem goneB (enc:Int) (A:List Int) (t:Nat) {w:World} (hT:Tz enc w t A) {ba bx q gr m cap n:Nat} (hba:w.heap[ba]?=some (.cells #[.pointer (some ⟨t,0,none⟩)] 26 (0,0))) (hbx:w.heap[bx]?=some (.cells #[.pointer (some ⟨q,0,none⟩)] 78 (0,0)))
  (hi:Wg w q gr m cap n (-1) 0 false) (hrow:∀ k,k < n→Rw4 w gr k (lnK enc A (k:Nat))) (hn:(n:Int)=cnt enc A) (hnm:n≤m) (hm:m≤65537) (hcap:m≤cap) (hcap2:cap≤9223372036854775807) (hgq:gr≠q) (hgl:gr < w.heap.size) :
  Calls Tryz.prog 67 #[.func (.func 128) #[] #[.pointer (some ⟨bx,0,none⟩)],.pointer (some ⟨ba,0,none⟩)] w fun e w'=>(∃ v,e=.returned v)∧Wg w' q gr m cap n (-1) n false∧Kps (fun j=>j=q) w w':=by
 have hql:=hi.cs.1
 have hbq:bx≠q:=ne_walk hbx hi.typ (by decide)
 refine (allGx 128 (.inr (.inl rfl)) enc A t w hT ba bx n hba (fun j=>j=q) (fun k w'=>Wg w' q gr m cap n (-1) k false) (fun _=>true) hn (fun j e=>by rw [e];exact hql) (fun w' hk=>hT.wk hk hi.typ) (fun k w1 w2 h1 h2=>(h2 q hql).trans h1) ?_ hi).mono ?_
 ·intro k w' hk _ hj hkp
  refine (alls2_any ((hkp.same bx (Array.getElem?_eq_some_iff.1 hbx).1 hbq).trans hbx) hj _ ((hrow k hk).same (hkp.same gr hgl hgq)) hk hnm hm hcap hcap2 hgq).mono ?_
  rintro e w2 ⟨rfl,h1,h2⟩
  rw [no_stop] at h1
  exact ⟨by rw [no_stop];rfl,h1,h2⟩
 ·rintro e w' ⟨hv,⟨kf,_,h2,h3⟩,h4⟩
  rcases h2 with rfl | ⟨_,h⟩
  ·exact ⟨hv,h3,h4⟩
  ·cases h
theorem goneC (enc:Int) (A:List Int) (t:Nat) {w:World} (hT:Tz enc w t A) {bi bx bz ba qi qo gr m cap n:Nat} (hbi:w.heap[bi]?=some (.cells #[.func (.func 67) #[] #[.pointer (some ⟨ba,0,none⟩)]] 72 (0,0))) (hba:w.heap[ba]?=some (.cells #[.pointer (some ⟨t,0,none⟩)] 26 (0,0))) (hbx:w.heap[bx]?=some (.cells #[.pointer (some ⟨qi,0,none⟩)] 78 (0,0))) (hbz:w.heap[bz]?=some (.cells #[.pointer (some ⟨qo,0,none⟩)] 78 (0,0)))
  (hi:Wg w qi gr m cap n (-1) 0 false) (ho:Wg w qo gr m cap n (-1) 0 false) (hrow:∀ k,k < n→Rw4 w gr k (lnK enc A (k:Nat))) (hn:(n:Int)=cnt enc A) (hnm:n≤m) (hm:m≤65537) (hcap:m≤cap) (hcap2:cap≤9223372036854775807) (hqq:qi≠qo) (hg1:gr≠qi) (hg2:gr≠qo) (hgl:gr < w.heap.size) :
  Calls Tryz.prog 67 #[.func (.func 129) #[] #[.pointer (some ⟨bi,0,none⟩),.pointer (some ⟨bx,0,none⟩),.pointer (some ⟨bz,0,none⟩)],.pointer (some ⟨ba,0,none⟩)] w fun e w'=>(∃ v,e=.returned v)∧(Wg w' qi gr m cap n (-1) n false∧Wg w' qo gr m cap n (-1) n false)∧Kps (fun j=>j=qi∨j=qo) w w':=by
 have h1:=hi.cs.1
 have h2:=ho.cs.1
 have ne:∀ (b:Nat) (vs:Array Value) (T:TypeId),w.heap[b]?=some (.cells vs T (0,0))→T≠80→¬ (b=qi∨b=qo):=fun b vs T hb ht e=>by
  rcases e with e | e
  ·exact ne_walk hb hi.typ ht e
  ·exact ne_walk hb ho.typ ht e
 have tz:∀ w',Kps (fun j=>j=qi∨j=qo) w w'→Tz enc w' t A:=fun w' hk=>by
  have ty:∀ j,(j=qi∨j=qo)→Typ 80 w j:=fun j e=>e.elim (fun e=>e ▸ hi.typ) (fun e=>e ▸ ho.typ)
  exact hT.kps hk (fun j e=>⟨fun h=>absurd (Typ.uniq h (ty j e)) (by decide),fun h=>absurd (Typ.uniq h (ty j e)) (by decide)⟩) (fun e=>absurd (Typ.uniq hT.typ (ty t e)) (by decide))
 refine (allG3 enc A t w hT ba bi bx bz n hba (fun j=>j=qi∨j=qo) (fun k w'=>Wg w' qi gr m cap n (-1) (if k=0 then 0 else n) false∧Wg w' qo gr m cap n (-1) k false) (fun _=>true) hn (fun j e=>e.elim (fun e=>e ▸ h1) (fun e=>e ▸ h2)) tz (fun k w1 w2 x1 x2=>⟨(x2 qi h1).trans x1.1,(x2 qo h2).trans x1.2⟩) ?_ ⟨hi,ho⟩).mono ?_
 ·intro k w' hk _ hj hkp
  have sm:∀ (b:Nat) (vs:Array Value) (T:TypeId),w.heap[b]?=some (.cells vs T (0,0))→T≠80→w'.heap[b]?=some (.cells vs T (0,0)):=fun b vs T hb ht=>(hkp.same b (Array.getElem?_eq_some_iff.1 hb).1 (ne b vs T hb ht)).trans hb
  refine (alls3_any enc A t (tz w' hkp) (sm _ _ _ hbi (by decide)) (sm _ _ _ hba (by decide)) (sm _ _ _ hbx (by decide)) (sm _ _ _ hbz (by decide)) hj.1 hj.2 (fun j hj=>(hrow j hj).same (hkp.same gr hgl (fun e=>e.elim hg1 hg2))) hn hk hnm hm hcap hcap2 hqq hg1 hg2 (Nat.lt_of_lt_of_le hgl hkp.size)).mono ?_
  rintro e w2 ⟨rfl,x1,x2⟩
  exact ⟨rfl,⟨by rw [if_neg (Nat.succ_ne_zero k)];exact x1.1,x1.2⟩,x2⟩
 ·rintro e w' ⟨hv,⟨kf,_,x2,x3⟩,x4⟩
  rcases x2 with rfl | ⟨_,h⟩
  ·refine ⟨hv,⟨?_,x3.2⟩,x4⟩
   have:=x3.1
   split at this
   ·next h=>rw [h];rw [h] at this;exact this
   ·exact this
  ·cases h
end Go.Proofs.YtpfgoobmkkmidaaGreat.P
