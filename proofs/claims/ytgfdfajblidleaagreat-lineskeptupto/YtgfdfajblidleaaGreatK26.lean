import Derived.Test.YtgfdfajblidleaaGreatK25
import Derived.Deep.CutRange
import Derived.BigQuiet
set_option maxRecDepth 100000
namespace Go.Proofs.YtgfdfajblidleaaGreat.P
open Go.RowKit Go.Shelf
attribute [local go_sem] Oper.semAt_some
def lnV (l:Ln):Value:=.agg #[.int .i64 l.f,.int .i64 l.t,.int .i64 l.n,.int .i64 l.b]
def alF (enc:Int) (A:List Int) (m:Nat):List (Nat × Ln):=(List.range m).map fun k=>(k,lnK enc A (k:Nat))
def al (enc:Int) (A:List Int):List (Nat × Ln):=alF enc A (cnt enc A).toNat
theorem alF_succ (enc:Int) (A:List Int) (m:Nat):alF enc A (m + 1)=alF enc A m ++ [(m,lnK enc A (m:Nat))]:=by simp [alF,List.range_succ]
theorem alF_pre (enc:Int) (A:List Int) (m n:Nat) (h:m≤n):alF enc A m <+: alF enc A n:=by
 obtain ⟨d,rfl⟩:=Nat.exists_eq_add_of_le h
 induction d with
 | zero=>exact List.prefix_refl _
 | succ d ih=>rw [← Nat.add_assoc,alF_succ];exact (ih (by omega)).trans (List.prefix_append _ _)
def tlG (b:Int) (l:Ln):Bool:=decide (0 < b∧l.t=l.f∧l.n=l.f∧l.b=0)
theorem knd_pos (A:List Int) (e:Nat):1≤knd A e∧knd A e≤3:=by unfold knd;split;omega;split <;> omega
theorem ln_mid (enc:Int) (A:List Int) (k:Nat) (hk:(k:Int) < (spn enc A).b):1≤(lnK enc A k).b∧(lnK enc A k).b≤3∧(lnK enc A k).n=skA enc A ((k:Int) + 1)∧tlG k (lnK enc A k)=false∧(k:Int) < cnt enc A:=by
 have h1:=knd_pos A (skA enc A ((k:Int) + 1)).toNat
 have e:lnK enc A k=⟨skA enc A k,skA enc A (k + 1) - wid (knd A (skA enc A (k + 1)).toNat),skA enc A (k + 1),knd A (skA enc A (k + 1)).toNat⟩:=by unfold lnK;rw [if_neg (by omega)]
 rw [e]
 refine ⟨h1.1,h1.2,rfl,?_,?_⟩
 ·unfold tlG
  simp only [decide_eq_false_iff_not]
  rintro ⟨_,_,_,h⟩
  omega
 ·unfold cnt;split <;> omega
theorem ln_last (enc:Int) (A:List Int) (k:Nat) (hk:(k:Int)=(spn enc A).b):(lnK enc A k).b=0∧((tlG k (lnK enc A k)=true∧cnt enc A=k)∨(tlG k (lnK enc A k)=false∧cnt enc A=(k:Int) + 1)):=by
 have e:lnK enc A k=⟨skA enc A k,A.length,A.length,0⟩:=by unfold lnK;rw [if_pos hk]
 have hc:=cnt_tail enc A
 rw [← hk] at hc
 rw [e]
 refine ⟨rfl,?_⟩
 by_cases h:0 < (k:Int)∧skA enc A k=A.length
 ·left
  rw [if_pos h] at hc
  refine ⟨?_,hc⟩
  unfold tlG
  simp only [decide_eq_true_eq]
  exact ⟨h.1,h.2.symm,h.2.symm,trivial⟩
 ·right
  rw [if_neg h] at hc
  refine ⟨?_,hc⟩
  unfold tlG
  simp only [decide_eq_false_iff_not]
  rintro ⟨h1,h2,_,_⟩
  exact h ⟨h1,h2.symm⟩
theorem isTail_gen (b:Int) (l:Ln) (w:World):Calls Tryz.prog 33 #[.int .i64 b,lnV l] w fun e w'=>e=.returned (.bool (tlG b l))∧Below w.heap.size w w':=by
 obtain ⟨f,t,n,k⟩:=l
 unfold lnV
 have HE:=zh (show tlG b ⟨f,t,n,k⟩=decide (0 < b∧t=f∧n=f∧k=0) from rfl)
 generalize tlG b ⟨f,t,n,k⟩=ans at *
 simp only at HE ⊢
 by_cases h0:0 < b
 ·by_cases h1:t=f
  ·subst h1
   by_cases h2:n=t
   ·subst h2
    by_cases h3:k=0
    ·subst h3
     go_enter Tryz.func33,Tryz.ntmps33
     go_wp2_with fail
     go_ret
     exact ⟨ret_bool (by rw [HE.out];simp [h0]),zxa (Below.refl _ _) _⟩
    ·have hb:(k == 0)=false:=by simp [h3]
     go_enter Tryz.func33,Tryz.ntmps33
     go_wp2_with fail
     go_ret
     exact ⟨ret_bool (by rw [HE.out];simp [h3]),zxa (Below.refl _ _) _⟩
   ·have hb:(n == t)=false:=by simp [h2]
    go_enter Tryz.func33,Tryz.ntmps33
    go_wp2_with fail
    go_ret
    exact ⟨ret_bool (by rw [HE.out];simp [h2]),zxa (Below.refl _ _) _⟩
  ·have hb:(t == f)=false:=by simp [h1]
   go_enter Tryz.func33,Tryz.ntmps33
   go_wp2_with fail
   go_ret
   exact ⟨ret_bool (by rw [HE.out];simp [h1]),zxa (Below.refl _ _) _⟩
 ·go_enter Tryz.func33,Tryz.ntmps33
  go_wp2_with fail
  go_ret
  exact ⟨ret_bool (by rw [HE.out];simp;omega),zxa (Below.refl _ _) _⟩
theorem All_any (t:Nat) (w:World):Calls Tryz.prog 22 #[.pointer (some ⟨t,0,none⟩)] w fun e w'=>e=.returned (.func (.func 43) #[] #[.pointer (some ⟨w.heap.size,0,none⟩)])∧w'=w.alloc (.cells #[.pointer (some ⟨t,0,none⟩)] 26):=by
 go_enter Tryz.func22,Tryz.ntmps22
 go_wp2_with fail
 go_ret
 exact ⟨rfl,rfl⟩
theorem ownI_same {w w':World} {base:Nat} {v:Value} {zs:List Int} (h:OwnI w base v zs) (hs:∀ g,v.ownBlock=some g→w'.heap[g]?=w.heap[g]?):OwnI w' base v zs:=by
 refine ⟨h.1,?_⟩
 rcases h.2 with h2 | ⟨g,cap,cur,rfl,h0,hc,r⟩
 ·exact .inl h2
 ·exact .inr ⟨g,cap,cur,rfl,h0,(hs g rfl).trans hc,r⟩
theorem ownI_lt {w:World} {base:Nat} {v:Value} {zs:List Int} (h:OwnI w base v zs) {g:Nat} (hg:v.ownBlock=some g):g < w.heap.size:=by
 rcases h.2 with ⟨rfl,_⟩ | ⟨g',cap,cur,rfl,h0,hc,_⟩
 ·cases hg
 ·cases hg
  exact (Array.getElem?_eq_some_iff.1 hc).1
theorem Rdr.yielded {enc:Int} {A:List Int} {w w':World} {r t s:Nat} {own own':Nat→Prop} (h:Rdr enc A w r t s (fun g=>¬ own g)) (hr:¬ own r) (hk:Kps own w w') (hn:∀ k,own' k→own k∨w.heap.size≤k) (ht:Tz enc w' t A):Rdr enc A w' r t s (fun g=>¬ own' g):=by
 obtain ⟨v,hand,h1,h2,h3,h4⟩:=h.ex
 refine ⟨⟨v,hand,(hk.same r (Array.getElem?_eq_some_iff.1 h1).1 hr).trans h1,ownI_same h2 (fun g hg=>hk.same g (ownI_lt h2 hg) (h4 g hg)),h3,fun g hg e=>?_⟩,ht⟩
 rcases hn g e with e | e
 ·exact h4 g hg e
 ·have:=ownI_lt h2 hg
  omega
set_option maxHeartbeats 8000000 in
theorem all_stops (n:Nat) (enc:Int) (A:List Int) (t:Nat) (wT:World) (hT:Tz enc wT t A) (w:World) (hBT:Below wT.heap.size wT w) (ba:Nat) (la:ba < w.heap.size) (hA:w.heap[ba]?=some (.cells #[.pointer (some ⟨t,0,none⟩)] 26 (0,0))) :
  SeqX Fence.wide n Tryz.prog 43 #[.pointer (some ⟨ba,0,none⟩)] (fun p=>#[.int .i64 (p.1:Nat),lnV p.2]) (fun k=>k < wT.heap.size∨k=ba) (fun xs=>xs=al enc A) (fun pre=>pre <+: al enc A) w:=by
 intro l σ G s W hK hrel hlean hY h0
 have hbW:Below wT.heap.size wT W:=⟨hK.os.trans hBT.os,hK.tape.trans hBT.tape,hK.output.trans hBT.output,by have:=hK.size;have:=hBT.size;omega,fun k hk=>(hK.same k (Nat.lt_of_lt_of_le hk hBT.size) (fun e=>e (.inl hk))).trans (hBT.block k hk)⟩
 have hAW:W.heap[ba]?=some (.cells #[.pointer (some ⟨t,0,none⟩)] 26 (0,0)):=(hK.same ba la (fun e=>e (.inr rfl))).trans hA
 have hlW:ba < W.heap.size:=by have:=hK.size;omega
 have hno:∀ k,k < wT.heap.size∨k=ba→¬ G.own s k:=fun k hk=>(hrel k hk).2
 have HT:=zh hT
 have hB0:=spn_nn enc A
 have hlA:=hT.len
 have hBl:=spn_len enc A
 -- the text,as long as only the caller's blocks turn
 have HKP:Hid (∀ W',Kps (G.own s) W W'→Tz enc W' t A):=fun W' k=>HT.out.ext ⟨k.os.trans hbW.os,k.tape.trans hbW.tape,k.output.trans hbW.output,Nat.le_trans hbW.size k.size,fun i hi=>(k.same i (Nat.lt_of_lt_of_le hi hbW.size) (hno i (.inl hi))).trans (hbW.block i hi)⟩
 have HYY:=zh hY
 have HLN:=zh hlean
 have HG:=zh h0
 have cb:W.cell? ⟨ba,0,none⟩=some (.pointer (some ⟨t,0,none⟩)):=by rw [cell_of_row W _ _ _ _ _ hAW];rfl
 have hrw:¬ G.own s W.heap.size:=fun e=>by have:=G.lives s [] W h0 _ e;omega
 obtain ⟨W1,hW1,hr1,hb1⟩:∃ W1,W.alloc (.cells #[.pointer (some ⟨t,0,none⟩),.int .i64 0,.slice none 0 0] 92)=W1∧W1.heap[W.heap.size]?=some (.cells #[.pointer (some ⟨t,0,none⟩),.int .i64 ((0:Nat):Int),.slice none 0 0] 92 (0,0))∧Below W.heap.size W W1:=⟨_,rfl,heap_alloc_new _ _,zxa (Below.refl _ _) _⟩
 have HR1:Hid (Rdr enc A W1 W.heap.size t 0 (fun g=>¬ G.own s g)):=⟨⟨_,[],hr1,⟨rfl,.inl ⟨rfl,rfl⟩⟩,by simp,fun g hg=>by cases hg⟩,HKP.out W1 (Kps.of_below _ hb1)⟩
 have HJ1:Hid (G.J s [] W1∧Kps (G.own s) W W1∧Newer G.own s s W):=⟨G.stay s [] W W1 h0 hb1.size (fun k hk=>hb1.block k (hk.elim (fun h=>G.lives s [] W h0 k h) (fun h=>HLN.out k h))),Kps.of_below _ hb1,fun k h=>.inl h⟩
 have hrl:W.heap.size < W1.heap.size:=(Array.getElem?_eq_some_iff.1 hr1).1
 have HW1:=zh hW1
 clear hW1
 clear hK hrel hlean hY hA hBT hT hbW hAW hlW hno h0 hr1 hb1
 refine (callsIn_wide (n:=n)).2 ?_
 refine (callsIn_wide (n:=9)).1 ?_
 refine callsIn_of_wp Tryz.func43 rfl trivial ?_ rfl
 simp only [Tryz.ntmps43,List.size_toArray,List.length_cons,List.length_nil,Nat.reduceAdd,Nat.reduceSub,Array.replicate_succ,Array.replicate_zero,List.push_toArray,List.append_toArray,List.nil_append,List.cons_append]
 gi_wp2_with fail
 gi_loopw [4,5] (fun a b wr=>∃ (k f s':Nat) (s1:σ),a=.int .i64 (k:Nat)∧b=.int .i64 (f:Nat)∧(k:Int)≤(spn enc A).b∧Hid (skA enc A (k:Nat)=(f:Nat)∧s'≤f)∧Hid (Rdr enc A wr W.heap.size t s' (fun g=>¬ G.own s1 g)∧¬ G.own s1 W.heap.size)∧Hid (G.J s1 (alF enc A k) wr∧Kps (G.own s) W wr∧Newer G.own s s1 W)) (fun a _ _=>((spn enc A).b + 1).toNat - (intOf a).toNat)
 case atStart=>exact ⟨0,0,0,s,rfl,rfl,hB0,⟨skA_zero enc A,Nat.le_refl _⟩,⟨by rw [HW1.out];exact HR1.out,hrw⟩,by rw [HW1.out];exact HJ1.out⟩
 case round =>
  clear HR1 HJ1 hrw HG HW1 hrl W1 cb
  obtain ⟨k,f,s',s1,rfl,rfl,hkB,HF,HR,HJ⟩:=hrel
  have hfl:f≤65536:=by have:=skA_in enc A k (by omega) hkB;have:=HF.out.1;omega
  have HOW:Hid (∀ j,wr.heap.size≤j→¬ G.own s1 j):=fun j hj e=>by have:=G.lives s1 _ wr HJ.out.1 j e;omega
  have RL:=zh (rline_any enc A wr W.heap.size t s' f k HOW.out HR.out.1 HF.out.2 (by omega) hkB HF.out.1)
  have hrw:W.heap.size < wr.heap.size:=HR.out.1.typ.lt
  obtain ⟨L,hL⟩:∃ L,lnK enc A (k:Nat)=L:=⟨_,rfl⟩
  rw [hL] at RL
  have HL:=zh hL
  clear hL
  gi_wp2_with fail
  refine ⟨trivial,?_⟩
  refine (callsIn_wide.2 RL.out).mono ?_
  rintro e w1 ⟨rfl,hr1,hk1⟩
  obtain ⟨s2,hs2,hR1⟩:=hr1.out
  have HR1:=zh hR1
  have HS2:=zh hs2
  have HK1:=zh hk1
  have hz1:=hk1.size
  have HJ1:Hid (G.J s1 (alF enc A k) w1):=G.stay s1 _ wr w1 HJ.out.1 hk1.size (fun j hj=>by
   rcases hj with hj | hj
   ·exact HK1.out.same j (G.lives s1 _ wr HJ.out.1 j hj) (fun e=>HR.out.2 (e ▸ hj))
   ·have:=HLN.out j hj
    exact HK1.out.same j (by omega) (by omega))
  clear RL hr1 hR1 hs2 hk1
  gi_wp2_with fail
  generalize hw2:World.alloc _ _=w2
  obtain ⟨b1,hbx⟩:Below w1.heap.size w1 w2∧w2.heap[w1.heap.size]?=some (.cells #[.int .i64 L.f,.int .i64 L.t,.int .i64 L.n,.int .i64 L.b] 50 (0,0)):=by rw [← hw2];exact ⟨zxa (Below.refl _ _) _,heap_alloc_new _ _⟩
  have HB1:=zh b1
  have HBX:=zh hbx
  have IT:=zh (isTail_gen k L w2)
  have hzx:=(Array.getElem?_eq_some_iff.1 hbx).1
  unfold lnV at IT
  clear hw2 b1 hbx
  refine ⟨trivial,?_⟩
  refine (callsIn_wide.2 IT.out).mono ?_
  rintro e w3 ⟨rfl,hb3⟩
  have HB3:=zh (zxt HB1.out hb3)
  have HBX3:=zh ((hb3.block _ hzx).trans HBX.out)
  obtain ⟨_,x0,x1,x2,x3,_⟩:=cells4 HBX3.out
  have HJ3:Hid (G.J s1 (alF enc A k) w3):=G.stay s1 _ w1 w3 HJ1.out HB3.out.size (fun j hj=>HB3.out.block j (hj.elim (fun h=>G.lives s1 _ w1 HJ1.out j h) (fun h=>by have:=HLN.out j h;omega)))
  have HR3:=zh (HR1.out.ext HB3.out)
  have hz3:=HB3.out.size
  have HKW3:Hid (Kps (G.own s) W w3):=(HJ.out.2.1.trans HK1.out (fun i hi e=>by omega)).trans (Kps.of_below (fun j=>False) HB3.out) (fun _ _ e=>e.elim)
  clear IT HBX hb3 HB1 HJ1 HR1
  have HM:Hid ((k:Int) < (spn enc A).b→1≤L.b∧L.n=skA enc A ((k:Int) + 1)):=fun h=>by have:=ln_mid enc A k h;rw [HL.out] at this;exact ⟨this.1,this.2.2.1⟩
  have HLT:Hid ((k:Int)=(spn enc A).b→L.b=0∧(tlG k L=true→cnt enc A=k)∧(tlG k L=false→cnt enc A=(k:Int) + 1)):=fun h=>by
   have:=ln_last enc A k h
   rw [HL.out] at this
   refine ⟨this.1,fun e=>?_,fun e=>?_⟩
   ·rcases this.2 with h | h
    ·exact h.2
    ·rw [e] at h;cases h.1
   ·rcases this.2 with h | h
    ·rw [e] at h;cases h.1
    ·exact h.2
  have HMT:Hid ((k:Int) < (spn enc A).b→tlG k L=false∧(k:Int) < cnt enc A):=fun h=>by have:=ln_mid enc A k h;rw [HL.out] at this;exact ⟨this.2.2.2.1,this.2.2.2.2⟩
  cases htl:tlG k L with
  | true =>
    have hkk:(k:Int)=(spn enc A).b:=by
     rcases Int.lt_or_eq_of_le hkB with h | h
     ·have:=(HMT.out h).1;rw [htl] at this;cases this
     ·exact h
    have HFI:Hid (alF enc A k=al enc A):=by unfold Hid al;rw [(HLT.out hkk).2.1 htl];rfl
    clear HM HLT HMT htl hkk
    gi_wp2_with fail
    refine ⟨fun f h=>(by cases h),?_⟩
    gi_wp2_with fail
    refine bodyPost_ret (results_none rfl _ _ _) rfl ?_
    exact ⟨⟨_,rfl⟩,s1,HKW3.out,HJ.out.2.2,.inl ⟨_,HFI.out,HJ3.out⟩⟩
  | false =>
    have hkc:(k:Int) < cnt enc A:=by
     rcases Int.lt_or_eq_of_le hkB with h | h
     ·exact (HMT.out h).2
     ·have:=(HLT.out h).2.2 htl;omega
    have HPR:Hid (alF enc A k ++ [(k,L)] <+: al enc A):=by unfold Hid al;rw [← HL.out,← alF_succ];exact alF_pre enc A _ _ (by omega)
    have HFN:Hid (L.b=0→alF enc A k ++ [(k,L)]=al enc A):=fun h0=>by
     have hkk:(k:Int)=(spn enc A).b:=by
      rcases Int.lt_or_eq_of_le hkB with h | h
      ·have:=(HM.out h).1;omega
      ·exact h
     unfold al
     rw [← HL.out,← alF_succ,(HLT.out hkk).2.2 htl]
     rfl
    have HNX:Hid (L.b≠0→((k + 1:Nat):Int)≤(spn enc A).b∧∃ f':Nat,L.n=(f':Nat)∧skA enc A ((k + 1:Nat):Int)=(f':Nat)∧s2≤f'):=fun h0=>by
     have hkk:(k:Int) < (spn enc A).b:=by
      rcases Int.lt_or_eq_of_le hkB with h | h
      ·exact h
      ·exact absurd (HLT.out h).1 h0
     have h1:=(HM.out hkk).2
     have h2:=skA_in enc A ((k:Int) + 1) (by omega) (by omega)
     have h3:=HS2.out
     refine ⟨by omega,L.n.toNat,by omega,by rw [show ((k + 1:Nat):Int)=(k:Int) + 1 by omega,← h1];omega,by omega⟩
    obtain ⟨fn,tmps,assign,body,hy,hR⟩:=yield_any 8 (HYY.out s1 (alF enc A k) (k,L) w3 HJ3.out HPR.out)
    have HRR:=zh hR
    clear hR HM HLT HMT
    unfold lnV at hy
    simp only at hy
    gi_wp2_with fail
    refine HRR.out.mono ?_
    clear hy HRR
    rintro e w4 (⟨rfl,s3,hJ4,k4,n4⟩ | ⟨rfl,s3,hx4,k4,n4⟩)
    ·have HBX4:=zh ((k4.same w1.heap.size (by omega) (HOW.out _ (by omega))).trans HBX3.out)
     obtain ⟨_,y0,y1,y2,y3,_⟩:=cells4 HBX4.out
     have HJ4:=zh hJ4
     have HK4:=zh (HKW3.out.next HJ.out.2.2 k4)
     have HN4:=zh (HJ.out.2.2.trans n4 (by have:=HJ.out.2.1.size;omega))
     have HR4:Hid (Rdr enc A w4 W.heap.size t s2 (fun g=>¬ G.own s3 g)∧¬ G.own s3 W.heap.size):=⟨HR3.out.yielded HR.out.2 k4 n4 (HKP.out w4 HK4.out),fun e=>by
      rcases n4 _ e with e | e
      ·exact HR.out.2 e
      ·omega⟩
     clear hJ4 k4 n4 x0 x1 x2 x3
     by_cases hb0:L.b=0
     ·rw [hb0] at y3
      have HE:=zh (HFN.out hb0)
      gi_wp2_with fail
      refine bodyPost_ret (results_none rfl _ _ _) rfl ?_
      exact ⟨⟨_,rfl⟩,s3,HK4.out,HN4.out,.inl ⟨_,HE.out,HJ4.out⟩⟩
     ·have hbb:(L.b == 0)=false:=by simp [hb0]
      obtain ⟨hk1,f',hf1,hf2,hf3⟩:=HNX.out hb0
      have HF2:=zh hf2
      rw [hf1] at y2
      clear hf1 hf2
      gi_wp2_with fail
      refine ⟨⟨k + 1,f',s2,s3,by rw [Int.natCast_add];rfl,rfl,hk1,⟨HF2.out,hf3⟩,HR4.out,?_,HK4.out,HN4.out⟩,by simp [intOf];omega⟩
      rw [alF_succ,HL.out]
      exact HJ4.out
    ·have HX4:=zh hx4
     have HK4:=zh (HKW3.out.next HJ.out.2.2 k4)
     have HN4:=zh (HJ.out.2.2.trans n4 (by have:=HJ.out.2.1.size;omega))
     clear hx4 k4 n4
     gi_wp2_with fail
     refine bodyPost_ret (results_none rfl _ _ _) rfl ?_
     exact ⟨⟨_,rfl⟩,s3,HK4.out,HN4.out,.inr ⟨_,HPR.out,HX4.out⟩⟩
end Go.Proofs.YtgfdfajblidleaaGreat.P
namespace Go.Proofs.YtgfdfajblidleaaGreat.P
open Go.RowKit Go.Shelf
attribute [local go_sem] Oper.semAt_some
def kC (l:List (Nat × Ln)) (b:Int):Nat:=l.countP fun p=>p.2.b == b
theorem kC_snoc (l:List (Nat × Ln)) (x:Nat × Ln) (b:Int):kC (l ++ [x]) b=kC l b + if x.2.b=b then 1 else 0:=by
 unfold kC
 rw [List.countP_append,List.countP_singleton]
 simp only [beq_iff_eq]
theorem kC_le (l:List (Nat × Ln)) (b:Int):kC l b≤l.length:=List.countP_le_length
theorem al_len (enc:Int) (A:List Int):(al enc A).length≤A.length + 1:=by
 unfold al alF
 rw [List.length_map,List.length_range]
 have:=spn_len enc A
 unfold cnt
 split <;> omega
theorem al_b (enc:Int) (A:List Int) (p:Nat × Ln) (h:p ∈ al enc A):p.2.b=0∨p.2.b=1∨p.2.b=2∨p.2.b=3:=by
 unfold al alF at h
 obtain ⟨k,hk,rfl⟩:=List.mem_map.1 h
 show (lnK enc A k).b=0∨_
 unfold lnK
 split
 ·exact .inl rfl
 ·have:=knd_pos A (skA enc A ((k:Int) + 1)).toNat
  show knd _ _=0∨knd _ _=1∨knd _ _=2∨knd _ _=3
  omega
theorem All_at (t:Nat) (w:World) (k:Nat) (hk:w.heap.size=k):Calls Tryz.prog 22 #[.pointer (some ⟨t,0,none⟩)] w fun e w'=>e=.returned (.func (.func 43) #[] #[.pointer (some ⟨k,0,none⟩)])∧w'=w.alloc (.cells #[.pointer (some ⟨t,0,none⟩)] 26):=hk ▸ All_any t w
theorem begun3 (w:World) (a b v:Array Value) (e1 e2 e3:TypeId):∀ w3,w3=((w.alloc (.cells a e1)).alloc (.cells b e2)).alloc (.cells v e3) →
  w3.heap.size=w.heap.size + 3∧w3.heap[w.heap.size]?=some (.cells a e1 (0,0))∧w3.heap[w.heap.size + 1]?=some (.cells b e2 (0,0))∧w3.heap[w.heap.size + 2]?=some (.cells v e3 (0,0))∧Below w.heap.size w w3:=by
 rintro w3 rfl
 refine ⟨by simp,?_,?_,?_,zxa (zxa (zxa (Below.refl _ _) _) _) _⟩
 ·exact (Below.heap_alloc _ _ _ (by simp;omega)).trans ((Below.heap_alloc _ _ _ (by simp)).trans (heap_alloc_new _ _))
 ·have e:w.heap.size + 1=(w.alloc (.cells a e1)).heap.size:=by simp
  rw [e]
  exact (Below.heap_alloc _ _ _ (by simp)).trans (heap_alloc_new _ _)
 ·have e:w.heap.size + 2=((w.alloc (.cells a e1)).alloc (.cells b e2)).heap.size:=by simp
  rw [e]
  exact heap_alloc_new _ _
def KnI (b:Nat) (pre:List (Nat × Ln)) (W:World):Prop:=W.heap[b]?=some (.cells #[.int .i64 (kC pre 0:Nat),.int .i64 (kC pre 1:Nat),.int .i64 (kC pre 2:Nat),.int .i64 (kC pre 3:Nat)] 53 (0,0))
set_option maxHeartbeats 4000000 in
theorem Kinds_z (enc:Int) (w:World) (t:Nat) (A:List Int) (h:Tz enc w t A):Calls Tryz.prog 15 #[.pointer (some ⟨t,0,none⟩)] w fun e w'=>e=.returned (.agg #[.int .i64 (kC (al enc A) 0:Nat),.int .i64 (kC (al enc A) 1:Nat),.int .i64 (kC (al enc A) 2:Nat),.int .i64 (kC (al enc A) 3:Nat)])∧Below w.heap.size w w':=by
 have HT:=zh h
 have hlA:=h.len
 have hal:=al_len enc A
 refine (callsIn_wide (n:=9)).1 ?_
 refine callsIn_of_wp_marks Tryz.func15 rfl trivial ?_ rfl
 simp only [Tryz.ntmps15,List.size_toArray,List.length_cons,List.length_nil,Nat.reduceAdd,Nat.reduceSub,Array.replicate_succ,Array.replicate_zero,List.push_toArray,List.append_toArray,List.nil_append,List.cons_append]
 refine wpIn_mono (Q:=calm _) ?_ (fun _ _ _ h=>calm_imp h)
 refine wpIn_wide.2 ?_
 have AL:=zh (All_at t ((w.alloc (.cells #[.int .i64 0,.int .i64 0,.int .i64 0,.int .i64 0] 53)).alloc (.cells #[.int .i64 0,.int .i64 0,.int .i64 0,.int .i64 0] 53)) (w.heap.size + 2) (by simp))
 go_wp2_with (go_at_call 22;refine AL.out.mono ?_;rintro e w3 ⟨rfl,hw3⟩;have HW3:=zh hw3;clear hw3 AL;(try dsimp only))
 have HG3:=zh (begun3 w _ _ _ _ _ _ w3 HW3.out)
 have hs3:=HG3.out.1
 have SQ:=zh (all_stops 8 enc A t w HT.out w3 HG3.out.2.2.2.2 (w.heap.size + 2) (by omega) HG3.out.2.2.2.1)
 clear HW3 h
 refine (wpIn_wide (n:=9)).1 ?_
 refine range_x (σ:=Unit) rfl (by omega) (gf:=43) (lb:=#[.pointer (some ⟨w.heap.size + 2,0,none⟩)]) rfl trivial (enters_of Tryz.func43 (by kernel_rfl) rfl) SQ.out (Kps.refl _ _) (fun _=>rfl)
  (fun _ k=>k=w.heap.size + 1) (fun _ pre W=>KnI (w.heap.size + 1) pre W) (fun _ _ _ _=>False) ()
  ?rel (fun _=>False) (fun k hk=>hk.elim) (fun _ _ _ _ h hz hk=>(hk _ (.inl rfl)).trans h) (fun _ _ _ _ _ h _ _=>h) (fun _ _ _ h k hk=>by rw [hk];exact (Array.getElem?_eq_some_iff.1 h).1) ?h0
  (fun q a' W=>∃ b,w3.heap.size + 2≤b∧b < W.heap.size∧W.heap[b]?=some (.cells #[.int .i64 q.2.f,.int .i64 q.2.t,.int .i64 q.2.n,.int .i64 q.2.b] 50 (0,0))∧a'={ tmps:=#[.pointer (some ⟨t,0,none⟩),undef,.pointer (some ⟨w.heap.size,0,none⟩),.pointer (some ⟨w.heap.size + 1,0,none⟩),undef,.pointer (some ⟨b,0,none⟩),.pointer (some ⟨t,0,none⟩),.func (.func 43) #[] #[.pointer (some ⟨w.heap.size + 2,0,none⟩)],.int .i64 (q.1:Nat),lnV q.2,undef,undef,undef,undef,undef,undef,undef],defers:=[] })
  (fun _ _ _ _ h hz hk=>by obtain ⟨b,h1,h2,h3,h4⟩:=h;exact ⟨b,h1,by omega,(hk b h1 h2).trans h3,h4⟩) ?assign ?body ?done ?stop
 case rel =>
  rintro k (hk | rfl)
  ·exact ⟨by omega,fun h=>by omega⟩
  ·exact ⟨by omega,fun h=>by omega⟩
 case h0=>exact HG3.out.2.2.1
 case assign =>
  intro l q W K hz hK
  unfold lnV at hK ⊢
  gi_wp2_with fail
  exact hK _ _ (zxa (Below.refl _ _) _) ⟨W.heap.size,hz,by simp,heap_alloc_new _ _,rfl⟩
 case body =>
  rintro l s pre q a' W hI ⟨b,hb1,hb2,hb3,rfl⟩ hSp hzW
  obtain ⟨_,c0,c1,c2,c3,_⟩:=cells4 hb3
  obtain ⟨_,d0,d1,d2,d3,df⟩:=cells4 hI
  have HI:=zh hI
  have hq:=al_b enc A q (hSp.subset (by simp))
  have hln:pre.length≤65536:=by have:=hSp.length_le;rw [List.length_append,List.length_singleton] at this;omega
  have l0:=kC_le pre 0
  have l1:=kC_le pre 1
  have l2:=kC_le pre 2
  have l3:=kC_le pre 3
  have HKS:Hid (∀ i:Int,kC (pre ++ [q]) i=kC pre i + if q.2.b=i then 1 else 0):=fun i=>kC_snoc pre q i
  unfold lnV
  unfold KnI at HI
  clear hSp SQ HG3 hI hb3 c0 c1 c2
  have HC:Hid (∃ c0 c1 c2 c3:Nat,kC pre 0=c0∧kC pre 1=c1∧kC pre 2=c2∧kC pre 3=c3):=⟨_,_,_,_,rfl,rfl,rfl,rfl⟩
  obtain ⟨e0,e1,e2,e3,g0,g1,g2,g3⟩:=HC.out
  have HG:Hid (kC pre 0=e0∧kC pre 1=e1∧kC pre 2=e2∧kC pre 3=e3):=⟨g0,g1,g2,g3⟩
  rw [g0,g1,g2,g3] at HI
  rw [g0] at d0 l0
  rw [g1] at d1 l1
  rw [g2] at d2 l2
  rw [g3] at d3 l3
  clear HC g0 g1 g2 g3
  refine wpIn_block ?_
  rcases hq with hb | hb | hb | hb
  ·rw [hb] at c3 HKS
   have hwj:IntKind.i64.wrap ((e0:Int) + 1)=((e0 + 1:Nat):Int):=by rw [IntKind.wrap_i64];omega
   gi_wp2_with fail
   obtain ⟨s1,s2⟩:=set1 HI.out 0 (.int .i64 ((e0:Int) + 1))
   refine ⟨(),?_,Kps.grown s2 (fun k hk _=>by cases hk;rfl),fun k h=>.inl h⟩
   show KnI (w.heap.size + 1) (pre ++ [q]) _
   have k0:kC (pre ++ [q]) 0=e0 + 1:=by rw [HKS.out 0,HG.out.1];rfl
   have k1:kC (pre ++ [q]) 1=e1:=by rw [HKS.out 1,HG.out.2.1];rfl
   have k2:kC (pre ++ [q]) 2=e2:=by rw [HKS.out 2,HG.out.2.2.1];rfl
   have k3:kC (pre ++ [q]) 3=e3:=by rw [HKS.out 3,HG.out.2.2.2];rfl
   unfold KnI
   rw [k0,k1,k2,k3,Int.natCast_add]
   exact s1
  ·rw [hb] at c3 HKS
   have hwj:IntKind.i64.wrap ((e1:Int) + 1)=((e1 + 1:Nat):Int):=by rw [IntKind.wrap_i64];omega
   gi_wp2_with fail
   obtain ⟨s1,s2⟩:=set1 HI.out 1 (.int .i64 ((e1:Int) + 1))
   refine ⟨(),?_,Kps.grown s2 (fun k hk _=>by cases hk;rfl),fun k h=>.inl h⟩
   show KnI (w.heap.size + 1) (pre ++ [q]) _
   have k0:kC (pre ++ [q]) 0=e0:=by rw [HKS.out 0,HG.out.1];rfl
   have k1:kC (pre ++ [q]) 1=e1 + 1:=by rw [HKS.out 1,HG.out.2.1];rfl
   have k2:kC (pre ++ [q]) 2=e2:=by rw [HKS.out 2,HG.out.2.2.1];rfl
   have k3:kC (pre ++ [q]) 3=e3:=by rw [HKS.out 3,HG.out.2.2.2];rfl
   unfold KnI
   rw [k0,k1,k2,k3,Int.natCast_add]
   exact s1
  ·rw [hb] at c3 HKS
   have hwj:IntKind.i64.wrap ((e2:Int) + 1)=((e2 + 1:Nat):Int):=by rw [IntKind.wrap_i64];omega
   gi_wp2_with fail
   obtain ⟨s1,s2⟩:=set1 HI.out 2 (.int .i64 ((e2:Int) + 1))
   refine ⟨(),?_,Kps.grown s2 (fun k hk _=>by cases hk;rfl),fun k h=>.inl h⟩
   show KnI (w.heap.size + 1) (pre ++ [q]) _
   have k0:kC (pre ++ [q]) 0=e0:=by rw [HKS.out 0,HG.out.1];rfl
   have k1:kC (pre ++ [q]) 1=e1:=by rw [HKS.out 1,HG.out.2.1];rfl
   have k2:kC (pre ++ [q]) 2=e2 + 1:=by rw [HKS.out 2,HG.out.2.2.1];rfl
   have k3:kC (pre ++ [q]) 3=e3:=by rw [HKS.out 3,HG.out.2.2.2];rfl
   unfold KnI
   rw [k0,k1,k2,k3,Int.natCast_add]
   exact s1
  ·rw [hb] at c3 HKS
   have hwj:IntKind.i64.wrap ((e3:Int) + 1)=((e3 + 1:Nat):Int):=by rw [IntKind.wrap_i64];omega
   gi_wp2_with fail
   obtain ⟨s1,s2⟩:=set1 HI.out 3 (.int .i64 ((e3:Int) + 1))
   refine ⟨(),?_,Kps.grown s2 (fun k hk _=>by cases hk;rfl),fun k h=>.inl h⟩
   show KnI (w.heap.size + 1) (pre ++ [q]) _
   have k0:kC (pre ++ [q]) 0=e0:=by rw [HKS.out 0,HG.out.1];rfl
   have k1:kC (pre ++ [q]) 1=e1:=by rw [HKS.out 1,HG.out.2.1];rfl
   have k2:kC (pre ++ [q]) 2=e2:=by rw [HKS.out 2,HG.out.2.2.1];rfl
   have k3:kC (pre ++ [q]) 3=e3 + 1:=by rw [HKS.out 3,HG.out.2.2.2];rfl
   unfold KnI
   rw [k0,k1,k2,k3,Int.natCast_add]
   exact s1
 case done =>
  intro s xs W hk hnw hS hI hdf hno
  subst hS
  have HK:=zh hk
  have hr0:W.heap[w.heap.size]?=some (.cells #[.int .i64 0,.int .i64 0,.int .i64 0,.int .i64 0] 53 (0,0)):=(hk.same w.heap.size (by omega) (by omega)).trans HG3.out.2.1
  have HR0:=zh hr0
  obtain ⟨_,r0,r1,r2,r3,rf⟩:=cells4 hr0
  obtain ⟨_,d0,d1,d2,d3,df⟩:=cells4 hI
  have HB:=zh HG3.out.2.2.2.2
  obtain ⟨e0,g0⟩:∃ e,kC (al enc A) 0=e:=⟨_,rfl⟩
  obtain ⟨e1,g1⟩:∃ e,kC (al enc A) 1=e:=⟨_,rfl⟩
  obtain ⟨e2,g2⟩:∃ e,kC (al enc A) 2=e:=⟨_,rfl⟩
  obtain ⟨e3,g3⟩:∃ e,kC (al enc A) 3=e:=⟨_,rfl⟩
  have HE:Hid (kC (al enc A) 0=e0∧kC (al enc A) 1=e1∧kC (al enc A) 2=e2∧kC (al enc A) 3=e3):=⟨g0,g1,g2,g3⟩
  rw [g0] at d0
  rw [g1] at d1
  rw [g2] at d2
  rw [g3] at d3
  clear hnw SQ HG3 hr0 hI g0 g1 g2 g3
  gi_wp2
  go_wp2_with fail
  generalize hw5:World.setCell _ _ _=w5
  have HW5:Hid (w5.heap[w.heap.size]?=some (.cells #[.int .i64 (e0:Nat),.int .i64 (e1:Nat),.int .i64 (e2:Nat),.int .i64 (e3:Nat)] 53 (0,0))∧W.grownBy w5 (some w.heap.size)):=by
   have h0:(W.setCell ⟨w.heap.size,0,none⟩ (.int .i64 (e0:Nat))).heap[w.heap.size]?=some (.cells #[.int .i64 (e0:Nat),.int .i64 0,.int .i64 0,.int .i64 0] 53 (0,0)):=(set1 HR0.out 0 _).1
   have h1:((W.setCell ⟨w.heap.size,0,none⟩ (.int .i64 (e0:Nat))).setCell ⟨w.heap.size,1,none⟩ (.int .i64 (e1:Nat))).heap[w.heap.size]?=some (.cells #[.int .i64 (e0:Nat),.int .i64 (e1:Nat),.int .i64 0,.int .i64 0] 53 (0,0)):=(set1 h0 1 _).1
   have h2:(((W.setCell ⟨w.heap.size,0,none⟩ (.int .i64 (e0:Nat))).setCell ⟨w.heap.size,1,none⟩ (.int .i64 (e1:Nat))).setCell ⟨w.heap.size,2,none⟩ (.int .i64 (e2:Nat))).heap[w.heap.size]?=some (.cells #[.int .i64 (e0:Nat),.int .i64 (e1:Nat),.int .i64 (e2:Nat),.int .i64 0] 53 (0,0)):=(set1 h1 2 _).1
   unfold Hid
   rw [← hw5]
   exact ⟨(set1 h2 3 _).1,zgt (zgt (zgt (set1 HR0.out 0 _).2 (set1 h0 1 _).2) (set1 h1 2 _).2) (set1 h2 3 _).2⟩
  clear hw5 r0 r1 r2 r3 rf d0 d1 d2 d3 df
  have hdf5:w5.heap[w3.heap.size]?=some (Obj.deferred (some [])):=(HW5.out.2.block _ (Array.getElem?_eq_some_iff.1 hdf).1 (by intro e;have:=Option.some.inj e;omega)).trans hdf
  obtain ⟨_,r0,r1,r2,r3,rf⟩:=cells4 HW5.out.1
  refine ⟨by simp,.inl ⟨_,_,rfl,run_takeDeferred hdf5,?_⟩⟩
  generalize hw6:World.putObj _ _ _=w6
  have HW6:Hid (w6.heap[w.heap.size]?=some (.cells #[.int .i64 (e0:Nat),.int .i64 (e1:Nat),.int .i64 (e2:Nat),.int .i64 (e3:Nat)] 53 (0,0))∧Below w.heap.size w w6):=by
   unfold Hid
   rw [← hw6]
   refine ⟨(World.putObj_heap_other (by omega)).trans HW5.out.1,?_⟩
   refine HB.out.trans (Kps.below (o:=fun k=>w.heap.size≤k) ?_ HB.out.size (fun k hk=>hk))
   exact Kps.trans ((HK.out.mono fun i _ hi=>by omega).trans (Kps.grown (o:=fun k=>w.heap.size≤k) HW5.out.2 (fun k hk _=>by cases hk;exact Nat.le_refl _)) (fun _ _ e=>e)) (Kps.put (o:=fun k=>w.heap.size≤k) _ (by omega)) (fun _ _ e=>e)
  clear hw6 r0 r1 r2 r3 rf
  obtain ⟨_,r0,r1,r2,r3,rf⟩:=cells4 HW6.out.1
  refine ⟨.agg #[.int .i64 (e0:Nat),.int .i64 (e1:Nat),.int .i64 (e2:Nat),.int .i64 (e3:Nat)],by simp [results,Tryz.results15,go_sem,r0,r1,r2,r3],?_⟩
  exact ⟨by rw [HE.out.1,HE.out.2.1,HE.out.2.2.1,HE.out.2.2.2],HW6.out.2⟩
 case stop=>rintro c s pre W hk hnw hSp h;exact h.elim
open Go.RowKit
theorem same_yes (v1 v2:Value) (zs:List Int) (w:World) (h1:Rd .i64 w v1 zs) (h2:Rd .i64 w v2 zs) :
  Calls Tryz.prog 11 #[v1,v2] w fun e w'=>e=.returned (.bool true)∧Below w.heap.size w w':=by
 have hlen:=h1.len
 obtain ⟨ao,cap,rfl,hl1,hc1,h1⟩:=h1
 obtain ⟨ao2,cap2,rfl,hl2,hc2,h2⟩:=h2
 by_cases hn:zs=[]
 ·subst hn
  clear h1 h2
  simp only [List.length_nil]
  go_enter Tryz.func11,Tryz.ntmps11
  go_wp2
  refine wp_loop_rounds 1 ?_
  rw [rounds_succ]
  go_wp2
  go_ret
  exact ⟨rfl,Below.refl _ _⟩
 ·obtain ⟨b,off,rfl,hb,hcl⟩:=h1 hn
  obtain ⟨b2,off2,rfl,hb2,hcl2⟩:=h2 hn
  have hq:((zs.length:Int) != (zs.length:Int))=false:=by simp
  clear h1 h2 hn
  go_enter Tryz.func11,Tryz.ntmps11
  go_wp2
  go_loopw [5] (fun i wr=>∃ k:Nat,k≤zs.length∧i=.int .i64 k∧Below w.heap.size w wr) (fun i _=>zs.length - (intOf i).toNat)
  case atStart=>exact ⟨0,Nat.zero_le _,rfl,Below.refl _ _⟩
  case round =>
   obtain ⟨k,hk,rfl,hbw⟩:=hrel
   by_cases hlt:k < zs.length
   ·have c1:wr.cell? ⟨b,off + k,none⟩=some (.int .i64 (zs[k]?.getD 0)):=(hbw.cell (p:=⟨b,off + k,none⟩) hb).trans (hcl _ hlt)
    have c2:wr.cell? ⟨b2,off2 + k,none⟩=some (.int .i64 (zs[k]?.getD 0)):=(hbw.cell (p:=⟨b2,off2 + k,none⟩) hb2).trans (hcl2 _ hlt)
    have hi1:(k:Int) < (zs.length:Int):=by omega
    generalize zs[k]?.getD 0=x at *
    clear hcl hcl2
    go_wp2
    go_quiet (fail)
    go_wp2
    go_roundw
    case rel=>exact ⟨k + 1,by omega,by go_num,below_drewN hbw _⟩
    case measure=>simp [intOf];omega
   ·clear hcl hcl2
    go_wp2
    go_ret
    exact ⟨rfl,hbw⟩
end Go.Proofs.YtgfdfajblidleaaGreat.P
