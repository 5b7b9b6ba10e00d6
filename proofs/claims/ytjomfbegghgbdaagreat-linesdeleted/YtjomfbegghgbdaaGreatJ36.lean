import Derived.Test.YtjomfbegghgbdaaGreatJ00
import Derived.Test.YtjomfbegghgbdaaGreatJ28
import Derived.Test.YtjomfbegghgbdaaGreatJ34
import Derived.Test.YtjomfbegghgbdaaGreatJ30
import Derived.Deep.CutRange
import Derived.BigQuiet
namespace Go.Proofs.YtjomfbegghgbdaaGreat.P
open Go.RowKit
def spk (b:Int):List Int:=if b=1 then [10] else if b=2 then [13,10] else if b=3 then [13] else []
def atK (enc:Int) (A:List Int) (i:Nat):Nat:=if (i:Int)≤(spn enc A).b then (skA enc A i).toNat else A.length
section
variable {enc:Int} {A:List Int} {i:Nat}
theorem lnA_inT (h0:(i:Int)≤(spn enc A).b):lnA enc A i=lnK enc A i∧lnE enc A i=0:=by
 unfold lnA lnE
 rw [if_neg (by omega),if_neg (by omega)]
 exact ⟨rfl,rfl⟩
theorem isE_iff {p:Nat}:isE A p=true ↔ (A[p]?=some 10∨(A[p]?=some 13∧A[p + 1]?≠some 10)):=by unfold isE;rw [decide_eq_true_eq]
theorem atK_zero:atK enc A 0=0:=by
 unfold atK
 rw [if_pos (show ((0:Nat):Int)≤_ from spn_nn enc A)]
 show (skA enc A 0).toNat=0
 rw [skA_zero]
 rfl
theorem atK_in (h:(i:Int)≤(spn enc A).b):skA enc A i=(atK enc A i:Nat)∧atK enc A i≤A.length:=by
 have:=skA_in enc A i (by omega) h
 unfold atK
 rw [if_pos h]
 omega
theorem bAt_line (h:(i:Int)≤(spn enc A).b) {k:Nat} (h1:atK enc A i≤k) (h2:k < atK enc A (i + 1)):bAt enc A k=i:=by
 obtain ⟨e1,e2⟩:=atK_in h
 have hge:(i:Int)≤bAt enc A k:=by
  rcases Nat.eq_zero_or_pos i with rfl | hp
  ·exact bAt_nn enc A k
  ·have:=(lt_skA enc A i (by omega) h k).2
   rcases Int.lt_or_le (bAt enc A k) i with h3 | h3
   ·have:=this h3;omega
   ·exact h3
 by_cases hi:(i:Int) < (spn enc A).b
 ·have h3:((i + 1:Nat):Int)≤(spn enc A).b:=by omega
  obtain ⟨e3,e4⟩:=atK_in h3
  have:=(lt_skA enc A ((i + 1:Nat):Int) (by omega) h3 k).1 (by omega)
  omega
 ·have:=bAt_le enc A k
  omega
theorem no_end (h:(i:Int)≤(spn enc A).b) {k:Nat} (h1:atK enc A i≤k) (h2:k + 1 < atK enc A (i + 1)) (hl:k < A.length):isE A k=false:=by
 have e1:=bAt_line h h1 (by omega)
 have e2:=bAt_line h (show atK enc A i≤k + 1 by omega) h2
 rw [bAt_succ enc A k hl,e1] at e2
 cases hE:isE A k with
 | false=>rfl
 | true=>rw [hE] at e2;simp at e2;omega
theorem line_end (h:(i:Int) < (spn enc A).b):atK enc A i < atK enc A (i + 1)∧atK enc A (i + 1)≤A.length∧isE A (atK enc A (i + 1) - 1)=true∧lnK enc A i=⟨(atK enc A i:Nat),(atK enc A (i + 1):Nat) - wid (knd A (atK enc A (i + 1))),(atK enc A (i + 1):Nat),knd A (atK enc A (i + 1))⟩:=by
 have h3:((i + 1:Nat):Int)≤(spn enc A).b:=by omega
 obtain ⟨e1,e2⟩:=atK_in (enc:=enc) (A:=A) (i:=i) (by omega)
 obtain ⟨e3,e4⟩:=atK_in h3
 obtain ⟨p,e,p1,p2,p3,p4⟩:=skA_at enc A ((i + 1:Nat):Int) (by omega) h3
 have hp:atK enc A (i + 1)=p:=by omega
 rw [hp] at e3 e4 ⊢
 have hlt:atK enc A i < p:=by
  rcases Nat.eq_zero_or_pos i with rfl | hpos
  ·rw [atK_zero];omega
  ·rcases Nat.lt_or_ge (atK enc A i) p with h5 | h5
   ·exact h5
   ·obtain ⟨r,f,r1,r2,r3,r4⟩:=skA_at enc A (i:Int) (by omega) (by omega)
    have:=bAt_mono enc A p r (by omega)
    omega
 refine ⟨hlt,e4,?_,?_⟩
 ·have:=bAt_succ enc A (p - 1) (by omega)
  rw [show p - 1 + 1=p by omega] at this
  cases hE:isE A (p - 1) with
  | true=>rfl
  | false=>rw [hE] at this;simp at this;omega
 ·unfold lnK
  rw [if_neg (by omega),e1,show ((i:Int) + 1)=((i + 1:Nat):Int) by omega,e3]
  rfl
theorem take_two {t:Nat} {x y:Int} (h1:A[t]?=some x) (h2:A[t + 1]?=some y):(A.drop t).take 2=[x,y]:=by
 obtain ⟨l1,e1⟩:=List.getElem?_eq_some_iff.1 h1
 obtain ⟨l2,e2⟩:=List.getElem?_eq_some_iff.1 h2
 rw [List.drop_eq_getElem_cons l1,List.drop_eq_getElem_cons l2,e1,e2]
 rfl
theorem take_one {t:Nat} {x:Int} (h1:A[t]?=some x):(A.drop t).take 1=[x]:=by
 obtain ⟨l1,e1⟩:=List.getElem?_eq_some_iff.1 h1
 rw [List.drop_eq_getElem_cons l1,e1]
 rfl
structure Tile (enc:Int) (A:List Int) (i f t n:Nat) (b:Int):Prop where
 at_:lnA enc A i=⟨(f:Nat),(t:Nat),(n:Nat),b⟩
 er:lnE enc A i=0
 f0:f=atK enc A i
 n0:n=atK enc A (i + 1)
 ft:f≤t
 tn:t≤n
 nl:n≤A.length
 b0:0≤b
 b3:b≤3
 no:∀ k,f≤k→k < t→A[k]?≠some 10∧A[k]?≠some 13
 sp:(A.drop t).take (n - t)=spk b
 la:b=0→(i:Int) + 1=cnt enc A∧(f=t→A.length=0)
 cr:b=3→A[n]?≠some 10
 of:∀ k:Nat,f≤k→k < n→brk enc A (k:Nat)=i
theorem tile_mid (h:(i:Int) < (spn enc A).b):∃ f t n b,Tile enc A i f t n b∧1≤b:=by
 obtain ⟨h1,h2,h3,h4⟩:=line_end h
 obtain ⟨k1,k2⟩:=lnA_inT (enc:=enc) (A:=A) (i:=i) (by omega)
 have hof:∀ k:Nat,atK enc A i≤k→k < atK enc A (i + 1)→brk enc A (k:Nat)=i:=fun k a b=>by
  rw [brk_at,Int.toNat_natCast]
  exact bAt_line (by omega) a b
 have hno:∀ k,atK enc A i≤k→k + 1 < atK enc A (i + 1)→A[k]?≠some 10∧(A[k]?=some 13→A[k + 1]?=some 10∧k + 2=atK enc A (i + 1)):=fun k a b=>by
  have e:=no_end (show (i:Int)≤(spn enc A).b by omega) a b (by omega)
  refine ⟨fun h=>?_,fun h=>?_⟩
  ·rw [isE_iff.2 (.inl h)] at e;cases e
  ·by_cases h10:A[k + 1]?=some 10
   ·refine ⟨h10,?_⟩
    rcases Nat.lt_or_ge (k + 2) (atK enc A (i + 1)) with h5 | h5
    ·have e2:=no_end (show (i:Int)≤(spn enc A).b by omega) (show atK enc A i≤k + 1 by omega) h5 (by omega)
     rw [isE_iff.2 (.inl h10)] at e2;cases e2
    ·omega
   ·rw [isE_iff.2 (.inr ⟨h,h10⟩)] at e;cases e
 generalize hn:atK enc A (i + 1)=n at *
 generalize hf:atK enc A i=f at *
 rw [← k1] at h4
 rcases isE_iff.1 h3 with h10 | ⟨h13,hx⟩
 ·have hk3:¬ A[n - 1]?=some 13:=by rw [h10];simp
  by_cases hc:2≤n∧A[n - 2]?=some 13
  ·have kd:knd A n=2:=by unfold knd;rw [if_neg hk3,if_pos hc]
   rw [kd] at h4
   have hfn:f≤n - 2:=by
    rcases Nat.lt_or_ge (n - 2) f with h5 | h5
    ·have hfe:f=n - 1:=by omega
     rcases Nat.eq_zero_or_pos i with rfl | hp
     ·rw [atK_zero] at hf;omega
     ·obtain ⟨j,rfl⟩:∃ j,i=j + 1:=⟨i - 1,by omega⟩
      obtain ⟨_,_,g3,_⟩:=line_end (enc:=enc) (A:=A) (i:=j) (by omega)
      rw [hf,hfe] at g3
      rcases isE_iff.1 g3 with g | ⟨_,g⟩
      ·rw [show n - 1 - 1=n - 2 by omega,hc.2] at g;simp at g
      ·exact absurd (by rw [show n - 1 - 1 + 1=n - 1 by omega];exact h10) g
    ·exact h5
   refine ⟨f,n - 2,n,2,⟨?_,k2,hf.symm,hn.symm,hfn,by omega,h2,by decide,by decide,fun k a b=>?_,?_,fun e=>absurd e (by decide),fun e=>absurd e (by decide),hof⟩,by decide⟩
   ·rw [h4]
    unfold wid
    rw [if_pos rfl]
    congr 1
    omega
   ·obtain ⟨q1,q2⟩:=hno k a (by omega)
    exact ⟨q1,fun h=>by have:=(q2 h).2;omega⟩
   ·rw [show n - (n - 2)=2 by omega,take_two hc.2 (by rw [show n - 2 + 1=n - 1 by omega];exact h10)]
    rfl
  ·have kd:knd A n=1:=by unfold knd;rw [if_neg hk3,if_neg hc]
   rw [kd] at h4
   refine ⟨f,n - 1,n,1,⟨?_,k2,hf.symm,hn.symm,by omega,by omega,h2,by decide,by decide,fun k a b=>?_,?_,fun e=>absurd e (by decide),fun e=>absurd e (by decide),hof⟩,by decide⟩
   ·rw [h4]
    unfold wid
    rw [if_neg (by decide)]
    congr 1
    omega
   ·obtain ⟨q1,q2⟩:=hno k a (by omega)
    exact ⟨q1,fun h=>hc ⟨by omega,by rw [show n - 2=k by have:=(q2 h).2;omega];exact h⟩⟩
   ·rw [show n - (n - 1)=1 by omega,take_one h10]
    rfl
 ·have kd:knd A n=3:=by unfold knd;rw [if_pos h13]
  rw [kd] at h4
  refine ⟨f,n - 1,n,3,⟨?_,k2,hf.symm,hn.symm,by omega,by omega,h2,by decide,by decide,fun k a b=>?_,?_,fun e=>absurd e (by decide),fun _=>by rw [show n - 1 + 1=n by omega] at hx;exact hx,hof⟩,by decide⟩
  ·rw [h4]
   unfold wid
   rw [if_neg (by decide)]
   congr 1
   omega
  ·obtain ⟨q1,q2⟩:=hno k a (by omega)
   exact ⟨q1,fun h=>by
    obtain ⟨g1,g2⟩:=q2 h
    rw [show k + 1=n - 1 by omega,h13] at g1
    simp at g1⟩
  ·rw [show n - (n - 1)=1 by omega,take_one h13]
   rfl
theorem tile_last (h:(i:Int)=(spn enc A).b) (hc:(i:Int) < cnt enc A):Tile enc A i (atK enc A i) A.length A.length 0:=by
 obtain ⟨k1,k2⟩:=lnA_inT (enc:=enc) (A:=A) (i:=i) (by omega)
 obtain ⟨e1,e2⟩:=atK_in (enc:=enc) (A:=A) (i:=i) (by omega)
 have en:atK enc A (i + 1)=A.length:=by unfold atK;rw [if_neg (by omega)]
 have hct:=cnt_tail enc A
 refine ⟨?_,k2,rfl,en.symm,e2,Nat.le_refl _,Nat.le_refl _,by decide,by decide,fun k a b=>?_,?_,fun _=>⟨?_,fun e=>?_⟩,fun e=>absurd e (by decide),fun k a b=>?_⟩
 ·rw [k1]
  unfold lnK
  rw [if_pos h,e1]
 ·have hE:isE A k=false:=by
   have b1:=bAt_line (show (i:Int)≤(spn enc A).b by omega) a (by omega)
   have b2:=bAt_succ enc A k b
   have b3:=bAt_le enc A (k + 1)
   cases hE:isE A k with
   | false=>rfl
   | true=>rw [hE] at b2;simp at b2;omega
  refine ⟨fun h=>?_,fun h=>?_⟩
  ·rw [isE_iff.2 (.inl h)] at hE;cases hE
  ·by_cases h10:A[k + 1]?=some 10
   ·have hl:=(List.getElem?_eq_some_iff.1 h10).1
    have b1:=bAt_line (show (i:Int)≤(spn enc A).b by omega) (show atK enc A i≤k + 1 by omega) (by omega)
    have b2:=bAt_succ enc A (k + 1) hl
    have b3:=bAt_le enc A (k + 1 + 1)
    rw [isE_iff.2 (.inl h10)] at b2
    simp at b2
    omega
   ·rw [isE_iff.2 (.inr ⟨h,h10⟩)] at hE;cases hE
 ·rw [Nat.sub_self,List.take_zero]
  rfl
 ·rw [hct]
  rw [hct] at hc
  split at hc
  ·omega
  ·rename_i hq
   rw [if_neg hq]
   omega
 ·rw [hct] at hc
  split at hc
  ·omega
  ·rename_i hq
   rcases Nat.eq_zero_or_pos i with rfl | hp
   ·rw [atK_zero] at e;omega
   ·exact absurd ⟨by omega,by rw [← h,e1,e]⟩ hq
 ·rw [brk_at,Int.toNat_natCast]
  exact bAt_line (by omega) a (by omega)
theorem tile_any (hc:(i:Int) < cnt enc A):∃ f t n b,Tile enc A i f t n b:=by
 have hct:=cnt_tail enc A
 by_cases h:(i:Int) < (spn enc A).b
 ·obtain ⟨f,t,n,b,h,_⟩:=tile_mid h
  exact ⟨f,t,n,b,h⟩
 ·exact ⟨_,_,_,_,tile_last (by rw [hct] at hc;split at hc <;> omega) hc⟩
theorem atK_end (hc:(i:Int)=cnt enc A):atK enc A i=A.length:=by
 have hct:=cnt_tail enc A
 unfold atK
 rw [hct] at hc
 split at hc
 ·rename_i hq
  rw [if_pos (by omega),hc,hq.2]
  omega
 ·rw [if_neg (by omega)]
end
end Go.Proofs.YtjomfbegghgbdaaGreat.P
namespace Go.Proofs.YtjomfbegghgbdaaGreat.P
open Go.RowKit
set_option maxRecDepth 100000 in
theorem same_yes (v1 v2:Value) (zs:List Int) (w:World) (h1:Rd .i64 w v1 zs) (h2:Rd .i64 w v2 zs) :
  Calls Tryz.prog 24 #[v1,v2] w fun e w'=>e=.returned (.bool true)∧Below w.heap.size w w':=by
 have hlen:=h1.len
 obtain ⟨ao,cap,rfl,hl1,hc1,h1⟩:=h1
 obtain ⟨ao2,cap2,rfl,hl2,hc2,h2⟩:=h2
 by_cases hn:zs=[]
 ·subst hn
  clear h1 h2
  simp only [List.length_nil]
  go_enter Tryz.func24,Tryz.ntmps24
  go_wp2
  refine wp_loop_rounds 1 ?_
  rw [rounds_succ]
  go_wp2
  go_ret
  exact ⟨rfl,Below.refl _ _⟩
 ·obtain ⟨b,off,rfl,hb,hcl⟩:=h1 hn
  obtain ⟨b2,off2,rfl,hb2,hcl2⟩:=h2 hn
  have hq:((zs.length:Int) != (zs.length:Int))=false:=by simp
  clear h1 h2 hn
  go_enter Tryz.func24,Tryz.ntmps24
  go_wp2
  go_loopw [5] (fun i wr=>∃ k:Nat,k≤zs.length∧i=.int .i64 k∧Below w.heap.size w wr) (fun i _=>zs.length - (intOf i).toNat)
  case atStart=>exact ⟨0,Nat.zero_le _,rfl,Below.refl _ _⟩
  case round =>
   obtain ⟨k,hk,rfl,hbw⟩:=hrel
   by_cases hlt:k < zs.length
   ·have c1:wr.cell? ⟨b,off + k,none⟩=some (.int .i64 (zs[k]?.getD 0)):=(hbw.cell (p:=⟨b,off + k,none⟩) hb).trans (hcl _ hlt)
    have c2:wr.cell? ⟨b2,off2 + k,none⟩=some (.int .i64 (zs[k]?.getD 0)):=(hbw.cell (p:=⟨b2,off2 + k,none⟩) hb2).trans (hcl2 _ hlt)
    have hi1:(k:Int) < (zs.length:Int):=by omega
    generalize zs[k]?.getD 0=x at *
    clear hcl hcl2
    go_wp2
    go_quiet (fail)
    go_wp2
    go_roundw
    case rel=>exact ⟨k + 1,by omega,by go_num,below_drewN hbw _⟩
    case measure=>simp [intOf];omega
   ·clear hcl hcl2
    go_wp2
    go_ret
    exact ⟨rfl,hbw⟩
theorem cnt_rng (enc:Int) (A:List Int):1≤cnt enc A∧cnt enc A≤A.length + 1:=by
 have h1:=spn_nn enc A
 have h2:=spn_len enc A
 rw [cnt_tail]
 split <;> omega
def Seen (w:World) (bs:Nat) (enc:Int) (A:List Int) (i:Nat):Prop:=w.heap[bs]?=some (.cells #[.int .i64 (kC (alF enc A i) 0:Nat),.int .i64 (kC (alF enc A i) 1:Nat),.int .i64 (kC (alF enc A i) 2:Nat),.int .i64 (kC (alF enc A i) 3:Nat)] 53 (0,0))
theorem Tile.kC {enc:Int} {A:List Int} {i f t n:Nat} {b:Int} (h:Tile enc A i f t n b) (hi:(i:Int) < cnt enc A) (x:Int):kC (alF enc A (i + 1)) x=kC (alF enc A i) x + if b=x then 1 else 0:=by
 have hc:=cnt_tail enc A
 have e:lnK enc A i=⟨(f:Nat),(t:Nat),(n:Nat),b⟩:=by
  rw [← (lnA_inT (enc:=enc) (A:=A) (i:=i) (by rw [hc] at hi;split at hi <;> omega)).1]
  exact h.at_
 rw [alF_succ,kC_snoc,e]
theorem Seen.step {z:World} {bs:Nat} {enc:Int} {A:List Int} {i f t n:Nat} {b:Int} (h:Seen z bs enc A i) (hT:Tile enc A i f t n b) (hi:(i:Int) < cnt enc A) (j:Nat) (hj:b=(j:Nat)) (hj4:j < 4) :
  Seen (z.setCell ⟨bs,j,none⟩ (.int .i64 ((kC (alF enc A i) j:Nat) + 1))) bs enc A (i + 1)∧z.grownBy (z.setCell ⟨bs,j,none⟩ (.int .i64 ((kC (alF enc A i) j:Nat) + 1))) (some bs):=by
 obtain ⟨p1,p2⟩:=set1 h j (.int .i64 ((kC (alF enc A i) j:Nat) + 1))
 refine ⟨?_,p2⟩
 have e:=hT.kC hi
 unfold Seen
 rw [e 0,e 1,e 2,e 3,hj,p1]
 have:j=0∨j=1∨j=2∨j=3:=by omega
 rcases this with rfl | rfl | rfl | rfl <;> simp
end Go.Proofs.YtjomfbegghgbdaaGreat.P
