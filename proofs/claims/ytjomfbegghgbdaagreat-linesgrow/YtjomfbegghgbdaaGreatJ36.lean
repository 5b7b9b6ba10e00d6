import Derived.Test.YtjomfbegghgbdaaGreatJ00
import Derived.Test.YtjomfbegghgbdaaGreatJ28
import Derived.Test.YtjomfbegghgbdaaGreatJ34
import Derived.Test.YtjomfbegghgbdaaGreatJ30
import Derived.Deep.CutRange
import Derived.BigQuiet
namespace Go.Proofs.YtjomfbegghgbdaaGreat.P
open Go.RowKit
def spk (b:Int):List Int:=if b=1 then [10] else if b=2 then [13,10] else if b=3 then [13] else []
def atK (enc:Int) (A:List Int) (i:Nat):Nat:=if (i:Int)≤(spn enc A).b then (skA enc A i).toNat else A.length
section
variable {enc:Int} {A:List Int} {i:Nat}
theorem lnA_inT (h0:(i:Int)≤(spn enc A).b):lnA enc A i=lnK enc A i∧lnE enc A i=0:=by
 unfold lnA lnE
 rw [if_neg (by omega),if_neg (by omega)]
 exact ⟨rfl,rfl⟩
theorem isE_iff {p:Nat}:isE A p=true ↔ (A[p]?=some 10∨(A[p]?=some 13∧A[p + 1]?≠some 10)):=by unfold isE;rw [decide_eq_true_eq]
theorem atK_zero:atK enc A 0=0:=by
 unfold atK
 rw [if_pos (show ((0:Nat):Int)≤_ from spn_nn enc A)]
 show (skA enc A 0).toNat=0
 rw [skA_zero]
 rfl
theorem atK_in (h:(i:Int)≤(spn enc A).b):skA enc A i=(atK enc A i:Nat)∧atK enc A i≤A.length:=by
 have:=skA_in enc A i (by omega) h
 unfold atK
 rw [if_pos h]
 omega
theorem bAt_line (h:(i:Int)≤(spn enc A).b) {k:Nat} (h1:atK enc A i≤k) (h2:k < atK enc A (i + 1)):bAt enc A k=i:=by
 obtain ⟨e1,e2⟩:=atK_in h
 have hge:(i:Int)≤bAt enc A k:=by
  rcases Nat.eq_zero_or_pos i with rfl | hp
  ·exact bAt_nn enc A k
  ·have:=(lt_skA enc A i (by omega) h k).2
   rcases Int.lt_or_le (bAt enc A k) i with h3 | h3
   ·have:=this h3;omega
   ·exact h3
 by_cases hi:(i:Int) < (spn enc A).b
 ·have h3:((i + 1:Nat):Int)≤(spn enc A).b:=by omega
  obtain ⟨e3,e4⟩:=atK_in h3
  have:=(lt_skA enc A ((i + 1:Nat):Int) (by omega) h3 k).1 (by omega)
  omega
 ·have:=bAt_le enc A k
  omega
theorem no_end (h:(i:Int)≤(spn enc A).b) {k:Nat} (h1:atK enc A i≤k) (h2:k + 1 < atK enc A (i + 1)) (hl:k < A.length):isE A k=false:=by
 have e1:=bAt_line h h1 (by omega)
 have e2:=bAt_line h (show atK enc A i≤k + 1 by omega) h2
 rw [bAt_succ enc A k hl,e1] at e2
 cases hE:isE A k with
 | false=>rfl
 | true=>rw [hE] at e2;simp at e2;omega
theorem line_end (h:(i:Int) < (spn enc A).b):atK enc A i < atK enc A (i + 1)∧atK enc A (i + 1)≤A.length∧isE A (atK enc A (i + 1) - 1)=true∧lnK enc A i=⟨(atK enc A i:Nat),(atK enc A (i + 1):Nat) - wid (knd A (atK enc A (i + 1))),(atK enc A (i + 1):Nat),knd A (atK enc A (i + 1))⟩:=by
 have h3:((i + 1:Nat):Int)≤(spn enc A).b:=by omega
 obtain ⟨e1,e2⟩:=atK_in (enc:=enc) (A:=A) (i:=i) (by omega)
 obtain ⟨e3,e4⟩:=atK_in h3
 obtain ⟨p,e,p1,p2,p3,p4⟩:=skA_at enc A ((i + 1:Nat):Int) (by omega) h3
 have hp:atK enc A (i + 1)=p:=by omega
 rw [hp] at e3 e4 ⊢
 have hlt:atK enc A i < p:=by
  rcases Nat.eq_zero_or_pos i with rfl | hpos
  ·rw [atK_zero];omega
  ·rcases Nat.lt_or_ge (atK enc A i) p with h5 | h5
   ·exact h5
   ·obtain ⟨r,f,r1,r2,r3,r4⟩:=skA_at enc A (i:Int) (by omega) (by omega)
    have:=bAt_mono enc A p r (by omega)
    omega
 refine ⟨hlt,e4,?_,?_⟩
 ·have:=bAt_succ enc A (p - 1) (by omega)
  rw [show p - 1 + 1=p by omega] at this
  cases hE:isE A (p - 1) with
  | true=>rfl
  | false=>rw [hE] at this;simp at this;omega
 ·unfold lnK
  rw [if_neg (by omega),e1,show ((i:Int) + 1)=((i + 1:Nat):Int) by omega,e3]
  rfl
theorem take_two {t:Nat} {x y:Int} (h1:A[t]?=some x) (h2:A[t + 1]?=some y):(A.drop t).take 2=[x,y]:=by
 obtain ⟨l1,e1⟩:=List.getElem?_eq_some_iff.1 h1
 obtain ⟨l2,e2⟩:=List.getElem?_eq_some_iff.1 h2
 rw [List.drop_eq_getElem_cons l1,List.drop_eq_getElem_cons l2,e1,e2]
 rfl
theorem take_one {t:Nat} {x:Int} (h1:A[t]?=some x):(A.drop t).take 1=[x]:=by
 obtain ⟨l1,e1⟩:=List.getElem?_eq_some_iff.1 h1
 rw [List.drop_eq_getElem_cons l1,e1]
 rfl
structure Tile (enc:Int) (A:List Int) (i f t n:Nat) (b:Int):Prop where
 at_:lnA enc A i=⟨(f:Nat),(t:Nat),(n:Nat),b⟩
 er:lnE enc A i=0
 f0:f=atK enc A i
 n0:n=atK enc A (i + 1)
 ft:f≤t
 tn:t≤n
 nl:n≤A.length
 b0:0≤b
 b3:b≤3
 no:∀ k,f≤k→k < t→A[k]?≠some 10∧A[k]?≠some 13
 sp:(A.drop t).take (n - t)=spk b
 la:b=0→(i:Int) + 1=cnt enc A∧(f=t→A.length=0)
 cr:b=3→A[n]?≠some 10
 of:∀ k:Nat,f≤k→k < n→brk enc A (k:Nat)=i
theorem tile_mid (h:(i:Int) < (spn enc A).b):∃ f t n b,Tile enc A i f t n b∧1≤b:=by
 obtain ⟨h1,h2,h3,h4⟩:=line_end h
 obtain ⟨k1,k2⟩:=lnA_inT (enc:=enc) (A:=A) (i:=i) (by omega)
 have hof:∀ k:Nat,atK enc A i≤k→k < atK enc A (i + 1)→brk enc A (k:Nat)=i:=fun k a b=>by
  rw [brk_at,Int.toNat_natCast]
  exact bAt_line (by omega) a b
 have hno:∀ k,atK enc A i≤k→k + 1 < atK enc A (i + 1)→A[k]?≠some 10∧(A[k]?=some 13→A[k + 1]?=some 10∧k + 2=atK enc A (i + 1)):=fun k a b=>by
  have e:=no_end (show (i:Int)≤(spn enc A).b by omega) a b (by omega)
  refine ⟨fun h=>?_,fun h=>?_⟩
  ·rw [isE_iff.2 (.inl h)] at e;cases e
  ·by_cases h10:A[k + 1]?=some 10
   ·refine ⟨h10,?_⟩
    rcases Nat.lt_or_ge (k + 2) (atK enc A (i + 1)) with h5 | h5
    ·have e2:=no_end (show (i:Int)≤(spn enc A).b by omega) (show atK enc A i≤k + 1 by omega) h5 (by omega)
     rw [isE_iff.2 (.inl h10)] at e2;cases e2
    ·omega
   ·rw [isE_iff.2 (.inr ⟨h,h10⟩)] at e;cases e
 generalize hn:atK enc A (i + 1)=n at *
 generalize hf:atK enc A i=f at *
 rw [← k1] at h4
 rcases isE_iff.1 h3 with h10 | ⟨h13,hx⟩
 ·have hk3:¬ A[n - 1]?=some 13:=by rw [h10];simp
  by_cases hc:2≤n∧A[n - 2]?=some 13
  ·have kd:knd A n=2:=by unfold knd;rw [if_neg hk3,if_pos hc]
   rw [kd] at h4
   have hfn:f≤n - 2:=by
    rcases Nat.lt_or_ge (n - 2) f with h5 | h5
    ·have hfe:f=n - 1:=by omega
     rcases Nat.eq_zero_or_pos i with rfl | hp
     ·rw [atK_zero] at hf;omega
     ·obtain ⟨j,rfl⟩:∃ j,i=j + 1:=⟨i - 1,by omega⟩
      obtain ⟨_,_,g3,_⟩:=line_end (enc:=enc) (A:=A) (i:=j) (by omega)
      rw [hf,hfe] at g3
      rcases isE_iff.1 g3 with g | ⟨_,g⟩
      ·rw [show n - 1 - 1=n - 2 by omega,hc.2] at g;simp at g
      ·exact absurd (by rw [show n - 1 - 1 + 1=n - 1 by omega];exact h10) g
    ·exact h5
   refine ⟨f,n - 2,n,2,⟨?_,k2,hf.symm,hn.symm,hfn,by omega,h2,by decide,by decide,fun k a b=>?_,?_,fun e=>absurd e (by decide),fun e=>absurd e (by decide),hof⟩,by decide⟩
   ·rw [h4]
    unfold wid
    rw [if_pos rfl]
    congr 1
    omega
   ·obtain ⟨q1,q2⟩:=hno k a (by omega)
    exact ⟨q1,fun h=>by have:=(q2 h).2;omega⟩
   ·rw [show n - (n - 2)=2 by omega,take_two hc.2 (by rw [show n - 2 + 1=n - 1 by omega];exact h10)]
    rfl
  ·have kd:knd A n=1:=by unfold knd;rw [if_neg hk3,if_neg hc]
   rw [kd] at h4
   refine ⟨f,n - 1,n,1,⟨?_,k2,hf.symm,hn.symm,by omega,by omega,h2,by decide,by decide,fun k a b=>?_,?_,fun e=>absurd e (by decide),fun e=>absurd e (by decide),hof⟩,by decide⟩
   ·rw [h4]
    unfold wid
    rw [if_neg (by decide)]
    congr 1
    omega
   ·obtain ⟨q1,q2⟩:=hno k a (by omega)
    exact ⟨q1,fun h=>hc ⟨by omega,by rw [show n - 2=k by have:=(q2 h).2;omega];exact h⟩⟩
   ·rw [show n - (n - 1)=1 by omega,take_one h10]
    rfl
 ·have kd:knd A n=3:=by unfold knd;rw [if_pos h13]
  rw [kd] at h4
  refine ⟨f,n - 1,n,3,⟨?_,k2,hf.symm,hn.symm,by omega,by omega,h2,by decide,by decide,fun k a b=>?_,?_,fun e=>absurd e (by decide),fun _=>by rw [show n - 1 + 1=n by omega] at hx;exact hx,hof⟩,by decide⟩
  ·rw [h4]
   unfold wid
   rw [if_neg (by decide)]
   congr 1
   omega
  ·obtain ⟨q1,q2⟩:=hno k a (by omega)
   exact ⟨q1,fun h=>by
    obtain ⟨g1,g2⟩:=q2 h
    rw [show k + 1=n - 1 by omega,h13] at g1
    simp at g1⟩
  ·rw [show n - (n - 1)=1 by omega,take_one h13]
   rfl
theorem tile_last (h:(i:Int)=(spn enc A).b) (hc:(i:Int) < cnt enc A):Tile enc A i (atK enc A i) A.length A.length 0:=by
 obtain ⟨k1,k2⟩:=lnA_inT (enc:=enc) (A:=A) (i:=i) (by omega)
 obtain ⟨e1,e2⟩:=atK_in (enc:=enc) (A:=A) (i:=i) (by omega)
 have en:atK enc A (i + 1)=A.length:=by unfold atK;rw [if_neg (by omega)]
 have hct:=cnt_tail enc A
 refine ⟨?_,k2,rfl,en.symm,e2,Nat.le_refl _,Nat.le_refl _,by decide,by decide,fun k a b=>?_,?_,fun _=>⟨?_,fun e=>?_⟩,fun e=>absurd e (by decide),fun k a b=>?_⟩
 ·rw [k1]
  unfold lnK
  rw [if_pos h,e1]
 ·have hE:isE A k=false:=by
   have b1:=bAt_line (show (i:Int)≤(spn enc A).b by omega) a (by omega)
   have b2:=bAt_succ enc A k b
   have b3:=bAt_le enc A (k + 1)
   cases hE:isE A k with
   | false=>rfl
   | true=>rw [hE] at b2;simp at b2;omega
  refine ⟨fun h=>?_,fun h=>?_⟩
  ·rw [isE_iff.2 (.inl h)] at hE;cases hE
  ·by_cases h10:A[k + 1]?=some 10
   ·have hl:=(List.getElem?_eq_some_iff.1 h10).1
    have b1:=bAt_line (show (i:Int)≤(spn enc A).b by omega) (show atK enc A i≤k + 1 by omega) (by omega)
    have b2:=bAt_succ enc A (k + 1) hl
    have b3:=bAt_le enc A (k + 1 + 1)
    rw [isE_iff.2 (.inl h10)] at b2
    simp at b2
    omega
   ·rw [isE_iff.2 (.inr ⟨h,h10⟩)] at hE;cases hE
 ·rw [Nat.sub_self,List.take_zero]
  rfl
 ·rw [hct]
  rw [hct] at hc
  split at hc
  ·omega
  ·rename_i hq
   rw [if_neg hq]
   omega
 ·rw [hct] at hc
  split at hc
  ·omega
  ·rename_i hq
   rcases Nat.eq_zero_or_pos i with rfl | hp
   ·rw [atK_zero] at e;omega
   ·exact absurd ⟨by omega,by rw [← h,e1,e]⟩ hq
 ·rw [brk_at,Int.toNat_natCast]
  exact bAt_line (by omega) a (by omega)
theorem tile_any (hc:(i:Int) < cnt enc A):∃ f t n b,Tile enc A i f t n b:=by
 have hct:=cnt_tail enc A
 by_cases h:(i:Int) < (spn enc A).b
 ·obtain ⟨f,t,n,b,h,_⟩:=tile_mid h
  exact ⟨f,t,n,b,h⟩
 ·exact ⟨_,_,_,_,tile_last (by rw [hct] at hc;split at hc <;> omega) hc⟩
theorem atK_end (hc:(i:Int)=cnt enc A):atK enc A i=A.length:=by
 have hct:=cnt_tail enc A
 unfold atK
 rw [hct] at hc
 split at hc
 ·rename_i hq
  rw [if_pos (by omega),hc,hq.2]
  omega
 ·rw [if_neg (by omega)]
end
end Go.Proofs.YtjomfbegghgbdaaGreat.P

namespace Go.Proofs.YtjomfbegghgbdaaGreat.P
open Go.RowKit
set_option maxRecDepth 100000 in
theorem same_yes (v1 v2:Value) (zs:List Int) (w:World) (h1:Rd .i64 w v1 zs) (h2:Rd .i64 w v2 zs) :
  Calls Tryz.prog 24 #[v1,v2] w fun e w'=>e=.returned (.bool true)∧Below w.heap.size w w':=by
 have hlen:=h1.len
 obtain ⟨ao,cap,rfl,hl1,hc1,h1⟩:=h1
 obtain ⟨ao2,cap2,rfl,hl2,hc2,h2⟩:=h2
 by_cases hn:zs=[]
 ·subst hn
  clear h1 h2
  simp only [List.length_nil]
  go_enter Tryz.func24,Tryz.ntmps24
  go_wp2
  refine wp_loop_rounds 1 ?_
  rw [rounds_succ]
  go_wp2
  go_ret
  exact ⟨rfl,Below.refl _ _⟩
 ·obtain ⟨b,off,rfl,hb,hcl⟩:=h1 hn
  obtain ⟨b2,off2,rfl,hb2,hcl2⟩:=h2 hn
  have hq:((zs.length:Int) != (zs.length:Int))=false:=by simp
  clear h1 h2 hn
  go_enter Tryz.func24,Tryz.ntmps24
  go_wp2
  go_loopw [5] (fun i wr=>∃ k:Nat,k≤zs.length∧i=.int .i64 k∧Below w.heap.size w wr) (fun i _=>zs.length - (intOf i).toNat)
  case atStart=>exact ⟨0,Nat.zero_le _,rfl,Below.refl _ _⟩
  case round =>
   obtain ⟨k,hk,rfl,hbw⟩:=hrel
   by_cases hlt:k < zs.length
   ·have c1:wr.cell? ⟨b,off + k,none⟩=some (.int .i64 (zs[k]?.getD 0)):=(hbw.cell (p:=⟨b,off + k,none⟩) hb).trans (hcl _ hlt)
    have c2:wr.cell? ⟨b2,off2 + k,none⟩=some (.int .i64 (zs[k]?.getD 0)):=(hbw.cell (p:=⟨b2,off2 + k,none⟩) hb2).trans (hcl2 _ hlt)
    have hi1:(k:Int) < (zs.length:Int):=by omega
    generalize zs[k]?.getD 0=x at *
    clear hcl hcl2
    go_wp2
    go_quiet (fail)
    go_wp2
    go_roundw
    case rel=>exact ⟨k + 1,by omega,by go_num,below_drewN hbw _⟩
    case measure=>simp [intOf];omega
   ·clear hcl hcl2
    go_wp2
    go_ret
    exact ⟨rfl,hbw⟩
theorem rdi_lit2 (w:World) (y z:Int):Rd .i64 (w.alloc (.cells #[.int .i64 y,.int .i64 z] 3)) (.slice (some ⟨w.heap.size,0,none⟩) 2 2) [y,z]:=by
 refine ⟨some ⟨w.heap.size,0,none⟩,2,rfl,by simp,by decide,fun _=>⟨w.heap.size,0,rfl,by simp,fun i hi=>?_⟩⟩
 rw [cell_of_row _ _ _ _ _ _ (heap_alloc_new _ _)]
 have:i=0∨i=1:=by simp at hi;omega
 rcases this with rfl | rfl <;> rfl
set_option maxRecDepth 100000 in
theorem spelled_any (b:Int) (w:World):Calls Tryz.prog 70 #[.int .i64 b] w fun e w'=>∃ v,e=.returned v∧Rd .i64 w' v (spk b)∧Below w.heap.size w w':=by
 by_cases h1:b=1
 ·subst h1
  go_enter Tryz.func70,Tryz.ntmps70
  go_wp2
  go_ret
  exact ⟨_,rfl,rdi_lit1 _ _,ext_alloc (Below.refl _ _) _⟩
 by_cases h2:b=2
 ·subst h2
  go_enter Tryz.func70,Tryz.ntmps70
  go_wp2
  go_ret
  exact ⟨_,rfl,rdi_lit2 _ _ _,ext_alloc (Below.refl _ _) _⟩
 by_cases h3:b=3
 ·subst h3
  go_enter Tryz.func70,Tryz.ntmps70
  go_wp2
  go_ret
  exact ⟨_,rfl,rdi_lit1 _ _,ext_alloc (Below.refl _ _) _⟩
 have HE:Hid (spk b=[]):=by unfold Hid spk;rw [if_neg h1,if_neg h2,if_neg h3]
 have g1:(b == 1)=false:=by simpa using h1
 have g2:(b == 2)=false:=by simpa using h2
 have g3:(b == 3)=false:=by simpa using h3
 clear h1 h2 h3
 go_enter Tryz.func70,Tryz.ntmps70
 go_wp2
 go_ret
 exact ⟨_,rfl,by rw [HE.out];exact ⟨none,0,rfl,Nat.le_refl _,by decide,fun h=>absurd rfl h⟩,Below.refl _ _⟩
theorem cnt_rng (enc:Int) (A:List Int):1≤cnt enc A∧cnt enc A≤A.length + 1:=by
 have h1:=spn_nn enc A
 have h2:=spn_len enc A
 rw [cnt_tail]
 split <;> omega
def Seen (w:World) (bs:Nat) (enc:Int) (A:List Int) (i:Nat):Prop:=w.heap[bs]?=some (.cells #[.int .i64 (kC (alF enc A i) 0:Nat),.int .i64 (kC (alF enc A i) 1:Nat),.int .i64 (kC (alF enc A i) 2:Nat),.int .i64 (kC (alF enc A i) 3:Nat)] 53 (0,0))
theorem Tile.kC {enc:Int} {A:List Int} {i f t n:Nat} {b:Int} (h:Tile enc A i f t n b) (hi:(i:Int) < cnt enc A) (x:Int):kC (alF enc A (i + 1)) x=kC (alF enc A i) x + if b=x then 1 else 0:=by
 have hc:=cnt_tail enc A
 have e:lnK enc A i=⟨(f:Nat),(t:Nat),(n:Nat),b⟩:=by
  rw [← (lnA_inT (enc:=enc) (A:=A) (i:=i) (by rw [hc] at hi;split at hi <;> omega)).1]
  exact h.at_
 rw [alF_succ,kC_snoc,e]
theorem if_some9 {b x y:Nat} {p:Prop} [Decidable p]:∃ z,(if p then some (⟨b,x,none⟩:Addr) else some ⟨b,y,none⟩)=some ⟨b,z,none⟩:=by
 split
 ·exact ⟨_,rfl⟩
 ·exact ⟨_,rfl⟩
theorem Seen.step {z:World} {bs:Nat} {enc:Int} {A:List Int} {i f t n:Nat} {b:Int} (h:Seen z bs enc A i) (hT:Tile enc A i f t n b) (hi:(i:Int) < cnt enc A) (j:Nat) (hj:b=(j:Nat)) (hj4:j < 4) :
  Seen (z.setCell ⟨bs,j,none⟩ (.int .i64 ((kC (alF enc A i) j:Nat) + 1))) bs enc A (i + 1)∧z.grownBy (z.setCell ⟨bs,j,none⟩ (.int .i64 ((kC (alF enc A i) j:Nat) + 1))) (some bs):=by
 obtain ⟨p1,p2⟩:=set1 h j (.int .i64 ((kC (alF enc A i) j:Nat) + 1))
 refine ⟨?_,p2⟩
 have e:=hT.kC hi
 unfold Seen
 rw [e 0,e 1,e 2,e 3,hj,p1]
 have:j=0∨j=1∨j=2∨j=3:=by omega
 rcases this with rfl | rfl | rfl | rfl <;> simp
theorem kCF_le (enc:Int) (A:List Int) (i:Nat) (x:Int):kC (alF enc A i) x≤i:=by
 have:=kC_le (alF enc A i) x
 unfold alF at this ⊢
 simpa using this
set_option maxRecDepth 100000 in
set_option maxHeartbeats 16000000 in
theorem tiles_any {enc:Int} (w:World) (tx:Nat) (A:List Int) (va:Value) (hT:Tz enc w tx A) (hA:OwnI w 0 va A) :
  Calls Tryz.prog 45 #[.pointer (some ⟨tx,0,none⟩),va] w fun e w'=>e=.returned (.bool true)∧Below w.heap.size w w':=by
 have hl:=hT.len
 obtain ⟨aa,ca,rfl⟩:=hA.form
 have HT:=hidIt hT
 have HA:=hidIt hA
 have CN:=hidIt (Count_z enc w tx A hT)
 obtain ⟨hc1,hc2⟩:=cnt_rng enc A
 obtain ⟨m,hm⟩:∃ m:Nat,cnt enc A=m:=⟨(cnt enc A).toNat,by omega⟩
 have HCM:=hidIt hm
 rw [hm] at CN hc1 hc2
 have h1:¬ (m:Int) < 1:=by omega
 have h2:¬ ((A.length:Int) + 1 < (m:Int)):=by omega
 clear hT hA hm
 go_enter Tryz.func45,Tryz.ntmps45
 go_upto_region 2 with (go_at_call 19;refine CN.out.mono ?_;rintro e w1 ⟨rfl,hb⟩;have HB1:=hidIt hb;clear hb;(try dsimp only))
 clear CN
 go_upto_region 6 with fail
 generalize hw2:World.alloc _ _=w2
 have HW2:Hid (Below w1.heap.size w1 w2∧Seen w2 w1.heap.size enc A 0):=by unfold Hid;rw [← hw2];exact ⟨ext_alloc (Below.refl _ _) _,heap_alloc_new _ _⟩
 clear hw2 h1 h2
 generalize hbs:w1.heap.size=bs at HW2 ⊢
 have HBS:=hidIt hbs
 clear hbs
 go_wp2_with fail
 go_loopw [6,8] (fun av iv wr=>∃ i:Nat,i≤m∧iv=.int .i64 (i:Nat)∧av=.int .i64 (atK enc A i:Nat)∧Hid (Seen wr bs enc A i)∧Hid (Below w1.heap.size w1 wr)) (fun _ iv _=>m - (intOf iv).toNat)
 case atStart=>exact ⟨0,Nat.zero_le _,rfl,by rw [atK_zero];rfl,HW2.out.2,by unfold Hid;rw [HBS.out];exact HW2.out.1⟩
 case round =>
  clear HW2
  obtain ⟨i,hi,rfl,rfl,HSN,HBR⟩:=hrel
  obtain ⟨wo,rfl⟩:∃ wo,wo=wr:=⟨_,rfl⟩
  have HBWR:Hid (Below w.heap.size w wo):=ext_trans HB1.out HBR.out
  by_cases hlt:i < m
  ·have hltI:(i:Int) < (m:Int):=by omega
   obtain ⟨f,t,n,b,TL⟩:=tile_any (enc:=enc) (A:=A) (i:=i) (by rw [HCM.out];omega)
   have HTL:=hidIt TL
   have AZ:=hidIt (At_z enc wo tx A i (HT.out.ext HBWR.out))
   rw [TL.at_,TL.er] at AZ
   dsimp only at AZ
   rw [← TL.f0]
   have hft:=TL.ft
   have htn:=TL.tn
   have hnl:=TL.nl
   have hb0:=TL.b0
   have hb3:=TL.b3
   clear TL
   go_upto_region 10 with (go_at_call 27;refine AZ.out.mono ?_;rintro e y ⟨rfl,hb⟩;have HBY:=hidIt hb;clear hb;(try dsimp only))
   clear AZ
   generalize hy2:World.alloc _ _=y2
   have HY2:Hid (Below wo.heap.size wo y2∧y2.heap[y.heap.size]?=some (.cells #[.int .i64 (f:Nat),.int .i64 (t:Nat),.int .i64 (n:Nat),.int .i64 b] 50 (0,0))):=by unfold Hid;rw [← hy2];exact ⟨ext_alloc HBY.out _,heap_alloc_new _ _⟩
   have hgw:wo.heap.size≤y.heap.size:=HBY.out.size
   clear hy2 HBY
   generalize y.heap.size=gl at HY2 hgw ⊢
   have HGW:=hidIt hgw
   clear hgw
   obtain ⟨_,l0,l1,l2,l3,lf⟩:=cells4 HY2.out.2
   have q1:¬ ((t:Nat):Int) < ((f:Nat):Int):=by omega
   have q2:¬ ((n:Nat):Int) < ((t:Nat):Int):=by omega
   have q3:¬ (A.length:Int) < ((n:Nat):Int):=by omega
   have q4:¬ b < 0:=by omega
   have q5:¬ 3 < b:=by omega
   have q6:(((f:Nat):Int) != ((f:Nat):Int))=false:=by simp
   go_upto_region 12 with fail
   clear q1 q2 q3 q4 q5 q6
   have HBWY:Hid (Below w.heap.size w y2):=ext_trans HBWR.out HY2.out.1
   go_wp2_with fail
   go_loopw [11] (fun kv wk=>∃ k:Nat,f≤k∧k≤t∧kv=.int .i64 (k:Nat)∧wk=y2) (fun kv _=>t - (intOf kv).toNat)
   case atStart=>exact ⟨f,Nat.le_refl _,hft,rfl,rfl⟩
   case round =>
    obtain ⟨k,hfk,hkt,rfl,hwk⟩:=hrel
    obtain rfl:y2=wr:=hwk.symm
    by_cases hk:k < t
    ·have hkI:(k:Int) < ((t:Nat):Int):=by omega
     obtain ⟨ab,ao,rfl,_,ck,_⟩:=rd_at (HA.out.ext HBWY.out).rdi k (by omega)
     have hkl:(k:Int) < (A.length:Int):=by omega
     obtain ⟨n1,n2⟩:=HTL.out.no k hfk hk
     obtain ⟨x,hx⟩:∃ x,A[k]?=some x:=⟨_,List.getElem?_eq_getElem (by omega)⟩
     rw [hx] at n1 n2 ck
     rw [Option.getD_some] at ck
     have x1:(x == 10)=false:=by simpa using n1
     have x2:(x == 13)=false:=by simpa using n2
     clear n1 n2 hx
     go_wp2_with fail
     go_roundw
     case rel=>exact ⟨k + 1,by omega,by omega,by go_num,trivial⟩
     case measure=>simp [intOf];omega
    ·obtain rfl:t=k:=by omega
     have hkI:¬ ((t:Nat):Int) < ((t:Nat):Int):=by omega
     have HS:Hid (∀ y,Below y2.heap.size y2 y→y.cell? ⟨gl,1,none⟩=some (.int .i64 (t:Nat))∧y.cell? ⟨gl,2,none⟩=some (.int .i64 (n:Nat))∧y.cell? ⟨gl,3,none⟩=some (.int .i64 b)):=fun y hy=>by
      obtain ⟨_,_,g1,g2,g3,_⟩:=cells4 ((hy.block _ (Array.getElem?_eq_some_iff.1 HY2.out.2).1).trans HY2.out.2)
      exact ⟨g1,g2,g3⟩
     go_upto_region 17 with fail
     go_cut [116] from 95 to 116 (fun tv wF=>tv=.bool false∧Hid (Below y2.heap.size y2 wF))
     case first =>
      clear l0 l1 l2 l3 lf
      rcases HA.out.2 with ⟨hv,hz⟩ | ⟨g,cap,cur,hv,_,_,hcap1,hcap2,_,_⟩
      ·obtain rfl:A=[]:=List.length_eq_zero_iff.1 hz
       injection hv with e1 _ e3
       subst e1
       subst e3
       obtain rfl:n=0:=by simp at hnl;exact hnl
       obtain rfl:t=0:=by omega
       have hsp:spk b=[]:=by have:=HTL.out.sp;simpa using this.symm
       have HRN:Hid (Rd .i64 y2 (.slice none 0 0) (spk b)):=by unfold Hid;rw [hsp];exact ⟨none,0,rfl,Nat.le_refl _,by decide,fun h=>absurd rfl h⟩
       obtain rfl:b=0:=by
        unfold spk at hsp
        split at hsp
        ·cases hsp
        ·split at hsp
         ·cases hsp
         ·split at hsp
          ·cases hsp
          ·omega
       have hla:=(HTL.out.la rfl).1
       rw [HCM.out] at hla
       have w9:IntKind.i64.wrap ((i:Int) + 1)=(i:Int) + 1:=by rw [IntKind.wrap_i64];omega
       have g9:¬ ((i:Int) + 1 < (m:Int)):=by omega
       clear hsp hla hz
       refine wp_region_held_drew (S:=fun w'=>w'.cell? ⟨gl,1,none⟩=some (.int .i64 ((0:Nat):Int))∧w'.cell? ⟨gl,2,none⟩=some (.int .i64 ((0:Nat):Int))∧w'.cell? ⟨gl,3,none⟩=some (.int .i64 0)) (by kernel_rfl) (by first | exact HS.out _ (Below.refl _ _) | exact HS.out _ (Below.refl _ _).drew) (fun hHeld=>?_)
       refine tkH 0 rfl ?_
       try simp only [Act.put,tS]
       refine tkH 1 rfl ?_
       try simp only [Act.put,tS]
       refine tkH 2 rfl ?_
       try simp only [Act.put,tS]
       refine tkH 3 rfl ?_
       try simp only [Act.put,tS]
       refine tkH 4 rfl ?_
       try simp only [Act.put,tS]
       refine tkH 5 rfl ?_
       try simp only [Act.put,tS]
       refine tkH 6 rfl ?_
       try simp only [Act.put,tS]
       refine tkH 7 rfl ?_
       try simp only [Act.put,tS]
       refine rdH 8 rfl fun K hK=>?_
       go_simp
       (first | refine (spelled_any 0 _).mono ?_);rintro e z1 ⟨v1,rfl,hr1,hb1⟩;obtain ⟨a1,c1,rfl,_⟩:=id hr1;have HR1:=hidIt hr1;have HB1:Hid (Below y2.heap.size y2 z1):=(by first | exact ext_trans (Below.refl _ _) hb1 | exact ext_trans (Below.refl _ _).drew hb1);clear hr1 hb1;(try dsimp only)
       refine hK.out _ _ ?_ (fun hHeld=>?_)
       ·exact HS.out _ HB1.out
       clear hK K
       try simp only [Act.put,tS]
       refine rdH 9 rfl fun K hK=>?_
       go_simp
       (first | refine (same_yes _ _ (spk 0) _ ((HRN.out).ext (ext_trans HB1.out (Below.refl _ _))) (HR1.out.ext (Below.refl _ _))).mono ?_ | refine (same_yes _ _ (spk 0) _ ((HRN.out).ext (ext_trans HB1.out (Below.refl _ _).drew)) (HR1.out.ext (Below.refl _ _).drew)).mono ?_);rintro e z2 ⟨rfl,hb2⟩;have HB2:Hid (Below y2.heap.size y2 z2):=(by first | exact ext_trans (ext_trans HB1.out (Below.refl _ _)) hb2 | exact ext_trans (ext_trans HB1.out (Below.refl _ _).drew) hb2);clear hb2 HR1;(try dsimp only)
       refine hK.out _ _ ?_ (fun hHeld=>?_)
       ·exact HS.out _ HB2.out
       clear hK K
       try simp only [Act.put,tS]
       refine tkH 10 rfl ?_
       try simp only [Act.put,tS]
       refine tkH 11 rfl ?_
       try simp only [Act.put,tS]
       refine tkH 12 rfl ?_
       try simp only [Act.put,tS]
       refine tkH 13 rfl ?_
       try simp only [Act.put,tS]
       refine tkH 14 rfl ?_
       try simp only [Act.put,tS]
       refine tkH 15 rfl ?_
       try simp only [Act.put,tS]
       refine tkH 16 rfl ?_
       try simp only [Act.put,tS]
       refine tkH 17 rfl ?_
       try simp only [Act.put,tS]
       refine tkH 18 rfl ?_
       try simp only [Act.put,tS]
       refine tkH 19 rfl ?_
       try simp only [Act.put,tS]
       refine tkH 20 rfl ?_
       try simp only [Act.put,tS]
       refine tkH 21 rfl ?_
       try simp only [Act.put,tS]
       refine wpAnyH_done (by kernel_rfl) ?_ _
       go_wp2_with fail
       go_meet
       case rel=>exact ⟨rfl,HB2.out⟩
      ·cases hv
       have HRN:Hid (Rd .i64 y2 (.slice (if ca=t then some ⟨g,0,none⟩ else some ⟨g,0 + t,none⟩) (n - t) (ca - t)) (spk b)):=by
        unfold Hid
        rw [← HTL.out.sp]
        exact (((HA.out.ext HBWY.out).rdi).cut_if (by omega)).take (n - t) (by rw [List.length_drop];omega)
       obtain ⟨tb,htb⟩:=if_some9 (b:=g) (x:=0) (y:=0 + t) (p:=ca=t)
       rw [htb] at HRN
       rw [Nat.zero_add] at htb
       have c1:((t:Nat):Int)≤((n:Nat):Int):=by omega
       have c2:((n:Nat):Int)≤(ca:Int):=by omega
       have c3:(0:Int)≤((t:Nat):Int):=by omega
       by_cases hb:b=0
       ·subst hb
        have hla:=(HTL.out.la rfl).1
        rw [HCM.out] at hla
        have w9:IntKind.i64.wrap ((i:Int) + 1)=(i:Int) + 1:=by rw [IntKind.wrap_i64];omega
        have g9:¬ ((i:Int) + 1 < (m:Int)):=by omega
        clear hla
        refine wp_region_held_drew (S:=fun w'=>w'.cell? ⟨gl,1,none⟩=some (.int .i64 (t:Nat))∧w'.cell? ⟨gl,2,none⟩=some (.int .i64 (n:Nat))∧w'.cell? ⟨gl,3,none⟩=some (.int .i64 0)) (by kernel_rfl) (by first | exact HS.out _ (Below.refl _ _) | exact HS.out _ (Below.refl _ _).drew) (fun hHeld=>?_)
        refine tkH 0 rfl ?_
        try simp only [Act.put,tS]
        refine tkH 1 rfl ?_
        try simp only [Act.put,tS]
        refine tkH 2 rfl ?_
        try simp only [Act.put,tS]
        refine tkH 3 rfl ?_
        try simp only [Act.put,tS]
        refine tkH 4 rfl ?_
        try simp only [Act.put,tS]
        refine tkH 5 rfl ?_
        try simp only [Act.put,tS]
        refine tkH 6 rfl ?_
        try simp only [Act.put,tS]
        refine tkH 7 rfl ?_
        try simp only [Act.put,tS]
        refine rdH 8 rfl fun K hK=>?_
        go_simp
        (first | refine (spelled_any 0 _).mono ?_);rintro e z1 ⟨v1,rfl,hr1,hb1⟩;obtain ⟨a1,c1,rfl,_⟩:=id hr1;have HR1:=hidIt hr1;have HB1:Hid (Below y2.heap.size y2 z1):=(by first | exact ext_trans (Below.refl _ _) hb1 | exact ext_trans (Below.refl _ _).drew hb1);clear hr1 hb1;(try dsimp only)
        refine hK.out _ _ ?_ (fun hHeld=>?_)
        ·exact HS.out _ HB1.out
        clear hK K
        try simp only [Act.put,tS]
        refine rdH 9 rfl fun K hK=>?_
        go_simp
        (first | refine (same_yes _ _ (spk 0) _ ((HRN.out).ext (ext_trans HB1.out (Below.refl _ _))) (HR1.out.ext (Below.refl _ _))).mono ?_ | refine (same_yes _ _ (spk 0) _ ((HRN.out).ext (ext_trans HB1.out (Below.refl _ _).drew)) (HR1.out.ext (Below.refl _ _).drew)).mono ?_);rintro e z2 ⟨rfl,hb2⟩;have HB2:Hid (Below y2.heap.size y2 z2):=(by first | exact ext_trans (ext_trans HB1.out (Below.refl _ _)) hb2 | exact ext_trans (ext_trans HB1.out (Below.refl _ _).drew) hb2);clear hb2 HR1;(try dsimp only)
        refine hK.out _ _ ?_ (fun hHeld=>?_)
        ·exact HS.out _ HB2.out
        clear hK K
        try simp only [Act.put,tS]
        refine tkH 10 rfl ?_
        try simp only [Act.put,tS]
        refine tkH 11 rfl ?_
        try simp only [Act.put,tS]
        refine tkH 12 rfl ?_
        try simp only [Act.put,tS]
        refine tkH 13 rfl ?_
        try simp only [Act.put,tS]
        refine tkH 14 rfl ?_
        try simp only [Act.put,tS]
        refine tkH 15 rfl ?_
        try simp only [Act.put,tS]
        refine tkH 16 rfl ?_
        try simp only [Act.put,tS]
        refine tkH 17 rfl ?_
        try simp only [Act.put,tS]
        refine tkH 18 rfl ?_
        try simp only [Act.put,tS]
        refine tkH 19 rfl ?_
        try simp only [Act.put,tS]
        refine tkH 20 rfl ?_
        try simp only [Act.put,tS]
        refine tkH 21 rfl ?_
        try simp only [Act.put,tS]
        refine wpAnyH_done (by kernel_rfl) ?_ _
        go_wp2_with fail
        go_meet
        case rel=>exact ⟨rfl,HB2.out⟩
       ·have hbb:(b == 0)=false:=by simpa using hb
        clear hb
        refine wp_region_held_drew (S:=fun w'=>w'.cell? ⟨gl,1,none⟩=some (.int .i64 (t:Nat))∧w'.cell? ⟨gl,2,none⟩=some (.int .i64 (n:Nat))∧w'.cell? ⟨gl,3,none⟩=some (.int .i64 b)) (by kernel_rfl) (by first | exact HS.out _ (Below.refl _ _) | exact HS.out _ (Below.refl _ _).drew) (fun hHeld=>?_)
        refine tkH 0 rfl ?_
        try simp only [Act.put,tS]
        refine tkH 1 rfl ?_
        try simp only [Act.put,tS]
        refine tkH 2 rfl ?_
        try simp only [Act.put,tS]
        refine tkH 3 rfl ?_
        try simp only [Act.put,tS]
        refine tkH 4 rfl ?_
        try simp only [Act.put,tS]
        refine tkH 5 rfl ?_
        try simp only [Act.put,tS]
        refine tkH 6 rfl ?_
        try simp only [Act.put,tS]
        refine tkH 7 rfl ?_
        try simp only [Act.put,tS]
        refine rdH 8 rfl fun K hK=>?_
        go_simp
        (first | refine (spelled_any b _).mono ?_);rintro e z1 ⟨v1,rfl,hr1,hb1⟩;obtain ⟨a1,c1,rfl,_⟩:=id hr1;have HR1:=hidIt hr1;have HB1:Hid (Below y2.heap.size y2 z1):=(by first | exact ext_trans (Below.refl _ _) hb1 | exact ext_trans (Below.refl _ _).drew hb1);clear hr1 hb1;(try dsimp only)
        refine hK.out _ _ ?_ (fun hHeld=>?_)
        ·exact HS.out _ HB1.out
        clear hK K
        try simp only [Act.put,tS]
        refine rdH 9 rfl fun K hK=>?_
        go_simp
        (first | refine (same_yes _ _ (spk b) _ ((HRN.out).ext (ext_trans HB1.out (Below.refl _ _))) (HR1.out.ext (Below.refl _ _))).mono ?_ | refine (same_yes _ _ (spk b) _ ((HRN.out).ext (ext_trans HB1.out (Below.refl _ _).drew)) (HR1.out.ext (Below.refl _ _).drew)).mono ?_);rintro e z2 ⟨rfl,hb2⟩;have HB2:Hid (Below y2.heap.size y2 z2):=(by first | exact ext_trans (ext_trans HB1.out (Below.refl _ _)) hb2 | exact ext_trans (ext_trans HB1.out (Below.refl _ _).drew) hb2);clear hb2 HR1;(try dsimp only)
        refine hK.out _ _ ?_ (fun hHeld=>?_)
        ·exact HS.out _ HB2.out
        clear hK K
        try simp only [Act.put,tS]
        refine tkH 10 rfl ?_
        try simp only [Act.put,tS]
        refine tkH 11 rfl ?_
        try simp only [Act.put,tS]
        refine tkH 12 rfl ?_
        try simp only [Act.put,tS]
        refine tkH 13 rfl ?_
        try simp only [Act.put,tS]
        refine tkH 14 rfl ?_
        try simp only [Act.put,tS]
        refine tkH 15 rfl ?_
        try simp only [Act.put,tS]
        refine wpAnyH_take (i:=16) (oi:=_) (v:=undef) rfl (by kernel_rfl) (by kernel_rfl) (by kernel_rfl) (fun _ _ _ h=>h) (Or.inr ⟨by rfl,rfl⟩) (by assumption) ?_
        try simp only [Act.put,tS]
        refine wpAnyH_take (i:=17) (oi:=_) (v:=undef) rfl (by kernel_rfl) (by kernel_rfl) (by kernel_rfl) (fun _ _ _ h=>h) (Or.inr ⟨by rfl,rfl⟩) (by assumption) ?_
        try simp only [Act.put,tS]
        refine wpAnyH_take (i:=18) (oi:=_) (v:=undef) rfl (by kernel_rfl) (by kernel_rfl) (by kernel_rfl) (fun _ _ _ h=>h) (Or.inr ⟨by rfl,rfl⟩) (by assumption) ?_
        try simp only [Act.put,tS]
        refine wpAnyH_take (i:=19) (oi:=_) (v:=undef) rfl (by kernel_rfl) (by kernel_rfl) (by kernel_rfl) (fun _ _ _ h=>h) (Or.inr ⟨by rfl,rfl⟩) (by assumption) ?_
        try simp only [Act.put,tS]
        refine tkH 20 rfl ?_
        try simp only [Act.put,tS]
        refine tkH 21 rfl ?_
        try simp only [Act.put,tS]
        refine wpAnyH_done (by kernel_rfl) ?_ _
        go_wp2_with fail
        go_meet
        case rel=>exact ⟨rfl,HB2.out⟩
     case rest =>
      obtain ⟨rfl,HBC⟩:=hcut
      obtain ⟨zc,rfl⟩:∃ zc,zc=wc:=⟨_,rfl⟩
      clear l0 l1 l2 l3 lf HS
      obtain ⟨_,l0,l1,l2,l3,lf⟩:=cells4 ((HBC.out.block _ (Array.getElem?_eq_some_iff.1 HY2.out.2).1).trans HY2.out.2)
      go_upto_region 19 with fail
      go_cut [134] from 119 to 134 (fun tv wF=>tv=.bool false∧wF=zc)
      case first =>
       by_cases hb:b=3
       ·have hbb:(b == 3)=true:=by simpa using hb
        by_cases hnA:n < A.length
        ·have hnI:((n:Nat):Int) < (A.length:Int):=by omega
         obtain ⟨ab,ao,rfl,_,ck,_⟩:=rd_at (HA.out.ext (ext_trans HBWY.out HBC.out)).rdi n hnA
         have n1:=HTL.out.cr hb
         obtain ⟨x,hx⟩:∃ x,A[n]?=some x:=⟨_,List.getElem?_eq_getElem hnA⟩
         rw [hx] at n1 ck
         rw [Option.getD_some] at ck
         have x1:(x == 10)=false:=by simpa using n1
         clear n1 hx hb
         go_wp2_with fail
         go_meet
         case rel=>exact ⟨rfl,rfl⟩
        ·have hnI:¬ ((n:Nat):Int) < (A.length:Int):=by omega
         clear hb
         go_wp2_with fail
         go_meet
         case rel=>exact ⟨rfl,rfl⟩
       ·have hbb:(b == 3)=false:=by simpa using hb
        clear hb
        go_wp2_with fail
        go_meet
        case rel=>exact ⟨rfl,rfl⟩
      case rest =>
       obtain ⟨rfl,hwc⟩:=hcut
       rw [hwc]
       clear hwc
       go_wp2_with fail
       go_loopw [12] (fun kv wk=>∃ k:Nat,f≤k∧k≤n∧kv=.int .i64 (k:Nat)∧Hid (Below zc.heap.size zc wk)) (fun kv _=>n - (intOf kv).toNat)
       case atStart=>exact ⟨f,Nat.le_refl _,by omega,rfl,Below.refl _ _⟩
       case round =>
        clear l0 l1 l2 l3 lf
        obtain ⟨k,hfk,hkn,rfl,HBK⟩:=hrel
        obtain ⟨wk,rfl⟩:∃ wk,wk=wr:=⟨_,rfl⟩
        obtain ⟨_,l0,l1,l2,l3,lf⟩:=cells4 (((ext_trans HBC.out HBK.out).block _ (Array.getElem?_eq_some_iff.1 HY2.out.2).1).trans HY2.out.2)
        by_cases hk:k < n
        ·have hkI:(k:Int) < ((n:Nat):Int):=by omega
         have OZ:=hidIt (Of_z enc wk tx A (k:Nat) (HT.out.ext (ext_trans HBWY.out (ext_trans HBC.out HBK.out))))
         rw [HTL.out.of k hfk hk] at OZ
         have qi:(((i:Nat):Int) != ((i:Nat):Int))=false:=by simp
         go_wp2_with (go_at_call 31;refine OZ.out.mono ?_;rintro e z2 ⟨rfl,hb⟩;have HBZ:=hidIt hb;clear hb OZ;(try dsimp only))
         go_roundw
         case rel=>exact ⟨k + 1,by omega,by omega,by go_num,ext_trans HBK.out HBZ.out⟩
         case measure=>simp [intOf];omega
        ·obtain rfl:n=k:=by omega
         have hkI:¬ ((n:Nat):Int) < ((n:Nat):Int):=by omega
         go_upto_region 26 with fail
         go_cut [162] from 148 to 162 (fun tv wF=>tv=.bool false∧wF=wk)
         case first =>
          by_cases hb:b=0
          ·have hbb:(b == 0)=true:=by simpa using hb
           by_cases he:f=t
           ·have heb:(((f:Nat):Int) == ((t:Nat):Int))=true:=by simp [he]
            have hz:=(HTL.out.la hb).2 he
            have HZZ:Hid ((Value.bool (decide (0 < A.length))=Value.bool false)∧(Value.bool (decide ((0:Int) < (A.length:Int)))=Value.bool false)):=by unfold Hid;rw [hz];exact ⟨rfl,rfl⟩
            clear hb he hz
            go_wp2_with fail
            go_meet
            case rel=>exact ⟨by first | exact HZZ.out.1 | exact HZZ.out.2,rfl⟩
           ·have heb:(((f:Nat):Int) == ((t:Nat):Int))=false:=by simp;omega
            clear hb he
            go_wp2_with fail
            go_meet
            case rel=>exact ⟨rfl,rfl⟩
          ·have hbb:(b == 0)=false:=by simpa using hb
           clear hb
           go_wp2_with fail
           go_meet
           case rel=>exact ⟨rfl,rfl⟩
         case rest =>
          obtain ⟨rfl,hwc⟩:=hcut
          rw [hwc]
          clear hwc
          have HSZ:Hid (Seen wk bs enc A i):=by
           have lb:=(Array.getElem?_eq_some_iff.1 (show wo.heap[bs]?=_ from HSN.out)).1
           exact ((HY2.out.1.trans ((ext_trans HBC.out HBK.out).mono HY2.out.1.size)).block bs lb).trans HSN.out
          have HBF:Hid (Below w1.heap.size w1 wk):=ext_trans HBR.out (HY2.out.1.trans ((ext_trans HBC.out HBK.out).mono HY2.out.1.size))
          have HN0:=hidIt HTL.out.n0
          have lbs:=(Array.getElem?_eq_some_iff.1 (show wo.heap[bs]?=_ from HSN.out)).1
          have hgw:=HGW.out
          have hne:¬ gl=bs:=by omega
          have hne2:¬ bs=gl:=by omega
          clear lbs hgw
          have hb4:b=0∨b=1∨b=2∨b=3:=by omega
          have hm9:i < 65538:=by omega
          rcases hb4 with rfl | rfl | rfl | rfl
          ·obtain ⟨_,s0,s1,s2,s3,sf⟩:=cells4 HSZ.out
           have hk9:=kCF_le enc A i 0
           obtain ⟨k1,k2⟩:=Seen.step HSZ.out HTL.out (by rw [HCM.out];omega) 0 rfl (by decide)
           have K1:=hidIt k1
           have K2:=hidIt (Below.grown HBF.out k2 HBF.out.size (fun k e=>by cases e;rw [HBS.out];exact Nat.le_refl _))
           clear k1 k2
           generalize kC (alF enc A i) 0=kk at *
           go_wp2_with fail
           go_roundw
           case rel=>exact ⟨i + 1,by omega,by go_num,by rw [HN0.out],by go_num,K2.out⟩
           case measure=>simp [intOf];omega
          ·obtain ⟨_,s0,s1,s2,s3,sf⟩:=cells4 HSZ.out
           have hk9:=kCF_le enc A i 1
           obtain ⟨k1,k2⟩:=Seen.step HSZ.out HTL.out (by rw [HCM.out];omega) 1 rfl (by decide)
           have K1:=hidIt k1
           have K2:=hidIt (Below.grown HBF.out k2 HBF.out.size (fun k e=>by cases e;rw [HBS.out];exact Nat.le_refl _))
           clear k1 k2
           generalize kC (alF enc A i) 1=kk at *
           go_wp2_with fail
           go_roundw
           case rel=>exact ⟨i + 1,by omega,by go_num,by rw [HN0.out],by go_num,K2.out⟩
           case measure=>simp [intOf];omega
          ·obtain ⟨_,s0,s1,s2,s3,sf⟩:=cells4 HSZ.out
           have hk9:=kCF_le enc A i 2
           obtain ⟨k1,k2⟩:=Seen.step HSZ.out HTL.out (by rw [HCM.out];omega) 2 rfl (by decide)
           have K1:=hidIt k1
           have K2:=hidIt (Below.grown HBF.out k2 HBF.out.size (fun k e=>by cases e;rw [HBS.out];exact Nat.le_refl _))
           clear k1 k2
           generalize kC (alF enc A i) 2=kk at *
           go_wp2_with fail
           go_roundw
           case rel=>exact ⟨i + 1,by omega,by go_num,by rw [HN0.out],by go_num,K2.out⟩
           case measure=>simp [intOf];omega
          ·obtain ⟨_,s0,s1,s2,s3,sf⟩:=cells4 HSZ.out
           have hk9:=kCF_le enc A i 3
           obtain ⟨k1,k2⟩:=Seen.step HSZ.out HTL.out (by rw [HCM.out];omega) 3 rfl (by decide)
           have K1:=hidIt k1
           have K2:=hidIt (Below.grown HBF.out k2 HBF.out.size (fun k e=>by cases e;rw [HBS.out];exact Nat.le_refl _))
           clear k1 k2
           generalize kC (alF enc A i) 3=kk at *
           go_wp2_with fail
           go_roundw
           case rel=>exact ⟨i + 1,by omega,by go_num,by rw [HN0.out],by go_num,K2.out⟩
           case measure=>simp [intOf];omega
  ·obtain rfl:i=m:=by omega
   have hge:¬ ((i:Nat):Int) < ((i:Nat):Int):=by omega
   have hend:=atK_end (enc:=enc) (A:=A) (i:=i) HCM.out.symm
   rw [hend]
   have hal:al enc A=alF enc A i:=by unfold al;rw [HCM.out,Int.toNat_natCast]
   have KZ:=hidIt (Kinds_z enc wo tx A (HT.out.ext HBWR.out))
   rw [hal] at KZ
   have SN:=HSN.out
   unfold Seen at SN
   generalize kC (alF enc A i) 0=k0 at KZ SN
   generalize kC (alF enc A i) 1=k1 at KZ SN
   generalize kC (alF enc A i) 2=k2 at KZ SN
   generalize kC (alF enc A i) 3=k3 at KZ SN
   have HSN2:=hidIt SN
   clear SN HSN hal hend
   go_upto_region 31 with (go_at_call 28;refine KZ.out.mono ?_;rintro e z ⟨rfl,hb⟩;have HBZ:=hidIt hb;clear hb KZ;(try dsimp only))
   generalize hz2:World.alloc _ _=z2
   have HZ2:Hid (Below wo.heap.size wo z2∧z2.heap[z.heap.size]?=some (.cells #[.int .i64 (k0:Nat),.int .i64 (k1:Nat),.int .i64 (k2:Nat),.int .i64 (k3:Nat)] 53 (0,0))):=by unfold Hid;rw [← hz2];exact ⟨ext_alloc HBZ.out _,heap_alloc_new _ _⟩
   clear hz2
   generalize z.heap.size=gz at HZ2 ⊢
   obtain ⟨_,g0,g1,g2,g3,gf⟩:=cells4 HZ2.out.2
   obtain ⟨_,s0,s1,s2,s3,sf⟩:=cells4 ((HZ2.out.1.block _ (Array.getElem?_eq_some_iff.1 HSN2.out).1).trans HSN2.out)
   go_wp2_with fail
   go_ret
   exact ⟨rfl,ext_trans HBWR.out HZ2.out.1⟩
end Go.Proofs.YtjomfbegghgbdaaGreat.P
