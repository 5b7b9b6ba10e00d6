import Derived.Test.YtjomfbegghgbdaaGreatJ00
import Derived.Test.YtjomfbegghgbdaaGreatJ33
import Derived.Test.YtjomfbegghgbdaaGreatJ30
import Derived.Test.YtjomfbegghgbdaaGreatJ34
import Derived.Test.YtjomfbegghgbdaaGreatJ40
namespace Go.Proofs.YtjomfbegghgbdaaGreat.P
open Go.RowKit
def ntA (enc:Int) (A:List Int) (z:Int):Int:=if (lnK enc A 0).b=0 then z else (lnK enc A 0).b
set_option maxRecDepth 100000 in
theorem Native_z (enc:Int) (w:World) (t:Nat) (A:List Int) (z:Int) (h:Tz enc w t A):Calls Tryz.prog 30 #[.pointer (some ⟨t,0,none⟩),.int .i64 z] w fun e w'=>e=.returned (.int .i64 (ntA enc A z))∧Below w.heap.size w w':=by
 obtain ⟨a1,a2⟩:=lnA_in enc A 0 (Int.le_refl _) (spn_nn enc A)
 have AT:=hidIt (At_z enc w t A 0 h)
 rw [a1,a2] at AT
 clear h a1 a2
 by_cases hb:(lnK enc A 0).b=0
 ·have HE:=hidIt (show ntA enc A z=z by unfold ntA;rw [if_pos hb])
  rw [hb] at AT
  clear hb
  go_enter Tryz.func30,Tryz.ntmps30
  go_wp2_with (go_at_call 27;refine AT.out.mono ?_;rintro e w1 ⟨rfl,hb1⟩;have HB1:=hidIt hb1;clear hb1;(try dsimp only))
  go_ret
  exact ⟨by rw [HE.out];rfl,ext_trans HB1.out (ext_alloc (Below.refl _ _) _)⟩
 ·have HE:=hidIt (show ntA enc A z=(lnK enc A 0).b by unfold ntA;rw [if_neg hb])
  generalize lnK enc A 0=y at *
  have hbb:(y.b == 0)=false:=by simp [hb]
  go_enter Tryz.func30,Tryz.ntmps30
  go_wp2_with (go_at_call 27;refine AT.out.mono ?_;rintro e w1 ⟨rfl,hb1⟩;have HB1:=hidIt hb1;clear hb1;(try dsimp only))
  go_ret
  exact ⟨by rw [HE.out];rfl,ext_trans HB1.out (ext_alloc (Below.refl _ _) _)⟩
set_option maxRecDepth 100000 in
theorem rNative_any (enc:Int) (va:Value) (A:List Int) (z:Int) (w:World) (hA:Rd .i64 w va A) (hl:A.length≤65536):Calls Tryz.prog 125 #[va,.int .i64 z] w fun e w'=>e=.returned (.int .i64 (ntA enc A z))∧Below w.heap.size w w':=by
 have AL:=hidIt (rAll_any enc va A w hA hl)
 have HNN:=hidIt (spn_nn enc A)
 clear hA
 by_cases hb:(lnK enc A 0).b=0
 ·have HE:=hidIt (show ntA enc A z=z by unfold ntA;rw [if_pos hb])
  have HB:=hidIt hb
  clear hb
  go_enter Tryz.func125,Tryz.ntmps125
  go_wp2_with (go_at_call 40;refine AL.out.mono ?_;rintro e w1 ⟨ao,n,cap,rfl,hn,hb⟩;have HB1:=hidIt hb;have h0n:0 < n:=(by have:=hn.out.1;have:=HNN.out;omega);obtain ⟨ao',cap',e1,hcap,_,r5⟩:=hn.out.2.rd;rw [lns_len] at e1 hcap;simp only [Value.slice.injEq] at e1;obtain ⟨rfl,_,rfl⟩:=e1;obtain ⟨g,rfl,hg,hc⟩:=r5 (by intro e;have:=congrArg List.length e;rw [lns_len] at this;simp at this;omega);have c3:w1.cell? ⟨g,3,none⟩=some (.int .i64 0):=(by have:=(hc 0 _ (lns_at enc A n 0 h0n)).2.2.2;rw [show lnK enc A ((0:Nat):Int)=lnK enc A 0 from rfl,HB.out] at this;exact this);clear hb hn r5 hc;(try dsimp only))
  go_ret
  exact ⟨by rw [HE.out];rfl,HB1.out⟩
 ·have HE:=hidIt (show ntA enc A z=(lnK enc A 0).b by unfold ntA;rw [if_neg hb])
  obtain ⟨y,hy⟩:∃ y,y=(lnK enc A 0).b:=⟨_,rfl⟩
  rw [← hy] at HE hb
  have HY:=hidIt hy
  have hbb:(y != 0)=true:=by simp [hb]
  clear hy
  go_enter Tryz.func125,Tryz.ntmps125
  go_wp2_with (go_at_call 40;refine AL.out.mono ?_;rintro e w1 ⟨ao,n,cap,rfl,hn,hb⟩;have HB1:=hidIt hb;have h0n:0 < n:=(by have:=hn.out.1;have:=HNN.out;omega);obtain ⟨ao',cap',e1,hcap,_,r5⟩:=hn.out.2.rd;rw [lns_len] at e1 hcap;simp only [Value.slice.injEq] at e1;obtain ⟨rfl,_,rfl⟩:=e1;obtain ⟨g,rfl,hg,hc⟩:=r5 (by intro e;have:=congrArg List.length e;rw [lns_len] at this;simp at this;omega);have c3:w1.cell? ⟨g,3,none⟩=some (.int .i64 y):=(by have:=(hc 0 _ (lns_at enc A n 0 h0n)).2.2.2;rw [show lnK enc A ((0:Nat):Int)=lnK enc A 0 from rfl,← HY.out] at this;exact this);clear hb hn r5 hc;(try dsimp only))
  go_ret
  exact ⟨by rw [HE.out];rfl,HB1.out⟩
end Go.Proofs.YtjomfbegghgbdaaGreat.P

namespace Go.Proofs.YtjomfbegghgbdaaGreat.P
open Go.RowKit
theorem al_in (enc:Int) (A:List Int) (k:Nat) (hk:(k:Int) < cnt enc A):(k,lnK enc A (k:Nat)) ∈ al enc A:=by
 unfold al alF
 exact List.mem_map.2 ⟨k,List.mem_range.2 (by omega),rfl⟩
theorem set4 {w:World} {b:Nat} {T:TypeId} {v0 v1 v2 v3:Value} (h:w.heap[b]?=some (.cells #[v0,v1,v2,v3] T (0,0))) (x0 x1 x2 x3:Value) :
  ((((w.setCell ⟨b,0,none⟩ x0).setCell ⟨b,1,none⟩ x1).setCell ⟨b,2,none⟩ x2).setCell ⟨b,3,none⟩ x3).heap[b]?=some (.cells #[x0,x1,x2,x3] T (0,0))∧w.grownBy ((((w.setCell ⟨b,0,none⟩ x0).setCell ⟨b,1,none⟩ x1).setCell ⟨b,2,none⟩ x2).setCell ⟨b,3,none⟩ x3) (some b):=by
 have h0:(w.setCell ⟨b,0,none⟩ x0).heap[b]?=some (.cells #[x0,v1,v2,v3] T (0,0)):=(set1 h 0 x0).1
 have h1:((w.setCell ⟨b,0,none⟩ x0).setCell ⟨b,1,none⟩ x1).heap[b]?=some (.cells #[x0,x1,v2,v3] T (0,0)):=(set1 h0 1 x1).1
 have h2:(((w.setCell ⟨b,0,none⟩ x0).setCell ⟨b,1,none⟩ x1).setCell ⟨b,2,none⟩ x2).heap[b]?=some (.cells #[x0,x1,x2,v3] T (0,0)):=(set1 h1 2 x2).1
 exact ⟨(set1 h2 3 x3).1,grown_trans (grown_trans (grown_trans (set1 h 0 x0).2 (set1 h0 1 x1).2) (set1 h1 2 x2).2) (set1 h2 3 x3).2⟩
theorem alF_len (enc:Int) (A:List Int) (m:Nat):(alF enc A m).length=m:=by simp [alF]
set_option maxRecDepth 100000 in
set_option maxHeartbeats 4000000 in
theorem rKinds_any (enc:Int) (va:Value) (A:List Int) (w:World) (hA:Rd .i64 w va A) (hl:A.length≤65536):Calls Tryz.prog 124 #[va] w fun e w'=>e=.returned (.agg #[.int .i64 (kC (al enc A) 0:Nat),.int .i64 (kC (al enc A) 1:Nat),.int .i64 (kC (al enc A) 2:Nat),.int .i64 (kC (al enc A) 3:Nat)])∧Below w.heap.size w w':=by
 have hcn:∃ m:Nat,cnt enc A=m∧(m:Int)≤(spn enc A).b + 1:=⟨(cnt enc A).toNat,by have:=spn_nn enc A;unfold cnt;split <;> omega,by have:=spn_nn enc A;unfold cnt;split <;> omega⟩
 obtain ⟨m,hm,hmB⟩:=hcn
 have hsl:=spn_len enc A
 obtain ⟨w0,hw0,q0,q1,hb0,hz0⟩:∃ w0,(w.alloc (.cells #[.int .i64 0,.int .i64 0,.int .i64 0,.int .i64 0] 53)).alloc (.cells #[.int .i64 0,.int .i64 0,.int .i64 0,.int .i64 0] 53)=w0∧w0.heap[w.heap.size]?=some (.cells #[.int .i64 0,.int .i64 0,.int .i64 0,.int .i64 0] 53 (0,0))∧w0.heap[w.heap.size + 1]?=some (.cells #[.int .i64 0,.int .i64 0,.int .i64 0,.int .i64 0] 53 (0,0))∧Below w.heap.size w w0∧w0.heap.size=w.heap.size + 2:=by
  refine ⟨_,rfl,(Below.heap_alloc _ _ _ (by simp)).trans (heap_alloc_new _ _),?_,ext_alloc (ext_alloc (Below.refl _ _) _) _,by simp⟩
  have e:w.heap.size + 1=(w.alloc (.cells #[.int .i64 0,.int .i64 0,.int .i64 0,.int .i64 0] 53)).heap.size:=by simp
  rw [e]
  exact heap_alloc_new _ _
 have AL:=hidIt (rAll_any enc va A w0 (hA.ext hb0) hl)
 rw [hm] at AL
 have HM:=hidIt hm
 have HB0:=hidIt hb0
 have HW0:=hidIt hw0
 have HQ0:=hidIt q0
 have HQ1:=hidIt q1
 obtain ⟨aa,ca,hva⟩:∃ aa ca,va=.slice aa A.length ca:=by obtain ⟨aa,ca,e,_⟩:=hA;exact ⟨aa,ca,e⟩
 subst hva
 clear hA hb0 hw0 q0 q1 hm
 go_enter Tryz.func124,Tryz.ntmps124
 go_upto_region 2 with fail
 rw [HW0.out]
 clear HW0
 go_upto_region 3 with (go_at_call 40;refine AL.out.mono ?_;rintro e w1 ⟨ao,n,cap,rfl,hn,hb⟩;have HB1:=hidIt hb;have HN:=hidIt hn.out;clear hn hb;(try dsimp only))
 have hmn:m≤n:=by have:=HN.out.1;omega
 have hn9:n≤65537:=by have:=HN.out.1;omega
 have hrd:=HN.out.2.rd
 obtain ⟨ao',cap',hv',hcap1,hcap2,h6⟩:=hrd
 rw [lns_len] at hv' hcap1
 simp only [Value.slice.injEq,true_and] at hv'
 obtain ⟨rfl,rfl⟩:=hv'
 obtain ⟨gr,hgr,hgl,hrow⟩:=h6 (by intro e;have e1:=congrArg List.length e;rw [lns_len] at e1;have e2:=HN.out.1;have e3:=spn_nn enc A;have e4:n=0:=e1;omega)
 subst hgr
 have hge:w0.heap.size≤gr:=by
  rcases HN.out.2.2 with ⟨h,_⟩ | ⟨g',cap',cur,hv,h0,_⟩
  ·cases h
  ·simp only [Value.slice.injEq,Option.some.injEq,Addr.mk.injEq] at hv
   rw [hv.1.1]
   exact h0
 have HROW:Hid (∀ i,i < m→w1.cell? ⟨gr,i * 4 + 3,none⟩=some (.int .i64 (lnK enc A (i:Nat)).b)):=fun i hi=>(hrow i _ (lns_at enc A n i (by omega))).2.2.2
 have HK0:Hid (KnI (w.heap.size + 1) (alF enc A 0) w1):=(HB1.out.block _ (Array.getElem?_eq_some_iff.1 HQ1.out).1).trans HQ1.out
 have HR0:Hid (w1.heap[w.heap.size]?=some (.cells #[.int .i64 0,.int .i64 0,.int .i64 0,.int .i64 0] 53 (0,0))):=(HB1.out.block _ (Array.getElem?_eq_some_iff.1 HQ0.out).1).trans HQ0.out
 clear AL h6 hrow HQ0 HQ1 HN
 go_wp2_with fail
 go_loopw [6] (fun i wr=>∃ k:Nat,k≤m∧i=.int .i64 (k:Nat)∧Hid (KnI (w.heap.size + 1) (alF enc A k) wr∧Kps (fun j=>j=w.heap.size + 1) w1 wr)) (fun i _=>m - (intOf i).toNat)
 case atStart=>exact ⟨0,Nat.zero_le _,rfl,HK0.out,Kps.refl _ _⟩
 case round =>
  obtain ⟨k,hk,rfl,HI⟩:=hrel
  have hz1:=HB1.out.size
  by_cases hlt:k < m
  ·have hlt':(k:Int) < (m:Int):=by omega
   have hltn:k < n:=by omega
   have hltn':(k:Int) < (n:Int):=by omega
   have c3:wr.cell? ⟨gr,k * 4 + 3,none⟩=some (.int .i64 (lnK enc A (k:Nat)).b):=by
    have e:=HI.out.2.same gr hgl (by omega)
    have:=HROW.out k hlt
    unfold World.cell? at this ⊢
    rw [e]
    exact this
   have hq:=al_b enc A _ (al_in enc A k (by rw [HM.out];exact hlt'))
   have hln:=alF_len enc A k
   have l0:=kC_le (alF enc A k) 0
   have l1:=kC_le (alF enc A k) 1
   have l2:=kC_le (alF enc A k) 2
   have l3:=kC_le (alF enc A k) 3
   rw [hln] at l0 l1 l2 l3
   have HKS:Hid (∀ i:Int,kC (alF enc A (k + 1)) i=kC (alF enc A k) i + if (lnK enc A (k:Nat)).b=i then 1 else 0):=fun i=>by rw [alF_succ];exact kC_snoc _ _ i
   simp only at hq
   have hI1:=HI.out.1
   unfold KnI at hI1
   have HK2:=hidIt HI.out.2
   clear HI hln
   generalize (lnK enc A (k:Nat)).b=lb at *
   have HC:Hid (∃ c0 c1 c2 c3:Nat,kC (alF enc A k) 0=c0∧kC (alF enc A k) 1=c1∧kC (alF enc A k) 2=c2∧kC (alF enc A k) 3=c3):=⟨_,_,_,_,rfl,rfl,rfl,rfl⟩
   obtain ⟨e0,e1,e2,e3,g0,g1,g2,g3⟩:=HC.out
   have HG:Hid (kC (alF enc A k) 0=e0∧kC (alF enc A k) 1=e1∧kC (alF enc A k) 2=e2∧kC (alF enc A k) 3=e3):=⟨g0,g1,g2,g3⟩
   rw [g0,g1,g2,g3] at hI1
   rw [g0] at l0
   rw [g1] at l1
   rw [g2] at l2
   rw [g3] at l3
   have HI1:=hidIt hI1
   obtain ⟨_,d0,d1,d2,d3,df⟩:=cells4 hI1
   clear HC g0 g1 g2 g3 hI1
   rcases hq with rfl | rfl | rfl | rfl
   ·have hwj:IntKind.i64.wrap ((e0:Int) + 1)=((e0 + 1:Nat):Int):=by rw [IntKind.wrap_i64];omega
    go_wp2_with fail
    go_roundw
    case rel =>
     obtain ⟨s1,s2⟩:=set1 HI1.out 0 (.int .i64 ((e0:Int) + 1))
     refine ⟨k + 1,by omega,by go_num,?_,HK2.out.trans (Kps.grown (o:=fun j=>j=w.heap.size + 1) s2 (fun j hj _=>by cases hj;rfl)) (fun _ _ e=>e)⟩
     have k0:kC (alF enc A (k + 1)) 0=e0 + 1:=by rw [HKS.out 0,HG.out.1];rfl
     have k1:kC (alF enc A (k + 1)) 1=e1:=by rw [HKS.out 1,HG.out.2.1];rfl
     have k2:kC (alF enc A (k + 1)) 2=e2:=by rw [HKS.out 2,HG.out.2.2.1];rfl
     have k3:kC (alF enc A (k + 1)) 3=e3:=by rw [HKS.out 3,HG.out.2.2.2];rfl
     unfold KnI
     rw [k0,k1,k2,k3,Int.natCast_add]
     exact s1
    case measure=>simp [intOf];omega
   ·have hwj:IntKind.i64.wrap ((e1:Int) + 1)=((e1 + 1:Nat):Int):=by rw [IntKind.wrap_i64];omega
    go_wp2_with fail
    go_roundw
    case rel =>
     obtain ⟨s1,s2⟩:=set1 HI1.out 1 (.int .i64 ((e1:Int) + 1))
     refine ⟨k + 1,by omega,by go_num,?_,HK2.out.trans (Kps.grown (o:=fun j=>j=w.heap.size + 1) s2 (fun j hj _=>by cases hj;rfl)) (fun _ _ e=>e)⟩
     have k0:kC (alF enc A (k + 1)) 0=e0:=by rw [HKS.out 0,HG.out.1];rfl
     have k1:kC (alF enc A (k + 1)) 1=e1 + 1:=by rw [HKS.out 1,HG.out.2.1];rfl
     have k2:kC (alF enc A (k + 1)) 2=e2:=by rw [HKS.out 2,HG.out.2.2.1];rfl
     have k3:kC (alF enc A (k + 1)) 3=e3:=by rw [HKS.out 3,HG.out.2.2.2];rfl
     unfold KnI
     rw [k0,k1,k2,k3,Int.natCast_add]
     exact s1
    case measure=>simp [intOf];omega
   ·have hwj:IntKind.i64.wrap ((e2:Int) + 1)=((e2 + 1:Nat):Int):=by rw [IntKind.wrap_i64];omega
    go_wp2_with fail
    go_roundw
    case rel =>
     obtain ⟨s1,s2⟩:=set1 HI1.out 2 (.int .i64 ((e2:Int) + 1))
     refine ⟨k + 1,by omega,by go_num,?_,HK2.out.trans (Kps.grown (o:=fun j=>j=w.heap.size + 1) s2 (fun j hj _=>by cases hj;rfl)) (fun _ _ e=>e)⟩
     have k0:kC (alF enc A (k + 1)) 0=e0:=by rw [HKS.out 0,HG.out.1];rfl
     have k1:kC (alF enc A (k + 1)) 1=e1:=by rw [HKS.out 1,HG.out.2.1];rfl
     have k2:kC (alF enc A (k + 1)) 2=e2 + 1:=by rw [HKS.out 2,HG.out.2.2.1];rfl
     have k3:kC (alF enc A (k + 1)) 3=e3:=by rw [HKS.out 3,HG.out.2.2.2];rfl
     unfold KnI
     rw [k0,k1,k2,k3,Int.natCast_add]
     exact s1
    case measure=>simp [intOf];omega
   ·have hwj:IntKind.i64.wrap ((e3:Int) + 1)=((e3 + 1:Nat):Int):=by rw [IntKind.wrap_i64];omega
    go_wp2_with fail
    go_roundw
    case rel =>
     obtain ⟨s1,s2⟩:=set1 HI1.out 3 (.int .i64 ((e3:Int) + 1))
     refine ⟨k + 1,by omega,by go_num,?_,HK2.out.trans (Kps.grown (o:=fun j=>j=w.heap.size + 1) s2 (fun j hj _=>by cases hj;rfl)) (fun _ _ e=>e)⟩
     have k0:kC (alF enc A (k + 1)) 0=e0:=by rw [HKS.out 0,HG.out.1];rfl
     have k1:kC (alF enc A (k + 1)) 1=e1:=by rw [HKS.out 1,HG.out.2.1];rfl
     have k2:kC (alF enc A (k + 1)) 2=e2:=by rw [HKS.out 2,HG.out.2.2.1];rfl
     have k3:kC (alF enc A (k + 1)) 3=e3 + 1:=by rw [HKS.out 3,HG.out.2.2.2];rfl
     unfold KnI
     rw [k0,k1,k2,k3,Int.natCast_add]
     exact s1
    case measure=>simp [intOf];omega
  ·obtain rfl:k=m:=by omega
   have hge':¬ (k:Int) < (k:Int):=by omega
   have HR:Hid (wr.heap[w.heap.size]?=some (.cells #[.int .i64 0,.int .i64 0,.int .i64 0,.int .i64 0] 53 (0,0))):=(HI.out.2.same _ (Array.getElem?_eq_some_iff.1 HR0.out).1 (by omega)).trans HR0.out
   have HE0:Hid (alF enc A k=al enc A):=by unfold Hid al;rw [HM.out];rfl
   have hI1:=HI.out.1
   rw [HE0.out] at hI1
   unfold KnI at hI1
   have HK2:=hidIt HI.out.2
   obtain ⟨e0,g0⟩:∃ e,kC (al enc A) 0=e:=⟨_,rfl⟩
   obtain ⟨e1,g1⟩:∃ e,kC (al enc A) 1=e:=⟨_,rfl⟩
   obtain ⟨e2,g2⟩:∃ e,kC (al enc A) 2=e:=⟨_,rfl⟩
   obtain ⟨e3,g3⟩:∃ e,kC (al enc A) 3=e:=⟨_,rfl⟩
   have HE:Hid (kC (al enc A) 0=e0∧kC (al enc A) 1=e1∧kC (al enc A) 2=e2∧kC (al enc A) 3=e3):=⟨g0,g1,g2,g3⟩
   rw [g0,g1,g2,g3] at hI1
   obtain ⟨_,d0,d1,d2,d3,df⟩:=cells4 hI1
   obtain ⟨_,r0,r1,r2,r3,rf⟩:=cells4 HR.out
   clear hI1 g0 g1 g2 g3 HI HE0 HROW
   go_wp2_with fail
   generalize hw5:World.setCell _ _ _=w5
   have HW5:Hid (w5.heap[w.heap.size]?=some (.cells #[.int .i64 (e0:Nat),.int .i64 (e1:Nat),.int .i64 (e2:Nat),.int .i64 (e3:Nat)] 53 (0,0))∧wr.grownBy w5 (some w.heap.size)):=by
    unfold Hid
    rw [← hw5]
    exact set4 HR.out _ _ _ _
   clear hw5 r0 r1 r2 r3 rf d0 d1 d2 d3 df
   obtain ⟨_,r0,r1,r2,r3,rf⟩:=cells4 HW5.out.1
   refine bodyPost_ret (v:=.agg #[.int .i64 (e0:Nat),.int .i64 (e1:Nat),.int .i64 (e2:Nat),.int .i64 (e3:Nat)]) (by simp [results,Tryz.results124,go_sem,r0,r1,r2,r3]) rfl ⟨by rw [HE.out.1,HE.out.2.1,HE.out.2.2.1,HE.out.2.2.2],?_⟩
   refine HB0.out.trans (Kps.below (o:=fun j=>w.heap.size≤j) ?_ HB0.out.size (fun j hj=>hj))
   exact ((Kps.of_below (fun j=>w.heap.size≤j) HB1.out).trans HK2.out (fun i _ e=>by omega)).trans (Kps.grown (o:=fun j=>w.heap.size≤j) HW5.out.2 (fun j hj _=>by cases hj;exact Nat.le_refl _)) (fun _ _ e=>e)
set_option maxRecDepth 100000 in
set_option maxHeartbeats 8000000 in
theorem counts_five (enc:Int) (w:World) (g t:Nat) (A:List Int) (m:Nat) (o:Opv) (v:Value) (h:BtW enc w g t A m) (hk:o.k=5) (hv:∃ ap np cp,v=.slice ap np cp):Yes 101 w g o v:=by
 intro w1 hb1
 obtain ⟨ap,np,cp,rfl⟩:=hv
 obtain ⟨who,k,a,b,put⟩:=o
 dsimp only at hk
 subst hk
 unfold Opv.val
 dsimp only
 obtain ⟨w0,hw0,kk0,hb0⟩:∃ w0,w0=w1.alloc (.cells #[.int .i64 who,.int .i64 5,.int .i64 a,.int .i64 b,.slice ap np cp] 38)∧w0.heap[w1.heap.size]?=some (.cells #[.int .i64 who,.int .i64 5,.int .i64 a,.int .i64 b,.slice ap np cp] 38 (0,0))∧Below w1.heap.size w1 w0:=⟨_,rfl,heap_alloc_new _ _,ext_alloc (Below.refl _ _) _⟩
 have HB0:=hidIt hb0
 have HW0:=hidIt ((h.ext hb1).ext hb0)
 obtain ⟨hlt,c0,c1,c2,c3,c4⟩:=cells5 kk0
 obtain ⟨va,hg,hva⟩:=HW0.out.ex
 obtain ⟨aa,ca,hvv⟩:=hva.form
 subst hvv
 have HGG:=hidIt hg
 have HVA:=hidIt hva
 have hlen:=HW0.out.tz.len
 have HS:Hid (∀ w',Below w0.heap.size w0 w'→w'.cell? ⟨g,0,none⟩=some (.pointer (some ⟨t,0,none⟩))∧w'.cell? ⟨g,1,none⟩=some (.slice aa A.length ca)∧w'.cell? ⟨w1.heap.size,2,none⟩=some (.int .i64 a)):=fun w' hb=>⟨(hb.cell (p:=⟨g,0,none⟩) HW0.out.lt).trans (cells2 HGG.out).2.1,(hb.cell (p:=⟨g,1,none⟩) HW0.out.lt).trans (cells2 HGG.out).2.2.1,(hb.cell (p:=⟨w1.heap.size,2,none⟩) hlt).trans c2⟩
 have ks:=HS.out w0 (Below.refl _ _)
 clear hg hva h hb0 hb1 kk0
 have KN:Hid (∀ w',Below w0.heap.size w0 w'→Calls Tryz.prog 28 #[.pointer (some ⟨t,0,none⟩)] w' fun e w''=>e=.returned (.agg #[.int .i64 (kC (al enc A) 0:Nat),.int .i64 (kC (al enc A) 1:Nat),.int .i64 (kC (al enc A) 2:Nat),.int .i64 (kC (al enc A) 3:Nat)])∧Below w'.heap.size w' w''):=fun w' hb=>Kinds_z enc w' t A (HW0.out.tz.ext hb)
 have RK:Hid (∀ w',Below w0.heap.size w0 w'→Calls Tryz.prog 124 #[.slice aa A.length ca] w' fun e w''=>e=.returned (.agg #[.int .i64 (kC (al enc A) 0:Nat),.int .i64 (kC (al enc A) 1:Nat),.int .i64 (kC (al enc A) 2:Nat),.int .i64 (kC (al enc A) 3:Nat)])∧Below w'.heap.size w' w''):=fun w' hb=>rKinds_any enc _ A w' (HVA.out.ext hb).rdi hlen
 generalize kC (al enc A) 0=z0 at *
 generalize kC (al enc A) 1=z1 at *
 generalize kC (al enc A) 2=z2 at *
 generalize kC (al enc A) 3=z3 at *
 go_enter Tryz.func101,Tryz.ntmps101
 go_upto_region 1 with fail
 rw [← hw0]
 clear hw0
 obtain ⟨s0,s1,s2⟩:=ks
 go_upto_region 6 with (go_at_call 28;refine (KN.out _ (Below.refl _ _)).mono ?_;rintro e y2 ⟨rfl,hb⟩;have Hy2:=hidIt hb;clear hb;(try dsimp only))
 generalize hy3:World.alloc _ _=y3
 have HY3:Hid (Below w0.heap.size w0 y3∧y3.heap[y2.heap.size]?=some (.cells #[.int .i64 (z0:Nat),.int .i64 (z1:Nat),.int .i64 (z2:Nat),.int .i64 (z3:Nat)] 53 (0,0))):=by unfold Hid;rw [← hy3];exact ⟨ext_trans Hy2.out (ext_alloc (Below.refl _ _) _),heap_alloc_new _ _⟩
 clear hy3 s0 s1 s2
 obtain ⟨s0,s1,s2⟩:=HS.out y3 HY3.out.1
 go_upto_region 7 with (go_at_call 124;refine (RK.out _ HY3.out.1).mono ?_;rintro e y4 ⟨rfl,hb⟩;have Hy4:=hidIt hb;clear hb;(try dsimp only))
 generalize hy5:World.alloc _ _=y5
 have HY5:Hid (Below y3.heap.size y3 y5∧y5.heap[y4.heap.size]?=some (.cells #[.int .i64 (z0:Nat),.int .i64 (z1:Nat),.int .i64 (z2:Nat),.int .i64 (z3:Nat)] 53 (0,0))):=by unfold Hid;rw [← hy5];exact ⟨ext_trans Hy4.out (ext_alloc (Below.refl _ _) _),heap_alloc_new _ _⟩
 clear hy5 s0 s1 s2
 obtain ⟨_,d0,d1,d2,d3,_⟩:=cells4 HY5.out.2
 obtain ⟨_,e0,e1,e2,e3,_⟩:=cells4 ((HY5.out.1.block _ (Array.getElem?_eq_some_iff.1 HY3.out.2).1).trans HY3.out.2)
 go_wp2_with fail
 go_ret
 exact ⟨rfl,ext_trans HB0.out (ext_trans HY3.out.1 HY5.out.1)⟩
set_option maxRecDepth 100000 in
set_option maxHeartbeats 8000000 in
theorem counts_six (enc:Int) (w:World) (g t:Nat) (A:List Int) (m:Nat) (o:Opv) (v:Value) (h:BtW enc w g t A m) (hk:o.k=6) (hv:∃ ap np cp,v=.slice ap np cp):Yes 101 w g o v:=by
 intro w1 hb1
 obtain ⟨ap,np,cp,rfl⟩:=hv
 obtain ⟨who,k,a,b,put⟩:=o
 dsimp only at hk
 subst hk
 unfold Opv.val
 dsimp only
 obtain ⟨w0,hw0,kk0,hb0⟩:∃ w0,w0=w1.alloc (.cells #[.int .i64 who,.int .i64 6,.int .i64 a,.int .i64 b,.slice ap np cp] 38)∧w0.heap[w1.heap.size]?=some (.cells #[.int .i64 who,.int .i64 6,.int .i64 a,.int .i64 b,.slice ap np cp] 38 (0,0))∧Below w1.heap.size w1 w0:=⟨_,rfl,heap_alloc_new _ _,ext_alloc (Below.refl _ _) _⟩
 have HB0:=hidIt hb0
 have HW0:=hidIt ((h.ext hb1).ext hb0)
 obtain ⟨hlt,c0,c1,c2,c3,c4⟩:=cells5 kk0
 obtain ⟨va,hg,hva⟩:=HW0.out.ex
 obtain ⟨aa,ca,hvv⟩:=hva.form
 subst hvv
 have HGG:=hidIt hg
 have HVA:=hidIt hva
 have hlen:=HW0.out.tz.len
 have HS:Hid (∀ w',Below w0.heap.size w0 w'→w'.cell? ⟨g,0,none⟩=some (.pointer (some ⟨t,0,none⟩))∧w'.cell? ⟨g,1,none⟩=some (.slice aa A.length ca)∧w'.cell? ⟨w1.heap.size,2,none⟩=some (.int .i64 a)):=fun w' hb=>⟨(hb.cell (p:=⟨g,0,none⟩) HW0.out.lt).trans (cells2 HGG.out).2.1,(hb.cell (p:=⟨g,1,none⟩) HW0.out.lt).trans (cells2 HGG.out).2.2.1,(hb.cell (p:=⟨w1.heap.size,2,none⟩) hlt).trans c2⟩
 have ks:=HS.out w0 (Below.refl _ _)
 clear hg hva h hb0 hb1 kk0
 have CN:Hid (∀ w',Below w0.heap.size w0 w'→Calls Tryz.prog 30 #[.pointer (some ⟨t,0,none⟩),.int .i64 a] w' fun e w''=>e=.returned (.int .i64 (ntA enc A a))∧Below w'.heap.size w' w''):=fun w' hb=>Native_z enc w' t A a (HW0.out.tz.ext hb)
 have RC:Hid (∀ w',Below w0.heap.size w0 w'→Calls Tryz.prog 125 #[.slice aa A.length ca,.int .i64 a] w' fun e w''=>e=.returned (.int .i64 (ntA enc A a))∧Below w'.heap.size w' w''):=fun w' hb=>rNative_any enc _ A a w' (HVA.out.ext hb).rdi hlen
 generalize ntA enc A a=z at *
 go_enter Tryz.func101,Tryz.ntmps101
 go_upto_region 1 with fail
 rw [← hw0]
 clear hw0
 go_upto_region 8 with fail
 refine wp_region_held_drew (S:=fun w''=>w''.cell? ⟨g,0,none⟩=some (.pointer (some ⟨t,0,none⟩))∧w''.cell? ⟨g,1,none⟩=some (.slice aa A.length ca)∧w''.cell? ⟨w1.heap.size,2,none⟩=some (.int .i64 a)) (by kernel_rfl) (ks) (fun hHeld=>?_)
 refine tkH 0 rfl ?_
 try simp only [Act.put,tS]
 refine tkH 1 rfl ?_
 try simp only [Act.put,tS]
 refine tkH 2 rfl ?_
 try simp only [Act.put,tS]
 refine tkH 3 rfl ?_
 try simp only [Act.put,tS]
 refine tkH 4 rfl ?_
 try simp only [Act.put,tS]
 refine tkH 5 rfl ?_
 try simp only [Act.put,tS]
 refine tkH 7 rfl ?_
 try simp only [Act.put,tS]
 refine tkH 8 rfl ?_
 try simp only [Act.put,tS]
 refine tkH 9 rfl ?_
 try simp only [Act.put,tS]
 refine tkH 10 rfl ?_
 try simp only [Act.put,tS]
 refine tkH 11 rfl ?_
 try simp only [Act.put,tS]
 refine tkH 12 rfl ?_
 try simp only [Act.put,tS]
 refine rdH 6 rfl fun K hK=>?_
 go_simp
 refine (CN.out _ (Below.drew (Below.refl _ _))).mono ?_;clear ks;rintro e y2 ⟨rfl,hb⟩;have Hy2:=hidIt (ext_trans (Below.drew (Below.refl w0.heap.size w0)) hb);clear hb;have ks:=HS.out y2 Hy2.out;try dsimp only
 refine hK.out _ _ ?_ (fun hHeld=>?_)
 ·(try simp only [World.cell?_drew]);exact ks
 clear hK K
 try simp only [Act.put,tS]
 refine rdH 13 rfl fun K hK=>?_
 go_simp
 refine (RC.out _ Hy2.out).mono ?_;clear ks;rintro e y3 ⟨rfl,hb⟩;have Hy3:=hidIt (ext_trans Hy2.out hb);clear hb;have ks:=HS.out y3 Hy3.out;try dsimp only
 refine hK.out _ _ ?_ (fun hHeld=>?_)
 ·(try simp only [World.cell?_drew]);exact ks
 clear hK K
 try simp only [Act.put,tS]
 refine tkH 14 rfl ?_
 try simp only [Act.put,tS]
 refine tkH 15 rfl ?_
 try simp only [Act.put,tS]
 refine wpAnyH_done (by kernel_rfl) ?_ _
 go_wp2_with fail
 go_ret
 exact ⟨rfl,ext_trans HB0.out Hy3.out⟩
end Go.Proofs.YtjomfbegghgbdaaGreat.P
