import Derived.Test.YtjomfbegghgbdaaGreatK43
import Derived.BigQuiet
set_option maxRecDepth 100000
namespace Go.Proofs.YtjomfbegghgbdaaGreat.P
open Go.RowKit Go.Shelf
attribute [local go_sem] Oper.semAt_some
def kC (l:List (Nat × Ln)) (b:Int):Nat:=l.countP fun p=>p.2.b == b
theorem kC_snoc (l:List (Nat × Ln)) (x:Nat × Ln) (b:Int):kC (l ++ [x]) b=kC l b + if x.2.b=b then 1 else 0:=by
 unfold kC
 rw [List.countP_append,List.countP_singleton]
 simp only [beq_iff_eq]
theorem kC_le (l:List (Nat × Ln)) (b:Int):kC l b≤l.length:=List.countP_le_length
theorem al_len (enc:Int) (A:List Int):(al enc A).length≤A.length + 1:=by
 unfold al alF
 rw [List.length_map,List.length_range]
 have:=spn_len enc A
 unfold cnt
 split <;> omega
theorem al_b (enc:Int) (A:List Int) (p:Nat × Ln) (h:p ∈ al enc A):p.2.b=0∨p.2.b=1∨p.2.b=2∨p.2.b=3:=by
 unfold al alF at h
 obtain ⟨k,hk,rfl⟩:=List.mem_map.1 h
 show (lnK enc A k).b=0∨_
 unfold lnK
 split
 ·exact .inl rfl
 ·have:=knd_pos A (skA enc A ((k:Int) + 1)).toNat
  show knd _ _=0∨knd _ _=1∨knd _ _=2∨knd _ _=3
  omega
theorem All_at (t:Nat) (w:World) (k:Nat) (hk:w.heap.size=k):Calls Tryz.prog 38 #[.pointer (some ⟨t,0,none⟩)] w fun e w'=>e=.returned (.func (.func 67) #[] #[.pointer (some ⟨k,0,none⟩)])∧w'=w.alloc (.cells #[.pointer (some ⟨t,0,none⟩)] 26):=hk ▸ All_any t w
theorem begun3 (w:World) (a b v:Array Value) (e1 e2 e3:TypeId):∀ w3,w3=((w.alloc (.cells a e1)).alloc (.cells b e2)).alloc (.cells v e3) →
  w3.heap.size=w.heap.size + 3∧w3.heap[w.heap.size]?=some (.cells a e1 (0,0))∧w3.heap[w.heap.size + 1]?=some (.cells b e2 (0,0))∧w3.heap[w.heap.size + 2]?=some (.cells v e3 (0,0))∧Below w.heap.size w w3:=by
 rintro w3 rfl
 refine ⟨by simp,?_,?_,?_,zxa (zxa (zxa (Below.refl _ _) _) _) _⟩
 ·exact (Below.heap_alloc _ _ _ (by simp;omega)).trans ((Below.heap_alloc _ _ _ (by simp)).trans (heap_alloc_new _ _))
 ·have e:w.heap.size + 1=(w.alloc (.cells a e1)).heap.size:=by simp
  rw [e]
  exact (Below.heap_alloc _ _ _ (by simp)).trans (heap_alloc_new _ _)
 ·have e:w.heap.size + 2=((w.alloc (.cells a e1)).alloc (.cells b e2)).heap.size:=by simp
  rw [e]
  exact heap_alloc_new _ _
def KnI (b:Nat) (pre:List (Nat × Ln)) (W:World):Prop:=W.heap[b]?=some (.cells #[.int .i64 (kC pre 0:Nat),.int .i64 (kC pre 1:Nat),.int .i64 (kC pre 2:Nat),.int .i64 (kC pre 3:Nat)] 53 (0,0))
set_option maxHeartbeats 4000000 in
theorem Kinds_z (enc:Int) (w:World) (t:Nat) (A:List Int) (h:Tz enc w t A):Calls Tryz.prog 28 #[.pointer (some ⟨t,0,none⟩)] w fun e w'=>e=.returned (.agg #[.int .i64 (kC (al enc A) 0:Nat),.int .i64 (kC (al enc A) 1:Nat),.int .i64 (kC (al enc A) 2:Nat),.int .i64 (kC (al enc A) 3:Nat)])∧Below w.heap.size w w':=by
 have HT:=zh h
 have hlA:=h.len
 have hal:=al_len enc A
 refine (callsIn_wide (n:=9)).1 ?_
 refine callsIn_of_wp_marks Tryz.func28 rfl trivial ?_ rfl
 simp only [Tryz.ntmps28,List.size_toArray,List.length_cons,List.length_nil,Nat.reduceAdd,Nat.reduceSub,Array.replicate_succ,Array.replicate_zero,List.push_toArray,List.append_toArray,List.nil_append,List.cons_append]
 refine wpIn_mono (Q:=calm _) ?_ (fun _ _ _ h=>calm_imp h)
 refine wpIn_wide.2 ?_
 have AL:=zh (All_at t ((w.alloc (.cells #[.int .i64 0,.int .i64 0,.int .i64 0,.int .i64 0] 53)).alloc (.cells #[.int .i64 0,.int .i64 0,.int .i64 0,.int .i64 0] 53)) (w.heap.size + 2) (by simp))
 go_wp2_with (go_at_call 38;refine AL.out.mono ?_;rintro e w3 ⟨rfl,hw3⟩;have HW3:=zh hw3;clear hw3 AL;(try dsimp only))
 have HG3:=zh (begun3 w _ _ _ _ _ _ w3 HW3.out)
 have hs3:=HG3.out.1
 have SQ:=zh (all_stops 8 enc A t w HT.out w3 HG3.out.2.2.2.2 (w.heap.size + 2) (by omega) HG3.out.2.2.2.1)
 clear HW3 h
 refine (wpIn_wide (n:=9)).1 ?_
 refine range_x (σ:=Unit) rfl (by omega) (gf:=67) (lb:=#[.pointer (some ⟨w.heap.size + 2,0,none⟩)]) rfl trivial (enters_of Tryz.func67 (by kernel_rfl) rfl) SQ.out (Kps.refl _ _) (fun _=>rfl)
  (fun _ k=>k=w.heap.size + 1) (fun _ pre W=>KnI (w.heap.size + 1) pre W) (fun _ _ _ _=>False) ()
  ?rel (fun _=>False) (fun k hk=>hk.elim) (fun _ _ _ _ h hz hk=>(hk _ (.inl rfl)).trans h) (fun _ _ _ _ _ h _ _=>h) (fun _ _ _ h k hk=>by rw [hk];exact (Array.getElem?_eq_some_iff.1 h).1) ?h0
  (fun q a' W=>∃ b,w3.heap.size + 2≤b∧b < W.heap.size∧W.heap[b]?=some (.cells #[.int .i64 q.2.f,.int .i64 q.2.t,.int .i64 q.2.n,.int .i64 q.2.b] 50 (0,0))∧a'={ tmps:=#[.pointer (some ⟨t,0,none⟩),undef,.pointer (some ⟨w.heap.size,0,none⟩),.pointer (some ⟨w.heap.size + 1,0,none⟩),undef,.pointer (some ⟨b,0,none⟩),.pointer (some ⟨t,0,none⟩),.func (.func 67) #[] #[.pointer (some ⟨w.heap.size + 2,0,none⟩)],.int .i64 (q.1:Nat),lnV q.2,undef,undef,undef,undef,undef,undef,undef],defers:=[] })
  (fun _ _ _ _ h hz hk=>by obtain ⟨b,h1,h2,h3,h4⟩:=h;exact ⟨b,h1,by omega,(hk b h1 h2).trans h3,h4⟩) ?assign ?body ?done ?stop
 case rel =>
  rintro k (hk | rfl)
  ·exact ⟨by omega,fun h=>by omega⟩
  ·exact ⟨by omega,fun h=>by omega⟩
 case h0=>exact HG3.out.2.2.1
 case assign =>
  intro l q W K hz hK
  unfold lnV at hK ⊢
  gi_wp2_with fail
  exact hK _ _ (zxa (Below.refl _ _) _) ⟨W.heap.size,hz,by simp,heap_alloc_new _ _,rfl⟩
 case body =>
  rintro l s pre q a' W hI ⟨b,hb1,hb2,hb3,rfl⟩ hSp hzW
  obtain ⟨_,c0,c1,c2,c3,_⟩:=cells4 hb3
  obtain ⟨_,d0,d1,d2,d3,df⟩:=cells4 hI
  have HI:=zh hI
  have hq:=al_b enc A q (hSp.subset (by simp))
  have hln:pre.length≤65536:=by have:=hSp.length_le;rw [List.length_append,List.length_singleton] at this;omega
  have l0:=kC_le pre 0
  have l1:=kC_le pre 1
  have l2:=kC_le pre 2
  have l3:=kC_le pre 3
  have HKS:Hid (∀ i:Int,kC (pre ++ [q]) i=kC pre i + if q.2.b=i then 1 else 0):=fun i=>kC_snoc pre q i
  unfold lnV
  unfold KnI at HI
  clear hSp SQ HG3 hI hb3 c0 c1 c2
  have HC:Hid (∃ c0 c1 c2 c3:Nat,kC pre 0=c0∧kC pre 1=c1∧kC pre 2=c2∧kC pre 3=c3):=⟨_,_,_,_,rfl,rfl,rfl,rfl⟩
  obtain ⟨e0,e1,e2,e3,g0,g1,g2,g3⟩:=HC.out
  have HG:Hid (kC pre 0=e0∧kC pre 1=e1∧kC pre 2=e2∧kC pre 3=e3):=⟨g0,g1,g2,g3⟩
  rw [g0,g1,g2,g3] at HI
  rw [g0] at d0 l0
  rw [g1] at d1 l1
  rw [g2] at d2 l2
  rw [g3] at d3 l3
  clear HC g0 g1 g2 g3
  refine wpIn_block ?_
  rcases hq with hb | hb | hb | hb
  ·rw [hb] at c3 HKS
   have hwj:IntKind.i64.wrap ((e0:Int) + 1)=((e0 + 1:Nat):Int):=by rw [IntKind.wrap_i64];omega
   gi_wp2_with fail
   obtain ⟨s1,s2⟩:=set1 HI.out 0 (.int .i64 ((e0:Int) + 1))
   refine ⟨(),?_,Kps.grown s2 (fun k hk _=>by cases hk;rfl),fun k h=>.inl h⟩
   show KnI (w.heap.size + 1) (pre ++ [q]) _
   have k0:kC (pre ++ [q]) 0=e0 + 1:=by rw [HKS.out 0,HG.out.1];rfl
   have k1:kC (pre ++ [q]) 1=e1:=by rw [HKS.out 1,HG.out.2.1];rfl
   have k2:kC (pre ++ [q]) 2=e2:=by rw [HKS.out 2,HG.out.2.2.1];rfl
   have k3:kC (pre ++ [q]) 3=e3:=by rw [HKS.out 3,HG.out.2.2.2];rfl
   unfold KnI
   rw [k0,k1,k2,k3,Int.natCast_add]
   exact s1
  ·rw [hb] at c3 HKS
   have hwj:IntKind.i64.wrap ((e1:Int) + 1)=((e1 + 1:Nat):Int):=by rw [IntKind.wrap_i64];omega
   gi_wp2_with fail
   obtain ⟨s1,s2⟩:=set1 HI.out 1 (.int .i64 ((e1:Int) + 1))
   refine ⟨(),?_,Kps.grown s2 (fun k hk _=>by cases hk;rfl),fun k h=>.inl h⟩
   show KnI (w.heap.size + 1) (pre ++ [q]) _
   have k0:kC (pre ++ [q]) 0=e0:=by rw [HKS.out 0,HG.out.1];rfl
   have k1:kC (pre ++ [q]) 1=e1 + 1:=by rw [HKS.out 1,HG.out.2.1];rfl
   have k2:kC (pre ++ [q]) 2=e2:=by rw [HKS.out 2,HG.out.2.2.1];rfl
   have k3:kC (pre ++ [q]) 3=e3:=by rw [HKS.out 3,HG.out.2.2.2];rfl
   unfold KnI
   rw [k0,k1,k2,k3,Int.natCast_add]
   exact s1
  ·rw [hb] at c3 HKS
   have hwj:IntKind.i64.wrap ((e2:Int) + 1)=((e2 + 1:Nat):Int):=by rw [IntKind.wrap_i64];omega
   gi_wp2_with fail
   obtain ⟨s1,s2⟩:=set1 HI.out 2 (.int .i64 ((e2:Int) + 1))
   refine ⟨(),?_,Kps.grown s2 (fun k hk _=>by cases hk;rfl),fun k h=>.inl h⟩
   show KnI (w.heap.size + 1) (pre ++ [q]) _
   have k0:kC (pre ++ [q]) 0=e0:=by rw [HKS.out 0,HG.out.1];rfl
   have k1:kC (pre ++ [q]) 1=e1:=by rw [HKS.out 1,HG.out.2.1];rfl
   have k2:kC (pre ++ [q]) 2=e2 + 1:=by rw [HKS.out 2,HG.out.2.2.1];rfl
   have k3:kC (pre ++ [q]) 3=e3:=by rw [HKS.out 3,HG.out.2.2.2];rfl
   unfold KnI
   rw [k0,k1,k2,k3,Int.natCast_add]
   exact s1
  ·rw [hb] at c3 HKS
   have hwj:IntKind.i64.wrap ((e3:Int) + 1)=((e3 + 1:Nat):Int):=by rw [IntKind.wrap_i64];omega
   gi_wp2_with fail
   obtain ⟨s1,s2⟩:=set1 HI.out 3 (.int .i64 ((e3:Int) + 1))
   refine ⟨(),?_,Kps.grown s2 (fun k hk _=>by cases hk;rfl),fun k h=>.inl h⟩
   show KnI (w.heap.size + 1) (pre ++ [q]) _
   have k0:kC (pre ++ [q]) 0=e0:=by rw [HKS.out 0,HG.out.1];rfl
   have k1:kC (pre ++ [q]) 1=e1:=by rw [HKS.out 1,HG.out.2.1];rfl
   have k2:kC (pre ++ [q]) 2=e2:=by rw [HKS.out 2,HG.out.2.2.1];rfl
   have k3:kC (pre ++ [q]) 3=e3 + 1:=by rw [HKS.out 3,HG.out.2.2.2];rfl
   unfold KnI
   rw [k0,k1,k2,k3,Int.natCast_add]
   exact s1
 case done =>
  intro s xs W hk hnw hS hI hdf hno
  subst hS
  have HK:=zh hk
  have hr0:W.heap[w.heap.size]?=some (.cells #[.int .i64 0,.int .i64 0,.int .i64 0,.int .i64 0] 53 (0,0)):=(hk.same w.heap.size (by omega) (by omega)).trans HG3.out.2.1
  have HR0:=zh hr0
  obtain ⟨_,r0,r1,r2,r3,rf⟩:=cells4 hr0
  obtain ⟨_,d0,d1,d2,d3,df⟩:=cells4 hI
  have HB:=zh HG3.out.2.2.2.2
  obtain ⟨e0,g0⟩:∃ e,kC (al enc A) 0=e:=⟨_,rfl⟩
  obtain ⟨e1,g1⟩:∃ e,kC (al enc A) 1=e:=⟨_,rfl⟩
  obtain ⟨e2,g2⟩:∃ e,kC (al enc A) 2=e:=⟨_,rfl⟩
  obtain ⟨e3,g3⟩:∃ e,kC (al enc A) 3=e:=⟨_,rfl⟩
  have HE:Hid (kC (al enc A) 0=e0∧kC (al enc A) 1=e1∧kC (al enc A) 2=e2∧kC (al enc A) 3=e3):=⟨g0,g1,g2,g3⟩
  rw [g0] at d0
  rw [g1] at d1
  rw [g2] at d2
  rw [g3] at d3
  clear hnw SQ HG3 hr0 hI g0 g1 g2 g3
  gi_wp2
  go_wp2_with fail
  generalize hw5:World.setCell _ _ _=w5
  have HW5:Hid (w5.heap[w.heap.size]?=some (.cells #[.int .i64 (e0:Nat),.int .i64 (e1:Nat),.int .i64 (e2:Nat),.int .i64 (e3:Nat)] 53 (0,0))∧W.grownBy w5 (some w.heap.size)):=by
   have h0:(W.setCell ⟨w.heap.size,0,none⟩ (.int .i64 (e0:Nat))).heap[w.heap.size]?=some (.cells #[.int .i64 (e0:Nat),.int .i64 0,.int .i64 0,.int .i64 0] 53 (0,0)):=(set1 HR0.out 0 _).1
   have h1:((W.setCell ⟨w.heap.size,0,none⟩ (.int .i64 (e0:Nat))).setCell ⟨w.heap.size,1,none⟩ (.int .i64 (e1:Nat))).heap[w.heap.size]?=some (.cells #[.int .i64 (e0:Nat),.int .i64 (e1:Nat),.int .i64 0,.int .i64 0] 53 (0,0)):=(set1 h0 1 _).1
   have h2:(((W.setCell ⟨w.heap.size,0,none⟩ (.int .i64 (e0:Nat))).setCell ⟨w.heap.size,1,none⟩ (.int .i64 (e1:Nat))).setCell ⟨w.heap.size,2,none⟩ (.int .i64 (e2:Nat))).heap[w.heap.size]?=some (.cells #[.int .i64 (e0:Nat),.int .i64 (e1:Nat),.int .i64 (e2:Nat),.int .i64 0] 53 (0,0)):=(set1 h1 2 _).1
   unfold Hid
   rw [← hw5]
   exact ⟨(set1 h2 3 _).1,zgt (zgt (zgt (set1 HR0.out 0 _).2 (set1 h0 1 _).2) (set1 h1 2 _).2) (set1 h2 3 _).2⟩
  clear hw5 r0 r1 r2 r3 rf d0 d1 d2 d3 df
  have hdf5:w5.heap[w3.heap.size]?=some (Obj.deferred (some [])):=(HW5.out.2.block _ (Array.getElem?_eq_some_iff.1 hdf).1 (by intro e;have:=Option.some.inj e;omega)).trans hdf
  obtain ⟨_,r0,r1,r2,r3,rf⟩:=cells4 HW5.out.1
  refine ⟨by simp,.inl ⟨_,_,rfl,run_takeDeferred hdf5,?_⟩⟩
  generalize hw6:World.putObj _ _ _=w6
  have HW6:Hid (w6.heap[w.heap.size]?=some (.cells #[.int .i64 (e0:Nat),.int .i64 (e1:Nat),.int .i64 (e2:Nat),.int .i64 (e3:Nat)] 53 (0,0))∧Below w.heap.size w w6):=by
   unfold Hid
   rw [← hw6]
   refine ⟨(World.putObj_heap_other (by omega)).trans HW5.out.1,?_⟩
   refine HB.out.trans (Kps.below (o:=fun k=>w.heap.size≤k) ?_ HB.out.size (fun k hk=>hk))
   exact Kps.trans ((HK.out.mono fun i _ hi=>by omega).trans (Kps.grown (o:=fun k=>w.heap.size≤k) HW5.out.2 (fun k hk _=>by cases hk;exact Nat.le_refl _)) (fun _ _ e=>e)) (Kps.put (o:=fun k=>w.heap.size≤k) _ (by omega)) (fun _ _ e=>e)
  clear hw6 r0 r1 r2 r3 rf
  obtain ⟨_,r0,r1,r2,r3,rf⟩:=cells4 HW6.out.1
  refine ⟨.agg #[.int .i64 (e0:Nat),.int .i64 (e1:Nat),.int .i64 (e2:Nat),.int .i64 (e3:Nat)],by simp [results,Tryz.results28,go_sem,r0,r1,r2,r3],?_⟩
  exact ⟨by rw [HE.out.1,HE.out.2.1,HE.out.2.2.1,HE.out.2.2.2],HW6.out.2⟩
 case stop=>rintro c s pre W hk hnw hSp h;exact h.elim
open Go.RowKit
def ntA (enc:Int) (A:List Int) (z:Int):Int:=if (lnK enc A 0).b=0 then z else (lnK enc A 0).b
theorem Native_z (enc:Int) (w:World) (t:Nat) (A:List Int) (z:Int) (h:Tz enc w t A):Calls Tryz.prog 30 #[.pointer (some ⟨t,0,none⟩),.int .i64 z] w fun e w'=>e=.returned (.int .i64 (ntA enc A z))∧Below w.heap.size w w':=by
 obtain ⟨a1,a2⟩:=lnA_in enc A 0 (Int.le_refl _) (spn_nn enc A)
 have AT:=zh (At_z enc w t A 0 h)
 rw [a1,a2] at AT
 clear h a1 a2
 by_cases hb:(lnK enc A 0).b=0
 ·have HE:=zh (show ntA enc A z=z by unfold ntA;rw [if_pos hb])
  rw [hb] at AT
  clear hb
  go_enter Tryz.func30,Tryz.ntmps30
  go_wp2_with (go_at_call 27;refine AT.out.mono ?_;rintro e w1 ⟨rfl,hb1⟩;have HB1:=zh hb1;clear hb1;(try dsimp only))
  go_ret
  exact ⟨by rw [HE.out];rfl,zxt HB1.out (zxa (Below.refl _ _) _)⟩
 ·have HE:=zh (show ntA enc A z=(lnK enc A 0).b by unfold ntA;rw [if_neg hb])
  generalize lnK enc A 0=y at *
  have hbb:(y.b == 0)=false:=by simp [hb]
  go_enter Tryz.func30,Tryz.ntmps30
  go_wp2_with (go_at_call 27;refine AT.out.mono ?_;rintro e w1 ⟨rfl,hb1⟩;have HB1:=zh hb1;clear hb1;(try dsimp only))
  go_ret
  exact ⟨by rw [HE.out];rfl,zxt HB1.out (zxa (Below.refl _ _) _)⟩
theorem rNative_any (enc:Int) (va:Value) (A:List Int) (z:Int) (w:World) (hA:Rd .i64 w va A) (hl:A.length≤65536):Calls Tryz.prog 125 #[va,.int .i64 z] w fun e w'=>e=.returned (.int .i64 (ntA enc A z))∧Below w.heap.size w w':=by
 have AL:=zh (rAll_any enc va A w hA hl)
 have HNN:=zh (spn_nn enc A)
 clear hA
 by_cases hb:(lnK enc A 0).b=0
 ·have HE:=zh (show ntA enc A z=z by unfold ntA;rw [if_pos hb])
  have HB:=zh hb
  clear hb
  go_enter Tryz.func125,Tryz.ntmps125
  go_wp2_with (go_at_call 40;refine AL.out.mono ?_;rintro e w1 ⟨ao,n,cap,rfl,hn,hb⟩;have HB1:=zh hb;have h0n:0 < n:=(by have:=hn.out.1;have:=HNN.out;omega);obtain ⟨ao',cap',e1,hcap,_,r5⟩:=hn.out.2.rd;rw [lns_len] at e1 hcap;simp only [Value.slice.injEq] at e1;obtain ⟨rfl,_,rfl⟩:=e1;obtain ⟨g,rfl,hg,hc⟩:=r5 (by intro e;have:=congrArg List.length e;rw [lns_len] at this;simp at this;omega);have c3:w1.cell? ⟨g,3,none⟩=some (.int .i64 0):=(by have:=(hc 0 _ (lns_at enc A n 0 h0n)).2.2.2;rw [show lnK enc A ((0:Nat):Int)=lnK enc A 0 from rfl,HB.out] at this;exact this);clear hb hn r5 hc;(try dsimp only))
  go_ret
  exact ⟨by rw [HE.out];rfl,HB1.out⟩
 ·have HE:=zh (show ntA enc A z=(lnK enc A 0).b by unfold ntA;rw [if_neg hb])
  obtain ⟨y,hy⟩:∃ y,y=(lnK enc A 0).b:=⟨_,rfl⟩
  rw [← hy] at HE hb
  have HY:=zh hy
  have hbb:(y != 0)=true:=by simp [hb]
  clear hy
  go_enter Tryz.func125,Tryz.ntmps125
  go_wp2_with (go_at_call 40;refine AL.out.mono ?_;rintro e w1 ⟨ao,n,cap,rfl,hn,hb⟩;have HB1:=zh hb;have h0n:0 < n:=(by have:=hn.out.1;have:=HNN.out;omega);obtain ⟨ao',cap',e1,hcap,_,r5⟩:=hn.out.2.rd;rw [lns_len] at e1 hcap;simp only [Value.slice.injEq] at e1;obtain ⟨rfl,_,rfl⟩:=e1;obtain ⟨g,rfl,hg,hc⟩:=r5 (by intro e;have:=congrArg List.length e;rw [lns_len] at this;simp at this;omega);have c3:w1.cell? ⟨g,3,none⟩=some (.int .i64 y):=(by have:=(hc 0 _ (lns_at enc A n 0 h0n)).2.2.2;rw [show lnK enc A ((0:Nat):Int)=lnK enc A 0 from rfl,← HY.out] at this;exact this);clear hb hn r5 hc;(try dsimp only))
  go_ret
  exact ⟨by rw [HE.out];rfl,HB1.out⟩
open Go.RowKit
theorem al_in (enc:Int) (A:List Int) (k:Nat) (hk:(k:Int) < cnt enc A):(k,lnK enc A (k:Nat)) ∈ al enc A:=by
 unfold al alF
 exact List.mem_map.2 ⟨k,List.mem_range.2 (by omega),rfl⟩
theorem set4 {w:World} {b:Nat} {T:TypeId} {v0 v1 v2 v3:Value} (h:w.heap[b]?=some (.cells #[v0,v1,v2,v3] T (0,0))) (x0 x1 x2 x3:Value) :
  ((((w.setCell ⟨b,0,none⟩ x0).setCell ⟨b,1,none⟩ x1).setCell ⟨b,2,none⟩ x2).setCell ⟨b,3,none⟩ x3).heap[b]?=some (.cells #[x0,x1,x2,x3] T (0,0))∧w.grownBy ((((w.setCell ⟨b,0,none⟩ x0).setCell ⟨b,1,none⟩ x1).setCell ⟨b,2,none⟩ x2).setCell ⟨b,3,none⟩ x3) (some b):=by
 have h0:(w.setCell ⟨b,0,none⟩ x0).heap[b]?=some (.cells #[x0,v1,v2,v3] T (0,0)):=(set1 h 0 x0).1
 have h1:((w.setCell ⟨b,0,none⟩ x0).setCell ⟨b,1,none⟩ x1).heap[b]?=some (.cells #[x0,x1,v2,v3] T (0,0)):=(set1 h0 1 x1).1
 have h2:(((w.setCell ⟨b,0,none⟩ x0).setCell ⟨b,1,none⟩ x1).setCell ⟨b,2,none⟩ x2).heap[b]?=some (.cells #[x0,x1,x2,v3] T (0,0)):=(set1 h1 2 x2).1
 exact ⟨(set1 h2 3 x3).1,zgt (zgt (zgt (set1 h 0 x0).2 (set1 h0 1 x1).2) (set1 h1 2 x2).2) (set1 h2 3 x3).2⟩
theorem alF_len (enc:Int) (A:List Int) (m:Nat):(alF enc A m).length=m:=by simp [alF]
set_option maxHeartbeats 4000000 in
theorem rKinds_any (enc:Int) (va:Value) (A:List Int) (w:World) (hA:Rd .i64 w va A) (hl:A.length≤65536):Calls Tryz.prog 124 #[va] w fun e w'=>e=.returned (.agg #[.int .i64 (kC (al enc A) 0:Nat),.int .i64 (kC (al enc A) 1:Nat),.int .i64 (kC (al enc A) 2:Nat),.int .i64 (kC (al enc A) 3:Nat)])∧Below w.heap.size w w':=by
 have hcn:∃ m:Nat,cnt enc A=m∧(m:Int)≤(spn enc A).b + 1:=⟨(cnt enc A).toNat,by have:=spn_nn enc A;unfold cnt;split <;> omega,by have:=spn_nn enc A;unfold cnt;split <;> omega⟩
 obtain ⟨m,hm,hmB⟩:=hcn
 have hsl:=spn_len enc A
 obtain ⟨w0,hw0,q0,q1,hb0,hz0⟩:∃ w0,(w.alloc (.cells #[.int .i64 0,.int .i64 0,.int .i64 0,.int .i64 0] 53)).alloc (.cells #[.int .i64 0,.int .i64 0,.int .i64 0,.int .i64 0] 53)=w0∧w0.heap[w.heap.size]?=some (.cells #[.int .i64 0,.int .i64 0,.int .i64 0,.int .i64 0] 53 (0,0))∧w0.heap[w.heap.size + 1]?=some (.cells #[.int .i64 0,.int .i64 0,.int .i64 0,.int .i64 0] 53 (0,0))∧Below w.heap.size w w0∧w0.heap.size=w.heap.size + 2:=by
  refine ⟨_,rfl,(Below.heap_alloc _ _ _ (by simp)).trans (heap_alloc_new _ _),?_,zxa (zxa (Below.refl _ _) _) _,by simp⟩
  have e:w.heap.size + 1=(w.alloc (.cells #[.int .i64 0,.int .i64 0,.int .i64 0,.int .i64 0] 53)).heap.size:=by simp
  rw [e]
  exact heap_alloc_new _ _
 have AL:=zh (rAll_any enc va A w0 (hA.ext hb0) hl)
 rw [hm] at AL
 have HM:=zh hm
 have HB0:=zh hb0
 have HW0:=zh hw0
 have HQ0:=zh q0
 have HQ1:=zh q1
 obtain ⟨aa,ca,hva⟩:∃ aa ca,va=.slice aa A.length ca:=by obtain ⟨aa,ca,e,_⟩:=hA;exact ⟨aa,ca,e⟩
 subst hva
 clear hA hb0 hw0 q0 q1 hm
 go_enter Tryz.func124,Tryz.ntmps124
 go_upto_region 2 with fail
 rw [HW0.out]
 clear HW0
 go_upto_region 3 with (go_at_call 40;refine AL.out.mono ?_;rintro e w1 ⟨ao,n,cap,rfl,hn,hb⟩;have HB1:=zh hb;have HN:=zh hn.out;clear hn hb;(try dsimp only))
 have hmn:m≤n:=by have:=HN.out.1;omega
 have hn9:n≤65537:=by have:=HN.out.1;omega
 have hrd:=HN.out.2.rd
 obtain ⟨ao',cap',hv',hcap1,hcap2,h6⟩:=hrd
 rw [lns_len] at hv' hcap1
 simp only [Value.slice.injEq,true_and] at hv'
 obtain ⟨rfl,rfl⟩:=hv'
 obtain ⟨gr,hgr,hgl,hrow⟩:=h6 (by intro e;have e1:=congrArg List.length e;rw [lns_len] at e1;have e2:=HN.out.1;have e3:=spn_nn enc A;have e4:n=0:=e1;omega)
 subst hgr
 have hge:w0.heap.size≤gr:=by
  rcases HN.out.2.2 with ⟨h,_⟩ | ⟨g',cap',cur,hv,h0,_⟩
  ·cases h
  ·simp only [Value.slice.injEq,Option.some.injEq,Addr.mk.injEq] at hv
   rw [hv.1.1]
   exact h0
 have HROW:Hid (∀ i,i < m→w1.cell? ⟨gr,i * 4 + 3,none⟩=some (.int .i64 (lnK enc A (i:Nat)).b)):=fun i hi=>(hrow i _ (lns_at enc A n i (by omega))).2.2.2
 have HK0:Hid (KnI (w.heap.size + 1) (alF enc A 0) w1):=(HB1.out.block _ (Array.getElem?_eq_some_iff.1 HQ1.out).1).trans HQ1.out
 have HR0:Hid (w1.heap[w.heap.size]?=some (.cells #[.int .i64 0,.int .i64 0,.int .i64 0,.int .i64 0] 53 (0,0))):=(HB1.out.block _ (Array.getElem?_eq_some_iff.1 HQ0.out).1).trans HQ0.out
 clear AL h6 hrow HQ0 HQ1 HN
 go_wp2_with fail
 go_loopw [6] (fun i wr=>∃ k:Nat,k≤m∧i=.int .i64 (k:Nat)∧Hid (KnI (w.heap.size + 1) (alF enc A k) wr∧Kps (fun j=>j=w.heap.size + 1) w1 wr)) (fun i _=>m - (intOf i).toNat)
 case atStart=>exact ⟨0,Nat.zero_le _,rfl,HK0.out,Kps.refl _ _⟩
 case round =>
  obtain ⟨k,hk,rfl,HI⟩:=hrel
  have hz1:=HB1.out.size
  by_cases hlt:k < m
  ·have hlt':(k:Int) < (m:Int):=by omega
   have hltn:k < n:=by omega
   have hltn':(k:Int) < (n:Int):=by omega
   have c3:wr.cell? ⟨gr,k * 4 + 3,none⟩=some (.int .i64 (lnK enc A (k:Nat)).b):=by
    have e:=HI.out.2.same gr hgl (by omega)
    have:=HROW.out k hlt
    unfold World.cell? at this ⊢
    rw [e]
    exact this
   have hq:=al_b enc A _ (al_in enc A k (by rw [HM.out];exact hlt'))
   have hln:=alF_len enc A k
   have l0:=kC_le (alF enc A k) 0
   have l1:=kC_le (alF enc A k) 1
   have l2:=kC_le (alF enc A k) 2
   have l3:=kC_le (alF enc A k) 3
   rw [hln] at l0 l1 l2 l3
   have HKS:Hid (∀ i:Int,kC (alF enc A (k + 1)) i=kC (alF enc A k) i + if (lnK enc A (k:Nat)).b=i then 1 else 0):=fun i=>by rw [alF_succ];exact kC_snoc _ _ i
   simp only at hq
   have hI1:=HI.out.1
   unfold KnI at hI1
   have HK2:=zh HI.out.2
   clear HI hln
   generalize (lnK enc A (k:Nat)).b=lb at *
   have HC:Hid (∃ c0 c1 c2 c3:Nat,kC (alF enc A k) 0=c0∧kC (alF enc A k) 1=c1∧kC (alF enc A k) 2=c2∧kC (alF enc A k) 3=c3):=⟨_,_,_,_,rfl,rfl,rfl,rfl⟩
   obtain ⟨e0,e1,e2,e3,g0,g1,g2,g3⟩:=HC.out
   have HG:Hid (kC (alF enc A k) 0=e0∧kC (alF enc A k) 1=e1∧kC (alF enc A k) 2=e2∧kC (alF enc A k) 3=e3):=⟨g0,g1,g2,g3⟩
   rw [g0,g1,g2,g3] at hI1
   rw [g0] at l0
   rw [g1] at l1
   rw [g2] at l2
   rw [g3] at l3
   have HI1:=zh hI1
   obtain ⟨_,d0,d1,d2,d3,df⟩:=cells4 hI1
   clear HC g0 g1 g2 g3 hI1
   rcases hq with rfl | rfl | rfl | rfl
   ·have hwj:IntKind.i64.wrap ((e0:Int) + 1)=((e0 + 1:Nat):Int):=by rw [IntKind.wrap_i64];omega
    go_wp2_with fail
    go_roundw
    case rel =>
     obtain ⟨s1,s2⟩:=set1 HI1.out 0 (.int .i64 ((e0:Int) + 1))
     refine ⟨k + 1,by omega,by go_num,?_,HK2.out.trans (Kps.grown (o:=fun j=>j=w.heap.size + 1) s2 (fun j hj _=>by cases hj;rfl)) (fun _ _ e=>e)⟩
     have k0:kC (alF enc A (k + 1)) 0=e0 + 1:=by rw [HKS.out 0,HG.out.1];rfl
     have k1:kC (alF enc A (k + 1)) 1=e1:=by rw [HKS.out 1,HG.out.2.1];rfl
     have k2:kC (alF enc A (k + 1)) 2=e2:=by rw [HKS.out 2,HG.out.2.2.1];rfl
     have k3:kC (alF enc A (k + 1)) 3=e3:=by rw [HKS.out 3,HG.out.2.2.2];rfl
     unfold KnI
     rw [k0,k1,k2,k3,Int.natCast_add]
     exact s1
    case measure=>simp [intOf];omega
   ·have hwj:IntKind.i64.wrap ((e1:Int) + 1)=((e1 + 1:Nat):Int):=by rw [IntKind.wrap_i64];omega
    go_wp2_with fail
    go_roundw
    case rel =>
     obtain ⟨s1,s2⟩:=set1 HI1.out 1 (.int .i64 ((e1:Int) + 1))
     refine ⟨k + 1,by omega,by go_num,?_,HK2.out.trans (Kps.grown (o:=fun j=>j=w.heap.size + 1) s2 (fun j hj _=>by cases hj;rfl)) (fun _ _ e=>e)⟩
     have k0:kC (alF enc A (k + 1)) 0=e0:=by rw [HKS.out 0,HG.out.1];rfl
     have k1:kC (alF enc A (k + 1)) 1=e1 + 1:=by rw [HKS.out 1,HG.out.2.1];rfl
     have k2:kC (alF enc A (k + 1)) 2=e2:=by rw [HKS.out 2,HG.out.2.2.1];rfl
     have k3:kC (alF enc A (k + 1)) 3=e3:=by rw [HKS.out 3,HG.out.2.2.2];rfl
     unfold KnI
     rw [k0,k1,k2,k3,Int.natCast_add]
     exact s1
    case measure=>simp [intOf];omega
   ·have hwj:IntKind.i64.wrap ((e2:Int) + 1)=((e2 + 1:Nat):Int):=by rw [IntKind.wrap_i64];omega
    go_wp2_with fail
    go_roundw
    case rel =>
     obtain ⟨s1,s2⟩:=set1 HI1.out 2 (.int .i64 ((e2:Int) + 1))
     refine ⟨k + 1,by omega,by go_num,?_,HK2.out.trans (Kps.grown (o:=fun j=>j=w.heap.size + 1) s2 (fun j hj _=>by cases hj;rfl)) (fun _ _ e=>e)⟩
     have k0:kC (alF enc A (k + 1)) 0=e0:=by rw [HKS.out 0,HG.out.1];rfl
     have k1:kC (alF enc A (k + 1)) 1=e1:=by rw [HKS.out 1,HG.out.2.1];rfl
     have k2:kC (alF enc A (k + 1)) 2=e2 + 1:=by rw [HKS.out 2,HG.out.2.2.1];rfl
     have k3:kC (alF enc A (k + 1)) 3=e3:=by rw [HKS.out 3,HG.out.2.2.2];rfl
     unfold KnI
     rw [k0,k1,k2,k3,Int.natCast_add]
     exact s1
    case measure=>simp [intOf];omega
   ·have hwj:IntKind.i64.wrap ((e3:Int) + 1)=((e3 + 1:Nat):Int):=by rw [IntKind.wrap_i64];omega
    go_wp2_with fail
    go_roundw
    case rel =>
     obtain ⟨s1,s2⟩:=set1 HI1.out 3 (.int .i64 ((e3:Int) + 1))
     refine ⟨k + 1,by omega,by go_num,?_,HK2.out.trans (Kps.grown (o:=fun j=>j=w.heap.size + 1) s2 (fun j hj _=>by cases hj;rfl)) (fun _ _ e=>e)⟩
     have k0:kC (alF enc A (k + 1)) 0=e0:=by rw [HKS.out 0,HG.out.1];rfl
     have k1:kC (alF enc A (k + 1)) 1=e1:=by rw [HKS.out 1,HG.out.2.1];rfl
     have k2:kC (alF enc A (k + 1)) 2=e2:=by rw [HKS.out 2,HG.out.2.2.1];rfl
     have k3:kC (alF enc A (k + 1)) 3=e3 + 1:=by rw [HKS.out 3,HG.out.2.2.2];rfl
     unfold KnI
     rw [k0,k1,k2,k3,Int.natCast_add]
     exact s1
    case measure=>simp [intOf];omega
  ·obtain rfl:k=m:=by omega
   have hge':¬ (k:Int) < (k:Int):=by omega
   have HR:Hid (wr.heap[w.heap.size]?=some (.cells #[.int .i64 0,.int .i64 0,.int .i64 0,.int .i64 0] 53 (0,0))):=(HI.out.2.same _ (Array.getElem?_eq_some_iff.1 HR0.out).1 (by omega)).trans HR0.out
   have HE0:Hid (alF enc A k=al enc A):=by unfold Hid al;rw [HM.out];rfl
   have hI1:=HI.out.1
   rw [HE0.out] at hI1
   unfold KnI at hI1
   have HK2:=zh HI.out.2
   obtain ⟨e0,g0⟩:∃ e,kC (al enc A) 0=e:=⟨_,rfl⟩
   obtain ⟨e1,g1⟩:∃ e,kC (al enc A) 1=e:=⟨_,rfl⟩
   obtain ⟨e2,g2⟩:∃ e,kC (al enc A) 2=e:=⟨_,rfl⟩
   obtain ⟨e3,g3⟩:∃ e,kC (al enc A) 3=e:=⟨_,rfl⟩
   have HE:Hid (kC (al enc A) 0=e0∧kC (al enc A) 1=e1∧kC (al enc A) 2=e2∧kC (al enc A) 3=e3):=⟨g0,g1,g2,g3⟩
   rw [g0,g1,g2,g3] at hI1
   obtain ⟨_,d0,d1,d2,d3,df⟩:=cells4 hI1
   obtain ⟨_,r0,r1,r2,r3,rf⟩:=cells4 HR.out
   clear hI1 g0 g1 g2 g3 HI HE0 HROW
   go_wp2_with fail
   generalize hw5:World.setCell _ _ _=w5
   have HW5:Hid (w5.heap[w.heap.size]?=some (.cells #[.int .i64 (e0:Nat),.int .i64 (e1:Nat),.int .i64 (e2:Nat),.int .i64 (e3:Nat)] 53 (0,0))∧wr.grownBy w5 (some w.heap.size)):=by
    unfold Hid
    rw [← hw5]
    exact set4 HR.out _ _ _ _
   clear hw5 r0 r1 r2 r3 rf d0 d1 d2 d3 df
   obtain ⟨_,r0,r1,r2,r3,rf⟩:=cells4 HW5.out.1
   refine bodyPost_ret (v:=.agg #[.int .i64 (e0:Nat),.int .i64 (e1:Nat),.int .i64 (e2:Nat),.int .i64 (e3:Nat)]) (by simp [results,Tryz.results124,go_sem,r0,r1,r2,r3]) rfl ⟨by rw [HE.out.1,HE.out.2.1,HE.out.2.2.1,HE.out.2.2.2],?_⟩
   refine HB0.out.trans (Kps.below (o:=fun j=>w.heap.size≤j) ?_ HB0.out.size (fun j hj=>hj))
   exact ((Kps.of_below (fun j=>w.heap.size≤j) HB1.out).trans HK2.out (fun i _ e=>by omega)).trans (Kps.grown (o:=fun j=>w.heap.size≤j) HW5.out.2 (fun j hj _=>by cases hj;exact Nat.le_refl _)) (fun _ _ e=>e)
set_option maxHeartbeats 8000000 in
theorem counts_five (enc:Int) (w:World) (g t:Nat) (A:List Int) (m:Nat) (o:Opv) (v:Value) (h:BtW enc w g t A m) (hk:o.k=5) (hv:∃ ap np cp,v=.slice ap np cp):Yes 101 w g o v:=by
 intro w1 hb1
 obtain ⟨ap,np,cp,rfl⟩:=hv
 obtain ⟨who,k,a,b,put⟩:=o
 dsimp only at hk
 subst hk
 unfold Opv.val
 dsimp only
 obtain ⟨w0,hw0,kk0,hb0⟩:∃ w0,w0=w1.alloc (.cells #[.int .i64 who,.int .i64 5,.int .i64 a,.int .i64 b,.slice ap np cp] 38)∧w0.heap[w1.heap.size]?=some (.cells #[.int .i64 who,.int .i64 5,.int .i64 a,.int .i64 b,.slice ap np cp] 38 (0,0))∧Below w1.heap.size w1 w0:=⟨_,rfl,heap_alloc_new _ _,zxa (Below.refl _ _) _⟩
 have HB0:=zh hb0
 have HW0:=zh ((h.ext hb1).ext hb0)
 obtain ⟨hlt,c0,c1,c2,c3,c4⟩:=cells5 kk0
 obtain ⟨va,hg,hva⟩:=HW0.out.ex
 obtain ⟨aa,ca,hvv⟩:=hva.form
 subst hvv
 have HGG:=zh hg
 have HVA:=zh hva
 have hlen:=HW0.out.tz.len
 have HS:Hid (∀ w',Below w0.heap.size w0 w'→w'.cell? ⟨g,0,none⟩=some (.pointer (some ⟨t,0,none⟩))∧w'.cell? ⟨g,1,none⟩=some (.slice aa A.length ca)∧w'.cell? ⟨w1.heap.size,2,none⟩=some (.int .i64 a)):=fun w' hb=>⟨(hb.cell (p:=⟨g,0,none⟩) HW0.out.lt).trans (cells2 HGG.out).2.1,(hb.cell (p:=⟨g,1,none⟩) HW0.out.lt).trans (cells2 HGG.out).2.2.1,(hb.cell (p:=⟨w1.heap.size,2,none⟩) hlt).trans c2⟩
 have ks:=HS.out w0 (Below.refl _ _)
 clear hg hva h hb0 hb1 kk0
 have KN:Hid (∀ w',Below w0.heap.size w0 w'→Calls Tryz.prog 28 #[.pointer (some ⟨t,0,none⟩)] w' fun e w''=>e=.returned (.agg #[.int .i64 (kC (al enc A) 0:Nat),.int .i64 (kC (al enc A) 1:Nat),.int .i64 (kC (al enc A) 2:Nat),.int .i64 (kC (al enc A) 3:Nat)])∧Below w'.heap.size w' w''):=fun w' hb=>Kinds_z enc w' t A (HW0.out.tz.ext hb)
 have RK:Hid (∀ w',Below w0.heap.size w0 w'→Calls Tryz.prog 124 #[.slice aa A.length ca] w' fun e w''=>e=.returned (.agg #[.int .i64 (kC (al enc A) 0:Nat),.int .i64 (kC (al enc A) 1:Nat),.int .i64 (kC (al enc A) 2:Nat),.int .i64 (kC (al enc A) 3:Nat)])∧Below w'.heap.size w' w''):=fun w' hb=>rKinds_any enc _ A w' (HVA.out.ext hb).rdi hlen
 generalize kC (al enc A) 0=z0 at *
 generalize kC (al enc A) 1=z1 at *
 generalize kC (al enc A) 2=z2 at *
 generalize kC (al enc A) 3=z3 at *
 go_enter Tryz.func101,Tryz.ntmps101
 go_upto_region 1 with fail
 rw [← hw0]
 clear hw0
 obtain ⟨s0,s1,s2⟩:=ks
 go_upto_region 6 with (go_at_call 28;refine (KN.out _ (Below.refl _ _)).mono ?_;rintro e y2 ⟨rfl,hb⟩;have Hy2:=zh hb;clear hb;(try dsimp only))
 generalize hy3:World.alloc _ _=y3
 have HY3:Hid (Below w0.heap.size w0 y3∧y3.heap[y2.heap.size]?=some (.cells #[.int .i64 (z0:Nat),.int .i64 (z1:Nat),.int .i64 (z2:Nat),.int .i64 (z3:Nat)] 53 (0,0))):=by unfold Hid;rw [← hy3];exact ⟨zxt Hy2.out (zxa (Below.refl _ _) _),heap_alloc_new _ _⟩
 clear hy3 s0 s1 s2
 obtain ⟨s0,s1,s2⟩:=HS.out y3 HY3.out.1
 go_upto_region 7 with (go_at_call 124;refine (RK.out _ HY3.out.1).mono ?_;rintro e y4 ⟨rfl,hb⟩;have Hy4:=zh hb;clear hb;(try dsimp only))
 generalize hy5:World.alloc _ _=y5
 have HY5:Hid (Below y3.heap.size y3 y5∧y5.heap[y4.heap.size]?=some (.cells #[.int .i64 (z0:Nat),.int .i64 (z1:Nat),.int .i64 (z2:Nat),.int .i64 (z3:Nat)] 53 (0,0))):=by unfold Hid;rw [← hy5];exact ⟨zxt Hy4.out (zxa (Below.refl _ _) _),heap_alloc_new _ _⟩
 clear hy5 s0 s1 s2
 obtain ⟨_,d0,d1,d2,d3,_⟩:=cells4 HY5.out.2
 obtain ⟨_,e0,e1,e2,e3,_⟩:=cells4 ((HY5.out.1.block _ (Array.getElem?_eq_some_iff.1 HY3.out.2).1).trans HY3.out.2)
 go_wp2_with fail
 go_ret
 exact ⟨rfl,zxt HB0.out (zxt HY3.out.1 HY5.out.1)⟩
set_option maxHeartbeats 8000000 in
theorem counts_six (enc:Int) (w:World) (g t:Nat) (A:List Int) (m:Nat) (o:Opv) (v:Value) (h:BtW enc w g t A m) (hk:o.k=6) (hv:∃ ap np cp,v=.slice ap np cp):Yes 101 w g o v:=by
 intro w1 hb1
 obtain ⟨ap,np,cp,rfl⟩:=hv
 obtain ⟨who,k,a,b,put⟩:=o
 dsimp only at hk
 subst hk
 unfold Opv.val
 dsimp only
 obtain ⟨w0,hw0,kk0,hb0⟩:∃ w0,w0=w1.alloc (.cells #[.int .i64 who,.int .i64 6,.int .i64 a,.int .i64 b,.slice ap np cp] 38)∧w0.heap[w1.heap.size]?=some (.cells #[.int .i64 who,.int .i64 6,.int .i64 a,.int .i64 b,.slice ap np cp] 38 (0,0))∧Below w1.heap.size w1 w0:=⟨_,rfl,heap_alloc_new _ _,zxa (Below.refl _ _) _⟩
 have HB0:=zh hb0
 have HW0:=zh ((h.ext hb1).ext hb0)
 obtain ⟨hlt,c0,c1,c2,c3,c4⟩:=cells5 kk0
 obtain ⟨va,hg,hva⟩:=HW0.out.ex
 obtain ⟨aa,ca,hvv⟩:=hva.form
 subst hvv
 have HGG:=zh hg
 have HVA:=zh hva
 have hlen:=HW0.out.tz.len
 have HS:Hid (∀ w',Below w0.heap.size w0 w'→w'.cell? ⟨g,0,none⟩=some (.pointer (some ⟨t,0,none⟩))∧w'.cell? ⟨g,1,none⟩=some (.slice aa A.length ca)∧w'.cell? ⟨w1.heap.size,2,none⟩=some (.int .i64 a)):=fun w' hb=>⟨(hb.cell (p:=⟨g,0,none⟩) HW0.out.lt).trans (cells2 HGG.out).2.1,(hb.cell (p:=⟨g,1,none⟩) HW0.out.lt).trans (cells2 HGG.out).2.2.1,(hb.cell (p:=⟨w1.heap.size,2,none⟩) hlt).trans c2⟩
 have ks:=HS.out w0 (Below.refl _ _)
 clear hg hva h hb0 hb1 kk0
 have CN:Hid (∀ w',Below w0.heap.size w0 w'→Calls Tryz.prog 30 #[.pointer (some ⟨t,0,none⟩),.int .i64 a] w' fun e w''=>e=.returned (.int .i64 (ntA enc A a))∧Below w'.heap.size w' w''):=fun w' hb=>Native_z enc w' t A a (HW0.out.tz.ext hb)
 have RC:Hid (∀ w',Below w0.heap.size w0 w'→Calls Tryz.prog 125 #[.slice aa A.length ca,.int .i64 a] w' fun e w''=>e=.returned (.int .i64 (ntA enc A a))∧Below w'.heap.size w' w''):=fun w' hb=>rNative_any enc _ A a w' (HVA.out.ext hb).rdi hlen
 generalize ntA enc A a=z at *
 go_enter Tryz.func101,Tryz.ntmps101
 go_upto_region 1 with fail
 rw [← hw0]
 clear hw0
 go_upto_region 8 with fail
 refine wp_region_held_drew (S:=fun w''=>w''.cell? ⟨g,0,none⟩=some (.pointer (some ⟨t,0,none⟩))∧w''.cell? ⟨g,1,none⟩=some (.slice aa A.length ca)∧w''.cell? ⟨w1.heap.size,2,none⟩=some (.int .i64 a)) (by kernel_rfl) (ks) (fun _=>?_)
 refine tkH 0 rfl ?_
 refine tkH 1 rfl ?_
 refine tkH 2 rfl ?_
 refine tkH 3 rfl ?_
 refine tkH 4 rfl ?_
 refine tkH 5 rfl ?_
 refine tkH 7 rfl ?_
 refine tkH 8 rfl ?_
 refine tkH 9 rfl ?_
 refine tkH 10 rfl ?_
 refine tkH 11 rfl ?_
 refine tkH 12 rfl ?_
 refine rdH 6 rfl fun K hK=>?_
 go_simp
 refine (CN.out _ (Below.drew (Below.refl _ _))).mono ?_;clear ks;rintro e y2 ⟨rfl,hb⟩;have Hy2:=zh (zxt (Below.drew (Below.refl w0.heap.size w0)) hb);clear hb;have ks:=HS.out y2 Hy2.out;try dsimp only
 refine hK.out _ _ ?_ (fun _=>?_)
 ·(try simp only [World.cell?_drew]);exact ks
 clear hK K
 try simp only [Act.put,tS]
 refine rdH 13 rfl fun K hK=>?_
 go_simp
 refine (RC.out _ Hy2.out).mono ?_;clear ks;rintro e y3 ⟨rfl,hb⟩;have Hy3:=zh (zxt Hy2.out hb);clear hb;have ks:=HS.out y3 Hy3.out;try dsimp only
 refine hK.out _ _ ?_ (fun _=>?_)
 ·(try simp only [World.cell?_drew]);exact ks
 clear hK K
 try simp only [Act.put,tS]
 refine tkH 14 rfl ?_
 refine tkH 15 rfl ?_
 refine dnH ?_
 go_wp2_with fail
 go_ret
 exact ⟨rfl,zxt HB0.out Hy3.out⟩
open Go.RowKit
def Wk (w:World) (q gr m cap n k:Nat):Prop:=w.heap[q]?=some (.cells #[.slice (some ⟨gr,0,none⟩) m cap,.int .i64 (n:Nat),.int .i64 (-1),.int .i64 (k:Nat),.bool false,.bool false] 80 (0,0))
def Rw4 (w:World) (gr k:Nat) (L:Ln):Prop:=w.cell? ⟨gr,k * 4,none⟩=some (.int .i64 L.f)∧w.cell? ⟨gr,k * 4 + 1,none⟩=some (.int .i64 L.t)∧w.cell? ⟨gr,k * 4 + 2,none⟩=some (.int .i64 L.n)∧w.cell? ⟨gr,k * 4 + 3,none⟩=some (.int .i64 L.b)
theorem Rw4.same {w w':World} {gr k:Nat} {L:Ln} (h:Rw4 w gr k L) (e:w'.heap[gr]?=w.heap[gr]?):Rw4 w' gr k L:=by
 unfold Rw4 World.cell? at *
 simp only [e]
 exact h
theorem cellq_lt {w:World} {g o:Nat} {v:Value} (h:w.cell? ⟨g,o,none⟩=some v):g < w.heap.size:=by
 unfold World.cell? at h
 cases hh:w.heap[g]? with
 | none=>simp [hh] at h
 | some x=>exact (Array.getElem?_eq_some_iff.1 hh).1
theorem Rw4.lt {w:World} {gr k:Nat} {L:Ln} (h:Rw4 w gr k L):gr < w.heap.size:=cellq_lt h.1
end Go.Proofs.YtjomfbegghgbdaaGreat.P
