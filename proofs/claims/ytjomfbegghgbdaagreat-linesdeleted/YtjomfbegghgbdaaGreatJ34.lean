import Derived.Test.YtjomfbegghgbdaaGreatJ00
import Derived.Test.YtjomfbegghgbdaaGreatJ32
namespace Go.Proofs.YtjomfbegghgbdaaGreat.P
open Go.RowKit Go.Shelf
attribute [local go_sem] Oper.semAt_some
def kC (l:List (Nat × Ln)) (b:Int):Nat:=l.countP fun p=>p.2.b == b
theorem kC_snoc (l:List (Nat × Ln)) (x:Nat × Ln) (b:Int):kC (l ++ [x]) b=kC l b + if x.2.b=b then 1 else 0:=by
 unfold kC
 rw [List.countP_append,List.countP_singleton]
 simp only [beq_iff_eq]
theorem kC_le (l:List (Nat × Ln)) (b:Int):kC l b≤l.length:=List.countP_le_length
theorem al_len (enc:Int) (A:List Int):(al enc A).length≤A.length + 1:=by
 unfold al alF
 rw [List.length_map,List.length_range]
 have:=spn_len enc A
 unfold cnt
 split <;> omega
theorem al_b (enc:Int) (A:List Int) (p:Nat × Ln) (h:p ∈ al enc A):p.2.b=0∨p.2.b=1∨p.2.b=2∨p.2.b=3:=by
 unfold al alF at h
 obtain ⟨k,hk,rfl⟩:=List.mem_map.1 h
 show (lnK enc A k).b=0∨_
 unfold lnK
 split
 ·exact .inl rfl
 ·have:=knd_pos A (skA enc A ((k:Int) + 1)).toNat
  show knd _ _=0∨knd _ _=1∨knd _ _=2∨knd _ _=3
  omega
theorem All_at (t:Nat) (w:World) (k:Nat) (hk:w.heap.size=k):Calls Tryz.prog 38 #[.pointer (some ⟨t,0,none⟩)] w fun e w'=>e=.returned (.func (.func 67) #[] #[.pointer (some ⟨k,0,none⟩)])∧w'=w.alloc (.cells #[.pointer (some ⟨t,0,none⟩)] 26):=hk ▸ All_any t w
theorem begun3 (w:World) (a b v:Array Value) (e1 e2 e3:TypeId):∀ w3,w3=((w.alloc (.cells a e1)).alloc (.cells b e2)).alloc (.cells v e3) →
  w3.heap.size=w.heap.size + 3∧w3.heap[w.heap.size]?=some (.cells a e1 (0,0))∧w3.heap[w.heap.size + 1]?=some (.cells b e2 (0,0))∧w3.heap[w.heap.size + 2]?=some (.cells v e3 (0,0))∧Below w.heap.size w w3:=by
 rintro w3 rfl
 refine ⟨by simp,?_,?_,?_,ext_alloc (ext_alloc (ext_alloc (Below.refl _ _) _) _) _⟩
 ·exact (Below.heap_alloc _ _ _ (by simp;omega)).trans ((Below.heap_alloc _ _ _ (by simp)).trans (heap_alloc_new _ _))
 ·have e:w.heap.size + 1=(w.alloc (.cells a e1)).heap.size:=by simp
  rw [e]
  exact (Below.heap_alloc _ _ _ (by simp)).trans (heap_alloc_new _ _)
 ·have e:w.heap.size + 2=((w.alloc (.cells a e1)).alloc (.cells b e2)).heap.size:=by simp
  rw [e]
  exact heap_alloc_new _ _
def KnI (b:Nat) (pre:List (Nat × Ln)) (W:World):Prop:=W.heap[b]?=some (.cells #[.int .i64 (kC pre 0:Nat),.int .i64 (kC pre 1:Nat),.int .i64 (kC pre 2:Nat),.int .i64 (kC pre 3:Nat)] 53 (0,0))
set_option maxRecDepth 100000 in
set_option maxHeartbeats 4000000 in
theorem Kinds_z (enc:Int) (w:World) (t:Nat) (A:List Int) (h:Tz enc w t A):Calls Tryz.prog 28 #[.pointer (some ⟨t,0,none⟩)] w fun e w'=>e=.returned (.agg #[.int .i64 (kC (al enc A) 0:Nat),.int .i64 (kC (al enc A) 1:Nat),.int .i64 (kC (al enc A) 2:Nat),.int .i64 (kC (al enc A) 3:Nat)])∧Below w.heap.size w w':=by
 have HT:=hidIt h
 have hlA:=h.len
 have hal:=al_len enc A
 refine (callsIn_wide (n:=9)).1 ?_
 refine callsIn_of_wp_marks Tryz.func28 rfl trivial ?_ rfl
 simp only [Tryz.ntmps28,List.size_toArray,List.length_cons,List.length_nil,Nat.reduceAdd,Nat.reduceSub,Array.replicate_succ,Array.replicate_zero,List.push_toArray,List.append_toArray,List.nil_append,List.cons_append]
 refine wpIn_mono (Q:=calm _) ?_ (fun _ _ _ h=>calm_imp h)
 refine wpIn_wide.2 ?_
 have AL:=hidIt (All_at t ((w.alloc (.cells #[.int .i64 0,.int .i64 0,.int .i64 0,.int .i64 0] 53)).alloc (.cells #[.int .i64 0,.int .i64 0,.int .i64 0,.int .i64 0] 53)) (w.heap.size + 2) (by simp))
 go_wp2_with (go_at_call 38;refine AL.out.mono ?_;rintro e w3 ⟨rfl,hw3⟩;have HW3:=hidIt hw3;clear hw3 AL;(try dsimp only))
 have HG3:=hidIt (begun3 w _ _ _ _ _ _ w3 HW3.out)
 have hs3:=HG3.out.1
 have SQ:=hidIt (all_stops 8 enc A t w HT.out w3 HG3.out.2.2.2.2 (w.heap.size + 2) (by omega) HG3.out.2.2.2.1)
 clear HW3 h
 refine (wpIn_wide (n:=9)).1 ?_
 refine range_x (σ:=Unit) rfl (by omega) (gf:=67) (lb:=#[.pointer (some ⟨w.heap.size + 2,0,none⟩)]) rfl trivial (enters_of Tryz.func67 (by kernel_rfl) rfl) SQ.out (Kps.refl _ _) (fun _=>rfl)
  (fun _ k=>k=w.heap.size + 1) (fun _ pre W=>KnI (w.heap.size + 1) pre W) (fun _ _ _ _=>False) ()
  ?rel (fun _=>False) (fun k hk=>hk.elim) (fun _ _ _ _ h hz hk=>(hk _ (.inl rfl)).trans h) (fun _ _ _ _ _ h _ _=>h) (fun _ _ _ h k hk=>by rw [hk];exact (Array.getElem?_eq_some_iff.1 h).1) ?h0
  (fun q a' W=>∃ b,w3.heap.size + 2≤b∧b < W.heap.size∧W.heap[b]?=some (.cells #[.int .i64 q.2.f,.int .i64 q.2.t,.int .i64 q.2.n,.int .i64 q.2.b] 50 (0,0))∧a'={ tmps:=#[.pointer (some ⟨t,0,none⟩),undef,.pointer (some ⟨w.heap.size,0,none⟩),.pointer (some ⟨w.heap.size + 1,0,none⟩),undef,.pointer (some ⟨b,0,none⟩),.pointer (some ⟨t,0,none⟩),.func (.func 67) #[] #[.pointer (some ⟨w.heap.size + 2,0,none⟩)],.int .i64 (q.1:Nat),lnV q.2,undef,undef,undef,undef,undef,undef,undef],defers:=[] })
  (fun _ _ _ _ h hz hk=>by obtain ⟨b,h1,h2,h3,h4⟩:=h;exact ⟨b,h1,by omega,(hk b h1 h2).trans h3,h4⟩) ?assign ?body ?done ?stop
 case rel =>
  rintro k (hk | rfl)
  ·exact ⟨by omega,fun h=>by omega⟩
  ·exact ⟨by omega,fun h=>by omega⟩
 case h0=>exact HG3.out.2.2.1
 case assign =>
  intro l q W K hz hK
  unfold lnV at hK ⊢
  gi_wp2_with fail
  exact hK _ _ (ext_alloc (Below.refl _ _) _) ⟨W.heap.size,hz,by simp,heap_alloc_new _ _,rfl⟩
 case body =>
  rintro l s pre q a' W hI ⟨b,hb1,hb2,hb3,rfl⟩ hSp hzW
  obtain ⟨_,c0,c1,c2,c3,_⟩:=cells4 hb3
  obtain ⟨_,d0,d1,d2,d3,df⟩:=cells4 hI
  have HI:=hidIt hI
  have hq:=al_b enc A q (hSp.subset (by simp))
  have hln:pre.length≤65536:=by have:=hSp.length_le;rw [List.length_append,List.length_singleton] at this;omega
  have l0:=kC_le pre 0
  have l1:=kC_le pre 1
  have l2:=kC_le pre 2
  have l3:=kC_le pre 3
  have HKS:Hid (∀ i:Int,kC (pre ++ [q]) i=kC pre i + if q.2.b=i then 1 else 0):=fun i=>kC_snoc pre q i
  unfold lnV
  unfold KnI at HI
  clear hSp SQ HG3 hI hb3 c0 c1 c2
  have HC:Hid (∃ c0 c1 c2 c3:Nat,kC pre 0=c0∧kC pre 1=c1∧kC pre 2=c2∧kC pre 3=c3):=⟨_,_,_,_,rfl,rfl,rfl,rfl⟩
  obtain ⟨e0,e1,e2,e3,g0,g1,g2,g3⟩:=HC.out
  have HG:Hid (kC pre 0=e0∧kC pre 1=e1∧kC pre 2=e2∧kC pre 3=e3):=⟨g0,g1,g2,g3⟩
  rw [g0,g1,g2,g3] at HI
  rw [g0] at d0 l0
  rw [g1] at d1 l1
  rw [g2] at d2 l2
  rw [g3] at d3 l3
  clear HC g0 g1 g2 g3
  refine wpIn_block ?_
  rcases hq with hb | hb | hb | hb
  ·rw [hb] at c3 HKS
   have hwj:IntKind.i64.wrap ((e0:Int) + 1)=((e0 + 1:Nat):Int):=by rw [IntKind.wrap_i64];omega
   gi_wp2_with fail
   obtain ⟨s1,s2⟩:=set1 HI.out 0 (.int .i64 ((e0:Int) + 1))
   refine ⟨(),?_,Kps.grown s2 (fun k hk _=>by cases hk;rfl),fun k h=>.inl h⟩
   show KnI (w.heap.size + 1) (pre ++ [q]) _
   have k0:kC (pre ++ [q]) 0=e0 + 1:=by rw [HKS.out 0,HG.out.1];rfl
   have k1:kC (pre ++ [q]) 1=e1:=by rw [HKS.out 1,HG.out.2.1];rfl
   have k2:kC (pre ++ [q]) 2=e2:=by rw [HKS.out 2,HG.out.2.2.1];rfl
   have k3:kC (pre ++ [q]) 3=e3:=by rw [HKS.out 3,HG.out.2.2.2];rfl
   unfold KnI
   rw [k0,k1,k2,k3,Int.natCast_add]
   exact s1
  ·rw [hb] at c3 HKS
   have hwj:IntKind.i64.wrap ((e1:Int) + 1)=((e1 + 1:Nat):Int):=by rw [IntKind.wrap_i64];omega
   gi_wp2_with fail
   obtain ⟨s1,s2⟩:=set1 HI.out 1 (.int .i64 ((e1:Int) + 1))
   refine ⟨(),?_,Kps.grown s2 (fun k hk _=>by cases hk;rfl),fun k h=>.inl h⟩
   show KnI (w.heap.size + 1) (pre ++ [q]) _
   have k0:kC (pre ++ [q]) 0=e0:=by rw [HKS.out 0,HG.out.1];rfl
   have k1:kC (pre ++ [q]) 1=e1 + 1:=by rw [HKS.out 1,HG.out.2.1];rfl
   have k2:kC (pre ++ [q]) 2=e2:=by rw [HKS.out 2,HG.out.2.2.1];rfl
   have k3:kC (pre ++ [q]) 3=e3:=by rw [HKS.out 3,HG.out.2.2.2];rfl
   unfold KnI
   rw [k0,k1,k2,k3,Int.natCast_add]
   exact s1
  ·rw [hb] at c3 HKS
   have hwj:IntKind.i64.wrap ((e2:Int) + 1)=((e2 + 1:Nat):Int):=by rw [IntKind.wrap_i64];omega
   gi_wp2_with fail
   obtain ⟨s1,s2⟩:=set1 HI.out 2 (.int .i64 ((e2:Int) + 1))
   refine ⟨(),?_,Kps.grown s2 (fun k hk _=>by cases hk;rfl),fun k h=>.inl h⟩
   show KnI (w.heap.size + 1) (pre ++ [q]) _
   have k0:kC (pre ++ [q]) 0=e0:=by rw [HKS.out 0,HG.out.1];rfl
   have k1:kC (pre ++ [q]) 1=e1:=by rw [HKS.out 1,HG.out.2.1];rfl
   have k2:kC (pre ++ [q]) 2=e2 + 1:=by rw [HKS.out 2,HG.out.2.2.1];rfl
   have k3:kC (pre ++ [q]) 3=e3:=by rw [HKS.out 3,HG.out.2.2.2];rfl
   unfold KnI
   rw [k0,k1,k2,k3,Int.natCast_add]
   exact s1
  ·rw [hb] at c3 HKS
   have hwj:IntKind.i64.wrap ((e3:Int) + 1)=((e3 + 1:Nat):Int):=by rw [IntKind.wrap_i64];omega
   gi_wp2_with fail
   obtain ⟨s1,s2⟩:=set1 HI.out 3 (.int .i64 ((e3:Int) + 1))
   refine ⟨(),?_,Kps.grown s2 (fun k hk _=>by cases hk;rfl),fun k h=>.inl h⟩
   show KnI (w.heap.size + 1) (pre ++ [q]) _
   have k0:kC (pre ++ [q]) 0=e0:=by rw [HKS.out 0,HG.out.1];rfl
   have k1:kC (pre ++ [q]) 1=e1:=by rw [HKS.out 1,HG.out.2.1];rfl
   have k2:kC (pre ++ [q]) 2=e2:=by rw [HKS.out 2,HG.out.2.2.1];rfl
   have k3:kC (pre ++ [q]) 3=e3 + 1:=by rw [HKS.out 3,HG.out.2.2.2];rfl
   unfold KnI
   rw [k0,k1,k2,k3,Int.natCast_add]
   exact s1
 case done =>
  intro s xs W hk hnw hS hI hdf hno
  subst hS
  have HK:=hidIt hk
  have hr0:W.heap[w.heap.size]?=some (.cells #[.int .i64 0,.int .i64 0,.int .i64 0,.int .i64 0] 53 (0,0)):=(hk.same w.heap.size (by omega) (by omega)).trans HG3.out.2.1
  have HR0:=hidIt hr0
  obtain ⟨_,r0,r1,r2,r3,rf⟩:=cells4 hr0
  obtain ⟨_,d0,d1,d2,d3,df⟩:=cells4 hI
  have HB:=hidIt HG3.out.2.2.2.2
  obtain ⟨e0,g0⟩:∃ e,kC (al enc A) 0=e:=⟨_,rfl⟩
  obtain ⟨e1,g1⟩:∃ e,kC (al enc A) 1=e:=⟨_,rfl⟩
  obtain ⟨e2,g2⟩:∃ e,kC (al enc A) 2=e:=⟨_,rfl⟩
  obtain ⟨e3,g3⟩:∃ e,kC (al enc A) 3=e:=⟨_,rfl⟩
  have HE:Hid (kC (al enc A) 0=e0∧kC (al enc A) 1=e1∧kC (al enc A) 2=e2∧kC (al enc A) 3=e3):=⟨g0,g1,g2,g3⟩
  rw [g0] at d0
  rw [g1] at d1
  rw [g2] at d2
  rw [g3] at d3
  clear hnw SQ HG3 hr0 hI g0 g1 g2 g3
  gi_wp2
  go_wp2_with fail
  generalize hw5:World.setCell _ _ _=w5
  have HW5:Hid (w5.heap[w.heap.size]?=some (.cells #[.int .i64 (e0:Nat),.int .i64 (e1:Nat),.int .i64 (e2:Nat),.int .i64 (e3:Nat)] 53 (0,0))∧W.grownBy w5 (some w.heap.size)):=by
   have h0:(W.setCell ⟨w.heap.size,0,none⟩ (.int .i64 (e0:Nat))).heap[w.heap.size]?=some (.cells #[.int .i64 (e0:Nat),.int .i64 0,.int .i64 0,.int .i64 0] 53 (0,0)):=(set1 HR0.out 0 _).1
   have h1:((W.setCell ⟨w.heap.size,0,none⟩ (.int .i64 (e0:Nat))).setCell ⟨w.heap.size,1,none⟩ (.int .i64 (e1:Nat))).heap[w.heap.size]?=some (.cells #[.int .i64 (e0:Nat),.int .i64 (e1:Nat),.int .i64 0,.int .i64 0] 53 (0,0)):=(set1 h0 1 _).1
   have h2:(((W.setCell ⟨w.heap.size,0,none⟩ (.int .i64 (e0:Nat))).setCell ⟨w.heap.size,1,none⟩ (.int .i64 (e1:Nat))).setCell ⟨w.heap.size,2,none⟩ (.int .i64 (e2:Nat))).heap[w.heap.size]?=some (.cells #[.int .i64 (e0:Nat),.int .i64 (e1:Nat),.int .i64 (e2:Nat),.int .i64 0] 53 (0,0)):=(set1 h1 2 _).1
   unfold Hid
   rw [← hw5]
   exact ⟨(set1 h2 3 _).1,grown_trans (grown_trans (grown_trans (set1 HR0.out 0 _).2 (set1 h0 1 _).2) (set1 h1 2 _).2) (set1 h2 3 _).2⟩
  clear hw5 r0 r1 r2 r3 rf d0 d1 d2 d3 df
  have hdf5:w5.heap[w3.heap.size]?=some (Obj.deferred (some [])):=(HW5.out.2.block _ (Array.getElem?_eq_some_iff.1 hdf).1 (by intro e;have:=Option.some.inj e;omega)).trans hdf
  obtain ⟨_,r0,r1,r2,r3,rf⟩:=cells4 HW5.out.1
  refine ⟨by simp,.inl ⟨_,_,rfl,run_takeDeferred hdf5,?_⟩⟩
  generalize hw6:World.putObj _ _ _=w6
  have HW6:Hid (w6.heap[w.heap.size]?=some (.cells #[.int .i64 (e0:Nat),.int .i64 (e1:Nat),.int .i64 (e2:Nat),.int .i64 (e3:Nat)] 53 (0,0))∧Below w.heap.size w w6):=by
   unfold Hid
   rw [← hw6]
   refine ⟨(World.putObj_heap_other (by omega)).trans HW5.out.1,?_⟩
   refine HB.out.trans (Kps.below (o:=fun k=>w.heap.size≤k) ?_ HB.out.size (fun k hk=>hk))
   exact Kps.trans ((HK.out.mono fun i _ hi=>by omega).trans (Kps.grown (o:=fun k=>w.heap.size≤k) HW5.out.2 (fun k hk _=>by cases hk;exact Nat.le_refl _)) (fun _ _ e=>e)) (Kps.put (o:=fun k=>w.heap.size≤k) _ (by omega)) (fun _ _ e=>e)
  clear hw6 r0 r1 r2 r3 rf
  obtain ⟨_,r0,r1,r2,r3,rf⟩:=cells4 HW6.out.1
  refine ⟨.agg #[.int .i64 (e0:Nat),.int .i64 (e1:Nat),.int .i64 (e2:Nat),.int .i64 (e3:Nat)],by simp [results,Tryz.results28,go_sem,r0,r1,r2,r3],?_⟩
  exact ⟨by rw [HE.out.1,HE.out.2.1,HE.out.2.2.1,HE.out.2.2.2],HW6.out.2⟩
 case stop=>rintro c s pre W hk hnw hSp h;exact h.elim
end Go.Proofs.YtjomfbegghgbdaaGreat.P
