import Derived.Test.YthhogjkicgiliaaGreatJ00
import Derived.Test.YthhogjkicgiliaaGreatJ35
import Derived.Test.YthhogjkicgiliaaGreatJ33
import Derived.Deep.RegionHeld3
namespace Go.Proofs.YthhogjkicgiliaaGreat.P
open Go.RowKit Go.Shelf
attribute [local go_sem] Oper.semAt_some
structure SkI (bk bs ba:Nat) (k b0:Int) (c0:Bool) (f:Nat) (s:Rs) (pre:List (Int × Int)) (W:World):Prop where
 kb:W.heap[bk]?=some (.cells #[.int .i64 k] 3 (0,0))
 sb:Blk 99 W bs s
 ab:W.heap[ba]?=some (.cells #[.int .i64 ((f + pre.length:Nat):Int)] 3 (0,0))
 ok:Rs.Ok s
 sa:s.a=(f + pre.length:Nat)
 ss:s.s≤65536
 bb:s.b≤(f + pre.length:Nat)
 sk:∀ rest,skL k b0 c0 (pre.map Prod.fst ++ rest)=pre.length + skL k s.b s.cr rest
def skO (bk bs ba:Nat) (_:Rs) (k:Nat):Prop:=k=bk∨k=bs∨k=ba
theorem SkI.same {bk bs ba:Nat} {k b0:Int} {c0:Bool} {f:Nat} {s:Rs} {pre:List (Int × Int)} {W W':World} (h:SkI bk bs ba k b0 c0 f s pre W) (hk:∀ k,skO bk bs ba s k→W'.heap[k]?=W.heap[k]?):SkI bk bs ba k b0 c0 f s pre W' :=
 ⟨by rw [hk bk (.inl rfl)];exact h.kb,by unfold Blk;rw [hk bs (.inr (.inl rfl))];exact h.sb,by rw [hk ba (.inr (.inr rfl))];exact h.ab,h.ok,h.sa,h.ss,h.bb,h.sk⟩
theorem SkI.lives {bk bs ba:Nat} {k b0:Int} {c0:Bool} {f:Nat} {s:Rs} {pre:List (Int × Int)} {W:World} (h:SkI bk bs ba k b0 c0 f s pre W) (j:Nat) (hk:skO bk bs ba s j):j < W.heap.size:=by
 rcases hk with rfl | rfl | rfl
 ·exact (Array.getElem?_eq_some_iff.1 h.kb).1
 ·exact h.sb.lt
 ·exact (Array.getElem?_eq_some_iff.1 h.ab).1
theorem add_sg (s:Rs) (a:Int) (h:Rs.Ok s):(Rs.add s (sg a 0)).b=nb s.b s.cr a∧(Rs.add s (sg a 0)).cr=decide (a=13):=by
 unfold Rs.add
 by_cases h0:s.a=0
 ·rw [if_pos h0]
  have hz:=h.z h0
  rw [hz]
  unfold sg nb Rs.zero
  simp
 ·rw [if_neg h0,if_neg (by unfold sg;simp)]
  unfold sg nb Rs.mlt
  simp only [decide_eq_true_eq]
  constructor <;> first | trivial | rfl
theorem SkI.step {bk bs ba:Nat} {k b0:Int} {c0:Bool} {f:Nat} {s:Rs} {pre:List (Int × Int)} {W V V1:World} (h:SkI bk bs ba k b0 c0 f s pre W) (hb:Below W.heap.size W V) (hd:bk≠bs∧bk≠ba∧bs≠ba) (hne:s.b≠k) (a g:Int) (q:Rs) (hq:q=Rs.add s (sg a 0)) (h1:Blk 99 V1 bs q) (h2:V.grownBy V1 (some bs)) :
  SkI bk bs ba k b0 c0 f q (pre ++ [(a,g)]) (V1.setCell ⟨ba,0,none⟩ (.int .i64 ((f + pre.length + 1:Nat):Int)))∧Kps (skO bk bs ba s) W (V1.setCell ⟨ba,0,none⟩ (.int .i64 ((f + pre.length + 1:Nat):Int))):=by
 have hk0:=h.kb
 have ha0:=h.ab
 have lk:=(Array.getElem?_eq_some_iff.1 hk0).1
 have la:=(Array.getElem?_eq_some_iff.1 ha0).1
 have z:=hb.size
 have hk1:V1.heap[bk]?=some (.cells #[.int .i64 k] 3 (0,0)):=(h2.block bk (by omega) (fun e=>hd.1 (Option.some.inj e))).trans ((hb.block bk lk).trans hk0)
 have ha1:V1.heap[ba]?=some (.cells #[.int .i64 ((f + pre.length:Nat):Int)] 3 (0,0)):=(h2.block ba (by omega) (fun e=>hd.2.2 (Option.some.inj e).symm)).trans ((hb.block ba la).trans ha0)
 obtain ⟨p1,p2⟩:=set1 ha1 0 (.int .i64 ((f + pre.length + 1:Nat):Int))
 have z1:=h2.size
 obtain ⟨e1,e2⟩:=add_sg s a h.ok
 obtain ⟨e3,e4⟩:=add_as s (sg a 0) h.ok (sg_ok a 0 (Int.le_refl _))
 have hg:=nb_ge s.b s.cr a
 have hsa:=h.sa
 have hss:=h.ss
 have hbb:=h.bb
 have lq:(pre ++ [(a,g)]).length=pre.length + 1:=by simp
 refine ⟨⟨?_,?_,?_,?_,?_,?_,?_,?_⟩,?_⟩
 ·exact (p2.block bk (by omega) (fun e=>hd.2.1 (Option.some.inj e))).trans hk1
 ·unfold Blk
  rw [p2.block bs h1.lt (fun e=>hd.2.2 (Option.some.inj e))]
  exact h1
 ·rw [lq]
  exact p1
 ·rw [hq];exact Rs.ok_add h.ok (sg_ok a 0 (Int.le_refl _))
 ·rw [hq,e3,hsa,lq];unfold sg;simp only;omega
 ·rw [hq,e4];unfold sg;simp only;omega
 ·rw [hq,e1,lq];omega
 ·intro rest
  rw [List.map_append,List.append_assoc]
  have:=h.sk (a :: rest)
  rw [skL,if_neg hne] at this
  rw [hq,e1,e2,lq]
  simp only [List.map_cons,List.map_nil,List.singleton_append]
  omega
 ·refine ((Kps.of_below (skO bk bs ba s) hb).trans (Kps.grown h2 fun j e _=>.inr (.inl (Option.some.inj e).symm)) fun _ _ e=>e).trans (Kps.grown p2 fun j e _=>.inr (.inr (Option.some.inj e).symm)) fun _ _ e=>e
theorem find_brk {enc:Int} {L:List Int} {w:World} {ps:List PG} (h:Pcs enc L w ps) (k:Int) (h0:0 < k) (hk:k≤(spn enc (asOf ps)).b) :
  ∃ i,rA.fnd 1 k Rs.zero (xsOf ps)=i + 1∧i < ps.length∧(spn enc (asOf (ps.take i))).b < k:=by
 have l2:=rA.fnd_le 1 k (xsOf ps) Rs.zero
 rw [xsOf_len] at l2
 have key:∀ j,rA.key (rA.add Rs.zero (rA.su ((xsOf ps).take j))) 1=(spn enc (asOf (ps.take j))).b:=fun j=>by
  have h':Pcs enc L w (ps.take j):=fun q hq=>h q (List.mem_of_mem_take hq)
  rw [show (xsOf ps).take j=xsOf (ps.take j) by simp [xsOf,List.map_take],h'.su]
  show Rs.key (Rs.add Rs.zero _) 1=_
  rw [Rs.zadd]
  rfl
 have hne:rA.fnd 1 k Rs.zero (xsOf ps)≠0:=by
  intro e
  have:=rA.fnd_hit 1 k (xsOf ps) Rs.zero Rs.ok_zero (by rw [e];exact Nat.zero_le _)
  rw [e,key 0,List.take_zero] at this
  simp [asOf,spn_nil,Rs.zero] at this
  omega
 obtain ⟨i,hi⟩:∃ i,rA.fnd 1 k Rs.zero (xsOf ps)=i + 1:=⟨_,(Nat.succ_pred_eq_of_ne_zero hne).symm⟩
 have hls:∀ j,j < i + 1→(spn enc (asOf (ps.take j))).b < k:=fun j hj=>by
  have:=rA.fnd_less 1 k (xsOf ps) Rs.zero j Rs.ok_zero (by omega)
  rw [key j] at this
  exact this
 refine ⟨i,hi,?_,hls i (by omega)⟩
 rcases Nat.lt_or_ge i ps.length with h1 | h1
 ·exact h1
 ·have:=hls i (by omega)
  rw [List.take_of_length_le h1] at this
  omega
set_option maxRecDepth 100000 in
set_option maxHeartbeats 8000000 in
theorem Seek_any (enc lim:Int) (L:List Int) (w:World) (t:Nat) (ps:List PG) (k:Int) (h:Tx enc lim L w t ps):Calls Tryz.prog 42 #[.pointer (some ⟨t,0,none⟩),.int .i64 k] w fun e w'=>e=.returned (.int .i64 (skA enc (asOf ps) k))∧Below w.heap.size w w':=by
 have hsl:=h.sum.2.2
 have HT:=hidIt h
 obtain ⟨w0,hw0,kk0,hb0⟩:∃ w0,w0=w.alloc (.cells #[.int .i64 k] 3)∧w0.heap[w.heap.size]?=some (.cells #[.int .i64 k] 3 (0,0))∧Below w.heap.size w w0:=⟨_,rfl,heap_alloc_new _ _,ext_alloc (Below.refl _ _) _⟩
 have HB0:=hidIt hb0
 have HKK:=hidIt kk0
 obtain ⟨lv,u,⟨_,_,_,c3w⟩,_,htt,htl⟩:=h.cells
 have HC:Hid (∀ w',Below w0.heap.size w0 w'→w'.cell? ⟨w.heap.size,0,none⟩=some (.int .i64 k)∧w'.cell? ⟨t,3,none⟩=some (.pointer u)):=fun w' hb=>by
  have e:=(hb.block _ (Array.getElem?_eq_some_iff.1 kk0).1).trans kk0
  exact ⟨by rw [cell_of_row w' _ _ _ _ _ e];rfl,((ext_trans hb0 hb).cell (p:=⟨t,3,none⟩) htl).trans c3w⟩
 have ENTER:Hid (∀ Q:Ending→World→Prop,True→True):=fun _ h=>h
 clear ENTER
 have hkk:k=0∨(k≠0∧(k < 0∨(spn enc (asOf ps)).b < k))∨(0 < k∧k≤(spn enc (asOf ps)).b):=by omega
 have SU:Hid (∀ w',Below w0.heap.size w0 w'→Calls Tryz.prog 48 #[.agg #[.pointer u]] w' fun e w''=>∃ s:Rs,Hid (s.b=(spn enc (asOf ps)).b)∧e=.returned (.agg #[.int .i64 s.a,.int .i64 s.s,.int .i64 s.b,.bool s.lf,.bool s.cr])∧Below w'.heap.size w' w''):=fun w' hb=>by
  refine (Sum_any u (xsOf ps) w' (htt.ext (ext_trans hb0 hb))).mono ?_
  rintro e w'' ⟨s,hs,rfl,hb'⟩
  exact ⟨s,by unfold Hid;rw [hs.out,h.pc.su],rfl,hb'⟩
 have fb:=field_breaks
 rcases hkk with hk0 | ⟨hk0,hbad⟩ | ⟨hk0,hkb⟩
 ·subst hk0
  obtain ⟨d0,_⟩:=HC.out w0 (Below.refl _ _)
  have HA:=hidIt (show skA enc (asOf ps) 0=0 by unfold skA;rw [if_pos rfl])
  clear h hb0 kk0 htt SU fb
  refine (callsIn_wide (n:=9)).1 ?_
  refine callsIn_of_wp_marks Tryz.func42 rfl trivial ?_ rfl
  simp only [Tryz.ntmps42,List.size_toArray,List.length_cons,List.length_nil,Nat.reduceAdd,Nat.reduceSub,Array.replicate_succ,Array.replicate_zero,List.push_toArray,List.append_toArray,List.nil_append,List.cons_append]
  refine wpIn_mono (Q:=calm _) ?_ (fun _ _ _ h=>calm_imp h)
  refine wpIn_wide.2 ?_
  go_upto_region 1 with fail
  rw [← hw0]
  clear hw0
  go_wp2_with fail
  refine ⟨_,results_tmp rfl _ _ _,?_⟩
  exact ⟨ret_int HA.out.symm,HB0.out⟩
 ·have HA:=hidIt (show skA enc (asOf ps) k=-1 by unfold skA;rw [if_neg hk0,if_pos hbad])
  obtain ⟨d0,d3⟩:=HC.out w0 (Below.refl _ _)
  clear h hb0 kk0 htt
  refine (callsIn_wide (n:=9)).1 ?_
  refine callsIn_of_wp_marks Tryz.func42 rfl trivial ?_ rfl
  simp only [Tryz.ntmps42,List.size_toArray,List.length_cons,List.length_nil,Nat.reduceAdd,Nat.reduceSub,Array.replicate_succ,Array.replicate_zero,List.push_toArray,List.append_toArray,List.nil_append,List.cons_append]
  refine wpIn_mono (Q:=calm _) ?_ (fun _ _ _ h=>calm_imp h)
  refine wpIn_wide.2 ?_
  go_upto_region 1 with fail
  rw [← hw0]
  clear hw0
  by_cases hk1:k < 0
  ·go_upto_region 3 with fail
   refine wp_region_held_drew (S:=fun w''=>w''.cell? ⟨w.heap.size,0,none⟩=some (.int .i64 k)∧w''.cell? ⟨t,3,none⟩=some (.pointer u)) (by kernel_rfl) (⟨d0,d3⟩) (fun hHeld=>?_)
   refine tkH (v:=?_) 0 rfl ?_ ?_;rotate_left 1
   ·intro wq hSw;(try dsimp only at hSw);go_simp;try (with_reducible rfl)
   try simp only [Act.put,sA1,sA3,sA4,sA5,sA6]
   refine tkH (v:=?_) 1 rfl ?_ ?_;rotate_left 1
   ·intro wq hSw;(try dsimp only at hSw);go_simp;try (with_reducible rfl)
   try simp only [Act.put,sA1,sA2,sA3,sA4,sA5,sA6]
   refine tkH (v:=?_) 2 rfl ?_ ?_;rotate_left 1
   ·intro wq hSw;(try dsimp only at hSw);go_simp;try (with_reducible rfl)
   try simp only [Act.put,sA1,sA2,sA3,sA4,sA5,sA6]
   refine wpAnyH_take (i:=3) (oi:=_) (v:=undef) rfl (by kernel_rfl) (by kernel_rfl) (by kernel_rfl) (fun _ _ _ h=>h) (Or.inr ⟨by rfl,rfl⟩) (by assumption) ?_
   try simp only [Act.put,sA1,sA2,sA3,sA4,sA5,sA6]
   refine wpAnyH_take (i:=4) (oi:=_) (v:=undef) rfl (by kernel_rfl) (by kernel_rfl) (by kernel_rfl) (fun _ _ _ h=>h) (Or.inr ⟨by rfl,rfl⟩) (by assumption) ?_
   try simp only [Act.put,sA1,sA2,sA3,sA4,sA5,sA6]
   refine wpAnyH_take (i:=5) (oi:=_) (v:=undef) rfl (by kernel_rfl) (by kernel_rfl) (by kernel_rfl) (fun _ _ _ h=>h) (Or.inr ⟨by rfl,rfl⟩) (by assumption) ?_
   try simp only [Act.put,sA1,sA2,sA3,sA4,sA5,sA6]
   refine wpAnyH_take (i:=6) (oi:=_) (v:=undef) rfl (by kernel_rfl) (by kernel_rfl) (by kernel_rfl) (fun _ _ _ h=>h) (Or.inr ⟨by rfl,rfl⟩) (by assumption) ?_
   try simp only [Act.put,sA1,sA2,sA3,sA4,sA5,sA6]
   refine wpAnyH_take (i:=7) (oi:=_) (v:=undef) rfl (by kernel_rfl) (by kernel_rfl) (by kernel_rfl) (fun _ _ _ h=>h) (Or.inr ⟨by rfl,rfl⟩) (by assumption) ?_
   try simp only [Act.put,sA1,sA2,sA3,sA4,sA5,sA6]
   refine wpAnyH_take (i:=8) (oi:=_) (v:=undef) rfl (by kernel_rfl) (by kernel_rfl) (by kernel_rfl) (fun _ _ _ h=>h) (Or.inr ⟨by rfl,rfl⟩) (by assumption) ?_
   try simp only [Act.put,sA1,sA2,sA3,sA4,sA5,sA6]
   refine wpAnyH_take (i:=9) (oi:=_) (v:=undef) rfl (by kernel_rfl) (by kernel_rfl) (by kernel_rfl) (fun _ _ _ h=>h) (Or.inr ⟨by rfl,rfl⟩) (by assumption) ?_
   try simp only [Act.put,sA1,sA2,sA3,sA4,sA5,sA6]
   refine wpAnyH_take (i:=10) (oi:=_) (v:=undef) rfl (by kernel_rfl) (by kernel_rfl) (by kernel_rfl) (fun _ _ _ h=>h) (Or.inr ⟨by rfl,rfl⟩) (by assumption) ?_
   try simp only [Act.put,sA1,sA2,sA3,sA4,sA5,sA6]
   refine tkH (v:=?_) 11 rfl ?_ ?_;rotate_left 1
   ·intro wq hSw;(try dsimp only at hSw);go_simp;try (with_reducible rfl)
   try simp only [Act.put,sA1,sA2,sA3,sA4,sA5,sA6]
   refine wpAnyH_done (by kernel_rfl) ?_ _
   go_wp2_with fail
   refine ⟨_,results_tmp rfl _ _ _,?_⟩
   exact ⟨ret_int HA.out.symm,HB0.out.drew⟩
  ·have hbb:(spn enc (asOf ps)).b < k:=by omega
   go_upto_region 3 with fail
   refine wp_region_held_drew (S:=fun w''=>w''.cell? ⟨w.heap.size,0,none⟩=some (.int .i64 k)∧w''.cell? ⟨t,3,none⟩=some (.pointer u)) (by kernel_rfl) (⟨d0,d3⟩) (fun hHeld=>?_)
   refine tkH (v:=?_) 0 rfl ?_ ?_;rotate_left 1
   ·intro wq hSw;(try dsimp only at hSw);go_simp;try (with_reducible rfl)
   try simp only [Act.put,sA1,sA3,sA4,sA5,sA6]
   refine tkH (v:=?_) 1 rfl ?_ ?_;rotate_left 1
   ·intro wq hSw;(try dsimp only at hSw);go_simp;try (with_reducible rfl)
   try simp only [Act.put,sA1,sA2,sA3,sA4,sA5,sA6]
   refine tkH (v:=?_) 2 rfl ?_ ?_;rotate_left 1
   ·intro wq hSw;(try dsimp only at hSw);go_simp;try (with_reducible rfl)
   try simp only [Act.put,sA1,sA2,sA3,sA4,sA5,sA6]
   refine tkH (v:=?_) 3 rfl ?_ ?_;rotate_left 1
   ·intro wq hSw;(try dsimp only at hSw);go_simp;try (with_reducible rfl)
   try simp only [Act.put,sA1,sA2,sA3,sA4,sA5,sA6]
   refine tkH (v:=?_) 4 rfl ?_ ?_;rotate_left 1
   ·intro wq hSw;(try dsimp only at hSw);go_simp;try (with_reducible rfl)
   try simp only [Act.put,sA1,sA2,sA3,sA4,sA5,sA6]
   refine tkH (v:=?_) 5 rfl ?_ ?_;rotate_left 1
   ·intro wq hSw;(try dsimp only at hSw);go_simp;try (with_reducible rfl)
   try simp only [Act.put,sA1,sA2,sA3,sA4,sA5,sA6]
   refine tkH (v:=?_) 6 rfl ?_ ?_;rotate_left 1
   ·intro wq hSw;(try dsimp only at hSw);go_simp;try (with_reducible rfl)
   try simp only [Act.put,sA1,sA2,sA3,sA4,sA5,sA6]
   refine tkH (v:=?_) 7 rfl ?_ ?_;rotate_left 1
   ·intro wq hSw;(try dsimp only at hSw);go_simp;try (with_reducible rfl)
   try simp only [Act.put,sA1,sA2,sA3,sA4,sA5,sA6]
   refine wpAnyH_ready (rs:=[8]) (by kernel_rfl) (by simp) ?_
   refine AllReadyH.cons (o:=_) rfl (fun K hK=>?_) AllReadyH.nil
   go_simp
   refine (SU.out _ (Below.drew (Below.refl _ _))).mono ?_;clear d0 d3;rintro e v1 ⟨⟨sa,ss,sb,sf,sr⟩,hs,rfl,hb⟩;obtain rfl:sb=(spn enc (asOf ps)).b:=hs.out;have HV1:=hidIt (ext_trans (Below.drew (Below.refl w0.heap.size w0)) hb);clear hb;obtain ⟨d0,d3⟩:=HC.out v1 HV1.out;try dsimp only
   refine hK.out _ _ ?_ (fun hHeld=>?_)
   ·(try simp only [World.cell?_drew]);exact ⟨d0,d3⟩
   clear hK K
   try simp only [Act.put,sA1,sA2,sA3,sA4,sA5,sA6]
   refine tkH (v:=?_) 9 rfl ?_ ?_;rotate_left 1
   ·intro wq hSw;(try dsimp only at hSw);go_simp;try (with_reducible rfl)
   try simp only [Act.put,sA1,sA2,sA3,sA4,sA5,sA6]
   refine tkH (v:=?_) 10 rfl ?_ ?_;rotate_left 1
   ·intro wq hSw;(try dsimp only at hSw);go_simp;try (with_reducible rfl)
   try simp only [Act.put,sA1,sA2,sA3,sA4,sA5,sA6]
   refine tkH (v:=?_) 11 rfl ?_ ?_;rotate_left 1
   ·intro wq hSw;(try dsimp only at hSw);go_simp;try (with_reducible rfl)
   try simp only [Act.put,sA1,sA2,sA3,sA4,sA5,sA6]
   refine wpAnyH_done (by kernel_rfl) ?_ _
   go_wp2_with fail
   refine ⟨_,results_tmp rfl _ _ _,?_⟩
   exact ⟨ret_int HA.out.symm,ext_trans HB0.out HV1.out⟩
 ·have hk1:¬ k < 0:=by omega
  have hk2:¬ k=0:=by omega
  have hk3:¬ (spn enc (asOf ps)).b < k:=by omega
  obtain ⟨i,hfi,hil,hib⟩:=find_brk h.pc k hk0 hkb
  have h':Pcs enc L w (ps.take i):=fun q hq=>h.pc q (List.mem_of_mem_take hq)
  have hwt:wt (xsOf ps)≤4611686018427387904:=by have:=h.pc.wt;have:=h.sz;omega
  have hpl:ps.length≤65536:=by have:=h.pc.len;have:=ln_ge enc (asOf ps);have:=h.sz;omega
  obtain ⟨f,hf⟩:∃ f,f=(asOf (ps.take i)).length:=⟨_,rfl⟩
  have eA:asOf ps=asOf (ps.take i) ++ asOf (ps.drop i):=by rw [← asOf_app,List.take_append_drop]
  have hfl:f≤(sh enc ps).length:=by rw [hf,sh_len,eA];simp
  have FD:Hid (∀ w',Below w0.heap.size w0 w'→Calls Tryz.prog 59 #[.agg #[.pointer u],.int .i64 1,.int .i64 k] w' fun e w''=>e=.returned (.int .i64 ((i + 1:Nat):Int))∧Below w'.heap.size w' w''):=fun w' hb=>by rw [← hfi];exact Find_any u (xsOf ps) 1 k w' (htt.ext (ext_trans hb0 hb)) hwt
  have HUP:Hid (rA.su ((xsOf ps).take i)=spn enc (asOf (ps.take i))):=by
   unfold Hid
   rw [show (xsOf ps).take i=xsOf (ps.take i) by simp [xsOf,List.map_take],h'.su]
  have UP:Hid (∀ w',Below w0.heap.size w0 w'→Calls Tryz.prog 61 #[.agg #[.pointer u],.int .i64 (i:Nat)] w' fun e w''=>∃ s,Hid (s=spn enc (asOf (ps.take i)))∧e=.returned (.agg #[.int .i64 s.a,.int .i64 s.s,.int .i64 s.b,.bool s.lf,.bool s.cr])∧Below w'.heap.size w' w''):=fun w' hb=>by
   have:=Upto_any u (xsOf ps) (i:Nat) w' (htt.ext (ext_trans hb0 hb)) hwt (by omega)
   rw [Int.toNat_natCast,HUP.out] at this
   exact this
  have HSF:Hid (∀ s,s=spn enc (asOf (ps.take i))→Rs.Ok s∧s.a=(f:Nat)∧s.s≤65536∧s.b≤(f:Nat)):=by
   rintro s rfl
   have a1:=spn_a enc _ h'.fit
   have b1:=spn_b enc (asOf (ps.take i))
   have l5:ln enc (asOf (ps.take i))≤65536:=by have h1:=h.sz;rw [eA,ln_app] at h1;omega
   exact ⟨spn_ok enc _,by rw [a1.1,hf],by rw [a1.2];omega,by rw [hf];omega⟩
  have LN:Hid (∀ w',Below w0.heap.size w0 w'→Calls Tryz.prog 34 #[.pointer (some ⟨t,0,none⟩)] w' fun e w''=>e=.returned (.int .i64 (sh enc ps).length)∧Below w'.heap.size w' w''):=fun w' hb=>Len_any enc lim L w' t ps (h.ext (ext_trans hb0 hb))
  have HBT2:Hid ((btw enc ps f (sh enc ps).length).map Prod.fst=asOf (ps.drop i)):=by
   unfold Hid btw
   rw [List.take_of_length_le (by rw [List.length_drop];exact Nat.le_refl _),List.map_drop,sh_fst,eA,hf,List.drop_left]
  have HANS:Hid (skA enc (asOf ps) k=((f + skL k (spn enc (asOf (ps.take i))).b (spn enc (asOf (ps.take i))).cr (asOf (ps.drop i)):Nat):Int)):=by
   unfold Hid skA
   rw [if_neg hk2,if_neg (by omega),hf]
   conv=>lhs;rw [eA]
   rw [skL_skip enc k _ _ _ rfl hib]
  obtain ⟨d0,d3⟩:=HC.out w0 (Below.refl _ _)
  have hwi:IntKind.i64.wrap (((i + 1:Nat):Int) - 1)=(i:Nat):=by rw [IntKind.wrap_i64];omega
  obtain ⟨ll,hll⟩:∃ ll,ll=(sh enc ps).length:=⟨_,rfl⟩
  rw [← hll] at LN HBT2 hfl hsl
  have HLL:=hidIt hll
  obtain ⟨ans,hans⟩:∃ ans,ans=f + skL k (spn enc (asOf (ps.take i))).b (spn enc (asOf (ps.take i))).cr (asOf (ps.drop i)):=⟨_,rfl⟩
  rw [← hans] at HANS
  have HAN:=hidIt hans
  have hwi':IntKind.i64.wrap (i:Int)=(i:Int):=by rw [IntKind.wrap_i64];omega
  clear hll hans
  clear h h' kk0 htt hfi hib hwt eA hf hkb
  refine (callsIn_wide (n:=9)).1 ?_
  refine callsIn_of_wp_marks Tryz.func42 rfl trivial ?_ rfl
  simp only [Tryz.ntmps42,List.size_toArray,List.length_cons,List.length_nil,Nat.reduceAdd,Nat.reduceSub,Array.replicate_succ,Array.replicate_zero,List.push_toArray,List.append_toArray,List.nil_append,List.cons_append]
  refine wpIn_mono (Q:=calm _) ?_ (fun _ _ _ h=>calm_imp h)
  refine wpIn_wide.2 ?_
  go_upto_region 1 with fail
  rw [← hw0]
  clear hw0
  go_upto_region 3 with fail
  refine wp_region_held_drew (S:=fun w''=>w''.cell? ⟨w.heap.size,0,none⟩=some (.int .i64 k)∧w''.cell? ⟨t,3,none⟩=some (.pointer u)) (by kernel_rfl) (⟨d0,d3⟩) (fun hHeld=>?_)
  refine tkH (v:=?_) 0 rfl ?_ ?_;rotate_left 1
  ·intro wq hSw;(try dsimp only at hSw);go_simp;try (with_reducible rfl)
  try simp only [Act.put,sA1,sA3,sA4,sA5,sA6]
  refine tkH (v:=?_) 1 rfl ?_ ?_;rotate_left 1
  ·intro wq hSw;(try dsimp only at hSw);go_simp;try (with_reducible rfl)
  try simp only [Act.put,sA1,sA2,sA3,sA4,sA5,sA6]
  refine tkH (v:=?_) 2 rfl ?_ ?_;rotate_left 1
  ·intro wq hSw;(try dsimp only at hSw);go_simp;try (with_reducible rfl)
  try simp only [Act.put,sA1,sA2,sA3,sA4,sA5,sA6]
  refine tkH (v:=?_) 3 rfl ?_ ?_;rotate_left 1
  ·intro wq hSw;(try dsimp only at hSw);go_simp;try (with_reducible rfl)
  try simp only [Act.put,sA1,sA2,sA3,sA4,sA5,sA6]
  refine tkH (v:=?_) 4 rfl ?_ ?_;rotate_left 1
  ·intro wq hSw;(try dsimp only at hSw);go_simp;try (with_reducible rfl)
  try simp only [Act.put,sA1,sA2,sA3,sA4,sA5,sA6]
  refine tkH (v:=?_) 5 rfl ?_ ?_;rotate_left 1
  ·intro wq hSw;(try dsimp only at hSw);go_simp;try (with_reducible rfl)
  try simp only [Act.put,sA1,sA2,sA3,sA4,sA5,sA6]
  refine tkH (v:=?_) 6 rfl ?_ ?_;rotate_left 1
  ·intro wq hSw;(try dsimp only at hSw);go_simp;try (with_reducible rfl)
  try simp only [Act.put,sA1,sA2,sA3,sA4,sA5,sA6]
  refine tkH (v:=?_) 7 rfl ?_ ?_;rotate_left 1
  ·intro wq hSw;(try dsimp only at hSw);go_simp;try (with_reducible rfl)
  try simp only [Act.put,sA1,sA2,sA3,sA4,sA5,sA6]
  refine wpAnyH_ready (rs:=[8]) (by kernel_rfl) (by simp) ?_
  refine AllReadyH.cons (o:=_) rfl (fun K hK=>?_) AllReadyH.nil
  go_simp
  refine (SU.out _ (Below.drew (Below.refl _ _))).mono ?_;clear d0 d3;rintro e v1 ⟨⟨sa,ss,sb,sf,sr⟩,hs,rfl,hb⟩;obtain rfl:sb=(spn enc (asOf ps)).b:=hs.out;have HV1:=hidIt (ext_trans (Below.drew (Below.refl w0.heap.size w0)) hb);clear hb;obtain ⟨d0,d3⟩:=HC.out v1 HV1.out;try dsimp only
  refine hK.out _ _ ?_ (fun hHeld=>?_)
  ·(try simp only [World.cell?_drew]);exact ⟨d0,d3⟩
  clear hK K
  try simp only [Act.put,sA1,sA2,sA3,sA4,sA5,sA6]
  refine tkH (v:=?_) 9 rfl ?_ ?_;rotate_left 1
  ·intro wq hSw;(try dsimp only at hSw);go_simp;try (with_reducible rfl)
  try simp only [Act.put,sA1,sA2,sA3,sA4,sA5,sA6]
  refine tkH (v:=?_) 10 rfl ?_ ?_;rotate_left 1
  ·intro wq hSw;(try dsimp only at hSw);go_simp;try (with_reducible rfl)
  try simp only [Act.put,sA1,sA2,sA3,sA4,sA5,sA6]
  refine tkH (v:=?_) 11 rfl ?_ ?_;rotate_left 1
  ·intro wq hSw;(try dsimp only at hSw);go_simp;try (with_reducible rfl)
  try simp only [Act.put,sA1,sA2,sA3,sA4,sA5,sA6]
  refine wpAnyH_done (by kernel_rfl) ?_ _
  skip
  go_upto_region 5 with fail
  refine wp_region_held_drew (S:=fun w''=>w''.cell? ⟨w.heap.size,0,none⟩=some (.int .i64 k)∧w''.cell? ⟨t,3,none⟩=some (.pointer u)) (by kernel_rfl) (⟨d0,d3⟩) (fun hHeld=>?_)
  refine tkH (v:=?_) 0 rfl ?_ ?_;rotate_left 1
  ·intro wq hSw;(try dsimp only at hSw);go_simp;try (with_reducible rfl)
  try simp only [Act.put,sA1,sA3,sA4,sA5,sA6]
  refine tkH (v:=?_) 1 rfl ?_ ?_;rotate_left 1
  ·intro wq hSw;(try dsimp only at hSw);go_simp;try (with_reducible rfl)
  try simp only [Act.put,sA1,sA2,sA3,sA4,sA5,sA6]
  refine tkH (v:=?_) 2 rfl ?_ ?_;rotate_left 1
  ·intro wq hSw;(try dsimp only at hSw);go_simp;try (with_reducible rfl)
  try simp only [Act.put,sA1,sA2,sA3,sA4,sA5,sA6]
  refine tkH (v:=?_) 3 rfl ?_ ?_;rotate_left 1
  ·intro wq hSw;(try dsimp only at hSw);go_simp;try (with_reducible rfl)
  try simp only [Act.put,sA1,sA2,sA3,sA4,sA5,sA6]
  refine tkH (v:=?_) 4 rfl ?_ ?_;rotate_left 1
  ·intro wq hSw;(try dsimp only at hSw);go_simp;try (with_reducible rfl)
  try simp only [Act.put,sA1,sA2,sA3,sA4,sA5,sA6]
  refine wpAnyH_ready (rs:=[5]) (by kernel_rfl) (by simp) ?_
  refine AllReadyH.cons (o:=_) rfl (fun K hK=>?_) AllReadyH.nil
  go_simp
  refine (FD.out _ HV1.out.drew).mono ?_;clear d0 d3;rintro e v2 ⟨rfl,hb⟩;have HV2:=hidIt (ext_trans HV1.out.drew hb);clear hb;obtain ⟨d0,d3⟩:=HC.out v2 HV2.out;try dsimp only
  refine hK.out _ _ ?_ (fun hHeld=>?_)
  ·(try simp only [World.cell?_drew]);exact ⟨d0,d3⟩
  clear hK K
  try simp only [Act.put,sA1,sA2,sA3,sA4,sA5,sA6]
  refine tkH (v:=?_) 6 rfl ?_ ?_;rotate_left 1
  ·intro wq hSw;(try dsimp only at hSw);go_simp;try (with_reducible rfl)
  try simp only [Act.put,sA1,sA2,sA3,sA4,sA5,sA6]
  refine tkH (v:=?_) 7 rfl ?_ ?_;rotate_left 1
  ·intro wq hSw;(try dsimp only at hSw);go_simp;try (with_reducible rfl)
  try simp only [Act.put,sA1,sA2,sA3,sA4,sA5,sA6]
  refine wpAnyH_done (by kernel_rfl) ?_ _
  skip
  go_upto_region 7 with (go_at_call 61;refine (UP.out _ HV2.out).mono ?_;clear d0 d3;rintro e v3 ⟨s,hs,rfl,hb⟩;have HS3:=hidIt hs.out;have HV3:=hidIt (ext_trans HV2.out hb);clear hb hs;(try dsimp only))
  obtain ⟨v4,hv4,kb4,hb4⟩:∃ v4,v4=v3.alloc (.cells #[.int .i64 s.a,.int .i64 s.s,.int .i64 s.b,.bool s.lf,.bool s.cr] 99)∧Blk 99 v4 v3.heap.size s∧Below v3.heap.size v3 v4:=⟨_,rfl,heap_alloc_new _ _,ext_alloc (Below.refl _ _) _⟩
  rw [← hv4]
  clear hv4
  obtain ⟨HOK,hsa,hss,hsb⟩:=HSF.out s HS3.out
  have HV4:=hidIt (ext_trans HV3.out hb4)
  obtain ⟨d6,_,_,_,_⟩:=kb4.cells
  rw [hsa] at d6
  obtain ⟨v5,hv5,ka5,hb5⟩:∃ v5,v5=v4.alloc (.cells #[.int .i64 (f:Nat)] 3)∧v5.heap[v4.heap.size]?=some (.cells #[.int .i64 (f:Nat)] 3 (0,0))∧Below v4.heap.size v4 v5:=⟨_,rfl,heap_alloc_new _ _,ext_alloc (Below.refl _ _) _⟩
  go_upto_region 8 with fail
  rw [← hv5]
  clear hv5 d6
  have HV5:=hidIt (ext_trans HV4.out hb5)
  have HKB5:=hidIt (kb4.ext hb5)
  have HKA5:=hidIt ka5
  have HCA:Hid (∀ w',Below v5.heap.size v5 w'→w'.cell? ⟨v4.heap.size,0,none⟩=some (.int .i64 (f:Nat))):=fun w' hb=>by
   have e:=(hb.block _ (Array.getElem?_eq_some_iff.1 ka5).1).trans ka5
   rw [cell_of_row w' _ _ _ _ _ e];rfl
  have z34:v3.heap.size < v4.heap.size:=kb4.lt
  have z45:v4.heap.size < v5.heap.size:=(Array.getElem?_eq_some_iff.1 ka5).1
  have z03:w.heap.size < v3.heap.size:=Nat.lt_of_lt_of_le (Array.getElem?_eq_some_iff.1 HKK.out).1 HV3.out.size
  clear kb4 ka5 hb4 hb5
  have ca:=HCA.out v5 (Below.refl _ _)
  refine wp_region_held_drew (S:=fun w''=>w''.cell? ⟨v4.heap.size,0,none⟩=some (.int .i64 (f:Nat))) (by kernel_rfl) (ca) (fun hHeld=>?_)
  refine tkH (v:=?_) 0 rfl ?_ ?_;rotate_left 1
  ·intro wq hSw;(try dsimp only at hSw);go_simp;try (with_reducible rfl)
  try simp only [Act.put,sA1,sA3,sA4,sA5,sA6]
  refine tkH (v:=?_) 1 rfl ?_ ?_;rotate_left 1
  ·intro wq hSw;(try dsimp only at hSw);go_simp;try (with_reducible rfl)
  try simp only [Act.put,sA1,sA2,sA3,sA4,sA5,sA6]
  refine tkH (v:=?_) 2 rfl ?_ ?_;rotate_left 1
  ·intro wq hSw;(try dsimp only at hSw);go_simp;try (with_reducible rfl)
  try simp only [Act.put,sA1,sA2,sA3,sA4,sA5,sA6]
  refine wpAnyH_ready (rs:=[3]) (by kernel_rfl) (by simp) ?_
  refine AllReadyH.cons (o:=_) rfl (fun K hK=>?_) AllReadyH.nil
  go_simp
  refine (LN.out _ HV5.out.drew).mono ?_;clear ca;rintro e v6 ⟨rfl,hb⟩;have HV56:=hidIt (ext_trans (Below.drew (Below.refl v5.heap.size v5)) hb);clear hb;have ca:=HCA.out v6 HV56.out;try dsimp only
  refine hK.out _ _ ?_ (fun hHeld=>?_)
  ·(try simp only [World.cell?_drew]);exact ca
  clear hK K
  try simp only [Act.put,sA1,sA2,sA3,sA4,sA5,sA6]
  refine wpAnyH_ready (rs:=[4]) (by kernel_rfl) (by simp) ?_
  refine AllReadyH.cons (o:=_) rfl (fun K hK=>?_) AllReadyH.nil
  go_simp
  refine (between_any t (f:Nat) (ll:Nat) v6).mono ?_;clear ca;rintro e v7 ⟨rfl,hv7⟩;have HW7:=hidIt hv7;clear hv7;have HV67:Hid (Below v6.heap.size v6 v7):=(by unfold Hid;rw [HW7.out];exact ext_alloc (ext_alloc (ext_alloc (Below.refl _ _) _) _) _);have ca:=HCA.out v7 (ext_trans HV56.out HV67.out);try dsimp only
  refine hK.out _ _ ?_ (fun hHeld=>?_)
  ·(try simp only [World.cell?_drew]);exact ca
  clear hK K
  try simp only [Act.put,sA1,sA2,sA3,sA4,sA5,sA6]
  refine wpAnyH_done (by kernel_rfl) ?_ _
  skip
  have HW57:=hidIt (ext_trans HV56.out HV67.out)
  have hs7:v7.heap.size=v6.heap.size + 3:=by rw [HW7.out];simp
  have z56:=HV56.out.size
  have HK7:Hid (v7.heap[v6.heap.size]?=some (.cells #[.pointer (some ⟨t,0,none⟩)] 26 (0,0))∧v7.heap[v6.heap.size + 1]?=some (.cells #[.int .i64 (f:Nat)] 3 (0,0))∧v7.heap[v6.heap.size + 2]?=some (.cells #[.int .i64 (ll:Nat)] 3 (0,0))):=by
   unfold Hid
   rw [HW7.out]
   refine ⟨?_,?_,?_⟩
   ·exact (Below.heap_alloc _ _ _ (by simp;omega)).trans ((Below.heap_alloc _ _ _ (by simp)).trans (heap_alloc_new _ _))
   ·have e:v6.heap.size + 1=(v6.alloc (.cells #[.pointer (some ⟨t,0,none⟩)] 26)).heap.size:=by simp
    rw [e]
    exact (Below.heap_alloc _ _ _ (by simp)).trans (heap_alloc_new _ _)
   ·have e:v6.heap.size + 2=((v6.alloc (.cells #[.pointer (some ⟨t,0,none⟩)] 26)).alloc (.cells #[.int .i64 (f:Nat)] 3)).heap.size:=by simp
    rw [e]
    exact heap_alloc_new _ _
  have HBw7:=hidIt (ext_trans HB0.out (ext_trans HV5.out HW57.out))
  have SQ:=hidIt (between_stops 8 enc lim L t ps f ll hfl (by rw [HLL.out];exact Nat.le_refl _) w HT.out v7 HBw7.out v6.heap.size (v6.heap.size + 1) (v6.heap.size + 2) (by omega) (by omega) (by omega) HK7.out.1 HK7.out.2.1 HK7.out.2.2)
  have HI7:Hid (SkI w.heap.size v3.heap.size v4.heap.size k s.b s.cr f s [] v7):=by
   refine ⟨?_,HKB5.out.ext HW57.out,?_,HOK,by simpa using hsa,hss,by simpa using hsb,fun rest=>by simp⟩
   ·exact ((ext_trans HV5.out HW57.out).block _ (Array.getElem?_eq_some_iff.1 HKK.out).1).trans HKK.out
   ·exact (HW57.out.block _ (Array.getElem?_eq_some_iff.1 HKA5.out).1).trans HKA5.out
  have hs77:=HBw7.out.size
  have hd3:w.heap.size≠v3.heap.size∧w.heap.size≠v4.heap.size∧v3.heap.size≠v4.heap.size:=by omega
  have HD3:=hidIt hd3
  have HSE:=hidIt (show s.b=(spn enc (asOf (ps.take i))).b∧s.cr=(spn enc (asOf (ps.take i))).cr by rw [HS3.out];exact ⟨rfl,rfl⟩)
  clear hd3 HW7 HKB5 HKA5 ca HCA FD UP LN SU HUP HSF HC HOK hsa hss hsb
  go_upto_block 0 with fail
  refine (wpIn_wide (n:=9)).1 ?_
  gi_wp2_with fail
  refine range_x (σ:=Rs) rfl (by omega) (gf:=65) (lb:=#[.pointer (some ⟨v6.heap.size,0,none⟩),.pointer (some ⟨v6.heap.size + 1,0,none⟩),.pointer (some ⟨v6.heap.size + 2,0,none⟩)]) rfl trivial (enters_of Tryz.func65 (by kernel_rfl) rfl) SQ.out (Kps.refl _ _) (fun _=>rfl)
   (skO w.heap.size v3.heap.size v4.heap.size) (fun r pre W=>SkI w.heap.size v3.heap.size v4.heap.size k s.b s.cr f r pre W) (fun c _ _ W=>c=.exit 0∧W.heap[v4.heap.size]?=some (.cells #[.int .i64 (ans:Nat)] 3 (0,0))) s ?rel (fun _=>False) (fun _ h=>h.elim) (fun _ _ _ _ h _ hk=>h.same (fun k ho=>hk k (.inl ho))) (fun _ _ _ _ _ h _ hk=>⟨h.1,(hk _ (.inl (.inr (.inr rfl)))).trans h.2⟩) (fun _ _ _ h=>h.lives) ?h0
   (fun q a' W=>a'={ tmps:=#[.pointer (some ⟨t,0,none⟩),.int .i64 k,undef,.pointer (some ⟨w.heap.size,0,none⟩),.int .i64 0,.int .i64 i,.pointer (some ⟨v3.heap.size,0,none⟩),.pointer (some ⟨v4.heap.size,0,none⟩),.int .i64 q.1,.int .i64 k,.bool false,.int .i64 k,.bool false,.bool false,.int .i64 k,.pointer (some ⟨t,0,none⟩),.pointer (some ⟨t,0,none⟩),.pointer (some ⟨t,3,none⟩),.agg #[.pointer u],.agg #[.int .i64 sa,.int .i64 ss,.int .i64 (spn enc (asOf ps)).b,.bool sf,.bool sr],.int .i64 (spn enc (asOf ps)).b,.bool false,.bool false,.pointer (some ⟨t,0,none⟩),.pointer (some ⟨t,0,none⟩),.pointer (some ⟨t,3,none⟩),.agg #[.pointer u],.int .i64 k,.int .i64 (i + 1),.int .i64 i,.pointer (some ⟨t,0,none⟩),.pointer (some ⟨t,0,none⟩),.pointer (some ⟨t,3,none⟩),.agg #[.pointer u],.int .i64 i,.agg #[.int .i64 f,.int .i64 s.s,.int .i64 s.b,.bool s.lf,.bool s.cr],.pointer (some ⟨v3.heap.size,0,none⟩),.int .i64 f,.pointer (some ⟨t,0,none⟩),.int .i64 f,.pointer (some ⟨t,0,none⟩),.int .i64 ll,.func (.func 65) #[] #[.pointer (some ⟨v6.heap.size,0,none⟩),.pointer (some ⟨v6.heap.size + 1,0,none⟩),.pointer (some ⟨v6.heap.size + 2,0,none⟩)],.int .i64 q.1,.int .i64 q.2,undef,undef,undef,undef,undef,undef,undef,undef,undef,undef,undef,undef,undef,undef,undef,undef,undef,undef,undef],defers:=[] }) (fun _ _ _ _ h _ _=>h) ?assign ?body ?done ?stop
  case rel =>
   intro j hj
   have hng:skO w.heap.size v3.heap.size v4.heap.size s j→j=w.heap.size∨j=v3.heap.size∨j=v4.heap.size:=id
   rcases hj with hj | rfl | rfl | rfl
   ·exact ⟨by omega,fun h=>by have:=hng h;omega⟩
   ·exact ⟨by omega,fun h=>by have:=hng h;omega⟩
   ·exact ⟨by omega,fun h=>by have:=hng h;omega⟩
   ·exact ⟨by omega,fun h=>by have:=hng h;omega⟩
  case h0=>exact HI7.out
  case assign =>
   intro l q W K hz hK
   gi_wp2_with fail
   exact hK _ _ (Below.refl _ _) rfl
  case body =>
   rintro l r pre q a' W hI rfl hSp hzW
   have HI:=hidIt hI
   obtain ⟨rest,hrest⟩:=hSp
   have HRS:Hid (ans=f + (pre.length + skL k r.b r.cr (q.1 :: rest.map Prod.fst))):=by
    unfold Hid
    rw [HAN.out,← HSE.out.1,← HSE.out.2,← HBT2.out,← hrest,List.map_append,List.map_append,List.append_assoc,hI.sk]
    rfl
   have hpl:f + pre.length + 1≤ll:=by
    have h1:=congrArg List.length hrest
    rw [btw_len (by rw [HLL.out];exact Nat.le_refl _)] at h1
    simp at h1
    omega
   obtain ⟨d5,_,_,_,f5⟩:=hI.sb.cells
   have ck:W.cell? ⟨w.heap.size,0,none⟩=some (.int .i64 k):=by rw [cell_of_row W _ _ _ _ _ hI.kb];rfl
   have ca:W.cell? ⟨v4.heap.size,0,none⟩=some (.int .i64 ((f + pre.length:Nat):Int)):=by rw [cell_of_row W _ _ _ _ _ hI.ab];rfl
   have fa:∀ i,W.frozen? ⟨v4.heap.size,i,none⟩=false:=fun i=>by simp [World.frozen?,hI.ab]
   have hla:v4.heap.size < W.heap.size:=hI.lives _ (.inr (.inr rfl))
   obtain ⟨fp,hfp⟩:∃ fp,fp=f + pre.length:=⟨_,rfl⟩
   rw [← hfp] at ca hpl
   have HFP:=hidIt hfp
   have hwfp:IntKind.i64.wrap ((fp:Int) + 1)=((fp + 1:Nat):Int):=by rw [IntKind.wrap_i64];omega
   clear hrest hI hfp
   by_cases hbk:r.b=k
   ·rw [hbk] at d5
    have HBK:=hidIt hbk
    clear hbk
    refine wpIn_block ?_
    cases hcr:r.cr with
    | true =>
      rw [hcr] at d5
      by_cases hq:q.1=10
      ·have HQ:=hidIt hq
       have hA2:(ans:Int)=(fp:Int) + 1:=by rw [HRS.out,skL,if_pos HBK.out,if_pos ⟨hcr,hq⟩,HFP.out];omega
       have HA2:=hidIt hA2
       clear hA2
       gi_wp2_with fail
       refine ⟨r,⟨rfl,(set1 HI.out.ab 0 _).1.trans ?_⟩,Kps.grown (set1 HI.out.ab 0 _).2 (fun j e _=>.inr (.inr (Option.some.inj e).symm)),fun k h=>.inl h⟩
       rw [HA2.out]
       rfl
      ·have hA2:ans=f + pre.length:=by rw [HRS.out,skL,if_pos HBK.out,if_neg (fun e=>hq e.2),Nat.add_zero]
       have HA2:=hidIt hA2
       clear hA2
       gi_wp2_with fail
       refine ⟨r,⟨rfl,?_⟩,Kps.refl _ _,fun k h=>.inl h⟩
       rw [HA2.out]
       exact HI.out.ab
    | false =>
      rw [hcr] at d5
      have hA2:ans=f + pre.length:=by rw [HRS.out,skL,if_pos HBK.out,if_neg (fun e=>by rw [hcr] at e;cases e.1),Nat.add_zero]
      have HA2:=hidIt hA2
      clear hA2
      gi_wp2_with fail
      refine ⟨r,⟨rfl,?_⟩,Kps.refl _ _,fun k h=>.inl h⟩
      rw [HA2.out]
      exact HI.out.ab
   ·have HBK:=hidIt hbk
    have hbk':¬ k=r.b:=fun e=>hbk e.symm
    have SGL:Hid (∀ w',Calls Tryz.prog 70 #[.int .i64 q.1,.int .i64 0] w' fun e w''=>e=.returned (.agg #[.int .i64 (sg q.1 0).a,.int .i64 (sg q.1 0).s,.int .i64 (sg q.1 0).b,.bool (sg q.1 0).lf,.bool (sg q.1 0).cr])∧Below w'.heap.size w' w''):=fun w'=>single_any q.1 0 w'
    have ADD:Hid (∀ w',Calls Tryz.prog 63 #[.agg #[.int .i64 r.a,.int .i64 r.s,.int .i64 r.b,.bool r.lf,.bool r.cr],.agg #[.int .i64 (sg q.1 0).a,.int .i64 (sg q.1 0).s,.int .i64 (sg q.1 0).b,.bool (sg q.1 0).lf,.bool (sg q.1 0).cr]] w' fun e w''=>∃ z,Hid (z=Rs.add r (sg q.1 0))∧e=.returned (.agg #[.int .i64 z.a,.int .i64 z.s,.int .i64 z.b,.bool z.lf,.bool z.cr])∧Below w'.heap.size w' w''):=fun w'=>by
     have o1:=HI.out.ok
     have o2:=sg_ok q.1 0 (Int.le_refl _)
     have e1:=HI.out.sa
     have e2:=HI.out.ss
     have e3:=HI.out.bb
     have e4:=HFP.out
     have e5:(sg q.1 0).a=1∧(sg q.1 0).s=0∧(sg q.1 0).b≤1:=by unfold sg;refine ⟨rfl,rfl,?_⟩;simp only;split <;> omega
     exact Add_any r (sg q.1 0) w' o1.a0 o2.a0 o1.s0 o2.s0 o1.b0 o2.b0 (by omega) (by omega) (by omega)
    have HCS:Hid (∀ W',Below W.heap.size W W'→(W'.cell? ⟨v3.heap.size,0,none⟩=some (.int .i64 r.a)∧W'.cell? ⟨v3.heap.size,1,none⟩=some (.int .i64 r.s)∧W'.cell? ⟨v3.heap.size,2,none⟩=some (.int .i64 r.b)∧W'.cell? ⟨v3.heap.size,3,none⟩=some (.bool r.lf)∧W'.cell? ⟨v3.heap.size,4,none⟩=some (.bool r.cr))∧(∀ i,W'.frozen? ⟨v3.heap.size,i,none⟩=false)∧W'.cell? ⟨v4.heap.size,0,none⟩=some (.int .i64 (fp:Nat))∧(∀ i,W'.frozen? ⟨v4.heap.size,i,none⟩=false)∧Blk 99 W' v3.heap.size r):=fun W' hb=>by
     have b1:=HI.out.sb.ext hb
     have e:=(hb.block _ (Array.getElem?_eq_some_iff.1 HI.out.ab).1).trans HI.out.ab
     rw [← HFP.out] at e
     exact ⟨b1.cells.1,b1.cells.2.2.2.2,by rw [cell_of_row W' _ _ _ _ _ e];rfl,fun i=>by simp [World.frozen?,e],b1⟩
    refine wpIn_block ?_
    gi_wp2_with fail
    refine wpIn_heldC (S:=fun w''=>w''.cell? ⟨v4.heap.size,0,none⟩=some (.int .i64 (fp:Nat))) ?nd (fun ⟨a,w,h⟩=>h) (by kernel_rfl) (by simp only [World.cell?_drew];exact ca) (fun hHeld=>?_)
    case nd =>
     intro i o h
     rcases i with _ | _ | _ | _ | _ | i
     all_goals first | (obtain rfl:=Option.some.inj h;intro c hc;cases hc) | (simp at h)
    refine tkH (v:=?_) 1 rfl ?_ ?_;rotate_left 1
    ·intro wq hSw;(try dsimp only at hSw);go_simp;try (with_reducible rfl)
    try simp only [Act.put,sA1,sA2,sA3,sA4,sA5,sA6]
    refine wpAnyH_ready (rs:=[0,2]) (by kernel_rfl) (by simp) ?_
    refine (AllReadyH.cons (o:=_) rfl (fun K hK=>?_) (AllReadyH.cons (o:=_) rfl (fun K hK=>?_) AllReadyH.nil))
    ·skip
     go_simp
     refine hK.out _ _ ?_ (fun hHeld=>?_)
     ·(try simp only [World.cell?_drew]);exact ca
     clear hK K
     try simp only [Act.put,sA1,sA2,sA3,sA4,sA5,sA6]
     refine wpAnyH_ready (rs:=[2]) (by kernel_rfl) (by simp) ?_
     refine AllReadyH.cons (o:=_) rfl (fun K hK=>?_) AllReadyH.nil
     go_simp
     refine (SGL.out _).mono ?_;clear d5 f5 ca fa;rintro e X1 ⟨rfl,hb⟩;have HX1:=hidIt (ext_trans (Below.drew (Below.refl W.heap.size W)) hb);clear hb;obtain ⟨d5,f5,ca,fa,_⟩:=HCS.out X1 HX1.out;try dsimp only
     refine hK.out _ _ ?_ (fun hHeld=>?_)
     ·(try simp only [World.cell?_drew]);exact ca
     clear hK K
     try simp only [Act.put,sA1,sA2,sA3,sA4,sA5,sA6]
     refine wpAnyH_ready (rs:=[3]) (by kernel_rfl) (by simp) ?_
     refine AllReadyH.cons (o:=_) rfl (fun K hK=>?_) AllReadyH.nil
     go_simp
     refine (ADD.out _).mono ?_;clear d5 f5 ca fa;rintro e X2 ⟨z,hz,rfl,hb⟩;have HZ:=hidIt hz.out;have HX2:=hidIt (ext_trans HX1.out hb);clear hb hz;obtain ⟨d5,f5,ca,fa,_⟩:=HCS.out X2 HX2.out;try dsimp only
     refine hK.out _ _ ?_ (fun hHeld=>?_)
     ·(try simp only [World.cell?_drew]);exact ca
     clear hK K
     try simp only [Act.put,sA1,sA2,sA3,sA4,sA5,sA6]
     refine wpAnyH_ready (rs:=[4]) (by kernel_rfl) (by simp) ?_
     refine AllReadyH.cons (o:=_) rfl (fun K hK=>?_) AllReadyH.nil
     go_simp
     generalize hwN:World.setCell _ _ _=X3;have hp:Blk 99 X3 v3.heap.size z∧X2.grownBy X3 (some v3.heap.size):=(by rw [← hwN];exact (HCS.out X2 HX2.out).2.2.2.2.put z);have HP3:=hidIt hp;clear hp hwN d5 f5;have e3:=HP3.out.2.block v4.heap.size (Nat.lt_of_lt_of_le hla HX2.out.size) (fun e=>HD3.out.2.2 (Option.some.inj e).symm);have ca3:X3.cell? ⟨v4.heap.size,0,none⟩=some (.int .i64 (fp:Nat)):=(cell_same e3 _).trans ca;have fa3:∀ i,X3.frozen? ⟨v4.heap.size,i,none⟩=false:=(fun i=>(froz_same e3 _).trans (fa i));clear ca fa e3
     refine hK.out _ _ ?_ (fun hHeld=>?_)
     ·(try simp only [World.cell?_drew]);exact ca3
     clear hK K
     try simp only [Act.put,sA1,sA2,sA3,sA4,sA5,sA6]
     refine wpAnyH_done (by kernel_rfl) ?_ _
     gi_wp2_with fail
     have st:=HI.out.step HX2.out HD3.out HBK.out q.1 q.2 z HZ.out HP3.out.1 HP3.out.2
     rw [← HFP.out,show ((fp + 1:Nat):Int)=(fp:Int) + 1 from rfl] at st
     exact ⟨z,st.1,st.2,fun k h=>.inl h⟩
    ·skip
     go_simp
     refine (SGL.out _).mono ?_;clear d5 f5 ca fa;rintro e X1 ⟨rfl,hb⟩;have HX1:=hidIt (ext_trans (Below.drew (Below.refl W.heap.size W)) hb);clear hb;obtain ⟨d5,f5,ca,fa,_⟩:=HCS.out X1 HX1.out;try dsimp only
     refine hK.out _ _ ?_ (fun hHeld=>?_)
     ·(try simp only [World.cell?_drew]);exact ca
     clear hK K
     try simp only [Act.put,sA1,sA2,sA3,sA4,sA5,sA6]
     refine wpAnyH_ready (rs:=[0]) (by kernel_rfl) (by simp) ?_
     refine AllReadyH.cons (o:=_) rfl (fun K hK=>?_) AllReadyH.nil
     go_simp
     refine hK.out _ _ ?_ (fun hHeld=>?_)
     ·(try simp only [World.cell?_drew]);exact ca
     clear hK K
     try simp only [Act.put,sA1,sA2,sA3,sA4,sA5,sA6]
     refine wpAnyH_ready (rs:=[3]) (by kernel_rfl) (by simp) ?_
     refine AllReadyH.cons (o:=_) rfl (fun K hK=>?_) AllReadyH.nil
     go_simp
     refine (ADD.out _).mono ?_;clear d5 f5 ca fa;rintro e X2 ⟨z,hz,rfl,hb⟩;have HZ:=hidIt hz.out;have HX2:=hidIt (ext_trans HX1.out hb);clear hb hz;obtain ⟨d5,f5,ca,fa,_⟩:=HCS.out X2 HX2.out;try dsimp only
     refine hK.out _ _ ?_ (fun hHeld=>?_)
     ·(try simp only [World.cell?_drew]);exact ca
     clear hK K
     try simp only [Act.put,sA1,sA2,sA3,sA4,sA5,sA6]
     refine wpAnyH_ready (rs:=[4]) (by kernel_rfl) (by simp) ?_
     refine AllReadyH.cons (o:=_) rfl (fun K hK=>?_) AllReadyH.nil
     go_simp
     generalize hwN:World.setCell _ _ _=X3;have hp:Blk 99 X3 v3.heap.size z∧X2.grownBy X3 (some v3.heap.size):=(by rw [← hwN];exact (HCS.out X2 HX2.out).2.2.2.2.put z);have HP3:=hidIt hp;clear hp hwN d5 f5;have e3:=HP3.out.2.block v4.heap.size (Nat.lt_of_lt_of_le hla HX2.out.size) (fun e=>HD3.out.2.2 (Option.some.inj e).symm);have ca3:X3.cell? ⟨v4.heap.size,0,none⟩=some (.int .i64 (fp:Nat)):=(cell_same e3 _).trans ca;have fa3:∀ i,X3.frozen? ⟨v4.heap.size,i,none⟩=false:=(fun i=>(froz_same e3 _).trans (fa i));clear ca fa e3
     refine hK.out _ _ ?_ (fun hHeld=>?_)
     ·(try simp only [World.cell?_drew]);exact ca3
     clear hK K
     try simp only [Act.put,sA1,sA2,sA3,sA4,sA5,sA6]
     refine wpAnyH_done (by kernel_rfl) ?_ _
     gi_wp2_with fail
     have st:=HI.out.step HX2.out HD3.out HBK.out q.1 q.2 z HZ.out HP3.out.1 HP3.out.2
     rw [← HFP.out,show ((fp + 1:Nat):Int)=(fp:Int) + 1 from rfl] at st
     exact ⟨z,st.1,st.2,fun k h=>.inl h⟩
  case done =>
   intro r xs W hk hnw hS hI hdf hno
   subst hS
   have hA2:ans=f + (btw enc ps f ll).length:=by
    have h1:=hI.sk []
    rw [List.append_nil,HBT2.out] at h1
    rw [HAN.out,← HSE.out.1,← HSE.out.2,h1]
    rfl
   have hoc:W.cell? ⟨v4.heap.size,0,none⟩=some (.int .i64 (ans:Nat)):=by rw [cell_of_row W _ _ _ _ _ hI.ab,hA2];rfl
   have hkk:=hk
   clear hA2 hk hI hnw hno
   gi_wp2
   go_wp2_with fail
   refine ⟨by simp,.inl ⟨_,_,rfl,run_takeDeferred hdf,?_⟩⟩
   refine ⟨_,results_tmp rfl _ _ _,?_⟩
   refine ⟨ret_int HANS.out.symm,?_⟩
   refine HBw7.out.trans (Kps.below (o:=fun k=>w.heap.size≤k) ?_ HBw7.out.size (fun k hk=>hk))
   refine Kps.trans (hkk.mono fun i _ hi=>?_) (Kps.put (o:=fun k=>w.heap.size≤k) _ HBw7.out.size) (fun _ _ e=>e)
   rcases hi with rfl | rfl | rfl <;> omega
  case stop =>
   rintro c r pre W hkk hnw hSp ⟨rfl,hX⟩ hdf hno
   have hoc:W.cell? ⟨v4.heap.size,0,none⟩=some (.int .i64 (ans:Nat)):=by rw [cell_of_row W _ _ _ _ _ hX];rfl
   clear hnw hno hX hSp
   gi_wp2
   go_wp2_with fail
   refine ⟨by simp,.inl ⟨_,_,rfl,run_takeDeferred hdf,?_⟩⟩
   refine ⟨_,results_tmp rfl _ _ _,?_⟩
   refine ⟨ret_int HANS.out.symm,?_⟩
   refine HBw7.out.trans (Kps.below (o:=fun k=>w.heap.size≤k) ?_ HBw7.out.size (fun k hk=>hk))
   refine Kps.trans (hkk.mono fun i _ hi=>?_) (Kps.put (o:=fun k=>w.heap.size≤k) _ HBw7.out.size) (fun _ _ e=>e)
   rcases hi with rfl | rfl | rfl <;> omega
end Go.Proofs.YthhogjkicgiliaaGreat.P
