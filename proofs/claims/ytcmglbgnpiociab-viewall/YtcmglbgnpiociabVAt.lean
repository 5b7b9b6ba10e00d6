/- At. -/
import Derived.Test.YtcmglbgnpiociabVCell
namespace Go.Proofs.Ytcmglbgnpiociab.P
open Go.RowKit Go.Shelf

attribute [local go_sem] Oper.semAt_some

/-- What holds behind the rounds of At, and where it was left. -/
def AtI (w : World) (a : Int) (pre : List (Nat × Nat × Nat)) (W : World) : Prop := W.heap[w.heap.size + 1]? = some (.cells #[.int .i64 0] 3 (0, 0)) ∧ W.heap[w.heap.size]? = some (.cells #[.int .i64 a] 3 (0, 0)) ∧ (∀ p ∈ pre, (p.2.2 : Int) ≤ a) ∧ w.heap.size + 3 ≤ W.heap.size
def AtX (w : World) (a : Int) (c : Code) (pre : List (Nat × Nat × Nat)) (W : World) : Prop := c = .ret ∧ ∃ pre0 x, pre = pre0 ++ [x] ∧ a < (x.2.2 : Int) ∧ (∀ p ∈ pre0, (p.2.2 : Int) ≤ a) ∧ W.heap[w.heap.size + 1]? = some (.cells #[.int .i64 x.1] 3 (0, 0))

/-- What a result's cell gives. -/
theorem cell_run {fn : Func} {p : Tmp} {W : World} {g : Nat} {x : Int} {tmps : Array Value} (h : fn.results = #[.cell p 3]) (hp : tmps.getD p undef = .pointer (some ⟨g, 0, none⟩)) (hg : W.heap[g]? = some (.cells #[.int .i64 x] 3 (0, 0))) : (results fn tmps).run Try.prog W = .ok (.int .i64 x) W := by
  have hc : W.cell? ⟨g, 0, none⟩ = some (.int .i64 x) := by rw [cell_of_row W _ _ _ _ _ hg]; rfl
  rw [results_cell_one h, hp]
  go_simp

set_option maxRecDepth 100000 in
set_option maxHeartbeats 4000000 in
theorem At_any (v : Value) (zs : List Int) (a : Int) (w : World) (hr : Rd .i64 w v zs) (hz : zs.length ≤ 140737488355328) : Calls Try.prog 13 #[v, .int .i64 a] w fun e w' => e = .returned (.int .i64 (Vw.at zs a : Nat)) ∧ Below w.heap.size w w' := by
  have HR := hidIt hr
  obtain ⟨ao, cap, rfl, hcz, hcm, _⟩ := hr
  have PL := hidIt (places_at ao zs.length cap ((w.alloc (.cells #[.int .i64 a] 3)).alloc (.cells #[.int .i64 0] 3)) (w.heap.size + 2) (by simp))
  by_cases ha : a < 0
  · have HQ : Hid (Vw.at zs a = 0) := by unfold Hid Vw.at; rw [if_pos ha]
    refine (callsIn_wide (n := 9)).1 ?_
    refine callsIn_of_wp_marks Try.func13 rfl trivial ?_ rfl
    simp only [Try.ntmps13, List.size_toArray, List.length_cons, List.length_nil, Nat.reduceAdd, Nat.reduceSub, Array.replicate_succ, Array.replicate_zero, List.push_toArray, List.append_toArray, List.nil_append, List.cons_append]
    refine wpIn_mono (Q := calm _) ?_ (fun _ _ _ h => calm_imp h)
    refine wpIn_wide.2 ?_
    go_wp2_with fail
    refine ⟨_, cell_run (g := w.heap.size + 1) (x := 0) rfl rfl ?_, ?_⟩
    · have e : w.heap.size + 1 = (w.alloc (.cells #[.int .i64 a] 3)).heap.size := by simp
      rw [e]
      exact heap_alloc_new _ _
    · exact ⟨ret_int (by rw [HQ.out]; rfl), ext_alloc (ext_alloc (Below.refl _ _) _) _⟩
  have HQA : Hid (Vw.at zs a = Vw.atL zs.length (Vw.ps zs 0 0) a) := by unfold Hid Vw.at; rw [if_neg ha]
  refine (callsIn_wide (n := 9)).1 ?_
  refine callsIn_of_wp_marks Try.func13 rfl trivial ?_ rfl
  simp only [Try.ntmps13, List.size_toArray, List.length_cons, List.length_nil, Nat.reduceAdd, Nat.reduceSub, Array.replicate_succ, Array.replicate_zero, List.push_toArray, List.append_toArray, List.nil_append, List.cons_append]
  refine wpIn_mono (Q := calm _) ?_ (fun _ _ _ h => calm_imp h)
  refine wpIn_wide.2 ?_
  go_wp2_with (go_at_call 27; refine PL.out.mono ?_; rintro e w3 ⟨rfl, hw3⟩; have HW3 := hidIt hw3; clear hw3 PL; (try dsimp only))
  have HG3 := hidIt (begun w _ _ _ _ _ _ w3 HW3.out)
  have hs3 := HG3.out.1
  have SQ := hidIt (places_stops 8 zs _ w HR.out hz w3 HG3.out.2.2.2.2 (w.heap.size + 2) (by omega) HG3.out.2.2.2.1)
  clear HW3
  refine (wpIn_wide (n := 9)).1 ?_
  refine range_x (σ := Unit) rfl (by omega) (gf := 36) (lb := #[.pointer (some ⟨w.heap.size + 2, 0, none⟩)]) rfl trivial (enters_of Try.func36 (by kernel_rfl) rfl) SQ.out (Kps.refl _ _) (fun _ => rfl)
    (fun _ k => k = w.heap.size + 1) (fun _ pre W => AtI w a pre W) (fun c _ pre W => AtX w a c pre W) ()
    ?rel (fun k => k = w.heap.size) (fun k hk => by omega) (fun _ _ _ _ h hz hk => ⟨(hk _ (.inl rfl)).trans h.1, (hk _ (.inr rfl)).trans h.2.1, h.2.2.1, Nat.le_trans h.2.2.2 hz⟩) (fun _ _ _ _ _ h _ hk => by obtain ⟨h1, p0, x, h2, h3, h4, h5⟩ := h; exact ⟨h1, p0, x, h2, h3, h4, (hk _ (.inl rfl)).trans h5⟩) (fun _ _ _ h k hk => by have := h.2.2.2; omega) ?h0
    (fun q a' W => ∃ b, w3.heap.size + 2 ≤ b ∧ b < W.heap.size ∧ W.heap[b]? = some (.cells #[.int .i64 q.1, .int .i64 q.2.1, .int .i64 q.2.2] 41 (0, 0)) ∧ a' = { tmps := #[.slice ao zs.length cap, .int .i64 a, undef, .pointer (some ⟨w.heap.size, 0, none⟩), .pointer (some ⟨w.heap.size + 1, 0, none⟩), .pointer (some ⟨b, 0, none⟩), .int .i64 a, .bool false, .slice ao zs.length cap, .func (.func 36) #[] #[.pointer (some ⟨w.heap.size + 2, 0, none⟩)], plV q, undef, undef, undef, undef, undef, undef, undef, undef], defers := [] })
    (fun _ _ _ _ h hz hk => by obtain ⟨b, h1, h2, h3, h4⟩ := h; exact ⟨b, h1, by omega, (hk b h1 h2).trans h3, h4⟩) ?assign ?body ?done ?stop
  case rel =>
    rintro k (hk | rfl)
    · exact ⟨by omega, fun h => by omega⟩
    · exact ⟨by omega, fun h => by omega⟩
  case h0 => exact ⟨HG3.out.2.2.1, HG3.out.2.1, by simp, by omega⟩
  case assign =>
    intro l q W K hz hK
    unfold plV at hK ⊢
    gi_wp2_with fail
    exact hK _ _ (ext_alloc (Below.refl _ _) _) ⟨W.heap.size, hz, by simp, heap_alloc_new _ _, rfl⟩
  case body =>
    rintro l s pre q a' W ⟨i1, i2, i3, i4⟩ ⟨b, hb1, hb2, hb3, rfl⟩ hSp hzW
    have c1 : W.cell? ⟨b, 0, none⟩ = some (.int .i64 q.1) := by rw [cell_of_row W _ _ _ _ _ hb3]; rfl
    have c2 : W.cell? ⟨b, 2, none⟩ = some (.int .i64 q.2.2) := by rw [cell_of_row W _ _ _ _ _ hb3]; rfl
    have ca : W.cell? ⟨w.heap.size, 0, none⟩ = some (.int .i64 a) := by rw [cell_of_row W _ _ _ _ _ i2]; rfl
    have c5 : W.cell? ⟨w.heap.size + 1, 0, none⟩ = some (.int .i64 0) := by rw [cell_of_row W _ _ _ _ _ i1]; rfl
    have f5 : ∀ i, W.frozen? ⟨w.heap.size + 1, i, none⟩ = false := fun i => by simp [World.frozen?, i1]
    have I1 := hidIt i1
    have I2 := hidIt i2
    have I3 := hidIt i3
    unfold plV
    clear i1 i2 i3 hb3 hSp HR SQ HG3
    refine wpIn_block ?_
    by_cases hlt : a < (q.2.2 : Int)
    · gi_wp2_with fail
      obtain ⟨s1, s2⟩ := set1 I1.out 0 (.int .i64 q.1)
      exact ⟨(), ⟨rfl, pre, q, rfl, hlt, I3.out, s1⟩, Kps.grown s2 (fun k hk _ => by cases hk; rfl), fun k h => .inl h⟩
    · gi_wp2_with fail
      refine ⟨(), ⟨I1.out, I2.out, fun p hp => ?_, i4⟩, Kps.refl _ _, fun k h => .inl h⟩
      rcases List.mem_append.1 hp with h | h
      · exact I3.out p h
      · obtain rfl := List.mem_singleton.1 h; omega
  case done =>
    intro s xs W hk hnw hS ⟨i1, i2, i3, i4⟩ hdf hno
    subst hS
    have c5 : W.cell? ⟨w.heap.size + 1, 0, none⟩ = some (.int .i64 0) := by rw [cell_of_row W _ _ _ _ _ i1]; rfl
    have f5 : ∀ i, W.frozen? ⟨w.heap.size + 1, i, none⟩ = false := fun i => by simp [World.frozen?, i1]
    have HQ : Hid (Vw.at zs a = zs.length) := by
      have h := Vw.atL_pre zs.length _ [] a i3
      rw [List.append_nil] at h
      unfold Hid; rw [HQA.out, h]; rfl
    have HB := hidIt HG3.out.2.2.2.2
    have I1 := hidIt i1
    clear hnw i1 i2 i3 SQ HG3
    gi_wp2
    go_wp2_with fail
    obtain ⟨s1, s2⟩ := set1 I1.out 0 (.int .i64 zs.length)
    have z3 : w3.heap.size < W.heap.size := (Array.getElem?_eq_some_iff.1 hdf).1
    refine ⟨by simp, .inl ⟨_, _, rfl, run_takeDeferred ((s2.block _ z3 (by simp; omega)).trans hdf), ?_⟩⟩
    refine ⟨_, cell_run (g := w.heap.size + 1) (x := zs.length) rfl rfl ((World.putObj_heap_other (by omega)).trans s1), ?_⟩
    refine ⟨ret_int (by rw [HQ.out]), ?_⟩
    refine HB.out.trans (Kps.below (o := fun k => w.heap.size ≤ k) ?_ HB.out.size (fun k hk => hk))
    refine Kps.trans (Kps.trans (hk.mono fun i _ hi => ?_) (Kps.grown (o := fun k => w.heap.size ≤ k) s2 (fun k e _ => by cases e; omega)) (fun _ _ e => e)) (Kps.put (o := fun k => w.heap.size ≤ k) _ HB.out.size) (fun _ _ e => e)
    omega
  case stop =>
    rintro c s pre W hk hnw hSp ⟨rfl, p0, x, rfl, h3, h4, h5⟩ hdf hno
    have HQ : Hid (Vw.at zs a = x.1) := by
      obtain ⟨t, ht⟩ := hSp
      unfold Hid
      rw [HQA.out, ← ht, List.append_assoc, Vw.atL_pre _ _ _ _ h4]
      show Vw.atL zs.length (x :: t) a = _
      rw [Vw.atL, if_pos h3]
    have HB := hidIt HG3.out.2.2.2.2
    have H5 := hidIt h5
    clear hnw h5 h4 SQ HG3 hSp
    gi_wp2
    refine ⟨by simp, .inl ⟨_, _, rfl, run_takeDeferred hdf, ?_⟩⟩
    refine ⟨_, cell_run (g := w.heap.size + 1) (x := x.1) rfl rfl ((World.putObj_heap_other (by omega)).trans H5.out), ?_⟩
    refine ⟨ret_int (by rw [HQ.out]), ?_⟩
    refine HB.out.trans (Kps.below (o := fun k => w.heap.size ≤ k) ?_ HB.out.size (fun k hk => hk))
    refine Kps.trans (hk.mono fun i _ hi => ?_) (Kps.put (o := fun k => w.heap.size ≤ k) _ HB.out.size) (fun _ _ e => e)
    omega
end Go.Proofs.Ytcmglbgnpiociab.P
