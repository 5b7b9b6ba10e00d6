/- Replace, At. -/
import Derived.Test.YtcdamhgblolofaaBuild
namespace Go.Proofs.Ytcdamhgblolofaa
open Go.RowKit

theorem wt_sub (xs : List It) (i : Nat) : wt (xs.take i) ≤ wt xs ∧ wt (xs.drop i) ≤ wt xs := by
  have := wt_app (xs.take i) (xs.drop i)
  rw [List.take_append_drop] at this
  omega

set_option maxRecDepth 100000 in
set_option maxHeartbeats 2000000 in
theorem Replace_bad (u : Option Addr) (xs : List It) (f t : Int) (v : Value) (ys : List It) (w : World) (h : TT w (.agg #[.pointer u]) xs) (hv : RdR w v ys) (hb : f < 0 ∨ t < f ∨ (xs.length : Int) < t) :
    Calls Try.prog 26 #[.agg #[.pointer u], .int .i64 f, .int .i64 t, v] w fun e w' => e = .returned (.tuple #[.agg #[.pointer none], .int .i64 1]) ∧ Below w.heap.size w w' := by
  obtain ⟨ao, cap, rfl, _⟩ := hv
  have K : Hid (∀ w', Below w.heap.size w w' → Calls Try.prog 22 #[.agg #[.pointer u]] w' fun e w'' => e = .returned (.int .i64 xs.length) ∧ Below w'.heap.size w' w'') := fun w' hb => Size_any u xs w' (h.ext hb)
  clear h
  generalize xs.length = n at *
  by_cases h1 : f < 0
  · go_enter Try.func26, Try.ntmps26
    go_wp2_with fail
    exact bodyPost_ret (v := .tuple #[.agg #[.pointer none], .int .i64 1]) (by simp [results, Try.results26, go_sem]) rfl ⟨rfl, by repeat (first | exact Below.refl _ _ | refine ext_alloc ?_ _)⟩
  by_cases h2 : t < f
  · go_enter Try.func26, Try.ntmps26
    go_wp2_with fail
    exact bodyPost_ret (v := .tuple #[.agg #[.pointer none], .int .i64 1]) (by simp [results, Try.results26, go_sem]) rfl ⟨rfl, by repeat (first | exact Below.refl _ _ | refine ext_alloc ?_ _)⟩
  have h3 : (n : Int) < t := by omega
  obtain ⟨w0, hw0⟩ : ∃ w0, w0 = (w.alloc (.cells #[.pointer u] 39)).alloc (.cells #[.pointer none] 39) := ⟨_, rfl⟩
  have hb0 : Below w.heap.size w w0 := by rw [hw0]; exact ext_alloc (ext_alloc (Below.refl _ _) _) _
  have hA : w0.heap[w.heap.size + 1]? = some (.cells #[.pointer none] 39 (0, 0)) := by
    have := heap_alloc_new (w.alloc (.cells #[.pointer u] 39)) (.cells #[.pointer none] 39)
    rw [World.size_alloc] at this
    rw [hw0]; exact this
  have hlt : w.heap.size + 1 < w0.heap.size := (Array.getElem?_eq_some_iff.1 hA).1
  have c0 : w0.cell? ⟨w.heap.size, 0, none⟩ = some (.pointer u) := by rw [hw0]; simp
  have HZ : Hid (∀ w1, Below w0.heap.size w0 w1 → w1.heap[w.heap.size + 1]? = some (.cells #[.pointer none] 39 (0, 0))) := fun w1 hb1 => by rw [hb1.block _ hlt]; exact hA
  have HB0 := hidIt hb0
  clear hb0 hA hb
  go_enter Try.func26, Try.ntmps26
  go_wp2_with (rw [← hw0]; go_at_call 22; refine (K.out _ HB0.out).mono ?_; clear hw0; rintro e w1 ⟨rfl, hb1⟩; have HB1 := hidIt hb1; have z0 : w1.cell? ⟨w.heap.size + 1, 0, none⟩ = some (.pointer none) := by { rw [cell_of_row w1 _ 0 _ _ _ (HZ.out w1 hb1)]; rfl }; have zf : ∀ i, w1.frozen? ⟨w.heap.size + 1, i, none⟩ = false := by { intro i; simp [World.frozen?, HZ.out w1 hb1] }; clear hb1)
  obtain ⟨p1, p2⟩ := set1 (HZ.out w1 HB1.out) 0 (.pointer none)
  exact bodyPost_ret (v := .tuple #[.agg #[.pointer none], .int .i64 1]) (by simp [results, Try.results26, go_sem, z0]) rfl ⟨rfl, below_put (ext_trans HB0.out HB1.out) (by have := HB1.out.size; omega) p2 (by omega)⟩

set_option maxRecDepth 100000 in
set_option maxHeartbeats 2000000 in
theorem Replace_good (u : Option Addr) (xs : List It) (f t : Nat) (v : Value) (ys : List It) (w : World) (h : TT w (.agg #[.pointer u]) xs) (hv : RdR w v ys) (hft : f ≤ t) (htn : t ≤ xs.length) (hw : wt xs + wt ys ≤ 4611686018427387904) :
    Calls Try.prog 26 #[.agg #[.pointer u], .int .i64 f, .int .i64 t, v] w fun e w' => ∃ u', e = .returned (.tuple #[.agg #[.pointer u'], .int .i64 0]) ∧ TT w' (.agg #[.pointer u']) (xs.take f ++ ys ++ xs.drop t) ∧ Below w.heap.size w w' := by
  obtain ⟨w0, hw0⟩ : ∃ w0, w0 = (w.alloc (.cells #[.pointer u] 39)).alloc (.cells #[.pointer none] 39) := ⟨_, rfl⟩
  have hb0 : Below w.heap.size w w0 := by rw [hw0]; exact ext_alloc (ext_alloc (Below.refl _ _) _) _
  have hA : w0.heap[w.heap.size + 1]? = some (.cells #[.pointer none] 39 (0, 0)) := by
    have := heap_alloc_new (w.alloc (.cells #[.pointer u] 39)) (.cells #[.pointer none] 39)
    rw [World.size_alloc] at this
    rw [hw0]; exact this
  have hlt : w.heap.size + 1 < w0.heap.size := (Array.getElem?_eq_some_iff.1 hA).1
  have c0 : w0.cell? ⟨w.heap.size, 0, none⟩ = some (.pointer u) := by rw [hw0]; simp
  have K : Hid (Calls Try.prog 22 #[.agg #[.pointer u]] w0 fun e w'' => e = .returned (.int .i64 xs.length) ∧ Below w0.heap.size w0 w'') := Size_any u xs w0 (h.ext hb0)
  obtain ⟨u', tr, hu, ht, hl, hbal⟩ := h.ext hb0
  obtain rfl : u = u' := by simpa using hu
  have hwf := wt_sub xs f
  have hwt := wt_sub xs t
  have hsum : wt (xs.take f) + wt ys + wt (xs.drop t) ≤ 4611686018427387904 := by
    have e1 : wt (xs.take f) ≤ wt (xs.take t) := by
      have := (wt_sub (xs.take t) f).1
      rw [List.take_take, Nat.min_eq_left hft] at this
      exact this
    have e2 := wt_app (xs.take t) (xs.drop t)
    rw [List.take_append_drop] at e2
    omega
  have HD : Hid (∀ w', Below w0.heap.size w0 w' → Calls Try.prog 43 #[.pointer u, .int .i64 f] w' fun e w'' => ∃ a, e = .returned (.pointer a) ∧ Hid (∃ p, Tin w'' p a ∧ p.list = xs.take f ∧ p.Bal) ∧ Below w0.heap.size w0 w'') := fun w' hb => (head_any tr f u w' (ht.ext hb) (by rw [hl]; omega)).mono fun _ _ ⟨a, p, k1, k2, ⟨k3, k4⟩, k5⟩ => ⟨a, k1, ⟨p, k2, by rw [k3, hl]; rfl, k4 hbal⟩, ext_trans hb k5⟩
  have TL : Hid (∀ a w', Hid (∃ p, Tin w' p a ∧ p.list = xs.take f ∧ p.Bal) → Below w0.heap.size w0 w' → Calls Try.prog 44 #[.pointer u, .int .i64 t] w' fun e w'' => ∃ b, e = .returned (.pointer b) ∧ Hid ((∃ p, Tin w'' p a ∧ p.list = xs.take f ∧ p.Bal) ∧ ∃ p, Tin w'' p b ∧ p.list = xs.drop t ∧ p.Bal) ∧ Below w0.heap.size w0 w'') := fun a w' ha hb => (tail_any tr t u w' (ht.ext hb) (by rw [hl]; omega)).mono fun _ _ ⟨b, p, k1, k2, ⟨k3, k4⟩, k5⟩ => by
    obtain ⟨q, q1, q2⟩ := ha.out
    exact ⟨b, k1, ⟨⟨q, q1.ext k5, q2⟩, p, k2, by rw [k3, hl]; rfl, k4 hbal⟩, ext_trans hb k5⟩
  have BL : Hid (∀ a b w', Hid ((∃ p, Tin w' p a ∧ p.list = xs.take f ∧ p.Bal) ∧ ∃ p, Tin w' p b ∧ p.list = xs.drop t ∧ p.Bal) → Below w0.heap.size w0 w' → Calls Try.prog 40 #[v] w' fun e w'' => ∃ c, e = .returned (.pointer c) ∧ Hid ((∃ p, Tin w'' p a ∧ p.list = xs.take f ∧ p.Bal) ∧ (∃ p, Tin w'' p b ∧ p.list = xs.drop t ∧ p.Bal) ∧ ∃ p, Tin w'' p c ∧ p.list = ys ∧ p.Bal) ∧ Below w0.heap.size w0 w'') := fun a b w' hab hb => (build_any _ ys v w' (Nat.le_refl _) ((hv.ext hb0).ext hb) (by omega)).mono fun _ _ ⟨c, p, k1, k2, k3, k5⟩ => by
    obtain ⟨⟨q, q1, q2⟩, r, r1, r2⟩ := hab.out
    exact ⟨c, k1, ⟨⟨q, q1.ext k5, q2⟩, ⟨r, r1.ext k5, r2⟩, p, k2, k3.1, k3.2.1⟩, ext_trans hb k5⟩
  have C1 : Hid (∀ a b c w', Hid ((∃ p, Tin w' p a ∧ p.list = xs.take f ∧ p.Bal) ∧ (∃ p, Tin w' p b ∧ p.list = xs.drop t ∧ p.Bal) ∧ ∃ p, Tin w' p c ∧ p.list = ys ∧ p.Bal) → Below w0.heap.size w0 w' → Calls Try.prog 45 #[.pointer a, .pointer c] w' fun e w'' => ∃ d, e = .returned (.pointer d) ∧ Hid ((∃ p, Tin w'' p d ∧ p.list = xs.take f ++ ys ∧ p.Bal) ∧ ∃ p, Tin w'' p b ∧ p.list = xs.drop t ∧ p.Bal) ∧ Below w0.heap.size w0 w'') := fun a b c w' habc hb => by
    obtain ⟨⟨q, q1, q2, q3⟩, ⟨r, r1, r2⟩, p, p1, p2, p3⟩ := habc.out
    exact (concat_any q p a c w' q1 p1 (by rw [q2, p2, wt_app]; omega)).mono fun _ _ ⟨d, z, k1, k2, ⟨k3, k4⟩, k5⟩ => ⟨d, k1, ⟨⟨z, k2, by rw [k3, q2, p2], k4 q3 p3⟩, r, r1.ext k5, r2⟩, ext_trans hb k5⟩
  have C2 : Hid (∀ d b w', Hid ((∃ p, Tin w' p d ∧ p.list = xs.take f ++ ys ∧ p.Bal) ∧ ∃ p, Tin w' p b ∧ p.list = xs.drop t ∧ p.Bal) → Below w0.heap.size w0 w' → Calls Try.prog 45 #[.pointer d, .pointer b] w' fun e w'' => ∃ r, e = .returned (.pointer r) ∧ Hid (∃ p, Tin w'' p r ∧ p.list = xs.take f ++ ys ++ xs.drop t ∧ p.Bal) ∧ Below w0.heap.size w0 w'') := fun d b w' hdb hb => by
    obtain ⟨⟨q, q1, q2, q3⟩, p, p1, p2, p3⟩ := hdb.out
    exact (concat_any q p d b w' q1 p1 (by rw [q2, p2, wt_app, wt_app]; omega)).mono fun _ _ ⟨d, z, k1, k2, ⟨k3, k4⟩, k5⟩ => ⟨d, k1, ⟨z, k2, by rw [k3, q2, p2], k4 q3 p3⟩, ext_trans hb k5⟩
  have HZ : Hid (∀ w1, Below w0.heap.size w0 w1 → w1.heap[w.heap.size + 1]? = some (.cells #[.pointer none] 39 (0, 0))) := fun w1 hb1 => by rw [hb1.block _ hlt]; exact hA
  have HC : Hid (∀ w1, Below w0.heap.size w0 w1 → w1.cell? ⟨w.heap.size, 0, none⟩ = some (.pointer u)) := fun w1 hb1 => (hb1.cell (p := ⟨w.heap.size, 0, none⟩) (by simp only; omega)).trans c0
  have HB0 := hidIt hb0
  obtain ⟨ao, cap, rfl, _⟩ := hv
  have t1 : ¬ (f : Int) < 0 := by omega
  have t2 : ¬ (t : Int) < (f : Int) := by omega
  have t3 : ¬ (xs.length : Int) < (t : Int) := by omega
  have t1' : decide ((f : Int) < 0) = false := by simp
  have t2' : decide ((t : Int) < (f : Int)) = false := by simp; omega
  have t2n : ¬ t < f := by omega
  have t3n : ¬ xs.length < t := by omega
  clear hb0 hA h ht hl hbal hu hwf hwt hsum hw hft htn
  generalize xs.length = n at *
  go_enter Try.func26, Try.ntmps26
  go_wp2_with (rw [← hw0]; go_at_call 22; refine K.out.mono ?_; clear hw0; rintro e w1 ⟨rfl, hb1⟩; have HB1 := hidIt hb1; clear c0; have c0 := HC.out w1 hb1; clear hb1)
  go_region_held3 (fun w' => w'.cell? ⟨w.heap.size, 0, none⟩ = some (.pointer u)) (go_keep) (first
    | (go_at_call 43; refine (HD.out _ (by repeat (first | exact HB1.out | apply Below.drew))).mono ?_; rintro e w2 ⟨a, rfl, T1, hb2⟩; have HB2 := hidIt hb2; clear c0; have c0 := HC.out w2 hb2; clear hb2)
    | (go_at_call 44; refine (TL.out _ _ T1 (by repeat (first | exact HB2.out | apply Below.drew))).mono ?_; rintro e w3 ⟨b, rfl, T2, hb2⟩; have HB3 := hidIt hb2; clear c0; have c0 := HC.out w3 hb2; clear hb2))
  go_wp2_with (first
    | (go_at_call 40; refine (BL.out _ _ _ T2 HB3.out).mono ?_; rintro e w4 ⟨c, rfl, T3, hb2⟩; have HB4 := hidIt hb2; clear hb2)
    | (go_at_call 45; refine (C1.out _ _ _ _ T3 HB4.out).mono ?_; clear C1; rintro e w5 ⟨d, rfl, T4, hb2⟩; have HB5 := hidIt hb2; clear hb2)
    | (go_at_call 45; refine (C2.out _ _ _ T4 HB5.out).mono ?_; rintro e w6 ⟨r, rfl, T5, hb2⟩; have HB6 := hidIt hb2; have z0 : w6.cell? ⟨w.heap.size + 1, 0, none⟩ = some (.pointer none) := by { rw [cell_of_row w6 _ 0 _ _ _ (HZ.out w6 hb2)]; rfl }; have zf : ∀ i, w6.frozen? ⟨w.heap.size + 1, i, none⟩ = false := by { intro i; simp [World.frozen?, HZ.out w6 hb2] }; clear hb2))
  obtain ⟨p1, p2⟩ := set1 (HZ.out w6 HB6.out) 0 (.pointer r)
  obtain ⟨p, k1, k2, k3⟩ := T5.out
  exact bodyPost_ret (v := .tuple #[.agg #[.pointer r], .int .i64 0]) (by simp [results, Try.results26, go_sem, z0]) rfl ⟨r, rfl, ⟨r, p, rfl, k1.put (HZ.out w6 HB6.out) (by decide) p2, k2, k3⟩, below_put (ext_trans HB0.out HB6.out) (by have := HB6.out.size; omega) p2 (by omega)⟩
end Go.Proofs.Ytcdamhgblolofaa
