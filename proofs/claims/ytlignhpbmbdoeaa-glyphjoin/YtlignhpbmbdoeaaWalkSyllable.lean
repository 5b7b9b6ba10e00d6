/- GlyphSyllable: the walk. -/
import Derived.Test.YtlignhpbmbdoeaaCls2
namespace Go.Proofs.Ytlignhpbmbdoeaa
open Go.RowKit

theorem Gx.find_in (T : List Gx.Row) (h : Gx.okT T = true) (r : Gx.Row) (hr : r ∈ T) (a : Int) (h1 : (r.1 : Int) ≤ a) (h2 : a ≤ (r.2.1 : Int)) : Gx.find T a = some r := by
  induction T with
  | nil => simp at hr
  | cons s T ih =>
    rcases List.mem_cons.1 hr with rfl | hr
    · simp [Gx.find, h1, h2]
    · have := (Gx.okT_head h).2.2.2 r hr
      have hn : ¬ a ≤ (s.2.1 : Int) := by omega
      have ih' := ih (Gx.okT_tail h) hr
      simp only [Gx.find, List.find?_cons] at ih' ⊢
      simpa [hn] using ih'

theorem Gx.cls_row (r : Gx.Row) (hr : (Gx.classRows.contains r) = true) (a : Int) (h1 : (r.1 : Int) ≤ a) (h2 : a ≤ (r.2.1 : Int)) (h3 : 126 < a) (h4 : a < 44032) (h5 : a ≠ 8205) : Gx.cls a = r.2.2 := by
  have hm : r ∈ Gx.classRows := by simpa using hr
  have hs : Gx.isSc a = true := by simp [Gx.isSc, Gx.isLn]; omega
  unfold Gx.cls
  rw [if_neg (by omega), if_neg (by simp [hs]), if_neg (by omega), if_neg (by omega), if_neg h5, if_neg (by omega), Gx.find_in _ Gx.ok_class r hm a h1 h2]
  rfl

theorem Gx.cls_hangul (a : Int) (h1 : 44032 ≤ a) (h2 : a ≤ 55203) : Gx.cls a = if (a - 44032) % 28 = 0 then 12 else 13 := by
  have hs : Gx.isSc a = true := by simp [Gx.isSc, Gx.isLn]; omega
  unfold Gx.cls
  rw [if_neg (by omega), if_neg (by simp [hs]), if_neg (by omega), if_neg (by omega), if_neg (by omega), if_pos ⟨h1, h2⟩]

theorem class_is (a v : Int) (h : Gx.cls a = v) (w : World) : Calls Try.prog 6 #[.int .i64 a] w fun e w' => e = .returned (.int .i64 v) ∧ Below w.heap.size w w' := by
  rw [← h]; exact Class_any a w

set_option maxRecDepth 100000 in
theorem Gx.cls_ends : Gx.cls 44032 = 12 ∧ Gx.cls 55203 = 13 ∧ Gx.cls 55204 = 0 := by
  refine ⟨by rw [Gx.cls_hangul _ (by omega) (by omega)]; rfl, by rw [Gx.cls_hangul _ (by omega) (by omega)]; rfl, by decide +kernel⟩

set_option maxRecDepth 100000 in
theorem law_syllable (k : Int) (w : World) : Calls Try.prog 3 #[.int .i64 k] w fun e w' => e = .returned (.bool true) ∧ Below w.heap.size w w' := by
  have C1 : Hid (∀ w, Calls Try.prog 6 #[.int .i64 44032] w fun e w' => e = .returned (.int .i64 12) ∧ Below w.heap.size w w') := class_is _ _ Gx.cls_ends.1
  have C2 : Hid (∀ w, Calls Try.prog 6 #[.int .i64 55203] w fun e w' => e = .returned (.int .i64 13) ∧ Below w.heap.size w w') := class_is _ _ Gx.cls_ends.2.1
  have C3 : Hid (∀ w, Calls Try.prog 6 #[.int .i64 55204] w fun e w' => e = .returned (.int .i64 0) ∧ Below w.heap.size w w') := class_is _ _ Gx.cls_ends.2.2
  by_cases hk : 0 ≤ k ∧ k < 11172
  · obtain ⟨k0, k1⟩ := hk
    have q1 : 0 ≤ k / 588 ∧ k / 588 ≤ 18 := by omega
    have q2 : 0 ≤ k % 588 / 28 ∧ k % 588 / 28 ≤ 20 := by omega
    have q3 : 0 ≤ k % 28 ∧ k % 28 ≤ 27 := by omega
    have C4 : Hid (∀ w, Calls Try.prog 6 #[.int .i64 (4352 + k / 588)] w fun e w' => e = .returned (.int .i64 9) ∧ Below w.heap.size w w') := class_is _ _ (Gx.cls_row (4352, 4447, 9) (by decide +kernel) _ (by simp; omega) (by simp; omega) (by omega) (by omega) (by omega))
    have C5 : Hid (∀ w, Calls Try.prog 6 #[.int .i64 (4449 + k % 588 / 28)] w fun e w' => e = .returned (.int .i64 10) ∧ Below w.heap.size w w') := class_is _ _ (Gx.cls_row (4448, 4519, 10) (by decide +kernel) _ (by simp; omega) (by simp; omega) (by omega) (by omega) (by omega))
    go_enter Try.func3, Try.ntmps3
    go_wp2_with fail
    refine (C1.out _).mono ?_
    rintro e w1 ⟨rfl, hb1⟩
    go_wp2_with fail
    refine (C2.out _).mono ?_
    rintro e w2 ⟨rfl, hb2⟩
    go_wp2_with fail
    refine (C3.out _).mono ?_
    rintro e w3 ⟨rfl, hb3⟩
    have HW3 : Hid (Below w.heap.size w w3) := ext_trans hb1 (ext_trans hb2 hb3)
    clear hb1 hb2 hb3
    go_wp2_with fail
    refine (C4.out _).mono ?_
    rintro e w4 ⟨rfl, hb4⟩
    go_wp2_with fail
    refine (C5.out _).mono ?_
    rintro e w5 ⟨rfl, hb5⟩
    have HW5 : Hid (Below w.heap.size w w5) := ext_trans HW3.out (ext_trans hb4 hb5)
    clear hb4 hb5
    by_cases ht : k % 28 = 0
    · have bt : (k % 28 == 0) = true := by simp [ht]
      have C6 : Hid (∀ w, Calls Try.prog 6 #[.int .i64 (44032 + k)] w fun e w' => e = .returned (.int .i64 12) ∧ Below w.heap.size w w') := class_is _ _ (by rw [Gx.cls_hangul _ (by omega) (by omega), if_pos (by omega)])
      go_wp2_with fail
      refine (C6.out _).mono ?_
      rintro e w6 ⟨rfl, hb6⟩
      go_wp2_with fail
      go_ret
      exact ⟨rfl, ext_trans HW5.out hb6⟩
    · have bt : (k % 28 == 0) = false := by simp [ht]
      have C6 : Hid (∀ w, Calls Try.prog 6 #[.int .i64 (44032 + k)] w fun e w' => e = .returned (.int .i64 13) ∧ Below w.heap.size w w') := class_is _ _ (by rw [Gx.cls_hangul _ (by omega) (by omega), if_neg (by omega)])
      have C7 : Hid (∀ w, Calls Try.prog 6 #[.int .i64 (4519 + k % 28)] w fun e w' => e = .returned (.int .i64 11) ∧ Below w.heap.size w w') := class_is _ _ (Gx.cls_row (4520, 4607, 11) (by decide +kernel) _ (by simp; omega) (by simp; omega) (by omega) (by omega) (by omega))
      go_wp2_with fail
      refine (C6.out _).mono ?_
      rintro e w6 ⟨rfl, hb6⟩
      go_wp2_with fail
      refine (C7.out _).mono ?_
      rintro e w7 ⟨rfl, hb7⟩
      go_wp2_with fail
      go_ret
      exact ⟨rfl, ext_trans HW5.out (ext_trans hb6 hb7)⟩
  · have hk' : k < 0 ∨ 11172 ≤ k := by omega
    clear hk
    rcases hk' with hk | hk
    all_goals
      go_enter Try.func3, Try.ntmps3
      go_wp2_with fail
      refine (C1.out _).mono ?_
      rintro e w1 ⟨rfl, hb1⟩
      go_wp2_with fail
      refine (C2.out _).mono ?_
      rintro e w2 ⟨rfl, hb2⟩
      go_wp2_with fail
      refine (C3.out _).mono ?_
      rintro e w3 ⟨rfl, hb3⟩
      have HW3 : Hid (Below w.heap.size w w3) := ext_trans hb1 (ext_trans hb2 hb3)
      clear hb1 hb2 hb3
      go_wp2_with fail
      go_ret
      exact ⟨rfl, HW3.out⟩
end Go.Proofs.Ytlignhpbmbdoeaa
