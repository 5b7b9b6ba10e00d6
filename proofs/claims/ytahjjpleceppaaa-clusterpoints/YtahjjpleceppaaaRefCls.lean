/- The document's Class, Conjunct, Word, Width. -/
import Derived.Test.YtahjjpleceppaaaRefEq
namespace Go.Proofs.Ytahjjpleceppaaa
open Go.RowKit

theorem Gx.full_class (a : Int) (h1 : a ≠ 10) (h2 : a ≠ 13) (h3 : a ≠ 8205) : Gx.find Gx.classRows a = Gx.find Gx.fullRows a := by
  cases hf : Gx.find Gx.fullRows a with
  | some r =>
    obtain ⟨hm, l, u⟩ := Gx.find_mem hf
    have := Gx.all_find (p := fun r => Gx.classRows.contains r || r == (10, 10, 2) || r == (13, 13, 1) || r == (8205, 8205, 5)) (by decide +kernel) hf
    simp at this
    rcases this with ((h | h) | h) | h
    · exact Gx.find_in _ Gx.ok_class r h a l u
    · subst h; simp at l u; omega
    · subst h; simp at l u; omega
    · subst h; simp at l u; omega
  | none =>
    cases hc : Gx.find Gx.classRows a with
    | none => rfl
    | some r =>
      obtain ⟨hm, l, u⟩ := Gx.find_mem hc
      have := Gx.all_find (p := fun r => Gx.fullRows.contains r) (by decide +kernel) hc
      simp at this
      rw [Gx.find_in _ Gx.ok_full r this a l u] at hf
      cases hf

/-- The class by the whole table, outside of the syllables. -/
theorem Gx.cls_fullR (a : Int) (hs : Gx.isSc a = true) (hh : ¬ (44032 ≤ a ∧ a ≤ 55203)) : Gx.cls a = Gx.vD (Gx.find Gx.fullRows a) 0 := by
  unfold Gx.cls
  by_cases hp : 32 ≤ a ∧ a ≤ 126
  · rw [if_pos hp]
    cases hf : Gx.find Gx.fullRows a with
    | none => rfl
    | some r =>
      obtain ⟨hm, l, u⟩ := Gx.find_mem hf
      have := Gx.all_find (p := fun r => decide (r.2.1 < 32) || decide (126 < r.1)) (by decide +kernel) hf
      simp at this
      omega
  rw [if_neg hp, if_neg (by simp [hs])]
  by_cases h13 : a = 13
  · subst h13; decide +kernel
  by_cases h10 : a = 10
  · subst h10; decide +kernel
  by_cases hj : a = 8205
  · subst hj; decide +kernel
  rw [if_neg h13, if_neg h10, if_neg hj, if_neg hh, Gx.full_class a h10 h13 hj]

theorem rScalar_any (a : Int) (w : World) : Calls Try.prog 65 #[.int .i64 a] w fun e w' => e = .returned (.bool (Gx.isSc a)) ∧ w' = w := by
  rcases (show a < 0 ∨ (0 ≤ a ∧ a < 55296) ∨ (55296 ≤ a ∧ a ≤ 57343) ∨ (57344 ≤ a ∧ a ≤ 1114111) ∨ 1114111 < a from by omega) with h | ⟨h, h'⟩ | ⟨h, h'⟩ | ⟨h, h'⟩ | h
  all_goals
    go_enter Try.func65, Try.ntmps65
    go_wp2
    all_goals
      go_ret
      refine ⟨ret_bool ?_, rfl⟩
      first | (simp [Gx.isSc, Gx.isLn]; done) | (rw [Bool.eq_iff_iff]; simp [Gx.isSc, Gx.isLn]; omega)

set_option maxRecDepth 100000 in
theorem rClass_any (a : Int) (w : World) : Calls Try.prog 49 #[.int .i64 a] w fun e w' => e = .returned (.int .i64 (Gx.cls a)) ∧ w' = w := by
  by_cases hs : Gx.isSc a = false
  · have HQ : Hid (Gx.cls a = 3) := by
      unfold Hid Gx.cls
      rw [if_neg, if_pos hs]
      intro ⟨h1, h2⟩
      simp [Gx.isSc, Gx.isLn] at hs
      omega
    go_enter Try.func49, Try.ntmps49
    go_wp2_with (go_at_call 65; refine (rScalar_any _ _).mono ?_; rintro e w' ⟨rfl, rfl⟩; rw [hs])
    go_ret
    exact ⟨ret_int HQ.out.symm, rfl⟩
  have hs' : Gx.isSc a = true := by simpa using hs
  have hb : 0 ≤ a ∧ a ≤ 1114111 := by simp [Gx.isSc] at hs'; omega
  obtain ⟨b0, b1⟩ := hb
  by_cases hh : 44032 ≤ a ∧ a ≤ 55203
  · have HQ : Hid (Gx.cls a = if (a - 44032) % 28 = 0 then 12 else 13) := by
      unfold Hid Gx.cls
      rw [if_neg (by omega), if_neg (by simp [hs']), if_neg (by omega), if_neg (by omega), if_neg (by omega), if_pos hh]
    obtain ⟨hh1, hh2⟩ := hh
    by_cases hm : (a - 44032) % 28 = 0
    · have bm : ((a - 44032) % 28 == 0) = true := by simp [hm]
      go_enter Try.func49, Try.ntmps49
      go_wp2_with (go_at_call 65; refine (rScalar_any _ _).mono ?_; rintro e w' ⟨rfl, rfl⟩; rw [hs'])
      go_ret
      exact ⟨ret_int (by rw [HQ.out, if_pos (by assumption)]), rfl⟩
    · have bm : ((a - 44032) % 28 == 0) = false := by simp [hm]
      go_enter Try.func49, Try.ntmps49
      go_wp2_with (go_at_call 65; refine (rScalar_any _ _).mono ?_; rintro e w' ⟨rfl, rfl⟩; rw [hs'])
      go_ret
      exact ⟨ret_int (by rw [HQ.out, if_neg (by assumption)]), rfl⟩
  have HQ : Hid (Gx.cls a = Gx.vD (Gx.find Gx.fullRows a) 0) := Gx.cls_fullR a hs' hh
  have C1 : Hid (a < 3076 → ∀ w, Calls Try.prog 66 #[.int .i64 a] w fun e w' => e = .returned (.int .i64 (Gx.vD (Gx.find Gx.fullRows a) 0)) ∧ w' = w) := by
    intro h w
    rw [← Gx.class1_eq a (by omega) h]
    exact r_class1 a w
  have C2 : Hid (3076 ≤ a → a < 8505 → ∀ w, Calls Try.prog 67 #[.int .i64 a] w fun e w' => e = .returned (.int .i64 (Gx.vD (Gx.find Gx.fullRows a) 0)) ∧ w' = w) := by
    intro h h' w
    rw [← Gx.class2_eq a h h']
    exact r_class2 a w
  have C3 : Hid (8505 ≤ a → ∀ w, Calls Try.prog 68 #[.int .i64 a] w fun e w' => e = .returned (.int .i64 (Gx.vD (Gx.find Gx.fullRows a) 0)) ∧ w' = w) := by
    intro h w
    rw [← Gx.class3_eq a h (by omega)]
    exact r_class3 a w
  generalize Gx.vD (Gx.find Gx.fullRows a) 0 = x at *
  rcases (show a < 3076 ∨ (3076 ≤ a ∧ a < 8505) ∨ (8505 ≤ a ∧ a < 44032) ∨ 55203 < a from by omega) with h | ⟨h, h'⟩ | ⟨h, h'⟩ | h
  all_goals
    clear hs hh
    go_enter Try.func49, Try.ntmps49
    go_wp2_with (first | (go_at_call 65; refine (rScalar_any _ _).mono ?_; rintro e w' ⟨rfl, rfl⟩; rw [hs']) | (go_at_call 66; refine (C1.out ?_ _).mono ?_; (first | assumption | omega); rintro e w' ⟨rfl, rfl⟩) | (go_at_call 67; refine (C2.out ?_ ?_ _).mono ?_; (first | assumption | omega); (first | assumption | omega); rintro e w' ⟨rfl, rfl⟩) | (go_at_call 68; refine (C3.out ?_ _).mono ?_; (first | assumption | omega); rintro e w' ⟨rfl, rfl⟩))
    go_ret
    exact ⟨ret_int HQ.out.symm, rfl⟩
end Go.Proofs.Ytahjjpleceppaaa
