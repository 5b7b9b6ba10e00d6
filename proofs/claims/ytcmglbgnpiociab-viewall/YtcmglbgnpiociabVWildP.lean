/- Shares as they are taken, held against each other. No Go in sight. -/
import Derived.Test.YtcmglbgnpiociabVShr
namespace Go.Proofs.Ytcmglbgnpiociab
open Ieee

/-- What words there are. -/
theorem Fl.kinds (x : Nat) (hx : x < 18446744073709551616) : x < 9218868437227405312 ∨ x = 9218868437227405312 ∨ (∃ s f, double.read x = .nan s f) ∨ (∃ m i, double.read x = .number true m i) ∨ double.read x = .infinity true := by
  rcases Nat.lt_or_ge x 9218868437227405312 with h | h
  · exact .inl h
  by_cases hi : x = 9218868437227405312
  · exact .inr (.inl hi)
  right; right
  unfold Format.read
  simp only [Fl.sw, Fl.bi, Fl.ir, Fl.lp]
  by_cases hn : x / 9223372036854775808 % 2 = 1
  · have hb : (x / 9223372036854775808 % 2 == 1) = true := by rw [hn]; rfl
    rw [hb]
    split
    · exact .inr (.inl ⟨_, _, rfl⟩)
    · split
      · exact .inr (.inl ⟨_, _, rfl⟩)
      · split
        · exact .inr (.inr rfl)
        · exact .inl ⟨_, _, rfl⟩
  · have hx' : x % 9223372036854775808 = x := by omega
    rw [hx', if_neg (by omega), if_neg (by omega), if_neg hi]
    exact .inl ⟨_, _, rfl⟩
theorem Fl.read_inf : double.read 9218868437227405312 = .infinity false := by decide
theorem Vw.tk_fin (x : Nat) (h : x < 9218868437227405312) : Vw.tk x = min x 4607182418800017408 := by
  unfold Vw.tk
  rw [Fl.order_ok x 0 h (by decide), Fl.order_ok x _ h (by decide)]
  simp only [Option.some.injEq]
  by_cases h0 : compare (Fl.U x) (Fl.U 0) = .gt
  · rw [if_pos h0]
    by_cases h1 : compare (Fl.U x) (Fl.U 4607182418800017408) = .lt
    · rw [if_pos h1]
      have := Fl.lt_of_U (Nat.compare_eq_lt.1 h1)
      omega
    · rw [if_neg h1]
      rcases Nat.lt_or_ge x 4607182418800017408 with h2 | h2
      · exact absurd (Nat.compare_eq_lt.2 (Fl.U_lt h2)) h1
      · omega
  · rw [if_neg h0]
    rcases Nat.eq_zero_or_pos x with h2 | h2
    · omega
    · exact absurd (Nat.compare_eq_gt.2 (Fl.U_lt h2)) h0
theorem Vw.tk_inf : Vw.tk 9218868437227405312 = 4607182418800017408 := by
  obtain ⟨m1, i1, e1, _⟩ := Fl.read_pos 4607182418800017408 (by decide)
  obtain ⟨m0, i0, e0, _⟩ := Fl.read_pos 0 (by decide)
  unfold Vw.tk Format.order
  rw [Fl.read_inf, e0, e1]
  rfl
theorem Vw.tk_not (x : Nat) (h : double.order x 0 ≠ some .gt) : Vw.tk x = 0 := by unfold Vw.tk; rw [if_neg h]
/-- What is held against a negative number is never below it, but zeros are alike. -/
theorem Fl.neg_order (x y : Nat) (hx : x < 9218868437227405312) (hy : (∃ m i, double.read y = .number true m i) ∨ double.read y = .infinity true) (h : double.order x y = some .lt ∨ double.order x y = some .eq) : x = 0 := by
  obtain ⟨m, i, e, _, _, u, _⟩ := Fl.read_pos x hx
  unfold Format.order at h
  rw [e] at h
  rcases hy with ⟨n, j, hy⟩ | hy
  · rw [hy] at h
    unfold Datum.order signed at h
    simp only [Option.some.injEq, if_true, Bool.false_eq_true, if_false, Nat.shiftLeft_eq] at h
    have hz : m * 2 ^ (i - min i j).toNat = 0 := by
      generalize m * 2 ^ (i - min i j).toNat = a at *
      generalize n * 2 ^ (j - min i j).toNat = b at *
      rcases h with h | h
      · have := Int.compare_eq_lt.1 h; omega
      · have := Int.compare_eq_eq.1 h; omega
    have hm : m = 0 := by
      rcases Nat.eq_zero_or_pos m with h1 | h1
      · exact h1
      · have := Nat.mul_pos h1 (Nat.two_pow_pos (i - min i j).toNat); omega
    rw [hm, Nat.zero_mul] at u
    exact Fl.eq_of_U (by rw [← u, Fl.U_zero])
  · rw [hy] at h
    unfold Datum.order at h
    simp at h
theorem Fl.neg_zero (x : Nat) (hy : (∃ m i, double.read x = .number true m i) ∨ double.read x = .infinity true) : double.order x 0 ≠ some .gt := by
  obtain ⟨m0, i0, e0, _, _, u0, _⟩ := Fl.read_pos 0 (by decide)
  rw [Fl.U_zero] at u0
  have z0 : m0 = 0 := by
    rcases Nat.eq_zero_or_pos m0 with h | h
    · exact h
    · have := Nat.mul_pos h (Nat.two_pow_pos (i0 + 1074).toNat); omega
  subst z0
  intro h
  unfold Format.order at h
  rw [e0] at h
  rcases hy with ⟨n, j, hy⟩ | hy
  · rw [hy] at h
    unfold Datum.order signed at h
    simp only [Option.some.injEq, if_true, Bool.false_eq_true, if_false, Nat.zero_shiftLeft] at h
    exact absurd (Int.compare_eq_gt.1 h) (Int.not_lt.2 (Int.neg_nonpos_of_nonneg (Int.natCast_nonneg _)))
  · rw [hy] at h
    unfold Datum.order at h
    simp at h
theorem Fl.nan_order {x : Nat} (h : ∃ s f, double.read x = .nan s f) (y : Nat) : double.order x y = none ∧ double.order y x = none := by
  obtain ⟨s, f, h⟩ := h
  unfold Format.order
  rw [h]
  constructor
  · rfl
  · cases double.read y <;> rfl
theorem Vw.tk_mono (x y : Nat) (hx : x < 18446744073709551616) (hy : y < 18446744073709551616) (h : Fl.leB x y = true) : Vw.tk x ≤ Vw.tk y := by
  have h' : double.order x y = some .lt ∨ double.order x y = some .eq := by
    unfold Fl.leB at h
    rw [Bool.or_eq_true, beq_iff_eq, beq_iff_eq] at h
    exact h
  rcases Fl.kinds x hx with k | k | k | k | k
  · rcases Fl.kinds y hy with l | l | l | l | l
    · rw [Vw.tk_fin x k, Vw.tk_fin y l]
      have : x ≤ y := by
        rw [Fl.order_ok x y k l, Option.some.injEq, Option.some.injEq] at h'
        refine Fl.le_of_U ?_
        rcases h' with h1 | h1
        · exact Nat.le_of_lt (Nat.compare_eq_lt.1 h1)
        · exact Nat.le_of_eq (Nat.compare_eq_eq.1 h1)
      omega
    · subst l
      rw [Vw.tk_inf]
      exact Vw.tk_le x hx
    · rw [(Fl.nan_order l x).2] at h'
      simp at h'
    · have := Fl.neg_order x y k (.inl l) h'
      subst this
      rw [Vw.tk_fin 0 (by decide)]
      omega
    · have := Fl.neg_order x y k (.inr l) h'
      subst this
      rw [Vw.tk_fin 0 (by decide)]
      omega
  · subst k
    rcases Fl.kinds y hy with l | l | l | l | l
    · exfalso
      obtain ⟨m, i, e, _⟩ := Fl.read_pos y l
      unfold Format.order at h'
      rw [Fl.read_inf, e] at h'
      unfold Datum.order at h'
      simp at h'
    · subst l
      exact Nat.le_refl _
    · rw [(Fl.nan_order l _).2] at h'
      simp at h'
    · exfalso
      obtain ⟨m, i, e⟩ := l
      unfold Format.order at h'
      rw [Fl.read_inf, e] at h'
      unfold Datum.order at h'
      simp at h'
    · exfalso
      unfold Format.order at h'
      rw [Fl.read_inf, l] at h'
      unfold Datum.order at h'
      exact absurd h' (by decide)
  · rw [(Fl.nan_order k y).1] at h'
    simp at h'
  · rw [Vw.tk_not x (Fl.neg_zero x (.inl k))]
    exact Nat.zero_le _
  · rw [Vw.tk_not x (Fl.neg_zero x (.inr k))]
    exact Nat.zero_le _
theorem Vw.tk_ge (x : Nat) (hx : x < 18446744073709551616) (h : Fl.geB x 4607182418800017408 = true) : Vw.tk x = 4607182418800017408 := by
  have h' : double.order x 4607182418800017408 = some .gt ∨ double.order x 4607182418800017408 = some .eq := by
    unfold Fl.geB at h
    rw [Bool.or_eq_true, beq_iff_eq, beq_iff_eq] at h
    exact h
  obtain ⟨m1, i1, e1, _, _, u1, _⟩ := Fl.read_pos 4607182418800017408 (by decide)
  rcases Fl.kinds x hx with k | k | k | k | k
  · rw [Vw.tk_fin x k]
    rw [Fl.order_ok x _ k (by decide), Option.some.injEq, Option.some.injEq] at h'
    have : 4607182418800017408 ≤ x := by
      refine Fl.le_of_U ?_
      rcases h' with h1 | h1
      · exact Nat.le_of_lt (Nat.compare_eq_gt.1 h1)
      · exact Nat.le_of_eq (Nat.compare_eq_eq.1 h1).symm
    omega
  · subst k; exact Vw.tk_inf
  · rw [(Fl.nan_order k _).1] at h'
    simp at h'
  · exfalso
    obtain ⟨m, i, e⟩ := k
    unfold Format.order at h'
    rw [e, e1] at h'
    unfold Datum.order signed at h'
    simp only [Option.some.injEq, if_true, Bool.false_eq_true, if_false, Nat.shiftLeft_eq] at h'
    have hp : 0 < m1 * 2 ^ (i1 - min i i1).toNat := by
      refine Nat.mul_pos ?_ (Nat.two_pow_pos _)
      rcases Nat.eq_zero_or_pos m1 with h1 | h1
      · rw [h1, Nat.zero_mul] at u1
        have := Fl.U_lt (a := 0) (b := 4607182418800017408) (by decide)
        omega
      · exact h1
    generalize m1 * 2 ^ (i1 - min i i1).toNat = a at *
    generalize m * 2 ^ (i - min i i1).toNat = b at *
    rcases h' with h1 | h1
    · have := Int.compare_eq_gt.1 h1; omega
    · have := Int.compare_eq_eq.1 h1; omega
  · exfalso
    unfold Format.order at h'
    rw [k, e1] at h'
    unfold Datum.order at h'
    simp at h'
theorem Vw.tk_le0 (x : Nat) (h : Fl.leB x 0 = true) : Vw.tk x = 0 := by
  refine Vw.tk_not x fun h1 => ?_
  unfold Fl.leB at h
  rw [h1] at h
  exact absurd h (by decide)
theorem Vw.tk_nan (x : Nat) (h : Fl.eqB x x = false) : Vw.tk x = 0 := by
  rcases Fl.tri x with ⟨_, h2, _⟩ | ⟨h1, _⟩
  · exact Vw.tk_not x (by rw [h2]; simp)
  · unfold Fl.eqB at h
    rw [h1] at h
    exact absurd h (by decide)

theorem Vw.part_one (x h : Nat) (hh : h < 1099511627777) (h0 : 0 < h) (ht : Vw.tk x = 4607182418800017408) : Vw.part x h = h := by
  obtain ⟨uB, lB⟩ := Fl.U_n h (by omega)
  have hp : Fl.ofN h ≤ Vw.pr 4607182418800017408 h := Vw.le_pr _ h _ (Nat.le_refl _) hh lB (by rw [uB, Fl.U_one, Nat.mul_comm]; exact Nat.le_refl _)
  have h1 := Vw.fl_mono _ _ hp
  have h2 := Vw.part_in 4607182418800017408 h (Nat.le_refl _) hh
  have e : Vw.fl (Fl.ofN h) = h := by unfold Vw.fl; rw [uB, Nat.mul_div_cancel _ Fl.P_pos]
  unfold Vw.part
  rw [ht]
  omega
theorem Vw.part_zero (x h : Nat) (hh : h < 1099511627777) (ht : Vw.tk x = 0) : Vw.part x h = 1 := by
  have hp : Vw.pr 0 h = 0 := Nat.le_antisymm (Vw.pr_le 0 h 0 (by decide) hh (by rw [Fl.U_zero, Nat.zero_mul]; exact Nat.le_refl _)) (Nat.zero_le _)
  unfold Vw.part
  rw [ht, hp]
  have : Vw.fl 0 = 0 := by unfold Vw.fl; rw [Fl.U_zero, Nat.zero_div]
  omega
theorem Vw.part_mono (x y h : Nat) (hy : y < 18446744073709551616) (hh : h < 1099511627777) (ht : Vw.tk x ≤ Vw.tk y) : Vw.part x h ≤ Vw.part y h := by
  have := Vw.fl_mono _ _ (Vw.pr_mono _ _ h ht (Vw.tk_le y hy) hh)
  unfold Vw.part
  omega
theorem Vw.part_half (h : Nat) (hh : h < 1099511627777) : Vw.part 4602678819172646912 h = max (h / 2) 1 := by
  obtain ⟨ug, lg⟩ := Fl.U_h h (by omega)
  have ht : Vw.tk 4602678819172646912 = 4602678819172646912 := by rw [Vw.tk_fin _ (by decide)]; decide
  have e : Vw.pr 4602678819172646912 h = Fl.grid h 1 := by
    refine Nat.le_antisymm (Vw.pr_le _ h _ (by decide) hh ?_) (Vw.le_pr _ h _ (by decide) hh lg ?_)
    · rw [Fl.U_half, ug, Nat.mul_comm]; exact Nat.le_refl _
    · rw [Fl.U_half, ug, Nat.mul_comm]; exact Nat.le_refl _
  have hP := Fl.P_pos
  have h2 := Fl.two
  have f : Vw.fl (Fl.grid h 1) = h / 2 := by
    unfold Vw.fl
    rw [ug, ← Fl.two, Nat.mul_div_mul_right _ _ (by omega)]
  unfold Vw.part
  rw [ht, e, f]
end Go.Proofs.Ytcmglbgnpiociab
