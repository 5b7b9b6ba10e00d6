/- Shares as they are taken; where a window is dragged to; a part of it. No Go in sight. -/
import Derived.Test.YtcmglbgnpiociabVFl2
namespace Go.Proofs.Ytcmglbgnpiociab
open Ieee

/-- One, and a half, in units. -/
def Fl.P : Nat := 2 ^ 1074
def Fl.H : Nat := 2 ^ (1074 - 1)
theorem Fl.hP (c : Nat) (hc : c = 1074) : Fl.P = 2 ^ c := by rw [hc, Fl.P]
theorem Fl.hH (c : Nat) (hc : c = 1074) : Fl.H = 2 ^ (c - 1) := by rw [hc, Fl.H]
theorem Fl.two : 2 * Fl.H = Fl.P := by
  obtain ⟨d, hd⟩ : ∃ d, d = 1073 := ⟨_, rfl⟩
  rw [Fl.hP (d + 1) (by rw [hd]), Fl.hH (d + 1) (by rw [hd]), Nat.pow_succ, Nat.mul_comm]
  rfl
theorem Fl.P_pos : 0 < Fl.P := by
  obtain ⟨c, hc⟩ : ∃ c, c = 1074 := ⟨_, rfl⟩
  rw [Fl.hP c hc]; exact Nat.two_pow_pos c
theorem Fl.U_n (n : Nat) (h : n < 9007199254740992) : Fl.U (Fl.ofN n) = n * Fl.P ∧ Fl.ofN n < 9218868437227405312 := by
  obtain ⟨c, hc⟩ : ∃ c, c = 1074 := ⟨_, rfl⟩
  rw [Fl.hP c hc]; exact Fl.U_ofN n h c hc
theorem Fl.U_h (k : Nat) (h : k < 9007199254740992) : Fl.U (Fl.grid k 1) = k * Fl.H ∧ Fl.grid k 1 < 9218868437227405312 := by
  obtain ⟨c, hc⟩ : ∃ c, c = 1074 := ⟨_, rfl⟩
  rw [Fl.hH c hc]; exact Fl.U_grid k 1 h (by omega) c hc
theorem Fl.mul_P (x y : Nat) (hx : x < 9218868437227405312) (hy : y < 9218868437227405312) : ∃ (c m : Nat) (p : Int), Fl.P = 2 ^ c ∧ double.mul x y = some (double.nearest false m p) ∧ 0 ≤ p + 1074 + (c : Int) ∧ m * 2 ^ (p + 1074 + (c : Int)).toNat = Fl.U x * Fl.U y := by
  obtain ⟨c, hc⟩ : ∃ c, c = 1074 := ⟨_, rfl⟩
  obtain ⟨m, p, h⟩ := Fl.mul_ok x y hx hy c hc
  exact ⟨c, m, p, Fl.hP c hc, h⟩
theorem Fl.one_eq : 4607182418800017408 = Fl.ofN 1 := by decide +kernel
theorem Fl.half_eq : 4602678819172646912 = Fl.grid 1 1 := by decide +kernel
theorem Fl.U_one : Fl.U 4607182418800017408 = Fl.P := by rw [Fl.one_eq, (Fl.U_n 1 (by omega)).1, Nat.one_mul]
theorem Fl.U_half : Fl.U 4602678819172646912 = Fl.H := by rw [Fl.half_eq, (Fl.U_h 1 (by omega)).1, Nat.one_mul]
theorem Fl.U_zero : Fl.U 0 = 0 := by unfold Fl.U; rw [if_pos (by decide)]

/-- A share as it is taken. -/
def Vw.tk (x : Nat) : Nat := if double.order x 0 = some .gt then (if double.order x 4607182418800017408 = some .lt then x else 4607182418800017408) else 0

/-- A word that is above 0 and below 1 is what it is. -/
theorem Fl.mid (x : Nat) (hx : x < 18446744073709551616) (h0 : double.order x 0 = some .gt) (h1 : double.order x 4607182418800017408 = some .lt) : 0 < x ∧ x < 4607182418800017408 := by
  rcases Nat.lt_or_ge x 9218868437227405312 with h | h
  · rw [Fl.order_ok x 0 h (by decide), Option.some.injEq] at h0
    rw [Fl.order_ok x _ h (by decide), Option.some.injEq] at h1
    exact ⟨Fl.lt_of_U (Nat.compare_eq_gt.1 h0), Fl.lt_of_U (Nat.compare_eq_lt.1 h1)⟩
  · exfalso
    obtain ⟨m1, i1, e1, _⟩ := Fl.read_pos 4607182418800017408 (by decide)
    obtain ⟨m0, i0, e0, _, _, u0, _⟩ := Fl.read_pos 0 (by decide)
    rw [Fl.U_zero] at u0
    have z0 : m0 = 0 := by
      rcases Nat.eq_zero_or_pos m0 with h | h
      · exact h
      · have := Nat.mul_pos h (Nat.two_pow_pos (i0 + 1074).toNat); omega
    subst z0
    unfold Format.order at h0 h1
    rw [e0] at h0
    rw [e1] at h1
    have hr : x % 9223372036854775808 < 9223372036854775808 := Nat.mod_lt _ (by decide)
    unfold Format.read at h0 h1
    simp only [Fl.sw, Fl.bi, Fl.ir, Fl.lp] at h0 h1
    by_cases hn : x / 9223372036854775808 % 2 = 1
    · have hb : (x / 9223372036854775808 % 2 == 1) = true := by rw [hn]; rfl
      rw [hb] at h0
      split at h0
      · unfold Datum.order signed at h0
        simp only [Option.some.injEq, if_true, Nat.zero_shiftLeft, Bool.false_eq_true, if_false] at h0
        exact absurd (Int.compare_eq_gt.1 h0) (Int.not_lt.2 (Int.neg_nonpos_of_nonneg (Int.natCast_nonneg _)))
      · split at h0
        · unfold Datum.order signed at h0
          simp only [Option.some.injEq, if_true, Nat.zero_shiftLeft, Bool.false_eq_true, if_false] at h0
          exact absurd (Int.compare_eq_gt.1 h0) (Int.not_lt.2 (Int.neg_nonpos_of_nonneg (Int.natCast_nonneg _)))
        · split at h0
          · unfold Datum.order at h0
            simp at h0
          · unfold Datum.order at h0
            simp at h0
    · have hb : (x / 9223372036854775808 % 2 == 1) = false := by rw [beq_eq_false_iff_ne]; exact hn
      have hx' : x % 9223372036854775808 = x := by omega
      rw [hb, hx'] at h1
      rw [if_neg (by omega), if_neg (by omega)] at h1
      split at h1
      · unfold Datum.order at h1
        simp at h1
      · unfold Datum.order at h1
        simp at h1

theorem Vw.tk_le (x : Nat) (hx : x < 18446744073709551616) : Vw.tk x ≤ 4607182418800017408 := by
  unfold Vw.tk
  split
  · rename_i h0
    split
    · rename_i h1
      exact Nat.le_of_lt (Fl.mid x hx h0 h1).2
    · exact Nat.le_refl _
  · exact Nat.zero_le _

/-- The product, the sum, the whole part. -/
def Vw.pr (s B : Nat) : Nat := (double.mul s (Fl.ofN B)).getD 0
def Vw.sm (p : Nat) : Nat := (double.add p 4602678819172646912).getD 0
def Vw.fl (r : Nat) : Nat := Fl.U r / Fl.P

theorem Vw.pr_ok (s B : Nat) (hs : s ≤ 4607182418800017408) (hB : B < 1099511627777) : double.mul s (Fl.ofN B) = some (Vw.pr s B) ∧ Vw.pr s B ≤ Fl.ofN B := by
  obtain ⟨uB, lB⟩ := Fl.U_n B (by omega)
  obtain ⟨c, m, p, hP, e, h1, h2⟩ := Fl.mul_P s (Fl.ofN B) (by omega) lB
  unfold Vw.pr
  rw [e]
  refine ⟨rfl, ?_⟩
  rw [Option.getD_some]
  refine Fl.near_le m p _ c h1 ?_
  rw [h2, Nat.mul_comm, ← hP]
  refine Nat.mul_le_mul_left _ ?_
  rw [← Fl.U_one]
  exact Fl.U_le hs
theorem Vw.pr_mono (s s' B : Nat) (h : s ≤ s') (hs : s' ≤ 4607182418800017408) (hB : B < 1099511627777) : Vw.pr s B ≤ Vw.pr s' B := by
  obtain ⟨uB, lB⟩ := Fl.U_n B (by omega)
  obtain ⟨c, hc⟩ : ∃ c, c = 1074 := ⟨_, rfl⟩
  obtain ⟨m, p, e, h1, h2⟩ := Fl.mul_ok s (Fl.ofN B) (by omega) lB c hc
  obtain ⟨m', p', e', h1', h2'⟩ := Fl.mul_ok s' (Fl.ofN B) (by omega) lB c hc
  unfold Vw.pr
  rw [e, e', Option.getD_some, Option.getD_some]
  refine Fl.near_mono m p c h1 m' p' c h1' ?_
  rw [h2, h2']
  exact Nat.mul_le_mul_right _ (Nat.mul_le_mul_right _ (Fl.U_le h))
/-- Against what can be written. -/
theorem Vw.pr_le (s B r : Nat) (hs : s ≤ 4607182418800017408) (hB : B < 1099511627777) (h : Fl.U s * B ≤ Fl.U r) : Vw.pr s B ≤ r := by
  obtain ⟨uB, lB⟩ := Fl.U_n B (by omega)
  obtain ⟨c, m, p, hP, e, h1, h2⟩ := Fl.mul_P s (Fl.ofN B) (by omega) lB
  unfold Vw.pr
  rw [e, Option.getD_some]
  refine Fl.near_le m p _ c h1 ?_
  rw [h2, uB, ← Nat.mul_assoc, ← hP]
  exact Nat.mul_le_mul_right _ h
theorem Vw.le_pr (s B r : Nat) (hs : s ≤ 4607182418800017408) (hB : B < 1099511627777) (hr : r < 9218868437227405312) (h : Fl.U r ≤ Fl.U s * B) : r ≤ Vw.pr s B := by
  obtain ⟨uB, lB⟩ := Fl.U_n B (by omega)
  obtain ⟨c, m, p, hP, e, h1, h2⟩ := Fl.mul_P s (Fl.ofN B) (by omega) lB
  unfold Vw.pr
  rw [e, Option.getD_some]
  refine Fl.le_near m p _ c h1 ?_ (Nat.le_of_lt hr)
  rw [h2, uB, ← Nat.mul_assoc, ← hP]
  exact Nat.mul_le_mul_right _ h

theorem Vw.sm_eq (p : Nat) (hp : p < 9218868437227405312) : ∃ m q, double.add p 4602678819172646912 = some (Vw.sm p) ∧ Vw.sm p = double.nearest false m q ∧ -1074 ≤ q ∧ m * 2 ^ (q + 1074).toNat = Fl.U p + Fl.H := by
  obtain ⟨m, q, e, h1, h2⟩ := Fl.add_ok p 4602678819172646912 hp (by decide)
  rw [Fl.U_half] at h2
  refine ⟨m, q, ?_, ?_, h1, h2⟩
  · unfold Vw.sm; rw [e]; rfl
  · unfold Vw.sm; rw [e, Option.getD_some]
theorem e0 (q : Int) : (q + 1074 + ((0 : Nat) : Int)).toNat = (q + 1074).toNat := by omega
theorem Vw.sm_le (p r : Nat) (hp : p < 9218868437227405312) (h : Fl.U p + Fl.H ≤ Fl.U r) : Vw.sm p ≤ r := by
  obtain ⟨m, q, _, e, h1, h2⟩ := Vw.sm_eq p hp
  rw [e]
  refine Fl.near_le m q r 0 (by omega) ?_
  rw [e0, h2, Nat.pow_zero, Nat.mul_one]
  exact h
theorem Vw.le_sm (p r : Nat) (hp : p < 9218868437227405312) (hr : r < 9218868437227405312) (h : Fl.U r ≤ Fl.U p + Fl.H) : r ≤ Vw.sm p := by
  obtain ⟨m, q, _, e, h1, h2⟩ := Vw.sm_eq p hp
  rw [e]
  refine Fl.le_near m q r 0 (by omega) ?_ (Nat.le_of_lt hr)
  rw [e0, h2, Nat.pow_zero, Nat.mul_one]
  exact h
theorem Vw.sm_mono (p p' : Nat) (h : p ≤ p') (hp : p' < 9218868437227405312) : Vw.sm p ≤ Vw.sm p' := by
  obtain ⟨m, q, _, e, h1, h2⟩ := Vw.sm_eq p (by omega)
  obtain ⟨m', q', _, e', h1', h2'⟩ := Vw.sm_eq p' hp
  rw [e, e']
  refine Fl.near_mono m q 0 (by omega) m' q' 0 (by omega) ?_
  rw [e0, e0, h2, h2']
  exact Nat.mul_le_mul_right _ (Nat.add_le_add_right (Fl.U_le h) _)
theorem Vw.fl_mono (r r' : Nat) (h : r ≤ r') : Vw.fl r ≤ Vw.fl r' := Nat.div_le_div_right (Fl.U_le h)

/-- Where a share of the bottom is. -/
def Vw.drag (x B : Nat) : Nat := Vw.fl (Vw.sm (Vw.pr (Vw.tk x) B))
theorem Vw.top (B : Nat) (hB : B < 1099511627777) : Fl.U (Fl.grid (2 * B + 1) 1) = B * Fl.P + Fl.H ∧ Fl.grid (2 * B + 1) 1 < 9218868437227405312 := by
  obtain ⟨h1, h2⟩ := Fl.U_h (2 * B + 1) (by omega)
  refine ⟨?_, h2⟩
  rw [h1, Nat.add_mul, Nat.one_mul, ← Fl.two, Nat.mul_comm 2 B, Nat.mul_assoc]
theorem toInt_P (x : Nat) (hx : x < 9218868437227405312) (h : Vw.fl x ≤ 9223372036854775807) : floatToIntVal .f64 x .i64 = some ((Vw.fl x : Nat) : Int) := by
  obtain ⟨c, hc⟩ : ∃ c, c = 1074 := ⟨_, rfl⟩
  unfold Vw.fl at h ⊢
  rw [Fl.hP c hc] at h ⊢
  exact Fl.toInt_ok x hx c hc h
theorem Vw.sum_ok (s B : Nat) (hs : s ≤ 4607182418800017408) (hB : B < 1099511627777) : double.add (Vw.pr s B) 4602678819172646912 = some (Vw.sm (Vw.pr s B)) ∧ Vw.sm (Vw.pr s B) ≤ Fl.grid (2 * B + 1) 1 ∧ Vw.fl (Vw.sm (Vw.pr s B)) ≤ B ∧ floatToIntVal .f64 (Vw.sm (Vw.pr s B)) .i64 = some ((Vw.fl (Vw.sm (Vw.pr s B)) : Nat) : Int) := by
  obtain ⟨uB, lB⟩ := Fl.U_n B (by omega)
  obtain ⟨_, hp⟩ := Vw.pr_ok s B hs hB
  have hp' : Vw.pr s B < 9218868437227405312 := by omega
  obtain ⟨t1, t2⟩ := Vw.top B hB
  obtain ⟨m, q, e, _⟩ := Vw.sm_eq _ hp'
  have hle : Vw.sm (Vw.pr s B) ≤ Fl.grid (2 * B + 1) 1 := by
    refine Vw.sm_le _ _ hp' ?_
    rw [t1, ← uB]
    exact Nat.add_le_add_right (Fl.U_le hp) _
  have hf : Vw.fl (Vw.sm (Vw.pr s B)) ≤ B := by
    refine Nat.le_trans (Vw.fl_mono _ _ hle) ?_
    unfold Vw.fl
    rw [t1]
    have h1 := Fl.P_pos
    have h2 := Fl.two
    refine Nat.le_of_lt_succ ((Nat.div_lt_iff_lt_mul h1).2 ?_)
    rw [Nat.succ_mul]
    omega
  refine ⟨e, hle, hf, ?_⟩
  exact toInt_P _ (by omega) (by omega)
theorem Vw.drag_le (x B : Nat) (hx : x < 18446744073709551616) (hB : B < 1099511627777) : Vw.drag x B ≤ B := (Vw.sum_ok _ B (Vw.tk_le x hx) hB).2.2.1
theorem Vw.drag_mono (x y B : Nat) (hy : y < 18446744073709551616) (hB : B < 1099511627777) (h : Vw.tk x ≤ Vw.tk y) : Vw.drag x B ≤ Vw.drag y B := by
  have h1 := Vw.tk_le y hy
  obtain ⟨_, hp⟩ := Vw.pr_ok _ B h1 hB
  obtain ⟨uB, lB⟩ := Fl.U_n B (by omega)
  exact Vw.fl_mono _ _ (Vw.sm_mono _ _ (Vw.pr_mono _ _ _ h h1 hB) (by omega))
theorem Vw.drag_zero (x B : Nat) (hB : B < 1099511627777) (h : Vw.tk x = 0) : Vw.drag x B = 0 := by
  unfold Vw.drag
  rw [h]
  have hp : Vw.pr 0 B = 0 := Nat.le_antisymm (Vw.pr_le 0 B 0 (by decide) hB (by rw [Fl.U_zero, Nat.zero_mul]; exact Nat.le_refl _)) (Nat.zero_le _)
  rw [hp]
  have hs : Vw.sm 0 ≤ 4602678819172646912 := Vw.sm_le 0 _ (by decide) (by rw [Fl.U_zero, Fl.U_half]; omega)
  have := Vw.fl_mono _ _ hs
  have h2 : Vw.fl 4602678819172646912 = 0 := by
    unfold Vw.fl
    rw [Fl.U_half]
    refine Nat.div_eq_of_lt ?_
    have h1 := Fl.P_pos
    have h2 := Fl.two
    omega
  omega
theorem Vw.drag_one (x B : Nat) (hB : B < 1099511627777) (h : Vw.tk x = 4607182418800017408) : Vw.drag x B = B := by
  obtain ⟨uB, lB⟩ := Fl.U_n B (by omega)
  obtain ⟨t1, t2⟩ := Vw.top B hB
  have hs := Vw.sum_ok 4607182418800017408 B (Nat.le_refl _) hB
  unfold Vw.drag
  rw [h]
  refine Nat.le_antisymm hs.2.2.1 ?_
  have hp : Fl.ofN B ≤ Vw.pr 4607182418800017408 B := Vw.le_pr _ B _ (Nat.le_refl _) hB lB (by rw [uB, Fl.U_one, Nat.mul_comm]; exact Nat.le_refl _)
  have hp' := (Vw.pr_ok 4607182418800017408 B (Nat.le_refl _) hB).2
  have hsm : Fl.ofN B ≤ Vw.sm (Vw.pr 4607182418800017408 B) := Vw.le_sm _ _ (by omega) lB (Nat.le_trans (Fl.U_le hp) (Nat.le_add_right _ _))
  have := Vw.fl_mono _ _ hsm
  have e : Vw.fl (Fl.ofN B) = B := by unfold Vw.fl; rw [uB, Nat.mul_div_cancel _ Fl.P_pos]
  omega
end Go.Proofs.Ytcmglbgnpiociab
