/- Sums, products, shares, orders and whole parts of floats that are not negative. No Go in sight. -/
import Derived.Test.YtcmglbgnpiociabVFl
import Derived.Test.YtcmglbgnpiociabVAble
namespace Go.Proofs.Ytcmglbgnpiociab.Fl
open Ieee

/-- What a word below infinity stands for. -/
theorem read_pos (r : Nat) (h : r < 9218868437227405312) : ∃ m i, double.read r = .number false m i ∧ -1074 ≤ i ∧ i ≤ 971 ∧ m * 2 ^ (i + 1074).toNat = U r ∧ (4503599627370496 ≤ r → 4503599627370496 ≤ m) ∧ m < 9007199254740992 := by
  have hq : r / 9223372036854775808 = 0 := by omega
  have hr : r % 9223372036854775808 = r := by omega
  unfold Format.read
  simp only [sw, bi, ir, lp, hq, hr]
  by_cases h1 : r < 4503599627370496
  · rw [if_pos h1]
    refine ⟨r, -1074, rfl, by omega, by omega, ?_, by omega, by omega⟩
    unfold U
    rw [if_pos h1]
    simp
  · rw [if_neg h1, if_pos h]
    refine ⟨_, _, rfl, by omega, by omega, ?_, by omega, by omega⟩
    unfold U
    rw [if_neg h1]
    congr 2
    omega

theorem mul_ok (x y : Nat) (hx : x < 9218868437227405312) (hy : y < 9218868437227405312) (c : Nat) (hc : c = 1074) : ∃ m p, double.mul x y = some (double.nearest false m p) ∧ 0 ≤ p + 1074 + (c : Int) ∧ m * 2 ^ (p + 1074 + (c : Int)).toNat = U x * U y := by
  obtain ⟨m, i, e, h1, _, h2, _⟩ := read_pos x hx
  obtain ⟨n, j, e', h1', _, h2', _⟩ := read_pos y hy
  refine ⟨m * n, i + j, ?_, by omega, ?_⟩
  · unfold Format.mul
    rw [e, e']
    rfl
  · rw [← h2, ← h2']
    have : (i + j + 1074 + (c : Int)).toNat = (i + 1074).toNat + (j + 1074).toNat := by omega
    rw [this, Nat.pow_add]
    ac_rfl

theorem add_ok (x y : Nat) (hx : x < 9218868437227405312) (hy : y < 9218868437227405312) : ∃ m p, double.add x y = some (double.nearest false m p) ∧ -1074 ≤ p ∧ m * 2 ^ (p + 1074).toNat = U x + U y := by
  obtain ⟨m, i, e, h1, _, h2, _⟩ := read_pos x hx
  obtain ⟨n, j, e', h1', _, h2', _⟩ := read_pos y hy
  refine ⟨m * 2 ^ (i - min i j).toNat + n * 2 ^ (j - min i j).toNat, min i j, ?_, by omega, ?_⟩
  · unfold Format.add
    rw [e, e']
    unfold Datum.sum signed
    simp only [Nat.shiftLeft_eq, Bool.false_eq_true, if_false]
    rw [← Int.natCast_add]
    have hn : (if ((m * 2 ^ (i - min i j).toNat + n * 2 ^ (j - min i j).toNat : Nat) : Int) = 0 then (false && false) else decide (((m * 2 ^ (i - min i j).toNat + n * 2 ^ (j - min i j).toNat : Nat) : Int) < 0)) = false := by
      split
      · rfl
      · exact decide_eq_false (by omega)
    rw [hn, Int.natAbs_natCast]
    rfl
  · rw [← h2, ← h2', Nat.add_mul, Nat.mul_assoc, Nat.mul_assoc, ← Nat.pow_add, ← Nat.pow_add]
    congr 3 <;> omega

theorem order_ok (x y : Nat) (hx : x < 9218868437227405312) (hy : y < 9218868437227405312) : double.order x y = some (compare (U x) (U y)) := by
  obtain ⟨m, i, e, h1, _, h2, _⟩ := read_pos x hx
  obtain ⟨n, j, e', h1', _, h2', _⟩ := read_pos y hy
  unfold Format.order
  rw [e, e']
  unfold Datum.order signed
  simp only [Nat.shiftLeft_eq, Bool.false_eq_true, if_false]
  rw [Option.some.injEq, ← h2, ← h2']
  have e1 : (i + 1074).toNat = (i - min i j).toNat + (min i j + 1074).toNat := by omega
  have e2 : (j + 1074).toNat = (j - min i j).toNat + (min i j + 1074).toNat := by omega
  rw [e1, e2, Nat.pow_add, Nat.pow_add, ← Nat.mul_assoc, ← Nat.mul_assoc]
  have hp := Nat.two_pow_pos (min i j + 1074).toNat
  generalize m * 2 ^ (i - min i j).toNat = a
  generalize n * 2 ^ (j - min i j).toNat = b
  generalize 2 ^ (min i j + 1074).toNat = g at *
  rcases Nat.lt_trichotomy a b with h | h | h
  · rw [Int.compare_eq_lt.2 (by omega), Nat.compare_eq_lt.2 (Nat.mul_lt_mul_of_pos_right h hp)]
  · subst h
    rw [Int.compare_eq_eq.2 rfl, Nat.compare_eq_eq.2 rfl]
  · rw [Int.compare_eq_gt.2 (by omega), Nat.compare_eq_gt.2 (Nat.mul_lt_mul_of_pos_right h hp)]

/-- The whole part. -/
theorem toInt_ok (x : Nat) (hx : x < 9218868437227405312) (c : Nat) (hc : c = 1074) (h : U x / 2 ^ c ≤ 9223372036854775807) : floatToIntVal .f64 x .i64 = some ((U x / 2 ^ c : Nat) : Int) := by
  obtain ⟨m, i, e, h1, h1', h2, h3, h4⟩ := read_pos x hx
  have ht : (FloatKind.f64.decode x).toInt .zero = some ((U x / 2 ^ c : Nat) : Int) := by
    show (double.read x).toInt .zero = _
    rw [e]
    unfold Datum.toInt Datum.integral signed
    simp only [Nat.shiftLeft_eq, Bool.false_eq_true, if_false, Nat.pow_zero, Nat.mul_one]
    rw [Option.some.injEq]
    congr 1
    unfold Toward.cut
    simp only [Nat.shiftLeft_eq, Nat.one_mul, Bool.toNat_false, Nat.add_zero]
    rw [← h2]
    rcases Int.le_total 0 i with hi | hi
    · have e0 : (-i).toNat = 0 := by omega
      have e1 : (i + 1074).toNat = i.toNat + c := by omega
      rw [e0, Nat.zero_min, Nat.pow_zero, Nat.div_one, e1, Nat.pow_add, ← Nat.mul_assoc, Nat.mul_div_cancel _ (Nat.two_pow_pos _)]
    · have e0 : i.toNat = 0 := by omega
      have e1 : c = (i + 1074).toNat + (-i).toNat := by omega
      rw [e0, Nat.pow_zero, Nat.mul_one]
      have e2 : m * 2 ^ (i + 1074).toNat / 2 ^ c = m / 2 ^ (-i).toNat := by
        rw [e1, Nat.pow_add, Nat.mul_comm m, Nat.mul_div_mul_left _ _ (Nat.two_pow_pos _)]
      rw [e2]
      rcases Nat.lt_or_ge (m.log2 + 2) (-i).toNat with hd | hd
      · rw [Nat.min_eq_right (by omega)]
        have hl : m < 2 ^ (m.log2 + 1) := Nat.lt_log2_self
        have hg : 2 ^ (m.log2 + 1) ≤ 2 ^ (m.log2 + 2) := Nat.pow_le_pow_right (by omega) (by omega)
        have hg' : 2 ^ (m.log2 + 2) ≤ 2 ^ (-i).toNat := Nat.pow_le_pow_right (by omega) (by omega)
        rw [Nat.div_eq_of_lt (show m < 2 ^ (m.log2 + 2) by omega), Nat.div_eq_of_lt (show m < 2 ^ (-i).toNat by omega)]
      · rw [Nat.min_eq_left hd]
  unfold floatToIntVal
  rw [ht]
  simp only
  generalize U x / 2 ^ c = z at *
  rw [if_pos ⟨by rw [show IntKind.i64.min = -9223372036854775808 by decide]; omega, by rw [show IntKind.i64.max = 9223372036854775807 by decide]; omega⟩]

/-- Whole numbers and parts of them, written. -/
theorem U_ofN (n : Nat) (h : n < 9007199254740992) (c : Nat) (hc : c = 1074) : U (ofN n) = n * 2 ^ c ∧ ofN n < 9218868437227405312 := by
  obtain ⟨h1, h2⟩ := near_U n 0 h (by omega) (by omega)
  refine ⟨?_, h2⟩
  have e : ((0 : Int) + 1074).toNat = c := by omega
  rw [e] at h1
  exact h1
def grid (k e : Nat) : Nat := double.nearest false k (-(e : Int))
theorem U_grid (k e : Nat) (h : k < 9007199254740992) (he : e ≤ 1074) (c : Nat) (hc : c = 1074) : U (grid k e) = k * 2 ^ (c - e) ∧ grid k e < 9218868437227405312 := by
  obtain ⟨h1, h2⟩ := near_U k (-(e : Int)) h (by omega) (by omega)
  refine ⟨?_, h2⟩
  have e : (-(e : Int) + 1074).toNat = c - e := by omega
  rw [e] at h1
  exact h1

theorem write_num (s : Bool) (m : Nat) (p : Int) : double.write (.number s m p) = double.nearest s m p := by rw [Format.write]
theorem div_of {x y : Nat} {d e q : Datum} (hx : double.read x = d) (hy : double.read y = e) (h : d.quotient 54 e = some q) : double.div x y = some (double.write q) := by
  have h54 : double.fractionBits + 2 = 54 := rfl
  unfold Format.div
  rw [hx, hy, h54, h]
  rfl
theorem quot (m n : Nat) (i j : Int) (hm : m.log2 = 52) (hn : n.log2 = 52) (h0 : n ≠ 0) : (Datum.number false m i).quotient 54 (.number false n j) = some (.number false (2 * (m * 2 ^ 54 / n) + (m * 2 ^ 54 % n != 0).toNat) (i - j - 54 - 1)) := by
  unfold Datum.quotient
  simp only
  rw [if_neg h0, hm, hn, Nat.shiftLeft_eq]
  rfl

/-- The share of two counts, against what can be written. -/
theorem shr_parts (a B : Nat) (h0 : 0 < a) (hab : a ≤ B) (h1 : B < 9007199254740992) (c : Nat) (hc : c = 1074) : ∃ m n A D : Nat, 0 < n ∧ A ≤ D ∧ D ≤ 2045 ∧ m * 2 ^ A = a * 2 ^ c ∧ n * 2 ^ D = B * 2 ^ c ∧
    Fl.shr a B = double.nearest false (2 * (m * 2 ^ 54 / n) + (m * 2 ^ 54 % n != 0).toNat) ((A : Int) - (D : Int) - 55) := by
  obtain ⟨ua, la⟩ := U_ofN a (by omega) c hc
  obtain ⟨ub, lb⟩ := U_ofN B h1 c hc
  obtain ⟨m, i, e, i1, i2, i3, i4, i5⟩ := read_pos _ la
  obtain ⟨n, j, e', j1, j2, j3, j4, j5⟩ := read_pos _ lb
  have big : ∀ z, 0 < z → ∀ r, U r = z * 2 ^ c → 4503599627370496 ≤ r := fun z hz r hr => by
    rcases Nat.lt_or_ge r 4503599627370496 with h | h
    · exfalso
      have : U r = r := by unfold U; rw [if_pos h]
      rw [this] at hr
      have k1 : 1 * 2 ^ c ≤ z * 2 ^ c := Nat.mul_le_mul_right _ hz
      have k2 : 2 ^ 52 ≤ 2 ^ c := Nat.pow_le_pow_right (by omega) (by omega)
      rw [← e52] at k2
      omega
    · exact h
  have ma := i4 (big a h0 _ ua)
  have nb := j4 (big B (by omega) _ ub)
  have l52 : ∀ z, 4503599627370496 ≤ z → z < 9007199254740992 → z.log2 = 52 := fun z h h' => by
    have := (Nat.log2_lt (n := z) (k := 53) (by omega)).2 (by rw [← e53]; exact h')
    have := (Nat.le_log2 (n := z) (k := 52) (by omega)).2 (by rw [← e52]; exact h)
    omega
  refine ⟨m, n, (i + 1074).toNat, (j + 1074).toNat, by omega, ?_, by omega, by rw [i3, ua], by rw [j3, ub], ?_⟩
  · rcases Nat.lt_or_ge (j + 1074).toNat (i + 1074).toNat with h | h
    · exfalso
      obtain ⟨d, hd⟩ : ∃ d, (i + 1074).toNat = (j + 1074).toNat + 1 + d := ⟨(i + 1074).toNat - (j + 1074).toNat - 1, by omega⟩
      have k1 : m * 2 ^ (i + 1074).toNat ≤ n * 2 ^ (j + 1074).toNat := by rw [i3, j3, ua, ub]; exact Nat.mul_le_mul_right _ hab
      rw [hd] at k1
      generalize (j + 1074).toNat = D at *
      have k2 : m * 2 ^ (D + 1 + d) = m * 2 * 2 ^ D * 2 ^ d := by rw [Nat.pow_add, Nat.pow_succ]; ac_rfl
      have k3 : m * 2 * 2 ^ D * 1 ≤ m * 2 * 2 ^ D * 2 ^ d := Nat.mul_le_mul_left _ (pow_pos' d)
      have k4 : 9007199254740992 * 2 ^ D ≤ m * 2 * 2 ^ D := Nat.mul_le_mul_right _ (by omega)
      have k5 : n * 2 ^ D < 9007199254740992 * 2 ^ D := Nat.mul_lt_mul_of_pos_right j5 (pow_pos' D)
      omega
    · exact h
  · have hq := quot m n i j (l52 m ma i5) (l52 n nb j5) (by omega)
    have hp : i - j - 54 - 1 = ((i + 1074).toNat : Int) - ((j + 1074).toNat : Int) - 55 := by omega
    rw [hp] at hq
    unfold Fl.shr
    rw [div_of e e' hq, Option.getD_some, write_num]

theorem sticky_le (d n y : Nat) (key : d ≤ y * n) : 2 * (d / n) + (d % n != 0).toNat ≤ 2 * y := by
  have e1 := Nat.div_add_mod d n
  rcases Nat.eq_zero_or_pos (d % n) with hz | hz
  · rw [hz]
    have : d / n ≤ y := Nat.div_le_of_le_mul (by rw [Nat.mul_comm]; exact key)
    simp
    omega
  · have : d / n < y := by
      rcases Nat.lt_or_ge (d / n) y with h2 | h2
      · exact h2
      · have : y * n ≤ d / n * n := Nat.mul_le_mul_right _ h2
        rw [Nat.mul_comm n] at e1
        omega
    have := Bool.toNat_le (d % n != 0)
    omega
theorem shr_le (a B k e : Nat) (h0 : 0 < a) (hab : a ≤ B) (h1 : B < 9007199254740992) (he : e ≤ 54) (hk : k < 9007199254740992) (h : a * 2 ^ e ≤ k * B) : Fl.shr a B ≤ grid k e := by
  obtain ⟨c, hc⟩ : ∃ c, c = 1074 := ⟨_, rfl⟩
  obtain ⟨m, n, A, D, hn, hAD, hD, hm, hB, hs⟩ := shr_parts a B h0 hab h1 c hc
  obtain ⟨f, hf⟩ : ∃ f, f + A + e = 54 + D := ⟨54 + D - A - e, by omega⟩
  have key : m * 2 ^ 54 ≤ k * 2 ^ f * n := by
    refine Nat.le_of_mul_le_mul_right (c := 2 ^ (A + e)) ?_ (pow_pos' _)
    calc m * 2 ^ 54 * 2 ^ (A + e) = m * 2 ^ A * 2 ^ e * 2 ^ 54 := by rw [Nat.pow_add]; ac_rfl
      _ = a * 2 ^ e * (2 ^ c * 2 ^ 54) := by rw [hm]; ac_rfl
      _ ≤ k * B * (2 ^ c * 2 ^ 54) := Nat.mul_le_mul_right _ h
      _ = k * (B * 2 ^ c) * 2 ^ 54 := by ac_rfl
      _ = k * n * 2 ^ (54 + D) := by rw [← hB, Nat.pow_add]; ac_rfl
      _ = k * 2 ^ f * n * 2 ^ (A + e) := by rw [← hf, Nat.add_assoc f A e, Nat.pow_add 2 f]; ac_rfl
  have hX : 2 * (m * 2 ^ 54 / n) + (m * 2 ^ 54 % n != 0).toNat ≤ 2 * (k * 2 ^ f) := sticky_le _ _ _ key
  rw [hs]
  obtain ⟨hg, _⟩ := U_grid k e hk (by omega) c hc
  refine near_le _ _ _ (D + 55) (by omega) ?_
  rw [hg]
  have ee : ((A : Int) - (D : Int) - 55 + 1074 + ((D + 55 : Nat) : Int)).toNat = A + c := by omega
  rw [ee]
  calc (2 * (m * 2 ^ 54 / n) + (m * 2 ^ 54 % n != 0).toNat) * 2 ^ (A + c) ≤ 2 * (k * 2 ^ f) * 2 ^ (A + c) := Nat.mul_le_mul_right _ hX
    _ = k * 2 ^ (1 + f + (A + c)) := by rw [Nat.pow_add 2 (1 + f), Nat.pow_add 2 1, Nat.pow_one]; ac_rfl
    _ = k * 2 ^ (c - e) * 2 ^ (D + 55) := by rw [Nat.mul_assoc, ← Nat.pow_add]; congr 2; omega

theorem le_shr (a B k e : Nat) (h0 : 0 < a) (hab : a ≤ B) (h1 : B < 9007199254740992) (he : e ≤ 54) (hk : k < 9007199254740992) (h : k * B ≤ a * 2 ^ e) : grid k e ≤ Fl.shr a B := by
  obtain ⟨c, hc⟩ : ∃ c, c = 1074 := ⟨_, rfl⟩
  obtain ⟨m, n, A, D, hn, hAD, hD, hm, hB, hs⟩ := shr_parts a B h0 hab h1 c hc
  obtain ⟨f, hf⟩ : ∃ f, f + A + e = 54 + D := ⟨54 + D - A - e, by omega⟩
  have key : k * 2 ^ f * n ≤ m * 2 ^ 54 := by
    refine Nat.le_of_mul_le_mul_right (c := 2 ^ (A + e)) ?_ (pow_pos' _)
    calc k * 2 ^ f * n * 2 ^ (A + e) = k * n * 2 ^ (54 + D) := by rw [← hf, Nat.add_assoc f A e, Nat.pow_add 2 f]; ac_rfl
      _ = k * (n * 2 ^ D) * 2 ^ 54 := by rw [Nat.pow_add]; ac_rfl
      _ = k * B * (2 ^ c * 2 ^ 54) := by rw [hB]; ac_rfl
      _ ≤ a * 2 ^ e * (2 ^ c * 2 ^ 54) := Nat.mul_le_mul_right _ h
      _ = a * 2 ^ c * 2 ^ e * 2 ^ 54 := by ac_rfl
      _ = m * 2 ^ 54 * 2 ^ (A + e) := by rw [← hm, Nat.pow_add]; ac_rfl
  have hX : 2 * (k * 2 ^ f) ≤ 2 * (m * 2 ^ 54 / n) + (m * 2 ^ 54 % n != 0).toNat := by
    have : k * 2 ^ f ≤ m * 2 ^ 54 / n := (Nat.le_div_iff_mul_le hn).2 key
    omega
  rw [hs]
  obtain ⟨hg, hl⟩ := U_grid k e hk (by omega) c hc
  refine le_near _ _ _ (D + 55) (by omega) ?_ (Nat.le_of_lt hl)
  rw [hg]
  have ee : ((A : Int) - (D : Int) - 55 + 1074 + ((D + 55 : Nat) : Int)).toNat = A + c := by omega
  rw [ee]
  calc k * 2 ^ (c - e) * 2 ^ (D + 55) = k * 2 ^ (1 + f + (A + c)) := by rw [Nat.mul_assoc, ← Nat.pow_add]; congr 2; omega
    _ = 2 * (k * 2 ^ f) * 2 ^ (A + c) := by rw [Nat.pow_add 2 (1 + f), Nat.pow_add 2 1, Nat.pow_one]; ac_rfl
    _ ≤ (2 * (m * 2 ^ 54 / n) + (m * 2 ^ 54 % n != 0).toNat) * 2 ^ (A + c) := Nat.mul_le_mul_right _ hX
end Go.Proofs.Ytcmglbgnpiociab.Fl
