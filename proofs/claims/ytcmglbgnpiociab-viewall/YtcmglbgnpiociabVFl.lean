/- Floats as whole numbers of the least unit: how rounding stands to what can be written. No Go in sight. -/
import Derived.Test.YtcmglbgnpiociabFlt
namespace Go.Proofs.Ytcmglbgnpiociab.Fl
open Ieee

/-- A rung's magnitude, in units of 2 ^ -1074. -/
def U (r : Nat) : Nat := if r < 4503599627370496 then r else (4503599627370496 + r % 4503599627370496) * 2 ^ (r / 4503599627370496 - 1)

theorem U_step (r : Nat) : U r < U (r + 1) := by
  unfold U
  by_cases h : r + 1 < 4503599627370496
  · rw [if_pos (by omega), if_pos h]; omega
  by_cases h1 : r < 4503599627370496
  · have e : r + 1 = 4503599627370496 := by omega
    rw [if_pos h1, if_neg h, e]
    simp; omega
  rw [if_neg h1, if_neg h]
  obtain ⟨e, he⟩ : ∃ e, r / 4503599627370496 = e + 1 := ⟨r / 4503599627370496 - 1, by omega⟩
  by_cases h2 : r % 4503599627370496 + 1 < 4503599627370496
  · have a1 : (r + 1) / 4503599627370496 = e + 1 := by omega
    have a2 : (r + 1) % 4503599627370496 = r % 4503599627370496 + 1 := by omega
    rw [a1, a2, he]
    exact Nat.mul_lt_mul_of_pos_right (by omega) (Nat.two_pow_pos _)
  · have a1 : (r + 1) / 4503599627370496 = e + 2 := by omega
    have a2 : (r + 1) % 4503599627370496 = 0 := by omega
    rw [a1, a2, he, show e + 1 - 1 = e from rfl, show e + 2 - 1 = e + 1 from rfl, Nat.pow_succ]
    have hp := Nat.two_pow_pos e
    have : (4503599627370496 + r % 4503599627370496) * 2 ^ e < (4503599627370496 + 0) * 2 * 2 ^ e := Nat.mul_lt_mul_of_pos_right (by omega) hp
    calc _ < (4503599627370496 + 0) * 2 * 2 ^ e := this
      _ = (4503599627370496 + 0) * (2 ^ e * 2) := by rw [Nat.mul_assoc, Nat.mul_comm 2]
theorem U_lt {a b : Nat} (h : a < b) : U a < U b := by
  induction b with
  | zero => omega
  | succ b ih =>
    have := U_step b
    rcases Nat.lt_or_ge a b with h1 | h1
    · have := ih h1; omega
    · obtain rfl : a = b := by omega
      exact this
theorem U_le {a b : Nat} (h : a ≤ b) : U a ≤ U b := by
  rcases Nat.lt_or_eq_of_le h with h | rfl
  · exact Nat.le_of_lt (U_lt h)
  · exact Nat.le_refl _
theorem le_of_U {a b : Nat} (h : U a ≤ U b) : a ≤ b := by
  rcases Nat.lt_or_ge b a with h1 | h1
  · have := U_lt h1; omega
  · exact h1
theorem lt_of_U {a b : Nat} (h : U a < U b) : a < b := by
  rcases Nat.lt_or_ge a b with h1 | h1
  · exact h1
  · have := U_le h1; omega
theorem eq_of_U {a b : Nat} (h : U a = U b) : a = b := Nat.le_antisymm (le_of_U (Nat.le_of_eq h)) (le_of_U (Nat.le_of_eq h.symm))

/-- A rung by its last place and what is kept. -/
theorem U_kept (E k : Nat) (h : k ≤ 9007199254740992) (h0 : 0 < E → 4503599627370496 ≤ k) : U (E * 4503599627370496 + k) = k * 2 ^ E := by
  rcases Nat.lt_or_ge k 4503599627370496 with h1 | h1
  · obtain rfl : E = 0 := by rcases Nat.eq_zero_or_pos E with h2 | h2; exact h2; have := h0 h2; omega
    unfold U
    rw [if_pos (by omega)]
    simp
  · unfold U
    rw [if_neg (by omega)]
    rcases Nat.lt_or_ge k 9007199254740992 with h2 | h2
    · have a1 : (E * 4503599627370496 + k) / 4503599627370496 = E + 1 := by omega
      have a2 : (E * 4503599627370496 + k) % 4503599627370496 = k - 4503599627370496 := by omega
      rw [a1, a2, show E + 1 - 1 = E from rfl, show 4503599627370496 + (k - 4503599627370496) = k by omega]
    · obtain rfl : k = 9007199254740992 := by omega
      have a1 : (E * 4503599627370496 + 9007199254740992) / 4503599627370496 = E + 2 := by omega
      have a2 : (E * 4503599627370496 + 9007199254740992) % 4503599627370496 = 0 := by omega
      rw [a1, a2, show E + 2 - 1 = E + 1 from rfl, Nat.pow_succ]
      omega

/-- What a rung below a place is. -/
theorem U_mul (r E : Nat) (h : 4503599627370496 * 2 ^ E ≤ U r) : ∃ y, U r = y * 2 ^ E := by
  unfold U at *
  by_cases h1 : r < 4503599627370496
  · rw [if_pos h1] at h ⊢
    have := Nat.two_pow_pos E
    have h2 : 4503599627370496 * 1 ≤ 4503599627370496 * 2 ^ E := Nat.mul_le_mul_left _ this
    omega
  · rw [if_neg h1] at h ⊢
    obtain ⟨e, he⟩ : ∃ e, r / 4503599627370496 = e + 1 := ⟨r / 4503599627370496 - 1, by omega⟩
    rw [he, show e + 1 - 1 = e from rfl] at h ⊢
    rcases Nat.lt_or_ge e E with h2 | h2
    · exfalso
      obtain ⟨d, rfl⟩ : ∃ d, E = e + 1 + d := ⟨E - e - 1, by omega⟩
      have hp := Nat.two_pow_pos e
      have hd := Nat.two_pow_pos d
      have k1 : (4503599627370496 + r % 4503599627370496) * 2 ^ e < 9007199254740992 * 2 ^ e := Nat.mul_lt_mul_of_pos_right (by omega) hp
      have k2 : 4503599627370496 * 2 ^ (e + 1 + d) = 9007199254740992 * 2 ^ e * 2 ^ d := by rw [Nat.pow_add, Nat.pow_succ]; rw [show 4503599627370496 * (2 ^ e * 2 * 2 ^ d) = 4503599627370496 * 2 * 2 ^ e * 2 ^ d by ac_rfl]
      have k3 : 9007199254740992 * 2 ^ e * 1 ≤ 9007199254740992 * 2 ^ e * 2 ^ d := Nat.mul_le_mul_left _ hd
      omega
    · obtain ⟨d, rfl⟩ : ∃ d, e = E + d := ⟨e - E, by omega⟩
      exact ⟨(4503599627370496 + r % 4503599627370496) * 2 ^ d, by rw [Nat.pow_add, Nat.mul_assoc, Nat.mul_comm (2 ^ d)]⟩

/-- To the nearest: what it is against whole numbers, and that it rises. -/
def rUp (n g : Nat) : Bool := decide (g < 2 * (n % g)) || (g == 2 * (n % g) && n / g % 2 == 1)
theorem cut_eq (s : Bool) (n d : Nat) : Toward.even.cut s n d = n / 2 ^ d + (rUp n (2 ^ d)).toNat := by
  unfold Toward.cut rUp
  simp only [Nat.shiftLeft_eq, Nat.one_mul]
  rcases Nat.lt_or_ge (n.log2 + 2) d with hd | hd
  · rw [Nat.min_eq_right (by omega)]
    have hl : n < 2 ^ (n.log2 + 1) := Nat.lt_log2_self
    have hg : 2 ^ (n.log2 + 2) = 2 ^ (n.log2 + 1) * 2 := Nat.pow_succ ..
    have hg' : 2 ^ (n.log2 + 2) ≤ 2 ^ d := Nat.pow_le_pow_right (by omega) (by omega)
    rw [Nat.div_eq_of_lt (show n < 2 ^ (n.log2 + 2) by omega), Nat.mod_eq_of_lt (show n < 2 ^ (n.log2 + 2) by omega), Nat.div_eq_of_lt (show n < 2 ^ d by omega), Nat.mod_eq_of_lt (show n < 2 ^ d by omega)]
    have z : ∀ g, 2 * n < g → (decide (g < 2 * n) || (g == 2 * n && 0 % 2 == 1)) = false := fun g h => by
      rw [Bool.or_eq_false_iff]; exact ⟨decide_eq_false (by omega), by simp⟩
    rw [z _ (by omega), z _ (by omega)]
  · rw [Nat.min_eq_left hd]
theorem cut_le (s : Bool) (n d y : Nat) (h : n ≤ y * 2 ^ d) : Toward.even.cut s n d ≤ y := by
  rw [cut_eq]
  have hp := Nat.two_pow_pos d
  generalize 2 ^ d = g at *
  have e := Nat.div_add_mod n g
  have hm := Nat.mod_lt n hp
  rcases Nat.eq_zero_or_pos (n % g) with h0 | h0
  · have z : rUp n g = false := by
      unfold rUp
      rw [h0, Bool.or_eq_false_iff]
      refine ⟨decide_eq_false (by omega), ?_⟩
      rw [show (g == 2 * 0) = false by rw [beq_eq_false_iff_ne]; omega]; rfl
    rw [z]
    simp only [Bool.toNat_false, Nat.add_zero]
    exact Nat.div_le_of_le_mul (by rw [Nat.mul_comm]; exact h)
  · have : n / g < y := by
      rcases Nat.lt_or_ge (n / g) y with h1 | h1
      · exact h1
      · have : y * g ≤ n / g * g := Nat.mul_le_mul_right _ h1
        rw [Nat.mul_comm g] at e
        omega
    have := Bool.toNat_le (rUp n g)
    omega
theorem le_cut (s : Bool) (n d y : Nat) (h : y * 2 ^ d ≤ n) : y ≤ Toward.even.cut s n d := by
  rw [cut_eq]
  have : y ≤ n / 2 ^ d := (Nat.le_div_iff_mul_le (Nat.two_pow_pos d)).2 h
  omega
theorem cut_mono (s : Bool) (n d n' d' : Nat) (h : n * 2 ^ d' ≤ n' * 2 ^ d) : Toward.even.cut s n d ≤ Toward.even.cut s n' d' := by
  rw [cut_eq, cut_eq]
  have hp := Nat.two_pow_pos d
  have hp' := Nat.two_pow_pos d'
  generalize 2 ^ d = g at *
  generalize 2 ^ d' = g' at *
  have e := Nat.div_add_mod n g
  have e' := Nat.div_add_mod n' g'
  have hl : n / g ≤ n' / g' := by
    refine (Nat.le_div_iff_mul_le hp').2 ?_
    refine Nat.le_of_mul_le_mul_right (c := g) ?_ hp
    refine Nat.le_trans ?_ h
    rw [show n / g * g' * g = g * (n / g) * g' by ac_rfl]
    exact Nat.mul_le_mul_right _ (by omega)
  rcases Nat.lt_or_eq_of_le hl with h1 | h1
  · have := Bool.toNat_le (rUp n g)
    omega
  · rw [h1]
    refine Nat.add_le_add_left ?_ _
    have hr : n % g * g' ≤ n' % g' * g := by
      have k1 : n * g' = g * (n / g) * g' + n % g * g' := by rw [← Nat.add_mul, e]
      have k2 : n' * g = g' * (n' / g') * g + n' % g' * g := by rw [← Nat.add_mul, e']
      rw [h1] at k1
      have k3 : g * (n' / g') * g' = g' * (n' / g') * g := by ac_rfl
      omega
    cases hu : rUp n g with
    | false => simp
    | true =>
      have : rUp n' g' = true := by
        unfold rUp at hu ⊢
        rw [Bool.or_eq_true] at hu
        rcases hu with hu | hu
        · have k := of_decide_eq_true hu
          rw [Bool.or_eq_true]
          left
          refine decide_eq_true ?_
          refine Nat.lt_of_mul_lt_mul_right (a := g) ?_
          calc g' * g = g * g' := Nat.mul_comm _ _
            _ < 2 * (n % g) * g' := Nat.mul_lt_mul_of_pos_right k hp'
            _ = 2 * (n % g * g') := Nat.mul_assoc _ _ _
            _ ≤ 2 * (n' % g' * g) := Nat.mul_le_mul_left _ hr
            _ = 2 * (n' % g') * g := (Nat.mul_assoc _ _ _).symm
        · rw [Bool.and_eq_true, beq_iff_eq, beq_iff_eq] at hu
          obtain ⟨k, ko⟩ := hu
          rw [h1] at ko
          have k2 : g' ≤ 2 * (n' % g') := by
            refine Nat.le_of_mul_le_mul_right (c := g) ?_ hp
            calc g' * g = g * g' := Nat.mul_comm _ _
              _ = 2 * (n % g) * g' := by rw [← k]
              _ = 2 * (n % g * g') := Nat.mul_assoc _ _ _
              _ ≤ 2 * (n' % g' * g) := Nat.mul_le_mul_left _ hr
              _ = 2 * (n' % g') * g := (Nat.mul_assoc _ _ _).symm
          rw [Bool.or_eq_true, Bool.and_eq_true, beq_iff_eq, beq_iff_eq, decide_eq_true_eq]
          rcases Nat.lt_or_eq_of_le k2 with k3 | k3
          · exact .inl k3
          · exact .inr ⟨k3, ko⟩
      rw [this]
      simp

/-- The parts of a rounding: the last place E that is kept, and what is kept of n / 2 ^ b. -/
structure Rnd (m : Nat) (p : Int) (E kept n b : Nat) : Prop where
  eq : double.nearest false m p = min (E * 4503599627370496 + kept) 9218868437227405312
  top : kept ≤ 9007199254740992
  nrm : 0 < E → 4503599627370496 ≤ kept
  low : 0 < E → 4503599627370496 * 2 ^ b ≤ n
  upp : n < 9007199254740992 * 2 ^ b
  cut : kept = Toward.even.cut false n b
  small : -1074 ≤ p → m < 9007199254740992 → b = 0
  val : ∀ K : Nat, 0 ≤ p + 1074 + K → n * 2 ^ (E + K) = m * 2 ^ (p + 1074 + K).toNat * 2 ^ b

theorem e52 : 4503599627370496 = 2 ^ 52 := by decide
theorem e53 : 9007199254740992 = 2 ^ 53 := by decide
theorem word_pos (r : Nat) : double.word false r = r := by unfold Format.word; rw [if_neg (by decide)]
theorem rnd (m : Nat) (p : Int) (h : 0 < m) : ∃ E kept n b, Rnd m p E kept n b := by
  obtain ⟨L, hL⟩ : ∃ L : Int, L = max (p + (m.log2 : Int) - 52) (-1074) := ⟨_, rfl⟩
  have hge : 2 ^ m.log2 ≤ m := Nat.log2_self_le (by omega)
  have hlt : m < 2 ^ (m.log2 + 1) := Nat.lt_log2_self
  have hLl : -1074 ≤ L := by omega
  have low : 0 < (L + 1074).toNat → 4503599627370496 * 2 ^ (L - p).toNat ≤ m * 2 ^ (p - L).toNat := fun hE => by
    have e : L = p + (m.log2 : Int) - 52 := by omega
    calc 4503599627370496 * 2 ^ (L - p).toNat = 2 ^ (52 + (L - p).toNat) := by rw [e52, ← Nat.pow_add]
      _ = 2 ^ (m.log2 + (p - L).toNat) := by congr 1; omega
      _ = 2 ^ m.log2 * 2 ^ (p - L).toNat := Nat.pow_add ..
      _ ≤ m * 2 ^ (p - L).toNat := Nat.mul_le_mul_right _ hge
  have upp : m * 2 ^ (p - L).toNat < 9007199254740992 * 2 ^ (L - p).toNat := by
    calc m * 2 ^ (p - L).toNat < 2 ^ (m.log2 + 1) * 2 ^ (p - L).toNat := Nat.mul_lt_mul_of_pos_right hlt (Nat.two_pow_pos _)
      _ = 2 ^ (m.log2 + 1 + (p - L).toNat) := (Nat.pow_add ..).symm
      _ ≤ 2 ^ (53 + (L - p).toNat) := Nat.pow_le_pow_right (by omega) (by omega)
      _ = 9007199254740992 * 2 ^ (L - p).toNat := by rw [e53, ← Nat.pow_add]
  refine ⟨(L + 1074).toNat, Toward.even.cut false (m * 2 ^ (p - L).toNat) (L - p).toNat, m * 2 ^ (p - L).toNat, (L - p).toNat, ?_, ?_, ?_, low, upp, rfl, ?small, ?_⟩
  case small =>
    intro h1 h2
    have : m.log2 < 53 := (Nat.log2_lt (by omega)).2 (by rw [← e53]; exact h2)
    omega
  · unfold Format.nearest
    rw [if_neg (by omega)]
    simp only [lp, bi, ir, show double.fractionBits = 52 from rfl, Nat.shiftLeft_eq]
    rw [show max (p + (m.log2 : Int) - ((52 : Nat) : Int)) (-1074) = L from hL.symm, show L - -1074 = L + 1074 by omega, word_pos]
  · exact cut_le _ _ _ _ (Nat.le_of_lt upp)
  · intro hE; exact le_cut _ _ _ _ (low hE)
  · intro K hK
    rw [Nat.mul_assoc, Nat.mul_assoc, ← Nat.pow_add, ← Nat.pow_add]
    congr 2
    omega

theorem near_zero (p : Int) : double.nearest false 0 p = 0 := by unfold Format.nearest; rw [if_pos rfl, word_pos]
theorem Rnd.U {m : Nat} {p : Int} {E kept n b : Nat} (h : Rnd m p E kept n b) : U (E * 4503599627370496 + kept) = kept * 2 ^ E := U_kept E kept h.top h.nrm
theorem pow_pos' (k : Nat) : 0 < 2 ^ k := Nat.two_pow_pos k

theorem near_le (m : Nat) (p : Int) (r K : Nat) (hK : 0 ≤ p + 1074 + K) (h : m * 2 ^ (p + 1074 + K).toNat ≤ U r * 2 ^ K) : double.nearest false m p ≤ r := by
  rcases Nat.eq_zero_or_pos m with rfl | hm
  · rw [near_zero]; exact Nat.zero_le _
  obtain ⟨E, kept, n, b, R⟩ := rnd m p hm
  rw [R.eq]
  refine Nat.le_trans (Nat.min_le_left _ _) (le_of_U ?_)
  rw [R.U]
  have hv := R.val K hK
  have hy : ∃ y, U r = y * 2 ^ E := by
    rcases Nat.eq_zero_or_pos E with h0 | h0
    · exact ⟨U r, by rw [h0, Nat.pow_zero, Nat.mul_one]⟩
    · refine U_mul r E ?_
      refine Nat.le_of_mul_le_mul_right (c := 2 ^ K * 2 ^ b) ?_ (Nat.mul_pos (pow_pos' _) (pow_pos' _))
      calc 4503599627370496 * 2 ^ E * (2 ^ K * 2 ^ b) = 4503599627370496 * 2 ^ b * 2 ^ (E + K) := by rw [Nat.pow_add]; ac_rfl
        _ ≤ n * 2 ^ (E + K) := Nat.mul_le_mul_right _ (R.low h0)
        _ = m * 2 ^ (p + 1074 + K).toNat * 2 ^ b := hv
        _ ≤ U r * 2 ^ K * 2 ^ b := Nat.mul_le_mul_right _ h
        _ = U r * (2 ^ K * 2 ^ b) := Nat.mul_assoc _ _ _
  obtain ⟨y, hy⟩ := hy
  rw [hy]
  refine Nat.mul_le_mul_right _ ?_
  rw [R.cut]
  refine cut_le _ _ _ _ ?_
  refine Nat.le_of_mul_le_mul_right (c := 2 ^ (E + K)) ?_ (pow_pos' _)
  rw [hv]
  calc m * 2 ^ (p + 1074 + K).toNat * 2 ^ b ≤ U r * 2 ^ K * 2 ^ b := Nat.mul_le_mul_right _ h
    _ = y * 2 ^ b * 2 ^ (E + K) := by rw [hy, Nat.pow_add]; ac_rfl

theorem le_near (m : Nat) (p : Int) (r K : Nat) (hK : 0 ≤ p + 1074 + K) (h : U r * 2 ^ K ≤ m * 2 ^ (p + 1074 + K).toNat) (hr : r ≤ 9218868437227405312) : r ≤ double.nearest false m p := by
  rcases Nat.eq_zero_or_pos m with rfl | hm
  · rw [Nat.zero_mul] at h
    have hu : U r = 0 := by
      rcases Nat.eq_zero_or_pos (U r) with h1 | h1
      · exact h1
      · have := Nat.mul_pos h1 (pow_pos' K); omega
    have : r ≤ 0 := le_of_U (by rw [hu]; exact Nat.zero_le _)
    omega
  obtain ⟨E, kept, n, b, R⟩ := rnd m p hm
  rw [R.eq]
  refine Nat.le_min.2 ⟨le_of_U ?_, hr⟩
  rw [R.U]
  have hv := R.val K hK
  by_cases hc : E = 0 ∨ 4503599627370496 * 2 ^ E ≤ U r
  · obtain ⟨y, hy⟩ : ∃ y, U r = y * 2 ^ E := by
      rcases hc with h0 | h0
      · exact ⟨U r, by rw [h0, Nat.pow_zero, Nat.mul_one]⟩
      · exact U_mul r E h0
    rw [hy]
    refine Nat.mul_le_mul_right _ ?_
    rw [R.cut]
    refine le_cut _ _ _ _ ?_
    refine Nat.le_of_mul_le_mul_right (c := 2 ^ (E + K)) ?_ (pow_pos' _)
    rw [hv]
    calc y * 2 ^ b * 2 ^ (E + K) = U r * 2 ^ K * 2 ^ b := by rw [hy, Nat.pow_add]; ac_rfl
      _ ≤ m * 2 ^ (p + 1074 + K).toNat * 2 ^ b := Nat.mul_le_mul_right _ h
  · rw [not_or] at hc
    have h1 := R.nrm (by omega)
    have : 4503599627370496 * 2 ^ E ≤ kept * 2 ^ E := Nat.mul_le_mul_right _ h1
    omega

theorem near_mono (m : Nat) (p : Int) (K : Nat) (hK : 0 ≤ p + 1074 + K) (m' : Nat) (p' : Int) (K' : Nat) (hK' : 0 ≤ p' + 1074 + K') (h : m * 2 ^ (p + 1074 + K).toNat * 2 ^ K' ≤ m' * 2 ^ (p' + 1074 + K').toNat * 2 ^ K) : double.nearest false m p ≤ double.nearest false m' p' := by
  rcases Nat.eq_zero_or_pos m with rfl | hm
  · rw [near_zero]; exact Nat.zero_le _
  have hm' : 0 < m' := by
    rcases Nat.eq_zero_or_pos m' with rfl | h1
    · have := Nat.mul_pos (Nat.mul_pos hm (pow_pos' (p + 1074 + K).toNat)) (pow_pos' K')
      rw [Nat.zero_mul, Nat.zero_mul] at h
      omega
    · exact h1
  obtain ⟨E, kept, n, b, R⟩ := rnd m p hm
  obtain ⟨E', kept', n', b', R'⟩ := rnd m' p' hm'
  rw [R.eq, R'.eq]
  refine Nat.le_min.2 ⟨Nat.le_trans (Nat.min_le_left _ _) (le_of_U ?_), Nat.min_le_right _ _⟩
  rw [R.U, R'.U]
  have hv := R.val K hK
  have hv' := R'.val K' hK'
  generalize m * 2 ^ (p + 1074 + K).toNat = V at *
  generalize m' * 2 ^ (p' + 1074 + K').toNat = V' at *
  rcases Nat.lt_trichotomy E E' with hE | hE | hE
  · obtain ⟨d, rfl⟩ : ∃ d, E' = E + 1 + d := ⟨E' - E - 1, by omega⟩
    have k1 : kept * 2 ^ E ≤ 9007199254740992 * 2 ^ E := Nat.mul_le_mul_right _ R.top
    have k2 : 4503599627370496 * 2 ^ (E + 1 + d) ≤ kept' * 2 ^ (E + 1 + d) := Nat.mul_le_mul_right _ (R'.nrm (by omega))
    have k3 : 4503599627370496 * 2 ^ (E + 1 + d) = 4503599627370496 * 2 * 2 ^ E * 2 ^ d := by rw [Nat.pow_add, Nat.pow_succ]; ac_rfl
    have k4 : 4503599627370496 * 2 * 2 ^ E * 1 ≤ 4503599627370496 * 2 * 2 ^ E * 2 ^ d := Nat.mul_le_mul_left _ (pow_pos' d)
    omega
  · subst hE
    refine Nat.mul_le_mul_right _ ?_
    rw [R.cut, R'.cut]
    refine cut_mono _ _ _ _ _ ?_
    refine Nat.le_of_mul_le_mul_right (c := 2 ^ (E + K) * 2 ^ K') ?_ (Nat.mul_pos (pow_pos' _) (pow_pos' _))
    calc n * 2 ^ b' * (2 ^ (E + K) * 2 ^ K') = n * 2 ^ (E + K) * (2 ^ K' * 2 ^ b') := by ac_rfl
      _ = V * 2 ^ b * (2 ^ K' * 2 ^ b') := by rw [hv]
      _ = V * 2 ^ K' * (2 ^ b * 2 ^ b') := by ac_rfl
      _ ≤ V' * 2 ^ K * (2 ^ b * 2 ^ b') := Nat.mul_le_mul_right _ h
      _ = V' * 2 ^ b' * (2 ^ K * 2 ^ b) := by ac_rfl
      _ = n' * 2 ^ (E + K') * (2 ^ K * 2 ^ b) := by rw [hv']
      _ = n' * 2 ^ b * (2 ^ (E + K) * 2 ^ K') := by rw [Nat.pow_add, Nat.pow_add]; ac_rfl
  · exfalso
    obtain ⟨d, rfl⟩ : ∃ d, E = E' + 1 + d := ⟨E - E' - 1, by omega⟩
    have k1 : 4503599627370496 * 2 ^ (E' + 1 + d + K) ≤ V := by
      refine Nat.le_of_mul_le_mul_right (c := 2 ^ b) ?_ (pow_pos' _)
      rw [← hv]
      calc 4503599627370496 * 2 ^ (E' + 1 + d + K) * 2 ^ b = 4503599627370496 * 2 ^ b * 2 ^ (E' + 1 + d + K) := by ac_rfl
        _ ≤ _ := Nat.mul_le_mul_right _ (R.low (by omega))
    have k2 : V' < 9007199254740992 * 2 ^ (E' + K') := by
      refine Nat.lt_of_mul_lt_mul_right (a := 2 ^ b') ?_
      rw [← hv']
      calc n' * 2 ^ (E' + K') < 9007199254740992 * 2 ^ b' * 2 ^ (E' + K') := Nat.mul_lt_mul_of_pos_right R'.upp (pow_pos' _)
        _ = 9007199254740992 * 2 ^ (E' + K') * 2 ^ b' := by ac_rfl
    have k3 : V' * 2 ^ K < 9007199254740992 * 2 ^ (E' + K') * 2 ^ K := Nat.mul_lt_mul_of_pos_right k2 (pow_pos' _)
    have k4 : 4503599627370496 * 2 ^ (E' + 1 + d + K) * 2 ^ K' ≤ V * 2 ^ K' := Nat.mul_le_mul_right _ k1
    have k5 : 4503599627370496 * 2 ^ (E' + 1 + d + K) * 2 ^ K' = 4503599627370496 * 2 * 2 ^ (E' + K') * 2 ^ K * 2 ^ d := by
      rw [Nat.pow_add, Nat.pow_add, Nat.pow_add, Nat.pow_add, Nat.pow_one]; ac_rfl
    have k6 : 4503599627370496 * 2 * 2 ^ (E' + K') * 2 ^ K * 1 ≤ 4503599627370496 * 2 * 2 ^ (E' + K') * 2 ^ K * 2 ^ d := Nat.mul_le_mul_left _ (pow_pos' d)
    have k7 : 4503599627370496 * 2 * 2 ^ (E' + K') * 2 ^ K * 1 = 9007199254740992 * 2 ^ (E' + K') * 2 ^ K := by rw [Nat.mul_one]
    omega

theorem U_inf (q : Nat) (hq : q = 2046) : U 9218868437227405312 = 4503599627370496 * 2 ^ q := by
  have e : 9218868437227405312 = q * 4503599627370496 + 4503599627370496 := by rw [hq]
  rw [e]
  exact U_kept _ _ (by decide) (fun _ => Nat.le_refl _)

/-- What can be written is written as it is. -/
theorem near_U (m : Nat) (p : Int) (h1 : m < 9007199254740992) (h2 : -1074 ≤ p) (h3 : p ≤ 900) : U (double.nearest false m p) = m * 2 ^ (p + 1074).toNat ∧ double.nearest false m p < 9218868437227405312 := by
  rcases Nat.eq_zero_or_pos m with rfl | hm
  · rw [near_zero, Nat.zero_mul]
    exact ⟨by unfold U; rw [if_pos (by decide)], by decide⟩
  obtain ⟨E, kept, n, b, R⟩ := rnd m p hm
  obtain rfl := R.small h2 h1
  have hv := R.val 0 (by omega)
  have hk : kept = n := by rw [R.cut, cut0]
  have hu : U (E * 4503599627370496 + kept) = m * 2 ^ (p + 1074).toNat := by
    rw [R.U, hk]
    have e : (p + 1074 + ((0 : Nat) : Int)).toNat = (p + 1074).toNat := by omega
    rw [e, Nat.pow_zero, Nat.mul_one, Nat.add_zero] at hv
    exact hv
  have hlt : E * 4503599627370496 + kept < 9218868437227405312 := by
    refine lt_of_U ?_
    obtain ⟨q, hq⟩ : ∃ q, q = 2046 := ⟨_, rfl⟩
    rw [hu, U_inf q hq]
    calc m * 2 ^ (p + 1074).toNat < 2 ^ 53 * 2 ^ (p + 1074).toNat := Nat.mul_lt_mul_of_pos_right (by rw [← e53]; exact h1) (pow_pos' _)
      _ = 2 ^ (53 + (p + 1074).toNat) := (Nat.pow_add ..).symm
      _ ≤ 2 ^ (52 + q) := Nat.pow_le_pow_right (by omega) (by omega)
      _ = 4503599627370496 * 2 ^ q := by rw [Nat.pow_add, ← e52]
  rw [R.eq, Nat.min_eq_left (Nat.le_of_lt hlt)]
  exact ⟨hu, hlt⟩
end Go.Proofs.Ytcmglbgnpiociab.Fl
