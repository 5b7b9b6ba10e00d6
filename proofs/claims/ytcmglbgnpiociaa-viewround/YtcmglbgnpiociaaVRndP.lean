/- A share of the bottom, and the way back. No Go in sight. -/
import Derived.Test.YtcmglbgnpiociaaVWildP
namespace Go.Proofs.Ytcmglbgnpiociaa
open Ieee

def Vw.sh (t B : Nat) : Nat := if B = 0 then 0 else Fl.shr (min t B) B

theorem Fl.shr_zero (B : Nat) (h0 : 0 < B) (h1 : B < 9007199254740992) : Fl.shr 0 B = 0 := by
  obtain ⟨m, p, hm, e⟩ := Fl.ofN_pos B h0 h1
  have e0 : double.read (Fl.ofN 0) = .number false 0 (-1074) := by
    have : Fl.ofN 0 = 0 := Fl.near_zero 0
    rw [this]
    decide
  have hq : (Datum.number false 0 (-1074)).quotient 54 (.number false m p) = some (.number false 0 (-1074 - p - ((54 + m.log2 - (0 : Nat).log2 : Nat) : Int) - 1)) := by
    unfold Datum.quotient
    simp only
    rw [if_neg (by omega), Nat.zero_shiftLeft, Nat.zero_div, Nat.zero_mod]
    rfl
  unfold Fl.shr
  rw [Fl.div_of e0 e hq, Option.getD_some, Fl.write_num, Fl.near_zero]

theorem Fl.grid_one : Fl.grid 1 0 = 4607182418800017408 := by rw [Fl.one_eq]; rfl
theorem Fl.P_of (c e f : Nat) (h : c = e + f) : 2 ^ c = 2 ^ e * 2 ^ f := by rw [h, Nat.pow_add]

theorem Vw.sh_le (t B : Nat) (hB : B < 1099511627777) : Vw.sh t B ≤ 4607182418800017408 := by
  unfold Vw.sh
  split
  · exact Nat.zero_le _
  · rcases Nat.eq_zero_or_pos (min t B) with h | h
    · rw [h, Fl.shr_zero B (by omega) (by omega)]; exact Nat.zero_le _
    · rw [← Fl.grid_one]
      exact Fl.shr_le _ _ 1 0 h (by omega) (by omega) (by omega) (by omega) (by rw [Nat.pow_zero]; omega)
theorem Vw.sh_zero (t B : Nat) (hB : B < 1099511627777) : Vw.sh t B = 0 ↔ t = 0 ∨ B = 0 := by
  unfold Vw.sh
  by_cases h0 : B = 0
  · rw [if_pos h0]; exact ⟨fun _ => .inr h0, fun _ => rfl⟩
  rw [if_neg h0]
  constructor
  · intro h
    rcases Nat.eq_zero_or_pos t with h1 | h1
    · exact .inl h1
    · exfalso
      have hl := Fl.le_shr (min t B) B 1 40 (by omega) (by omega) (by omega) (by omega) (by omega) (by
        have : 1 * 2 ^ 40 ≤ min t B * 2 ^ 40 := Nat.mul_le_mul_right _ (by omega)
        have e : 2 ^ 40 = 1099511627776 := by decide
        rw [e] at this ⊢
        omega)
      rw [h] at hl
      obtain ⟨c, hc⟩ : ∃ c, c = 1074 := ⟨_, rfl⟩
      obtain ⟨ug, _⟩ := Fl.U_grid 1 40 (by omega) (by omega) c hc
      have := Fl.U_le hl
      rw [ug, Fl.U_zero, Nat.one_mul] at this
      have := Nat.two_pow_pos (c - 40)
      omega
  · rintro (h | h)
    · rw [h, Nat.zero_min, Fl.shr_zero B (by omega) (by omega)]
    · exact absurd h h0
theorem Vw.sh_one (t B : Nat) (hB : B < 1099511627777) (h0 : 0 < B) : Vw.sh t B = 4607182418800017408 ↔ B ≤ t := by
  constructor
  · intro h
    rcases Nat.lt_or_ge t B with h1 | h1
    · exfalso
      unfold Vw.sh at h
      rw [if_neg (by omega), Nat.min_eq_left (by omega)] at h
      rcases Nat.eq_zero_or_pos t with h2 | h2
      · rw [h2, Fl.shr_zero B h0 (by omega)] at h
        exact absurd h (by decide)
      · have e : 2 ^ 53 = 9007199254740992 := by decide
        have hl := Fl.shr_le t B 9007199254740991 53 h2 (by omega) (by omega) (by omega) (by omega) (by rw [e]; omega)
        rw [h] at hl
        obtain ⟨c, hc⟩ : ∃ c, c = 1074 := ⟨_, rfl⟩
        obtain ⟨ug, _⟩ := Fl.U_grid 9007199254740991 53 (by omega) (by omega) c hc
        have := Fl.U_le hl
        rw [ug, Fl.U_one, Fl.hP c hc, Fl.P_of c 53 (c - 53) (by omega), e] at this
        have hp := Nat.two_pow_pos (c - 53)
        generalize 2 ^ (c - 53) = q at *
        omega
    · exact h1
  · intro h
    refine Nat.le_antisymm (Vw.sh_le t B hB) ?_
    unfold Vw.sh
    rw [if_neg (by omega), Nat.min_eq_right h, ← Fl.grid_one]
    exact Fl.le_shr B B 1 0 h0 (by omega) (by omega) (by omega) (by omega) (by rw [Nat.pow_zero]; omega)
/-- A share rises strictly. -/
theorem Vw.sh_lt (a b B : Nat) (hB : B < 1099511627777) (hab : a < b) (hb : b ≤ B) : Vw.sh a B < Vw.sh b B := by
  rcases Nat.eq_zero_or_pos a with h0 | h0
  · rw [(Vw.sh_zero a B hB).2 (.inl h0)]
    rcases Nat.eq_zero_or_pos (Vw.sh b B) with h1 | h1
    · have := (Vw.sh_zero b B hB).1 h1; omega
    · exact h1
  unfold Vw.sh
  rw [if_neg (by omega), if_neg (by omega), Nat.min_eq_left (by omega), Nat.min_eq_left hb]
  have e : 2 ^ 42 = 4398046511104 := by decide
  obtain ⟨k, hk1, hk2⟩ : ∃ k, a * 4398046511104 ≤ k * B ∧ k * B < a * 4398046511104 + B := by
    refine ⟨(a * 4398046511104 + B - 1) / B, ?_, ?_⟩
    · have := Nat.div_add_mod (a * 4398046511104 + B - 1) B
      have := Nat.mod_lt (a * 4398046511104 + B - 1) (show 0 < B by omega)
      rw [Nat.mul_comm B] at *
      omega
    · have := Nat.div_mul_le_self (a * 4398046511104 + B - 1) B
      omega
  have hkB : k ≤ 4398046511105 := by
    rcases Nat.lt_or_ge 4398046511105 k with h | h
    · exfalso
      have : 4398046511106 * B ≤ k * B := Nat.mul_le_mul_right _ h
      have : a * 4398046511104 ≤ B * 4398046511104 := Nat.mul_le_mul_right _ (by omega)
      omega
    · exact h
  have s1 := Fl.shr_le a B k 42 h0 (by omega) (by omega) (by omega) (by omega) (by rw [e]; exact hk1)
  have s2 := Fl.le_shr b B (k + 1) 42 (by omega) hb (by omega) (by omega) (by omega) (by
    rw [e, Nat.add_mul, Nat.one_mul]
    have : (a + 1) * 4398046511104 ≤ b * 4398046511104 := Nat.mul_le_mul_right _ hab
    omega)
  obtain ⟨c, hc⟩ : ∃ c, c = 1074 := ⟨_, rfl⟩
  obtain ⟨u1, _⟩ := Fl.U_grid k 42 (by omega) (by omega) c hc
  obtain ⟨u2, _⟩ := Fl.U_grid (k + 1) 42 (by omega) (by omega) c hc
  have : Fl.grid k 42 < Fl.grid (k + 1) 42 := Fl.lt_of_U (by rw [u1, u2, Nat.add_mul, Nat.one_mul]; have := Nat.two_pow_pos (c - 42); omega)
  omega
theorem Vw.sh_mono (a b B : Nat) (hB : B < 1099511627777) (hab : a < b) : Vw.sh a B ≤ Vw.sh b B := by
  rcases Nat.lt_or_ge B b with h | h
  · rcases Nat.eq_zero_or_pos B with h0 | h0
    · rw [(Vw.sh_zero a B hB).2 (.inr h0)]; exact Nat.zero_le _
    · rw [(Vw.sh_one b B hB h0).2 (by omega)]; exact Vw.sh_le a B hB
  · exact Nat.le_of_lt (Vw.sh_lt a b B hB hab h)

/-- Dragged to its share, a window stands where it stood. -/
theorem Vw.drag_sh (t B : Nat) (hB : B < 1099511627777) : Vw.drag (Vw.sh t B) B = min t B := by
  have hs := Vw.sh_le t B hB
  have ht : Vw.tk (Vw.sh t B) = Vw.sh t B := by rw [Vw.tk_fin _ (by omega)]; omega
  rcases Nat.eq_zero_or_pos B with h0 | h0
  · rw [Vw.drag_zero _ B hB (by rw [ht]; exact (Vw.sh_zero t B hB).2 (.inr h0))]; omega
  rcases Nat.eq_zero_or_pos t with h1 | h1
  · rw [Vw.drag_zero _ B hB (by rw [ht]; exact (Vw.sh_zero t B hB).2 (.inl h1))]; omega
  unfold Vw.drag
  rw [ht]
  have esh : Vw.sh t B = Fl.shr (min t B) B := by unfold Vw.sh; rw [if_neg (by omega)]
  obtain ⟨a, ha⟩ : ∃ a, a = min t B := ⟨_, rfl⟩
  rw [← ha] at esh ⊢
  have a0 : 0 < a := by omega
  have aB : a ≤ B := by omega
  generalize Vw.sh t B = s at *
  have e43 : 2 ^ 43 = 8796093022208 := by decide
  obtain ⟨k, hk1, hk2⟩ : ∃ k, k * B ≤ a * 8796093022208 ∧ a * 8796093022208 < k * B + B := by
    refine ⟨a * 8796093022208 / B, Nat.div_mul_le_self _ _, ?_⟩
    have := Nat.div_add_mod (a * 8796093022208) B
    have := Nat.mod_lt (a * 8796093022208) h0
    rw [Nat.mul_comm B] at *
    omega
  have hkB : k ≤ 8796093022208 := by
    rcases Nat.lt_or_ge 8796093022208 k with h | h
    · exfalso
      have : 8796093022209 * B ≤ k * B := Nat.mul_le_mul_right _ h
      have : a * 8796093022208 ≤ B * 8796093022208 := Nat.mul_le_mul_right _ aB
      omega
    · exact h
  have s1 := Fl.le_shr a B k 43 a0 aB (by omega) (by omega) (by omega) (by rw [e43]; exact hk1)
  have s2 := Fl.shr_le a B (k + 1) 43 a0 aB (by omega) (by omega) (by omega) (by rw [e43, Nat.add_mul, Nat.one_mul]; omega)
  rw [← esh] at s1 s2
  obtain ⟨c, hc⟩ : ∃ c, c = 1074 := ⟨_, rfl⟩
  obtain ⟨u1, _⟩ := Fl.U_grid k 43 (by omega) (by omega) c hc
  obtain ⟨u2, _⟩ := Fl.U_grid (k + 1) 43 (by omega) (by omega) c hc
  obtain ⟨v1, l1⟩ := Fl.U_grid (4 * a + 1) 2 (by omega) (by omega) c hc
  obtain ⟨v2, l2⟩ := Fl.U_grid (4 * a - 1) 2 (by omega) (by omega) c hc
  obtain ⟨v3, l3⟩ := Fl.U_grid (4 * a + 3) 2 (by omega) (by omega) c hc
  obtain ⟨un, ln⟩ := Fl.U_n a (by omega)
  obtain ⟨unB, lnB⟩ := Fl.U_n B (by omega)
  have hP := Fl.hP c hc
  have hH := Fl.two
  have e41 : 2 ^ 41 = 2199023255552 := by decide
  have q2 : 2 ^ (c - 2) = 2199023255552 * 2 ^ (c - 43) := by rw [Fl.P_of (c - 2) 41 (c - 43) (by omega), e41]
  have qP : Fl.P = 8796093022208 * 2 ^ (c - 43) := by rw [hP, Fl.P_of c 43 (c - 43) (by omega), e43]
  rw [q2] at v1 v2 v3
  rw [qP] at un unB hH
  have us1 := Fl.U_le s1
  have us2 := Fl.U_le s2
  rw [u1] at us1
  rw [u2] at us2
  have hq := Nat.two_pow_pos (c - 43)
  generalize 2 ^ (c - 43) = q at *
  have pe := (Vw.pr_ok s B hs hB).2
  have p1 : Vw.pr s B ≤ Fl.grid (4 * a + 1) 2 := by
    refine Vw.pr_le s B _ hs hB ?_
    rw [v1]
    calc Fl.U s * B ≤ (k + 1) * q * B := Nat.mul_le_mul_right _ us2
      _ = (k * B + B) * q := by rw [Nat.mul_right_comm, Nat.add_mul, Nat.one_mul]
      _ ≤ ((4 * a + 1) * 2199023255552) * q := Nat.mul_le_mul_right _ (by omega)
      _ = (4 * a + 1) * (2199023255552 * q) := Nat.mul_assoc _ _ _
  have p2 : Fl.grid (4 * a - 1) 2 ≤ Vw.pr s B := by
    refine Vw.le_pr s B _ hs hB l2 ?_
    rw [v2]
    calc (4 * a - 1) * (2199023255552 * q) = ((4 * a - 1) * 2199023255552) * q := (Nat.mul_assoc _ _ _).symm
      _ ≤ (k * B) * q := Nat.mul_le_mul_right _ (by omega)
      _ = k * q * B := Nat.mul_right_comm _ _ _
      _ ≤ Fl.U s * B := Nat.mul_le_mul_right _ us1
  have w1 := Fl.U_le p1
  have w2 := Fl.U_le p2
  rw [v1] at w1
  rw [v2] at w2
  have hX4 : 8796093022208 * q = 4 * (2199023255552 * q) := by omega
  rw [hX4] at qP un hH
  have hX0 : 0 < 2199023255552 * q := by omega
  clear v1 v2 hX4 us1 us2 u1 u2 q2 unB
  generalize 2199023255552 * q = X at *
  have m1 : (4 * a + 1) * X = a * (4 * X) + X := by rw [Nat.add_mul, Nat.one_mul, Nat.mul_comm 4 a, Nat.mul_assoc]
  have m3 : (4 * a + 3) * X = a * (4 * X) + 3 * X := by rw [Nat.add_mul, Nat.mul_comm 4 a, Nat.mul_assoc]
  have m2 : (4 * a - 1) * X + X = a * (4 * X) := by
    rw [show (4 * a - 1) * X + X = (4 * a - 1 + 1) * X by rw [Nat.add_mul, Nat.one_mul], show 4 * a - 1 + 1 = 4 * a by omega, Nat.mul_comm 4 a, Nat.mul_assoc]
  rw [m1] at w1
  rw [m3] at v3
  generalize (4 * a - 1) * X = Z at *
  have g2 : Vw.fl (Fl.ofN a) = a := by unfold Vw.fl; rw [un, qP, Nat.mul_div_cancel _ (by omega)]
  have g1 : Vw.fl (Fl.grid (4 * a + 3) 2) ≤ a := by
    unfold Vw.fl
    rw [v3, qP]
    refine Nat.le_of_lt_succ ((Nat.div_lt_iff_lt_mul (by omega)).2 ?_)
    show a * (4 * X) + 3 * X < (a + 1) * (4 * X)
    rw [Nat.add_mul, Nat.one_mul]
    generalize a * (4 * X) = Y
    omega
  have lp : Vw.pr s B < 9218868437227405312 := by omega
  clear qP
  generalize a * (4 * X) = Y at *
  have r1 : Vw.sm (Vw.pr s B) ≤ Fl.grid (4 * a + 3) 2 := Vw.sm_le _ _ lp (by rw [v3]; omega)
  have r2 : Fl.ofN a ≤ Vw.sm (Vw.pr s B) := Vw.le_sm _ _ lp ln (by rw [un]; omega)
  have f1 := Vw.fl_mono _ _ r1
  have f2 := Vw.fl_mono _ _ r2
  omega
end Go.Proofs.Ytcmglbgnpiociaa
