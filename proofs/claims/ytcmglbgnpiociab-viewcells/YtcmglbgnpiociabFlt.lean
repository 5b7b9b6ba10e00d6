/- Floats made of counts: no quotient of counts is a NaN. No Go in sight. -/
import Derived.Test.YtcmglbgnpiociabVInt
import Derived.Laws.FloatArith
namespace Go.Proofs.Ytcmglbgnpiociab.Fl
open Ieee

theorem sw : double.signWeight = 9223372036854775808 := by decide
theorem ir : double.infRung = 9218868437227405312 := by decide
theorem bi : double.binade = 4503599627370496 := by decide
theorem lp : double.leastPlace = -1074 := by decide

/-- A number or an infinity. -/
def Ok (d : Datum) : Prop := (∃ s m p, d = .number s m p) ∨ ∃ s, d = .infinity s

theorem rung (neg : Bool) (r : Nat) (h : r ≤ double.infRung) : double.word neg r % double.signWeight = r := by
  rw [ir] at h
  unfold Format.word; rw [sw]; split <;> omega
theorem read_word (neg : Bool) (r : Nat) (h : r ≤ double.infRung) : Ok (double.read (double.word neg r)) := by
  unfold Format.read
  simp only [rung neg r h]
  split
  · exact .inl ⟨_, _, _, rfl⟩
  · split
    · exact .inl ⟨_, _, _, rfl⟩
    · split
      · exact .inr ⟨_, rfl⟩
      · exact absurd h (by omega)
theorem nearest_word (neg : Bool) (m : Nat) (p : Int) : ∃ r, r ≤ double.infRung ∧ double.nearest neg m p = double.word neg r := by
  unfold Format.nearest
  split
  · exact ⟨0, Nat.zero_le _, rfl⟩
  · exact ⟨_, Nat.min_le_right _ _, rfl⟩
theorem write_ok (d : Datum) (h : Ok d) : Ok (double.read (double.write d)) := by
  rcases h with ⟨s, m, p, rfl⟩ | ⟨s, rfl⟩
  · obtain ⟨r, hr, e⟩ := nearest_word s m p
    show Ok (double.read (double.nearest s m p))
    rw [e]; exact read_word s r hr
  · exact read_word s _ (Nat.le_refl _)

/-- A word that is no NaN is itself. -/
theorem self_eq (x : Nat) (h : Ok (double.read x)) : double.order x x = some .eq := by
  unfold Format.order
  rcases h with ⟨s, m, p, e⟩ | ⟨s, e⟩
  · rw [e]
    unfold Datum.order
    simp only
    rw [Option.some.injEq]
    exact Std.ReflCmp.compare_self
  · rw [e]
    unfold Datum.order
    simp only
    rw [Option.some.injEq]
    exact Std.ReflCmp.compare_self

/-- The word of a count. -/
def ofN (n : Nat) : Nat := double.nearest false n 0

theorem ofN_ok (n : Nat) : Ok (double.read (ofN n)) := write_ok (.number false n 0) (.inl ⟨_, _, _, rfl⟩)

theorem cut0 (s : Bool) (n : Nat) : Toward.even.cut s n 0 = n := by
  unfold Toward.cut
  simp [Nat.mod_one]

/-- A count that is not 0, and not too great, is a number that is not 0. -/
theorem ofN_pos (n : Nat) (h0 : 0 < n) (h1 : n < 9007199254740992) : ∃ m p, 0 < m ∧ double.read (ofN n) = .number false m p := by
  have hl : n.log2 ≤ 52 := by
    have := (Nat.log2_lt (n := n) (k := 53) (by omega)).2 (by simpa using h1)
    omega
  have hge : 2 ^ n.log2 ≤ n := Nat.log2_self_le (by omega)
  have hlt : n < 2 ^ (n.log2 + 1) := Nat.lt_log2_self
  have e : ofN n = double.word false (min ((n.log2 + 1022) * 4503599627370496 + n <<< (52 - n.log2)) double.infRung) := by
    unfold ofN Format.nearest
    rw [if_neg (by omega)]
    have hlast : max ((0 : Int) + (n.log2 : Int) - (double.fractionBits : Int)) double.leastPlace = (n.log2 : Int) - 52 := by
      rw [lp, show double.fractionBits = 52 from rfl]; omega
    simp only [hlast]
    rw [show ((n.log2 : Int) - 52 - 0).toNat = 0 by omega, cut0, lp, bi, show ((n.log2 : Int) - 52 - (-1074)).toNat = n.log2 + 1022 by omega, show ((0 : Int) - ((n.log2 : Int) - 52)).toNat = 52 - n.log2 by omega]
  have hk : n <<< (52 - n.log2) = n * 2 ^ (52 - n.log2) := Nat.shiftLeft_eq _ _
  have hb1 : 4503599627370496 ≤ n * 2 ^ (52 - n.log2) := by
    calc 4503599627370496 = 2 ^ n.log2 * 2 ^ (52 - n.log2) := by rw [← Nat.pow_add, show n.log2 + (52 - n.log2) = 52 by omega]
      _ ≤ n * 2 ^ (52 - n.log2) := Nat.mul_le_mul_right _ hge
  have hb2 : n * 2 ^ (52 - n.log2) < 9007199254740992 := by
    calc n * 2 ^ (52 - n.log2) < 2 ^ (n.log2 + 1) * 2 ^ (52 - n.log2) := Nat.mul_lt_mul_of_pos_right hlt (Nat.pow_pos (by decide))
      _ = 9007199254740992 := by rw [← Nat.pow_add, show n.log2 + 1 + (52 - n.log2) = 53 by omega]
  generalize n * 2 ^ (52 - n.log2) = K at *
  rw [e, hk, ir, Nat.min_eq_left (by omega)]
  generalize hR : (n.log2 + 1022) * 4503599627370496 + K = R
  have hRl : R < 9218868437227405312 := by omega
  have hRg : 4503599627370496 ≤ R := by omega
  unfold Format.read
  simp only [rung false R (by rw [ir]; omega)]
  rw [bi, ir, if_neg (by omega), if_pos hRl]
  have hs : (double.word false R / double.signWeight % 2 == 1) = false := by
    rw [sw, show double.word false R = R from rfl, show R / 9223372036854775808 = 0 by omega]
    rfl
  rw [hs]
  exact ⟨4503599627370496 + R % 4503599627370496, _, by omega, rfl⟩

/-- The share of counts: a float, no NaN. -/
theorem div_ok (n u : Nat) (h0 : 0 < u) (h1 : u < 9007199254740992) : ∃ q, double.div (ofN n) (ofN u) = some q ∧ Ok (double.read q) := by
  obtain ⟨m, p, hm, e⟩ := ofN_pos u h0 h1
  unfold Format.div
  rw [e]
  rcases ofN_ok n with ⟨s, m', p', e'⟩ | ⟨s, e'⟩
  · rw [e']
    unfold Datum.quotient
    simp only
    rw [if_neg (by omega)]
    exact ⟨_, rfl, write_ok _ (.inl ⟨_, _, _, rfl⟩)⟩
  · rw [e']
    exact ⟨_, rfl, write_ok _ (.inr ⟨_, rfl⟩)⟩

/-- One less a float that is no NaN: no NaN. -/
theorem sub_ok (x q : Nat) (hx : ∃ s m p, double.read x = .number s m p) (hq : Ok (double.read q)) : ∃ r, double.sub x q = some r ∧ Ok (double.read r) := by
  obtain ⟨s, m, p, e⟩ := hx
  unfold Format.sub
  rw [e]
  rcases hq with ⟨s', m', p', e'⟩ | ⟨s', e'⟩
  · rw [e']
    exact ⟨_, rfl, write_ok _ (.inl ⟨_, _, _, rfl⟩)⟩
  · rw [e']
    exact ⟨_, rfl, write_ok _ (.inr ⟨_, rfl⟩)⟩
end Go.Proofs.Ytcmglbgnpiociab.Fl
