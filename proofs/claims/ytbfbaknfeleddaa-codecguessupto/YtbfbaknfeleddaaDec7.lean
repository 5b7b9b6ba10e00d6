/- How many bytes are high, how many atoms are raw. No Go in sight. -/
import Derived.Test.YtbfbaknfeleddaaDec5
namespace Go.Proofs.Ytbfbaknfeleddaa
open Go.RowKit

def Cx.hi8 (b : List Int) : Nat := b.countP (fun x => decide (128 ≤ x))
def Cx.neg8 (l : List Int) : Nat := l.countP (fun a => decide (a < 0))
def Cx.rw8 (b : List Int) : Nat := Cx.neg8 (Cx.dec 1 b)

theorem Cx.hi8_cut (b : List Int) (n : Nat) : Cx.hi8 b = Cx.hi8 (b.take n) + Cx.hi8 (b.drop n) := by
  unfold Cx.hi8
  rw [← List.countP_append, List.take_append_drop]

/-- One step: raw (and then a high byte), a row of high bytes, or ASCII. -/
theorem Cx.hr_step (b : List Int) (hb : Byt b) (hn : b ≠ []) (a : Int) (n : Nat) (hf : Cx.fst 1 b = (a, (n : Int))) :
    (-256 ≤ a ∧ a ≤ -1 ∧ n = 1 ∧ Cx.hi8 b = 1 + Cx.hi8 (b.drop n) ∧ Cx.rw8 b = 1 + Cx.rw8 (b.drop n)) ∨
    (0 ≤ a ∧ 1 < n ∧ Cx.hi8 b = n + Cx.hi8 (b.drop n) ∧ Cx.rw8 b = Cx.rw8 (b.drop n)) ∨
    (0 ≤ a ∧ n = 1 ∧ Cx.hi8 b = Cx.hi8 (b.drop n) ∧ Cx.rw8 b = Cx.rw8 (b.drop n)) := by
  have hr : Cx.rw8 b = (if a < 0 then 1 else 0) + Cx.rw8 (b.drop n) := by
    unfold Cx.rw8 Cx.neg8
    rw [Cx.dec_cons 1 b hn a n hf, List.countP_cons]
    simp only [decide_eq_true_eq]
    omega
  have hf8 : Cx.first8 b = (a, (n : Int)) := hf
  have hcut := Cx.hi8_cut b n
  have hpos : 0 < b.length := List.length_pos_iff.2 hn
  rcases Cx.fst8_cases b with ⟨h0, hl, e⟩ | ⟨hno, e⟩
  · rw [e, Prod.mk.injEq] at hf8
    obtain ⟨ha, hmn⟩ := hf8
    have htn : (Cx.mtch b).toNat = n := by omega
    have hrow := Cx.row_bytes b hb h0 hl
    rw [htn] at hrow ha
    rcases hrow with ⟨x, ht, hm, h1, h2⟩ | ⟨x, y, ht, hm, h1, h2, h3, h4⟩ | ⟨x, y, z, ht, hm, h1, h2, h3, h4, h5, h6⟩ | ⟨x, y, z, u, ht, hm, h1, h2, h3, h4, h5, h6, h7, h8⟩
    · right; right
      rw [ht] at ha hcut
      have ha' : a = x := ha.symm
      have hc : Cx.hi8 [x] = 0 := by unfold Cx.hi8; simp; omega
      rw [if_neg (by omega)] at hr
      exact ⟨by omega, by omega, by omega, by omega⟩
    · right; left
      rw [ht] at ha hcut
      have ha' : a = (x - 192) * 64 + (y - 128) := ha.symm
      have hc : Cx.hi8 [x, y] = 2 := by unfold Cx.hi8; simp [show (128 : Int) ≤ x by omega, h3]
      rw [if_neg (by omega)] at hr
      exact ⟨by omega, by omega, by omega, by omega⟩
    · right; left
      have hy : 128 ≤ Cx.rowLo x := by unfold Cx.rowLo; repeat' split <;> omega
      rw [ht] at ha hcut
      have ha' : a = ((x - 224) * 64 + (y - 128)) * 64 + (z - 128) := ha.symm
      have hc : Cx.hi8 [x, y, z] = 3 := by unfold Cx.hi8; simp [show (128 : Int) ≤ x by omega, show (128 : Int) ≤ y by omega, h5]
      rw [if_neg (by omega)] at hr
      exact ⟨by omega, by omega, by omega, by omega⟩
    · right; left
      have hy : 128 ≤ Cx.rowLo x := by unfold Cx.rowLo; repeat' split <;> omega
      rw [ht] at ha hcut
      have ha' : a = (((x - 240) * 64 + (y - 128)) * 64 + (z - 128)) * 64 + (u - 128) := ha.symm
      have hc : Cx.hi8 [x, y, z, u] = 4 := by unfold Cx.hi8; simp [show (128 : Int) ≤ x by omega, show (128 : Int) ≤ y by omega, h5, h7]
      rw [if_neg (by omega)] at hr
      exact ⟨by omega, by omega, by omega, by omega⟩
  · left
    rw [e, Prod.mk.injEq] at hf8
    obtain ⟨ha, hmn⟩ := hf8
    have hn1 : n = 1 := by omega
    subst hn1
    have hb0 := hb.at 0
    change 0 ≤ Cx.c0 b ∧ Cx.c0 b ≤ 255 at hb0
    have hc0 : 128 ≤ Cx.c0 b := by
      by_cases hc : Cx.c0 b ≤ 127
      · have r1 : Cx.rowN (Cx.c0 b) = 1 := by unfold Cx.rowN; rw [if_pos hc]
        have := Cx.mtch_yes b 1 (fun j h1 h2 => by omega) (.inl (by rw [r1]; decide))
        rw [r1] at this
        exact absurd ⟨by omega, by omega⟩ hno
      · omega
    rw [Cx.c0_take b hn] at hcut
    have hc : Cx.hi8 [Cx.c0 b] = 1 := by unfold Cx.hi8; simp [hc0]
    rw [if_pos (by omega)] at hr
    exact ⟨by omega, by omega, rfl, by omega, by omega⟩

/-- A raw atom is a high byte. -/
theorem Cx.rw_le : ∀ (m : Nat) (b : List Int), b.length ≤ m → Byt b → Cx.rw8 b ≤ Cx.hi8 b := by
  intro m
  induction m with
  | zero =>
    intro b hm _
    have : b = [] := List.length_eq_zero_iff.1 (by omega)
    subst this
    exact Nat.le_refl _
  | succ m ih =>
    intro b hm hb
    by_cases hn : b = []
    · subst hn; exact Nat.le_refl _
    · have hbd := Cx.fst_bd 1 b hn
      have hp : 0 < b.length := List.length_pos_iff.2 hn
      have e : Cx.fst 1 b = ((Cx.fst 1 b).1, ((Cx.fst 1 b).2.toNat : Int)) := Prod.ext rfl (by simp only; omega)
      have := ih (b.drop (Cx.fst 1 b).2.toNat) (by rw [List.length_drop]; omega) (hb.drop _)
      rcases Cx.hr_step b hb hn _ _ e with ⟨_, _, _, h1, h2⟩ | ⟨_, _, h1, h2⟩ | ⟨_, _, h1, h2⟩ <;> omega
end Go.Proofs.Ytbfbaknfeleddaa
