/- Great and small letters: what holds of every int. -/
import Derived.Test.YtlignhpbmbdoeaaDoorCase
namespace Go.Proofs.YtlignhpbmbdoeaaDoor
open Go.RowKit

def Gx.findN (T : List Gx.Row) (n : Nat) : Option Gx.Row := T.find? fun r => Nat.ble r.1 n && Nat.ble n r.2.1
theorem Gx.find_nat (T : List Gx.Row) (n : Nat) : Gx.find T (n : Int) = Gx.findN T n := by
  unfold Gx.find Gx.findN
  congr 1
  funext r
  rw [Bool.eq_iff_iff]
  simp
def Gx.oneWayN : List (Nat × Nat × Bool) := [(181, 924, false), (304, 105, true), (305, 73, false), (383, 83, false), (962, 931, false), (7838, 223, true), (8486, 969, true), (8490, 107, true), (8491, 229, true)]
def Gx.oneN (n : Nat) (g : Bool) : Option Nat := (Gx.oneWayN.find? fun e => Nat.beq e.1 n && e.2.2 == g).map (·.2.1)
def Gx.distN : List Nat := [1, 0, 8, 15, 16, 26, 32, 37, 38, 40, 48, 63, 64, 80]
def Gx.dN (v : Nat) : Nat := Gx.distN.getD v 0
theorem beq_ff (x y : Nat) : (Nat.beq x y = false) = (x ≠ y) := by
  apply propext
  constructor
  · intro h e; subst e; rw [Nat.beq_refl] at h; cases h
  · intro h
    cases hb : Nat.beq x y with
    | false => rfl
    | true => exact absurd (Nat.eq_of_beq_eq_true hb) h
/-- The great letter, the small one, as numbers. -/
def Gx.upN (n : Nat) : Nat :=
  match Gx.oneN n false with
  | some t => t
  | none =>
    match Gx.findN Gx.smallRows n with
    | none => n
    | some r => if Nat.beq r.2.2 0 && !Nat.beq ((n - r.1) % 2) 1 then n else if Nat.beq r.2.2 1 then n + 121 else n - Gx.dN r.2.2
def Gx.lwN (n : Nat) : Nat :=
  match Gx.oneN n true with
  | some t => t
  | none =>
    match Gx.findN Gx.greatRows n with
    | none => n
    | some r => if Nat.beq r.2.2 0 && !Nat.beq ((n - r.1) % 2) 0 then n else if Nat.beq r.2.2 1 then n - 121 else n + Gx.dN r.2.2
def Gx.tnN (n : Nat) : Nat := if Nat.beq (Gx.upN n) n then Gx.lwN n else Gx.upN n

theorem Gx.one_nat (n : Nat) (g : Bool) : Gx.one (n : Int) g = match Gx.oneN n g with | some t => ((t : Int), true) | none => (0, false) := by
  unfold Gx.one Gx.oneN
  have : Gx.oneWay = Gx.oneWayN.map fun e => ((e.1 : Int), (e.2.1 : Int), e.2.2) := rfl
  rw [this, List.find?_map]
  have e : ((fun e : Int × Int × Bool => e.1 == (n : Int) && e.2.2 == g) ∘ fun e : Nat × Nat × Bool => ((e.1 : Int), (e.2.1 : Int), e.2.2)) = fun e => Nat.beq e.1 n && e.2.2 == g := by
    funext e
    simp only [Function.comp]
    rw [Bool.eq_iff_iff]
    simp
    omega
  rw [e]
  cases Gx.oneWayN.find? fun e => Nat.beq e.1 n && e.2.2 == g <;> rfl

/-- A distance's number is one of the table, and it lies below the small letter. -/
def Gx.small_ok : Bool := Gx.smallRows.all fun r => Nat.ble r.2.2 13 && Nat.ble 64 r.1 && (Nat.beq r.2.2 1 || Nat.ble (Gx.dN r.2.2) r.1)
def Gx.great_ok : Bool := Gx.greatRows.all fun r => Nat.ble r.2.2 13 && (!Nat.beq r.2.2 1 || Nat.ble 121 r.1)

theorem Gx.ds_nat (v : Nat) (h : v ≤ 13) : Gx.ds v = if v = 1 then -121 else (Gx.dN v : Int) := by
  have : ∀ v, v < 14 → Gx.ds v = if v = 1 then -121 else (Gx.dN v : Int) := by decide
  exact this v (by omega)

theorem Gx.up_nat (n : Nat) : Gx.up (n : Int) = (Gx.upN n : Int) := by
  unfold Gx.up Gx.upN
  rw [Gx.one_nat]
  cases Gx.oneN n false with
  | some t => rfl
  | none =>
    simp only [Bool.false_eq_true, if_false]
    unfold Gx.din
    cases hf : Gx.find Gx.smallRows (n : Int) with
    | none => rw [Gx.find_nat] at hf; rw [hf]; simp
    | some r =>
      have hp := Gx.all_find (show Gx.small_ok = true from by decide +kernel) hf
      simp at hp
      obtain ⟨_, h1, h2⟩ := Gx.find_mem hf
      rw [Gx.find_nat] at hf
      rw [hf]
      simp only
      have hb : (Nat.beq r.2.2 0 && !Nat.beq ((n - r.1) % 2) 1) = decide (r.2.2 = 0 ∧ ((n : Int) - r.1) % 2 ≠ 1) := by
        rw [Bool.eq_iff_iff]; simp [beq_ff]; omega
      rw [hb]
      by_cases hc : r.2.2 = 0 ∧ ((n : Int) - r.1) % 2 ≠ 1
      · simp [hc]
      · rw [if_neg hc]
        simp only [hc, decide_false, Bool.false_eq_true, if_false]
        rw [Gx.ds_nat _ (by omega)]
        by_cases h1' : r.2.2 = 1
        · simp [h1']
        · have : (Nat.beq r.2.2 1) = false := by rw [beq_ff]; exact h1'
          rw [this, if_neg h1']
          simp only [Bool.false_eq_true, if_false]
          have := hp.2
          omega

theorem Gx.lw_nat (n : Nat) : Gx.lw (n : Int) = (Gx.lwN n : Int) := by
  unfold Gx.lw Gx.lwN
  rw [Gx.one_nat]
  cases Gx.oneN n true with
  | some t => rfl
  | none =>
    simp only [Bool.false_eq_true, if_false]
    unfold Gx.din
    cases hf : Gx.find Gx.greatRows (n : Int) with
    | none => rw [Gx.find_nat] at hf; rw [hf]; simp
    | some r =>
      have hp := Gx.all_find (show Gx.great_ok = true from by decide +kernel) hf
      simp [beq_ff] at hp
      obtain ⟨_, h1, h2⟩ := Gx.find_mem hf
      rw [Gx.find_nat] at hf
      rw [hf]
      simp only
      have hb : (Nat.beq r.2.2 0 && !Nat.beq ((n - r.1) % 2) 0) = decide (r.2.2 = 0 ∧ ((n : Int) - r.1) % 2 ≠ 0) := by
        rw [Bool.eq_iff_iff]; simp [beq_ff]; omega
      rw [hb]
      by_cases hc : r.2.2 = 0 ∧ ((n : Int) - r.1) % 2 ≠ 0
      · simp [hc]
      · rw [if_neg hc]
        simp only [hc, decide_false, Bool.false_eq_true, if_false]
        rw [Gx.ds_nat _ (by omega)]
        by_cases h1' : r.2.2 = 1
        · simp [h1']; omega
        · have : (Nat.beq r.2.2 1) = false := by rw [beq_ff]; exact h1'
          rw [this, if_neg h1']
          simp only [Bool.false_eq_true, if_false]
          omega

theorem Gx.tn_nat (n : Nat) : Gx.tn (n : Int) = (Gx.tnN n : Int) := by
  unfold Gx.tn Gx.tnN
  rw [Gx.up_nat, Gx.lw_nat]
  by_cases h : Gx.upN n = n
  · simp [h]
  · have : Nat.beq (Gx.upN n) n = false := by rw [beq_ff]; exact h
    rw [this, if_pos (by omega)]
    simp

/-- What 'lettered' asks of one number. -/
def Gx.letN (n : Nat) : Bool :=
  Nat.ble (Gx.upN n) 1114111 && Nat.ble (Gx.lwN n) 1114111 &&
  (Nat.beq (Gx.upN n) n || (Nat.beq (Gx.lwN n) n && Nat.beq (Gx.upN (Gx.upN n)) (Gx.upN n) && Nat.beq (Gx.upN (Gx.lwN (Gx.upN n))) (Gx.upN n) && Nat.beq (Gx.tnN n) (Gx.upN n))) &&
  (Nat.beq (Gx.lwN n) n || (Nat.beq (Gx.upN n) n && Nat.beq (Gx.lwN (Gx.lwN n)) (Gx.lwN n) && Nat.beq (Gx.lwN (Gx.upN (Gx.lwN n))) (Gx.lwN n) && Nat.beq (Gx.tnN n) (Gx.lwN n)))

/-- From n on, k numbers. -/
def Gx.run (p : Nat → Bool) : Nat → Nat → Bool
  | _, 0 => true
  | n, k + 1 => p n && Gx.run p (n + 1) k
theorem Gx.run_at {p : Nat → Bool} : ∀ {k n : Nat}, Gx.run p n k = true → ∀ i, n ≤ i → i < n + k → p i = true
  | 0, n, _, i, h1, h2 => by omega
  | k + 1, n, h, i, h1, h2 => by
    simp [Gx.run] at h
    by_cases hi : i = n
    · rw [hi]; exact h.1
    · exact Gx.run_at h.2 i (by omega) (by omega)

set_option maxRecDepth 100000 in
theorem Gx.let_small : (Gx.smallRows.all fun r => Gx.run Gx.letN r.1 (r.2.1 + 1 - r.1)) = true := by decide +kernel
set_option maxRecDepth 100000 in
theorem Gx.let_great : (Gx.greatRows.all fun r => Gx.run Gx.letN r.1 (r.2.1 + 1 - r.1)) = true := by decide +kernel
set_option maxRecDepth 100000 in
theorem Gx.let_one : (Gx.oneWayN.all fun e => Gx.letN e.1) = true := by decide +kernel
end Go.Proofs.YtlignhpbmbdoeaaDoor
