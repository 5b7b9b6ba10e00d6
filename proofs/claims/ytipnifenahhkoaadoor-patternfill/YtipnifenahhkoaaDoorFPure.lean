/- Fill, pure: what a replacement says. No Go in sight but the letters of Upper and Lower. -/
import Derived.Test.YtipnifenahhkoaaDoorCase
namespace Go.Proofs.YtipnifenahhkoaaDoor

/-- An order: what it gives, and the letter that turns what follows. -/
structure Od where
  gives : List Int
  letter : Int
def hexD (c : Int) : Option Int := if 48 ≤ c ∧ c ≤ 57 then some (c - 48) else if 97 ≤ c ∧ c ≤ 102 then some (c - 97 + 10) else if 65 ≤ c ∧ c ≤ 70 then some (c - 65 + 10) else none
def isL (c : Int) : Bool := (decide (97 ≤ c) && decide (c ≤ 122)) || (decide (65 ≤ c) && decide (c ≤ 90))
def isD (c : Int) : Bool := decide (48 ≤ c) && decide (c ≤ 57)
/-- The places that a group took, within the line. -/
def tkF (mt : List Int) (k : Nat) : Nat := (max (mt[2 * k]?.getD 0) 0).toNat
def tkT (line mt : List Int) (k : Nat) : Nat := (min (mt[2 * k + 1]?.getD 0) (line.length : Int)).toNat
def tak (line mt : List Int) (k : Nat) : List Int := (line.take (tkT line mt k)).drop (tkF mt k)
/-- Two hexadecimal digits from a place on. -/
def hx2 (src : List Int) (p : Nat) : Option Int :=
  if src.length ≤ p then none else match hexD (src[p]?.getD 0) with
    | none => none
    | some a => if src.length ≤ p + 1 then none else match hexD (src[p + 1]?.getD 0) with
      | none => none
      | some b => some (a * 16 + b)
/-- What a letter behind a backslash gives, that is no order of its own. -/
def sgn (src : List Int) (p : Nat) : Option (Int × Nat) :=
  if src[p]?.getD 0 = 116 then some (9, p + 1) else if src[p]?.getD 0 = 101 then some (27, p + 1) else if src[p]?.getD 0 = 120 then (hx2 src (p + 1)).map (fun v => (-1 - v, p + 3)) else none
/-- What stands behind a backslash, from the place p on. -/
def bsl (line mt src : List Int) (p : Nat) : Option (Od × Nat) :=
  if src.length ≤ p then none
  else if src[p]?.getD 0 = 110 ∨ src[p]?.getD 0 = 114 then some (⟨[10], 0⟩, p + 1)
  else if src[p]?.getD 0 = 117 ∨ src[p]?.getD 0 = 108 ∨ src[p]?.getD 0 = 85 ∨ src[p]?.getD 0 = 76 ∨ src[p]?.getD 0 = 69 then some (⟨[], src[p]?.getD 0⟩, p + 1)
  else if isL (src[p]?.getD 0) = true then (sgn src p).map (fun x => (⟨[x.1], 0⟩, x.2))
  else if isD (src[p]?.getD 0) = true then some (⟨tak line mt (src[p]?.getD 0 - 48).toNat, 0⟩, p + 1)
  else some (⟨[src[p]?.getD 0], 0⟩, p + 1)
/-- One order, from the place p on: what it is, and the place behind it. -/
def ste (line mt src : List Int) (p : Nat) : Option (Od × Nat) :=
  if src[p]?.getD 0 = 38 then some (⟨tak line mt 0, 0⟩, p + 1)
  else if src[p]?.getD 0 = 92 then bsl line mt src (p + 1)
  else some (⟨[src[p]?.getD 0], 0⟩, p + 1)
theorem hx2_le {src : List Int} {p : Nat} {v : Int} (h : hx2 src p = some v) : p + 2 ≤ src.length := by
  unfold hx2 at h
  split at h
  · cases h
  · split at h
    · cases h
    · split at h
      · cases h
      · omega
theorem sgn_le {src : List Int} {p : Nat} {x : Int} {q : Nat} (h : sgn src p = some (x, q)) (hp : p < src.length) : p < q ∧ q ≤ src.length := by
  unfold sgn at h
  split at h
  · cases h; omega
  split at h
  · cases h; omega
  split at h
  · cases hx : hx2 src (p + 1) with
    | none => rw [hx] at h; cases h
    | some v =>
      rw [hx] at h
      cases h
      have := hx2_le hx
      omega
  · cases h
theorem bsl_le {line mt src : List Int} {p : Nat} {o : Od} {q : Nat} (h : bsl line mt src p = some (o, q)) : p < q ∧ q ≤ src.length := by
  unfold bsl at h
  split at h
  · cases h
  split at h
  · cases h; omega
  split at h
  · cases h; omega
  split at h
  · cases hx : sgn src p with
    | none => rw [hx] at h; cases h
    | some x =>
      obtain ⟨x1, x2⟩ := x
      rw [hx] at h
      cases h
      exact sgn_le hx (by omega)
  split at h
  · cases h; omega
  · cases h; omega
theorem ste_le {line mt src : List Int} {p : Nat} {o : Od} {q : Nat} (h : ste line mt src p = some (o, q)) (hp : p < src.length) : p < q ∧ q ≤ src.length := by
  unfold ste at h
  split at h
  · cases h; omega
  split at h
  · have := bsl_le h
    omega
  · cases h; omega
/-- All orders from a place on. -/
def prs (line mt src : List Int) : Nat → Nat → Option (List Od)
  | 0, p => if src.length ≤ p then some [] else none
  | f + 1, p => if src.length ≤ p then some [] else match ste line mt src p with
    | none => none
    | some (o, q) => (prs line mt src f q).map (o :: ·)
theorem prs_more (line mt src : List Int) : ∀ (f g p : Nat), src.length - p ≤ f → src.length - p ≤ g → prs line mt src f p = prs line mt src g p := by
  intro f
  induction f with
  | zero =>
    intro g p hf hg
    have h : src.length ≤ p := by omega
    cases g with
    | zero => rfl
    | succ g => simp only [prs, if_pos h]
  | succ f ih =>
    intro g p hf hg
    by_cases h : src.length ≤ p
    · cases g with
      | zero => simp only [prs, if_pos h]
      | succ g => simp only [prs, if_pos h]
    · cases g with
      | zero => omega
      | succ g =>
        simp only [prs, if_neg h]
        cases hs : ste line mt src p with
        | none => rfl
        | some x =>
          obtain ⟨o, q⟩ := x
          have := ste_le hs (by omega)
          simp only [ih g q (by omega) (by omega)]
def par (line mt src : List Int) (p : Nat) : Option (List Od) := prs line mt src src.length p
theorem par_end (line mt src : List Int) (p : Nat) (h : src.length ≤ p) : par line mt src p = some [] := by
  unfold par
  cases hn : src.length with
  | zero => rw [prs, if_pos h]
  | succ n => rw [prs, if_pos h]
theorem par_step (line mt src : List Int) (p : Nat) (h : p < src.length) : par line mt src p = match ste line mt src p with
    | none => none
    | some (o, q) => (par line mt src q).map (o :: ·) := by
  unfold par
  cases hn : src.length with
  | zero => omega
  | succ n =>
    rw [prs, if_neg (by omega)]
    cases hs : ste line mt src p with
    | none => rfl
    | some x =>
      obtain ⟨o, q⟩ := x
      have := ste_le hs h
      simp only [prs_more line mt src n (n + 1) q (by omega) (by omega)]
/-- What an atom becomes by a letter. -/
def tur (a l : Int) : Int := if l = 117 ∨ l = 85 then Gx.up a else if l = 108 ∨ l = 76 then Gx.lw a else a
/-- The two letters behind an order's own. -/
def nxO (once : Int) (l : Int) : Int := if l = 117 ∨ l = 108 then l else once
def nxS (stay : Int) (l : Int) : Int := if l = 85 ∨ l = 76 ∨ l = 69 then l else stay
/-- What is given under two letters. -/
def giv (once stay : Int) : List Int → List Int
  | [] => []
  | a :: r => (if once ≠ 0 then tur a once else tur a stay) :: r.map (tur · stay)
def onc (once : Int) (l : List Int) : Int := if l = [] then once else 0
def oby (once stay : Int) : List Od → List Int
  | [] => []
  | o :: r => giv (nxO once o.letter) (nxS stay o.letter) o.gives ++ oby (onc (nxO once o.letter) o.gives) (nxS stay o.letter) r
def siz (os : List Od) : Nat := (os.map fun o => o.gives.length).sum
theorem giv_len (once stay : Int) (l : List Int) : (giv once stay l).length = l.length := by
  cases l <;> simp [giv]
theorem oby_len : ∀ (os : List Od) (once stay : Int), (oby once stay os).length = siz os
  | [], _, _ => by simp [oby, siz]
  | o :: r, once, stay => by
    have := oby_len r (onc (nxO once o.letter) o.gives) (nxS stay o.letter)
    simp only [oby, List.length_append, giv_len, this, siz, List.map_cons, List.sum_cons]
/-- Fill: the ints, and the error. -/
def fll (rep line mt : List Int) : List Int × Int :=
  if 256 < rep.length then ([], 3) else match par line mt rep 0 with
    | none => ([], 102)
    | some os => if 140000 < siz os then ([], 3) else (oby 0 0 os, 0)
end Go.Proofs.YtipnifenahhkoaaDoor
