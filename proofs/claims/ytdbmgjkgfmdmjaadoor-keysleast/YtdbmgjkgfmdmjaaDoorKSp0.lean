/- Spell: what it tells, pure. -/
import Derived.Test.YtdbmgjkgfmdmjaaDoorKNrm
import Derived.Test.YtdbmgjkgfmdmjaaDoorKFd1
namespace Go.Proofs.YtdbmgjkgfmdmjaaDoor
open Go.RowKit
/-- An operator's row with all that may stand behind it. -/
def tgF (r t : Rw) : Option Rw := (bhd t.b r.b.v).map fun b => ⟨b, r.ks ++ t.ks⟩
def tgs (r : Rw) : List Rw := tTar.filterMap (tgF r)
def exR (v : Int) (r : Rw) : List Rw := if r.b.v = v then (if r.b.t = 2 then tgs r else [r]) else []
def rwsOf (sl : Bool) (v : Int) : List Rw := (if sl = true then tSln else tNor).flatMap (exR v)
/-- A register and a count ahead of keys. -/
def nmK (reg : Int) : List Int := if reg = 0 then [] else [34, reg]
def nbK (cnt : Int) : List Int := if cnt > 0 then dg 20 cnt.toNat else []
def pfx (ks : List Int) (reg cnt : Int) : Option (List Int) :=
  if cnt = 0 ∨ ks.headD 0 ≠ 48 then some (nmK reg ++ nbK cnt ++ ks) else if reg = 0 then none else some (nbK cnt ++ nmK reg ++ ks)
def eqC (x y : Cm) : Bool := x.r == y.r && (x.c == y.c && (x.v == y.v && (x.m == y.m && x.a == y.a)))
theorem eqC_iff {x y : Cm} : eqC x y = true ↔ x = y := by
  obtain ⟨x1, x2, x3, x4, x5⟩ := x
  obtain ⟨y1, y2, y3, y4, y5⟩ := y
  simp [eqC]
def spR (c : Cm) (r : Rw) : Option (List Int) :=
  if eqC (cmdB r.b c.r c.c c.a) c = true then (if r.b.t = 1 then (if c.a = 27 then none else pfx (r.ks ++ [c.a]) c.r c.c) else pfx r.ks c.r c.c) else none
/-- slices.Compare. -/
def cmpL : List Int → List Int → Int
  | [], [] => 0
  | [], _ :: _ => -1
  | _ :: _, [] => 1
  | x :: xs, y :: ys => if x < y then -1 else if y < x then 1 else cmpL xs ys
def bfr (a b : List Int) : Bool := if a.length = b.length then decide (cmpL a b < 0) else decide (a.length < b.length)
def bstF (c : Cm) (best : Option (List Int)) (r : Rw) : Option (List Int) :=
  match spR c r, best with
  | none, b => b
  | some k, none => some k
  | some k, some b => if bfr k b = true then some k else some b
def spell (mode : Int) (c : Cm) : Option (List Int) :=
  if c.c < 0 ∨ c.c > 9999 ∨ c.r = 27 then none else (rwsOf (isl mode) c.v).foldl (bstF c) none
theorem pfx_ne {ks : List Int} {reg cnt : Int} {l : List Int} (hk : ks ≠ []) (h : pfx ks reg cnt = some l) : l ≠ [] ∧ l.length ≤ 22 + ks.length := by
  have h1 : (nmK reg).length ≤ 2 := by unfold nmK; split <;> simp
  have h2 : (nbK cnt).length ≤ 20 := by
    unfold nbK
    split
    · exact dg_len _ _
    · simp
  unfold pfx at h
  split at h
  · injection h with h
    rw [← h]
    exact ⟨by simp [hk], by simp only [List.length_append]; omega⟩
  · split at h
    · cases h
    · injection h with h
      rw [← h]
      exact ⟨by simp [hk], by simp only [List.length_append]; omega⟩
theorem spell_alive : spell 0 ⟨97, 6, 2, 21, 0⟩ = some [34, 97, 54, 100, 119] := by kernel_rfl
theorem keysN : ∀ r ∈ tNor, r.ks ≠ [] ∧ r.ks.length ≤ 2 := by decide
theorem keysS : ∀ r ∈ tSln, r.ks ≠ [] ∧ r.ks.length ≤ 2 := by decide
theorem keysT : ∀ r ∈ tTar, r.ks ≠ [] ∧ r.ks.length ≤ 2 := by decide
theorem lenNT : tNor.length ≤ 200 ∧ tSln.length ≤ 200 ∧ tTar.length ≤ 200 := by decide
theorem tgs_ok {r : Rw} (h : r.ks ≠ [] ∧ r.ks.length ≤ 2) : ∀ x ∈ tgs r, x.ks ≠ [] ∧ x.ks.length ≤ 4 := by
  intro x hx
  obtain ⟨t, ht, e⟩ := List.mem_filterMap.1 hx
  unfold tgF at e
  obtain ⟨b, _, e⟩ := Option.map_eq_some_iff.1 e
  have h2 := keysT t ht
  subst e
  refine ⟨by simp [h.1], ?_⟩
  simp only [List.length_append]
  omega
theorem rwsOf_ok (sl : Bool) (v : Int) : ∀ x ∈ rwsOf sl v, x.ks ≠ [] ∧ x.ks.length ≤ 4 := by
  intro x hx
  obtain ⟨r, hr, e⟩ := List.mem_flatMap.1 hx
  have h : r.ks ≠ [] ∧ r.ks.length ≤ 2 := by
    split at hr
    · exact keysS r hr
    · exact keysN r hr
  unfold exR at e
  split at e
  · split at e
    · exact tgs_ok h x e
    · rw [List.mem_singleton.1 e]
      exact ⟨h.1, by omega⟩
  · cases e
end Go.Proofs.YtdbmgjkgfmdmjaaDoor
