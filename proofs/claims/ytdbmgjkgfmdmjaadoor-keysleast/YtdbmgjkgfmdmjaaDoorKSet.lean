/- Two cells of a block, written as they are. -/
import Derived.Test.YtdbmgjkgfmdmjaaDoorGKit
namespace Go.Proofs.YtdbmgjkgfmdmjaaDoor
open Go.RowKit
theorem set_same {cs : Array Value} {o : Nat} {m s : Value} (hm : cs[o]? = some m) (hs : cs[o + 1]? = some s) : (cs.setIfInBounds o m).setIfInBounds (o + 1) s = cs := by
  apply Array.ext_getElem?
  intro j
  by_cases h1 : j = o + 1
  · subst h1
    rw [Array.getElem?_setIfInBounds_self_of_lt (by have := (Array.getElem?_eq_some_iff.1 hs).1; simpa using this), hs]
  · rw [Array.getElem?_setIfInBounds_ne (by omega)]
    by_cases h2 : j = o
    · subst h2
      rw [Array.getElem?_setIfInBounds_self_of_lt (Array.getElem?_eq_some_iff.1 hm).1, hm]
    · rw [Array.getElem?_setIfInBounds_ne (by omega)]
theorem grown_drew {a b : World} {r : Option Nat} (h : a.grownBy b r) : a.grownBy b.drew r := ⟨h.os, h.tape, h.output, h.size, h.block⟩
theorem set_last {V : Type} (v0 : List (Option V)) (n p : Nat) (hp : 0 < p) (hl : v0.length = n) (v : V) : (v0 ++ List.replicate p none).set (n + p - 1) (some v) = v0 ++ List.replicate (p - 1) none ++ [some v] := by
  obtain ⟨k, rfl⟩ : ∃ k, p = k + 1 := ⟨p - 1, by omega⟩
  rw [List.replicate_succ', ← List.append_assoc, List.set_append_right _ _ (by simp; omega)]
  have : n + (k + 1) - 1 - (v0 ++ List.replicate k (none : Option V)).length = 0 := by simp; omega
  rw [this]
  simp
end Go.Proofs.YtdbmgjkgfmdmjaaDoor
