/- One turn of the reading, by what the trie says. -/
import Derived.Test.YtdbmgjkgfmdmjaaKRon0
namespace Go.Proofs.Ytdbmgjkgfmdmjaa
open Go.RowKit
theorem bgn_spec {L : List (List Int × Bd)} {l : List Int} {n : Nat} (h : bgn L l = some n) : n < l.length ∧ lkS L (l.take (n + 1)) ≠ 0 := by
  unfold bgn at h
  refine ⟨List.mem_range.1 (List.mem_of_find?_eq_some h), ?_⟩
  have h1 := List.find?_some h
  simpa using h1
theorem rst_ask {sl : Bool} {t : Rdg} {l : List Int} (hg : ¬ gow t (l.headD 0) = true) (hq : ¬ (l.headD 0 = 34 ∧ t.o = 0)) :
    rst sl t l = if bS (bLs sl t) l = 2 then .fin t cmZ 2
      else if bS (bLs sl t) l = 0 ∨ ((bX (bLs sl t) l).t = 1 ∧ (bB (bLs sl t) l).length = 0) then .fin t cmZ 0
      else if (bX (bLs sl t) l).t = 2 then .go (addO t (bX (bLs sl t) l).v ((l.length : Int) - (bB (bLs sl t) l).length))
      else .fin (endN t) (rcm t (bX (bLs sl t) l) (bB (bLs sl t) l)).1 (rcm t (bX (bLs sl t) l) (bB (bLs sl t) l)).2 := by
  unfold rst
  rw [if_neg hg, if_neg hq]
  generalize bLs sl t = L
  cases hb : bgn L l with
  | none =>
    have hS : bS L l = 0 := by unfold bS; rw [hb]; rfl
    rw [hS, if_neg (by omega), if_pos (.inl rfl)]
  | some n =>
    obtain ⟨hn, hne⟩ := bgn_spec hb
    have hS : bS L l = lkS L (l.take (n + 1)) := by unfold bS; rw [hb]; rfl
    have hX : bX L l = (lkV L (l.take (n + 1))).getD bd0 := by unfold bX; rw [hb]; rfl
    have hB : bB L l = l.drop (n + 1) := by unfold bB; rw [hb]; rfl
    have hl : (l.drop (n + 1)).length = l.length - (n + 1) := List.length_drop
    rw [hS, hX, hB, hl]
    dsimp only
    generalize (lkV L (l.take (n + 1))).getD bd0 = x
    by_cases h2 : lkS L (l.take (n + 1)) = 2
    · rw [if_pos h2, if_pos h2]
    · rw [if_neg h2, if_neg h2]
      by_cases h1 : x.t = 1 ∧ l.length = n + 1
      · rw [if_pos h1, if_pos (show lkS L (l.take (n + 1)) = 0 ∨ x.t = 1 ∧ l.length - (n + 1) = 0 from .inr ⟨h1.1, by omega⟩)]
      · have hno : ¬ (lkS L (l.take (n + 1)) = 0 ∨ x.t = 1 ∧ l.length - (n + 1) = 0) := by
          rintro (e | ⟨e1, e2⟩)
          · exact hne e
          · exact h1 ⟨e1, by omega⟩
        rw [if_neg h1, if_neg hno]
        have he : (l.length : Int) - ((l.length - (n + 1) : Nat) : Int) = (n : Int) + 1 := by omega
        rw [he]
theorem bB_lt {L : List (List Int × Bd)} {l : List Int} (h : bS L l ≠ 0) : (bB L l).length < l.length := by
  unfold bS at h
  unfold bB
  cases hb : bgn L l with
  | none => rw [hb] at h; exact absurd rfl h
  | some n =>
    obtain ⟨hn, _⟩ := bgn_spec hb
    show (l.drop (n + 1)).length < l.length
    rw [List.length_drop]
    omega
end Go.Proofs.Ytdbmgjkgfmdmjaa
