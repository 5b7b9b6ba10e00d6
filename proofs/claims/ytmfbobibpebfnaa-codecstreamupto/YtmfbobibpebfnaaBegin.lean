/- Held, of the document, UTF8: do bytes begin a longer row? No Go in sight. -/
import Derived.Test.YtmfbobibpebfnaaDec
namespace Go.Proofs.Ytmfbobibpebfnaa.Cx

/-- The bytes, made n long with the least (k = 0) or the greatest (k = 1) that may follow. -/
def fillUp (b : List Int) (n k : Nat) : List Int := b ++ List.replicate (n - b.length) (128 + 63 * (k : Int))
theorem fillUp_len (b : List Int) (n k : Nat) (h : b.length ≤ n) : (fillUp b n k).length = n := by unfold fillUp; simp; omega
theorem fillUp_c0 (b : List Int) (n k : Nat) (hn : b ≠ []) : c0 (fillUp b n k) = c0 b := by
  unfold c0 fillUp; rw [List.getElem?_append_left (List.length_pos_iff.2 hn)]
theorem fillUp_in (b : List Int) (n k j : Nat) (h : j < b.length) : (fillUp b n k)[j]?.getD 0 = b[j]?.getD 0 := by
  unfold fillUp; rw [List.getElem?_append_left h]
theorem fillUp_out (b : List Int) (n k j : Nat) (h : b.length ≤ j) (hj : j < n) : (fillUp b n k)[j]?.getD 0 = 128 + 63 * (k : Int) := by
  unfold fillUp; rw [List.getElem?_append_right h, List.getElem?_replicate, if_pos (by omega)]; rfl

theorem okAll_iff (b : List Int) : okAll b = true ↔ ∀ j : Nat, 1 ≤ j → (j : Int) < rowN (c0 b) → okAt b j = true := by
  have hN := rowN_bd (c0 b)
  unfold okAll
  simp only [Bool.and_eq_true, Bool.or_eq_true, decide_eq_true_eq]
  constructor
  · rintro ⟨⟨h1, h2⟩, h3⟩ j hj hr
    have hj4 : j < 4 := by omega
    rcases j with _ | _ | _ | _ | j
    · omega
    · exact h1.resolve_left (by omega)
    · exact h2.resolve_left (by omega)
    · exact h3.resolve_left (by omega)
    · omega
  · intro h
    refine ⟨⟨?_, ?_⟩, ?_⟩
    · by_cases h' : rowN (c0 b) < 2
      · exact .inl h'
      · exact .inr (h 1 (by omega) (by omega))
    · by_cases h' : rowN (c0 b) < 3
      · exact .inl h'
      · exact .inr (h 2 (by omega) (by omega))
    · by_cases h' : rowN (c0 b) < 4
      · exact .inl h'
      · exact .inr (h 3 (by omega) (by omega))

theorem first8_size (b : List Int) (n : Nat) (h2 : 2 ≤ n) (hl : b.length = n) : (first8 b).2 = n ↔ mtch b = n := by
  unfold first8
  split
  · exact Iff.rfl
  · simp only
    constructor
    · intro h; omega
    · intro h; omega

/-- At one of the two ends a second byte may stand. -/
theorem row_end (c : Int) (h : 2 ≤ rowN c) : (rowLo c ≤ 128 ∧ 128 ≤ rowHi c) ∨ (rowLo c ≤ 191 ∧ 191 ≤ rowHi c) := by
  unfold rowN at h; unfold rowLo rowHi
  repeat' split at h
  all_goals first | omega | (repeat' split) <;> omega

/-- The bytes begin a longer row just when one of the two fillings is a whole row. -/
theorem begin_iff (b : List Int) (hn : b ≠ []) : (∃ n k : Nat, b.length < n ∧ n ≤ 4 ∧ k < 2 ∧ (first8 (fillUp b n k)).2 = n) ↔ (b.length : Int) < mtch b := by
  have hp : 0 < b.length := List.length_pos_iff.2 hn
  have hN := rowN_bd (c0 b)
  constructor
  · rintro ⟨n, k, hbn, h4, hk, h⟩
    have hl := fillUp_len b n k (by omega)
    rw [first8_size _ n (by omega) hl] at h
    have hc := fillUp_c0 b n k hn
    have hok : okAll (fillUp b n k) = true := by
      unfold mtch at h
      split at h
      · assumption
      · omega
    have hr : rowN (c0 b) = n := by
      unfold mtch at h
      rw [if_pos hok, hc] at h
      exact h
    rw [okAll_iff, hc] at hok
    have hb : okAll b = true := by
      rw [okAll_iff]
      intro j hj hr'
      by_cases hjl : j < b.length
      · have := hok j hj hr'
        unfold okAt at this ⊢
        rw [hc, fillUp_in b n k j hjl, decide_eq_false (show ¬ (fillUp b n k).length ≤ j by omega)] at this
        rw [decide_eq_false (show ¬ b.length ≤ j by omega)]
        exact this
      · unfold okAt
        rw [decide_eq_true (show b.length ≤ j by omega)]; rfl
    unfold mtch
    rw [if_pos hb, hr]
    omega
  · intro h
    have hok : okAll b = true := by
      unfold mtch at h
      split at h
      · assumption
      · omega
    have hm : mtch b = rowN (c0 b) := by unfold mtch; rw [if_pos hok]
    rw [hm] at h
    obtain ⟨n, hnn⟩ : ∃ n : Nat, rowN (c0 b) = n := ⟨(rowN (c0 b)).toNat, by omega⟩
    have key : ∀ k : Nat, k < 2 → (b.length = 1 → rowLo (c0 b) ≤ 128 + 63 * (k : Int) ∧ 128 + 63 * (k : Int) ≤ rowHi (c0 b)) → (first8 (fillUp b n k)).2 = n := by
      intro k hk hend
      have hl := fillUp_len b n k (by omega)
      have hc := fillUp_c0 b n k hn
      rw [first8_size _ n (by omega) hl]
      have hok2 : okAll (fillUp b n k) = true := by
        rw [okAll_iff, hc]
        intro j hj hr
        by_cases hjl : j < b.length
        · have := (okAll_iff b).1 hok j hj hr
          unfold okAt at this ⊢
          rw [decide_eq_false (show ¬ b.length ≤ j by omega)] at this
          rw [hc, fillUp_in b n k j hjl, decide_eq_false (show ¬ (fillUp b n k).length ≤ j by omega)]
          exact this
        · apply okAt_of
          rw [hc, fillUp_out b n k j (by omega) (by omega)]
          by_cases h1 : j = 1
          · unfold loJ hiJ
            rw [if_pos h1, if_pos h1]
            exact hend (by omega)
          · unfold loJ hiJ
            rw [if_neg h1, if_neg h1]
            omega
      unfold mtch
      rw [if_pos hok2, hc, hnn]
    rcases row_end (c0 b) (by omega) with he | he
    · exact ⟨n, 0, by omega, by omega, by omega, key 0 (by omega) (fun _ => by simpa using he)⟩
    · exact ⟨n, 1, by omega, by omega, by omega, key 1 (by omega) (fun _ => by simpa using he)⟩
end Go.Proofs.Ytmfbobibpebfnaa.Cx
