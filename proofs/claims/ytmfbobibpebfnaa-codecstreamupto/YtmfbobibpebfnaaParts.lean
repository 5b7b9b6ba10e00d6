/- Bytes in parts: what waits, what is told. No Go in sight. -/
import Derived.Test.YtmfbobibpebfnaaWaits
namespace Go.Proofs.Ytmfbobibpebfnaa

theorem Cx.c0_app (b d : List Int) (hn : b ≠ []) : Cx.c0 (b ++ d) = Cx.c0 b := by
  unfold Cx.c0
  rw [List.getElem?_append_left (List.length_pos_iff.2 hn)]
theorem Cx.at_app (b d : List Int) (j : Nat) (h : j < b.length) : (b ++ d)[j]?.getD 0 = b[j]?.getD 0 := by rw [List.getElem?_append_left h]

theorem Cx.mtch_app (b d : List Int) (hn : b ≠ []) (h : Cx.mtch b ≤ b.length) : Cx.mtch (b ++ d) = Cx.mtch b := by
  have hc := Cx.c0_app b d hn
  have hlen : (b ++ d).length = b.length + d.length := List.length_append
  have hN := Cx.rowN_bd (Cx.c0 b)
  by_cases hok : Cx.okAll b = true
  · have hm : Cx.mtch b = Cx.rowN (Cx.c0 b) := by unfold Cx.mtch; rw [if_pos hok]
    rw [hm] at h ⊢
    have e : ∀ j : Nat, (j : Int) < Cx.rowN (Cx.c0 b) → Cx.okAt (b ++ d) j = Cx.okAt b j := by
      intro j hj
      have hjl : j < b.length := by omega
      unfold Cx.okAt
      rw [hc, Cx.at_app b d j hjl, decide_eq_false (show ¬ b.length ≤ j by omega), decide_eq_false (show ¬ (b ++ d).length ≤ j by omega)]
    have hok2 : Cx.okAll (b ++ d) = true := by
      unfold Cx.okAll at hok ⊢
      rw [hc]
      simp only [Bool.and_eq_true, Bool.or_eq_true, decide_eq_true_eq] at hok ⊢
      obtain ⟨⟨h1, h2⟩, h3⟩ := hok
      refine ⟨⟨?_, ?_⟩, ?_⟩
      · rcases h1 with h1 | h1
        · exact .inl h1
        · by_cases h' : Cx.rowN (Cx.c0 b) < 2
          · exact .inl h'
          · exact .inr (by rw [e 1 (by omega)]; exact h1)
      · rcases h2 with h1 | h1
        · exact .inl h1
        · by_cases h' : Cx.rowN (Cx.c0 b) < 3
          · exact .inl h'
          · exact .inr (by rw [e 2 (by omega)]; exact h1)
      · rcases h3 with h1 | h1
        · exact .inl h1
        · by_cases h' : Cx.rowN (Cx.c0 b) < 4
          · exact .inl h'
          · exact .inr (by rw [e 3 (by omega)]; exact h1)
    unfold Cx.mtch
    rw [if_pos hok2, hc]
  · have hm : Cx.mtch b = 0 := by unfold Cx.mtch; rw [if_neg hok]
    rw [hm]
    have hno : Cx.okAll (b ++ d) ≠ true := by
      intro h2
      apply hok
      have e : ∀ j : Nat, Cx.okAt (b ++ d) j = true → Cx.okAt b j = true := by
        intro j hj
        by_cases hjl : j < b.length
        · unfold Cx.okAt at hj ⊢
          rw [hc, Cx.at_app b d j hjl, decide_eq_false (show ¬ (b ++ d).length ≤ j by omega)] at hj
          rw [decide_eq_false (show ¬ b.length ≤ j by omega)]
          exact hj
        · unfold Cx.okAt
          rw [decide_eq_true (show b.length ≤ j by omega)]
          rfl
      unfold Cx.okAll at h2 ⊢
      rw [hc] at h2
      simp only [Bool.and_eq_true, Bool.or_eq_true, decide_eq_true_eq] at h2 ⊢
      exact ⟨⟨h2.1.1.imp id (e 1), h2.1.2.imp id (e 2)⟩, h2.2.imp id (e 3)⟩
    unfold Cx.mtch
    rw [if_neg hno]

theorem Cx.wv_app (k : Int) (b d : List Int) (h : 2 ≤ b.length) : Cx.wv k (b ++ d) = Cx.wv k b := by
  unfold Cx.wv
  rw [Cx.at_app b d 0 (by omega), Cx.at_app b d 1 (by omega)]

theorem Cx.first16_app (k : Int) (b d : List Int) (hn : b ≠ []) (h : Cx.wtW k b = false) : Cx.first16 k (b ++ d) = Cx.first16 k b := by
  have hp : 0 < b.length := List.length_pos_iff.2 hn
  have hlen : (b ++ d).length = b.length + d.length := List.length_append
  unfold Cx.wtW at h
  simp only [Bool.or_eq_false_iff, Bool.and_eq_false_iff, decide_eq_false_iff_not] at h
  obtain ⟨h1, h2⟩ := h
  have hw := Cx.wv_app k b d (by omega)
  unfold Cx.first16
  rw [if_neg h1, if_neg (by omega : ¬ (b ++ d).length = 1)]
  by_cases h4 : b.length < 4
  · have hu : Cx.hiU (Cx.wv k b) = false := by
      rcases h2 with h2 | h2
      · omega
      · exact h2
    have e1 : Cx.isP k (b ++ d) = false := by unfold Cx.isP; rw [hw, hu]; simp
    have e2 : Cx.isP k b = false := by unfold Cx.isP; rw [hu]; simp
    rw [e1, e2, hw]
    simp only [Bool.false_eq_true, if_false]
  · have hd : Cx.wv k ((b ++ d).drop 2) = Cx.wv k (b.drop 2) := by
      rw [List.drop_append_of_le_length (by omega)]
      exact Cx.wv_app k (b.drop 2) d (by rw [List.length_drop]; omega)
    have e1 : Cx.isP k (b ++ d) = Cx.isP k b := by
      unfold Cx.isP
      rw [hw, hd, decide_eq_true (show 4 ≤ b.length by omega), decide_eq_true (show 4 ≤ (b ++ d).length by omega)]
    rw [e1, hw]
    unfold Cx.pairV
    rw [hw, hd]

/-- What does not wait is not changed by bytes to come. -/
theorem Cx.fst_app (enc : Int) (b d : List Int) (hn : b ≠ []) (h : Cx.wt enc b = false) : Cx.fst enc (b ++ d) = Cx.fst enc b := by
  unfold Cx.wt at h
  unfold Cx.fst
  split
  · rename_i h1
    rw [if_pos h1] at h
    have h' : Cx.mtch b ≤ b.length := by simpa using h
    have hm := Cx.mtch_app b d hn h'
    have hlen : (b ++ d).length = b.length + d.length := List.length_append
    unfold Cx.first8
    rw [hm, Cx.c0_app b d hn]
    by_cases h0 : 0 < Cx.mtch b
    · rw [if_pos ⟨h0, by omega⟩, if_pos ⟨h0, h'⟩, List.take_append_of_le_length (by omega)]
    · rw [if_neg (by omega), if_neg (by omega)]
  · rename_i h1
    rw [if_neg h1] at h
    split
    · rename_i h2
      rw [if_pos h2] at h
      exact Cx.first16_app 0 b d hn h
    · rename_i h2
      rw [if_neg h2] at h
      split
      · rename_i h3
        rw [if_pos h3] at h
        exact Cx.first16_app 1 b d hn h
      · rw [Cx.c0_app b d hn]

/-- What waits is short. -/
theorem Cx.wt_short (enc : Int) (b : List Int) (h : Cx.wt enc b = true) : b.length ≤ 3 := by
  unfold Cx.wt at h
  split at h
  · have := Cx.mtch_bd b
    simp at h
    omega
  · split at h
    · unfold Cx.wtW at h
      simp at h
      omega
    · split at h
      · unfold Cx.wtW at h
        simp at h
        omega
      · cases h

/-- Feed: the atoms that are certain, and what waits. -/
def Cx.fdF (enc : Int) : Nat → List Int → List Int × List Int
  | 0, b => ([], b)
  | f + 1, b => if b = [] then ([], b) else if Cx.wt enc b = true then ([], b) else ((Cx.fst enc b).1 :: (Cx.fdF enc f (b.drop (Cx.fst enc b).2.toNat)).1, (Cx.fdF enc f (b.drop (Cx.fst enc b).2.toNat)).2)
def Cx.fd (enc : Int) (b : List Int) : List Int × List Int := Cx.fdF enc b.length b

theorem Cx.fdF_more (enc : Int) : ∀ (f g : Nat) (b : List Int), b.length ≤ f → b.length ≤ g → Cx.fdF enc f b = Cx.fdF enc g b := by
  intro f
  induction f with
  | zero =>
    intro g b hf _
    have : b = [] := List.length_eq_zero_iff.1 (by omega)
    subst this
    cases g with
    | zero => rfl
    | succ g => simp [Cx.fdF]
  | succ f ih =>
    intro g b hf hg
    by_cases hn : b = []
    · subst hn
      cases g with
      | zero => simp [Cx.fdF]
      | succ g => simp [Cx.fdF]
    · have hp : 0 < b.length := List.length_pos_iff.2 hn
      have hb := Cx.fst_bd enc b hn
      cases g with
      | zero => omega
      | succ g =>
        simp only [Cx.fdF, if_neg hn]
        rw [ih g (b.drop (Cx.fst enc b).2.toNat) (by rw [List.length_drop]; omega) (by rw [List.length_drop]; omega)]

theorem Cx.fd_stop (enc : Int) (b : List Int) (h : b = [] ∨ Cx.wt enc b = true) : Cx.fd enc b = ([], b) := by
  unfold Cx.fd
  cases hl : b.length with
  | zero => rfl
  | succ n =>
    have hn : b ≠ [] := by intro h; subst h; simp at hl
    rcases h with h | h
    · exact absurd h hn
    · simp only [Cx.fdF, if_neg hn, if_pos h]
theorem Cx.fd_go (enc : Int) (b : List Int) (hn : b ≠ []) (h : Cx.wt enc b = false) (a : Int) (n : Nat) (hf : Cx.fst enc b = (a, (n : Int))) : Cx.fd enc b = (a :: (Cx.fd enc (b.drop n)).1, (Cx.fd enc (b.drop n)).2) := by
  have hp : 0 < b.length := List.length_pos_iff.2 hn
  have hb := Cx.fst_bd enc b hn
  rw [hf] at hb
  simp only at hb
  unfold Cx.fd
  cases hl : b.length with
  | zero => omega
  | succ m =>
    simp only [Cx.fdF, if_neg hn, h, Bool.false_eq_true, if_false, hf, Int.toNat_natCast]
    rw [Cx.fdF_more enc m (b.drop n).length (b.drop n) (by rw [List.length_drop]; omega) (Nat.le_refl _)]

/-- The law of parts: whatever comes behind, what was told is told, and what waits is read with what comes. -/
theorem Cx.fd_dec (enc : Int) : ∀ (f : Nat) (b : List Int), b.length ≤ f → (∀ d, Cx.dec enc (b ++ d) = (Cx.fd enc b).1 ++ Cx.dec enc ((Cx.fd enc b).2 ++ d)) ∧ (Cx.fd enc b).2.length ≤ 3 ∧ (Cx.fd enc b).2.length ≤ b.length ∧ (∃ n, (Cx.fd enc b).2 = b.drop n) ∧ (Cx.fd enc b).1.length + (Cx.fd enc b).2.length ≤ b.length := by
  intro f
  induction f with
  | zero =>
    intro b hf
    have : b = [] := List.length_eq_zero_iff.1 (by omega)
    subst this
    rw [Cx.fd_stop enc [] (.inl rfl)]
    exact ⟨fun d => rfl, by simp, by simp, ⟨0, rfl⟩, by simp⟩
  | succ f ih =>
    intro b hf
    by_cases hn : b = []
    · subst hn
      rw [Cx.fd_stop enc [] (.inl rfl)]
      exact ⟨fun d => rfl, by simp, by simp, ⟨0, rfl⟩, by simp⟩
    · cases hw : Cx.wt enc b with
      | true =>
        rw [Cx.fd_stop enc b (.inr hw)]
        exact ⟨fun d => rfl, Cx.wt_short enc b hw, Nat.le_refl _, ⟨0, rfl⟩, by simp⟩
      | false =>
        obtain ⟨a, n, hfst, hn1, hn2⟩ : ∃ (a : Int) (n : Nat), Cx.fst enc b = (a, (n : Int)) ∧ 1 ≤ n ∧ n ≤ b.length := by
          have := Cx.fst_bd enc b hn
          exact ⟨_, (Cx.fst enc b).2.toNat, Prod.ext rfl (by simp only; omega), by omega, by omega⟩
        have hl : (b.drop n).length = b.length - n := List.length_drop
        obtain ⟨i1, i2, i3, ⟨m, i4⟩, i5⟩ := ih (b.drop n) (by omega)
        rw [Cx.fd_go enc b hn hw a n hfst]
        simp only
        refine ⟨fun d => ?_, i2, by omega, ⟨n + m, by rw [i4, List.drop_drop]⟩, by simp only [List.length_cons]; omega⟩
        have hne : b ++ d ≠ [] := by simp [hn]
        rw [Cx.dec_cons enc (b ++ d) hne a n (by rw [Cx.fst_app enc b d hn hw, hfst]), List.drop_append_of_le_length hn2, i1 d]
        rfl
end Go.Proofs.Ytmfbobibpebfnaa
