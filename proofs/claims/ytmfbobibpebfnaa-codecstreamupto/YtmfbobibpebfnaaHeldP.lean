/- The document's stream against the code's: pure facts. No Go in sight. -/
import Derived.Test.YtmfbobibpebfnaaParts
import Derived.Test.YtmfbobibpebfnaaBegin
namespace Go.Proofs.Ytmfbobibpebfnaa

theorem Cx.wt_app (enc : Int) (b d : List Int) (hn : b ≠ []) (h : Cx.wt enc b = false) : Cx.wt enc (b ++ d) = false := by
  have hp : 0 < b.length := List.length_pos_iff.2 hn
  have hlen : (b ++ d).length = b.length + d.length := List.length_append
  have h16 : ∀ k, Cx.wtW k b = false → Cx.wtW k (b ++ d) = false := by
    intro k h
    unfold Cx.wtW at h ⊢
    simp only [Bool.or_eq_false_iff, Bool.and_eq_false_iff, decide_eq_false_iff_not] at h ⊢
    obtain ⟨h1, h2⟩ := h
    refine ⟨by omega, ?_⟩
    rw [Cx.wv_app k b d (by omega)]
    rcases h2 with h2 | h2
    · exact .inl (by omega)
    · exact .inr h2
  unfold Cx.wt at h ⊢
  split
  · rename_i he
    rw [if_pos he] at h
    simp only [decide_eq_false_iff_not] at h ⊢
    rw [Cx.mtch_app b d hn (by omega)]
    omega
  · rename_i he
    rw [if_neg he] at h
    split
    · rename_i he2; rw [if_pos he2] at h; exact h16 0 h
    · rename_i he2
      rw [if_neg he2] at h
      split
      · rename_i he3; rw [if_pos he3] at h; exact h16 1 h
      · rfl

theorem Cx.fst_nat (enc : Int) (b : List Int) (hn : b ≠ []) : ∃ a, ∃ n : Nat, Cx.fst enc b = (a, (n : Int)) ∧ 1 ≤ n ∧ n ≤ b.length := by
  have hb := Cx.fst_bd enc b hn
  exact ⟨(Cx.fst enc b).1, (Cx.fst enc b).2.toNat, by apply Prod.ext; rfl; simp only; omega, by omega, by omega⟩

/-- Fed in two parts is fed at once. -/
theorem Cx.fd_app (enc : Int) : ∀ (f : Nat) (b d : List Int), b.length ≤ f → Cx.fd enc (b ++ d) = ((Cx.fd enc b).1 ++ (Cx.fd enc ((Cx.fd enc b).2 ++ d)).1, (Cx.fd enc ((Cx.fd enc b).2 ++ d)).2) := by
  intro f
  induction f with
  | zero =>
    intro b d hf
    obtain rfl : b = [] := List.length_eq_zero_iff.1 (by omega)
    rw [Cx.fd_stop enc [] (.inl rfl)]
    rfl
  | succ f ih =>
    intro b d hf
    by_cases hn : b = []
    · subst hn; rw [Cx.fd_stop enc [] (.inl rfl)]; rfl
    · by_cases hw : Cx.wt enc b = true
      · rw [Cx.fd_stop enc b (.inr hw)]; rfl
      · have hw' : Cx.wt enc b = false := by simpa using hw
        obtain ⟨a, n, hfst, h1, h2⟩ := Cx.fst_nat enc b hn
        rw [Cx.fd_go enc b hn hw' a n hfst, Cx.fd_go enc (b ++ d) (by simp [hn]) (Cx.wt_app enc b d hn hw') a n (by rw [Cx.fst_app enc b d hn hw', hfst]), List.drop_append_of_le_length h2, ih (b.drop n) d (by simp; omega)]
        rfl

theorem Cx.mtch_val (b : List Int) : (Cx.okAll b = true ∧ Cx.mtch b = Cx.rowN (Cx.c0 b)) ∨ (Cx.okAll b ≠ true ∧ Cx.mtch b = 0) := by
  unfold Cx.mtch
  by_cases h : Cx.okAll b = true
  · exact .inl ⟨h, if_pos h⟩
  · exact .inr ⟨h, if_neg h⟩

theorem Cx.okAt_pre (b d : List Int) (hn : b ≠ []) (j : Nat) (h : Cx.okAt (b ++ d) j = true) : Cx.okAt b j = true := by
  have hlen : (b ++ d).length = b.length + d.length := List.length_append
  by_cases hjl : j < b.length
  · unfold Cx.okAt at h ⊢
    rw [Cx.c0_app b d hn, Cx.at_app b d j hjl, decide_eq_false (show ¬ (b ++ d).length ≤ j by omega)] at h
    rw [decide_eq_false (show ¬ b.length ≤ j by omega)]
    exact h
  · unfold Cx.okAt
    rw [decide_eq_true (show b.length ≤ j by omega)]; rfl

/-- The first atom of bytes that don't wait, read of a beginning that holds it. -/
theorem Cx.fst_pre (enc : Int) (b d : List Int) (hn : b ≠ []) (h : Cx.wt enc (b ++ d) = false) (hs : (Cx.fst enc (b ++ d)).2 ≤ b.length) : Cx.fst enc b = Cx.fst enc (b ++ d) := by
  have hp : 0 < b.length := List.length_pos_iff.2 hn
  have hlen : (b ++ d).length = b.length + d.length := List.length_append
  have hc := Cx.c0_app b d hn
  have h16 : ∀ k, Cx.wtW k (b ++ d) = false → (Cx.first16 k (b ++ d)).2 ≤ b.length → Cx.first16 k b = Cx.first16 k (b ++ d) := by
    intro k h hs
    unfold Cx.wtW at h
    simp only [Bool.or_eq_false_iff, decide_eq_false_iff_not] at h
    obtain ⟨h1, h2⟩ := h
    unfold Cx.first16 at hs ⊢
    rw [if_neg h1] at hs ⊢
    by_cases hP : Cx.isP k (b ++ d) = true
    · rw [if_pos hP] at hs ⊢
      simp only at hs
      have hPb : Cx.isP k b = true := by
        unfold Cx.isP at hP ⊢
        rw [Cx.wv_app k b d (by omega), List.drop_append_of_le_length (by omega), Cx.wv_app k (b.drop 2) d (by simp; omega)] at hP
        simp only [Bool.and_eq_true, decide_eq_true_eq] at hP ⊢
        exact ⟨⟨by omega, hP.1.2⟩, hP.2⟩
      rw [if_neg (by omega), if_pos hPb]
      unfold Cx.pairV
      rw [Cx.wv_app k b d (by omega), List.drop_append_of_le_length (by omega), Cx.wv_app k (b.drop 2) d (by simp; omega)]
    · rw [if_neg hP] at hs ⊢
      simp only at hs
      have hPb : ¬ Cx.isP k b = true := by
        intro hb
        apply hP
        unfold Cx.isP at hb ⊢
        simp only [Bool.and_eq_true, decide_eq_true_eq] at hb ⊢
        rw [Cx.wv_app k b d (by omega), List.drop_append_of_le_length (by omega), Cx.wv_app k (b.drop 2) d (by simp; omega)]
        exact ⟨⟨by omega, hb.1.2⟩, hb.2⟩
      rw [if_neg (by omega), if_neg hPb, Cx.wv_app k b d (by omega)]
  unfold Cx.fst at hs ⊢
  unfold Cx.wt at h
  split
  · rename_i he
    rw [if_pos he] at hs h
    simp only [decide_eq_false_iff_not] at h
    have hN := Cx.rowN_bd (Cx.c0 b)
    have yes : ∀ x : List Int, 0 < Cx.mtch x → Cx.mtch x ≤ x.length → Cx.first8 x = (Cx.val (x.take (Cx.mtch x).toNat), Cx.mtch x) := fun x h1 h2 => by unfold Cx.first8; rw [if_pos ⟨h1, h2⟩]
    have no : ∀ x : List Int, ¬ (0 < Cx.mtch x ∧ Cx.mtch x ≤ x.length) → Cx.first8 x = (-1 - Cx.c0 x, 1) := fun x h => by unfold Cx.first8; rw [if_neg h]
    rcases Cx.mtch_val (b ++ d) with ⟨ho, hm⟩ | ⟨ho, hm⟩
    · have hob : Cx.okAll b = true := by
        rw [Cx.okAll_iff] at ho ⊢
        intro j hj hr
        exact Cx.okAt_pre b d hn j (ho j hj (by rw [hc]; exact hr))
      have hmb : Cx.mtch b = Cx.mtch (b ++ d) := by rw [hm, hc]; unfold Cx.mtch; rw [if_pos hob]
      by_cases hz : 0 < Cx.mtch (b ++ d)
      · rw [yes (b ++ d) hz (by omega)] at hs ⊢
        simp only at hs
        rw [yes b (by omega) (by omega), hmb, List.take_append_of_le_length (by omega)]
      · rw [no (b ++ d) (by omega), no b (by omega), hc]
    · rw [no (b ++ d) (by omega), hc]
      refine no b fun hl => ?_
      have := Cx.mtch_app b d hn hl.2
      omega
  · rename_i he
    rw [if_neg he] at hs h
    split
    · rename_i he2; rw [if_pos he2] at hs h; exact h16 0 h hs
    · rename_i he2
      rw [if_neg he2] at hs h
      split
      · rename_i he3; rw [if_pos he3] at hs h; exact h16 1 h hs
      · rw [hc]

/-- What is certain, read alone, are the atoms told. -/
theorem Cx.fd_cut (enc : Int) : ∀ (f : Nat) (b : List Int), b.length ≤ f → Cx.dec enc (b.take (b.length - (Cx.fd enc b).2.length)) = (Cx.fd enc b).1 := by
  intro f
  induction f with
  | zero =>
    intro b hf
    obtain rfl : b = [] := List.length_eq_zero_iff.1 (by omega)
    rw [Cx.fd_stop enc [] (.inl rfl)]; rfl
  | succ f ih =>
    intro b hf
    by_cases hn : b = []
    · subst hn; rw [Cx.fd_stop enc [] (.inl rfl)]; rfl
    · by_cases hw : Cx.wt enc b = true
      · rw [Cx.fd_stop enc b (.inr hw)]
        simp only [Nat.sub_self, List.take_zero]
        rfl
      · have hw' : Cx.wt enc b = false := by simpa using hw
        obtain ⟨a, n, hfst, h1, h2⟩ := Cx.fst_nat enc b hn
        obtain ⟨_, _, hle, _, _⟩ := Cx.fd_dec enc _ (b.drop n) (Nat.le_refl _)
        rw [Cx.fd_go enc b hn hw' a n hfst]
        simp only
        rw [List.length_drop] at hle
        obtain ⟨m, hm⟩ : ∃ m, m = b.length - (Cx.fd enc (b.drop n)).2.length := ⟨_, rfl⟩
        rw [← hm]
        have hmn : n ≤ m := by omega
        have hml : (b.take m).length = m := by rw [List.length_take]; omega
        have hne : b.take m ≠ [] := List.length_pos_iff.1 (by omega)
        have hcat : b.take m ++ b.drop m = b := List.take_append_drop m b
        have hpre := Cx.fst_pre enc (b.take m) (b.drop m) hne (by rw [hcat]; exact hw') (by rw [hcat, hfst, hml]; simp only; omega)
        rw [hcat, hfst] at hpre
        rw [Cx.dec_cons enc _ hne a n hpre]
        have := ih (b.drop n) (by rw [List.length_drop]; omega)
        rw [List.length_drop] at this
        rw [← this, List.drop_take, show m - n = b.length - n - (Cx.fd enc (b.drop n)).2.length by omega]

/-- Held, UTF16: the odd byte, and the last unit where it is a high half. -/
theorem Cx.held16 (enc k : Int) (he : (enc = 2 ∧ k = 0) ∨ (enc = 3 ∧ k = 1)) : ∀ (f : Nat) (b : List Int), b.length ≤ f → (Cx.fd enc b).2.length = if 2 ≤ b.length ∧ Cx.hiU (Cx.wv k (b.drop (b.length - b.length % 2 - 2))) = true then b.length % 2 + 2 else b.length % 2 := by
  have ewt : ∀ b, Cx.wt enc b = Cx.wtW k b := by
    intro b; unfold Cx.wt
    rcases he with ⟨rfl, rfl⟩ | ⟨rfl, rfl⟩ <;> simp
  have efst : ∀ b, Cx.fst enc b = Cx.first16 k b := by
    intro b; unfold Cx.fst
    rcases he with ⟨rfl, rfl⟩ | ⟨rfl, rfl⟩ <;> simp
  intro f
  induction f with
  | zero =>
    intro b hf
    obtain rfl : b = [] := List.length_eq_zero_iff.1 (by omega)
    rw [Cx.fd_stop enc [] (.inl rfl), if_neg (by simp)]; rfl
  | succ f ih =>
    intro b hf
    by_cases hn : b = []
    · subst hn; rw [Cx.fd_stop enc [] (.inl rfl), if_neg (by simp)]; rfl
    · have hp : 0 < b.length := List.length_pos_iff.2 hn
      by_cases hw : Cx.wt enc b = true
      · rw [Cx.fd_stop enc b (.inr hw)]
        rw [ewt] at hw
        unfold Cx.wtW at hw
        simp only [Bool.or_eq_true, Bool.and_eq_true, decide_eq_true_eq] at hw
        rcases hw with hw | ⟨hw, hh⟩
        · rw [if_neg (by omega)]; simp only; omega
        · by_cases h1 : b.length = 1
          · rw [if_neg (by omega)]; simp only; omega
          · rw [if_pos ⟨by omega, by rw [show b.length - b.length % 2 - 2 = 0 by omega, List.drop_zero]; exact hh⟩]; simp only; omega
      · have hw' : Cx.wt enc b = false := by simpa using hw
        obtain ⟨a, n, hfst, h1, h2⟩ := Cx.fst_nat enc b hn
        rw [Cx.fd_go enc b hn hw' a n hfst]
        simp only
        rw [ih (b.drop n) (by rw [List.length_drop]; omega), List.length_drop, List.drop_drop]
        rw [ewt] at hw'
        unfold Cx.wtW at hw'
        simp only [Bool.or_eq_false_iff, decide_eq_false_iff_not] at hw'
        obtain ⟨g1, g2⟩ := hw'
        rw [efst] at hfst
        unfold Cx.first16 at hfst
        rw [if_neg g1] at hfst
        by_cases hP : Cx.isP k b = true
        · rw [if_pos hP] at hfst
          obtain rfl : n = 4 := by have := congrArg Prod.snd hfst; simp only at this; omega
          by_cases hr : 2 ≤ b.length - 4
          · rw [show (b.length - 4) % 2 = b.length % 2 by omega, show 4 + (b.length - 4 - b.length % 2 - 2) = b.length - b.length % 2 - 2 by omega]
            by_cases hh : Cx.hiU (Cx.wv k (b.drop (b.length - b.length % 2 - 2))) = true
            · rw [if_pos ⟨hr, hh⟩, if_pos ⟨by omega, hh⟩]
            · rw [if_neg (fun h => hh h.2), if_neg (fun h => hh h.2)]
          · rw [if_neg (fun h => hr h.1), if_neg]
            · omega
            · rintro ⟨_, hh⟩
              rw [show b.length - b.length % 2 - 2 = 2 by omega] at hh
              unfold Cx.isP at hP
              simp only [Bool.and_eq_true, decide_eq_true_eq] at hP
              have hlo := hP.2
              unfold Cx.loU at hlo
              unfold Cx.hiU at hh
              simp only [Bool.and_eq_true, decide_eq_true_eq] at hlo hh
              omega
        · rw [if_neg hP] at hfst
          obtain rfl : n = 2 := by have := congrArg Prod.snd hfst; simp only at this; omega
          by_cases hr : 2 ≤ b.length - 2
          · rw [show (b.length - 2) % 2 = b.length % 2 by omega, show 2 + (b.length - 2 - b.length % 2 - 2) = b.length - b.length % 2 - 2 by omega]
            by_cases hh : Cx.hiU (Cx.wv k (b.drop (b.length - b.length % 2 - 2))) = true
            · rw [if_pos ⟨hr, hh⟩, if_pos ⟨by omega, hh⟩]
            · rw [if_neg (fun h => hh h.2), if_neg (fun h => hh h.2)]
          · have g3 : Cx.hiU (Cx.wv k b) = false := by
              simp only [Bool.and_eq_false_iff, decide_eq_false_iff_not] at g2
              rcases g2 with g2 | g2
              · omega
              · exact g2
            rw [if_neg (fun h => hr h.1), if_neg]
            · omega
            · rintro ⟨_, hh⟩
              rw [show b.length - b.length % 2 - 2 = 0 by omega, List.drop_zero, g3] at hh
              cases hh

/-- Held, UTF8: one round of the document's loop. -/
theorem Cx.held8_stop (b : List Int) (hn : b ≠ []) (h : ∃ n k : Nat, b.length < n ∧ n ≤ 4 ∧ k < 2 ∧ (Cx.first8 (Cx.fillUp b n k)).2 = n) : (Cx.fd 1 b).2.length = b.length := by
  rw [Cx.fd_stop 1 b (.inr (by unfold Cx.wt; simp; exact (Cx.begin_iff b hn).1 h))]
theorem Cx.held8_go (b : List Int) (hn : b ≠ []) (h : ¬ (b.length ≤ 3 ∧ ∃ n k : Nat, b.length < n ∧ n ≤ 4 ∧ k < 2 ∧ (Cx.first8 (Cx.fillUp b n k)).2 = n)) : (Cx.fd 1 b).2.length = (Cx.fd 1 (b.drop (Cx.first8 b).2.toNat)).2.length := by
  have hw : Cx.wt 1 b = false := by
    cases hw : Cx.wt 1 b with
    | false => rfl
    | true =>
      exfalso
      apply h
      refine ⟨Cx.wt_short 1 b hw, (Cx.begin_iff b hn).2 ?_⟩
      unfold Cx.wt at hw
      simpa using hw
  obtain ⟨a, n, hf, h1, h2⟩ := Cx.fst_nat 1 b hn
  rw [Cx.fd_go 1 b hn hw a n hf]
  have : (Cx.first8 b).2.toNat = n := by
    have e : Cx.fst 1 b = Cx.first8 b := by unfold Cx.fst; simp
    rw [e] at hf
    rw [hf]; simp
  rw [this]
end Go.Proofs.Ytmfbobibpebfnaa
