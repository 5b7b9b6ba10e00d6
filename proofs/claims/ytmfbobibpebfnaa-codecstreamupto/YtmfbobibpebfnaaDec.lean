/- What bytes mean: plain functions. No Go in sight. -/
import Derived.Test.YtmfbobibpebfnaaSpec
namespace Go.Proofs.Ytmfbobibpebfnaa.Cx

/-- Of a first byte: how many bytes its row has; from which to which the second may go. -/
def rowN (c : Int) : Int := if c ≤ 127 then 1 else if c < 194 then 0 else if c ≤ 223 then 2 else if c ≤ 239 then 3 else if c ≤ 244 then 4 else 0
def rowLo (c : Int) : Int := if c < 194 then 0 else if c = 224 then 160 else if c = 240 then 144 else if c ≤ 244 then 128 else 0
def rowHi (c : Int) : Int := if c < 194 then 0 else if c = 237 then 159 else if c = 244 then 143 else if c ≤ 244 then 191 else 0
def loJ (c : Int) (k : Nat) : Int := if k = 1 then rowLo c else 128
def hiJ (c : Int) (k : Nat) : Int := if k = 1 then rowHi c else 191
def c0 (b : List Int) : Int := b[0]?.getD 0

/-- May the byte at place j stand there (or is there none)? -/
def okAt (b : List Int) (j : Nat) : Bool := decide (b.length ≤ j) || (decide (loJ (c0 b) j ≤ b[j]?.getD 0) && decide (b[j]?.getD 0 ≤ hiJ (c0 b) j))
def okAll (b : List Int) : Bool :=
  (decide (rowN (c0 b) < 2) || okAt b 1) && (decide (rowN (c0 b) < 3) || okAt b 2) && (decide (rowN (c0 b) < 4) || okAt b 3)
/-- How many bytes the row has that bytes begin with or are the beginning of; 0: there is none. -/
def mtch (b : List Int) : Int := if okAll b = true then rowN (c0 b) else 0

theorem rowN_bd (c : Int) : 0 ≤ rowN c ∧ rowN c ≤ 4 := by unfold rowN; repeat' split <;> omega
theorem rowLo_bd (c : Int) : 0 ≤ rowLo c ∧ rowLo c ≤ 255 := by unfold rowLo; repeat' split <;> omega
theorem rowHi_bd (c : Int) : 0 ≤ rowHi c ∧ rowHi c ≤ 255 := by unfold rowHi; repeat' split <;> omega

theorem mtch_yes (b : List Int) (k : Nat) (hn : ∀ j, 1 ≤ j → j < k → okAt b j = true) (he : rowN (c0 b) ≤ k ∨ b.length ≤ k) : mtch b = rowN (c0 b) := by
  have hb := rowN_bd (c0 b)
  have ok : ∀ j : Nat, 1 ≤ j → (j : Int) < rowN (c0 b) → okAt b j = true := by
    intro j hj hr
    by_cases hjk : j < k
    · exact hn j hj hjk
    · rcases he with he | he
      · omega
      · unfold okAt; rw [decide_eq_true (show b.length ≤ j by omega), Bool.true_or]
  unfold mtch
  rw [if_pos]
  unfold okAll
  have q : ∀ j : Nat, 1 ≤ j → ∀ m : Int, m = (j : Int) + 1 → (decide (rowN (c0 b) < m) || okAt b j) = true := by
    intro j hj m hm
    by_cases h : rowN (c0 b) < m
    · rw [decide_eq_true h, Bool.true_or]
    · rw [ok j hj (by omega), Bool.or_true]
  rw [q 1 (by omega) 2 rfl, q 2 (by omega) 3 rfl, q 3 (by omega) 4 rfl]; rfl

theorem mtch_no (b : List Int) (k : Nat) (h1 : 1 ≤ k) (hr : (k : Int) < rowN (c0 b)) (hl : k < b.length) (hx : ¬ (loJ (c0 b) k ≤ b[k]?.getD 0 ∧ b[k]?.getD 0 ≤ hiJ (c0 b) k)) : mtch b = 0 := by
  have hb := rowN_bd (c0 b)
  have ho : okAt b k = false := by
    unfold okAt
    rw [decide_eq_false (show ¬ b.length ≤ k by omega), Bool.false_or]
    simp only [Bool.and_eq_false_iff, decide_eq_false_iff_not]
    rcases Classical.em (loJ (c0 b) k ≤ b[k]?.getD 0) with h | h
    · exact .inr fun h' => hx ⟨h, h'⟩
    · exact .inl h
  unfold mtch
  rw [if_neg]
  intro h
  unfold okAll at h
  simp only [Bool.and_eq_true, Bool.or_eq_true, decide_eq_true_eq] at h
  obtain ⟨⟨h2, h3⟩, h4⟩ := h
  have e : k = 1 ∨ k = 2 ∨ k = 3 := by omega
  rcases e with rfl | rfl | rfl
  · rcases h2 with h | h
    · omega
    · rw [h] at ho; cases ho
  · rcases h3 with h | h
    · omega
    · rw [h] at ho; cases ho
  · rcases h4 with h | h
    · omega
    · rw [h] at ho; cases ho

theorem okAt_of (b : List Int) (k : Nat) (h : loJ (c0 b) k ≤ b[k]?.getD 0 ∧ b[k]?.getD 0 ≤ hiJ (c0 b) k) : okAt b k = true := by
  unfold okAt
  rw [decide_eq_true h.1, decide_eq_true h.2]; simp
theorem mtch_bd (b : List Int) : 0 ≤ mtch b ∧ mtch b ≤ 4 := by
  have := rowN_bd (c0 b)
  unfold mtch; split <;> omega

/-- What the bytes of one whole row mean. -/
def val : List Int → Int
  | [a] => a
  | [a, b] => (a - 192) * 64 + (b - 128)
  | [a, b, c] => ((a - 224) * 64 + (b - 128)) * 64 + (c - 128)
  | [a, b, c, d] => (((a - 240) * 64 + (b - 128)) * 64 + (c - 128)) * 64 + (d - 128)
  | _ => 0

/-- UTF8: the atom that bytes begin with, and its bytes. -/
def first8 (b : List Int) : Int × Int := if 0 < mtch b ∧ mtch b ≤ b.length then (val (b.take (mtch b).toNat), mtch b) else (-1 - c0 b, 1)

/-- A whole row stands at the head: its bytes. -/
theorem row_bytes (b : List Int) (hb : ∀ z ∈ b, 0 ≤ z ∧ z ≤ 255) (h0 : 0 < mtch b) (hl : mtch b ≤ b.length) :
    (∃ x, b.take (mtch b).toNat = [x] ∧ mtch b = 1 ∧ 0 ≤ x ∧ x ≤ 127) ∨
    (∃ x y, b.take (mtch b).toNat = [x, y] ∧ mtch b = 2 ∧ 194 ≤ x ∧ x ≤ 223 ∧ 128 ≤ y ∧ y ≤ 191) ∨
    (∃ x y z, b.take (mtch b).toNat = [x, y, z] ∧ mtch b = 3 ∧ 224 ≤ x ∧ x ≤ 239 ∧ rowLo x ≤ y ∧ y ≤ rowHi x ∧ 128 ≤ z ∧ z ≤ 191) ∨
    (∃ x y z u, b.take (mtch b).toNat = [x, y, z, u] ∧ mtch b = 4 ∧ 240 ≤ x ∧ x ≤ 244 ∧ rowLo x ≤ y ∧ y ≤ rowHi x ∧ 128 ≤ z ∧ z ≤ 191 ∧ 128 ≤ u ∧ u ≤ 191) := by
  have hm : okAll b = true ∧ mtch b = rowN (c0 b) := by
    unfold mtch at h0 ⊢
    split at h0
    · rename_i h; exact ⟨h, by rw [if_pos h]⟩
    · omega
  obtain ⟨hok, he⟩ := hm
  rw [he] at h0 hl ⊢
  unfold okAll at hok
  simp only [Bool.and_eq_true, Bool.or_eq_true, decide_eq_true_eq] at hok
  obtain ⟨⟨h2, h3⟩, h4⟩ := hok
  match b, hb, hl, h0, h2, h3, h4 with
  | [], _, hl, h0, _, _, _ => simp only [List.length_nil] at hl; omega
  | [x], hb, hl, h0, h2, h3, h4 =>
    have hx := hb x (by simp)
    simp only [c0, List.getElem?_cons_zero, Option.getD_some, List.length_cons, List.length_nil] at *
    have e1 : rowN x = 1 := by omega
    refine .inl ⟨x, by rw [e1]; rfl, e1, hx.1, ?_⟩
    unfold rowN at e1; repeat' split at e1
    all_goals omega
  | x :: y :: l, hb, hl, h0, h2, h3, h4 =>
    have hx := hb x (by simp)
    have hy := hb y (by simp)
    simp only [c0, List.getElem?_cons_zero, Option.getD_some, List.length_cons] at *
    have hcase : (rowN x = 1 ∧ x ≤ 127) ∨ (rowN x = 2 ∧ 194 ≤ x ∧ x ≤ 223) ∨ (rowN x = 3 ∧ 224 ≤ x ∧ x ≤ 239) ∨ (rowN x = 4 ∧ 240 ≤ x ∧ x ≤ 244) := by
      unfold rowN at h0 ⊢; repeat' split at h0
      all_goals first | omega | (simp [*]; omega)
    have k1 : 2 ≤ rowN x → rowLo x ≤ y ∧ y ≤ rowHi x := by
      intro h
      rcases h2 with h2 | h2
      · omega
      · simpa [okAt, c0, loJ, hiJ] using h2
    rcases hcase with ⟨e, r⟩ | ⟨e, r⟩ | ⟨e, r⟩ | ⟨e, r⟩
    · exact .inl ⟨x, by rw [e]; rfl, e, hx.1, r⟩
    · refine .inr (.inl ⟨x, y, by rw [e]; rfl, e, r.1, r.2, ?_⟩)
      have := k1 (by omega)
      unfold rowLo rowHi at this
      repeat' split at this
      all_goals omega
    · match l, hb, hl, h3 with
      | [], _, hl, _ => simp at hl; omega
      | z :: l, hb, hl, h3 =>
        have k2 : 128 ≤ z ∧ z ≤ 191 := by
          rcases h3 with h3 | h3
          · omega
          · simpa [okAt, loJ, hiJ] using h3
        exact .inr (.inr (.inl ⟨x, y, z, by rw [e]; rfl, e, r.1, r.2, (k1 (by omega)).1, (k1 (by omega)).2, k2.1, k2.2⟩))
    · match l, hb, hl, h3, h4 with
      | [], _, hl, _, _ => simp at hl; omega
      | [z], _, hl, _, _ => simp at hl; omega
      | z :: u :: l, hb, hl, h3, h4 =>
        have k2 : 128 ≤ z ∧ z ≤ 191 := by
          rcases h3 with h3 | h3
          · omega
          · simpa [okAt, loJ, hiJ] using h3
        have k3 : 128 ≤ u ∧ u ≤ 191 := by
          rcases h4 with h4 | h4
          · omega
          · simpa [okAt, loJ, hiJ] using h4
        exact .inr (.inr (.inr ⟨x, y, z, u, by rw [e]; rfl, e, r.1, r.2, (k1 (by omega)).1, (k1 (by omega)).2, k2.1, k2.2, k3.1, k3.2⟩))
end Go.Proofs.Ytmfbobibpebfnaa.Cx
