/- A walk by Next and one by Prev meet the same atoms. No Go in sight. -/
import Derived.Test.YtbfbaknfeleddaaDec5
namespace Go.Proofs.Ytbfbaknfeleddaa
open Go.RowKit

theorem Cx.hit_take (b : List Int) (k M : Nat) (hk : k ≤ M) : Cx.hitB (b.take M) k = Cx.hitB b k := by
  have ht : (b.take M).take k = b.take k := by rw [List.take_take, Nat.min_eq_left hk]
  rw [Bool.eq_iff_iff, Cx.hitB_iff (b.take M) k _ rfl, Cx.hitB_iff b k _ rfl, ht]
  constructor
  · rintro ⟨g1, g2, g3, g4⟩
    rw [List.length_take] at g1
    rw [List.isPrefixOf_iff_prefix] at g4 ⊢
    exact ⟨by omega, g2, g3, g4.trans (List.take_prefix M b)⟩
  · rintro ⟨g1, g2, g3, g4⟩
    rw [List.isPrefixOf_iff_prefix] at g4 ⊢
    exact ⟨by rw [List.length_take]; omega, g2, g3, List.prefix_take_iff.2 ⟨g4, by omega⟩⟩

theorem Cx.c0_take' (b : List Int) (M : Nat) (h : 0 < M) : Cx.c0 (b.take M) = Cx.c0 b := by
  unfold Cx.c0; rw [List.getElem?_take_of_lt h]

theorem Cx.first8_take (b : List Int) (hb : Byt b) (M : Nat) (h : (Cx.first8 b).2 ≤ M) : Cx.first8 (b.take M) = Cx.first8 b := by
  have hbd := Cx.mtch_bd b
  rcases Cx.fst8_cases b with ⟨h0, hl, e⟩ | ⟨hno, e⟩
  · rw [e] at h
    simp only at h
    obtain ⟨k, hk⟩ : ∃ k : Nat, Cx.mtch b = k := ⟨(Cx.mtch b).toNat, by omega⟩
    have hh : Cx.hitB b k = true := (Cx.hit_iff b hb k (by omega) (by omega)).2 ⟨hk, by omega⟩
    rw [Cx.first8_hit b hb k (by omega) (by omega) hh, Cx.first8_hit (b.take M) (hb.take M) k (by omega) (by omega) (by rw [Cx.hit_take b k M (by omega)]; exact hh), List.take_take, Nat.min_eq_left (by omega)]
  · rw [e] at h
    simp only at h
    have hM : 0 < M := by omega
    rw [e, Cx.first8_none (b.take M) (hb.take M), Cx.c0_take' b M hM]
    intro k h1 h4 hkl
    rw [List.length_take] at hkl
    rw [Cx.hit_take b k M (by omega)]
    cases hh : Cx.hitB b k
    · rfl
    · have := (Cx.hit_iff b hb k h1 h4).1 hh
      exact absurd ⟨by omega, by omega⟩ hno

theorem Cx.wv_take (k : Int) (b : List Int) (M : Nat) (h : 2 ≤ M) : Cx.wv k (b.take M) = Cx.wv k b := by
  unfold Cx.wv
  simp only [List.getElem?_take_of_lt (show 0 < M by omega), List.getElem?_take_of_lt (show 1 < M by omega)]

theorem Cx.isP_take (k : Int) (b : List Int) (M : Nat) (h4 : 4 ≤ M) : Cx.isP k (b.take M) = Cx.isP k b := by
  unfold Cx.isP
  rw [Cx.wv_take k b M (by omega), List.drop_take, Cx.wv_take k (b.drop 2) (M - 2) (by omega), List.length_take]
  congr 2
  rw [decide_eq_decide]; omega

theorem Cx.first16_take (k : Int) (b : List Int) (hn : b ≠ []) (M : Nat) (h : (Cx.first16 k b).2 ≤ M) : Cx.first16 k (b.take M) = Cx.first16 k b := by
  have hp : 0 < b.length := List.length_pos_iff.2 hn
  rcases Cx.fst16_cases k b with ⟨h1, e⟩ | ⟨h1, hP, e⟩ | ⟨h1, hP, e⟩
  · rw [e] at h
    simp only at h
    rw [List.take_of_length_le (by omega)]
  · rw [e] at h
    simp only at h
    have := (Cx.isP_len k b hP).1
    have hP' : Cx.isP k (b.take M) = true := by rw [Cx.isP_take k b M (by omega)]; exact hP
    rw [e]
    unfold Cx.first16
    rw [if_neg (by rw [List.length_take]; omega), if_pos hP']
    unfold Cx.pairV
    rw [Cx.wv_take k b M (by omega), List.drop_take, Cx.wv_take k (b.drop 2) (M - 2) (by omega)]
  · rw [e] at h
    simp only at h
    have hP' : Cx.isP k (b.take M) = false := by
      by_cases h4 : 4 ≤ M
      · rw [Cx.isP_take k b M h4]; exact hP
      · unfold Cx.isP
        rw [decide_eq_false (by rw [List.length_take]; omega)]; rfl
    rw [e]
    unfold Cx.first16
    rw [if_neg (by rw [List.length_take]; omega), if_neg (by rw [hP']; simp), Cx.wv_take k b M (by omega)]

theorem Cx.fst_take (enc : Int) (b : List Int) (hb : Byt b) (hn : b ≠ []) (M : Nat) (h : (Cx.fst enc b).2 ≤ M) : Cx.fst enc (b.take M) = Cx.fst enc b := by
  unfold Cx.fst at h ⊢
  split
  · rename_i h1; rw [if_pos h1] at h; exact Cx.first8_take b hb M h
  · rename_i h1; rw [if_neg h1] at h
    split
    · rename_i h2; rw [if_pos h2] at h; exact Cx.first16_take 0 b hn M h
    · rename_i h2; rw [if_neg h2] at h
      split
      · rename_i h3; rw [if_pos h3] at h; exact Cx.first16_take 1 b hn M h
      · rename_i h3; rw [if_neg h3] at h
        simp only at h
        rw [Cx.c0_take' b M (by omega)]

/-- One step of the walk: the atom behind is the atom ahead. -/
theorem Cx.walk_step (enc : Int) (z : List Int) (hb : Byt z) (he : enc = 1 ∨ enc = 2 ∨ enc = 3 ∨ enc = 4) (p n : Nat) (a : Int) (hp : p < z.length) (hf : Cx.fst enc (z.drop p) = (a, (n : Int))) (h1 : 1 ≤ n) (hn : p + n ≤ z.length)
    (hI : ∀ M, p < M → M ≤ z.length → Cx.lst enc (z.take M) = Cx.lst enc ((z.take M).drop p)) :
    Cx.lst enc (z.take (p + n)) = (a, (n : Int)) ∧ ∀ M, p + n < M → M ≤ z.length → Cx.lst enc (z.take M) = Cx.lst enc ((z.take M).drop (p + n)) := by
  have hne : z.drop p ≠ [] := List.length_pos_iff.1 (by rw [List.length_drop]; omega)
  have key : ∀ M, p + n ≤ M → M ≤ z.length → Cx.fst enc ((z.take M).drop p) = (a, (n : Int)) := fun M hM hz => by
    rw [List.drop_take, Cx.fst_take enc (z.drop p) (hb.drop p) hne (M - p) (by rw [hf]; simp only; omega), hf]
  have hl : ∀ M, M ≤ z.length → ((z.take M).drop p).length = M - p := fun M hM => by rw [List.length_drop, List.length_take]; omega
  constructor
  · have hx : (z.take (p + n)).drop p ≠ [] := List.length_pos_iff.1 (by rw [hl _ hn]; omega)
    rw [hI (p + n) (by omega) hn, Cx.last_one enc _ ((hb.take _).drop p) hx he (by rw [key _ (Nat.le_refl _) hn, hl _ hn]; simp only; omega), key _ (Nat.le_refl _) hn]
  · intro M hM hz
    have hx : (z.take M).drop p ≠ [] := List.length_pos_iff.1 (by rw [hl _ hz]; omega)
    rw [hI M (by omega) hz, Cx.last_more enc _ ((hb.take _).drop p) hx he n (by rw [key M (by omega) hz]) (by rw [hl _ hz]; omega), List.drop_drop]
end Go.Proofs.Ytbfbaknfeleddaa
