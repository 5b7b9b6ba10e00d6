/- Back: an atom that was read gives its bytes; a scalar that was put is read. No Go in sight. -/
import Derived.Test.YtbfbaknfeleddaaEncode
import Derived.Test.YtbfbaknfeleddaaRefEight
namespace Go.Proofs.Ytbfbaknfeleddaa

theorem Cx.pre_take (m b : List Int) (h : m.isPrefixOf b = true) : b.take m.length = m := by
  rw [List.isPrefixOf_iff_prefix] at h
  exact (List.prefix_iff_eq_take.1 h).symm

theorem Cx.c0_take (b : List Int) (hn : b ≠ []) : b.take 1 = [Cx.c0 b] := by
  cases b with
  | nil => exact absurd rfl hn
  | cons a l => rfl

theorem Cx.back1 (b : List Int) (hb : Byt b) (hn : b ≠ []) : Cx.fits 1 (Cx.first8 b).1 = true ∧ Cx.put 1 (Cx.first8 b).1 = b.take (Cx.first8 b).2.toNat := by
  have hbd := Cx.mtch_bd b
  have h0 := hb.at 0
  change 0 ≤ Cx.c0 b ∧ Cx.c0 b ≤ 255 at h0
  by_cases hm : 0 < Cx.mtch b ∧ Cx.mtch b ≤ b.length
  · have hh := (Cx.hit_iff b hb (Cx.mtch b).toNat (by omega) (by omega)).2 ⟨by omega, by omega⟩
    rw [Cx.hitB_iff b _ _ rfl] at hh
    obtain ⟨_, hs, hl, hp⟩ := hh
    have e := Cx.first8_hit b hb (Cx.mtch b).toNat (by omega) (by omega) ((Cx.hit_iff b hb (Cx.mtch b).toNat (by omega) (by omega)).2 ⟨by omega, by omega⟩)
    rw [e]
    simp only [Int.toNat_natCast]
    have ht := Cx.pre_take _ _ hp
    rw [hl] at ht
    have hs0 := (Cx.sc_iff _).1 hs
    refine ⟨by unfold Cx.fits; rw [if_pos rfl, hs, Bool.true_or], ?_⟩
    unfold Cx.put
    rw [if_neg (by omega), if_pos rfl]
    exact ht.symm
  · have e : Cx.first8 b = (-1 - Cx.c0 b, 1) := by unfold Cx.first8; rw [if_neg hm]
    have h128 : 128 ≤ Cx.c0 b := by
      rcases Classical.em (128 ≤ Cx.c0 b) with h | h
      · exact h
      · exfalso
        have r : Cx.rowN (Cx.c0 b) = 1 := by unfold Cx.rowN; rw [if_pos (by omega)]
        have hy := Cx.mtch_yes b 1 (fun j h1 h2 => by omega) (.inl (by rw [r]; decide))
        rw [r] at hy
        have hp : 0 < b.length := List.length_pos_iff.2 hn
        exact hm ⟨by omega, by omega⟩
    rw [e]
    refine ⟨?_, ?_⟩
    · unfold Cx.fits; rw [if_pos rfl]; simp; omega
    · unfold Cx.put
      rw [if_pos (by simp only; omega)]
      show [-1 - (-1 - Cx.c0 b)] = b.take 1
      rw [Cx.c0_take b hn]
      congr 1; omega

theorem Cx.unit_wv (enc : Int) (b : List Int) (hb : Byt b) (h2 : 2 ≤ b.length) (he : enc = 2 ∨ enc = 3) : Cx.unit enc (Cx.wv (Cx.lowOf enc) b) = b.take 2 := by
  match b, h2 with
  | x :: y :: l, _ =>
    have hx := hb x (by simp)
    have hy := hb y (by simp)
    rcases he with rfl | rfl
    · simp only [Cx.unit, Cx.wv, Cx.lowOf, if_true, List.getElem?_cons_succ, List.getElem?_cons_zero, Option.getD_some, List.take_succ_cons, List.take_zero]
      have e1 : (y * 256 + x) % 256 = x := by omega
      have e2 : (y * 256 + x) / 256 = y := by omega
      rw [e1, e2]
    · simp only [Cx.unit, Cx.wv, Cx.lowOf, show ¬ ((3 : Int) = 2) from by decide, show ¬ ((1 : Int) = 0) from by decide, if_false, List.getElem?_cons_succ, List.getElem?_cons_zero, Option.getD_some, List.take_succ_cons, List.take_zero]
      have e1 : (x * 256 + y) % 256 = y := by omega
      have e2 : (x * 256 + y) / 256 = x := by omega
      rw [e1, e2]

theorem Cx.back2 (enc : Int) (b : List Int) (hb : Byt b) (hn : b ≠ []) (he : enc = 2 ∨ enc = 3) : Cx.fits enc (Cx.first16 (Cx.lowOf enc) b).1 = true ∧ Cx.put enc (Cx.first16 (Cx.lowOf enc) b).1 = b.take (Cx.first16 (Cx.lowOf enc) b).2.toNat := by
  have h0 := hb.at 0
  change 0 ≤ Cx.c0 b ∧ Cx.c0 b ≤ 255 at h0
  have hp : 0 < b.length := List.length_pos_iff.2 hn
  have ft : ∀ a : Int, -256 ≤ a → a ≤ 1114111 → Cx.fits enc a = true := by
    intro a h1 h2
    unfold Cx.fits
    rw [if_neg (by omega), if_pos he]; simp; omega
  unfold Cx.first16
  by_cases h1 : b.length = 1
  · rw [if_pos h1]
    refine ⟨ft _ (by simp only; omega) (by simp only; omega), ?_⟩
    unfold Cx.put
    rw [if_pos (by simp only; omega)]
    show [-1 - (-1 - Cx.c0 b)] = b.take 1
    rw [Cx.c0_take b hn]
    congr 1; omega
  · rw [if_neg h1]
    have hu := Cx.wv_bd (Cx.lowOf enc) b hb
    have hw := Cx.unit_wv enc b hb (by omega) he
    cases hP : Cx.isP (Cx.lowOf enc) b
    · rw [if_neg (by simp)]
      refine ⟨ft _ (by simp only; omega) (by simp only; omega), ?_⟩
      unfold Cx.put
      rw [if_neg (by simp only; omega), if_neg (by omega), if_neg (by omega), if_neg (by simp only; omega)]
      exact hw
    · rw [if_pos rfl]
      unfold Cx.isP Cx.hiU Cx.loU at hP
      simp only [Bool.and_eq_true, decide_eq_true_eq] at hP
      obtain ⟨⟨h4, h5, h6⟩, h7, h8⟩ := hP
      have hw2 := Cx.unit_wv enc (b.drop 2) (hb.drop 2) (by rw [List.length_drop]; omega) he
      have hpv : Cx.pairV (Cx.lowOf enc) b = 65536 + (Cx.wv (Cx.lowOf enc) b - 55296) * 1024 + (Cx.wv (Cx.lowOf enc) (b.drop 2) - 56320) := rfl
      generalize Cx.pairV (Cx.lowOf enc) b = p at *
      refine ⟨ft _ (by simp only; omega) (by simp only; omega), ?_⟩
      unfold Cx.put
      rw [if_neg (by simp only; omega), if_neg (by omega), if_neg (by omega), if_pos (by simp only; omega)]
      simp only
      rw [show 55296 + (p - 65536) / 1024 = Cx.wv (Cx.lowOf enc) b from by omega, show 56320 + p % 1024 = Cx.wv (Cx.lowOf enc) (b.drop 2) from by omega, hw, hw2]
      show b.take 2 ++ (b.drop 2).take 2 = b.take (2 + 2)
      rw [List.take_add]

theorem Cx.back (enc : Int) (b : List Int) (hb : Byt b) (hn : b ≠ []) (he : enc = 1 ∨ enc = 2 ∨ enc = 3 ∨ enc = 4) : Cx.fits enc (Cx.fst enc b).1 = true ∧ Cx.put enc (Cx.fst enc b).1 = b.take (Cx.fst enc b).2.toNat := by
  rcases he with rfl | rfl | rfl | rfl
  · exact Cx.back1 b hb hn
  · exact Cx.back2 2 b hb hn (.inl rfl)
  · exact Cx.back2 3 b hb hn (.inr rfl)
  · have h0 := hb.at 0
    change 0 ≤ Cx.c0 b ∧ Cx.c0 b ≤ 255 at h0
    refine ⟨?_, ?_⟩
    · show Cx.fits 4 (Cx.c0 b) = true
      unfold Cx.fits; simp; omega
    · show Cx.put 4 (Cx.c0 b) = b.take 1
      unfold Cx.put; rw [if_neg (by omega), Cx.c0_take b hn]; rfl

/-- What was read and is put again is what there was; every atom fits. -/
theorem Cx.back_all (enc : Int) (he : enc = 1 ∨ enc = 2 ∨ enc = 3 ∨ enc = 4) : ∀ (m : Nat) (b : List Int), b.length ≤ m → Byt b → Cx.encB enc (Cx.dec enc b) = b ∧ ∀ a ∈ Cx.dec enc b, Cx.fits enc a = true := by
  intro m
  induction m with
  | zero =>
    intro b h _
    have : b = [] := List.length_eq_zero_iff.1 (by omega)
    subst this
    rw [Cx.dec_nil]
    exact ⟨rfl, by simp⟩
  | succ m ih =>
    intro b h hb
    by_cases hn : b = []
    · subst hn
      rw [Cx.dec_nil]
      exact ⟨rfl, by simp⟩
    · have hbd := Cx.fst_bd enc b hn
      obtain ⟨hf, hp⟩ := Cx.back enc b hb hn he
      have e : Cx.fst enc b = ((Cx.fst enc b).1, ((Cx.fst enc b).2.toNat : Int)) := Prod.ext rfl (by simp only; omega)
      rw [Cx.dec_cons enc b hn _ _ e]
      obtain ⟨i1, i2⟩ := ih (b.drop (Cx.fst enc b).2.toNat) (by rw [List.length_drop]; omega) (hb.drop _)
      refine ⟨?_, ?_⟩
      · unfold Cx.encB at i1 ⊢
        rw [List.flatMap_cons, i1, hp, List.take_append_drop]
      · intro a ha
        rcases List.mem_cons.1 ha with rfl | ha
        · exact hf
        · exact i2 a ha
end Go.Proofs.Ytbfbaknfeleddaa
