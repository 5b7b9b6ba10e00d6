/- A scalar that was put is read as itself. No Go in sight. -/
import Derived.Test.YtbfbaknfeleddaaDec3
namespace Go.Proofs.Ytbfbaknfeleddaa

theorem Cx.put_byt (enc a : Int) (hf : Cx.fits enc a = true) : Byt (Cx.put enc a) := by
  have hfb : -256 ≤ a ∧ a ≤ 1114111 ∧ (enc = 4 → a ≤ 255) := by
    unfold Cx.fits Cx.isSc at hf
    repeat' split at hf
    all_goals simp at hf
    all_goals omega
  intro z hz
  unfold Cx.put Cx.put8 Cx.unit at hz
  repeat' split at hz
  all_goals simp at hz
  all_goals omega

theorem Cx.mean_put8 (a : Int) (h : Cx.isSc a = true) : Cx.mean (Cx.put8 a) = a := by
  have := (Cx.sc_iff a).1 h
  rcases (show a < 128 ∨ (128 ≤ a ∧ a < 2048) ∨ (2048 ≤ a ∧ a < 65536) ∨ 65536 ≤ a from by omega) with h | ⟨h, h'⟩ | ⟨h, h'⟩ | h
  · rw [Cx.put8_1 a h]; rfl
  · rw [Cx.put8_2 a h h']; simp only [Cx.mean]; omega
  · rw [Cx.put8_3 a h h']; simp only [Cx.mean]; omega
  · rw [Cx.put8_4 a h]; simp only [Cx.mean]; omega

theorem Cx.read1 (a : Int) (r : List Int) (h : Cx.isSc a = true) (hr : Byt r) : Cx.first8 (Cx.put 1 a ++ r) = (a, ((Cx.put 1 a).length : Int)) := by
  have hs := (Cx.sc_iff a).1 h
  have e : Cx.put 1 a = Cx.put8 a := by unfold Cx.put; rw [if_neg (by omega), if_pos rfl]
  have hb : Byt (Cx.put 1 a ++ r) := by
    intro z hz
    rcases List.mem_append.1 hz with hz | hz
    · exact Cx.put_byt 1 a (by unfold Cx.fits; rw [if_pos rfl, h, Bool.true_or]) z hz
    · exact hr z hz
  have ht : (Cx.put 1 a ++ r).take (Cx.put 1 a).length = Cx.put8 a := by rw [List.take_left', e]; rfl
  have hl := Cx.put_len 1 a
  have hm : Cx.mean ((Cx.put 1 a ++ r).take (Cx.put 1 a).length) = a := by rw [ht, Cx.mean_put8 a h]
  have hh : Cx.hitB (Cx.put 1 a ++ r) (Cx.put 1 a).length = true := by
    rw [Cx.hitB_iff _ _ a hm]
    refine ⟨by rw [List.length_append]; omega, h, by rw [e], ?_⟩
    rw [List.isPrefixOf_iff_prefix, e]
    exact List.prefix_append _ _
  rw [Cx.first8_hit _ hb _ hl.1 hl.2 hh, hm]

theorem Cx.wv_unit (enc u : Int) (r : List Int) (he : enc = 2 ∨ enc = 3) : Cx.wv (Cx.lowOf enc) (Cx.unit enc u ++ r) = u := by
  rcases he with rfl | rfl
  · simp only [Cx.wv, Cx.lowOf, Cx.unit, if_true, List.cons_append, List.nil_append, List.getElem?_cons_succ, List.getElem?_cons_zero, Option.getD_some]
    omega
  · simp only [Cx.wv, Cx.lowOf, Cx.unit, show ¬ ((3 : Int) = 2) from by decide, show ¬ ((1 : Int) = 0) from by decide, if_false, List.cons_append, List.nil_append, List.getElem?_cons_succ, List.getElem?_cons_zero, Option.getD_some]
    omega
theorem Cx.unit_len (enc u : Int) : (Cx.unit enc u).length = 2 := by unfold Cx.unit; split <;> rfl

theorem Cx.read2 (enc a : Int) (r : List Int) (h : Cx.isSc a = true) (he : enc = 2 ∨ enc = 3) : Cx.first16 (Cx.lowOf enc) (Cx.put enc a ++ r) = (a, ((Cx.put enc a).length : Int)) := by
  have hs := (Cx.sc_iff a).1 h
  by_cases hb : 65536 ≤ a
  · have e : Cx.put enc a = Cx.unit enc (55296 + (a - 65536) / 1024) ++ Cx.unit enc (56320 + a % 1024) := by
      unfold Cx.put; rw [if_neg (by omega), if_neg (by omega), if_neg (by omega), if_pos hb]
    have l1 := Cx.unit_len enc (55296 + (a - 65536) / 1024)
    have l2 := Cx.unit_len enc (56320 + a % 1024)
    rw [e, List.append_assoc]
    have e1 := Cx.wv_unit enc (55296 + (a - 65536) / 1024) (Cx.unit enc (56320 + a % 1024) ++ r) he
    have e2 : Cx.wv (Cx.lowOf enc) ((Cx.unit enc (55296 + (a - 65536) / 1024) ++ (Cx.unit enc (56320 + a % 1024) ++ r)).drop 2) = 56320 + a % 1024 := by
      rw [← l1, List.drop_left]; exact Cx.wv_unit enc _ r he
    have hP : Cx.isP (Cx.lowOf enc) (Cx.unit enc (55296 + (a - 65536) / 1024) ++ (Cx.unit enc (56320 + a % 1024) ++ r)) = true := by
      unfold Cx.isP
      rw [e1, e2]
      unfold Cx.hiU Cx.loU
      simp only [List.length_append, l1, l2, Bool.and_eq_true, decide_eq_true_eq]
      omega
    unfold Cx.first16
    rw [if_neg (by simp only [List.length_append, l1, l2]; omega), hP, if_pos rfl]
    unfold Cx.pairV
    rw [e1, e2, List.length_append, l1, l2]
    refine Prod.ext (by simp only; omega) rfl
  · have e : Cx.put enc a = Cx.unit enc a := by
      unfold Cx.put; rw [if_neg (by omega), if_neg (by omega), if_neg (by omega), if_neg hb]
    have l1 := Cx.unit_len enc a
    have e1 := Cx.wv_unit enc a r he
    rw [e]
    have hP : Cx.isP (Cx.lowOf enc) (Cx.unit enc a ++ r) = false := by
      unfold Cx.isP
      rw [e1]
      have : Cx.hiU a = false := by unfold Cx.hiU; simp; omega
      rw [this, Bool.and_false, Bool.false_and]
    unfold Cx.first16
    rw [if_neg (by simp only [List.length_append, l1]; omega), hP, if_neg (by simp), e1, l1]
    rfl

theorem Cx.read (enc a : Int) (r : List Int) (h : Cx.isSc a = true) (hf : Cx.fits enc a = true) (hr : Byt r) (he : enc = 1 ∨ enc = 2 ∨ enc = 3 ∨ enc = 4) : Cx.fst enc (Cx.put enc a ++ r) = (a, ((Cx.put enc a).length : Int)) := by
  rcases he with rfl | rfl | rfl | rfl
  · exact Cx.read1 a r h hr
  · exact Cx.read2 2 a r h (.inl rfl)
  · exact Cx.read2 3 a r h (.inr rfl)
  · have hs := (Cx.sc_iff a).1 h
    have e : Cx.put 4 a = [a] := by unfold Cx.put; rw [if_neg (by omega)]; rfl
    rw [e]; rfl

/-- Scalars that fit are read back as they are. -/
theorem Cx.read_all (enc : Int) (he : enc = 1 ∨ enc = 2 ∨ enc = 3 ∨ enc = 4) : ∀ l : List Int, (∀ a ∈ l, Cx.isSc a = true ∧ Cx.fits enc a = true) → Cx.dec enc (Cx.encB enc l) = l ∧ Byt (Cx.encB enc l) ∧ l.length ≤ (Cx.encB enc l).length := by
  intro l
  induction l with
  | nil => intro _; exact ⟨rfl, by intro z hz; simp [Cx.encB] at hz, by simp [Cx.encB]⟩
  | cons a l ih =>
    intro h
    obtain ⟨h1, h2⟩ := h a (by simp)
    obtain ⟨i1, i2, i3⟩ := ih (fun b hb => h b (by simp [hb]))
    have hl := Cx.put_len enc a
    have e : Cx.encB enc (a :: l) = Cx.put enc a ++ Cx.encB enc l := by simp [Cx.encB]
    have hr := Cx.read enc a (Cx.encB enc l) h1 h2 i2 he
    rw [e]
    refine ⟨?_, ?_, by rw [List.length_append, List.length_cons]; omega⟩
    · rw [Cx.dec_cons enc _ (List.length_pos_iff.1 (by rw [List.length_append]; omega)) a (Cx.put enc a).length hr, List.drop_left, i1]
    · intro z hz
      rcases List.mem_append.1 hz with hz | hz
      · exact Cx.put_byt enc a h2 z hz
      · exact i2 z hz
end Go.Proofs.Ytbfbaknfeleddaa
