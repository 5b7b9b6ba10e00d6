/- Facts of the classes and of the parts of a conjunct. -/
import Derived.Test.YtahjjpleceppaaaCls2
namespace Go.Proofs.Ytahjjpleceppaaa
open Go.RowKit

theorem Gx.find_in (T : List Gx.Row) (h : Gx.okT T = true) (r : Gx.Row) (hr : r ∈ T) (a : Int) (h1 : (r.1 : Int) ≤ a) (h2 : a ≤ (r.2.1 : Int)) : Gx.find T a = some r := by
  induction T with
  | nil => simp at hr
  | cons s T ih =>
    rcases List.mem_cons.1 hr with rfl | hr
    · simp [Gx.find, h1, h2]
    · have := (Gx.okT_head h).2.2.2 r hr
      have hn : ¬ a ≤ (s.2.1 : Int) := by omega
      have ih' := ih (Gx.okT_tail h) hr
      simp only [Gx.find, List.find?_cons] at ih' ⊢
      simpa [hn] using ih'

theorem Gx.cls_row (r : Gx.Row) (hr : (Gx.classRows.contains r) = true) (a : Int) (h1 : (r.1 : Int) ≤ a) (h2 : a ≤ (r.2.1 : Int)) (h3 : 126 < a) (h4 : a < 44032) (h5 : a ≠ 8205) : Gx.cls a = r.2.2 := by
  have hm : r ∈ Gx.classRows := by simpa using hr
  have hs : Gx.isSc a = true := by simp [Gx.isSc, Gx.isLn]; omega
  unfold Gx.cls
  rw [if_neg (by omega), if_neg (by simp [hs]), if_neg (by omega), if_neg (by omega), if_neg h5, if_neg (by omega), Gx.find_in _ Gx.ok_class r hm a h1 h2]
  rfl

theorem Gx.cls_hangul (a : Int) (h1 : 44032 ≤ a) (h2 : a ≤ 55203) : Gx.cls a = if (a - 44032) % 28 = 0 then 12 else 13 := by
  have hs : Gx.isSc a = true := by simp [Gx.isSc, Gx.isLn]; omega
  unfold Gx.cls
  rw [if_neg (by omega), if_neg (by simp [hs]), if_neg (by omega), if_neg (by omega), if_neg (by omega), if_pos ⟨h1, h2⟩]

theorem Gx.find_mem {T : List Gx.Row} {a : Int} {r : Gx.Row} (h : Gx.find T a = some r) : r ∈ T ∧ (r.1 : Int) ≤ a ∧ a ≤ (r.2.1 : Int) := by
  have h1 := List.mem_of_find?_eq_some h
  have h2 := List.find?_some h
  simp at h2
  exact ⟨h1, h2.1, h2.2⟩

theorem Gx.all_find {T : List Gx.Row} {p : Gx.Row → Bool} (h : T.all p = true) {a : Int} {r : Gx.Row} (hf : Gx.find T a = some r) : p r = true :=
  List.all_eq_true.1 h r (Gx.find_mem hf).1

theorem Gx.cls_not (a : Int) (h : Gx.isSc a = false) (hp : ¬ (32 ≤ a ∧ a ≤ 126)) : Gx.cls a = 3 := by unfold Gx.cls; rw [if_neg hp, if_pos h]

/-- Two tables' ranges of certain values do not meet. -/
def Gx.apart (p q : Gx.Row → Bool) (S T : List Gx.Row) : Bool := S.all fun r => !p r || T.all fun s => !q s || decide (r.2.1 < s.1) || decide (s.2.1 < r.1)
/-- Each row of the first table with p lies in a row of the second with q. -/
def Gx.within (p q : Gx.Row → Bool) (S T : List Gx.Row) : Bool := S.all fun r => !p r || T.any fun s => q s && decide (s.1 ≤ r.1) && decide (r.2.1 ≤ s.2.1)

theorem Gx.apart_find {p q : Gx.Row → Bool} {S T : List Gx.Row} (h : Gx.apart p q S T = true) {a : Int} {r s : Gx.Row} (h1 : Gx.find S a = some r) (h2 : Gx.find T a = some s) (hp : p r = true) : q s = false := by
  obtain ⟨m1, l1, u1⟩ := Gx.find_mem h1
  obtain ⟨m2, l2, u2⟩ := Gx.find_mem h2
  have := List.all_eq_true.1 h r m1
  simp only [hp, Bool.not_true, Bool.false_or] at this
  have := List.all_eq_true.1 this s m2
  cases hq : q s with
  | false => rfl
  | true =>
    simp [hq] at this
    omega

theorem Gx.within_find {p q : Gx.Row → Bool} {S T : List Gx.Row} (hT : Gx.okT T = true) (h : Gx.within p q S T = true) {a : Int} {r : Gx.Row} (h1 : Gx.find S a = some r) (hp : p r = true) : ∃ s, Gx.find T a = some s ∧ q s = true := by
  obtain ⟨m1, l1, u1⟩ := Gx.find_mem h1
  have := List.all_eq_true.1 h r m1
  simp only [hp, Bool.not_true, Bool.false_or] at this
  obtain ⟨s, hs, hq⟩ := List.any_eq_true.1 this
  simp at hq
  exact ⟨s, Gx.find_in T hT s hs a (by omega) (by omega), hq.1.1⟩

theorem Gx.cls_vals (a : Int) : 0 ≤ Gx.vD (Gx.find Gx.classRows a) 0 ∧ Gx.vD (Gx.find Gx.classRows a) 0 ≤ 14 ∧ Gx.vD (Gx.find Gx.classRows a) 0 ≠ 1 ∧ Gx.vD (Gx.find Gx.classRows a) 0 ≠ 2 ∧ Gx.vD (Gx.find Gx.classRows a) 0 ≠ 5 ∧ Gx.vD (Gx.find Gx.classRows a) 0 ≠ 12 ∧ Gx.vD (Gx.find Gx.classRows a) 0 ≠ 13 := by
  cases h : Gx.find Gx.classRows a with
  | none => simp [Gx.vD]
  | some r =>
    have := Gx.all_find (p := fun r => decide (r.2.2 ≤ 14) && r.2.2 != 1 && r.2.2 != 2 && r.2.2 != 5 && r.2.2 != 12 && r.2.2 != 13) (by decide +kernel) h
    simp at this
    simp [Gx.vD]
    omega

/-- Only one row has the class of regional letters. -/
theorem Gx.cls_six (a : Int) : Gx.vD (Gx.find Gx.classRows a) 0 = 6 ↔ 127462 ≤ a ∧ a ≤ 127487 := by
  constructor
  · intro h6
    cases h : Gx.find Gx.classRows a with
    | none => rw [h] at h6; simp [Gx.vD] at h6
    | some r =>
      rw [h] at h6
      have := Gx.all_find (p := fun r => r.2.2 != 6 || (r.1 == 127462 && r.2.1 == 127487)) (by decide +kernel) h
      simp [Gx.vD] at h6 this
      obtain ⟨_, l, u⟩ := Gx.find_mem h
      rcases this with h' | ⟨h1, h2⟩
      · omega
      · omega
  · intro ⟨h1, h2⟩
    rw [Gx.find_in _ Gx.ok_class (127462, 127487, 6) (by have : (Gx.classRows.contains (127462, 127487, 6)) = true := by decide +kernel
                                                         simpa using this) a h1 h2]
    rfl

theorem Gx.cls_mid (a : Int) (h1 : 126 < a) (h2 : a < 44032) (h3 : a ≠ 8205) : Gx.cls a = Gx.vD (Gx.find Gx.classRows a) 0 := by
  have hs : Gx.isSc a = true := by simp [Gx.isSc, Gx.isLn]; omega
  unfold Gx.cls
  rw [if_neg (by omega), if_neg (by simp [hs]), if_neg (by omega), if_neg (by omega), if_neg h3, if_neg (by omega)]

/-- Where the table of conjuncts speaks. -/
theorem Gx.conj_row {a : Int} {r : Gx.Row} (h : Gx.find Gx.conjunctRows a = some r) : 2325 ≤ a ∧ a ≤ 3405 ∧ ((r.2.2 = 1 ∧ Gx.cls a = 0) ∨ (r.2.2 = 3 ∧ Gx.cls a = 4)) := by
  have hb := Gx.all_find (p := fun r => decide (2325 ≤ r.1) && decide (r.2.1 ≤ 3405) && (r.2.2 == 1 || r.2.2 == 3)) (by decide +kernel) h
  simp at hb
  obtain ⟨_, l, u⟩ := Gx.find_mem h
  refine ⟨by omega, by omega, ?_⟩
  have hm := Gx.cls_mid a (by omega) (by omega) (by omega)
  rcases hb.2 with h1 | h3
  · refine .inl ⟨h1, ?_⟩
    rw [hm]
    cases hc : Gx.find Gx.classRows a with
    | none => rfl
    | some s =>
      have := Gx.apart_find (p := fun r => r.2.2 == 1) (q := fun _ => true) (S := Gx.conjunctRows) (T := Gx.classRows) (by decide +kernel) h hc (by simp [h1])
      simp at this
  · refine .inr ⟨h3, ?_⟩
    rw [hm]
    obtain ⟨s, hs, hq⟩ := Gx.within_find (p := fun r => r.2.2 == 3) (q := fun r => r.2.2 == 4) (S := Gx.conjunctRows) (T := Gx.classRows) Gx.ok_class (by decide +kernel) h (by simp [h3])
    rw [hs]
    simp at hq
    simp [Gx.vD, hq]

theorem Gx.cls_full (a : Int) : (a = 13 ∧ Gx.cls a = 1) ∨ (a = 10 ∧ Gx.cls a = 2) ∨ (a = 8205 ∧ Gx.cls a = 5) ∨ (127462 ≤ a ∧ a ≤ 127487 ∧ Gx.cls a = 6) ∨ (a ≠ 13 ∧ a ≠ 10 ∧ a ≠ 8205 ∧ (a < 127462 ∨ 127487 < a) ∧ 0 ≤ Gx.cls a ∧ Gx.cls a ≤ 14 ∧ Gx.cls a ≠ 1 ∧ Gx.cls a ≠ 2 ∧ Gx.cls a ≠ 5 ∧ Gx.cls a ≠ 6) := by
  by_cases h13 : a = 13
  · subst h13; exact .inl ⟨rfl, by decide +kernel⟩
  by_cases h10 : a = 10
  · subst h10; exact .inr (.inl ⟨rfl, by decide +kernel⟩)
  by_cases hj : a = 8205
  · subst hj; exact .inr (.inr (.inl ⟨rfl, by decide +kernel⟩))
  have hv := Gx.cls_vals a
  have h6 := Gx.cls_six a
  by_cases hr : 127462 ≤ a ∧ a ≤ 127487
  · refine .inr (.inr (.inr (.inl ⟨hr.1, hr.2, ?_⟩)))
    have hs : Gx.isSc a = true := by simp [Gx.isSc, Gx.isLn]; omega
    unfold Gx.cls
    rw [if_neg (by omega), if_neg (by simp [hs]), if_neg h13, if_neg h10, if_neg hj, if_neg (by omega)]
    exact h6.2 hr
  · refine .inr (.inr (.inr (.inr ⟨h13, h10, hj, by omega, ?_⟩)))
    have h6' : Gx.vD (Gx.find Gx.classRows a) 0 ≠ 6 := fun h => hr (h6.1 h)
    unfold Gx.cls
    repeat' split
    all_goals omega

/-- What GlyphJoin asks of one int. -/
theorem Gx.join_facts (a : Int) : (a = 13 ∧ Gx.cls a = 1 ∧ Gx.cnj a = 0) ∨ (a = 10 ∧ Gx.cls a = 2 ∧ Gx.cnj a = 0) ∨ (a = 8205 ∧ Gx.cls a = 5 ∧ Gx.cnj a = 2) ∨ (127462 ≤ a ∧ a ≤ 127487 ∧ Gx.cls a = 6 ∧ Gx.cnj a = 0) ∨
    (a ≠ 13 ∧ a ≠ 10 ∧ a ≠ 8205 ∧ (a < 127462 ∨ 127487 < a) ∧ 0 ≤ Gx.cls a ∧ Gx.cls a ≤ 14 ∧ Gx.cls a ≠ 1 ∧ Gx.cls a ≠ 2 ∧ Gx.cls a ≠ 5 ∧ Gx.cls a ≠ 6 ∧
      ((Gx.cnj a = 1 ∧ Gx.cls a = 0) ∨ (Gx.cnj a = 3 ∧ Gx.cls a = 4 ∧ a ≠ 8204) ∨ (Gx.cnj a = 2 ∧ Gx.cls a = 4 ∧ a ≠ 8204) ∨ (Gx.cnj a = 0 ∧ a = 8204 ∧ Gx.cls a = 4) ∨ (Gx.cnj a = 0 ∧ Gx.cls a ≠ 4))) := by
  have hf := Gx.cls_full a
  cases h : Gx.find Gx.conjunctRows a with
  | some r =>
    obtain ⟨hr1, hr2, hr⟩ := Gx.conj_row h
    have hc : Gx.cnj a = r.2.2 := by unfold Gx.cnj; rw [h]
    rw [hc]
    refine .inr (.inr (.inr (.inr ⟨by omega, by omega, by omega, by omega, by omega, by omega, by omega, by omega, by omega, by omega, ?_⟩)))
    rcases hr with ⟨h1, h2⟩ | ⟨h1, h2⟩
    · exact .inl ⟨by omega, h2⟩
    · exact .inr (.inl ⟨by omega, h2, by omega⟩)
  | none =>
    have hc : Gx.cnj a = if a = 8204 then 0 else if Gx.cls a = 4 ∨ Gx.cls a = 5 then 2 else 0 := by unfold Gx.cnj; rw [h]
    rcases hf with ⟨rfl, h1⟩ | ⟨rfl, h1⟩ | ⟨rfl, h1⟩ | ⟨h0, h0', h1⟩ | ⟨n13, n10, nj, nr, c0, c14, c1, c2, c5, c6⟩
    · exact .inl ⟨rfl, h1, by rw [hc, if_neg (by omega), if_neg (by omega)]⟩
    · exact .inr (.inl ⟨rfl, h1, by rw [hc, if_neg (by omega), if_neg (by omega)]⟩)
    · exact .inr (.inr (.inl ⟨rfl, h1, by rw [hc, if_neg (by omega), if_pos (by omega)]⟩))
    · exact .inr (.inr (.inr (.inl ⟨h0, h0', h1, by rw [hc, if_neg (by omega), if_neg (by omega)]⟩)))
    · refine .inr (.inr (.inr (.inr ⟨n13, n10, nj, nr, c0, c14, c1, c2, c5, c6, ?_⟩)))
      by_cases hn : a = 8204
      · have h4 : Gx.cls a = 4 := by subst hn; decide +kernel
        exact .inr (.inr (.inr (.inl ⟨by rw [hc, if_pos hn], hn, h4⟩)))
      · rw [if_neg hn] at hc
        by_cases h4 : Gx.cls a = 4
        · exact .inr (.inr (.inl ⟨by rw [hc, if_pos (.inl h4)], h4, hn⟩))
        · exact .inr (.inr (.inr (.inr ⟨by rw [hc, if_neg (by omega)], h4⟩)))

theorem Gx.alone_facts (a : Int) (h : a < 0 ∨ 1114111 < a ∨ (55296 ≤ a ∧ a ≤ 57343)) : Gx.cls a = 3 ∧ Gx.cnj a = 0 ∧ Gx.wrd a = 1 := by
  have hs : Gx.isSc a = false := by
    cases hq : Gx.isSc a with
    | false => rfl
    | true => simp [Gx.isSc, Gx.isLn] at hq; omega
  have hc := Gx.cls_not a hs (by omega)
  refine ⟨hc, ?_, ?_⟩
  · have := Gx.join_facts a
    unfold Gx.cnj
    cases hf : Gx.find Gx.conjunctRows a with
    | some r => have := Gx.conj_row hf; omega
    | none => simp only; rw [if_neg (by omega), if_neg (by omega)]
  · unfold Gx.wrd
    cases hf : Gx.find Gx.wordRows a with
    | none => rfl
    | some r =>
      have := Gx.all_find (p := fun r => (decide (r.2.1 < 55296) || decide (57343 < r.1)) && decide (r.2.1 ≤ 1114111)) (by decide +kernel) hf
      simp at this
      obtain ⟨_, l, u⟩ := Gx.find_mem hf
      omega
end Go.Proofs.Ytahjjpleceppaaa
