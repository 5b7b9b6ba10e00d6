/- Pure: banks as they may be; the document's way of taking is the code's. -/
import Derived.Test.YtmldfjhfgaggpaaGRefJ
import Derived.Test.YtmldfjhfgaggpaaGPub
namespace Go.Proofs.Ytmldfjhfgaggpaa
open Go.RowKit

/-- A Reg as a bank holds it. -/
structure GoodR (r : Rg) : Prop where
  ne : r.t ≠ []
  kd : r.k = 0 ∨ r.k = 1
  en : r.k = 1 → ends r.t = true
structure Good (s : Bs) : Prop where
  nm : ∀ k r, s.m k = some r → (0 ≤ k ∧ k < 128 ∧ grB k = false) ∧ GoodR r ∧ r.t.length ≤ 140000
  pt : 0 ≤ s.p ∧ s.p < 128 ∧ grB s.p = false
theorem Good.empty : Good ⟨fun _ => none, 0⟩ := ⟨fun k r h => by simp at h, by decide⟩
theorem ends_app (s t : List Int) (h : t ≠ []) : ends (s ++ t) = ends t := by
  unfold ends
  rw [List.getLast?_append]
  cases ht : t.getLast? with
  | none => exact absurd (List.getLast?_eq_none_iff.1 ht) h
  | some x => rfl
theorem ends_drop (t : List Int) (n : Nat) (h : n < t.length) : ends (t.drop n) = ends t := by
  conv => rhs; rw [← List.take_append_drop n t]
  rw [ends_app]
  intro e
  have := congrArg List.length e
  simp at this
  omega
theorem lbr_ends (t : List Int) (h : t ≠ []) : ends (lbr t) = ends t ∧ lbr t ≠ [] := by
  have hp := List.length_pos_iff.2 h
  unfold lbr
  split
  · rename_i hc
    exact ⟨ends_drop _ _ (by omega), by intro e; have := congrArg List.length e; simp at this; omega⟩
  · exact ⟨ends_drop _ _ (by omega), by intro e; have := congrArg List.length e; simp at this; omega⟩
theorem cls_good {k : Int} {t : List Int} (hk : k = 0 ∨ k = 1) (h : t ≠ [] ∨ k = 1) : GoodR ⟨k, cls k t⟩ := by
  refine ⟨?_, hk, fun e => ?_⟩
  · exact List.length_pos_iff.1 (cls_pos ⟨k, t⟩ h)
  · dsimp only at e ⊢
    subst e
    unfold cls
    cases he : ends t
    · simp only [Bool.not_false, Bool.and_true, beq_self_eq_true, if_true]
      rw [ends_app _ _ (by simp)]
      rfl
    · simp [he]
theorem apd_good {x y : Rg} (hx : GoodR x) (hy : GoodR y) : GoodR (apd x y) := by
  obtain ⟨x1, x2, x3⟩ := hx
  obtain ⟨y1, y2, y3⟩ := hy
  unfold apd
  split
  · rename_i hk
    refine ⟨by simp [y1], y2, fun e => ?_⟩
    dsimp only at e ⊢
    rw [ends_app _ _ y1]
    exact y3 e
  · rename_i hk
    split
    · rename_i hk1
      refine ⟨by simp [y1], .inr rfl, fun _ => ?_⟩
      dsimp only
      rw [ends_app _ _ (by simp [y1]), ends_app _ _ y1]
      exact y3 hk1
    · rename_i hk1
      have hx1 : x.k = 1 := by rcases x2 with h | h <;> rcases y2 with h' | h' <;> first | exact h | (exact absurd (h.trans h'.symm) hk) | (exact absurd h' hk1)
      have := lbr_ends x.t x1
      refine ⟨by simp [y1], .inr rfl, fun _ => ?_⟩
      dsimp only
      rw [ends_app _ _ (by simp [y1]), ends_app _ _ this.2, this.1]
      exact x3 hx1
theorem nxt_good {s : Bs} (hs : Good s) {n : Int} {r : Rg} (hk : r.k = 0 ∨ r.k = 1) (h : r.t ≠ [] ∨ r.k = 1) : GoodR (nxt s.m n r) := by
  have hc := cls_good hk h
  unfold nxt
  cases hm : s.m (sml n) with
  | none => exact hc
  | some o =>
    dsimp only
    split
    · exact apd_good (hs.nm _ _ hm).2.1 hc
    · exact hc
/-- The document's way: what a register would hold behind y. -/
def ow (m : Int → Option Rg) (n : Int) (y : Rg) : Rg := if grB n = true then (match m (sml n) with
  | none => y
  | some o => jnd o y) else y
theorem ow_nxt {s : Bs} (hs : Good s) {n : Int} {r : Rg} (hk : r.k = 0 ∨ r.k = 1) (h : r.t ≠ [] ∨ r.k = 1) : ow s.m n ⟨r.k, cls r.k r.t⟩ = nxt s.m n r := by
  have hc := cls_good hk h
  unfold ow nxt
  cases hm : s.m (sml n) with
  | none => simp
  | some o =>
    dsimp only
    split
    · have ho := (hs.nm _ _ hm).2.1
      exact jnd_apd _ _ ho.ne hc.ne ho.kd hc.kd ho.en hc.en
    · rfl
theorem nxt_len (m : Int → Option Rg) (n : Int) (r : Rg) : r.t.length ≤ (nxt m n r).t.length := by
  have h1 := (cls_len r.k r.t).1
  unfold nxt
  cases m (sml n) with
  | none => exact h1
  | some o =>
    dsimp only
    split
    · refine Nat.le_trans h1 ?_
      unfold apd
      split
      · simp
      · split <;> simp <;> omega
    · exact h1
theorem wrtn_fine (m : Int → Option Rg) (n : Int) (r : Rg) : wrtn m n r = if 140000 < (nxt m n r).t.length then none else some (nxt m n r) := by
  have := nxt_len m n r
  unfold wrtn
  by_cases h : 140000 < (nxt m n r).t.length
  · rw [if_pos (.inr h), if_pos h]
  · rw [if_neg (by omega), if_neg h]
theorem Good.put {s : Bs} (hs : Good s) {k : Int} (hk : 0 ≤ k ∧ k < 128 ∧ grB k = false) {r : Rg} (hr : GoodR r) (hl : r.t.length ≤ 140000) {p : Int} (hp : 0 ≤ p ∧ p < 128 ∧ grB p = false) : Good ⟨upd s.m k (some r), p⟩ := by
  refine ⟨fun j x h => ?_, hp⟩
  dsimp only [upd] at h
  split at h
  · rename_i e
    subst e
    cases h
    exact ⟨hk, hr, hl⟩
  · exact hs.nm j x h
theorem Good.cut {s : Bs} (hs : Good s) (k : Int) : Good ⟨upd s.m k none, s.p⟩ := by
  refine ⟨fun j x h => ?_, hs.pt⟩
  dsimp only [upd] at h
  split at h
  · cases h
  · exact hs.nm j x h
theorem Good.shift {s : Bs} (hs : Good s) {d : Int} (hd : 48 ≤ d) : Good ⟨rng s.m d, s.p⟩ := by
  refine ⟨fun j x h => ?_, hs.pt⟩
  dsimp only [rng] at h
  split at h
  · rename_i e
    refine ⟨⟨by omega, by omega, ?_⟩, (hs.nm _ x h).2⟩
    unfold grB
    simp
    omega
  · exact hs.nm j x h
theorem nm_range {n : Int} (h : nmB n = true) : 0 ≤ n ∧ n < 128 := by
  unfold nmB smB grB dgB unB rdB at h
  simp only [Bool.or_eq_true, Bool.and_eq_true, decide_eq_true_eq, beq_iff_eq] at h
  omega
theorem sml_range {n : Int} (h : 0 ≤ n ∧ n < 128) : 0 ≤ sml n ∧ sml n < 128 ∧ grB (sml n) = false := by
  unfold sml
  split
  · rename_i hg
    unfold grB at hg ⊢
    simp only [Bool.and_eq_true, decide_eq_true_eq] at hg
    refine ⟨by omega, by omega, ?_⟩
    simp
    omega
  · rename_i hg
    exact ⟨h.1, h.2, by simpa using hg⟩
theorem Good.take {s : Bs} (hs : Good s) {n : Int} (hn : 0 ≤ n ∧ n < 128) {r : Rg} (hk : r.k = 0 ∨ r.k = 1) : Good (takeB s n r).2 := by
  cases hz : (n == 95 || nil? r) with
  | true => rw [takeB_skip hz]; exact hs
  | false =>
    have hr : r.t ≠ [] ∨ r.k = 1 := by
      rw [Bool.or_eq_false_iff] at hz
      have := hz.2
      unfold nil? at this
      rcases hk with h | h
      · left
        intro e
        rw [h, e] at this
        simp at this
      · exact .inr h
    cases hw : wrtn s.m n r with
    | none => rw [takeB_none hz hw]; exact hs
    | some x =>
      rw [takeB_some hz hw]
      rw [wrtn_fine] at hw
      split at hw
      · cases hw
      · cases hw
        exact hs.put (sml_range hn) (nxt_good hs hk hr) (by omega) (sml_range hn)
theorem Good.ring {s : Bs} (hs : Good s) {r : Rg} (hk : r.k = 0 ∨ r.k = 1) (hr : r.t ≠ [] ∨ r.k = 1) : Good (ringB s r).2 := by
  unfold ringB
  cases hw : wrtn s.m 49 r with
  | none => exact hs
  | some x =>
    rw [wrtn_fine] at hw
    split at hw
    · cases hw
    · cases hw
      exact (hs.shift (d := 49) (by omega)).put (by decide) (nxt_good hs hk hr) (by omega) (by decide)
theorem refE_ok {n k : Int} (h : refE n k = 0) : nmB n = true ∧ rdB n = false ∧ (k = 0 ∨ k = 1) := by
  unfold refE at h
  split at h
  · rename_i h1
    split at h
    · omega
    · rename_i h2
      split at h
      · omega
      · rename_i h3
        refine ⟨h1, by simpa using h2, ?_⟩
        simp at h3
        omega
  · omega
theorem Good.yank {s : Bs} (hs : Good s) (n : Int) (r : Rg) : Good (yankB s n r).2 := by
  unfold yankB
  split
  · rename_i h
    obtain ⟨h1, _, h3⟩ := refE_ok h
    refine hs.take ?_ h3
    split
    · omega
    · exact nm_range h1
  · exact hs
theorem Good.delete {s : Bs} (hs : Good s) (n : Int) (r : Rg) : Good (deleteB s n r).2 := by
  unfold deleteB
  split
  · rename_i h
    obtain ⟨h1, _, h3⟩ := refE_ok h
    split
    · split
      · rename_i hq
        refine hs.ring h3 ?_
        rw [Bool.or_eq_true] at hq
        rcases hq with hq | hq
        · right; simpa using hq
        · left
          intro e
          rw [e] at hq
          simp at hq
      · exact hs.take (by omega) h3
    · exact hs.take (nm_range h1) h3
  · exact hs
theorem Good.set {s : Bs} (hs : Good s) (n : Int) (t : List Int) : Good (setB s n t).2 := by
  unfold setB
  split
  · exact hs
  · rename_i h1
    split
    · exact hs
    · split
      · split
        · exact hs
        · exact hs.cut n
      · rename_i h3
        have hn : nmB n = true := by
          simp only [Bool.or_eq_true, Bool.not_eq_true', not_or, Bool.not_eq_false, Bool.not_eq_true] at h1
          exact h1.1
        have ht : t ≠ [] := by
          intro e
          rw [e] at h3
          exact h3 rfl
        unfold writeB
        cases hw : wrtn s.m n ⟨0, t⟩ with
        | none => exact hs
        | some x =>
          rw [wrtn_fine] at hw
          split at hw
          · cases hw
          · cases hw
            exact hs.put (sml_range (nm_range hn)) (nxt_good hs (.inl rfl) (.inl ht)) (by omega) hs.pt
end Go.Proofs.Ytmldfjhfgaggpaa
