/- The cells of a line, cluster by cluster. No Go in sight. -/
import Derived.Test.YtcmglbgnpiociabVPlc
import Derived.Test.YtcmglbgnpiociabCalls
namespace Go.Proofs.Ytcmglbgnpiociab
open Go.RowKit

theorem Cl.bs_zero (zs : List Int) : (Cl.bs zs)[0]? = some 0 := by
  have := Cl.bs_at zs 0 (Nat.zero_le _) (Cl.isB_zero zs)
  rwa [Cl.cnt_zero] at this
theorem Cl.bi_len (zs : List Int) : (Cl.bi zs).length = Cl.cnt zs zs.length + 1 := by unfold Cl.bi; rw [List.length_map, Cl.bs_len]
theorem Cl.bi_le (zs : List Int) : (Cl.bi zs).length ≤ zs.length + 1 := by rw [Cl.bi_len]; have := Cl.cnt_le zs zs.length; omega
theorem Cl.bi_get (zs : List Int) (i : Nat) : (Cl.bi zs)[i]? = (Cl.bs zs)[i]?.map fun (n : Nat) => (n : Int) := by unfold Cl.bi; rw [List.getElem?_map]
/-- Two neighbours of the list. -/
theorem Cl.bs_next (zs : List Int) (i p : Nat) (hp : (Cl.bs zs)[i]? = some p) (hi : i + 1 < (Cl.bs zs).length) : p < zs.length ∧ (Cl.bs zs)[i + 1]? = some (Cl.up zs (p + 1)) ∧ Cl.dn zs (Cl.up zs (p + 1) - 1) = p := by
  obtain ⟨k, k1, k2, k3, k4⟩ := Cl.bs_get zs i (by omega)
  rw [hp] at k4
  obtain rfl := Option.some.inj k4
  have hlt : p < zs.length := by
    rcases Nat.lt_or_ge p zs.length with h | h
    · exact h
    · have := Cl.bs_len zs
      rw [show p = zs.length from by omega] at k3
      omega
  obtain ⟨u1, u2, u3, u4⟩ := Cl.up_spec zs _ (p + 1) rfl (by omega) (by omega)
  refine ⟨hlt, ?_, ?_⟩
  · have := Cl.bs_at zs _ u2 u3
    rwa [Cl.cnt_up zs p hlt, k3] at this
  · obtain ⟨d1, d2, d3⟩ := Cl.dn_spec zs (Cl.up zs (p + 1) - 1) (by omega)
    rcases Nat.lt_trichotomy (Cl.dn zs (Cl.up zs (p + 1) - 1)) p with h | h | h
    · have := d3 p h (by omega); rw [k2] at this; cases this
    · exact h
    · have := u4 _ (show p + 1 ≤ Cl.dn zs (Cl.up zs (p + 1) - 1) from by omega) (by omega); rw [d2] at this; cases this

/-- What lies ahead of an offset, and the cell there. -/
structure Vw.Dec (zs : List Int) (p c : Nat) (pre : List (Nat × Nat × Nat)) : Prop where
  eq : Vw.ps zs 0 0 = pre ++ Vw.ps zs p c
  lst : Vw.lst pre = c
  le : ∀ q ∈ pre, q.2.1 ≤ p ∧ q.2.2 ≤ c
  cp : c ≤ 8 * p
theorem Vw.dec_zero (zs : List Int) : Vw.Dec zs 0 0 [] := ⟨rfl, rfl, by simp, by omega⟩
theorem Vw.Dec.next {zs : List Int} {p c : Nat} {pre : List (Nat × Nat × Nat)} (h : Vw.Dec zs p c pre) (hp : p < zs.length) : Vw.Dec zs (Cl.up zs (p + 1)) (c + Vw.wd (Vw.clu zs p) c) (pre ++ [(p, Cl.up zs (p + 1), c + Vw.wd (Vw.clu zs p) c)]) := by
  have hu := Vw.up_gt zs p hp
  have hw := Vw.clu_wd zs p c hp
  refine ⟨?_, Vw.lst_app _ _, ?_, ?_⟩
  · rw [h.eq, Vw.ps_step zs p c hp, List.append_assoc]; rfl
  · intro q hq
    rcases List.mem_append.1 hq with h1 | h1
    · have := h.le q h1; omega
    · obtain rfl := List.mem_singleton.1 h1
      exact ⟨Nat.le_refl _, Nat.le_refl _⟩
  · have := h.cp; omega
theorem Vw.dec_at (zs : List Int) : ∀ (i p : Nat), (Cl.bs zs)[i]? = some p → ∃ c pre, Vw.Dec zs p c pre := by
  intro i
  induction i with
  | zero =>
    intro p hp
    rw [Cl.bs_zero] at hp
    cases hp
    exact ⟨0, [], Vw.dec_zero zs⟩
  | succ i ih =>
    intro p hp
    have hl : i + 1 < (Cl.bs zs).length := (List.getElem?_eq_some_iff.1 hp).1
    obtain ⟨q, hq⟩ : ∃ q, (Cl.bs zs)[i]? = some q := ⟨_, List.getElem?_eq_getElem (by omega)⟩
    obtain ⟨c, pre, h⟩ := ih q hq
    obtain ⟨h1, h2, _⟩ := Cl.bs_next zs i q hq hl
    rw [hp] at h2
    cases h2
    exact ⟨_, _, h.next h1⟩
/-- The cell up to an offset in the next cluster. -/
theorem Vw.Dec.cell {zs : List Int} {p c : Nat} {pre : List (Nat × Nat × Nat)} (h : Vw.Dec zs p c pre) (a : Int) (ha : (p : Int) ≤ a) (hn : p < zs.length → a < (Cl.up zs (p + 1) : Int)) : Vw.cell zs a = c := by
  unfold Vw.cell
  rw [h.eq]
  by_cases hp : p < zs.length
  · rw [Vw.ps_step zs p c hp, Vw.cellL_stop pre _ _ a (fun q hq => by have := (h.le q hq).1; omega) (hn hp), h.lst]
  · rw [Vw.ps_end zs p c (by omega), List.append_nil, Vw.cellL_all pre a (fun q hq => by have := (h.le q hq).1; omega), h.lst]
theorem Vw.Dec.at {zs : List Int} {p c : Nat} {pre : List (Nat × Nat × Nat)} (h : Vw.Dec zs p c pre) (hp : p < zs.length) (k : Nat) (h1 : c ≤ k) (h2 : k < c + Vw.wd (Vw.clu zs p) c) : Vw.at zs (k : Int) = p := by
  unfold Vw.at
  rw [if_neg (by omega), h.eq, Vw.atL_pre _ pre _ _ (fun q hq => by have := (h.le q hq).2; omega), Vw.ps_step zs p c hp, Vw.atL, if_pos (by show (k : Int) < ((c + Vw.wd (Vw.clu zs p) c : Nat) : Int); omega)]
theorem Vw.Dec.end {zs : List Int} {c : Nat} {pre : List (Nat × Nat × Nat)} (h : Vw.Dec zs zs.length c pre) (k : Nat) (h1 : c ≤ k) : Vw.at zs (k : Int) = zs.length := by
  unfold Vw.at
  rw [if_neg (by omega), h.eq, Vw.atL_pre _ pre _ _ (fun q hq => by have := (h.le q hq).2; omega), Vw.ps_end zs _ c (Nat.le_refl _), Vw.atL]
theorem Vw.cell_neg (zs : List Int) (a : Int) (h : a < 0) : Vw.cell zs a = 0 := by
  unfold Vw.cell
  by_cases hp : 0 < zs.length
  · rw [Vw.ps_step zs 0 0 hp, Vw.cellL, if_pos (by show a < ((Cl.up zs (0 + 1) : Nat) : Int); omega)]
  · rw [Vw.ps_end zs 0 0 (by omega), Vw.cellL]
theorem Vw.at_neg (zs : List Int) (a : Int) (h : a < 0) : Vw.at zs a = 0 := by unfold Vw.at; rw [if_pos h]
theorem Vw.dec_end (zs : List Int) : ∃ c pre, Vw.Dec zs zs.length c pre := by
  have := Cl.bs_at zs zs.length (Nat.le_refl _) (Cl.isB_end zs)
  exact Vw.dec_at zs _ _ this
end Go.Proofs.Ytcmglbgnpiociab
