/- Boundaries of lists that begin alike, and of what stands behind a boundary. -/
import Derived.Test.YtahjjpleceppaaaHelp
import Derived.Test.YtahjjpleceppaaaWalkColumnsBack
namespace Go.Proofs.Ytahjjpleceppaaa

theorem Cl.rv_app (hd x : List Int) (k : Nat) (h : k ≤ hd.length) : Cl.rv (hd ++ x) k = Cl.rv hd k := by
  unfold Cl.rv; rw [List.take_append_of_le_length h]
theorem Cl.at_app (hd x : List Int) (k : Nat) (h : k < hd.length) : Cl.at (hd ++ x) k = Cl.at hd k := by
  unfold Cl.at; rw [List.getElem?_append_left h]
theorem Cl.jn_app (hd x : List Int) (k : Nat) (h : k < hd.length) : Cl.jn (hd ++ x) k = Cl.jn hd k := by
  unfold Cl.jn; rw [Cl.rv_app hd x k (by omega), Cl.at_app hd x k h, Cl.at_app hd x (k - 1) (by omega)]
theorem Cl.isB_app (hd x : List Int) (k : Nat) (h : k < hd.length) : Cl.isB (hd ++ x) k = Cl.isB hd k := by
  unfold Cl.isB
  by_cases h0 : k = 0
  · rw [if_pos h0, if_pos h0]
  · rw [if_neg h0, if_neg h0, if_pos (by rw [List.length_append]; omega), if_pos h, Cl.jn_app hd x k h]
theorem Cl.bl_app (hd x : List Int) (k : Nat) (h : k ≤ hd.length) : Cl.bl (hd ++ x) k = Cl.bl hd k := by
  induction k with
  | zero => rfl
  | succ k ih => rw [Cl.bl_succ, Cl.bl_succ, ih (by omega), Cl.isB_app hd x k (by omega)]

theorem Cl.bi_len (zs : List Int) : (Cl.bi zs).length = Cl.cnt zs zs.length + 1 := by unfold Cl.bi; rw [List.length_map, Cl.bs_len]
theorem Cl.bi_le (zs : List Int) : (Cl.bi zs).length ≤ zs.length + 1 := by rw [Cl.bi_len]; have := Cl.cnt_le zs zs.length; omega
theorem Cl.bi_get (zs : List Int) (i : Nat) : (Cl.bi zs)[i]? = (Cl.bs zs)[i]?.map fun (n : Nat) => (n : Int) := by unfold Cl.bi; rw [List.getElem?_map]
/-- Two neighbours of the list. -/
theorem Cl.bs_next (zs : List Int) (i p : Nat) (hp : (Cl.bs zs)[i]? = some p) (hi : i + 1 < (Cl.bs zs).length) : p < zs.length ∧ (Cl.bs zs)[i + 1]? = some (Cl.up zs (p + 1)) ∧ Cl.dn zs (Cl.up zs (p + 1) - 1) = p := by
  obtain ⟨k, k1, k2, k3, k4⟩ := Cl.bs_get zs i (by omega)
  rw [hp] at k4
  obtain rfl := Option.some.inj k4
  have hlt : p < zs.length := by
    rcases Nat.lt_or_ge p zs.length with h | h
    · exact h
    · have := Cl.bs_len zs
      rw [show p = zs.length from by omega] at k3
      omega
  obtain ⟨u1, u2, u3, u4⟩ := Cl.up_spec zs _ (p + 1) rfl (by omega) (by omega)
  refine ⟨hlt, ?_, ?_⟩
  · have := Cl.bs_at zs _ u2 u3
    rwa [Cl.cnt_up zs p hlt, k3] at this
  · obtain ⟨d1, d2, d3⟩ := Cl.dn_spec zs (Cl.up zs (p + 1) - 1) (by omega)
    rcases Nat.lt_trichotomy (Cl.dn zs (Cl.up zs (p + 1) - 1)) p with h | h | h
    · have := d3 p h (by omega); rw [k2] at this; cases this
    · exact h
    · have := u4 _ (show p + 1 ≤ Cl.dn zs (Cl.up zs (p + 1) - 1) from by omega) (by omega); rw [d2] at this; cases this
theorem Cl.bi_rise (zs : List Int) : Cl.rise (Cl.bi zs) (zs.length : Int) := by
  refine ⟨by rw [Cl.bi_len]; omega, by rw [Cl.bi_get, Cl.bs_zero]; rfl, ?_, ?_⟩
  · rw [Cl.bi_len, Nat.add_sub_cancel, Cl.bi_get, Cl.bs_at zs _ (Nat.le_refl _) (Cl.isB_end zs)]; rfl
  · intro i h0 hi
    have hl : (Cl.bi zs).length = (Cl.bs zs).length := by unfold Cl.bi; rw [List.length_map]
    obtain ⟨p, _, _, _, hp⟩ := Cl.bs_get zs (i - 1) (by omega)
    obtain ⟨h1, h2, _⟩ := Cl.bs_next zs (i - 1) p hp (by omega)
    rw [show i - 1 + 1 = i from by omega] at h2
    obtain ⟨u1, _⟩ := Cl.up_spec zs _ (p + 1) rfl (by omega) (by omega)
    rw [Cl.bi_get, Cl.bi_get, hp, h2]
    simp only [Option.map_some, Option.getD_some]
    omega
theorem Cl.bi_mem (zs : List Int) (x : Int) (h : x ∈ Cl.bi zs) : 0 ≤ x ∧ x ≤ (zs.length : Int) := by
  unfold Cl.bi at h
  obtain ⟨k, hk, rfl⟩ := List.mem_map.1 h
  unfold Cl.bs Cl.bl at hk
  have := (List.mem_filter.1 hk).1
  rw [List.mem_range] at this
  omega

theorem Cl.range_split (n h : Nat) (hh : h ≤ n) : List.range n = List.range h ++ (List.range (n - h)).map (h + ·) := by
  rw [← List.range_add, show h + (n - h) = n from by omega]
theorem Cl.upto_bi (zs : List Int) (h : Nat) (hh : h ≤ zs.length) : Cl.uptoL h (Cl.bi zs) = (Cl.bl zs h).map fun (n : Nat) => (n : Int) := by
  unfold Cl.uptoL Cl.bi Cl.bs Cl.bl
  rw [Cl.range_split (zs.length + 1) h (by omega), List.filter_append, List.map_append, List.filter_append, List.map_id']
  have e1 : (((List.range h).filter (Cl.isB zs)).map fun (n : Nat) => (n : Int)).filter (fun x => decide (x < (h : Int))) = ((List.range h).filter (Cl.isB zs)).map fun (n : Nat) => (n : Int) := by
    rw [List.filter_eq_self]
    intro x hx
    obtain ⟨k, hk, rfl⟩ := List.mem_map.1 hx
    have := List.mem_range.1 (List.mem_filter.1 hk).1
    simp; omega
  have e2 : ((((List.range (zs.length + 1 - h)).map (h + ·)).filter (Cl.isB zs)).map fun (n : Nat) => (n : Int)).filter (fun x => decide (x < (h : Int))) = [] := by
    rw [List.filter_eq_nil_iff]
    intro x hx
    obtain ⟨k, hk, rfl⟩ := List.mem_map.1 hx
    obtain ⟨j, _, rfl⟩ := List.mem_map.1 (List.mem_filter.1 hk).1
    simp; omega
  rw [e1, e2, List.append_nil]
theorem Cl.ahead (hd x y : List Int) : Cl.uptoL hd.length (Cl.bi (hd ++ x)) = Cl.uptoL hd.length (Cl.bi (hd ++ y)) := by
  rw [Cl.upto_bi _ _ (by rw [List.length_append]; omega), Cl.upto_bi _ _ (by rw [List.length_append]; omega), Cl.bl_app _ _ _ (Nat.le_refl _), Cl.bl_app _ _ _ (Nat.le_refl _)]
theorem Cl.cut (zs : List Int) (b : Nat) (hb : Cl.isB zs b = true) (hl : b ≤ zs.length) : Cl.bi (zs.drop b) = Cl.fromL b (Cl.bi zs) := by
  unfold Cl.fromL Cl.bi Cl.bs Cl.bl
  rw [Cl.range_split (zs.length + 1) b (by omega), List.filter_append, List.map_append, List.filter_append, List.map_append]
  have e1 : (((List.range b).filter (Cl.isB zs)).map fun (n : Nat) => (n : Int)).filter (fun x => decide ((b : Int) ≤ x)) = [] := by
    rw [List.filter_eq_nil_iff]
    intro x hx
    obtain ⟨k, hk, rfl⟩ := List.mem_map.1 hx
    have := List.mem_range.1 (List.mem_filter.1 hk).1
    simp; omega
  have e2 : ((((List.range (zs.length + 1 - b)).map (b + ·)).filter (Cl.isB zs)).map fun (n : Nat) => (n : Int)).filter (fun x => decide ((b : Int) ≤ x)) = (((List.range (zs.length + 1 - b)).map (b + ·)).filter (Cl.isB zs)).map fun (n : Nat) => (n : Int) := by
    rw [List.filter_eq_self]
    intro x hx
    obtain ⟨k, hk, rfl⟩ := List.mem_map.1 hx
    obtain ⟨j, _, rfl⟩ := List.mem_map.1 (List.mem_filter.1 hk).1
    simp; omega
  rw [e1, e2, List.map_nil, List.nil_append, List.filter_map, List.map_map, List.map_map, List.length_drop, show zs.length - b + 1 = zs.length + 1 - b from by omega]
  have e3 : (List.range (zs.length + 1 - b)).filter (Cl.isB (zs.drop b)) = (List.range (zs.length + 1 - b)).filter (Cl.isB zs ∘ (b + ·)) := by
    apply List.filter_congr
    intro k hk
    rw [List.mem_range] at hk
    exact Cl.isB_drop zs b hb hl k (by omega)
  rw [e3]
  apply List.map_congr_left
  intro k _
  simp only [Function.comp]
  omega
end Go.Proofs.Ytahjjpleceppaaa
