/- ClusterLines: the row, up to the bound. -/
import Derived.Test.YtahjjpleceppaaaWalkLines
import Derived.Test.YtahjjpleceppaaaBulk
namespace Go.Proofs.Ytahjjpleceppaaa
open Go.ChangeShapes Go.WideShapes Go.ChangeAt Go.RowKit

/-- The lists' lengths, by the bulk of the data. -/
theorem pre_bulk {H : Type} : ∀ (zss : List (List Int)) (el : List (DataW H)), el.length = zss.length → (∀ i, i < zss.length → ∃ x, el[i]? = some x ∧ (zss[i]?.getD [] = [] ∨ ∃ e' s', x = DataW.slice e' s' ∧ e'.length = (zss[i]?.getD []).length)) → Cl.pre zss zss.length ≤ 2 * Rows.uptoBulkAll el
  | [], _, _, _ => by simp [Cl.pre]
  | z :: zss, [], h, _ => by simp at h
  | z :: zss, x :: el, h, hall => by
    have ih := pre_bulk zss el (by simpa using h) (fun i hi => by
      obtain ⟨y, h1, h2⟩ := hall (i + 1) (by simpa using hi)
      exact ⟨y, by simpa using h1, by simpa using h2⟩)
    have h0 := hall 0 (by simp)
    have hx : z.length + 1 ≤ Rows.uptoBulk x := by
      obtain ⟨y, h1, h2⟩ := h0
      simp at h1
      subst h1
      rcases h2 with h2 | ⟨e', s', rfl, h2⟩
      · have := bulk_one x
        simp at h2
        rw [h2]; simpa using this
      · have := bulk_length e'
        simp at h2
        simp only [Rows.uptoBulk]
        omega
    unfold Cl.pre at *
    rw [List.take_length] at *
    simp only [List.map_cons, List.sum_cons, Rows.uptoBulkAll]
    omega

set_option maxRecDepth 100000 in
theorem clusterLines_contract (H : Type) (enc : TypeId × Value → H) (W : World) (base : Nat) (args : Array Value) (ds gs : List (DataW H)) (before : List MemPlace)
    (hval : ∀ (j : Nat) t v, Try.f4.params[j]? = some t → args[j]? = some v → Value.okWide Try.prog W .any base t v)
    (hW : DataW.Whole enc Try.prog Try.f4.params.toList Rows.clusterLinesSpec.vars false W args.toList ds gs before) (hk : Rows.uptoSmall H (ds ++ gs) = true) :
    Calls Try.prog 4 args W fun e W' => ∃ v, e = .returned v ∧ Rows.clusterLinesSpec.post enc Try.prog Try.f4 false true false false W args v W' := by
  have hW' := hW
  obtain ⟨p, q, hA0, hV, rfl, hfz, hnd⟩ := hW
  have hA : DataW.TrodAll enc Try.prog W 0 (fun _ => true) true Try.f4.params.toList args.toList ds p := hA0
  rw [Try.params4] at hA hval
  obtain ⟨v0, vs0, d0, ds0, p0, q0, hargs, rfl, rfl, h0, r0⟩ := trodAll_cons hA
  obtain ⟨v1, vs1, d1, ds1, p1, q1, rfl, rfl, rfl, h1, r1⟩ := trodAll_cons r0
  obtain ⟨rfl, rfl, rfl⟩ := trodAll_nil r1
  obtain rfl : args = #[v0, v1] := by cases args; simp_all
  obtain ⟨rfl, rfl⟩ := trodVars_none hV
  obtain ⟨a0, len0, cap0, rfl⟩ := okWide_slice Try.underlying29 (hval 0 29 v0 rfl rfl)
  have k0 := h0
  have lt0 : ∀ x ∈ p0, x.block < W.heap.size := by obtain ⟨m, hm⟩ := k0; exact DataW.trod_lt m _ _ _ hm
  obtain ⟨z0, hr0, hd0⟩ := lists_of h0
  have hz0 : Cl.pre z0 z0.length ≤ 2097152 := by
    rcases hd0 with rfl | ⟨el, sp, rfl, hel, hall⟩
    · simp [Cl.pre]
    · have h1 := bulk_bound hk
      have h2 := bulk_part (d := DataW.slice el sp) (l := DataW.slice el sp :: [d1] ++ []) (by simp)
      have h3 := pre_bulk z0 el hel hall
      simp only [Rows.uptoBulk] at h2
      have h1' : Rows.uptoBulkAll (DataW.slice el sp :: [d1] ++ []) ≤ 1048576 := h1
      omega
  obtain ⟨a1, len1, cap1, rfl⟩ := okWide_slice Try.underlying22 (hval 1 22 v1 rfl rfl)
  have k1 := h1
  have lt1 : ∀ x ∈ p1, x.block < W.heap.size := by obtain ⟨m, hm⟩ := k1; exact DataW.trod_lt m _ _ _ hm
  obtain ⟨z1, hr1, hw1, hd1⟩ := rd_of Try.underlying22 Try.underlying3 (by kernel_rfl) h1
  have hz1 : z1.length ≤ 1048576 := by
    rcases hd1 with rfl | ⟨el, sp, rfl, hel⟩
    · simp
    · have := bulk_slice (el := el) (sp := sp) hk (by simp)
      omega
  clear hA0
  refine (law_lines _ z0 _ z1 W hr0 hr1 (by omega)).mono fun e W' ⟨he, bel⟩ => ?_
  subst he
  exact ⟨_, rfl, _, _, _, [], _, [], hW', trodAll_mk1 (shut_bool Try.underlying4 _), (trodAll_cons_mk (Below.trod laidOutK (by kernel_rfl) (of_decide_eq_true (by kernel_rfl)) k0 bel lt0) (trodAll_cons_mk (Below.trod laidOutK (by kernel_rfl) (of_decide_eq_true (by kernel_rfl)) k1 bel lt1) trodAll_mk0)), rfl, bel.frame _, fun h => by cases h⟩

set_option maxRecDepth 100000 in
theorem clusterLines_lifted (os : Os) (started : os.Started) (H : Type) (enc : TypeId × Value → H) (F : Stop.Interp) :
    ReturnsInHanded {} Try.checked os 4 .any ((Rows.OpenSpec.upto Rows.clusterLinesSpec).pre6 enc Try.prog Try.f4 Rows.clusterLinesUptoRow.domain false) (((Rows.OpenSpec.upto Rows.clusterLinesSpec).at F).post enc Try.prog Try.f4 false true false false) := by
  refine returnsInHanded_of_cond (C := Try.checked) (s := Rows.OpenSpec.upto Rows.clusterLinesSpec) (k := Rows.uptoSmall) rfl ownK started (by kernel_rfl) Try.func4
    (OpenSpec.witness (enc := enc) (C := Try.checked) (s := Rows.OpenSpec.upto Rows.clusterLinesSpec) (k := Rows.uptoSmall) rfl false ⟨#[], #[.slice none 0 0, .slice none 0 0], []⟩ 8 (by kernel_rfl) (by kernel_rfl) (by kernel_rfl)
      (x := ([.nil, .nil], [], [])) (by kernel_rfl) rfl (by kernel_rfl)) ?_
  intro W base args ds gs before hval hW _ hk _
  exact clusterLines_contract H enc W base args ds gs before hval hW hk

theorem clusterLines_upto : Rows.ClusterLinesUptoSaid :=
  OpenClaim.holds_of_cond 4 Try.f4 rfl rfl rfl rfl rfl rfl rfl ⟨rfl, rfl, rfl, rfl, rfl⟩ rfl rfl rfl rfl rfl (by kernel_rfl) Try.func4 (by kernel_rfl)
    (of_decide_eq_true (by kernel_rfl)) (by unfold Func.isWrapper; first | (rw [if_pos (by decide +kernel)]; kernel_rfl) | (rw [if_neg (by decide +kernel)]; exact ⟨rfl, rfl⟩))
    (fun os started H enc _ F => clusterLines_lifted os started H enc F)
end Go.Proofs.Ytahjjpleceppaaa
