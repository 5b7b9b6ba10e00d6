/- 'lettered': what GlyphFold asks of one int. -/
import Derived.Test.YtlignhpbmbdoeaaDoorFold
import Derived.Test.YtlignhpbmbdoeaaDoorLawKit
namespace Go.Proofs.YtlignhpbmbdoeaaDoor
open Go.RowKit

theorem Gx.one_none_of (a : Int) (h : ∀ e ∈ Gx.oneWay, e.1 ≠ a) (g : Bool) : Gx.one a g = (0, false) := by
  unfold Gx.one
  have : (Gx.oneWay.find? fun e => e.1 == a && e.2.2 == g) = none := by
    rw [List.find?_eq_none]
    intro e he
    simp [h e he]
  rw [this]

/-- A number that no table names has no other case. -/
theorem Gx.plain (a : Int) (h1 : Gx.find Gx.smallRows a = none) (h2 : Gx.find Gx.greatRows a = none) (h3 : ∀ e ∈ Gx.oneWay, e.1 ≠ a) : Gx.up a = a ∧ Gx.lw a = a ∧ Gx.tn a = a := by
  have hu : Gx.up a = a := by unfold Gx.up Gx.din; rw [Gx.one_none_of a h3, h1]; simp
  have hl : Gx.lw a = a := by unfold Gx.lw Gx.din; rw [Gx.one_none_of a h3, h2]; simp
  exact ⟨hu, hl, by unfold Gx.tn; rw [hu, hl]; simp⟩

/-- Either no table names it, or it is a number of the tables. -/
theorem Gx.named (a : Int) : (Gx.up a = a ∧ Gx.lw a = a ∧ Gx.tn a = a) ∨ ∃ n : Nat, a = n ∧ n ≤ 1048576 ∧ (n < 55296 ∨ 57343 < n) ∧ Gx.letN n = true := by
  cases hs : Gx.find Gx.smallRows a with
  | some r =>
    have hp := Gx.all_find (p := fun r => decide (r.2.1 < 1048576) && (decide (r.2.1 < 55296) || decide (57343 < r.1))) (by decide +kernel) hs
    have hr := Gx.all_find Gx.let_small hs
    simp at hp
    obtain ⟨_, h1, h2⟩ := Gx.find_mem hs
    refine .inr ⟨a.toNat, by omega, by omega, by omega, Gx.run_at hr _ (by omega) (by omega)⟩
  | none =>
    cases hg : Gx.find Gx.greatRows a with
    | some r =>
      have hp := Gx.all_find (p := fun r => decide (r.2.1 < 1048576) && (decide (r.2.1 < 55296) || decide (57343 < r.1))) (by decide +kernel) hg
      have hr := Gx.all_find Gx.let_great hg
      simp at hp
      obtain ⟨_, h1, h2⟩ := Gx.find_mem hg
      refine .inr ⟨a.toNat, by omega, by omega, by omega, Gx.run_at hr _ (by omega) (by omega)⟩
    | none =>
      by_cases ho : ∀ e ∈ Gx.oneWay, e.1 ≠ a
      · exact .inl (Gx.plain a hs hg ho)
      · have ho' : ∃ e ∈ Gx.oneWay, e.1 = a := by
          apply Classical.byContradiction
          intro h
          exact ho fun e he hea => h ⟨e, he, hea⟩
        obtain ⟨e, he, rfl⟩ := ho'
        have hm : e ∈ Gx.oneWayN.map fun e => ((e.1 : Int), (e.2.1 : Int), e.2.2) := he
        obtain ⟨f, hf, rfl⟩ := List.mem_map.1 hm
        have h1 := List.all_eq_true.1 Gx.let_one f hf
        have h2 : ∀ f ∈ Gx.oneWayN, f.1 ≤ 1048576 ∧ (f.1 < 55296 ∨ 57343 < f.1) := by decide
        exact .inr ⟨f.1, rfl, (h2 f hf).1, (h2 f hf).2, h1⟩

/-- What 'lettered' asks of one int. -/
theorem Gx.let_facts (a : Int) : (Gx.up a = a ∧ Gx.lw a = a ∧ Gx.tn a = a) ∨
    (0 ≤ a ∧ a ≤ 1114111 ∧ (a < 55296 ∨ 57343 < a) ∧ Gx.up a ≠ a ∧ Gx.lw a = a ∧ Gx.tn a = Gx.up a ∧ 0 ≤ Gx.up a ∧ Gx.up a ≤ 1114111 ∧ Gx.up (Gx.up a) = Gx.up a ∧ Gx.up (Gx.lw (Gx.up a)) = Gx.up a ∧ 0 ≤ Gx.lw (Gx.up a) ∧ Gx.lw (Gx.up a) ≤ 9223372036854775807) ∨
    (0 ≤ a ∧ a ≤ 1114111 ∧ (a < 55296 ∨ 57343 < a) ∧ Gx.lw a ≠ a ∧ Gx.up a = a ∧ Gx.tn a = Gx.lw a ∧ 0 ≤ Gx.lw a ∧ Gx.lw a ≤ 1114111 ∧ Gx.lw (Gx.lw a) = Gx.lw a ∧ Gx.lw (Gx.up (Gx.lw a)) = Gx.lw a ∧ 0 ≤ Gx.up (Gx.lw a) ∧ Gx.up (Gx.lw a) ≤ 9223372036854775807) := by
  rcases Gx.named a with h | ⟨n, rfl, h1, h2, h3⟩
  · exact .inl h
  · simp [Gx.letN] at h3
    obtain ⟨⟨⟨hu, hl⟩, hU⟩, hL⟩ := h3
    rw [Gx.up_nat, Gx.lw_nat, Gx.tn_nat, Gx.up_nat, Gx.lw_nat, Gx.lw_nat, Gx.up_nat, Gx.up_nat, Gx.lw_nat]
    have bu : ∀ m : Nat, m ≤ 1114111 → Gx.upN m ≤ 9223372036854775807 := by
      intro m hm
      have h := Gx.ubd_bd (m : Int)
      have e := Gx.up_nat m
      unfold Gx.up at e
      have h4 : ∀ e ∈ Gx.oneWay, 0 ≤ e.2.1 ∧ e.2.1 ≤ 1114111 := by decide
      split at e
      · unfold Gx.one at e
        cases hf : Gx.oneWay.find? fun e => e.1 == (m : Int) && e.2.2 == false with
        | none => rw [hf] at e; simp at e; omega
        | some x => rw [hf] at e; have := h4 x (List.mem_of_find?_eq_some hf); simp at e; omega
      · omega
    have bl : ∀ m : Nat, m ≤ 1114111 → Gx.lwN m ≤ 9223372036854775807 := by
      intro m hm
      have h := Gx.lbd_bd (m : Int)
      have e := Gx.lw_nat m
      unfold Gx.lw at e
      have h4 : ∀ e ∈ Gx.oneWay, 0 ≤ e.2.1 ∧ e.2.1 ≤ 1114111 := by decide
      split at e
      · unfold Gx.one at e
        cases hf : Gx.oneWay.find? fun e => e.1 == (m : Int) && e.2.2 == true with
        | none => rw [hf] at e; simp at e; omega
        | some x => rw [hf] at e; have := h4 x (List.mem_of_find?_eq_some hf); simp at e; omega
      · omega
    have b1 := bl _ hu
    have b2 := bu _ hl
    by_cases hun : Gx.upN n = n
    · by_cases hln : Gx.lwN n = n
      · refine .inl ⟨by omega, by omega, ?_⟩
        unfold Gx.tnN
        rw [hun, hln]
        simp
      · rcases hL with hL | ⟨⟨⟨_, e1⟩, e2⟩, e3⟩
        · exact absurd hL hln
        · exact .inr (.inr ⟨by omega, by omega, by omega, by omega, by omega, by omega, by omega, by omega, by omega, by omega, by omega, by omega⟩)
    · rcases hU with hU | ⟨⟨⟨e0, e1⟩, e2⟩, e3⟩
      · exact absurd hU hun
      · exact .inr (.inl ⟨by omega, by omega, by omega, by omega, by omega, by omega, by omega, by omega, by omega, by omega, by omega, by omega⟩)

theorem Gx.ascii (i : Nat) (h : i < 26) : Gx.up (97 + (i : Int)) = 65 + i ∧ Gx.lw (65 + (i : Int)) = 97 + i ∧ Gx.tn (97 + (i : Int)) = 65 + i ∧ Gx.tn (65 + (i : Int)) = 97 + i := by
  have H : ∀ i, i < 26 → Gx.upN (97 + i) = 65 + i ∧ Gx.lwN (65 + i) = 97 + i ∧ Gx.tnN (97 + i) = 65 + i ∧ Gx.tnN (65 + i) = 97 + i := by decide +kernel
  obtain ⟨h1, h2, h3, h4⟩ := H i h
  have e1 : (97 + (i : Int)) = ((97 + i : Nat) : Int) := by omega
  have e2 : (65 + (i : Int)) = ((65 + i : Nat) : Int) := by omega
  rw [e1, e2, Gx.up_nat, Gx.lw_nat, Gx.tn_nat, Gx.tn_nat, h1, h2, h3, h4]
  exact ⟨rfl, rfl, rfl, rfl⟩

theorem upper_is (a v : Int) (h : Gx.up a = v) (h1 : -9223372036854775808 ≤ a) (h2 : a ≤ 9223372036854775807) (w : World) (hT : Tabs w) : Calls Tryd.prog 10 #[.int .i64 a] w fun e w' => e = .returned (.int .i64 v) ∧ Below w.heap.size w w' := by
  rw [← h]; exact Upper_any a h1 h2 w hT
theorem lower_is (a v : Int) (h : Gx.lw a = v) (h1 : -9223372036854775808 ≤ a) (h2 : a ≤ 9223372036854775807) (w : World) (hT : Tabs w) : Calls Tryd.prog 11 #[.int .i64 a] w fun e w' => e = .returned (.int .i64 v) ∧ Below w.heap.size w w' := by
  rw [← h]; exact Lower_any a h1 h2 w hT
theorem turn_is (a v : Int) (h : Gx.tn a = v) (h1 : -9223372036854775808 ≤ a) (h2 : a ≤ 9223372036854775807) (w : World) (hT : Tabs w) : Calls Tryd.prog 12 #[.int .i64 a] w fun e w' => e = .returned (.int .i64 v) ∧ Below w.heap.size w w' := by
  rw [← h]; exact Turn_any a h1 h2 w hT

set_option maxRecDepth 100000 in
set_option maxHeartbeats 2000000 in
theorem lettered_any (a : Int) (h1 : -9223372036854775808 ≤ a) (h2 : a ≤ 9223372036854775807) (w : World) (hT : Tabs w) : Calls Tryd.prog 13 #[.int .i64 a] w fun e w' => e = .returned (.bool true) ∧ Below w.heap.size w w' := by
  have HT : Hid (Tabs w) := hT
  clear hT
  rcases Gx.let_facts a with ⟨hu, hl, ht⟩ | ⟨h3, h4, h5, hu, hl, ht, hu0, hu1, huu, hul, hlu0, hlu1⟩ | ⟨h3, h4, h5, hu, hl, ht, hu0, hu1, huu, hul, hlu0, hlu1⟩
  · have CU : Hid (∀ w, Tabs w → Calls Tryd.prog 10 #[.int .i64 a] w fun e w' => e = .returned (.int .i64 a) ∧ Below w.heap.size w w') := upper_is a a hu h1 h2
    have CL : Hid (∀ w, Tabs w → Calls Tryd.prog 11 #[.int .i64 a] w fun e w' => e = .returned (.int .i64 a) ∧ Below w.heap.size w w') := lower_is a a hl h1 h2
    have CT : Hid (∀ w, Tabs w → Calls Tryd.prog 12 #[.int .i64 a] w fun e w' => e = .returned (.int .i64 a) ∧ Below w.heap.size w w') := turn_is a a ht h1 h2
    clear hu hl ht
    rcases (show a < 0 ∨ 1114111 < a ∨ (55296 ≤ a ∧ a ≤ 57343) ∨ (0 ≤ a ∧ a < 55296) ∨ (57343 < a ∧ a ≤ 1114111) from by omega) with h | h | ⟨h, h'⟩ | ⟨h, h'⟩ | ⟨h, h'⟩
    all_goals
      go_enter Tryd.func13, Tryd.ntmps13
      go_wp2_with fail
      refine (CU.out _ HT.out).mono ?_
      rintro e w1 ⟨rfl, hb1⟩
      have HT1 : Hid (Tabs w1) := HT.out.ext hb1
      go_wp2_with fail
      refine (CL.out _ HT1.out).mono ?_
      rintro e w2 ⟨rfl, hb2⟩
      have HT2 : Hid (Tabs w2) := HT1.out.ext hb2
      go_wp2_with fail
      refine (CT.out _ HT2.out).mono ?_
      rintro e w3 ⟨rfl, hb3⟩
      go_wp2_with fail
      go_ret
      exact ⟨rfl, ext_trans hb1 (ext_trans hb2 hb3)⟩
  · generalize hv : Gx.up a = u at *
    generalize hv2 : Gx.lw u = x at *
    have CU : Hid (∀ w, Tabs w → Calls Tryd.prog 10 #[.int .i64 a] w fun e w' => e = .returned (.int .i64 u) ∧ Below w.heap.size w w') := upper_is a u hv h1 h2
    have CL : Hid (∀ w, Tabs w → Calls Tryd.prog 11 #[.int .i64 a] w fun e w' => e = .returned (.int .i64 a) ∧ Below w.heap.size w w') := lower_is a a hl h1 h2
    have CUU : Hid (∀ w, Tabs w → Calls Tryd.prog 10 #[.int .i64 u] w fun e w' => e = .returned (.int .i64 u) ∧ Below w.heap.size w w') := upper_is u u huu (by omega) (by omega)
    have CLU : Hid (∀ w, Tabs w → Calls Tryd.prog 11 #[.int .i64 u] w fun e w' => e = .returned (.int .i64 x) ∧ Below w.heap.size w w') := lower_is u x hv2 (by omega) (by omega)
    have CUX : Hid (∀ w, Tabs w → Calls Tryd.prog 10 #[.int .i64 x] w fun e w' => e = .returned (.int .i64 u) ∧ Below w.heap.size w w') := upper_is x u hul (by omega) (by omega)
    have CT : Hid (∀ w, Tabs w → Calls Tryd.prog 12 #[.int .i64 a] w fun e w' => e = .returned (.int .i64 u) ∧ Below w.heap.size w w') := turn_is a u ht h1 h2
    have bu : (u != a) = true := by simp [hu]
    clear hu hl ht huu hul hv hv2
    rcases h5 with h5 | h5
    all_goals
      go_enter Tryd.func13, Tryd.ntmps13
      go_wp2_with fail
      refine (CU.out _ HT.out).mono ?_
      rintro e w1 ⟨rfl, hb1⟩
      have HT1 : Hid (Tabs w1) := HT.out.ext hb1
      go_wp2_with fail
      refine (CL.out _ HT1.out).mono ?_
      rintro e w2 ⟨rfl, hb2⟩
      have HT2 : Hid (Tabs w2) := HT1.out.ext hb2
      go_wp2_with fail
      refine (CUU.out _ HT2.out).mono ?_
      rintro e w3 ⟨rfl, hb3⟩
      have HT3 : Hid (Tabs w3) := HT2.out.ext hb3
      go_wp2_with fail
      refine (CLU.out _ HT3.out).mono ?_
      rintro e w4 ⟨rfl, hb4⟩
      have HT4 : Hid (Tabs w4) := HT3.out.ext hb4
      go_wp2_with fail
      refine (CUX.out _ HT4.out).mono ?_
      rintro e w5 ⟨rfl, hb5⟩
      have HT5 : Hid (Tabs w5) := HT4.out.ext hb5
      go_wp2_with fail
      refine (CT.out _ HT5.out).mono ?_
      rintro e w6 ⟨rfl, hb6⟩
      go_wp2_with fail
      go_ret
      exact ⟨rfl, ext_trans hb1 (ext_trans hb2 (ext_trans hb3 (ext_trans hb4 (ext_trans hb5 hb6))))⟩
  · generalize hv : Gx.lw a = u at *
    generalize hv2 : Gx.up u = x at *
    have CU : Hid (∀ w, Tabs w → Calls Tryd.prog 10 #[.int .i64 a] w fun e w' => e = .returned (.int .i64 a) ∧ Below w.heap.size w w') := upper_is a a hl h1 h2
    have CL : Hid (∀ w, Tabs w → Calls Tryd.prog 11 #[.int .i64 a] w fun e w' => e = .returned (.int .i64 u) ∧ Below w.heap.size w w') := lower_is a u hv h1 h2
    have CUU : Hid (∀ w, Tabs w → Calls Tryd.prog 11 #[.int .i64 u] w fun e w' => e = .returned (.int .i64 u) ∧ Below w.heap.size w w') := lower_is u u huu (by omega) (by omega)
    have CLU : Hid (∀ w, Tabs w → Calls Tryd.prog 10 #[.int .i64 u] w fun e w' => e = .returned (.int .i64 x) ∧ Below w.heap.size w w') := upper_is u x hv2 (by omega) (by omega)
    have CUX : Hid (∀ w, Tabs w → Calls Tryd.prog 11 #[.int .i64 x] w fun e w' => e = .returned (.int .i64 u) ∧ Below w.heap.size w w') := lower_is x u hul (by omega) (by omega)
    have CT : Hid (∀ w, Tabs w → Calls Tryd.prog 12 #[.int .i64 a] w fun e w' => e = .returned (.int .i64 u) ∧ Below w.heap.size w w') := turn_is a u ht h1 h2
    have bu : (u != a) = true := by simp [hu]
    clear hu hl ht huu hul hv hv2
    rcases h5 with h5 | h5
    all_goals
      go_enter Tryd.func13, Tryd.ntmps13
      go_wp2_with fail
      refine (CU.out _ HT.out).mono ?_
      rintro e w1 ⟨rfl, hb1⟩
      have HT1 : Hid (Tabs w1) := HT.out.ext hb1
      go_wp2_with fail
      refine (CL.out _ HT1.out).mono ?_
      rintro e w2 ⟨rfl, hb2⟩
      have HT2 : Hid (Tabs w2) := HT1.out.ext hb2
      go_wp2_with fail
      refine (CUU.out _ HT2.out).mono ?_
      rintro e w3 ⟨rfl, hb3⟩
      have HT3 : Hid (Tabs w3) := HT2.out.ext hb3
      go_wp2_with fail
      refine (CLU.out _ HT3.out).mono ?_
      rintro e w4 ⟨rfl, hb4⟩
      have HT4 : Hid (Tabs w4) := HT3.out.ext hb4
      go_wp2_with fail
      refine (CUX.out _ HT4.out).mono ?_
      rintro e w5 ⟨rfl, hb5⟩
      have HT5 : Hid (Tabs w5) := HT4.out.ext hb5
      go_wp2_with fail
      refine (CT.out _ HT5.out).mono ?_
      rintro e w6 ⟨rfl, hb6⟩
      go_wp2_with fail
      go_ret
      exact ⟨rfl, ext_trans hb1 (ext_trans hb2 (ext_trans hb3 (ext_trans hb4 (ext_trans hb5 hb6))))⟩

/-- A list whose numbers are 64-bit ones. -/
def I64s (zs : List Int) : Prop := ∀ z ∈ zs, -9223372036854775808 ≤ z ∧ z ≤ 9223372036854775807
theorem I64s.at {zs : List Int} (h : I64s zs) (i : Nat) : -9223372036854775808 ≤ zs[i]?.getD 0 ∧ zs[i]?.getD 0 ≤ 9223372036854775807 := by
  by_cases hi : i < zs.length
  · simp only [hi, List.getElem?_eq_getElem, Option.getD_some]
    exact h _ (List.getElem_mem hi)
  · rw [List.getElem?_eq_none (by omega)]
    simp

end Go.Proofs.YtlignhpbmbdoeaaDoor
