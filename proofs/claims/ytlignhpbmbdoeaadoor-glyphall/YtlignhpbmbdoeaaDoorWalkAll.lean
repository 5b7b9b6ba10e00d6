/- given, wanted, all; GlyphClass, GlyphConjunct, GlyphWord, GlyphCase, GlyphWidth: the walks. -/
import Derived.Test.YtlignhpbmbdoeaaDoorRefUp2
import Derived.Test.YtlignhpbmbdoeaaDoorRefWid
import Derived.Test.YtlignhpbmbdoeaaDoorLawKit
import Derived.Deep.RegionWith
namespace Go.Proofs.YtlignhpbmbdoeaaDoor
open Go.RowKit

/-- The answer to a call of kind k. -/
def Gx.ans (k a : Int) : Int :=
  if k = 1 then Gx.cls a else if k = 2 then Gx.cnj a else if k = 3 then Gx.wrd a else if k = 4 then Gx.up a else if k = 5 then Gx.lw a else if k = 6 then Gx.tn a else if k = 7 then Gx.wid a else 0

set_option maxRecDepth 100000 in
set_option maxHeartbeats 1000000 in
theorem given_any (k a : Int) (h1 : -9223372036854775808 ≤ a) (h2 : a ≤ 9223372036854775807) (w : World) (hT : Tabs w) : Calls Tryd.prog 15 #[.int .i64 k, .int .i64 a] w fun e w' => e = .returned (.int .i64 (Gx.ans k a)) ∧ Below w.heap.size w w' := by
  have HT : Hid (Tabs w) := hT
  clear hT
  by_cases hk : k = 1 ∨ k = 2 ∨ k = 3 ∨ k = 4 ∨ k = 5 ∨ k = 6 ∨ k = 7
  · rcases hk with rfl | rfl | rfl | rfl | rfl | rfl | rfl
    all_goals
      go_enter Tryd.func15, Tryd.ntmps15
      go_wp2_with fail
      first
        | refine (Class_any a _).mono ?_
        | refine (Conjunct_any a _).mono ?_
        | refine (Word_any a _).mono ?_
        | refine (Width_any a _).mono ?_
        | refine (Upper_any a h1 h2 _ HT.out).mono ?_
        | refine (Lower_any a h1 h2 _ HT.out).mono ?_
        | refine (Turn_any a h1 h2 _ HT.out).mono ?_
      rintro e w1 ⟨rfl, hb1⟩
      go_wp2_with fail
      go_ret
      exact ⟨rfl, hb1⟩
  · have b1 : (k == 1) = false := by simp; omega
    have b2 : (k == 2) = false := by simp; omega
    have b3 : (k == 3) = false := by simp; omega
    have b4 : (k == 4) = false := by simp; omega
    have b5 : (k == 5) = false := by simp; omega
    have b6 : (k == 6) = false := by simp; omega
    have b7 : (k == 7) = false := by simp; omega
    have HQ : Hid (Gx.ans k a = 0) := by unfold Hid Gx.ans; simp only [show k ≠ 1 from by omega, show k ≠ 2 from by omega, show k ≠ 3 from by omega, show k ≠ 4 from by omega, show k ≠ 5 from by omega, show k ≠ 6 from by omega, show k ≠ 7 from by omega, if_false]
    clear hk
    go_enter Tryd.func15, Tryd.ntmps15
    go_wp2_with fail
    go_ret
    exact ⟨ret_int HQ.out.symm, Below.refl _ _⟩

set_option maxRecDepth 100000 in
set_option maxHeartbeats 1000000 in
theorem wanted_any (k a : Int) (w : World) : Calls Tryd.prog 16 #[.int .i64 k, .int .i64 a] w fun e w' => e = .returned (.int .i64 (Gx.ans k a)) ∧ w' = w := by
  by_cases hk : k = 1 ∨ k = 2 ∨ k = 3 ∨ k = 4 ∨ k = 5 ∨ k = 6 ∨ k = 7
  · rcases hk with rfl | rfl | rfl | rfl | rfl | rfl | rfl
    all_goals
      go_enter Tryd.func16, Tryd.ntmps16
      go_wp2_with fail
      first
        | refine (rClass_any a _).mono ?_
        | refine (rConjunct_any a _).mono ?_
        | refine (rWord_any a _).mono ?_
        | refine (rWidth_any a _).mono ?_
        | refine (rUpper_any a _).mono ?_
        | refine (rLower_any a _).mono ?_
        | refine (rTurn_any a _).mono ?_
      rintro e w1 ⟨rfl, rfl⟩
      go_wp2_with fail
      go_ret
      exact ⟨rfl, rfl⟩
  · have b1 : (k == 1) = false := by simp; omega
    have b2 : (k == 2) = false := by simp; omega
    have b3 : (k == 3) = false := by simp; omega
    have b4 : (k == 4) = false := by simp; omega
    have b5 : (k == 5) = false := by simp; omega
    have b6 : (k == 6) = false := by simp; omega
    have b7 : (k == 7) = false := by simp; omega
    have HQ : Hid (Gx.ans k a = 0) := by unfold Hid Gx.ans; simp only [show k ≠ 1 from by omega, show k ≠ 2 from by omega, show k ≠ 3 from by omega, show k ≠ 4 from by omega, show k ≠ 5 from by omega, show k ≠ 6 from by omega, show k ≠ 7 from by omega, if_false]
    clear hk
    go_enter Tryd.func16, Tryd.ntmps16
    go_wp2_with fail
    go_ret
    exact ⟨ret_int HQ.out.symm, rfl⟩

/-- A list whose numbers are 64-bit ones. -/
def Wide (zs : List Int) : Prop := ∀ z ∈ zs, -9223372036854775808 ≤ z ∧ z ≤ 9223372036854775807
theorem Wide.at {zs : List Int} (h : Wide zs) (i : Nat) : -9223372036854775808 ≤ zs[i]?.getD 0 ∧ zs[i]?.getD 0 ≤ 9223372036854775807 := by
  by_cases hi : i < zs.length
  · simp only [hi, List.getElem?_eq_getElem, Option.getD_some]
    exact h _ (List.getElem_mem hi)
  · rw [List.getElem?_eq_none (by omega)]
    simp

set_option maxRecDepth 100000 in
set_option maxHeartbeats 2000000 in
theorem all_any (k f : Int) (f1 : -9223372036854775808 ≤ f) (f2 : f ≤ 9223372036854775807) (v : Value) (zs : List Int) (w : World) (hr : Rd .i64 w v zs) (hi : Wide zs) (hz : zs.length ≤ 140737488351232) (hT : Tabs w) :
    Calls Tryd.prog 17 #[.int .i64 k, .int .i64 f, v] w fun e w' => e = .returned (.bool true) ∧ Below w.heap.size w w' := by
  have HT : Hid (Tabs w) := hT
  clear hT
  obtain ⟨ao, cap, rfl, hl, hm, hc⟩ := hr
  have HC : Hid (zs ≠ [] → ∃ b off, ao = some ⟨b, off, none⟩ ∧ b < w.heap.size ∧ ∀ i, i < zs.length → w.cell? ⟨b, off + i, none⟩ = some (.int .i64 (zs[i]?.getD 0))) := hc
  have HI : Hid (Wide zs) := hi
  have G0 : Hid (∀ w, Tabs w → Calls Tryd.prog 15 #[.int .i64 k, .int .i64 f] w fun e w' => e = .returned (.int .i64 (Gx.ans k f)) ∧ Below w.heap.size w w') := given_any k f f1 f2
  have W0 : Hid (∀ w, Calls Tryd.prog 16 #[.int .i64 k, .int .i64 f] w fun e w' => e = .returned (.int .i64 (Gx.ans k f)) ∧ w' = w) := wanted_any k f
  generalize Gx.ans k f = x at *
  clear hc hm hi f1 f2
  go_enter Tryd.func17, Tryd.ntmps17
  go_wp2_with fail
  refine (G0.out _ HT.out).mono ?_
  rintro e w1 ⟨rfl, hb1⟩
  have HB1 : Hid (Below w.heap.size w w1) := hb1
  clear hb1
  go_wp2_with fail
  refine (W0.out _).mono ?_
  rintro e w1' ⟨rfl, hw1⟩
  obtain rfl : w1 = w1' := hw1.symm
  go_wp2_with fail
  go_loopw [7] (fun i wr => ∃ j : Nat, j ≤ zs.length ∧ i = .int .i64 j ∧ Below w.heap.size w wr) (fun i _ => zs.length - (intOf i).toNat)
  case atStart => exact ⟨0, Nat.zero_le _, rfl, HB1.out⟩
  case round =>
    obtain ⟨j, hj, rfl, hb⟩ := hrel
    by_cases hlt : j < zs.length
    · obtain ⟨b, off, rfl, hbl, hcc⟩ := HC.out (by intro h; subst h; simp at hlt)
      have hcx : wr.cell? ⟨b, off + j, none⟩ = some (.int .i64 (zs[j]?.getD 0)) := (hb.cell (p := ⟨b, off + j, none⟩) hbl).trans (hcc j hlt)
      have HB : Hid (Below w.heap.size w wr) := hb
      have HTr : Hid (Tabs wr) := HT.out.ext hb
      have hbw : b < wr.heap.size := Nat.lt_of_lt_of_le hbl hb.size
      obtain ⟨i1, i2⟩ := HI.out.at j
      clear hcc HC hb hbl
      generalize zs[j]?.getD 0 = a at *
      have G1 : Hid (∀ w, Tabs w → Calls Tryd.prog 15 #[.int .i64 k, .int .i64 a] w fun e w' => e = .returned (.int .i64 (Gx.ans k a)) ∧ Below w.heap.size w w') := given_any k a i1 i2
      have W1 : Hid (∀ w, Calls Tryd.prog 16 #[.int .i64 k, .int .i64 a] w fun e w' => e = .returned (.int .i64 (Gx.ans k a)) ∧ w' = w) := wanted_any k a
      have HX : Hid (∀ w', Below wr.heap.size wr w' → w'.cell? ⟨b, off + j, none⟩ = some (.int .i64 a)) := fun w' hb => (hb.cell (p := ⟨b, off + j, none⟩) hbw).trans hcx
      generalize Gx.ans k a = y at *
      go_wp2_with fail
      first | go_region_with (first | (go_at_call 15; refine (G1.out _ ?_).mono ?_; exact HTr.out.ext (by repeat (first | exact Below.refl _ _ | apply Below.drew)); rintro e w2 ⟨rfl, hb2⟩; have HB2 : Hid (Below wr.heap.size wr w2) := ext_trans (by repeat (first | exact Below.refl _ _ | apply Below.drew)) hb2; have hcy := HX.out w2 HB2.out; clear hb2) | (go_at_call 16; refine (W1.out _).mono ?_; rintro e w3 ⟨rfl, rfl⟩)) | fail
      all_goals
        go_wp2_with fail
        exact ⟨⟨j + 1, by omega, by simp, ext_trans HB.out HB2.out⟩, by simp [intOf]; omega⟩
    · clear HC
      go_wp2_with fail
      go_ret
      exact ⟨rfl, hb⟩

theorem law_Class (v : Value) (zs : List Int) (w : World) (hr : Rd .i64 w v zs) (hi : Wide zs) (hz : zs.length ≤ 140737488351232) (hT : Tabs w) : Calls Tryd.prog 5 #[v] w fun e w' => e = .returned (.bool true) ∧ Below w.heap.size w w' := by
  have HA : Hid (Calls Tryd.prog 17 #[.int .i64 1, .int .i64 44032, v] w fun e w' => e = .returned (.bool true) ∧ Below w.heap.size w w') := all_any 1 44032 (by omega) (by omega) v zs w hr hi hz hT
  clear hr hi hT
  go_enter Tryd.func5, Tryd.ntmps5
  go_wp2_with fail
  refine Calls.mono HA.out ?_
  rintro e w1 ⟨rfl, hb1⟩
  go_wp2_with fail
  go_ret
  exact ⟨rfl, hb1⟩

theorem law_Conjunct (v : Value) (zs : List Int) (w : World) (hr : Rd .i64 w v zs) (hi : Wide zs) (hz : zs.length ≤ 140737488351232) (hT : Tabs w) : Calls Tryd.prog 6 #[v] w fun e w' => e = .returned (.bool true) ∧ Below w.heap.size w w' := by
  have HA : Hid (Calls Tryd.prog 17 #[.int .i64 2, .int .i64 2381, v] w fun e w' => e = .returned (.bool true) ∧ Below w.heap.size w w') := all_any 2 2381 (by omega) (by omega) v zs w hr hi hz hT
  clear hr hi hT
  go_enter Tryd.func6, Tryd.ntmps6
  go_wp2_with fail
  refine Calls.mono HA.out ?_
  rintro e w1 ⟨rfl, hb1⟩
  go_wp2_with fail
  go_ret
  exact ⟨rfl, hb1⟩

theorem law_Word (v : Value) (zs : List Int) (w : World) (hr : Rd .i64 w v zs) (hi : Wide zs) (hz : zs.length ≤ 140737488351232) (hT : Tabs w) : Calls Tryd.prog 7 #[v] w fun e w' => e = .returned (.bool true) ∧ Below w.heap.size w w' := by
  have HA : Hid (Calls Tryd.prog 17 #[.int .i64 3, .int .i64 97, v] w fun e w' => e = .returned (.bool true) ∧ Below w.heap.size w w') := all_any 3 97 (by omega) (by omega) v zs w hr hi hz hT
  clear hr hi hT
  go_enter Tryd.func7, Tryd.ntmps7
  go_wp2_with fail
  refine Calls.mono HA.out ?_
  rintro e w1 ⟨rfl, hb1⟩
  go_wp2_with fail
  go_ret
  exact ⟨rfl, hb1⟩

theorem law_Width (v : Value) (zs : List Int) (w : World) (hr : Rd .i64 w v zs) (hi : Wide zs) (hz : zs.length ≤ 140737488351232) (hT : Tabs w) : Calls Tryd.prog 9 #[v] w fun e w' => e = .returned (.bool true) ∧ Below w.heap.size w w' := by
  have HA : Hid (Calls Tryd.prog 17 #[.int .i64 7, .int .i64 97, v] w fun e w' => e = .returned (.bool true) ∧ Below w.heap.size w w') := all_any 7 97 (by omega) (by omega) v zs w hr hi hz hT
  clear hr hi hT
  go_enter Tryd.func9, Tryd.ntmps9
  go_wp2_with fail
  refine Calls.mono HA.out ?_
  rintro e w1 ⟨rfl, hb1⟩
  go_wp2_with fail
  go_ret
  exact ⟨rfl, hb1⟩

theorem law_Case (v : Value) (zs : List Int) (w : World) (hr : Rd .i64 w v zs) (hi : Wide zs) (hz : zs.length ≤ 140737488351232) (hT : Tabs w) : Calls Tryd.prog 8 #[v] w fun e w' => e = .returned (.bool true) ∧ Below w.heap.size w w' := by
  have HA : Hid (∀ w', Below w.heap.size w w' → Calls Tryd.prog 17 #[.int .i64 4, .int .i64 97, v] w' fun e w'' => e = .returned (.bool true) ∧ Below w'.heap.size w' w'') := fun w' hb => all_any 4 97 (by omega) (by omega) v zs w' (hr.ext hb) hi hz (hT.ext hb)
  have HB : Hid (∀ w', Below w.heap.size w w' → Calls Tryd.prog 17 #[.int .i64 5, .int .i64 65, v] w' fun e w'' => e = .returned (.bool true) ∧ Below w'.heap.size w' w'') := fun w' hb => all_any 5 65 (by omega) (by omega) v zs w' (hr.ext hb) hi hz (hT.ext hb)
  have HC : Hid (∀ w', Below w.heap.size w w' → Calls Tryd.prog 17 #[.int .i64 6, .int .i64 97, v] w' fun e w'' => e = .returned (.bool true) ∧ Below w'.heap.size w' w'') := fun w' hb => all_any 6 97 (by omega) (by omega) v zs w' (hr.ext hb) hi hz (hT.ext hb)
  clear hr hi hT
  go_enter Tryd.func8, Tryd.ntmps8
  go_wp2_with fail
  refine (HA.out _ (Below.refl _ _)).mono ?_
  rintro e w1 ⟨rfl, hb1⟩
  have HW1 : Hid (Below w.heap.size w w1) := hb1
  clear hb1
  go_wp2_with fail
  refine (HB.out _ HW1.out).mono ?_
  rintro e w2 ⟨rfl, hb2⟩
  have HW2 : Hid (Below w.heap.size w w2) := ext_trans HW1.out hb2
  clear hb2
  go_wp2_with fail
  refine (HC.out _ HW2.out).mono ?_
  rintro e w3 ⟨rfl, hb3⟩
  go_wp2_with fail
  go_ret
  exact ⟨rfl, ext_trans HW2.out hb3⟩
end Go.Proofs.YtlignhpbmbdoeaaDoor
