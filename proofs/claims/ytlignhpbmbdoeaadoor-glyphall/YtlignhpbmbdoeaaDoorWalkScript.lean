/- GlyphAll: the walk. -/
import Derived.Test.YtlignhpbmbdoeaaDoorWalkAll
import Derived.Test.YtlignhpbmbdoeaaDoorAsks
import Derived.Deep.RegionHeld3
namespace Go.Proofs.YtlignhpbmbdoeaaDoor
open Go.RowKit

theorem asks_at {zs : List (Int × Int)} (h : ∀ z ∈ zs, -9223372036854775808 ≤ z.2 ∧ z.2 ≤ 9223372036854775807) (i : Nat) : -9223372036854775808 ≤ (zs[i]?.getD (0, 0)).2 ∧ (zs[i]?.getD (0, 0)).2 ≤ 9223372036854775807 := by
  by_cases hi : i < zs.length
  · simp only [hi, List.getElem?_eq_getElem, Option.getD_some]
    exact h _ (List.getElem_mem hi)
  · rw [List.getElem?_eq_none (by omega)]
    simp

set_option maxRecDepth 100000 in
theorem cls_first (w : World) : Calls Tryd.prog 14 #[.int .i64 44032] w fun e w' => e = .returned (.int .i64 12) ∧ Below w.heap.size w w' := by
  have h : Gx.cls 44032 = 12 := by decide +kernel
  rw [← h]
  exact Class_any _ w

set_option maxRecDepth 100000 in
set_option maxHeartbeats 8000000 in
theorem law_All (v : Value) (zs : List (Int × Int)) (w : World) (hr : RdA w v zs) (hi : ∀ z ∈ zs, -9223372036854775808 ≤ z.2 ∧ z.2 ≤ 9223372036854775807) (hz : zs.length ≤ 140737488351232) (hT : Tabs w) :
    Calls Tryd.prog 4 #[v] w fun e w' => e = .returned (.bool true) ∧ Below w.heap.size w w' := by
  have HT : Hid (Tabs w) := hT
  clear hT
  obtain ⟨ao, cap, rfl, hl, hm, hc⟩ := hr
  have HC : Hid (zs ≠ [] → ∃ b off, ao = some ⟨b, off, none⟩ ∧ b < w.heap.size ∧ ∀ i, i < zs.length → w.cell? ⟨b, off + i * 2, none⟩ = some (.int .i64 (zs[i]?.getD (0, 0)).1) ∧ w.cell? ⟨b, off + i * 2 + 1, none⟩ = some (.int .i64 (zs[i]?.getD (0, 0)).2)) := hc
  have HI : Hid (∀ i : Nat, -9223372036854775808 ≤ (zs[i]?.getD (0, 0)).2 ∧ (zs[i]?.getD (0, 0)).2 ≤ 9223372036854775807) := asks_at hi
  clear hc hm hi
  go_enter Tryd.func4, Tryd.ntmps4
  go_wp2_with fail
  refine (cls_first _).mono ?_
  rintro e w1 ⟨rfl, hb1⟩
  have HB1 : Hid (Below w.heap.size w w1) := hb1
  clear hb1
  go_wp2_with fail
  go_loopw [3] (fun i wr => ∃ j : Nat, j ≤ zs.length ∧ i = .int .i64 j ∧ Below w.heap.size w wr) (fun i _ => zs.length - (intOf i).toNat)
  case atStart => exact ⟨0, Nat.zero_le _, rfl, HB1.out⟩
  case round =>
    obtain ⟨j, hj, rfl, hb⟩ := hrel
    by_cases hlt : j < zs.length
    · obtain ⟨b, off, rfl, hbl, hcc⟩ := HC.out (by intro h; subst h; simp at hlt)
      obtain ⟨hq0, hq1⟩ := hcc j hlt
      have hcx : wr.cell? ⟨b, off + j * 2, none⟩ = some (.int .i64 (zs[j]?.getD (0, 0)).1) := (hb.cell (p := ⟨b, off + j * 2, none⟩) hbl).trans hq0
      have hcy : wr.cell? ⟨b, off + j * 2 + 1, none⟩ = some (.int .i64 (zs[j]?.getD (0, 0)).2) := (hb.cell (p := ⟨b, off + j * 2 + 1, none⟩) hbl).trans hq1
      have HB : Hid (Below w.heap.size w wr) := hb
      have HTr : Hid (Tabs wr) := HT.out.ext hb
      have hbw : b < wr.heap.size := Nat.lt_of_lt_of_le hbl hb.size
      obtain ⟨i1, i2⟩ := HI.out j
      clear hcc HC hb hbl hq0 hq1
      generalize (zs[j]?.getD (0, 0)).1 = k at *
      generalize (zs[j]?.getD (0, 0)).2 = a at *
      have G1 : Hid (∀ w, Tabs w → Calls Tryd.prog 15 #[.int .i64 k, .int .i64 a] w fun e w' => e = .returned (.int .i64 (Gx.ans k a)) ∧ Below w.heap.size w w') := given_any k a i1 i2
      have W1 : Hid (∀ w, Calls Tryd.prog 16 #[.int .i64 k, .int .i64 a] w fun e w' => e = .returned (.int .i64 (Gx.ans k a)) ∧ w' = w) := wanted_any k a
      have HX : Hid (∀ w', Below wr.heap.size wr w' → w'.cell? ⟨b, off + j * 2, none⟩ = some (.int .i64 k) ∧ w'.cell? ⟨b, off + j * 2 + 1, none⟩ = some (.int .i64 a)) := fun w' hb => ⟨(hb.cell (p := ⟨b, off + j * 2, none⟩) hbw).trans hcx, (hb.cell (p := ⟨b, off + j * 2 + 1, none⟩) hbw).trans hcy⟩
      generalize Gx.ans k a = y at *
      have g1 : (0 : Int) ≤ (j : Int) := by omega
      have g2 : (j : Int) < (zs.length : Int) := by omega
      go_wp2_with fail
      go_region_held3 (fun w' => w'.cell? ⟨b, off + j * 2, none⟩ = some (.int .i64 k) ∧ w'.cell? ⟨b, off + j * 2 + 1, none⟩ = some (.int .i64 a)) (go_keep) (first | (go_at_call 15; refine (G1.out _ ?_).mono ?_; exact HTr.out.ext (by repeat (first | exact Below.refl _ _ | apply Below.drew)); rintro e w2 ⟨rfl, hb2⟩; have HB2 : Hid (Below wr.heap.size wr w2) := ext_trans (by repeat (first | exact Below.refl _ _ | apply Below.drew)) hb2; have hcz := (HX.out w2 HB2.out).1; have hcz' := (HX.out w2 HB2.out).2; clear hb2) | (go_at_call 16; refine (W1.out _).mono ?_; rintro e w3 ⟨rfl, rfl⟩))
      all_goals
        go_wp2_with fail
        exact ⟨⟨j + 1, by omega, by simp, ext_trans HB.out HB2.out⟩, by simp [intOf]; omega⟩
    · have HB : Hid (Below w.heap.size w wr) := hb
      clear hb
      go_wp2_with fail
      go_loopw [4] (fun i wr => ∃ x : Int, -1 ≤ x ∧ x < (zs.length : Int) ∧ i = .int .i64 x ∧ Below w.heap.size w wr) (fun i _ => (intOf i + 1).toNat)
      case atStart => exact ⟨(zs.length : Int) - 1, by omega, by omega, rfl, HB.out⟩
      case round =>
        obtain ⟨x, hx1, hx2, rfl, hb⟩ := hrel
        by_cases h0 : 0 ≤ x
        · obtain ⟨m, rfl⟩ : ∃ m : Nat, x = m := ⟨x.toNat, by omega⟩
          have hlt2 : m < zs.length := by omega
          obtain ⟨b, off, rfl, hbl, hcc⟩ := HC.out (by intro h; subst h; simp at hlt2)
          obtain ⟨hq0, hq1⟩ := hcc m hlt2
          have hcx : wr.cell? ⟨b, off + m * 2, none⟩ = some (.int .i64 (zs[m]?.getD (0, 0)).1) := (hb.cell (p := ⟨b, off + m * 2, none⟩) hbl).trans hq0
          have hcy : wr.cell? ⟨b, off + m * 2 + 1, none⟩ = some (.int .i64 (zs[m]?.getD (0, 0)).2) := (hb.cell (p := ⟨b, off + m * 2 + 1, none⟩) hbl).trans hq1
          have HB3 : Hid (Below w.heap.size w wr) := hb
          have HTr : Hid (Tabs wr) := HT.out.ext hb
          have hbw : b < wr.heap.size := Nat.lt_of_lt_of_le hbl hb.size
          obtain ⟨i1, i2⟩ := HI.out m
          clear hcc HC hb hbl hq0 hq1
          generalize (zs[m]?.getD (0, 0)).1 = k at *
          generalize (zs[m]?.getD (0, 0)).2 = a at *
          have G1 : Hid (∀ w, Tabs w → Calls Tryd.prog 15 #[.int .i64 k, .int .i64 a] w fun e w' => e = .returned (.int .i64 (Gx.ans k a)) ∧ Below w.heap.size w w') := given_any k a i1 i2
          have W1 : Hid (∀ w, Calls Tryd.prog 16 #[.int .i64 k, .int .i64 a] w fun e w' => e = .returned (.int .i64 (Gx.ans k a)) ∧ w' = w) := wanted_any k a
          have HX : Hid (∀ w', Below wr.heap.size wr w' → w'.cell? ⟨b, off + m * 2, none⟩ = some (.int .i64 k) ∧ w'.cell? ⟨b, off + m * 2 + 1, none⟩ = some (.int .i64 a)) := fun w' hb => ⟨(hb.cell (p := ⟨b, off + m * 2, none⟩) hbw).trans hcx, (hb.cell (p := ⟨b, off + m * 2 + 1, none⟩) hbw).trans hcy⟩
          generalize Gx.ans k a = y at *
          have g1 : (0 : Int) ≤ (m : Int) := by omega
          have g2 : (m : Int) < (zs.length : Int) := by omega
          go_wp2_with fail
          go_region_held3 (fun w' => w'.cell? ⟨b, off + m * 2, none⟩ = some (.int .i64 k) ∧ w'.cell? ⟨b, off + m * 2 + 1, none⟩ = some (.int .i64 a)) (go_keep) (first | (go_at_call 15; refine (G1.out _ ?_).mono ?_; exact HTr.out.ext (by repeat (first | exact Below.refl _ _ | apply Below.drew)); rintro e w2 ⟨rfl, hb2⟩; have HB2 : Hid (Below wr.heap.size wr w2) := ext_trans (by repeat (first | exact Below.refl _ _ | apply Below.drew)) hb2; have hcz := (HX.out w2 HB2.out).1; have hcz' := (HX.out w2 HB2.out).2; clear hb2) | (go_at_call 16; refine (W1.out _).mono ?_; rintro e w3 ⟨rfl, rfl⟩))
          all_goals
            go_wp2_with fail
            first
              | exact ⟨⟨(m : Int) - 1, by omega, by omega, rfl, ext_trans HB3.out HB2.out⟩, by simp [intOf]⟩
              | exact ⟨⟨(m : Int) - 1, by omega, by omega, rfl, ext_trans HB3.out HB2.out⟩, by simp [intOf]; omega⟩
        · clear HC
          have h1 : x < 0 := by omega
          go_wp2_with fail
          go_ret
          exact ⟨rfl, hb⟩
end Go.Proofs.YtlignhpbmbdoeaaDoor
