/- GlyphFold: the walk. -/
import Derived.Test.YtlignhpbmbdoeaaDoorLetter
namespace Go.Proofs.YtlignhpbmbdoeaaDoor
open Go.RowKit

set_option maxRecDepth 100000 in
set_option maxHeartbeats 2000000 in
theorem law_fold (v : Value) (zs : List Int) (w : World) (hr : Rd .i64 w v zs) (hi : I64s zs) (hz : zs.length ≤ 140737488351232) (hT : Tabs w) : Calls Tryd.prog 3 #[v] w fun e w' => e = .returned (.bool true) ∧ Below w.heap.size w w' := by
  have HT : Hid (Tabs w) := hT
  clear hT
  obtain ⟨ao, cap, rfl, hl, hm, hc⟩ := hr
  have HC : Hid (zs ≠ [] → ∃ b off, ao = some ⟨b, off, none⟩ ∧ b < w.heap.size ∧ ∀ i, i < zs.length → w.cell? ⟨b, off + i, none⟩ = some (.int .i64 (zs[i]?.getD 0))) := hc
  have HI : Hid (I64s zs) := hi
  clear hc hm hi
  go_enter Tryd.func3, Tryd.ntmps3
  go_wp2_with fail
  go_loopw [3] (fun i wr => ∃ k : Nat, k ≤ 26 ∧ i = .int .i64 k ∧ Below w.heap.size w wr) (fun i _ => 26 - (intOf i).toNat)
  case atStart => exact ⟨0, Nat.zero_le _, rfl, Below.refl _ _⟩
  case round =>
    obtain ⟨k, hk, rfl, hb⟩ := hrel
    have HB : Hid (Below w.heap.size w wr) := hb
    have HTr : Hid (Tabs wr) := HT.out.ext hb
    clear hb
    by_cases hlt : k < 26
    · obtain ⟨e1, e2, e3, e4⟩ := Gx.ascii k hlt
      have C1 : Hid (∀ w, Tabs w → Calls Tryd.prog 10 #[.int .i64 (97 + (k : Int))] w fun e w' => e = .returned (.int .i64 (65 + k)) ∧ Below w.heap.size w w') := upper_is _ _ e1 (by omega) (by omega)
      have C2 : Hid (∀ w, Tabs w → Calls Tryd.prog 11 #[.int .i64 (65 + (k : Int))] w fun e w' => e = .returned (.int .i64 (97 + k)) ∧ Below w.heap.size w w') := lower_is _ _ e2 (by omega) (by omega)
      have C3 : Hid (∀ w, Tabs w → Calls Tryd.prog 12 #[.int .i64 (97 + (k : Int))] w fun e w' => e = .returned (.int .i64 (65 + k)) ∧ Below w.heap.size w w') := turn_is _ _ e3 (by omega) (by omega)
      have C4 : Hid (∀ w, Tabs w → Calls Tryd.prog 12 #[.int .i64 (65 + (k : Int))] w fun e w' => e = .returned (.int .i64 (97 + k)) ∧ Below w.heap.size w w') := turn_is _ _ e4 (by omega) (by omega)
      clear e1 e2 e3 e4
      go_wp2_with fail
      refine (C1.out _ HTr.out).mono ?_
      rintro e w1 ⟨rfl, hb1⟩
      have HT1 : Hid (Tabs w1) := HTr.out.ext hb1
      go_wp2_with fail
      refine (C2.out _ HT1.out).mono ?_
      rintro e w2 ⟨rfl, hb2⟩
      have HT2 : Hid (Tabs w2) := HT1.out.ext hb2
      go_wp2_with fail
      refine (C3.out _ HT2.out).mono ?_
      rintro e w3 ⟨rfl, hb3⟩
      have HT3 : Hid (Tabs w3) := HT2.out.ext hb3
      go_wp2_with fail
      refine (C4.out _ HT3.out).mono ?_
      rintro e w4 ⟨rfl, hb4⟩
      go_wp2_with fail
      go_roundw
      case rel => exact ⟨k + 1, by omega, by go_num, ext_trans HB.out (ext_trans hb1 (ext_trans hb2 (ext_trans hb3 hb4)))⟩
      case measure => simp [intOf]; omega
    · go_wp2_with fail
      go_loopw [4] (fun i wr => ∃ k : Nat, k ≤ zs.length ∧ i = .int .i64 k ∧ Below w.heap.size w wr) (fun i _ => zs.length - (intOf i).toNat)
      case atStart => exact ⟨0, Nat.zero_le _, rfl, HB.out⟩
      case round =>
        obtain ⟨j, hj, rfl, hb⟩ := hrel
        by_cases hlt2 : j < zs.length
        · obtain ⟨b, off, rfl, hbl, hcc⟩ := HC.out (by intro h; subst h; simp at hlt2)
          have hcx : wr.cell? ⟨b, off + j, none⟩ = some (.int .i64 (zs[j]?.getD 0)) := (hb.cell (p := ⟨b, off + j, none⟩) hbl).trans (hcc j hlt2)
          have HB2 : Hid (Below w.heap.size w wr) := hb
          have HT2 : Hid (Tabs wr) := HT.out.ext hb
          obtain ⟨i1, i2⟩ := HI.out.at j
          clear hcc HC hb
          generalize zs[j]?.getD 0 = a at *
          go_wp2_with fail
          refine (lettered_any a i1 i2 _ HT2.out).mono ?_
          rintro e w1 ⟨rfl, hb1⟩
          go_wp2_with fail
          go_roundw
          case rel => exact ⟨j + 1, by omega, by go_num, ext_trans HB2.out hb1⟩
          case measure => simp [intOf]; omega
        · clear HC
          go_wp2
          go_ret
          exact ⟨rfl, hb⟩
end Go.Proofs.YtlignhpbmbdoeaaDoor
