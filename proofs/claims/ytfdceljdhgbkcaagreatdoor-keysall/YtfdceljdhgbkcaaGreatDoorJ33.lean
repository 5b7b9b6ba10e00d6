import Derived.Test.YtfdceljdhgbkcaaGreatDoorJ20
import Derived.Test.YtfdceljdhgbkcaaGreatDoorJ32
/- The document's reading: its small functions. -/
namespace Go.Proofs.YtfdceljdhgbkcaaGreatDoor
open Go.RowKit
set_option maxRecDepth 100000 in
set_option maxHeartbeats 1000000 in
theorem r_isDigit_any (k : Int) (w : World) : Calls Tryz.prog 46 #[.int .i64 k] w fun e w' => e = .returned (.bool (dDig k)) ∧ w' = w := by
  by_cases h1 : 48 ≤ k
  · by_cases h2 : k ≤ 57
    · have HE : Hid (dDig k = true) := (dDig_iff k).2 ⟨h1, h2⟩
      go_enter Tryz.func46, Tryz.ntmps46
      go_wp2
      go_ret
      exact ⟨by rw [HE.out]; rfl, rfl⟩
    · have HE : Hid (dDig k = false) := by unfold Hid dDig; simp [h2]
      go_enter Tryz.func46, Tryz.ntmps46
      go_wp2
      go_ret
      exact ⟨by rw [HE.out]; rfl, rfl⟩
  · have HE : Hid (dDig k = false) := by unfold Hid dDig; simp [h1]
    go_enter Tryz.func46, Tryz.ntmps46
    go_wp2
    go_ret
    exact ⟨by rw [HE.out]; rfl, rfl⟩
set_option maxRecDepth 100000 in
set_option maxHeartbeats 1000000 in
theorem r_times_any (c n : Int) (w : World) (hc : 0 ≤ c ∧ c ≤ 9999) (hn : 0 ≤ n ∧ n ≤ 9999) : Calls Tryz.prog 64 #[.int .i64 c, .int .i64 n] w fun e w' => e = .returned (.int .i64 (dTms c n)) ∧ w' = w := by
  obtain ⟨z, hz⟩ : ∃ z, c * n = z := ⟨_, rfl⟩
  have hz0 : 0 ≤ z := by rw [← hz]; exact Int.mul_nonneg hc.1 hn.1
  have hz1 : z ≤ 99980001 := by
    rw [← hz]
    have h2 : c * n ≤ 9999 * 9999 := Int.mul_le_mul hc.2 hn.2 hn.1 (by omega)
    omega
  by_cases h0 : c = 0
  · have HE : Hid (dTms c n = n) := by unfold Hid dTms; rw [if_pos h0]
    have hb : (c == 0) = true := by simpa using h0
    clear hz hz0 hz1 h0
    go_enter Tryz.func64, Tryz.ntmps64
    go_wp2
    go_ret
    exact ⟨by rw [HE.out]; rfl, rfl⟩
  · have HE : Hid (dTms c n = min 9999 z) := by unfold Hid dTms; rw [if_neg h0, hz]
    have hb : (c == 0) = false := by simpa using h0
    clear h0
    go_enter Tryz.func64, Tryz.ntmps64
    go_wp2
    go_wp2
    go_ret
    exact ⟨by rw [HE.out]; rfl, rfl⟩
theorem pre_get {a b : List Int} (h : a.isPrefixOf b = true) {k : Nat} (hk : k < a.length) : a[k]?.getD 0 = b[k]?.getD 0 := by
  obtain ⟨t, rfl⟩ := pre_iff.1 h
  rw [List.getElem?_append_left hk]
theorem pre_all {a b : List Int} (hl : a.length ≤ b.length) (h : ∀ k, k < a.length → a[k]?.getD 0 = b[k]?.getD 0) : a.isPrefixOf b = true := by
  rw [pre_iff, List.prefix_iff_eq_take]
  refine List.ext_getElem? (fun i => ?_)
  rw [List.getElem?_take]
  by_cases hi : i < a.length
  · rw [if_pos hi]
    have := h i hi
    rw [List.getElem?_eq_getElem hi, List.getElem?_eq_getElem (by omega)] at this ⊢
    simpa using this
  · rw [if_neg hi, List.getElem?_eq_none (by omega)]
set_option maxRecDepth 100000 in
set_option maxHeartbeats 2000000 in
/-- begins: does xs begin with ys? -/
theorem r_begins_any (u v : Value) (xs ys : List Int) (w : World) (hx : RdS w u xs) (hy : RdS w v ys) : Calls Tryz.prog 66 #[u, v] w fun e w' => e = .returned (.bool (ys.isPrefixOf xs)) ∧ Below w.heap.size w w' := by
  obtain ⟨ao, cu, rfl, lx⟩ := hx.len
  obtain ⟨bo, cv, rfl, ly⟩ := hy.len
  have HX := hidIt hx
  have HY := hidIt hy
  by_cases hl : xs.length < ys.length
  · have HE : Hid (ys.isPrefixOf xs = false) := by
      unfold Hid
      cases e : ys.isPrefixOf xs with
      | false => rfl
      | true => have := (pre_iff.1 e).length_le; omega
    have hlI : (xs.length : Int) < (ys.length : Int) := by omega
    clear hx hy
    go_enter Tryz.func66, Tryz.ntmps66
    go_wp2
    go_ret
    exact ⟨by rw [HE.out]; rfl, Below.refl _ _⟩
  · have hlI : ¬ (xs.length : Int) < (ys.length : Int) := by omega
    clear hx hy
    go_enter Tryz.func66, Tryz.ntmps66
    go_wp2
    go_loopw [5] (fun i wr => ∃ k : Nat, k ≤ ys.length ∧ i = .int .i64 k ∧ Hid (∀ j, j < k → ys[j]?.getD 0 = xs[j]?.getD 0) ∧ Hid (Below w.heap.size w wr)) (fun i _ => ys.length - (RowKit.intOf i).toNat)
    case atStart => exact ⟨0, Nat.zero_le _, rfl, fun j hj => absurd hj (by omega), Below.refl _ _⟩
    case round =>
      obtain ⟨k, hk, rfl, HQ, HB⟩ := hrel
      by_cases hlt : k < ys.length
      · have hi1 : (k : Int) < (ys.length : Int) := by omega
        have hi2 : (k : Int) < (xs.length : Int) := by omega
        obtain ⟨b1, o1, rfl, c1⟩ := rd_at (HX.out.ext HB.out) (k := k) (by omega)
        obtain ⟨b2, o2, rfl, c2⟩ := rd_at (HY.out.ext HB.out) hlt
        have HW : Hid (∀ nq, Below w.heap.size w (wr.drewN nq)) := fun nq => below_drewN HB.out nq
        by_cases he : xs[k]?.getD 0 = ys[k]?.getD 0
        · have heb : (xs[k]?.getD 0 != ys[k]?.getD 0) = false := by simpa using he
          have HQ2 : Hid (∀ j, j < k + 1 → ys[j]?.getD 0 = xs[j]?.getD 0) := fun j hj => by
            by_cases h : j = k
            · subst h; exact he.symm
            · exact HQ.out j (by omega)
          generalize xs[k]?.getD 0 = x at c1 heb
          generalize ys[k]?.getD 0 = y at c2 heb
          clear he HQ
          go_wp2
          go_quiet (fail)
          go_wp2
          go_roundw
          case rel => exact ⟨k + 1, by omega, by go_num, HQ2.out, below_drewN HB.out _⟩
          case measure => simp [RowKit.intOf]; omega
        · have heb : (xs[k]?.getD 0 != ys[k]?.getD 0) = true := by simpa using he
          have HE : Hid (ys.isPrefixOf xs = false) := by
            unfold Hid
            cases e : ys.isPrefixOf xs with
            | false => rfl
            | true => exact absurd (pre_get e hlt).symm he
          generalize xs[k]?.getD 0 = x at c1 heb
          generalize ys[k]?.getD 0 = y at c2 heb
          clear he HQ
          go_wp2
          go_quiet (fail)
          go_wp2
          go_ret
          exact ⟨by rw [HE.out]; rfl, below_drewN HB.out _⟩
      · have hi1 : ¬ (k : Int) < (ys.length : Int) := by omega
        have HE : Hid (ys.isPrefixOf xs = true) := pre_all (by omega) (fun j hj => HQ.out j (by omega))
        go_wp2
        go_ret
        exact ⟨by rw [HE.out]; rfl, HB.out⟩
end Go.Proofs.YtfdceljdhgbkcaaGreatDoor
