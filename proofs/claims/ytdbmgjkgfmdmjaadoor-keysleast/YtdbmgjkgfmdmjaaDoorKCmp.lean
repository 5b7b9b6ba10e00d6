/- cmp.Compare and slices.Compare of ints; isBefore. -/
import Derived.Test.YtdbmgjkgfmdmjaaDoorKSp0
import Derived.Test.YtdbmgjkgfmdmjaaDoorKAppI
namespace Go.Proofs.YtdbmgjkgfmdmjaaDoor
open Go.RowKit
set_option maxRecDepth 100000 in
theorem isNaN_any (x : Int) (w : World) : Calls Tryd.prog 92 #[.int .i64 x] w fun e w' => e = .returned (.bool false) ∧ w = w' := by
  go_enter Tryd.func92, Tryd.ntmps92
  go_wp2
  go_ret
  simp
def cm1 (x y : Int) : Int := if x < y then -1 else if y < x then 1 else 0
set_option maxRecDepth 100000 in
theorem cmp1_any (x y : Int) (w : World) : Calls Tryd.prog 74 #[.int .i64 x, .int .i64 y] w fun e w' => e = .returned (.int .i64 (cm1 x y)) ∧ w = w' := by
  have HN := hidIt (fun x w => isNaN_any x w)
  by_cases h1 : x < y
  · have HE : Hid (cm1 x y = -1) := by unfold Hid cm1; rw [if_pos h1]
    go_enter Tryd.func74, Tryd.ntmps74
    go_wp2_with (go_at_call 92; refine (HN.out _ _).mono ?_; rintro e w9 ⟨rfl, rfl⟩; (try dsimp only))
    go_ret
    exact ⟨by rw [HE.out]; rfl, rfl⟩
  · by_cases h2 : y < x
    · have h3 : x > y := h2
      have HE : Hid (cm1 x y = 1) := by unfold Hid cm1; rw [if_neg h1, if_pos h2]
      go_enter Tryd.func74, Tryd.ntmps74
      go_wp2_with (go_at_call 92; refine (HN.out _ _).mono ?_; rintro e w9 ⟨rfl, rfl⟩; (try dsimp only))
      go_ret
      exact ⟨by rw [HE.out]; rfl, rfl⟩
    · have h3 : ¬ x > y := h2
      have HE : Hid (cm1 x y = 0) := by unfold Hid cm1; rw [if_neg h1, if_neg h2]
      go_enter Tryd.func74, Tryd.ntmps74
      go_wp2_with (go_at_call 92; refine (HN.out _ _).mono ?_; rintro e w9 ⟨rfl, rfl⟩; (try dsimp only))
      go_ret
      exact ⟨by rw [HE.out]; rfl, rfl⟩
theorem cmpL_at (xs ys : List Int) (k : Nat) : cmpL (xs.drop k) (ys.drop k) = if k < xs.length then (if k < ys.length then (if cm1 (xs[k]?.getD 0) (ys[k]?.getD 0) = 0 then cmpL (xs.drop (k + 1)) (ys.drop (k + 1)) else cm1 (xs[k]?.getD 0) (ys[k]?.getD 0)) else 1) else if k < ys.length then -1 else 0 := by
  by_cases hx : k < xs.length
  · rw [if_pos hx, List.drop_eq_getElem_cons hx]
    by_cases hy : k < ys.length
    · rw [if_pos hy, List.drop_eq_getElem_cons hy, List.getElem?_eq_getElem hx, List.getElem?_eq_getElem hy]
      show (if xs[k] < ys[k] then -1 else if ys[k] < xs[k] then 1 else _) = if cm1 xs[k] ys[k] = 0 then _ else cm1 xs[k] ys[k]
      unfold cm1
      by_cases h1 : xs[k] < ys[k]
      · rw [if_pos h1, if_pos h1, if_neg (by decide)]
      · by_cases h2 : ys[k] < xs[k]
        · rw [if_neg h1, if_pos h2, if_neg h1, if_pos h2, if_neg (by decide)]
        · rw [if_neg h1, if_neg h2, if_neg h1, if_neg h2, if_pos rfl]
    · rw [if_neg hy, show ys.drop k = [] from List.drop_eq_nil_of_le (by omega)]
      rfl
  · rw [if_neg hx, show xs.drop k = [] from List.drop_eq_nil_of_le (by omega)]
    by_cases hy : k < ys.length
    · rw [if_pos hy, List.drop_eq_getElem_cons hy]
      rfl
    · rw [if_neg hy, List.drop_eq_nil_of_le (by omega)]
      rfl
set_option maxRecDepth 100000 in
set_option maxHeartbeats 4000000 in
theorem compare_any (u v : Value) (xs ys : List Int) (w : World) (hx : RdS w u xs) (hy : RdS w v ys) : Calls Tryd.prog 50 #[u, v] w fun e w' => e = .returned (.int .i64 (cmpL xs ys)) ∧ w = w' := by
  obtain ⟨ao, cu, rfl, lx⟩ := hx.len
  obtain ⟨bo, cv, rfl, ly⟩ := hy.len
  have HX := hidIt hx
  have HY := hidIt hy
  have HC := hidIt (fun x y w => cmp1_any x y w)
  clear hx hy
  go_enter Tryd.func50, Tryd.ntmps50
  go_wp2_with fail
  go_loopw [11] (fun i wr => ∃ k : Nat, k ≤ xs.length ∧ k ≤ ys.length ∧ i = .int .i64 k ∧ w = wr ∧ Hid (cmpL xs ys = cmpL (xs.drop k) (ys.drop k))) (fun i _ => xs.length - (RowKit.intOf i).toNat)
  case atStart => exact ⟨0, Nat.zero_le _, Nat.zero_le _, rfl, rfl, rfl⟩
  case round =>
    obtain ⟨k, hk1, hk2, rfl, rfl, HE⟩ := hrel
    rw [cmpL_at] at HE
    by_cases h1 : k < xs.length
    · rw [if_pos h1] at HE
      obtain ⟨b1, o1, rfl, c1⟩ := rd_at HX.out h1
      by_cases h2 : k < ys.length
      · rw [if_pos h2] at HE
        obtain ⟨b2, o2, rfl, c2⟩ := rd_at HY.out h2
        generalize xs[k]?.getD 0 = x at c1 HE
        generalize ys[k]?.getD 0 = y at c2 HE
        have h2I : ¬ (k : Int) ≥ (ys.length : Int) := by omega
        have HCC := hidIt (HC.out x y)
        by_cases h0 : cm1 x y = 0
        · rw [if_pos h0] at HE
          rw [h0] at HCC
          clear h0
          go_wp2_with (go_at_call 74; refine (HCC.out _).mono ?_; rintro e w9 ⟨rfl, rfl⟩; (try dsimp only))
          go_roundw
          case rel => exact ⟨k + 1, by omega, by omega, rfl, by first | trivial | rfl, HE.out⟩
          case measure => simp [RowKit.intOf]; omega
        · rw [if_neg h0] at HE
          generalize cm1 x y = s at HE HCC h0
          go_wp2_with (go_at_call 74; refine (HCC.out _).mono ?_; rintro e w9 ⟨rfl, rfl⟩; (try dsimp only))
          try rw [Exit.noGoto_ret]
          go_ret
          exact ⟨by rw [HE.out]; rfl, rfl⟩
      · rw [if_neg h2] at HE
        have h2I : (k : Int) ≥ (ys.length : Int) := by omega
        go_wp2_with fail
        try rw [Exit.noGoto_ret]
        go_ret
        exact ⟨by rw [HE.out]; rfl, rfl⟩
    · rw [if_neg h1] at HE
      by_cases h2 : k < ys.length
      · rw [if_pos h2] at HE
        have h3 : (xs.length : Int) < (ys.length : Int) := by omega
        go_wp2_with fail
        go_ret
        exact ⟨by rw [HE.out]; rfl, rfl⟩
      · rw [if_neg h2] at HE
        have h3 : ¬ (xs.length : Int) < (ys.length : Int) := by omega
        go_wp2_with fail
        go_ret
        exact ⟨by rw [HE.out]; rfl, rfl⟩
set_option maxRecDepth 100000 in
theorem isBefore_any (u v : Value) (xs ys : List Int) (w : World) (hx : RdS w u xs) (hy : RdS w v ys) : Calls Tryd.prog 28 #[u, v] w fun e w' => e = .returned (.bool (bfr xs ys)) ∧ w = w' := by
  have HC := hidIt (compare_any u v xs ys w hx hy)
  obtain ⟨ao, cu, rfl, lx⟩ := hx.len
  obtain ⟨bo, cv, rfl, ly⟩ := hy.len
  have HE := hidIt (show bfr xs ys = if xs.length = ys.length then decide (cmpL xs ys < 0) else decide (xs.length < ys.length) from rfl)
  clear hx hy
  by_cases h : xs.length = ys.length
  · rw [if_pos h] at HE
    generalize cmpL xs ys = s at HC HE
    generalize bfr xs ys = bb at HE ⊢
    rw [h] at HC ⊢
    clear h
    go_enter Tryd.func28, Tryd.ntmps28
    go_wp2_with (go_at_call 50; refine HC.out.mono ?_; rintro e w9 ⟨rfl, rfl⟩; (try dsimp only))
    go_ret
    refine ⟨?_, rfl⟩
    rw [HE.out]
    simp
  · rw [if_neg h] at HE
    have hI : ¬ (xs.length : Int) = (ys.length : Int) := by omega
    go_enter Tryd.func28, Tryd.ntmps28
    go_wp2_with fail
    go_ret
    refine ⟨?_, rfl⟩
    rw [HE.out]
    simp
end Go.Proofs.YtdbmgjkgfmdmjaaDoor
