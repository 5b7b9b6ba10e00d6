/- Guess of the code: countHighAndRaw, guessNarrow. -/
import Derived.Test.YtbfbaknfeleddaaGuess1
import Derived.Test.YtbfbaknfeleddaaDec7
namespace Go.Proofs.Ytbfbaknfeleddaa
open Go.RowKit

theorem isRaw_any (a : Int) (w : World) : Calls Try.prog 92 #[.int .i64 a] w fun e w' => e = .returned (.bool (decide (-256 ≤ a) && decide (a ≤ -1))) ∧ w' = w := by
  by_cases h : -256 ≤ a
  · rw [decide_eq_true h, Bool.true_and]
    go_enter Try.func92, Try.ntmps92
    go_wp2
    go_ret
    exact ⟨rfl, rfl⟩
  · have hd : decide (-256 ≤ a) = false := decide_eq_false h
    rw [hd, Bool.false_and]
    go_enter Try.func92, Try.ntmps92
    go_wp2
    go_ret
    exact ⟨rfl, rfl⟩
theorem isRaw_yes (a : Int) (w : World) (h1 : -256 ≤ a) (h2 : a ≤ -1) : Calls Try.prog 92 #[.int .i64 a] w fun e w' => e = .returned (.bool true) ∧ w' = w := by
  have := isRaw_any a w
  rwa [decide_eq_true h1, decide_eq_true h2] at this
theorem isRaw_no (a : Int) (w : World) (h : 0 ≤ a) : Calls Try.prog 92 #[.int .i64 a] w fun e w' => e = .returned (.bool false) ∧ w' = w := by
  have := isRaw_any a w
  rwa [decide_eq_false (show ¬ a ≤ -1 by omega), Bool.and_false] at this
theorem Cx.hi8_le (b : List Int) : Cx.hi8 b ≤ b.length := List.countP_le_length

set_option maxRecDepth 100000 in
set_option maxHeartbeats 1000000 in
theorem countHR_any (v : Value) (zs : List Int) (w : World) (h : Rd .u8 w v zs) (hb : Byt zs) :
    Calls Try.prog 87 #[v] w fun e w' => e = .returned (.tuple #[.int .i64 (Cx.hi8 zs : Nat), .int .i64 (Cx.rw8 zs : Nat)]) ∧ Below w.heap.size w w' := by
  have HR : Hid (Rd .u8 w v zs) := h
  have HB : Hid (Byt zs) := hb
  have hlen := h.len
  have hle := Cx.hi8_le zs
  have hrl := Cx.rw_le zs.length zs (Nat.le_refl _) hb
  clear h hb
  go_enter Try.func87, Try.ntmps87
  go_wp2_with fail
  go_loopw [0, 2, 3] (fun bv hv rv wr => ∃ (ys : List Int) (H R : Nat), H + Cx.hi8 ys = Cx.hi8 zs ∧ R + Cx.rw8 ys = Cx.rw8 zs ∧ hv = .int .i64 H ∧ rv = .int .i64 R ∧ Hid (Rd .u8 w bv ys) ∧ Hid (Byt ys) ∧ Below w.heap.size w wr) (fun bv _ _ _ => lenOf bv)
  case atStart => exact ⟨zs, 0, 0, by omega, by omega, rfl, rfl, HR.out, HB.out, Below.refl _ _⟩
  case round =>
    obtain ⟨ys, H, R, hH, hR, rfl, rfl, HY, HYB, hbw⟩ := hrel
    have hylen := HY.out.len
    by_cases hn : ys = []
    · subst hn
      obtain ⟨ao, cap, rfl, hlc, hcm, _⟩ := HY.out
      have e1 : Hid (H = Cx.hi8 zs) := by have : Cx.hi8 ([] : List Int) = 0 := rfl; unfold Hid; omega
      have e2 : Hid (R = Cx.rw8 zs) := by have : Cx.rw8 ([] : List Int) = 0 := rfl; unfold Hid; omega
      clear hH hR HY HYB
      simp only [List.length_nil]
      go_wp2
      go_ret2
      exact ⟨by rw [← e1.out, ← e2.out]; rfl, hbw⟩
    · obtain ⟨a, n, hf, hn1, hn2⟩ : ∃ (a : Int) (n : Nat), Cx.fst 1 ys = (a, (n : Int)) ∧ 1 ≤ n ∧ n ≤ ys.length := by
        have := Cx.fst_bd 1 ys hn
        exact ⟨_, (Cx.fst 1 ys).2.toNat, Prod.ext rfl (by simp only; omega), by omega, by omega⟩
      have HF : Hid (Cx.fst 1 ys = (a, (n : Int))) := hf
      have HNE : Hid (ys ≠ []) := hn
      have hyp : 0 < ys.length := List.length_pos_iff.2 hn
      have hstep := Cx.hr_step ys HYB.out hn a n hf
      obtain ⟨ao, cap, hv, hlc, hcm, hrest⟩ := HY.out
      obtain ⟨b, off, hao, _⟩ := hrest hn
      subst hao
      subst hv
      have hcm' : cap ≤ 9223372036854775807 := hcm
      have hdl : (ys.drop n).length = ys.length - n := List.length_drop
      clear hf hn hrest hcm
      rcases hstep with ⟨h1, h2, h3, h4, h5⟩ | ⟨h1, h2, h4, h5⟩ | ⟨h1, h2, h4, h5⟩
      · obtain rfl : n = 1 := h3
        have HI : Hid ((H + 1) + Cx.hi8 (ys.drop 1) = Cx.hi8 zs) := by unfold Hid; omega
        have HJ : Hid ((R + 1) + Cx.rw8 (ys.drop 1) = Cx.rw8 zs) := by unfold Hid; omega
        have hHb : H + 1 ≤ zs.length := by omega
        have hRb : R + 1 ≤ zs.length := by omega
        clear hH hR h4 h5 hle hrl
        go_wp2_with fail
        refine (fst1_any _ ys a 1 _ (HY.out.ext hbw) HYB.out HNE.out HF.out).mono ?_
        rintro e w1 ⟨rfl, hb1⟩
        have hbw1 : Below w.heap.size w w1 := ext_trans hbw hb1
        clear hbw hb1
        go_wp2_with fail
        refine (isRaw_yes a _ h1 h2).mono ?_
        rintro e w2 ⟨rfl, hw2⟩
        subst hw2
        go_wp2_with fail
        all_goals refine ⟨⟨ys.drop 1, H + 1, R + 1, HI.out, HJ.out, by go_num, by go_num, ?_, HYB.out.drop _, hbw1⟩, ?_⟩
        all_goals first
          | exact HY.out.cut_if hn2
          | exact HY.out.cut hn2
          | exact HY.out.cut_same (by assumption)
          | (simp only [lenOf]; omega)
      · have HI : Hid ((H + n) + Cx.hi8 (ys.drop n) = Cx.hi8 zs) := by unfold Hid; omega
        have HJ : Hid (R + Cx.rw8 (ys.drop n) = Cx.rw8 zs) := by unfold Hid; omega
        have hHb : H + n ≤ zs.length := by omega
        have hRb : R ≤ zs.length := by omega
        clear hH hR h4 h5 hle hrl
        go_wp2_with fail
        refine (fst1_any _ ys a n _ (HY.out.ext hbw) HYB.out HNE.out HF.out).mono ?_
        rintro e w1 ⟨rfl, hb1⟩
        have hbw1 : Below w.heap.size w w1 := ext_trans hbw hb1
        clear hbw hb1
        go_wp2_with fail
        refine (isRaw_no a _ h1).mono ?_
        rintro e w2 ⟨rfl, hw2⟩
        subst hw2
        go_wp2_with fail
        all_goals refine ⟨⟨ys.drop n, H + n, R, HI.out, HJ.out, by go_num, by go_num, ?_, HYB.out.drop _, hbw1⟩, ?_⟩
        all_goals first
          | exact HY.out.cut_if hn2
          | exact HY.out.cut hn2
          | exact HY.out.cut_same (by assumption)
          | (simp only [lenOf]; omega)
      · obtain rfl : n = 1 := h2
        have HI : Hid (H + Cx.hi8 (ys.drop 1) = Cx.hi8 zs) := by unfold Hid; omega
        have HJ : Hid (R + Cx.rw8 (ys.drop 1) = Cx.rw8 zs) := by unfold Hid; omega
        have hHb : H ≤ zs.length := by omega
        have hRb : R ≤ zs.length := by omega
        clear hH hR h4 h5 hle hrl
        go_wp2_with fail
        refine (fst1_any _ ys a 1 _ (HY.out.ext hbw) HYB.out HNE.out HF.out).mono ?_
        rintro e w1 ⟨rfl, hb1⟩
        have hbw1 : Below w.heap.size w w1 := ext_trans hbw hb1
        clear hbw hb1
        go_wp2_with fail
        refine (isRaw_no a _ h1).mono ?_
        rintro e w2 ⟨rfl, hw2⟩
        subst hw2
        go_wp2_with fail
        all_goals refine ⟨⟨ys.drop 1, H, R, HI.out, HJ.out, by go_num, by go_num, ?_, HYB.out.drop _, hbw1⟩, ?_⟩
        all_goals first
          | exact HY.out.cut_if hn2
          | exact HY.out.cut hn2
          | exact HY.out.cut_same (by assumption)
          | (simp only [lenOf]; omega)
end Go.Proofs.Ytbfbaknfeleddaa
