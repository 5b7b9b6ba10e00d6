/- The document's names. -/
import Derived.Test.YtmldfjhfgaggpaaGNum
namespace Go.Proofs.Ytmldfjhfgaggpaa
open Go.RowKit

set_option maxRecDepth 100000 in
theorem r_small_any (n : Int) (w : World) : Calls Try.prog 87 #[.int .i64 n] w fun e w' => e = .returned (.bool (smB n)) ∧ w = w' := by
  unfold smB
  by_cases h1 : n ≥ 97
  · by_cases h2 : n ≤ 122
    · go_enter Try.func87, Try.ntmps87
      go_wp2
      go_ret
      exact ⟨ret_bool (by simp; omega), rfl⟩
    · go_enter Try.func87, Try.ntmps87
      go_wp2
      go_ret
      exact ⟨ret_bool (by simp; omega), rfl⟩
  · go_enter Try.func87, Try.ntmps87
    go_wp2
    go_ret
    exact ⟨ret_bool (by simp; omega), rfl⟩
set_option maxRecDepth 100000 in
theorem r_great_any (n : Int) (w : World) : Calls Try.prog 68 #[.int .i64 n] w fun e w' => e = .returned (.bool (grB n)) ∧ w = w' := by
  unfold grB
  by_cases h1 : n ≥ 65
  · by_cases h2 : n ≤ 90
    · go_enter Try.func68, Try.ntmps68
      go_wp2
      go_ret
      exact ⟨ret_bool (by simp; omega), rfl⟩
    · go_enter Try.func68, Try.ntmps68
      go_wp2
      go_ret
      exact ⟨ret_bool (by simp; omega), rfl⟩
  · go_enter Try.func68, Try.ntmps68
    go_wp2
    go_ret
    exact ⟨ret_bool (by simp; omega), rfl⟩
set_option maxRecDepth 100000 in
theorem r_digit_any (n : Int) (w : World) : Calls Try.prog 88 #[.int .i64 n] w fun e w' => e = .returned (.bool (dgB n)) ∧ w = w' := by
  unfold dgB
  by_cases h1 : n ≥ 48
  · by_cases h2 : n ≤ 57
    · go_enter Try.func88, Try.ntmps88
      go_wp2
      go_ret
      exact ⟨ret_bool (by simp; omega), rfl⟩
    · go_enter Try.func88, Try.ntmps88
      go_wp2
      go_ret
      exact ⟨ret_bool (by simp; omega), rfl⟩
  · go_enter Try.func88, Try.ntmps88
    go_wp2
    go_ret
    exact ⟨ret_bool (by simp; omega), rfl⟩
set_option maxRecDepth 100000 in
theorem r_unnamed_any (n : Int) (w : World) : Calls Try.prog 67 #[.int .i64 n] w fun e w' => e = .returned (.bool (unB n)) ∧ w = w' := by
  unfold unB
  by_cases h0 : n = 0
  · subst h0
    go_enter Try.func67, Try.ntmps67
    go_wp2
    go_ret
    exact ⟨ret_bool (by simp), rfl⟩
  have b0 : (n == 0) = false := by simp [h0]
  by_cases h1 : n = 34
  · subst h1
    go_enter Try.func67, Try.ntmps67
    go_wp2
    go_ret
    exact ⟨ret_bool (by simp), rfl⟩
  have b1 : (n == 34) = false := by simp [h1]
  go_enter Try.func67, Try.ntmps67
  go_wp2
  go_ret
  exact ⟨ret_bool (by simp [b0, b1]), rfl⟩
set_option maxRecDepth 100000 in
theorem r_read_any (n : Int) (w : World) : Calls Try.prog 89 #[.int .i64 n] w fun e w' => e = .returned (.bool (rdB n)) ∧ w = w' := by
  unfold rdB
  by_cases h0 : n = 46
  · subst h0
    go_enter Try.func89, Try.ntmps89
    go_wp2
    go_ret
    exact ⟨ret_bool (by simp), rfl⟩
  have b0 : (n == 46) = false := by simp [h0]
  by_cases h1 : n = 58
  · subst h1
    go_enter Try.func89, Try.ntmps89
    go_wp2
    go_ret
    exact ⟨ret_bool (by simp), rfl⟩
  have b1 : (n == 58) = false := by simp [h1]
  by_cases h2 : n = 47
  · subst h2
    go_enter Try.func89, Try.ntmps89
    go_wp2
    go_ret
    exact ⟨ret_bool (by simp), rfl⟩
  have b2 : (n == 47) = false := by simp [h2]
  go_enter Try.func89, Try.ntmps89
  go_wp2
  go_ret
  exact ⟨ret_bool (by simp [b0, b1, b2]), rfl⟩
set_option maxRecDepth 100000 in
set_option maxHeartbeats 1000000 in
theorem r_Named_any (n : Int) (w : World) : Calls Try.prog 66 #[.int .i64 n] w fun e w' => e = .returned (.bool (nmB n)) ∧ w = w' := by
  have C0 := hidIt (r_small_any n w)
  have C1 := hidIt (r_great_any n w)
  have C2 := hidIt (r_digit_any n w)
  have C3 := hidIt (r_unnamed_any n w)
  have C4 := hidIt (r_read_any n w)
  cases x0 : smB n
  case true =>
    have hn : nmB n = true := by unfold nmB; simp [x0]
    rw [hn]
    clear hn
    go_enter Try.func66, Try.ntmps66
    go_wp2_with (first | (go_at_call 87; rw [x0] at C0; refine C0.out.mono ?_; rintro e w1 ⟨rfl, rfl⟩; (try dsimp only)))
    go_ret
    exact ⟨rfl, rfl⟩
  cases x1 : grB n
  case true =>
    have hn : nmB n = true := by unfold nmB; simp [x0, x1]
    rw [hn]
    clear hn
    go_enter Try.func66, Try.ntmps66
    go_wp2_with (first | (go_at_call 87; rw [x0] at C0; refine C0.out.mono ?_; rintro e w1 ⟨rfl, rfl⟩; (try dsimp only)) | (go_at_call 68; rw [x1] at C1; refine C1.out.mono ?_; rintro e w1 ⟨rfl, rfl⟩; (try dsimp only)))
    go_ret
    exact ⟨rfl, rfl⟩
  cases x2 : dgB n
  case true =>
    have hn : nmB n = true := by unfold nmB; simp [x0, x1, x2]
    rw [hn]
    clear hn
    go_enter Try.func66, Try.ntmps66
    go_wp2_with (first | (go_at_call 87; rw [x0] at C0; refine C0.out.mono ?_; rintro e w1 ⟨rfl, rfl⟩; (try dsimp only)) | (go_at_call 68; rw [x1] at C1; refine C1.out.mono ?_; rintro e w1 ⟨rfl, rfl⟩; (try dsimp only)) | (go_at_call 88; rw [x2] at C2; refine C2.out.mono ?_; rintro e w1 ⟨rfl, rfl⟩; (try dsimp only)))
    go_ret
    exact ⟨rfl, rfl⟩
  cases x3 : unB n
  case true =>
    have hn : nmB n = true := by unfold nmB; simp [x0, x1, x2, x3]
    rw [hn]
    clear hn
    go_enter Try.func66, Try.ntmps66
    go_wp2_with (first | (go_at_call 87; rw [x0] at C0; refine C0.out.mono ?_; rintro e w1 ⟨rfl, rfl⟩; (try dsimp only)) | (go_at_call 68; rw [x1] at C1; refine C1.out.mono ?_; rintro e w1 ⟨rfl, rfl⟩; (try dsimp only)) | (go_at_call 88; rw [x2] at C2; refine C2.out.mono ?_; rintro e w1 ⟨rfl, rfl⟩; (try dsimp only)) | (go_at_call 67; rw [x3] at C3; refine C3.out.mono ?_; rintro e w1 ⟨rfl, rfl⟩; (try dsimp only)))
    go_ret
    exact ⟨rfl, rfl⟩
  cases x4 : rdB n
  case true =>
    have hn : nmB n = true := by unfold nmB; simp [x0, x1, x2, x3, x4]
    rw [hn]
    clear hn
    go_enter Try.func66, Try.ntmps66
    go_wp2_with (first | (go_at_call 87; rw [x0] at C0; refine C0.out.mono ?_; rintro e w1 ⟨rfl, rfl⟩; (try dsimp only)) | (go_at_call 68; rw [x1] at C1; refine C1.out.mono ?_; rintro e w1 ⟨rfl, rfl⟩; (try dsimp only)) | (go_at_call 88; rw [x2] at C2; refine C2.out.mono ?_; rintro e w1 ⟨rfl, rfl⟩; (try dsimp only)) | (go_at_call 67; rw [x3] at C3; refine C3.out.mono ?_; rintro e w1 ⟨rfl, rfl⟩; (try dsimp only)) | (go_at_call 89; rw [x4] at C4; refine C4.out.mono ?_; rintro e w1 ⟨rfl, rfl⟩; (try dsimp only)))
    go_ret
    exact ⟨rfl, rfl⟩
  by_cases h0 : n = 45
  · have hn : nmB n = true := by unfold nmB; simp [h0]
    rw [hn]
    have b0 : (n == 45) = true := by simp [h0]
    clear h0 hn
    go_enter Try.func66, Try.ntmps66
    go_wp2_with (first | (go_at_call 87; rw [x0] at C0; refine C0.out.mono ?_; rintro e w1 ⟨rfl, rfl⟩; (try dsimp only)) | (go_at_call 68; rw [x1] at C1; refine C1.out.mono ?_; rintro e w1 ⟨rfl, rfl⟩; (try dsimp only)) | (go_at_call 88; rw [x2] at C2; refine C2.out.mono ?_; rintro e w1 ⟨rfl, rfl⟩; (try dsimp only)) | (go_at_call 67; rw [x3] at C3; refine C3.out.mono ?_; rintro e w1 ⟨rfl, rfl⟩; (try dsimp only)) | (go_at_call 89; rw [x4] at C4; refine C4.out.mono ?_; rintro e w1 ⟨rfl, rfl⟩; (try dsimp only)))
    go_ret
    exact ⟨ret_bool (by simp), rfl⟩
  have b0 : (n == 45) = false := by simp [h0]
  by_cases h1 : n = 95
  · have hn : nmB n = true := by unfold nmB; simp [h1]
    rw [hn]
    have b1 : (n == 95) = true := by simp [h1]
    clear h1 hn
    go_enter Try.func66, Try.ntmps66
    go_wp2_with (first | (go_at_call 87; rw [x0] at C0; refine C0.out.mono ?_; rintro e w1 ⟨rfl, rfl⟩; (try dsimp only)) | (go_at_call 68; rw [x1] at C1; refine C1.out.mono ?_; rintro e w1 ⟨rfl, rfl⟩; (try dsimp only)) | (go_at_call 88; rw [x2] at C2; refine C2.out.mono ?_; rintro e w1 ⟨rfl, rfl⟩; (try dsimp only)) | (go_at_call 67; rw [x3] at C3; refine C3.out.mono ?_; rintro e w1 ⟨rfl, rfl⟩; (try dsimp only)) | (go_at_call 89; rw [x4] at C4; refine C4.out.mono ?_; rintro e w1 ⟨rfl, rfl⟩; (try dsimp only)))
    go_ret
    exact ⟨ret_bool (by simp), rfl⟩
  have b1 : (n == 95) = false := by simp [h1]
  have hn : nmB n = false := by unfold nmB; simp [x0, x1, x2, x3, x4, b0, b1]
  rw [hn]
  clear hn
  go_enter Try.func66, Try.ntmps66
  go_wp2_with (first | (go_at_call 87; rw [x0] at C0; refine C0.out.mono ?_; rintro e w1 ⟨rfl, rfl⟩; (try dsimp only)) | (go_at_call 68; rw [x1] at C1; refine C1.out.mono ?_; rintro e w1 ⟨rfl, rfl⟩; (try dsimp only)) | (go_at_call 88; rw [x2] at C2; refine C2.out.mono ?_; rintro e w1 ⟨rfl, rfl⟩; (try dsimp only)) | (go_at_call 67; rw [x3] at C3; refine C3.out.mono ?_; rintro e w1 ⟨rfl, rfl⟩; (try dsimp only)) | (go_at_call 89; rw [x4] at C4; refine C4.out.mono ?_; rintro e w1 ⟨rfl, rfl⟩; (try dsimp only)))
  go_ret
  exact ⟨ret_bool (by simp), rfl⟩
set_option maxRecDepth 100000 in
theorem r_refuse_any (n k : Int) (w : World) : Calls Try.prog 83 #[.int .i64 n, .int .i64 k] w fun e w' => e = .returned (.int .i64 (refE n k)) ∧ w = w' := by
  have C := hidIt (r_Named_any n w)
  have D := hidIt (r_read_any n w)
  unfold refE
  cases x : nmB n
  · rw [if_neg (by simp)]
    go_enter Try.func83, Try.ntmps83
    go_wp2_with (first | (go_at_call 66; rw [x] at C; refine C.out.mono ?_; rintro e w1 ⟨rfl, rfl⟩; (try dsimp only)))
    go_ret
    exact ⟨rfl, rfl⟩
  rw [if_pos rfl]
  cases y : rdB n
  case true =>
    rw [if_pos rfl]
    go_enter Try.func83, Try.ntmps83
    go_wp2_with (first | (go_at_call 66; rw [x] at C; refine C.out.mono ?_; rintro e w1 ⟨rfl, rfl⟩; (try dsimp only)) | (go_at_call 89; rw [y] at D; refine D.out.mono ?_; rintro e w1 ⟨rfl, rfl⟩; (try dsimp only)))
    go_ret
    exact ⟨rfl, rfl⟩
  rw [if_neg (by simp)]
  by_cases h0 : k = 0
  · subst h0
    go_enter Try.func83, Try.ntmps83
    go_wp2_with (first | (go_at_call 66; rw [x] at C; refine C.out.mono ?_; rintro e w1 ⟨rfl, rfl⟩; (try dsimp only)) | (go_at_call 89; rw [y] at D; refine D.out.mono ?_; rintro e w1 ⟨rfl, rfl⟩; (try dsimp only)))
    go_ret
    exact ⟨rfl, rfl⟩
  by_cases h1 : k = 1
  · subst h1
    go_enter Try.func83, Try.ntmps83
    go_wp2_with (first | (go_at_call 66; rw [x] at C; refine C.out.mono ?_; rintro e w1 ⟨rfl, rfl⟩; (try dsimp only)) | (go_at_call 89; rw [y] at D; refine D.out.mono ?_; rintro e w1 ⟨rfl, rfl⟩; (try dsimp only)))
    go_ret
    exact ⟨rfl, rfl⟩
  have b0 : (k != 0) = true := by simp [h0]
  have b1 : (k != 1) = true := by simp [h1]
  rw [if_pos (by rw [b0, b1]; rfl)]
  go_enter Try.func83, Try.ntmps83
  go_wp2_with (first | (go_at_call 66; rw [x] at C; refine C.out.mono ?_; rintro e w1 ⟨rfl, rfl⟩; (try dsimp only)) | (go_at_call 89; rw [y] at D; refine D.out.mono ?_; rintro e w1 ⟨rfl, rfl⟩; (try dsimp only)))
  go_ret
  exact ⟨rfl, rfl⟩
end Go.Proofs.Ytmldfjhfgaggpaa
