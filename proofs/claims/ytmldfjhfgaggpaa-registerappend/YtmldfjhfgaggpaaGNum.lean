/- Registers' names: what is told of a number alone. -/
import Derived.Test.YtmldfjhfgaggpaaGKit
namespace Go.Proofs.Ytmldfjhfgaggpaa
open Go.RowKit

def smB (n : Int) : Bool := decide (97 ≤ n) && decide (n ≤ 122)
def grB (n : Int) : Bool := decide (65 ≤ n) && decide (n ≤ 90)
def dgB (n : Int) : Bool := decide (48 ≤ n) && decide (n ≤ 57)
def unB (n : Int) : Bool := (n == 34) || (n == 0)
def rdB (n : Int) : Bool := (n == 46) || (n == 58) || (n == 47)
def brB (n : Int) : Bool := (n == 10) || (n == 13)
def nmB (n : Int) : Bool := smB n || grB n || dgB n || unB n || rdB n || (n == 45) || (n == 95)
def sml (n : Int) : Int := if grB n = true then n + 32 else n
def refE (n k : Int) : Int := if nmB n = true then (if rdB n = true then 111 else if (k != 0 && k != 1) = true then 1 else 0) else 110

set_option maxRecDepth 100000 in
theorem isSmall_any (n : Int) (w : World) : Calls Try.prog 56 #[.int .i64 n] w fun e w' => e = .returned (.bool (smB n)) ∧ w = w' := by
  unfold smB
  by_cases h1 : n ≥ 97
  · by_cases h2 : n ≤ 122
    · go_enter Try.func56, Try.ntmps56
      go_wp2
      go_ret
      exact ⟨ret_bool (by simp; omega), rfl⟩
    · go_enter Try.func56, Try.ntmps56
      go_wp2
      go_ret
      exact ⟨ret_bool (by simp; omega), rfl⟩
  · go_enter Try.func56, Try.ntmps56
    go_wp2
    go_ret
    exact ⟨ret_bool (by simp; omega), rfl⟩
set_option maxRecDepth 100000 in
theorem isGreat_any (n : Int) (w : World) : Calls Try.prog 41 #[.int .i64 n] w fun e w' => e = .returned (.bool (grB n)) ∧ w = w' := by
  unfold grB
  by_cases h1 : n ≥ 65
  · by_cases h2 : n ≤ 90
    · go_enter Try.func41, Try.ntmps41
      go_wp2
      go_ret
      exact ⟨ret_bool (by simp; omega), rfl⟩
    · go_enter Try.func41, Try.ntmps41
      go_wp2
      go_ret
      exact ⟨ret_bool (by simp; omega), rfl⟩
  · go_enter Try.func41, Try.ntmps41
    go_wp2
    go_ret
    exact ⟨ret_bool (by simp; omega), rfl⟩
set_option maxRecDepth 100000 in
theorem isDigit_any (n : Int) (w : World) : Calls Try.prog 57 #[.int .i64 n] w fun e w' => e = .returned (.bool (dgB n)) ∧ w = w' := by
  unfold dgB
  by_cases h1 : n ≥ 48
  · by_cases h2 : n ≤ 57
    · go_enter Try.func57, Try.ntmps57
      go_wp2
      go_ret
      exact ⟨ret_bool (by simp; omega), rfl⟩
    · go_enter Try.func57, Try.ntmps57
      go_wp2
      go_ret
      exact ⟨ret_bool (by simp; omega), rfl⟩
  · go_enter Try.func57, Try.ntmps57
    go_wp2
    go_ret
    exact ⟨ret_bool (by simp; omega), rfl⟩
set_option maxRecDepth 100000 in
theorem isUnnamed_any (n : Int) (w : World) : Calls Try.prog 33 #[.int .i64 n] w fun e w' => e = .returned (.bool (unB n)) ∧ w = w' := by
  unfold unB
  by_cases h0 : n = 34
  · subst h0
    go_enter Try.func33, Try.ntmps33
    go_wp2
    go_ret
    exact ⟨ret_bool (by simp), rfl⟩
  have b0 : (n == 34) = false := by simp [h0]
  by_cases h1 : n = 0
  · subst h1
    go_enter Try.func33, Try.ntmps33
    go_wp2
    go_ret
    exact ⟨ret_bool (by simp), rfl⟩
  have b1 : (n == 0) = false := by simp [h1]
  go_enter Try.func33, Try.ntmps33
  go_wp2
  go_ret
  exact ⟨ret_bool (by simp [b0, b1]), rfl⟩
set_option maxRecDepth 100000 in
theorem isOnlyRead_any (n : Int) (w : World) : Calls Try.prog 52 #[.int .i64 n] w fun e w' => e = .returned (.bool (rdB n)) ∧ w = w' := by
  unfold rdB
  by_cases h0 : n = 46
  · subst h0
    go_enter Try.func52, Try.ntmps52
    go_wp2
    go_ret
    exact ⟨ret_bool (by simp), rfl⟩
  have b0 : (n == 46) = false := by simp [h0]
  by_cases h1 : n = 58
  · subst h1
    go_enter Try.func52, Try.ntmps52
    go_wp2
    go_ret
    exact ⟨ret_bool (by simp), rfl⟩
  have b1 : (n == 58) = false := by simp [h1]
  by_cases h2 : n = 47
  · subst h2
    go_enter Try.func52, Try.ntmps52
    go_wp2
    go_ret
    exact ⟨ret_bool (by simp), rfl⟩
  have b2 : (n == 47) = false := by simp [h2]
  go_enter Try.func52, Try.ntmps52
  go_wp2
  go_ret
  exact ⟨ret_bool (by simp [b0, b1, b2]), rfl⟩
set_option maxRecDepth 100000 in
theorem isBreak_any (n : Int) (w : World) : Calls Try.prog 36 #[.int .i64 n] w fun e w' => e = .returned (.bool (brB n)) ∧ w = w' := by
  unfold brB
  by_cases h0 : n = 10
  · subst h0
    go_enter Try.func36, Try.ntmps36
    go_wp2
    go_ret
    exact ⟨ret_bool (by simp), rfl⟩
  have b0 : (n == 10) = false := by simp [h0]
  by_cases h1 : n = 13
  · subst h1
    go_enter Try.func36, Try.ntmps36
    go_wp2
    go_ret
    exact ⟨ret_bool (by simp), rfl⟩
  have b1 : (n == 13) = false := by simp [h1]
  go_enter Try.func36, Try.ntmps36
  go_wp2
  go_ret
  exact ⟨ret_bool (by simp [b0, b1]), rfl⟩
set_option maxRecDepth 100000 in
set_option maxHeartbeats 1000000 in
theorem isName_any (n : Int) (w : World) : Calls Try.prog 38 #[.int .i64 n] w fun e w' => e = .returned (.bool (nmB n)) ∧ w = w' := by
  have C0 := hidIt (isSmall_any n w)
  have C1 := hidIt (isGreat_any n w)
  have C2 := hidIt (isDigit_any n w)
  have C3 := hidIt (isUnnamed_any n w)
  have C4 := hidIt (isOnlyRead_any n w)
  cases x0 : smB n
  case true =>
    have hn : nmB n = true := by unfold nmB; simp [x0]
    rw [hn]
    go_enter Try.func38, Try.ntmps38
    go_wp2_with (first | (go_at_call 56; rw [x0] at C0; refine C0.out.mono ?_; rintro e w1 ⟨rfl, rfl⟩; (try dsimp only)))
    go_ret
    exact ⟨rfl, rfl⟩
  cases x1 : grB n
  case true =>
    have hn : nmB n = true := by unfold nmB; simp [x0, x1]
    rw [hn]
    go_enter Try.func38, Try.ntmps38
    go_wp2_with (first | (go_at_call 56; rw [x0] at C0; refine C0.out.mono ?_; rintro e w1 ⟨rfl, rfl⟩; (try dsimp only)) | (go_at_call 41; rw [x1] at C1; refine C1.out.mono ?_; rintro e w1 ⟨rfl, rfl⟩; (try dsimp only)))
    go_ret
    exact ⟨rfl, rfl⟩
  cases x2 : dgB n
  case true =>
    have hn : nmB n = true := by unfold nmB; simp [x0, x1, x2]
    rw [hn]
    go_enter Try.func38, Try.ntmps38
    go_wp2_with (first | (go_at_call 56; rw [x0] at C0; refine C0.out.mono ?_; rintro e w1 ⟨rfl, rfl⟩; (try dsimp only)) | (go_at_call 41; rw [x1] at C1; refine C1.out.mono ?_; rintro e w1 ⟨rfl, rfl⟩; (try dsimp only)) | (go_at_call 57; rw [x2] at C2; refine C2.out.mono ?_; rintro e w1 ⟨rfl, rfl⟩; (try dsimp only)))
    go_ret
    exact ⟨rfl, rfl⟩
  cases x3 : unB n
  case true =>
    have hn : nmB n = true := by unfold nmB; simp [x0, x1, x2, x3]
    rw [hn]
    go_enter Try.func38, Try.ntmps38
    go_wp2_with (first | (go_at_call 56; rw [x0] at C0; refine C0.out.mono ?_; rintro e w1 ⟨rfl, rfl⟩; (try dsimp only)) | (go_at_call 41; rw [x1] at C1; refine C1.out.mono ?_; rintro e w1 ⟨rfl, rfl⟩; (try dsimp only)) | (go_at_call 57; rw [x2] at C2; refine C2.out.mono ?_; rintro e w1 ⟨rfl, rfl⟩; (try dsimp only)) | (go_at_call 33; rw [x3] at C3; refine C3.out.mono ?_; rintro e w1 ⟨rfl, rfl⟩; (try dsimp only)))
    go_ret
    exact ⟨rfl, rfl⟩
  cases x4 : rdB n
  case true =>
    have hn : nmB n = true := by unfold nmB; simp [x0, x1, x2, x3, x4]
    rw [hn]
    go_enter Try.func38, Try.ntmps38
    go_wp2_with (first | (go_at_call 56; rw [x0] at C0; refine C0.out.mono ?_; rintro e w1 ⟨rfl, rfl⟩; (try dsimp only)) | (go_at_call 41; rw [x1] at C1; refine C1.out.mono ?_; rintro e w1 ⟨rfl, rfl⟩; (try dsimp only)) | (go_at_call 57; rw [x2] at C2; refine C2.out.mono ?_; rintro e w1 ⟨rfl, rfl⟩; (try dsimp only)) | (go_at_call 33; rw [x3] at C3; refine C3.out.mono ?_; rintro e w1 ⟨rfl, rfl⟩; (try dsimp only)) | (go_at_call 52; rw [x4] at C4; refine C4.out.mono ?_; rintro e w1 ⟨rfl, rfl⟩; (try dsimp only)))
    go_ret
    exact ⟨rfl, rfl⟩
  by_cases h0 : n = 45
  · have hn : nmB n = true := by unfold nmB; simp [h0]
    rw [hn]
    have b0 : (n == 45) = true := by simp [h0]
    clear h0 hn
    go_enter Try.func38, Try.ntmps38
    go_wp2_with (first | (go_at_call 56; rw [x0] at C0; refine C0.out.mono ?_; rintro e w1 ⟨rfl, rfl⟩; (try dsimp only)) | (go_at_call 41; rw [x1] at C1; refine C1.out.mono ?_; rintro e w1 ⟨rfl, rfl⟩; (try dsimp only)) | (go_at_call 57; rw [x2] at C2; refine C2.out.mono ?_; rintro e w1 ⟨rfl, rfl⟩; (try dsimp only)) | (go_at_call 33; rw [x3] at C3; refine C3.out.mono ?_; rintro e w1 ⟨rfl, rfl⟩; (try dsimp only)) | (go_at_call 52; rw [x4] at C4; refine C4.out.mono ?_; rintro e w1 ⟨rfl, rfl⟩; (try dsimp only)))
    go_ret
    exact ⟨ret_bool (by simp [*]), rfl⟩
  have b0 : (n == 45) = false := by simp [h0]
  by_cases h1 : n = 95
  · have hn : nmB n = true := by unfold nmB; simp [h1]
    rw [hn]
    have b1 : (n == 95) = true := by simp [h1]
    clear h1 hn
    go_enter Try.func38, Try.ntmps38
    go_wp2_with (first | (go_at_call 56; rw [x0] at C0; refine C0.out.mono ?_; rintro e w1 ⟨rfl, rfl⟩; (try dsimp only)) | (go_at_call 41; rw [x1] at C1; refine C1.out.mono ?_; rintro e w1 ⟨rfl, rfl⟩; (try dsimp only)) | (go_at_call 57; rw [x2] at C2; refine C2.out.mono ?_; rintro e w1 ⟨rfl, rfl⟩; (try dsimp only)) | (go_at_call 33; rw [x3] at C3; refine C3.out.mono ?_; rintro e w1 ⟨rfl, rfl⟩; (try dsimp only)) | (go_at_call 52; rw [x4] at C4; refine C4.out.mono ?_; rintro e w1 ⟨rfl, rfl⟩; (try dsimp only)))
    go_ret
    exact ⟨ret_bool (by simp [*]), rfl⟩
  have b1 : (n == 95) = false := by simp [h1]
  have hn : nmB n = false := by unfold nmB; simp [x0, x1, x2, x3, x4, b0, b1]
  rw [hn]
  clear hn
  go_enter Try.func38, Try.ntmps38
  go_wp2_with (first | (go_at_call 56; rw [x0] at C0; refine C0.out.mono ?_; rintro e w1 ⟨rfl, rfl⟩; (try dsimp only)) | (go_at_call 41; rw [x1] at C1; refine C1.out.mono ?_; rintro e w1 ⟨rfl, rfl⟩; (try dsimp only)) | (go_at_call 57; rw [x2] at C2; refine C2.out.mono ?_; rintro e w1 ⟨rfl, rfl⟩; (try dsimp only)) | (go_at_call 33; rw [x3] at C3; refine C3.out.mono ?_; rintro e w1 ⟨rfl, rfl⟩; (try dsimp only)) | (go_at_call 52; rw [x4] at C4; refine C4.out.mono ?_; rintro e w1 ⟨rfl, rfl⟩; (try dsimp only)))
  go_ret
  exact ⟨ret_bool (by simp), rfl⟩
set_option maxRecDepth 100000 in
theorem small_any (n : Int) (w : World) : Calls Try.prog 42 #[.int .i64 n] w fun e w' => e = .returned (.int .i64 (sml n)) ∧ w = w' := by
  have C := hidIt (isGreat_any n w)
  unfold sml
  cases x : grB n
  · rw [if_neg (by simp)]
    go_enter Try.func42, Try.ntmps42
    go_wp2_with (go_at_call 41; rw [x] at C; refine C.out.mono ?_; rintro e w1 ⟨rfl, rfl⟩; (try dsimp only))
    go_ret
    exact ⟨rfl, rfl⟩
  · rw [if_pos rfl]
    have hr : 65 ≤ n ∧ n ≤ 90 := by unfold grB at x; simpa using x
    have r1 : IntKind.i64.wrap (n - 65) = n - 65 := by rw [IntKind.wrap_i64]; omega
    have r2 : IntKind.i64.wrap (n - 65 + 97) = n - 65 + 97 := by rw [IntKind.wrap_i64]; omega
    go_enter Try.func42, Try.ntmps42
    go_wp2_with (go_at_call 41; rw [x] at C; refine C.out.mono ?_; rintro e w1 ⟨rfl, rfl⟩; (try dsimp only))
    go_ret
    exact ⟨ret_int (by omega), rfl⟩
set_option maxRecDepth 100000 in
theorem refused_any (n k : Int) (w : World) : Calls Try.prog 32 #[.int .i64 n, .int .i64 k] w fun e w' => e = .returned (.int .i64 (refE n k)) ∧ w = w' := by
  have C := hidIt (isName_any n w)
  have D := hidIt (isOnlyRead_any n w)
  unfold refE
  cases x : nmB n
  · rw [if_neg (by simp)]
    go_enter Try.func32, Try.ntmps32
    go_wp2_with (go_at_call 38; rw [x] at C; refine C.out.mono ?_; rintro e w1 ⟨rfl, rfl⟩; (try dsimp only))
    go_ret
    exact ⟨rfl, rfl⟩
  rw [if_pos rfl]
  cases y : rdB n
  case true =>
    rw [if_pos rfl]
    go_enter Try.func32, Try.ntmps32
    go_wp2_with (first | (go_at_call 38; rw [x] at C; refine C.out.mono ?_; rintro e w1 ⟨rfl, rfl⟩; (try dsimp only)) | (go_at_call 52; rw [y] at D; refine D.out.mono ?_; rintro e w1 ⟨rfl, rfl⟩; (try dsimp only)))
    go_ret
    exact ⟨rfl, rfl⟩
  rw [if_neg (by simp)]
  by_cases h0 : k = 0
  · subst h0
    go_enter Try.func32, Try.ntmps32
    go_wp2_with (first | (go_at_call 38; rw [x] at C; refine C.out.mono ?_; rintro e w1 ⟨rfl, rfl⟩; (try dsimp only)) | (go_at_call 52; rw [y] at D; refine D.out.mono ?_; rintro e w1 ⟨rfl, rfl⟩; (try dsimp only)))
    go_ret
    exact ⟨rfl, rfl⟩
  by_cases h1 : k = 1
  · subst h1
    go_enter Try.func32, Try.ntmps32
    go_wp2_with (first | (go_at_call 38; rw [x] at C; refine C.out.mono ?_; rintro e w1 ⟨rfl, rfl⟩; (try dsimp only)) | (go_at_call 52; rw [y] at D; refine D.out.mono ?_; rintro e w1 ⟨rfl, rfl⟩; (try dsimp only)))
    go_ret
    exact ⟨rfl, rfl⟩
  have b0 : (k != 0) = true := by simp [h0]
  have b1 : (k != 1) = true := by simp [h1]
  rw [if_pos (by rw [b0, b1]; rfl)]
  go_enter Try.func32, Try.ntmps32
  go_wp2_with (first | (go_at_call 38; rw [x] at C; refine C.out.mono ?_; rintro e w1 ⟨rfl, rfl⟩; (try dsimp only)) | (go_at_call 52; rw [y] at D; refine D.out.mono ?_; rintro e w1 ⟨rfl, rfl⟩; (try dsimp only)))
  go_ret
  exact ⟨rfl, rfl⟩
end Go.Proofs.Ytmldfjhfgaggpaa
