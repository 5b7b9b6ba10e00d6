/- The coders behind the interface: which method is whose; the coder of an encoding; sizes. -/
import Derived.Test.YtbfbaknfeleddaaRows
import Derived.Test.YtbfbaknfeleddaaSpec
import Derived.WalkKit
import Derived.WalkSpells
import Derived.WalkLawsBesides
import Derived.StillTactics
import Derived.Deep.QuietTactic
import Derived.BigQuiet
import Derived.Outline
namespace Go.Proofs.Ytbfbaknfeleddaa
open Go.RowKit

/-- The coder of an encoding, as an interface value. -/
def Cx.cv (enc : Int) : Value :=
  if enc = 1 then .iface 99 (.agg #[]) else if enc = 2 then .iface 101 (.agg #[.int .i64 0])
  else if enc = 3 then .iface 101 (.agg #[.int .i64 1]) else if enc = 4 then .iface 102 (.agg #[]) else .nilIface
def Cx.known (enc : Int) : Bool := decide (1 ≤ enc) && decide (enc ≤ 4)

theorem m_size1 (w : World) : (method 239 99 (.agg #[]) "copyist/codec.size").run Try.prog w = .ok (117, .agg #[]) w := by kernel_rfl
theorem m_size2 (k : Int) (w : World) : (method 239 101 (.agg #[.int .i64 k]) "copyist/codec.size").run Try.prog w = .ok (127, .agg #[.int .i64 k]) w := by kernel_rfl
theorem m_size4 (w : World) : (method 239 102 (.agg #[]) "copyist/codec.size").run Try.prog w = .ok (139, .agg #[]) w := by kernel_rfl

theorem ret_int {k : IntKind} {a b : Int} (h : a = b) : Ending.returned (.int k a) = .returned (.int k b) := by rw [h]
theorem ret_bool {a b : Bool} (h : a = b) : Ending.returned (.bool a) = .returned (.bool b) := by rw [h]

theorem coderOf_any (enc : Int) (w : World) : Calls Try.prog 54 #[.int .i64 enc] w fun e w' => e = .returned (.tuple #[Cx.cv enc, .bool (Cx.known enc)]) ∧ w' = w := by
  by_cases h1 : enc = 1
  · subst h1; go_enter Try.func54, Try.ntmps54; go_wp2; go_ret2; exact ⟨rfl, rfl⟩
  by_cases h2 : enc = 2
  · subst h2; go_enter Try.func54, Try.ntmps54; go_wp2; go_ret2; exact ⟨rfl, rfl⟩
  by_cases h3 : enc = 3
  · subst h3; go_enter Try.func54, Try.ntmps54; go_wp2; go_ret2; exact ⟨rfl, rfl⟩
  by_cases h4 : enc = 4
  · subst h4; go_enter Try.func54, Try.ntmps54; go_wp2; go_ret2; exact ⟨rfl, rfl⟩
  · have e1 : Cx.cv enc = .nilIface := by simp [Cx.cv, h1, h2, h3, h4]
    have e2 : Cx.known enc = false := by simp [Cx.known]; omega
    rw [e1, e2]
    have b1 : (enc == 1) = false := by simp [h1]
    have b2 : (enc == 2) = false := by simp [h2]
    have b3 : (enc == 3) = false := by simp [h3]
    have b4 : (enc == 4) = false := by simp [h4]
    clear h1 h2 h3 h4 e1 e2
    go_enter Try.func54, Try.ntmps54
    go_wp2
    go_ret2
    exact ⟨rfl, rfl⟩

theorem coderOf_1 (w : World) : Calls Try.prog 54 #[.int .i64 1] w fun e w' => e = .returned (.tuple #[.iface 99 (.agg #[]), .bool true]) ∧ w' = w := coderOf_any 1 w
theorem coderOf_2 (w : World) : Calls Try.prog 54 #[.int .i64 2] w fun e w' => e = .returned (.tuple #[.iface 101 (.agg #[.int .i64 0]), .bool true]) ∧ w' = w := coderOf_any 2 w
theorem coderOf_3 (w : World) : Calls Try.prog 54 #[.int .i64 3] w fun e w' => e = .returned (.tuple #[.iface 101 (.agg #[.int .i64 1]), .bool true]) ∧ w' = w := coderOf_any 3 w
theorem coderOf_4 (w : World) : Calls Try.prog 54 #[.int .i64 4] w fun e w' => e = .returned (.tuple #[.iface 102 (.agg #[]), .bool true]) ∧ w' = w := coderOf_any 4 w
theorem coderOf_no (enc : Int) (h1 : enc ≠ 1) (h2 : enc ≠ 2) (h3 : enc ≠ 3) (h4 : enc ≠ 4) (w : World) : Calls Try.prog 54 #[.int .i64 enc] w fun e w' => e = .returned (.tuple #[.nilIface, .bool false]) ∧ w' = w := by
  have e1 : Cx.cv enc = .nilIface := by simp [Cx.cv, h1, h2, h3, h4]
  have e2 : Cx.known enc = false := by simp [Cx.known]; omega
  have := coderOf_any enc w
  rwa [e1, e2] at this

set_option maxHeartbeats 1000000 in
theorem nsize_any (a : Int) (w : World) : Calls Try.prog 117 #[.agg #[], .int .i64 a] w fun e w' => e = .returned (.int .i64 (Cx.nsize a)) ∧ Below w.heap.size w w' := by
  rcases (show a < -256 ∨ (-256 ≤ a ∧ a ≤ -129) ∨ (-128 ≤ a ∧ a ≤ -1) ∨ (0 ≤ a ∧ a < 128) ∨ (128 ≤ a ∧ a < 2048) ∨ (2048 ≤ a ∧ a < 55296) ∨ (55296 ≤ a ∧ a ≤ 57343) ∨ (57344 ≤ a ∧ a < 65536) ∨ (65536 ≤ a ∧ a ≤ 1114111) ∨ 1114111 < a from by omega) with h | ⟨h, h'⟩ | ⟨h, h'⟩ | ⟨h, h'⟩ | ⟨h, h'⟩ | ⟨h, h'⟩ | ⟨h, h'⟩ | ⟨h, h'⟩ | ⟨h, h'⟩ | h
  all_goals
    go_enter Try.func117, Try.ntmps117
    go_wp2
    go_ret
    refine ⟨ret_int ?_, (Below.refl _ _).alloc (Nat.le_refl _) _⟩
    unfold Cx.nsize
    repeat' split
    all_goals omega
set_option maxHeartbeats 1000000 in
theorem wsize_any (k a : Int) (w : World) : Calls Try.prog 127 #[.agg #[.int .i64 k], .int .i64 a] w fun e w' => e = .returned (.int .i64 (Cx.wsize a)) ∧ Below w.heap.size w w' := by
  rcases (show a < -256 ∨ (-256 ≤ a ∧ a ≤ -1) ∨ (0 ≤ a ∧ a < 55296) ∨ (55296 ≤ a ∧ a ≤ 57343) ∨ (57344 ≤ a ∧ a < 65536) ∨ (65536 ≤ a ∧ a ≤ 1114111) ∨ 1114111 < a from by omega) with h | ⟨h, h'⟩ | ⟨h, h'⟩ | ⟨h, h'⟩ | ⟨h, h'⟩ | ⟨h, h'⟩ | h
  all_goals
    first | have hd : decide (a ≤ 57343) = false := by simp; omega
          | skip
    go_enter Try.func127, Try.ntmps127
    go_wp2
    go_ret
    refine ⟨ret_int ?_, (Below.refl _ _).alloc (Nat.le_refl _) _⟩
    unfold Cx.wsize
    repeat' split
    all_goals omega
theorem lsize_any (a : Int) (w : World) : Calls Try.prog 139 #[.agg #[], .int .i64 a] w fun e w' => e = .returned (.int .i64 (Cx.lsize a)) ∧ Below w.heap.size w w' := by
  rcases (show a < 0 ∨ (0 ≤ a ∧ a ≤ 255) ∨ 255 < a from by omega) with h | ⟨h, h'⟩ | h
  all_goals
    go_enter Try.func139, Try.ntmps139
    go_wp2
    go_ret
    refine ⟨ret_int ?_, (Below.refl _ _).alloc (Nat.le_refl _) _⟩
    unfold Cx.lsize
    repeat' split
    all_goals omega

theorem Cx.size_other (enc a : Int) (h1 : enc ≠ 1) (h2 : enc ≠ 2) (h3 : enc ≠ 3) (h4 : enc ≠ 4) : Cx.size enc a = 0 := by
  simp [Cx.size, Cx.fits, h1, h2, h3, h4]

/-- codec.Size: every encoding, every atom. -/
theorem Size_any (enc a : Int) (w : World) : Calls Try.prog 34 #[.int .i64 enc, .int .i64 a] w fun e w' => e = .returned (.int .i64 (Cx.size enc a)) ∧ Below w.heap.size w w' := by
  by_cases h1 : enc = 1
  · subst h1
    rw [Cx.size1]
    have hm := m_size1
    go_enter Try.func34, Try.ntmps34
    go_wp2_with (first | (go_at_call 54; refine (coderOf_1 _).mono ?_; rintro e w' ⟨rfl, rfl⟩) | (go_at_call 117; refine (nsize_any _ _).mono ?_; rintro e w' ⟨rfl, hb⟩))
    go_ret
    exact ⟨rfl, by assumption⟩
  by_cases h2 : enc = 2
  · subst h2
    rw [Cx.sizeW _ _ (by decide)]
    have hm := m_size2
    go_enter Try.func34, Try.ntmps34
    go_wp2_with (first | (go_at_call 54; refine (coderOf_2 _).mono ?_; rintro e w' ⟨rfl, rfl⟩) | (go_at_call 127; refine (wsize_any _ _ _).mono ?_; rintro e w' ⟨rfl, hb⟩))
    go_ret
    exact ⟨rfl, by assumption⟩
  by_cases h3 : enc = 3
  · subst h3
    rw [Cx.sizeW _ _ (by decide)]
    have hm := m_size2
    go_enter Try.func34, Try.ntmps34
    go_wp2_with (first | (go_at_call 54; refine (coderOf_3 _).mono ?_; rintro e w' ⟨rfl, rfl⟩) | (go_at_call 127; refine (wsize_any _ _ _).mono ?_; rintro e w' ⟨rfl, hb⟩))
    go_ret
    exact ⟨rfl, by assumption⟩
  by_cases h4 : enc = 4
  · subst h4
    rw [Cx.size4]
    have hm := m_size4
    go_enter Try.func34, Try.ntmps34
    go_wp2_with (first | (go_at_call 54; refine (coderOf_4 _).mono ?_; rintro e w' ⟨rfl, rfl⟩) | (go_at_call 139; refine (lsize_any _ _).mono ?_; rintro e w' ⟨rfl, hb⟩))
    go_ret
    exact ⟨rfl, by assumption⟩
  · rw [Cx.size_other _ _ h1 h2 h3 h4]
    go_enter Try.func34, Try.ntmps34
    go_wp2_with (go_at_call 54; refine (coderOf_no _ h1 h2 h3 h4 _).mono ?_; rintro e w' ⟨rfl, rfl⟩)
    go_ret
    exact ⟨rfl, Below.refl _ _⟩
end Go.Proofs.Ytbfbaknfeleddaa
