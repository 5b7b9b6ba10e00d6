/- The coders behind the interface: which method is whose; the coder of an encoding; sizes. -/
import Derived.Test.YtmfbobibpebfnaaRows
import Derived.Test.YtmfbobibpebfnaaSpec
import Derived.WalkKit
import Derived.WalkSpells
import Derived.WalkLawsBesides
import Derived.StillTactics
import Derived.Deep.QuietTactic
import Derived.BigQuiet
import Derived.Outline
namespace Go.Proofs.Ytmfbobibpebfnaa
open Go.RowKit

/-- The coder of an encoding, as an interface value. -/
def Cx.cv (enc : Int) : Value :=
  if enc = 1 then .iface 64 (.agg #[]) else if enc = 2 then .iface 66 (.agg #[.int .i64 0])
  else if enc = 3 then .iface 66 (.agg #[.int .i64 1]) else if enc = 4 then .iface 67 (.agg #[]) else .nilIface
def Cx.known (enc : Int) : Bool := decide (1 ≤ enc) && decide (enc ≤ 4)

theorem m_size1 (w : World) : (method 206 64 (.agg #[]) "copyist/codec.size").run Try.prog w = .ok (56, .agg #[]) w := by kernel_rfl
theorem m_size2 (k : Int) (w : World) : (method 206 66 (.agg #[.int .i64 k]) "copyist/codec.size").run Try.prog w = .ok (66, .agg #[.int .i64 k]) w := by kernel_rfl
theorem m_size4 (w : World) : (method 206 67 (.agg #[]) "copyist/codec.size").run Try.prog w = .ok (77, .agg #[]) w := by kernel_rfl

theorem ret_int {k : IntKind} {a b : Int} (h : a = b) : Ending.returned (.int k a) = .returned (.int k b) := by rw [h]
theorem ret_bool {a b : Bool} (h : a = b) : Ending.returned (.bool a) = .returned (.bool b) := by rw [h]

theorem coderOf_any (enc : Int) (w : World) : Calls Try.prog 11 #[.int .i64 enc] w fun e w' => e = .returned (.tuple #[Cx.cv enc, .bool (Cx.known enc)]) ∧ w' = w := by
  by_cases h1 : enc = 1
  · subst h1; go_enter Try.func11, Try.ntmps11; go_wp2; go_ret2; exact ⟨rfl, rfl⟩
  by_cases h2 : enc = 2
  · subst h2; go_enter Try.func11, Try.ntmps11; go_wp2; go_ret2; exact ⟨rfl, rfl⟩
  by_cases h3 : enc = 3
  · subst h3; go_enter Try.func11, Try.ntmps11; go_wp2; go_ret2; exact ⟨rfl, rfl⟩
  by_cases h4 : enc = 4
  · subst h4; go_enter Try.func11, Try.ntmps11; go_wp2; go_ret2; exact ⟨rfl, rfl⟩
  · have e1 : Cx.cv enc = .nilIface := by simp [Cx.cv, h1, h2, h3, h4]
    have e2 : Cx.known enc = false := by simp [Cx.known]; omega
    rw [e1, e2]
    have b1 : (enc == 1) = false := by simp [h1]
    have b2 : (enc == 2) = false := by simp [h2]
    have b3 : (enc == 3) = false := by simp [h3]
    have b4 : (enc == 4) = false := by simp [h4]
    clear h1 h2 h3 h4 e1 e2
    go_enter Try.func11, Try.ntmps11
    go_wp2
    go_ret2
    exact ⟨rfl, rfl⟩

theorem coderOf_1 (w : World) : Calls Try.prog 11 #[.int .i64 1] w fun e w' => e = .returned (.tuple #[.iface 64 (.agg #[]), .bool true]) ∧ w' = w := coderOf_any 1 w
theorem coderOf_2 (w : World) : Calls Try.prog 11 #[.int .i64 2] w fun e w' => e = .returned (.tuple #[.iface 66 (.agg #[.int .i64 0]), .bool true]) ∧ w' = w := coderOf_any 2 w
theorem coderOf_3 (w : World) : Calls Try.prog 11 #[.int .i64 3] w fun e w' => e = .returned (.tuple #[.iface 66 (.agg #[.int .i64 1]), .bool true]) ∧ w' = w := coderOf_any 3 w
theorem coderOf_4 (w : World) : Calls Try.prog 11 #[.int .i64 4] w fun e w' => e = .returned (.tuple #[.iface 67 (.agg #[]), .bool true]) ∧ w' = w := coderOf_any 4 w
theorem coderOf_no (enc : Int) (h1 : enc ≠ 1) (h2 : enc ≠ 2) (h3 : enc ≠ 3) (h4 : enc ≠ 4) (w : World) : Calls Try.prog 11 #[.int .i64 enc] w fun e w' => e = .returned (.tuple #[.nilIface, .bool false]) ∧ w' = w := by
  have e1 : Cx.cv enc = .nilIface := by simp [Cx.cv, h1, h2, h3, h4]
  have e2 : Cx.known enc = false := by simp [Cx.known]; omega
  have := coderOf_any enc w
  rwa [e1, e2] at this

theorem Cx.size_other (enc a : Int) (h1 : enc ≠ 1) (h2 : enc ≠ 2) (h3 : enc ≠ 3) (h4 : enc ≠ 4) : Cx.size enc a = 0 := by
  simp [Cx.size, Cx.fits, h1, h2, h3, h4]
end Go.Proofs.Ytmfbobibpebfnaa
