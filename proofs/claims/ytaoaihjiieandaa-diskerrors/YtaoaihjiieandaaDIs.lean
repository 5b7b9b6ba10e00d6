/- errors.Is of a Fail (or of nil) and of an Errno. -/
import Derived.Test.YtaoaihjiieandaaDFile2
import Derived.WalkKit
import Derived.LaidEql
import Derived.Stop.Asserts
import Derived.RowKitTokens
import Derived.Lib.IfaceEq
namespace Go.Proofs.Ytaoaihjiieandaa
open Go.RowKit Go.Extern.Stop Go.Stop Go.Extern

theorem is_typeOf (v : Value) (w : World) : (Extern.ReflectliteType.typeOf #[.iface 77 v]).run Try.prog w = .ok (.iface 153 (.agg #[.pointer (some ⟨0, 77, none⟩)])) w := by kernel_rfl
theorem is_comparable (w : World) : ((Extern.ReflectliteType.method fun t => do Go.Extern.Rtype.noPackHeld "Comparable" t; pure (.bool (← typeInfo t).comparable)) #[.agg #[.pointer (some ⟨0, 77, none⟩)]]).run Try.prog w = .ok (.bool true) w := by kernel_rfl
theorem is_methodC (v : Value) (w : World) : (Go.method 326 153 v "Comparable").run Try.prog w = .ok (144, v) w := by kernel_rfl
theorem is_comp : (Try.prog.info? 77).map (·.comparable) = some true := by kernel_rfl
theorem no_is_E (v : Value) (xT : TypeId) (w : World) : (Instr.typeAssert (.iface 77 v) xT 155 true).run Try.prog w = .ok (.tuple #[.nilIface, .bool false]) w := run_typeAssert_lacksB Try.underlying155 (by kernel_rfl) (by kernel_rfl) v xT w
theorem no_unwrap_E (v : Value) (xT : TypeId) (w : World) : (Instr.typeAssert (.iface 77 v) xT 158 true).run Try.prog w = .ok (.tuple #[.nilIface, .bool false]) w := run_typeAssert_lacksB Try.underlying158 (by kernel_rfl) (by kernel_rfl) v xT w
theorem no_unwraps_E (v : Value) (xT : TypeId) (w : World) : (Instr.typeAssert (.iface 77 v) xT 159 true).run Try.prog w = .ok (.tuple #[.nilIface, .bool false]) w := run_typeAssert_lacksB Try.underlying159 (by kernel_rfl) (by kernel_rfl) v xT w
theorem no_is_F (v : Value) (xT : TypeId) (w : World) : (Instr.typeAssert (.iface 131 v) xT 155 true).run Try.prog w = .ok (.tuple #[.nilIface, .bool false]) w := run_typeAssert_lacksB Try.underlying155 (by kernel_rfl) (by kernel_rfl) v xT w
theorem has_unwrap_F (v : Value) (xT : TypeId) (w : World) : (Instr.typeAssert (.iface 131 v) xT 158 true).run Try.prog w = .ok (.tuple #[.iface 131 v, .bool true]) w := run_typeAssert_hasB Try.underlying158 (by kernel_rfl) v xT w
theorem method_unwrap (v : Value) (w : World) : (Go.method 326 131 v "Unwrap").run Try.prog w = .ok (140, v) w := by kernel_rfl
set_option maxRecDepth 100000 in
set_option maxHeartbeats 2000000 in
/-- errors.Is(nil, k). -/
theorem is_nil (k : Int) (w : World) :
    Calls Try.prog 32 #[.nilIface, .iface 77 (.int .i64 k)] w fun e w' => e = .returned (.bool false) ∧ w' = w := by
  have hn := run_eql_iface_nil_left (P := Try.prog) w 77 (.int .i64 k) Try.underlying31
  go_enter Try.func32, Try.ntmps32
  go_wp2_with fail
  go_ret
  exact ⟨rfl, rfl⟩
set_option maxRecDepth 100000 in
theorem unwrap_any (q : Nat) (e : Int) (w : World) (h1 : w.cell? ⟨q, 3, none⟩ = some (.iface 77 (.int .i64 e))) :
    Calls Try.prog 140 #[.pointer (some ⟨q, 0, none⟩)] w fun x w' => x = .returned (.iface 77 (.int .i64 e)) ∧ w' = w := by
  go_enter Try.func140, Try.ntmps140
  go_wp2_with fail
  go_ret
  exact ⟨rfl, rfl⟩
set_option maxRecDepth 100000 in
set_option maxHeartbeats 4000000 in
theorem is_in (q : Nat) (e k : Int) (w : World) (h1 : w.cell? ⟨q, 3, none⟩ = some (.iface 77 (.int .i64 e))) :
    Calls Try.prog 70 #[.iface 131 (.pointer (some ⟨q, 0, none⟩)), .iface 77 (.int .i64 k), .bool true] w fun x w' => x = .returned (.bool (e == k)) ∧ w' = w := by
  have UW := hidIt (unwrap_any q e w h1)
  have nE := no_is_E
  have uE := no_unwrap_E
  have vE := no_unwraps_E
  have nW := no_is_F
  have uW := has_unwrap_F
  have mU := method_unwrap
  have heq := Lib.run_eql_iface_int (P := Try.prog) w (k := .i64) e k Try.underlying31 is_comp Try.underlying77
  have hty := run_eql_iface_types (P := Try.prog) 131 77 (.pointer (some ⟨q, 0, none⟩)) (.int .i64 k) Try.underlying31 (by decide) w
  cases hek : e == k with
  | true =>
    rw [hek] at heq
    go_enter Try.func70, Try.ntmps70
    go_wp2_with fail
    refine wp_loop_rounds 2 ?_
    rw [rounds_succ]
    go_wp2_with (go_at_call 140; refine UW.out.mono ?_; rintro x w' ⟨rfl, rfl⟩)
    rw [rounds_succ]
    go_wp2_with fail
    go_ret
    exact ⟨rfl, rfl⟩
  | false =>
    rw [hek] at heq
    go_enter Try.func70, Try.ntmps70
    go_wp2_with fail
    refine wp_loop_rounds 2 ?_
    rw [rounds_succ]
    go_wp2_with (go_at_call 140; refine UW.out.mono ?_; rintro x w' ⟨rfl, rfl⟩)
    rw [rounds_succ]
    go_wp2_with fail
    go_ret
    exact ⟨rfl, rfl⟩
set_option maxRecDepth 100000 in
set_option maxHeartbeats 4000000 in
/-- errors.Is(f, k), f a Fail that wraps e. -/
theorem is_fail (q : Nat) (e k : Int) (w : World) (h1 : w.cell? ⟨q, 3, none⟩ = some (.iface 77 (.int .i64 e))) :
    Calls Try.prog 32 #[.iface 131 (.pointer (some ⟨q, 0, none⟩)), .iface 77 (.int .i64 k)] w fun x w' => x = .returned (.bool (e == k)) ∧ w' = w := by
  have IN := hidIt (is_in q e k w h1)
  have h8 := @run_callFunc_extern Try.prog 69 _ Extern.ReflectliteType.typeOf Try.func69 (by kernel_rfl) (by kernel_rfl) (by kernel_rfl) (by kernel_rfl)
  have h32 := @run_callFunc_extern Try.prog 144 _ (Extern.ReflectliteType.method fun t => do Go.Extern.Rtype.noPackHeld "Comparable" t; pure (.bool (← typeInfo t).comparable)) Try.func144 (by kernel_rfl) (by kernel_rfl) (by kernel_rfl) (by kernel_rfl)
  have hC := fun w => h32 #[.agg #[.pointer (some ⟨0, 77, none⟩)]] w
  simp only [is_comparable] at hC
  clear h32 h1
  have tT := is_typeOf
  have mR := is_methodC
  go_enter Try.func32, Try.ntmps32
  go_wp2_with (go_at_call 70; refine IN.out.mono ?_; rintro x w' ⟨rfl, rfl⟩)
  go_ret
  exact ⟨rfl, rfl⟩
end Go.Proofs.Ytaoaihjiieandaa
