/- The document's reader of two hexadecimal digits: fail, hex, hexed. -/
import Derived.Test.YtipnifenahhkoaaDoorFTkn
namespace Go.Proofs.YtipnifenahhkoaaDoor
open Go.RowKit

theorem cells4 {w : World} {g : Nat} {a b c d : Value} {T : TypeId} {r : Nat × Nat} (hg : w.heap[g]? = some (.cells #[a, b, c, d] T r)) : w.cell? ⟨g, 0, none⟩ = some a ∧ w.cell? ⟨g, 1, none⟩ = some b ∧ w.cell? ⟨g, 2, none⟩ = some c ∧ w.cell? ⟨g, 3, none⟩ = some d := by
  refine ⟨?_, ?_, ?_, ?_⟩ <;> rw [cell_of_row w g _ _ _ _ hg] <;> rfl
/-- At block g lies the document's reader, at the place p. -/
def Dr (w : World) (g : Nat) (s : Value) (p : Nat) : Prop := ∃ a, w.heap[g]? = some (.cells #[a, s, .int .i64 p, .bool false] 57 (0, 0))
set_option maxRecDepth 100000 in
theorem rfail_any {w : World} {g : Nat} {s : Value} {p : Nat} (x : Int) (h : Dr w g s p) : Calls Tryd.prog 34 #[.pointer (some ⟨g, 0, none⟩), .int .i64 x] w fun e w' => e = .returned (.int .i64 0) ∧ Below g w w' := by
  obtain ⟨a, hq⟩ := h
  obtain ⟨c0, c1, c2, c3⟩ := cells4 hq
  have z2 := unfrozen hq 2
  have z3 := unfrozen hq 3
  go_enter Tryd.func34, Tryd.ntmps34
  go_wp2_with fail
  go_ret
  exact ⟨rfl, ((Below.refl g w).setCell (by show g ≤ g; omega) _).setCell (by show g ≤ g; omega) _⟩
/-- One round of hex. -/
theorem Dr.step {w : World} {g : Nat} {s : Value} {p : Nat} (h : Dr w g s p) (q : Nat) : Dr (w.setCell ⟨g, 2, none⟩ (.int .i64 q)) g s q ∧ Below g w (w.setCell ⟨g, 2, none⟩ (.int .i64 q)) ∧ w.frozen? ⟨g, 2, none⟩ = false := by
  obtain ⟨a, hq⟩ := h
  exact ⟨⟨a, (set1 hq 2 (.int .i64 q)).1⟩, (Below.refl g w).setCell (by show g ≤ g; omega) _, unfrozen hq 2⟩
end Go.Proofs.YtipnifenahhkoaaDoor
