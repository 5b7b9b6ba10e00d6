/- The document's hexed. -/
import Derived.Test.YtipnifenahhkoaaDoorFHx2
namespace Go.Proofs.YtipnifenahhkoaaDoor
open Go.RowKit

set_option maxRecDepth 100000 in
set_option maxHeartbeats 8000000 in
theorem rhexed_any {w : World} {sv : Value} {src : List Int} {p : Nat} (hr : Rd .i64 w sv src) (h64 : In64 src) (hp : p ≤ 1000) :
    Calls Tryd.prog 17 #[sv, .int .i64 p] w fun e w' => e = .returned (.int .i64 ((hx2 src p).getD (-1))) ∧ Below w.heap.size w w' := by
  obtain ⟨sa, sc, rfl, _⟩ := id hr
  have HX : Hid (∀ a, Calls Tryd.prog 23 #[.pointer (some ⟨w.heap.size, 0, none⟩), .int .i64 2, .int .i64 255] (w.alloc (.cells #[a, .slice sa src.length sc, .int .i64 p, .bool false] 57)) fun e w' => e = .returned (.int .i64 ((hx2 src p).getD (-1))) ∧ Below w.heap.size w w') := fun a => by
    have b1 : Below w.heap.size w (w.alloc (.cells #[a, .slice sa src.length sc, .int .i64 p, .bool false] 57)) := ext_alloc (Below.refl _ _) _
    refine (rhex_any (g := w.heap.size) ⟨a, heap_alloc_new _ _⟩ (fun w' hb => hr.ext (b1.trans hb)) h64 hp).mono ?_
    rintro e w' ⟨rfl, hb⟩
    exact ⟨rfl, b1.trans hb⟩
  clear hr h64 hp
  go_enter Tryd.func17, Tryd.ntmps17
  go_wp2_with (go_at_call 23; refine (HX.out _).mono ?_; rintro e w1 ⟨rfl, b1⟩; (try dsimp only); have B1 := hidIt b1; clear b1)
  go_ret
  exact ⟨rfl, B1.out⟩
end Go.Proofs.YtipnifenahhkoaaDoor
