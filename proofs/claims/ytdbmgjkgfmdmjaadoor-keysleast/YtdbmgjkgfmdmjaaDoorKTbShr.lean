/- The table shared. -/
import Derived.Test.YtdbmgjkgfmdmjaaDoorKRw1
namespace Go.Proofs.YtdbmgjkgfmdmjaaDoor
open Go.RowKit
def tShr : List Rw := [
  ⟨⟨18, 0, 0, 0⟩, [112]⟩, ⟨⟨19, 0, 0, 0⟩, [80]⟩, ⟨⟨20, 0, 0, 0⟩, [74]⟩, ⟨⟨21, 0, 0, 0⟩, [103, 74]⟩, ⟨⟨26, 0, 0, 0⟩, [118]⟩, ⟨⟨27, 0, 0, 0⟩, [86]⟩, ⟨⟨31, 0, 0, 0⟩, [58]⟩, ⟨⟨38, 0, 0, 0⟩, [122, 116]⟩, ⟨⟨39, 0, 0, 0⟩, [122, 122]⟩, ⟨⟨40, 0, 0, 0⟩, [122, 98]⟩, ⟨⟨32, 0, 0, 0⟩, [6]⟩, ⟨⟨33, 0, 0, 0⟩, [2]⟩, ⟨⟨34, 0, 0, 0⟩, [4]⟩, ⟨⟨35, 0, 0, 0⟩, [21]⟩, ⟨⟨36, 0, 0, 0⟩, [5]⟩, ⟨⟨37, 0, 0, 0⟩, [25]⟩, ⟨⟨16, 0, 0, 1⟩, [114]⟩, ⟨⟨28, 0, 0, 1⟩, [113]⟩, ⟨⟨29, 0, 0, 1⟩, [64]⟩, ⟨⟨30, 0, 0, 1⟩, [109]⟩]
set_option maxRecDepth 100000 in
set_option maxHeartbeats 4000000 in
theorem shared_any (w : World) : Calls Tryd.prog 67 #[] w fun e w' => ∃ v xs, e = .returned v ∧ OwnW w' w.heap.size v xs ∧ Hid (xs.map Prod.fst = tShr) ∧ Below w.heap.size w w' := by
  have HA := hidIt (AccB.nil w)
  have HB := hidIt (Below.refl w.heap.size w)
  go_enter Tryd.func67, Tryd.ntmps67
  go_wp2_with (first | (go_at_call 83; refine (moves_any _ _ _ _ _).mono ?_; rintro e y ⟨rfl, hb⟩; (try dsimp only); replace HA := hidIt (HA.out.push hb); replace HB := hidIt (ext_trans (ext_alloc HB.out _) hb); clear hb) | (go_at_call 85; refine (does_any _ _ _ _ _).mono ?_; rintro e y ⟨rfl, hb⟩; (try dsimp only); replace HA := hidIt (HA.out.push hb); replace HB := hidIt (ext_trans (ext_alloc HB.out _) hb); clear hb) | (go_at_call 86; refine (takes_any _ _ _ _ _ _).mono ?_; rintro e y ⟨rfl, hb⟩; (try dsimp only); replace HA := hidIt (HA.out.push hb); replace HB := hidIt (ext_trans (ext_alloc HB.out _) hb); clear hb) | (go_at_call 84; refine (before_any _ _ _ _ _ _ _ _ _).mono ?_; rintro e y ⟨rfl, hb⟩; (try dsimp only); replace HA := hidIt (HA.out.ext hb); replace HB := hidIt (ext_trans HB.out hb); clear hb))
  go_ret
  refine ⟨_, [(⟨⟨18, 0, 0, 0⟩, [112]⟩, _),
      (⟨⟨19, 0, 0, 0⟩, [80]⟩, _),
      (⟨⟨20, 0, 0, 0⟩, [74]⟩, _),
      (⟨⟨21, 0, 0, 0⟩, [103, 74]⟩, _),
      (⟨⟨26, 0, 0, 0⟩, [118]⟩, _),
      (⟨⟨27, 0, 0, 0⟩, [86]⟩, _),
      (⟨⟨31, 0, 0, 0⟩, [58]⟩, _),
      (⟨⟨38, 0, 0, 0⟩, [122, 116]⟩, _),
      (⟨⟨39, 0, 0, 0⟩, [122, 122]⟩, _),
      (⟨⟨40, 0, 0, 0⟩, [122, 98]⟩, _),
      (⟨⟨32, 0, 0, 0⟩, [6]⟩, _),
      (⟨⟨33, 0, 0, 0⟩, [2]⟩, _),
      (⟨⟨34, 0, 0, 0⟩, [4]⟩, _),
      (⟨⟨35, 0, 0, 0⟩, [21]⟩, _),
      (⟨⟨36, 0, 0, 0⟩, [5]⟩, _),
      (⟨⟨37, 0, 0, 0⟩, [25]⟩, _),
      (⟨⟨16, 0, 0, 1⟩, [114]⟩, _),
      (⟨⟨28, 0, 0, 1⟩, [113]⟩, _),
      (⟨⟨29, 0, 0, 1⟩, [64]⟩, _),
      (⟨⟨30, 0, 0, 1⟩, [109]⟩, _)], rfl, (OwnW.lit _ rfl (acc_of HA.out _ (by simp) rfl) (by simp)).le HB.out.size, rfl, ext_alloc HB.out _⟩
end Go.Proofs.YtdbmgjkgfmdmjaaDoor
