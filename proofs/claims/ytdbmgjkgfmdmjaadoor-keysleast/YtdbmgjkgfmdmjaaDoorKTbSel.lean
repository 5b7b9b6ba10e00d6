/- The table onSelection. -/
import Derived.Test.YtdbmgjkgfmdmjaaDoorKRw1
namespace Go.Proofs.YtdbmgjkgfmdmjaaDoor
open Go.RowKit
def tSel : List Rw := [
  ⟨⟨2, 0, 0, 0⟩, [100]⟩, ⟨⟨2, 0, 0, 0⟩, [120]⟩, ⟨⟨3, 0, 0, 0⟩, [99]⟩, ⟨⟨3, 0, 0, 0⟩, [115]⟩, ⟨⟨4, 0, 0, 0⟩, [121]⟩, ⟨⟨8, 0, 0, 0⟩, [62]⟩, ⟨⟨9, 0, 0, 0⟩, [60]⟩, ⟨⟨5, 0, 0, 0⟩, [85]⟩, ⟨⟨5, 0, 0, 0⟩, [103, 85]⟩, ⟨⟨6, 0, 0, 0⟩, [117]⟩, ⟨⟨6, 0, 0, 0⟩, [103, 117]⟩, ⟨⟨7, 0, 0, 0⟩, [126]⟩, ⟨⟨7, 0, 0, 0⟩, [103, 126]⟩, ⟨⟨45, 0, 0, 0⟩, [111]⟩]
set_option maxRecDepth 100000 in
set_option maxHeartbeats 4000000 in
theorem onSelection_any (w : World) : Calls Tryd.prog 69 #[] w fun e w' => ∃ v xs, e = .returned v ∧ OwnW w' w.heap.size v xs ∧ Hid (xs.map Prod.fst = tSel) ∧ Below w.heap.size w w' := by
  have HA := hidIt (AccB.nil w)
  have HB := hidIt (Below.refl w.heap.size w)
  go_enter Tryd.func69, Tryd.ntmps69
  go_wp2_with (first | (go_at_call 83; refine (moves_any _ _ _ _ _).mono ?_; rintro e y ⟨rfl, hb⟩; (try dsimp only); replace HA := hidIt (HA.out.push hb); replace HB := hidIt (ext_trans (ext_alloc HB.out _) hb); clear hb) | (go_at_call 85; refine (does_any _ _ _ _ _).mono ?_; rintro e y ⟨rfl, hb⟩; (try dsimp only); replace HA := hidIt (HA.out.push hb); replace HB := hidIt (ext_trans (ext_alloc HB.out _) hb); clear hb) | (go_at_call 86; refine (takes_any _ _ _ _ _ _).mono ?_; rintro e y ⟨rfl, hb⟩; (try dsimp only); replace HA := hidIt (HA.out.push hb); replace HB := hidIt (ext_trans (ext_alloc HB.out _) hb); clear hb) | (go_at_call 84; refine (before_any _ _ _ _ _ _ _ _ _).mono ?_; rintro e y ⟨rfl, hb⟩; (try dsimp only); replace HA := hidIt (HA.out.ext hb); replace HB := hidIt (ext_trans HB.out hb); clear hb))
  go_ret
  refine ⟨_, [(⟨⟨2, 0, 0, 0⟩, [100]⟩, _),
      (⟨⟨2, 0, 0, 0⟩, [120]⟩, _),
      (⟨⟨3, 0, 0, 0⟩, [99]⟩, _),
      (⟨⟨3, 0, 0, 0⟩, [115]⟩, _),
      (⟨⟨4, 0, 0, 0⟩, [121]⟩, _),
      (⟨⟨8, 0, 0, 0⟩, [62]⟩, _),
      (⟨⟨9, 0, 0, 0⟩, [60]⟩, _),
      (⟨⟨5, 0, 0, 0⟩, [85]⟩, _),
      (⟨⟨5, 0, 0, 0⟩, [103, 85]⟩, _),
      (⟨⟨6, 0, 0, 0⟩, [117]⟩, _),
      (⟨⟨6, 0, 0, 0⟩, [103, 117]⟩, _),
      (⟨⟨7, 0, 0, 0⟩, [126]⟩, _),
      (⟨⟨7, 0, 0, 0⟩, [103, 126]⟩, _),
      (⟨⟨45, 0, 0, 0⟩, [111]⟩, _)], rfl, (OwnW.lit _ rfl (acc_of HA.out _ (by simp) rfl) (by simp)).le HB.out.size, rfl, ext_alloc HB.out _⟩
end Go.Proofs.YtdbmgjkgfmdmjaaDoor
