/- The table operators. -/
import Derived.Test.YtdbmgjkgfmdmjaaDoorKRw1
namespace Go.Proofs.YtdbmgjkgfmdmjaaDoor
open Go.RowKit
def tOps : List Rw := [
  ⟨⟨2, 0, 0, 2⟩, [100]⟩, ⟨⟨3, 0, 0, 2⟩, [99]⟩, ⟨⟨4, 0, 0, 2⟩, [121]⟩, ⟨⟨8, 0, 0, 2⟩, [62]⟩, ⟨⟨9, 0, 0, 2⟩, [60]⟩, ⟨⟨5, 0, 0, 2⟩, [103, 85]⟩, ⟨⟨6, 0, 0, 2⟩, [103, 117]⟩, ⟨⟨7, 0, 0, 2⟩, [103, 126]⟩]
set_option maxRecDepth 100000 in
set_option maxHeartbeats 4000000 in
theorem operators_any (w : World) : Calls Tryd.prog 65 #[] w fun e w' => ∃ v xs, e = .returned v ∧ OwnW w' w.heap.size v xs ∧ Hid (xs.map Prod.fst = tOps) ∧ Below w.heap.size w w' := by
  have HA := hidIt (AccB.nil w)
  have HB := hidIt (Below.refl w.heap.size w)
  go_enter Tryd.func65, Tryd.ntmps65
  go_wp2_with (first | (go_at_call 83; refine (moves_any _ _ _ _ _).mono ?_; rintro e y ⟨rfl, hb⟩; (try dsimp only); replace HA := hidIt (HA.out.push hb); replace HB := hidIt (ext_trans (ext_alloc HB.out _) hb); clear hb) | (go_at_call 85; refine (does_any _ _ _ _ _).mono ?_; rintro e y ⟨rfl, hb⟩; (try dsimp only); replace HA := hidIt (HA.out.push hb); replace HB := hidIt (ext_trans (ext_alloc HB.out _) hb); clear hb) | (go_at_call 86; refine (takes_any _ _ _ _ _ _).mono ?_; rintro e y ⟨rfl, hb⟩; (try dsimp only); replace HA := hidIt (HA.out.push hb); replace HB := hidIt (ext_trans (ext_alloc HB.out _) hb); clear hb) | (go_at_call 84; refine (before_any _ _ _ _ _ _ _ _ _).mono ?_; rintro e y ⟨rfl, hb⟩; (try dsimp only); replace HA := hidIt (HA.out.ext hb); replace HB := hidIt (ext_trans HB.out hb); clear hb))
  go_ret
  refine ⟨_, [(⟨⟨2, 0, 0, 2⟩, [100]⟩, _),
      (⟨⟨3, 0, 0, 2⟩, [99]⟩, _),
      (⟨⟨4, 0, 0, 2⟩, [121]⟩, _),
      (⟨⟨8, 0, 0, 2⟩, [62]⟩, _),
      (⟨⟨9, 0, 0, 2⟩, [60]⟩, _),
      (⟨⟨5, 0, 0, 2⟩, [103, 85]⟩, _),
      (⟨⟨6, 0, 0, 2⟩, [103, 117]⟩, _),
      (⟨⟨7, 0, 0, 2⟩, [103, 126]⟩, _)], rfl, (OwnW.lit _ rfl (acc_of HA.out _ (by simp) rfl) (by simp)).le HB.out.size, rfl, ext_alloc HB.out _⟩
end Go.Proofs.YtdbmgjkgfmdmjaaDoor
