/- The table edits. -/
import Derived.Test.YtdbmgjkgfmdmjaaDoorKRw1
namespace Go.Proofs.YtdbmgjkgfmdmjaaDoor
open Go.RowKit
def tEdt : List Rw := [
  ⟨⟨2, 2, 0, 0⟩, [120]⟩, ⟨⟨2, 1, 0, 0⟩, [88]⟩, ⟨⟨2, 5, 0, 0⟩, [68]⟩, ⟨⟨3, 2, 0, 0⟩, [115]⟩, ⟨⟨3, 60, 0, 0⟩, [83]⟩, ⟨⟨3, 5, 0, 0⟩, [67]⟩, ⟨⟨4, 60, 0, 0⟩, [89]⟩, ⟨⟨10, 0, 0, 0⟩, [105]⟩, ⟨⟨12, 0, 0, 0⟩, [73]⟩, ⟨⟨11, 0, 0, 0⟩, [97]⟩, ⟨⟨13, 0, 0, 0⟩, [65]⟩, ⟨⟨14, 0, 0, 0⟩, [111]⟩, ⟨⟨15, 0, 0, 0⟩, [79]⟩, ⟨⟨17, 0, 0, 0⟩, [82]⟩, ⟨⟨22, 0, 0, 0⟩, [126]⟩, ⟨⟨23, 0, 0, 0⟩, [117]⟩, ⟨⟨24, 0, 0, 0⟩, [18]⟩, ⟨⟨25, 0, 0, 0⟩, [46]⟩, ⟨⟨43, 0, 0, 0⟩, [38]⟩, ⟨⟨44, 0, 0, 0⟩, [103, 118]⟩, ⟨⟨41, 0, 0, 0⟩, [90, 90]⟩, ⟨⟨42, 0, 0, 0⟩, [90, 81]⟩]
set_option maxRecDepth 100000 in
set_option maxHeartbeats 4000000 in
theorem edits_any (w : World) : Calls Tryd.prog 66 #[] w fun e w' => ∃ v xs, e = .returned v ∧ OwnW w' w.heap.size v xs ∧ Hid (xs.map Prod.fst = tEdt) ∧ Below w.heap.size w w' := by
  have HA := hidIt (AccB.nil w)
  have HB := hidIt (Below.refl w.heap.size w)
  go_enter Tryd.func66, Tryd.ntmps66
  go_wp2_with (first | (go_at_call 83; refine (moves_any _ _ _ _ _).mono ?_; rintro e y ⟨rfl, hb⟩; (try dsimp only); replace HA := hidIt (HA.out.push hb); replace HB := hidIt (ext_trans (ext_alloc HB.out _) hb); clear hb) | (go_at_call 85; refine (does_any _ _ _ _ _).mono ?_; rintro e y ⟨rfl, hb⟩; (try dsimp only); replace HA := hidIt (HA.out.push hb); replace HB := hidIt (ext_trans (ext_alloc HB.out _) hb); clear hb) | (go_at_call 86; refine (takes_any _ _ _ _ _ _).mono ?_; rintro e y ⟨rfl, hb⟩; (try dsimp only); replace HA := hidIt (HA.out.push hb); replace HB := hidIt (ext_trans (ext_alloc HB.out _) hb); clear hb) | (go_at_call 84; refine (before_any _ _ _ _ _ _ _ _ _).mono ?_; rintro e y ⟨rfl, hb⟩; (try dsimp only); replace HA := hidIt (HA.out.ext hb); replace HB := hidIt (ext_trans HB.out hb); clear hb))
  go_ret
  refine ⟨_, [(⟨⟨2, 2, 0, 0⟩, [120]⟩, _),
      (⟨⟨2, 1, 0, 0⟩, [88]⟩, _),
      (⟨⟨2, 5, 0, 0⟩, [68]⟩, _),
      (⟨⟨3, 2, 0, 0⟩, [115]⟩, _),
      (⟨⟨3, 60, 0, 0⟩, [83]⟩, _),
      (⟨⟨3, 5, 0, 0⟩, [67]⟩, _),
      (⟨⟨4, 60, 0, 0⟩, [89]⟩, _),
      (⟨⟨10, 0, 0, 0⟩, [105]⟩, _),
      (⟨⟨12, 0, 0, 0⟩, [73]⟩, _),
      (⟨⟨11, 0, 0, 0⟩, [97]⟩, _),
      (⟨⟨13, 0, 0, 0⟩, [65]⟩, _),
      (⟨⟨14, 0, 0, 0⟩, [111]⟩, _),
      (⟨⟨15, 0, 0, 0⟩, [79]⟩, _),
      (⟨⟨17, 0, 0, 0⟩, [82]⟩, _),
      (⟨⟨22, 0, 0, 0⟩, [126]⟩, _),
      (⟨⟨23, 0, 0, 0⟩, [117]⟩, _),
      (⟨⟨24, 0, 0, 0⟩, [18]⟩, _),
      (⟨⟨25, 0, 0, 0⟩, [46]⟩, _),
      (⟨⟨43, 0, 0, 0⟩, [38]⟩, _),
      (⟨⟨44, 0, 0, 0⟩, [103, 118]⟩, _),
      (⟨⟨41, 0, 0, 0⟩, [90, 90]⟩, _),
      (⟨⟨42, 0, 0, 0⟩, [90, 81]⟩, _)], rfl, (OwnW.lit _ rfl (acc_of HA.out _ (by simp) rfl) (by simp)).le HB.out.size, rfl, ext_alloc HB.out _⟩
end Go.Proofs.YtdbmgjkgfmdmjaaDoor
