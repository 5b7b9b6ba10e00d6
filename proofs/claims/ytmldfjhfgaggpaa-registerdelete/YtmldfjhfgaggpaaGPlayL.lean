/- RegisterYank, RegisterDelete, RegisterSet: the walks. -/
import Derived.Test.YtmldfjhfgaggpaaGPlay
namespace Go.Proofs.Ytmldfjhfgaggpaa
open Go.RowKit

set_option maxRecDepth 100000 in
theorem yankLaw_any (v : Value) (xs : List Sv) (w : World) (h : RdT w v xs) : Calls Try.prog 9 #[v] w fun e w' => e = .returned (.bool true) ∧ Below w.heap.size w w' := by
  have PL := hidIt (plays_any v xs 1 w h)
  obtain ⟨ao, cap, rfl, _⟩ := h
  go_enter Try.func9, Try.ntmps9
  go_wp2_with (go_at_call 30; refine PL.out.mono ?_; rintro e w2 ⟨rfl, hb2⟩; have HB2 := hidIt hb2; clear hb2; (try dsimp only))
  go_ret
  exact ⟨rfl, HB2.out⟩
set_option maxRecDepth 100000 in
theorem deleteLaw_any (v : Value) (xs : List Sv) (w : World) (h : RdT w v xs) : Calls Try.prog 10 #[v] w fun e w' => e = .returned (.bool true) ∧ Below w.heap.size w w' := by
  have PL := hidIt (plays_any v xs 2 w h)
  obtain ⟨ao, cap, rfl, _⟩ := h
  go_enter Try.func10, Try.ntmps10
  go_wp2_with (go_at_call 30; refine PL.out.mono ?_; rintro e w2 ⟨rfl, hb2⟩; have HB2 := hidIt hb2; clear hb2; (try dsimp only))
  go_ret
  exact ⟨rfl, HB2.out⟩
set_option maxRecDepth 100000 in
theorem setLaw_any (v : Value) (xs : List Sv) (w : World) (h : RdT w v xs) : Calls Try.prog 11 #[v] w fun e w' => e = .returned (.bool true) ∧ Below w.heap.size w w' := by
  have PL := hidIt (plays_any v xs 3 w h)
  obtain ⟨ao, cap, rfl, _⟩ := h
  go_enter Try.func11, Try.ntmps11
  go_wp2_with (go_at_call 30; refine PL.out.mono ?_; rintro e w2 ⟨rfl, hb2⟩; have HB2 := hidIt hb2; clear hb2; (try dsimp only))
  go_ret
  exact ⟨rfl, HB2.out⟩
end Go.Proofs.Ytmldfjhfgaggpaa
