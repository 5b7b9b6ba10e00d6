/- ViewShares: the walk. -/
import Derived.Test.YtcmglbgnpiociabVUpto
import Derived.Test.YtcmglbgnpiociabVWholeS
namespace Go.Proofs.Ytcmglbgnpiociab
open Go.RowKit

theorem told36 : Told 3 6 := fun q w h1 h2 _ hx => by
  have hx' := flt_of hx
  refine asked_whole q w (.inl (by omega)) fun w' => ?_
  rcases (show q.k = 3 ∨ q.k = 4 ∨ q.k = 5 ∨ q.k = 6 by omega) with h | h | h | h
  · exact whole3 q w' h
  · exact whole4 q w' h hx'
  · exact whole5 q w' h
  · exact whole6 q w' h hx'

set_option maxRecDepth 100000 in
theorem shares_any (v : Value) (n : Nat) (w : World) (h : RdA w v n) : Calls Try.prog 4 #[v] w fun e w' => e = .returned (.bool true) ∧ Below w.heap.size w w' := by
  have UP := hidIt (upTo_any 3 6 told36 v n w h)
  obtain ⟨ao, cap, rfl, _⟩ := h
  go_enter Try.func4, Try.ntmps4
  go_wp2_with (go_at_call 7; refine UP.out.mono ?_; rintro e w1 ⟨rfl, hb1⟩)
  go_ret
  exact ⟨rfl, hb1⟩
end Go.Proofs.Ytcmglbgnpiociab
