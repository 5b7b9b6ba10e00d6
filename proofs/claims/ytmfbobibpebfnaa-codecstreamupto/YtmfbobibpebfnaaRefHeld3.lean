/- The document's Held: the other encodings. -/
import Derived.Test.YtmfbobibpebfnaaRefHeld2
namespace Go.Proofs.Ytmfbobibpebfnaa
open Go.RowKit

set_option maxRecDepth 100000 in
set_option maxHeartbeats 4000000 in
theorem rHeld4_any (enc : Int) (h1 : enc ≠ 1) (h2 : enc ≠ 2) (h3 : enc ≠ 3) (v : Value) (zs : List Int) (g : Nat) (w : World) (c0 : w.cell? ⟨g, 0, none⟩ = some (.int .i64 enc)) (c1 : w.cell? ⟨g, 1, none⟩ = some v) (h : Rd .u8 w v zs) :
    Calls Try.prog 21 #[.pointer (some ⟨g, 0, none⟩)] w fun e w' => e = .returned (.int .i64 (Cx.fd enc zs).2.length) ∧ Below w.heap.size w w' := by
  have HE : Hid ((Cx.fd enc zs).2.length = 0) := Cx.held_else enc h1 h2 h3 _ zs (Nat.le_refl _)
  obtain ⟨ao, cap, rfl, _⟩ := id h
  have q1 : (enc == 1) = false := by simp [h1]
  have q2 : (enc == 2) = false := by simp [h2]
  have q3 : (enc == 3) = false := by simp [h3]
  clear h h1 h2 h3
  go_enter Try.func21, Try.ntmps21
  go_wp2_with fail
  go_ret
  exact ⟨ret_int (by rw [HE.out]; rfl), Below.refl _ _⟩
end Go.Proofs.Ytmfbobibpebfnaa
