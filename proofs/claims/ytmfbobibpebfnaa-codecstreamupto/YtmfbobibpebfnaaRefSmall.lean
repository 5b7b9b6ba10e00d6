/- The document's answer for one atom: Fits, Put, Size; then the law CodecSizes. -/
import Derived.Test.YtmfbobibpebfnaaBase
namespace Go.Proofs.Ytmfbobibpebfnaa
open Go.RowKit

theorem Scalar_any (a : Int) (w : World) : Calls Try.prog 33 #[.int .i64 a] w fun e w' => e = .returned (.bool (Cx.isSc a)) ∧ w' = w := by
  rcases (show a < 0 ∨ (0 ≤ a ∧ a < 55296) ∨ (55296 ≤ a ∧ a ≤ 57343) ∨ (57344 ≤ a ∧ a ≤ 1114111) ∨ 1114111 < a from by omega) with h | ⟨h, h'⟩ | ⟨h, h'⟩ | ⟨h, h'⟩ | h
  all_goals
    go_enter Try.func33, Try.ntmps33
    go_wp2
    all_goals
      go_ret
      refine ⟨ret_bool ?_, rfl⟩
      first | (simp [Cx.isSc]; done) | (rw [Bool.eq_iff_iff]; simp [Cx.isSc]; omega)

/-- A slice literal of bytes in a new block. -/
def Cx.Lit (w w' : World) (v : Value) (bs : List Int) : Prop :=
  ∃ g, v = .slice (some ⟨g, 0, none⟩) bs.length bs.length ∧ w.heap.size ≤ g ∧ w'.heap[g]? = some (.cells (bs.map (Value.int .u8)).toArray 5 (0, 0)) ∧ Below w.heap.size w w'

theorem Cx.lit_new (w : World) (bs : List Int) : Cx.Lit w (w.alloc (.cells (bs.map (Value.int .u8)).toArray 5)) (.slice (some ⟨w.heap.size, 0, none⟩) bs.length bs.length) bs :=
  ⟨w.heap.size, rfl, Nat.le_refl _, heap_alloc_new w _, (Below.refl _ _).alloc (Nat.le_refl _) _⟩

theorem eight_any (a : Int) (w : World) (h0 : 0 ≤ a) (hx : a ≤ 1114111) : Calls Try.prog 34 #[.int .i64 a] w fun e w' => ∃ v, e = .returned v ∧ Cx.Lit w w' v (Cx.put8 a) := by
  rcases (show a < 128 ∨ (128 ≤ a ∧ a < 2048) ∨ (2048 ≤ a ∧ a < 65536) ∨ 65536 ≤ a from by omega) with h | ⟨h, h'⟩ | ⟨h, h'⟩ | h
  · have e1 : Cx.put8 a = [a] := by unfold Cx.put8; rw [if_pos h]
    go_enter Try.func34, Try.ntmps34
    go_wp2
    go_ret
    exact ⟨_, rfl, by rw [e1]; exact Cx.lit_new w [a]⟩
  · have e1 : Cx.put8 a = [192 + a / 64, 128 + a % 64] := by unfold Cx.put8; rw [if_neg (by omega), if_pos h']
    go_enter Try.func34, Try.ntmps34
    go_wp2
    go_ret
    exact ⟨_, rfl, by rw [e1]; exact Cx.lit_new w [192 + a / 64, 128 + a % 64]⟩
  · have e1 : Cx.put8 a = [224 + a / 4096, 128 + a / 64 % 64, 128 + a % 64] := by unfold Cx.put8; rw [if_neg (by omega), if_neg (by omega), if_pos h']
    go_enter Try.func34, Try.ntmps34
    go_wp2
    go_ret
    exact ⟨_, rfl, by rw [e1]; exact Cx.lit_new w [224 + a / 4096, 128 + a / 64 % 64, 128 + a % 64]⟩
  · have e1 : Cx.put8 a = [240 + a / 262144, 128 + a / 4096 % 64, 128 + a / 64 % 64, 128 + a % 64] := by unfold Cx.put8; rw [if_neg (by omega), if_neg (by omega), if_neg (by omega)]
    go_enter Try.func34, Try.ntmps34
    go_wp2
    go_ret
    exact ⟨_, rfl, by rw [e1]; exact Cx.lit_new w [240 + a / 262144, 128 + a / 4096 % 64, 128 + a / 64 % 64, 128 + a % 64]⟩

theorem Cx.Lit.head {w w' : World} {v : Value} {bs : List Int} (h : Cx.Lit w w' v bs) : ∃ g, v = .slice (some ⟨g, 0, none⟩) bs.length bs.length ∧ w.heap.size ≤ g ∧ (∀ i, i < bs.length → w'.cell? ⟨g, i, none⟩ = some (.int .u8 (bs.getD i 0))) ∧ Below w.heap.size w w' := by
  obtain ⟨g, hv, hg, hh, hb⟩ := h
  refine ⟨g, hv, hg, fun i hi => ?_, hb⟩
  rw [cell_of_row w' g i _ _ _ hh]
  simp [List.getD, hi]

theorem Cx.put_len (enc a : Int) : 1 ≤ (Cx.put enc a).length ∧ (Cx.put enc a).length ≤ 4 := by
  unfold Cx.put Cx.put8 Cx.unit
  repeat' split
  all_goals simp

def Cx.u0 (enc u : Int) : Int := if enc = 2 then u % 256 else u / 256
def Cx.u1 (enc u : Int) : Int := if enc = 2 then u / 256 else u % 256
theorem Cx.unit_eq (enc u : Int) : Cx.unit enc u = [Cx.u0 enc u, Cx.u1 enc u] := by unfold Cx.unit Cx.u0 Cx.u1; split <;> rfl
theorem Cx.u_bd (enc u : Int) (h0 : 0 ≤ u) (hx : u ≤ 65535) : (0 ≤ Cx.u0 enc u ∧ Cx.u0 enc u ≤ 255) ∧ 0 ≤ Cx.u1 enc u ∧ Cx.u1 enc u ≤ 255 := by unfold Cx.u0 Cx.u1; split <;> omega

theorem Cx.fits_size (enc a : Int) : decide (0 < Cx.size enc a) = Cx.fits enc a := by
  have := Cx.put_len enc a
  unfold Cx.size
  cases h : Cx.fits enc a <;> simp; omega
end Go.Proofs.Ytmfbobibpebfnaa
