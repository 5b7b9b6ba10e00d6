/- waits, of the three coders. -/
import Derived.Test.YtmfbobibpebfnaaFirst16b
import Derived.Test.YtmfbobibpebfnaaDecode
namespace Go.Proofs.Ytmfbobibpebfnaa
open Go.RowKit

def Cx.wtW (k : Int) (b : List Int) : Bool := decide (b.length = 1) || (decide (b.length < 4) && Cx.hiU (Cx.wv k b))
/-- May bytes to come change how the first atom is read? -/
def Cx.wt (enc : Int) (b : List Int) : Bool := if enc = 1 then decide ((b.length : Int) < Cx.mtch b) else if enc = 2 then Cx.wtW 0 b else if enc = 3 then Cx.wtW 1 b else false

theorem m_waits1 (w : World) : (method 206 64 (.agg #[]) "copyist/codec.waits").run Try.prog w = .ok (57, .agg #[]) w := by kernel_rfl
theorem m_waits2 (k : Int) (w : World) : (method 206 66 (.agg #[.int .i64 k]) "copyist/codec.waits").run Try.prog w = .ok (67, .agg #[.int .i64 k]) w := by kernel_rfl
theorem m_waits4 (w : World) : (method 206 67 (.agg #[]) "copyist/codec.waits").run Try.prog w = .ok (78, .agg #[]) w := by kernel_rfl

theorem nwaits_any (v : Value) (zs : List Int) (w : World) (h : Rd .u8 w v zs) (hb : Byt zs) (hn : zs ≠ []) :
    Calls Try.prog 57 #[.agg #[], v] w fun e w' => e = .returned (.bool (Cx.wt 1 zs)) ∧ Below w.heap.size w w' := by
  obtain ⟨ao, cap, rfl, _⟩ := id h
  have hlen := h.len
  have HM : Hid (∀ w', Below w.heap.size w w' → Calls Try.prog 58 #[.slice ao zs.length cap] w' fun e w'' => e = .returned (.int .i64 (Cx.mtch zs)) ∧ w'' = w') := fun w' hbw => match_any _ zs w' (h.ext hbw) hb hn
  have HE : Hid (Cx.wt 1 zs = decide ((zs.length : Int) < Cx.mtch zs)) := rfl
  generalize Cx.mtch zs = m at *
  clear h hb hn
  go_enter Try.func57, Try.ntmps57
  go_wp2_with fail
  refine (HM.out _ (ext_alloc (Below.refl _ _) _)).mono ?_
  rintro e w1 ⟨rfl, rfl⟩
  go_wp2_with fail
  go_ret
  exact ⟨ret_bool HE.out.symm, ext_alloc (Below.refl _ _) _⟩

set_option maxRecDepth 100000 in
theorem wwaits_any (k : Int) (v : Value) (zs : List Int) (w : World) (h : Rd .u8 w v zs) (hb : Byt zs) (hk : k = 0 ∨ k = 1) (hn : zs ≠ []) :
    Calls Try.prog 67 #[.agg #[.int .i64 k], v] w fun e w' => e = .returned (.bool (Cx.wtW k zs)) ∧ Below w.heap.size w w' := by
  have hlen := h.len
  have hpos : 0 < zs.length := List.length_pos_iff.2 hn
  have HR : Hid (Rd .u8 w v zs) := h
  have HB : Hid (Byt zs) := hb
  have HK : Hid (k = 0 ∨ k = 1) := hk
  obtain ⟨ao, cap, rfl, _⟩ := id h
  clear h hb hk hn
  by_cases h1 : zs.length = 1
  · have HE : Hid (Cx.wtW k zs = true) := by unfold Hid Cx.wtW; rw [decide_eq_true h1]; rfl
    have b1 : ((zs.length : Int) == 1) = true := by simp; omega
    go_enter Try.func67, Try.ntmps67
    go_wp2_with fail
    go_ret
    exact ⟨ret_bool HE.out.symm, ext_alloc (Below.refl _ _) _⟩
  have b1 : ((zs.length : Int) == 1) = false := by simp; omega
  by_cases h4 : zs.length < 4
  · have HE : Hid (Cx.wtW k zs = Cx.hiU (Cx.wv k zs)) := by unfold Hid Cx.wtW; rw [decide_eq_false h1, decide_eq_true h4]; rfl
    have h4' : (zs.length : Int) < 4 := by omega
    have HU : Hid (∀ w', Below w.heap.size w w' → Calls Try.prog 70 #[.agg #[.int .i64 k], .slice ao zs.length cap] w' fun e w'' => e = .returned (.int .i64 (Cx.wv k zs)) ∧ ∃ n, w'' = (w'.alloc (.cells #[.int .i64 k] 66)).drewN n) := fun w' hbw => unitW_any k _ zs w' (HR.out.ext hbw) HB.out HK.out (by omega)
    generalize Cx.wv k zs = u at *
    go_enter Try.func67, Try.ntmps67
    go_wp2_with fail
    refine (HU.out _ (ext_alloc (Below.refl _ _) _)).mono ?_
    rintro e w1 ⟨rfl, n, rfl⟩
    go_wp2_with fail
    refine (isHigh_any _ _).mono ?_
    rintro e w2 ⟨rfl, rfl⟩
    go_wp2_with fail
    go_ret
    exact ⟨ret_bool HE.out.symm, by repeat (first | exact Below.refl _ _ | apply below_drewN | refine ext_alloc ?_ _ | apply Below.drew)⟩
  · have HE : Hid (Cx.wtW k zs = false) := by unfold Hid Cx.wtW; rw [decide_eq_false h1, decide_eq_false h4]; rfl
    have h4' : ¬ (zs.length : Int) < 4 := by omega
    go_enter Try.func67, Try.ntmps67
    go_wp2_with fail
    go_ret
    exact ⟨ret_bool HE.out.symm, ext_alloc (Below.refl _ _) _⟩

theorem lwaits_any (v : Value) (w : World) : Calls Try.prog 78 #[.agg #[], v] w fun e w' => e = .returned (.bool false) ∧ Below w.heap.size w w' := by
  go_enter Try.func78, Try.ntmps78
  go_wp2_with fail
  go_ret
  exact ⟨rfl, ext_alloc (Below.refl _ _) _⟩
end Go.Proofs.Ytmfbobibpebfnaa
