/- The 16-bit encodings of the code, further: pair, first; latin's first; one word for all four. -/
import Derived.Test.YtmfbobibpebfnaaFirst16
namespace Go.Proofs.Ytmfbobibpebfnaa
open Go.RowKit

def Cx.pairV (k : Int) (zs : List Int) : Int := 65536 + (Cx.wv k zs - 55296) * 1024 + (Cx.wv k (zs.drop 2) - 56320)

set_option maxRecDepth 100000 in
set_option maxHeartbeats 1000000 in
theorem pair_any (k : Int) (v : Value) (zs : List Int) (w : World) (h : Rd .u8 w v zs) (hb : Byt zs) (hk : k = 0 ∨ k = 1) (h4 : 4 ≤ zs.length) :
    Calls Try.prog 69 #[.agg #[.int .i64 k], v] w fun e w' => e = .returned (.int .i64 (Cx.pairV k zs)) ∧ Below w.heap.size w w' := by
  have HR : Hid (Rd .u8 w v zs) := h
  have HB : Hid (Byt zs) := hb
  have HK : Hid (k = 0 ∨ k = 1) := hk
  have hlen := h.len
  obtain ⟨ao, cap, rfl, hl, hm, hc⟩ := h
  obtain ⟨b, off, rfl, hbl, _⟩ := hc (List.length_pos_iff.1 (by omega))
  clear hc hm hk
  have HD : Hid (Rd .u8 w (.slice (some ⟨b, off + 2, none⟩) (zs.length - 2) (cap - 2)) (zs.drop 2)) := HR.out.drop 2 (by omega)
  have hx := Cx.wv_bd k zs hb
  have hy := Cx.wv_bd k (zs.drop 2) (hb.drop 2)
  have HE : Hid (Cx.pairV k zs = 65536 + (Cx.wv k zs - 55296) * 1024 + (Cx.wv k (zs.drop 2) - 56320)) := rfl
  have hi2 : (2 : Int) ≤ (zs.length : Int) := by omega
  have hc2 : ¬ cap = 2 := by omega
  clear hb
  generalize Cx.pairV k zs = R at *
  go_enter Try.func69, Try.ntmps69
  go_wp2_with fail
  first | go_region_with (first | (go_at_call_of 70 (Value.slice (some { block := b, off := off }) zs.length cap); refine (unitW_any k _ zs _ ?_ HB.out HK.out ?_).mono ?_; exact HR.out.ext (by repeat (first | exact Below.refl _ _ | apply below_drewN | refine ext_alloc ?_ _ | apply Below.drew)); omega; rintro e w' ⟨rfl, n1, rfl⟩) | (go_at_call 70; refine (unitW_any k _ (zs.drop 2) _ ?_ (HB.out.drop 2) HK.out ?_).mono ?_; exact HD.out.ext (by repeat (first | exact Below.refl _ _ | apply below_drewN | refine ext_alloc ?_ _ | apply Below.drew)); (rw [List.length_drop]; omega); rintro e w' ⟨rfl, n2, rfl⟩)) | fail
  all_goals
    go_wp2
    go_ret
    exact ⟨ret_int' (by rw [HE.out]; simp only [IntKind.wrap_i64]; omega), by repeat (first | exact Below.refl _ _ | apply below_drewN | refine ext_alloc ?_ _ | apply Below.drew)⟩

def Cx.first16 (k : Int) (zs : List Int) : Int × Int := if zs.length = 1 then (-1 - Cx.c0 zs, 1) else if Cx.isP k zs = true then (Cx.pairV k zs, 4) else (Cx.wv k zs, 2)

set_option maxRecDepth 100000 in
theorem first16_any (k : Int) (v : Value) (zs : List Int) (w : World) (h : Rd .u8 w v zs) (hb : Byt zs) (hk : k = 0 ∨ k = 1) (hn : zs ≠ []) :
    Calls Try.prog 62 #[.agg #[.int .i64 k], v] w fun e w' => e = .returned (.tuple #[.int .i64 (Cx.first16 k zs).1, .int .i64 (Cx.first16 k zs).2]) ∧ Below w.heap.size w w' := by
  have HR : Hid (Rd .u8 w v zs) := h
  have HB : Hid (Byt zs) := hb
  have HK : Hid (k = 0 ∨ k = 1) := hk
  have hlen := h.len
  have hb0 := hb.at 0
  change 0 ≤ Cx.c0 zs ∧ Cx.c0 zs ≤ 255 at hb0
  obtain ⟨ao, cap, rfl, hl, hm, hc⟩ := h
  obtain ⟨b, off, rfl, hbl, hc⟩ := hc hn
  have hpos : 0 < zs.length := List.length_pos_iff.2 hn
  have h0 := hc 0 hpos
  rw [Nat.add_zero] at h0
  change w.cell? ⟨b, off, none⟩ = some (.int .u8 (Cx.c0 zs)) at h0
  have h0' : ∀ o : Obj, (w.alloc o).cell? ⟨b, off, none⟩ = some (.int .u8 (Cx.c0 zs)) := fun o => ((Below.refl w.heap.size w).alloc (Nat.le_refl _) o |>.cell (p := ⟨b, off, none⟩) hbl).trans h0
  clear hn hc hm hk hb h0
  by_cases h1 : zs.length = 1
  · have HE : Hid (Cx.first16 k zs = (-1 - Cx.c0 zs, 1)) := by unfold Hid Cx.first16; rw [if_pos h1]
    have hbq : ((zs.length : Int) == 1) = true := by rw [h1]; rfl
    clear h1
    go_enter Try.func62, Try.ntmps62
    go_wp2_with fail
    refine (rawAtom_any _ _ hb0.1 hb0.2).mono ?_
    rintro e w1 ⟨rfl, rfl⟩
    go_wp2
    go_ret2
    exact ⟨by rw [HE.out]; rfl, (Below.refl _ _).alloc (Nat.le_refl _) _⟩
  · have hbq : ((zs.length : Int) == 1) = false := by simp; omega
    have h2 : 2 ≤ zs.length := by omega
    cases hp : Cx.isP k zs
    · have HE : Hid (Cx.first16 k zs = (Cx.wv k zs, 2)) := by unfold Hid Cx.first16; rw [if_neg h1, hp]; rfl
      clear h1 h0'
      go_enter Try.func62, Try.ntmps62
      go_wp2_with fail
      refine (isPair_any k _ zs _ (HR.out.ext ((Below.refl _ _).alloc (Nat.le_refl _) _)) HB.out HK.out h2).mono ?_
      rintro e w1 ⟨rfl, hb1⟩
      have hcb : w1.cell? ⟨w.heap.size, 0, none⟩ = some (.int .i64 k) := (hb1.cell (p := ⟨w.heap.size, 0, none⟩) (by simp)).trans (by simp)
      have HW1 : Hid (Below w.heap.size w w1) := ext_trans ((Below.refl _ _).alloc (Nat.le_refl _) _) hb1
      clear hb1
      rw [hp]
      go_wp2_with fail
      refine (unitW_any k _ zs _ (HR.out.ext HW1.out) HB.out HK.out h2).mono ?_
      rintro e w2 ⟨rfl, n2, rfl⟩
      go_wp2
      go_ret2
      exact ⟨by rw [HE.out]; rfl, ext_trans HW1.out (one_new rfl)⟩
    · have h4 : 4 ≤ zs.length := by
        unfold Cx.isP at hp
        simp only [Bool.and_eq_true, decide_eq_true_eq] at hp
        exact hp.1.1
      have HE : Hid (Cx.first16 k zs = (Cx.pairV k zs, 4)) := by unfold Hid Cx.first16; rw [if_neg h1, hp]; rfl
      clear h1 h0'
      go_enter Try.func62, Try.ntmps62
      go_wp2_with fail
      refine (isPair_any k _ zs _ (HR.out.ext ((Below.refl _ _).alloc (Nat.le_refl _) _)) HB.out HK.out h2).mono ?_
      rintro e w1 ⟨rfl, hb1⟩
      have hcb : w1.cell? ⟨w.heap.size, 0, none⟩ = some (.int .i64 k) := (hb1.cell (p := ⟨w.heap.size, 0, none⟩) (by simp)).trans (by simp)
      have HW1 : Hid (Below w.heap.size w w1) := ext_trans ((Below.refl _ _).alloc (Nat.le_refl _) _) hb1
      clear hb1
      rw [hp]
      go_wp2_with fail
      refine (pair_any k _ zs _ (HR.out.ext HW1.out) HB.out HK.out h4).mono ?_
      rintro e w2 ⟨rfl, hb2⟩
      go_wp2
      go_ret2
      exact ⟨by rw [HE.out]; rfl, ext_trans HW1.out hb2⟩

theorem first4_any (v : Value) (zs : List Int) (w : World) (h : Rd .u8 w v zs) (hb : Byt zs) (hn : zs ≠ []) :
    Calls Try.prog 73 #[.agg #[], v] w fun e w' => e = .returned (.tuple #[.int .i64 (Cx.c0 zs), .int .i64 1]) ∧ Below w.heap.size w w' := by
  have hlen := h.len
  have hb0 := hb.at 0
  change 0 ≤ Cx.c0 zs ∧ Cx.c0 zs ≤ 255 at hb0
  obtain ⟨ao, cap, rfl, hl, hm, hc⟩ := h
  obtain ⟨b, off, rfl, hbl, hc⟩ := hc hn
  have hpos : 0 < zs.length := List.length_pos_iff.2 hn
  have h0 := hc 0 hpos
  rw [Nat.add_zero] at h0
  change w.cell? ⟨b, off, none⟩ = some (.int .u8 (Cx.c0 zs)) at h0
  have h0' : ∀ o : Obj, (w.alloc o).cell? ⟨b, off, none⟩ = some (.int .u8 (Cx.c0 zs)) := fun o => ((Below.refl w.heap.size w).alloc (Nat.le_refl _) o |>.cell (p := ⟨b, off, none⟩) hbl).trans h0
  clear hn hc hm hb h0
  go_enter Try.func73, Try.ntmps73
  go_wp2
  go_ret2
  exact ⟨rfl, (Below.refl _ _).alloc (Nat.le_refl _) _⟩

/-- The atom that bytes begin with, and its bytes: every encoding. -/
def Cx.fst (enc : Int) (zs : List Int) : Int × Int := if enc = 1 then Cx.first8 zs else if enc = 2 then Cx.first16 0 zs else if enc = 3 then Cx.first16 1 zs else (Cx.c0 zs, 1)
end Go.Proofs.Ytmfbobibpebfnaa
