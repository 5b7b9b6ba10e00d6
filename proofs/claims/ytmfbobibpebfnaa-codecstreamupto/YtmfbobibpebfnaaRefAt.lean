/- The document's answer: unitAt, At. -/
import Derived.Test.YtmfbobibpebfnaaRefEight
import Derived.Test.YtmfbobibpebfnaaFirst16b
namespace Go.Proofs.Ytmfbobibpebfnaa
open Go.RowKit

/-- The low half's place of a 16-bit encoding. -/
def Cx.lowOf (enc : Int) : Int := if enc = 2 then 0 else 1
def Cx.unitV (enc : Int) (zs : List Int) (at' : Nat) : Int := if at' + 2 ≤ zs.length then Cx.wv (Cx.lowOf enc) (zs.drop at') else -1

set_option maxRecDepth 100000 in
theorem unitAt_any (enc : Int) (v : Value) (zs : List Int) (at' : Nat) (w : World) (h : Rd .u8 w v zs) (hb : Byt zs) (hat : at' ≤ 4611686018427387800) (hm : zs.length ≤ 4611686018427387000) :
    Calls Try.prog 28 #[.int .i64 enc, v, .int .i64 at'] w fun e w' => e = .returned (.int .i64 (Cx.unitV enc zs at')) ∧ Below w.heap.size w w' := by
  obtain ⟨ao, cap, rfl, hlc, hcm, hc⟩ := h
  by_cases hl : at' + 2 ≤ zs.length
  · obtain ⟨b, off, rfl, hbl, hc⟩ := hc (List.length_pos_iff.1 (by omega))
    have h0 := hc at' (by omega)
    have h1 := hc (at' + 1) (by omega)
    have hx := hb.at at'
    have hy := hb.at (at' + 1)
    have HE : Hid (Cx.unitV enc zs at' = if enc = 2 then zs[at' + 1]?.getD 0 * 256 + zs[at']?.getD 0 else zs[at']?.getD 0 * 256 + zs[at' + 1]?.getD 0) := by
      unfold Hid Cx.unitV Cx.wv Cx.lowOf
      rw [if_pos hl]
      simp only [List.getElem?_drop, Nat.add_zero]
      by_cases he : enc = 2 <;> simp [he]
    generalize Cx.unitV enc zs at' = R at *
    generalize zs[at']?.getD 0 = x at *
    generalize zs[at' + 1]?.getD 0 = y at *
    have hi : (at' : Int) < (zs.length : Int) := by omega
    have hi1 : (at' : Int) + 1 < (zs.length : Int) := by omega
    clear hc hb hcm
    by_cases he : enc = 2
    · subst he
      rw [if_pos rfl] at HE
      go_enter Try.func28, Try.ntmps28
      go_wp2
      go_quiet (fail)
      go_wp2
      go_ret
      refine ⟨ret_int' ?_, below_drewN (Below.refl _ _) _⟩
      have := HE.out; omega
    · rw [if_neg he] at HE
      have hq : (enc == 2) = false := by simp [he]
      clear he
      go_enter Try.func28, Try.ntmps28
      go_wp2
      go_quiet (fail)
      go_wp2
      go_ret
      refine ⟨ret_int' ?_, below_drewN (Below.refl _ _) _⟩
      have := HE.out; omega
  · have HE : Hid (Cx.unitV enc zs at' = -1) := by unfold Hid Cx.unitV; rw [if_neg hl]
    clear hc hb hcm
    go_enter Try.func28, Try.ntmps28
    go_wp2
    go_ret
    exact ⟨ret_int' HE.out.symm, Below.refl _ _⟩

theorem Cx.first16_at (enc : Int) (zs : List Int) (at' : Nat) (hu : 0 ≤ Cx.unitV enc zs at') :
    Cx.first16 (Cx.lowOf enc) (zs.drop at') = if Cx.hiU (Cx.unitV enc zs at') = true ∧ Cx.loU (Cx.unitV enc zs (at' + 2)) = true then (65536 + (Cx.unitV enc zs at' - 55296) * 1024 + Cx.unitV enc zs (at' + 2) - 56320, 4) else (Cx.unitV enc zs at', 2) := by
  have h2 : at' + 2 ≤ zs.length := by unfold Cx.unitV at hu; split at hu <;> omega
  have hlen : (zs.drop at').length = zs.length - at' := List.length_drop
  have e1 : Cx.unitV enc zs at' = Cx.wv (Cx.lowOf enc) (zs.drop at') := by unfold Cx.unitV; rw [if_pos h2]
  unfold Cx.first16
  rw [if_neg (by omega)]
  by_cases h4 : at' + 4 ≤ zs.length
  · have e2 : Cx.unitV enc zs (at' + 2) = Cx.wv (Cx.lowOf enc) ((zs.drop at').drop 2) := by unfold Cx.unitV; rw [if_pos (by omega), List.drop_drop]
    have e3 : Cx.isP (Cx.lowOf enc) (zs.drop at') = (Cx.hiU (Cx.unitV enc zs at') && Cx.loU (Cx.unitV enc zs (at' + 2))) := by
      unfold Cx.isP; rw [decide_eq_true (by omega), Bool.true_and, e1, e2]
    rw [e3]
    simp only [Bool.and_eq_true]
    by_cases hc : Cx.hiU (Cx.unitV enc zs at') = true ∧ Cx.loU (Cx.unitV enc zs (at' + 2)) = true
    · rw [if_pos hc, if_pos hc]; unfold Cx.pairV; rw [← e1, ← e2]; congr 1; omega
    · rw [if_neg hc, if_neg hc, e1]
  · have e2 : Cx.unitV enc zs (at' + 2) = -1 := by unfold Cx.unitV; rw [if_neg (by omega)]
    have e3 : Cx.isP (Cx.lowOf enc) (zs.drop at') = false := by unfold Cx.isP; rw [decide_eq_false (by omega)]; rfl
    rw [e3, if_neg (by simp), e2, if_neg (by simp [Cx.loU]), e1]

theorem Cx.fst_low (enc : Int) (zs : List Int) (h : enc = 2 ∨ enc = 3) : Cx.fst enc zs = Cx.first16 (Cx.lowOf enc) zs := by
  rcases h with rfl | rfl <;> rfl

set_option maxRecDepth 100000 in
/-- At: the atom that begins at a place, and its bytes. -/
theorem At_any (enc : Int) (v : Value) (zs : List Int) (at' : Nat) (w : World) (h : Rd .u8 w v zs) (hb : Byt zs) (he : enc = 1 ∨ enc = 2 ∨ enc = 3 ∨ enc = 4) (hl : at' < zs.length) (hm : zs.length ≤ 4611686018427387000) :
    Calls Try.prog 31 #[.int .i64 enc, v, .int .i64 at'] w fun e w' => e = .returned (.tuple #[.int .i64 (Cx.fst enc (zs.drop at')).1, .int .i64 (Cx.fst enc (zs.drop at')).2]) ∧ Below w.heap.size w w' := by
  have HR : Hid (Rd .u8 w v zs) := h
  have HB : Hid (Byt zs) := hb
  by_cases h1 : enc = 1
  · subst h1
    have HE : Hid (Cx.fst 1 (zs.drop at') = Cx.first8 (zs.drop at')) := rfl
    clear h hb
    generalize Cx.fst 1 (zs.drop at') = R at *
    go_enter Try.func31, Try.ntmps31
    go_wp2_with fail
    refine (eightAt_any _ zs at' _ HR.out HB.out hl hm).mono ?_
    rintro e w1 ⟨rfl, hb1⟩
    go_wp2
    go_ret2
    exact ⟨by rw [HE.out]; rfl, hb1⟩
  have q1 : (enc == 1) = false := by simp [h1]
  have hx := hb.at at'
  obtain ⟨ao, cap, rfl, hlc, hcm, hc⟩ := h
  obtain ⟨b, off, rfl, hbl, hc⟩ := hc (List.length_pos_iff.1 (by omega))
  have h0 := hc at' hl
  have HX : Hid (zs[at']?.getD 0 = Cx.c0 (zs.drop at')) := by unfold Hid Cx.c0; rw [List.getElem?_drop, Nat.add_zero]
  have hi : (at' : Int) < (zs.length : Int) := by omega
  by_cases h4 : enc = 4
  · subst h4
    have HE : Hid (Cx.fst 4 (zs.drop at') = (zs[at']?.getD 0, 1)) := by unfold Hid; rw [HX.out]; rfl
    generalize Cx.fst 4 (zs.drop at') = R at *
    generalize zs[at']?.getD 0 = x at *
    clear hc hb hcm h1
    go_enter Try.func31, Try.ntmps31
    go_wp2
    go_ret2
    exact ⟨by rw [HE.out]; rfl, Below.refl _ _⟩
  have q4 : (enc == 4) = false := by simp [h4]
  have he' : enc = 2 ∨ enc = 3 := by omega
  have HE : Hid (Cx.fst enc (zs.drop at') = Cx.first16 (Cx.lowOf enc) (zs.drop at')) := Cx.fst_low enc _ he'
  have HF := Cx.first16_at enc zs at'
  have hub : Cx.unitV enc zs at' ≤ 65535 ∧ -1 ≤ Cx.unitV enc zs at' := by
    have := Cx.wv_bd (Cx.lowOf enc) (zs.drop at') (hb.drop at')
    unfold Cx.unitV; split <;> omega
  have hub2 : Cx.unitV enc zs (at' + 2) ≤ 65535 ∧ -1 ≤ Cx.unitV enc zs (at' + 2) := by
    have := Cx.wv_bd (Cx.lowOf enc) (zs.drop (at' + 2)) (hb.drop (at' + 2))
    unfold Cx.unitV; split <;> omega
  have HO : Hid (Cx.unitV enc zs at' = -1 → Cx.first16 (Cx.lowOf enc) (zs.drop at') = (-1 - Cx.c0 (zs.drop at'), 1)) := by
    intro hu
    have hh : ¬ at' + 2 ≤ zs.length := by
      intro hh
      have := Cx.wv_bd (Cx.lowOf enc) (zs.drop at') (hb.drop at')
      unfold Cx.unitV at hu; rw [if_pos hh] at hu; omega
    unfold Cx.first16; rw [if_pos (by rw [List.length_drop]; omega)]
  have HF' : Hid (0 ≤ Cx.unitV enc zs at' → Cx.first16 (Cx.lowOf enc) (zs.drop at') = if Cx.hiU (Cx.unitV enc zs at') = true ∧ Cx.loU (Cx.unitV enc zs (at' + 2)) = true then (65536 + (Cx.unitV enc zs at' - 55296) * 1024 + Cx.unitV enc zs (at' + 2) - 56320, 4) else (Cx.unitV enc zs at', 2)) := HF
  rw [HE.out]
  clear hc hb hcm h1 h4 he he' HF
  generalize zs[at']?.getD 0 = x at *
  go_enter Try.func31, Try.ntmps31
  go_wp2_with fail
  refine (unitAt_any enc _ zs at' _ HR.out HB.out (by omega) hm).mono ?_
  rintro e w1 ⟨rfl, hb1⟩
  have HW1 : Hid (Below w.heap.size w w1) := hb1
  have h0' : w1.cell? ⟨b, off + at', none⟩ = some (.int .u8 x) := (hb1.cell (p := ⟨b, off + at', none⟩) hbl).trans h0
  clear hb1 h0
  by_cases hu : Cx.unitV enc zs at' < 0
  · have hu' : Cx.unitV enc zs at' = -1 := by omega
    have HT : Hid (Cx.first16 (Cx.lowOf enc) (zs.drop at') = (-1 - x, 1)) := by rw [HX.out]; exact HO.out hu'
    generalize Cx.unitV enc zs at' = u at *
    generalize Cx.unitV enc zs (at' + 2) = u2 at *
    clear HF' HO hu'
    go_wp2_with fail
    go_ret2
    exact ⟨by rw [HT.out]; rfl, HW1.out⟩
  · have HT := HF'.out (by omega)
    have HT' : Hid (Cx.first16 (Cx.lowOf enc) (zs.drop at') = if Cx.hiU (Cx.unitV enc zs at') = true ∧ Cx.loU (Cx.unitV enc zs (at' + 2)) = true then (65536 + (Cx.unitV enc zs at' - 55296) * 1024 + Cx.unitV enc zs (at' + 2) - 56320, 4) else (Cx.unitV enc zs at', 2)) := HT
    clear HF' HO HT
    go_wp2_with fail
    refine (unitAt_any enc _ zs (at' + 2) _ (HR.out.ext HW1.out) HB.out (by omega) hm).mono ?_
    rintro e w2 ⟨rfl, hb2⟩
    have HW2 : Hid (Below w.heap.size w w2) := ext_trans HW1.out hb2
    clear hb2 HW1 h0'
    generalize Cx.unitV enc zs at' = u at *
    generalize Cx.unitV enc zs (at' + 2) = u2 at *
    by_cases c1 : 55296 ≤ u
    · by_cases c2 : u < 56320
      · by_cases c3 : 56320 ≤ u2
        · by_cases c4 : u2 < 57344
          · have HU : Hid (Cx.first16 (Cx.lowOf enc) (zs.drop at') = (65536 + (u - 55296) * 1024 + u2 - 56320, 4)) := by
              unfold Hid; rw [HT'.out, if_pos]; unfold Cx.hiU Cx.loU; simp; omega
            clear HT'
            go_wp2_with fail
            go_ret2
            exact ⟨by rw [HU.out]; rfl, HW2.out⟩
          · have HU : Hid (Cx.first16 (Cx.lowOf enc) (zs.drop at') = (u, 2)) := by
              unfold Hid; rw [HT'.out, if_neg]; unfold Cx.hiU Cx.loU; simp; omega
            clear HT'
            go_wp2_with fail
            go_ret2
            exact ⟨by rw [HU.out]; rfl, HW2.out⟩
        · have HU : Hid (Cx.first16 (Cx.lowOf enc) (zs.drop at') = (u, 2)) := by
            unfold Hid; rw [HT'.out, if_neg]; unfold Cx.hiU Cx.loU; simp; omega
          clear HT'
          go_wp2_with fail
          go_ret2
          exact ⟨by rw [HU.out]; rfl, HW2.out⟩
      · have HU : Hid (Cx.first16 (Cx.lowOf enc) (zs.drop at') = (u, 2)) := by
          unfold Hid; rw [HT'.out, if_neg]; unfold Cx.hiU Cx.loU; simp; omega
        clear HT'
        go_wp2_with fail
        go_ret2
        exact ⟨by rw [HU.out]; rfl, HW2.out⟩
    · have HU : Hid (Cx.first16 (Cx.lowOf enc) (zs.drop at') = (u, 2)) := by
        unfold Hid; rw [HT'.out, if_neg]; unfold Cx.hiU Cx.loU; simp; omega
      clear HT'
      go_wp2_with fail
      go_ret2
      exact ⟨by rw [HU.out]; rfl, HW2.out⟩
end Go.Proofs.Ytmfbobibpebfnaa
