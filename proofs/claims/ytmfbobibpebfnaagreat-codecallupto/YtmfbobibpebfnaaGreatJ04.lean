import Derived.Test.YtmfbobibpebfnaaGreatJ00
import Derived.Test.YtmfbobibpebfnaaGreatJ03
/- The document's answer: unitAt, At. -/
namespace Go.Proofs.YtmfbobibpebfnaaGreat
open Go.RowKit

/-- The low half's place of a 16-bit encoding. -/
def Cx.lowOf (enc : Int) : Int := if enc = 2 then 0 else 1
def Cx.unitV (enc : Int) (zs : List Int) (at' : Nat) : Int := if at' + 2 ≤ zs.length then Cx.wv (Cx.lowOf enc) (zs.drop at') else -1

set_option maxRecDepth 100000 in
theorem unitAt_any (enc : Int) (v : Value) (zs : List Int) (at' : Nat) (w : World) (h : Rd .u8 w v zs) (hb : Byt zs) (hat : at' ≤ 4611686018427387800) (hm : zs.length ≤ 4611686018427387000) :
    Calls Tryz.prog 57 #[.int .i64 enc, v, .int .i64 at'] w fun e w' => e = .returned (.int .i64 (Cx.unitV enc zs at')) ∧ Below w.heap.size w w' := by
  obtain ⟨ao, cap, rfl, hlc, hcm, hc⟩ := h
  by_cases hl : at' + 2 ≤ zs.length
  · obtain ⟨b, off, rfl, hbl, hc⟩ := hc (List.length_pos_iff.1 (by omega))
    have h0 := hc at' (by omega)
    have h1 := hc (at' + 1) (by omega)
    have hx := hb.at at'
    have hy := hb.at (at' + 1)
    have HE : Hid (Cx.unitV enc zs at' = if enc = 2 then zs[at' + 1]?.getD 0 * 256 + zs[at']?.getD 0 else zs[at']?.getD 0 * 256 + zs[at' + 1]?.getD 0) := by
      unfold Hid Cx.unitV Cx.wv Cx.lowOf
      rw [if_pos hl]
      simp only [List.getElem?_drop, Nat.add_zero]
      by_cases he : enc = 2 <;> simp [he]
    generalize Cx.unitV enc zs at' = R at *
    generalize zs[at']?.getD 0 = x at *
    generalize zs[at' + 1]?.getD 0 = y at *
    have hi : (at' : Int) < (zs.length : Int) := by omega
    have hi1 : (at' : Int) + 1 < (zs.length : Int) := by omega
    clear hc hb hcm
    by_cases he : enc = 2
    · subst he
      rw [if_pos rfl] at HE
      go_enter Tryz.func57, Tryz.ntmps57
      go_wp2
      go_quiet (fail)
      go_wp2
      go_ret
      refine ⟨ret_int' ?_, below_drewN (Below.refl _ _) _⟩
      have := HE.out; omega
    · rw [if_neg he] at HE
      have hq : (enc == 2) = false := by simp [he]
      clear he
      go_enter Tryz.func57, Tryz.ntmps57
      go_wp2
      go_quiet (fail)
      go_wp2
      go_ret
      refine ⟨ret_int' ?_, below_drewN (Below.refl _ _) _⟩
      have := HE.out; omega
  · have HE : Hid (Cx.unitV enc zs at' = -1) := by unfold Hid Cx.unitV; rw [if_neg hl]
    clear hc hb hcm
    go_enter Tryz.func57, Tryz.ntmps57
    go_wp2
    go_ret
    exact ⟨ret_int' HE.out.symm, Below.refl _ _⟩

theorem Cx.first16_at (enc : Int) (zs : List Int) (at' : Nat) (hu : 0 ≤ Cx.unitV enc zs at') :
    Cx.first16 (Cx.lowOf enc) (zs.drop at') = if Cx.hiU (Cx.unitV enc zs at') = true ∧ Cx.loU (Cx.unitV enc zs (at' + 2)) = true then (65536 + (Cx.unitV enc zs at' - 55296) * 1024 + Cx.unitV enc zs (at' + 2) - 56320, 4) else (Cx.unitV enc zs at', 2) := by
  have h2 : at' + 2 ≤ zs.length := by unfold Cx.unitV at hu; split at hu <;> omega
  have hlen : (zs.drop at').length = zs.length - at' := List.length_drop
  have e1 : Cx.unitV enc zs at' = Cx.wv (Cx.lowOf enc) (zs.drop at') := by unfold Cx.unitV; rw [if_pos h2]
  unfold Cx.first16
  rw [if_neg (by omega)]
  by_cases h4 : at' + 4 ≤ zs.length
  · have e2 : Cx.unitV enc zs (at' + 2) = Cx.wv (Cx.lowOf enc) ((zs.drop at').drop 2) := by unfold Cx.unitV; rw [if_pos (by omega), List.drop_drop]
    have e3 : Cx.isP (Cx.lowOf enc) (zs.drop at') = (Cx.hiU (Cx.unitV enc zs at') && Cx.loU (Cx.unitV enc zs (at' + 2))) := by
      unfold Cx.isP; rw [decide_eq_true (by omega), Bool.true_and, e1, e2]
    rw [e3]
    simp only [Bool.and_eq_true]
    by_cases hc : Cx.hiU (Cx.unitV enc zs at') = true ∧ Cx.loU (Cx.unitV enc zs (at' + 2)) = true
    · rw [if_pos hc, if_pos hc]; unfold Cx.pairV; rw [← e1, ← e2]; congr 1; omega
    · rw [if_neg hc, if_neg hc, e1]
  · have e2 : Cx.unitV enc zs (at' + 2) = -1 := by unfold Cx.unitV; rw [if_neg (by omega)]
    have e3 : Cx.isP (Cx.lowOf enc) (zs.drop at') = false := by unfold Cx.isP; rw [decide_eq_false (by omega)]; rfl
    rw [e3, if_neg (by simp), e2, if_neg (by simp [Cx.loU]), e1]

theorem Cx.fst_low (enc : Int) (zs : List Int) (h : enc = 2 ∨ enc = 3) : Cx.fst enc zs = Cx.first16 (Cx.lowOf enc) zs := by
  rcases h with rfl | rfl <;> rfl

set_option maxRecDepth 100000 in
/-- At: the atom that begins at a place, and its bytes. -/
theorem At_any (enc : Int) (v : Value) (zs : List Int) (at' : Nat) (w : World) (h : Rd .u8 w v zs) (hb : Byt zs) (he : enc = 1 ∨ enc = 2 ∨ enc = 3 ∨ enc = 4) (hl : at' < zs.length) (hm : zs.length ≤ 4611686018427387000) :
    Calls Tryz.prog 34 #[.int .i64 enc, v, .int .i64 at'] w fun e w' => e = .returned (.tuple #[.int .i64 (Cx.fst enc (zs.drop at')).1, .int .i64 (Cx.fst enc (zs.drop at')).2]) ∧ Below w.heap.size w w' := by
  have HR : Hid (Rd .u8 w v zs) := h
  have HB : Hid (Byt zs) := hb
  by_cases h1 : enc = 1
  · subst h1
    have HE : Hid (Cx.fst 1 (zs.drop at') = Cx.first8 (zs.drop at')) := rfl
    clear h hb
    generalize Cx.fst 1 (zs.drop at') = R at *
    go_enter Tryz.func34, Tryz.ntmps34
    go_wp2_with fail
    refine (eightAt_any _ zs at' _ HR.out HB.out hl hm).mono ?_
    rintro e w1 ⟨rfl, hb1⟩
    go_wp2
    go_ret2
    exact ⟨by rw [HE.out]; rfl, hb1⟩
  have q1 : (enc == 1) = false := by simp [h1]
  have hx := hb.at at'
  obtain ⟨ao, cap, rfl, hlc, hcm, hc⟩ := h
  obtain ⟨b, off, rfl, hbl, hc⟩ := hc (List.length_pos_iff.1 (by omega))
  have h0 := hc at' hl
  have HX : Hid (zs[at']?.getD 0 = Cx.c0 (zs.drop at')) := by unfold Hid Cx.c0; rw [List.getElem?_drop, Nat.add_zero]
  have hi : (at' : Int) < (zs.length : Int) := by omega
  by_cases h4 : enc = 4
  · subst h4
    have HE : Hid (Cx.fst 4 (zs.drop at') = (zs[at']?.getD 0, 1)) := by unfold Hid; rw [HX.out]; rfl
    generalize Cx.fst 4 (zs.drop at') = R at *
    generalize zs[at']?.getD 0 = x at *
    clear hc hb hcm h1
    go_enter Tryz.func34, Tryz.ntmps34
    go_wp2
    go_ret2
    exact ⟨by rw [HE.out]; rfl, Below.refl _ _⟩
  have q4 : (enc == 4) = false := by simp [h4]
  have he' : enc = 2 ∨ enc = 3 := by omega
  have HE : Hid (Cx.fst enc (zs.drop at') = Cx.first16 (Cx.lowOf enc) (zs.drop at')) := Cx.fst_low enc _ he'
  have HF := Cx.first16_at enc zs at'
  have hub : Cx.unitV enc zs at' ≤ 65535 ∧ -1 ≤ Cx.unitV enc zs at' := by
    have := Cx.wv_bd (Cx.lowOf enc) (zs.drop at') (hb.drop at')
    unfold Cx.unitV; split <;> omega
  have hub2 : Cx.unitV enc zs (at' + 2) ≤ 65535 ∧ -1 ≤ Cx.unitV enc zs (at' + 2) := by
    have := Cx.wv_bd (Cx.lowOf enc) (zs.drop (at' + 2)) (hb.drop (at' + 2))
    unfold Cx.unitV; split <;> omega
  have HO : Hid (Cx.unitV enc zs at' = -1 → Cx.first16 (Cx.lowOf enc) (zs.drop at') = (-1 - Cx.c0 (zs.drop at'), 1)) := by
    intro hu
    have hh : ¬ at' + 2 ≤ zs.length := by
      intro hh
      have := Cx.wv_bd (Cx.lowOf enc) (zs.drop at') (hb.drop at')
      unfold Cx.unitV at hu; rw [if_pos hh] at hu; omega
    unfold Cx.first16; rw [if_pos (by rw [List.length_drop]; omega)]
  have HF' : Hid (0 ≤ Cx.unitV enc zs at' → Cx.first16 (Cx.lowOf enc) (zs.drop at') = if Cx.hiU (Cx.unitV enc zs at') = true ∧ Cx.loU (Cx.unitV enc zs (at' + 2)) = true then (65536 + (Cx.unitV enc zs at' - 55296) * 1024 + Cx.unitV enc zs (at' + 2) - 56320, 4) else (Cx.unitV enc zs at', 2)) := HF
  rw [HE.out]
  clear hc hb hcm h1 h4 he he' HF
  generalize zs[at']?.getD 0 = x at *
  go_enter Tryz.func34, Tryz.ntmps34
  go_wp2_with fail
  refine (unitAt_any enc _ zs at' _ HR.out HB.out (by omega) hm).mono ?_
  rintro e w1 ⟨rfl, hb1⟩
  have HW1 : Hid (Below w.heap.size w w1) := hb1
  have h0' : w1.cell? ⟨b, off + at', none⟩ = some (.int .u8 x) := (hb1.cell (p := ⟨b, off + at', none⟩) hbl).trans h0
  clear hb1 h0
  by_cases hu : Cx.unitV enc zs at' < 0
  · have hu' : Cx.unitV enc zs at' = -1 := by omega
    have HT : Hid (Cx.first16 (Cx.lowOf enc) (zs.drop at') = (-1 - x, 1)) := by rw [HX.out]; exact HO.out hu'
    generalize Cx.unitV enc zs at' = u at *
    generalize Cx.unitV enc zs (at' + 2) = u2 at *
    clear HF' HO hu'
    go_wp2_with fail
    go_ret2
    exact ⟨by rw [HT.out]; rfl, HW1.out⟩
  · have HT := HF'.out (by omega)
    have HT' : Hid (Cx.first16 (Cx.lowOf enc) (zs.drop at') = if Cx.hiU (Cx.unitV enc zs at') = true ∧ Cx.loU (Cx.unitV enc zs (at' + 2)) = true then (65536 + (Cx.unitV enc zs at' - 55296) * 1024 + Cx.unitV enc zs (at' + 2) - 56320, 4) else (Cx.unitV enc zs at', 2)) := HT
    clear HF' HO HT
    go_wp2_with fail
    refine (unitAt_any enc _ zs (at' + 2) _ (HR.out.ext HW1.out) HB.out (by omega) hm).mono ?_
    rintro e w2 ⟨rfl, hb2⟩
    have HW2 : Hid (Below w.heap.size w w2) := ext_trans HW1.out hb2
    clear hb2 HW1 h0'
    generalize Cx.unitV enc zs at' = u at *
    generalize Cx.unitV enc zs (at' + 2) = u2 at *
    by_cases c1 : 55296 ≤ u
    · by_cases c2 : u < 56320
      · by_cases c3 : 56320 ≤ u2
        · by_cases c4 : u2 < 57344
          · have HU : Hid (Cx.first16 (Cx.lowOf enc) (zs.drop at') = (65536 + (u - 55296) * 1024 + u2 - 56320, 4)) := by
              unfold Hid; rw [HT'.out, if_pos]; unfold Cx.hiU Cx.loU; simp; omega
            clear HT'
            go_wp2_with fail
            go_ret2
            exact ⟨by rw [HU.out]; rfl, HW2.out⟩
          · have HU : Hid (Cx.first16 (Cx.lowOf enc) (zs.drop at') = (u, 2)) := by
              unfold Hid; rw [HT'.out, if_neg]; unfold Cx.hiU Cx.loU; simp; omega
            clear HT'
            go_wp2_with fail
            go_ret2
            exact ⟨by rw [HU.out]; rfl, HW2.out⟩
        · have HU : Hid (Cx.first16 (Cx.lowOf enc) (zs.drop at') = (u, 2)) := by
            unfold Hid; rw [HT'.out, if_neg]; unfold Cx.hiU Cx.loU; simp; omega
          clear HT'
          go_wp2_with fail
          go_ret2
          exact ⟨by rw [HU.out]; rfl, HW2.out⟩
      · have HU : Hid (Cx.first16 (Cx.lowOf enc) (zs.drop at') = (u, 2)) := by
          unfold Hid; rw [HT'.out, if_neg]; unfold Cx.hiU Cx.loU; simp; omega
        clear HT'
        go_wp2_with fail
        go_ret2
        exact ⟨by rw [HU.out]; rfl, HW2.out⟩
    · have HU : Hid (Cx.first16 (Cx.lowOf enc) (zs.drop at') = (u, 2)) := by
        unfold Hid; rw [HT'.out, if_neg]; unfold Cx.hiU Cx.loU; simp; omega
      clear HT'
      go_wp2_with fail
      go_ret2
      exact ⟨by rw [HU.out]; rfl, HW2.out⟩
end Go.Proofs.YtmfbobibpebfnaaGreat

/- Decode: of the code, of the document's answer. -/
namespace Go.Proofs.YtmfbobibpebfnaaGreat
open Go.RowKit

theorem Cx.fst_bd (enc : Int) (b : List Int) (hn : b ≠ []) : 1 ≤ (Cx.fst enc b).2 ∧ (Cx.fst enc b).2 ≤ 4 ∧ (Cx.fst enc b).2 ≤ b.length := by
  have hpos : 0 < b.length := List.length_pos_iff.2 hn
  have h16 : ∀ k, 1 ≤ (Cx.first16 k b).2 ∧ (Cx.first16 k b).2 ≤ 4 ∧ (Cx.first16 k b).2 ≤ b.length := by
    intro k
    unfold Cx.first16
    split
    · simp; omega
    · split
      · rename_i hp
        unfold Cx.isP at hp
        simp only [Bool.and_eq_true, decide_eq_true_eq] at hp
        have := hp.1.1
        simp only; omega
      · simp only; omega
  unfold Cx.fst
  split
  · have := Cx.mtch_bd b
    unfold Cx.first8
    split
    · simp only; omega
    · simp only; omega
  · split
    · exact h16 0
    · split
      · exact h16 1
      · simp only; omega

def Cx.decF (enc : Int) : Nat → List Int → List Int
  | 0, _ => []
  | f + 1, b => if b = [] then [] else (Cx.fst enc b).1 :: Cx.decF enc f (b.drop (Cx.fst enc b).2.toNat)
/-- Decode. -/
def Cx.dec (enc : Int) (b : List Int) : List Int := Cx.decF enc b.length b

theorem Cx.decF_more (enc : Int) : ∀ (f g : Nat) (b : List Int), b.length ≤ f → b.length ≤ g → Cx.decF enc f b = Cx.decF enc g b := by
  intro f
  induction f with
  | zero =>
    intro g b hf _
    have : b = [] := List.length_eq_zero_iff.1 (by omega)
    subst this
    cases g with
    | zero => rfl
    | succ g => simp [Cx.decF]
  | succ f ih =>
    intro g b hf hg
    by_cases hn : b = []
    · subst hn
      cases g with
      | zero => simp [Cx.decF]
      | succ g => simp [Cx.decF]
    · have hp : 0 < b.length := List.length_pos_iff.2 hn
      have hb := Cx.fst_bd enc b hn
      cases g with
      | zero => omega
      | succ g =>
        simp only [Cx.decF, if_neg hn]
        rw [ih g (b.drop (Cx.fst enc b).2.toNat) (by rw [List.length_drop]; omega) (by rw [List.length_drop]; omega)]

theorem Cx.dec_nil (enc : Int) : Cx.dec enc [] = [] := rfl
theorem Cx.dec_cons (enc : Int) (b : List Int) (hn : b ≠ []) (a : Int) (n : Nat) (hf : Cx.fst enc b = (a, (n : Int))) : Cx.dec enc b = a :: Cx.dec enc (b.drop n) := by
  have hp : 0 < b.length := List.length_pos_iff.2 hn
  have hb := Cx.fst_bd enc b hn
  rw [hf] at hb
  unfold Cx.dec
  obtain ⟨m, hm⟩ : ∃ m, b.length = m + 1 := ⟨b.length - 1, by omega⟩
  rw [hm]
  simp only [Cx.decF, if_neg hn, hf]
  rw [Int.toNat_natCast, Cx.decF_more enc m (b.drop n).length (b.drop n) (by rw [List.length_drop]; simp only at hb; omega) (Nat.le_refl _)]

theorem Cx.dec_len (enc : Int) : ∀ (f : Nat) (b : List Int), (Cx.decF enc f b).length ≤ b.length := by
  intro f
  induction f with
  | zero => intro b; simp [Cx.decF]
  | succ f ih =>
    intro b
    by_cases hn : b = []
    · simp [Cx.decF, hn]
    · have hb := Cx.fst_bd enc b hn
      have := ih (b.drop (Cx.fst enc b).2.toNat)
      simp only [Cx.decF, if_neg hn, List.length_cons]
      rw [List.length_drop] at this
      omega

theorem m_first1 (w : World) : (method 229 76 (.agg #[]) "copyist/codec.first").run Tryz.prog w = .ok (71, .agg #[]) w := by kernel_rfl
theorem m_first2 (k : Int) (w : World) : (method 229 78 (.agg #[.int .i64 k]) "copyist/codec.first").run Tryz.prog w = .ok (102, .agg #[.int .i64 k]) w := by kernel_rfl
theorem m_first4 (w : World) : (method 229 79 (.agg #[]) "copyist/codec.first").run Tryz.prog w = .ok (114, .agg #[]) w := by kernel_rfl

theorem fst1_any (v : Value) (zs : List Int) (a : Int) (n : Nat) (w : World) (h : Rd .u8 w v zs) (hb : Byt zs) (hn : zs ≠ []) (hf : Cx.fst 1 zs = (a, (n : Int))) :
    Calls Tryz.prog 71 #[.agg #[], v] w fun e w' => e = .returned (.tuple #[.int .i64 a, .int .i64 n]) ∧ Below w.heap.size w w' := by
  have := first8_any v zs w h hb hn
  rwa [show Cx.first8 zs = (a, (n : Int)) from hf] at this
theorem fst2_any (v : Value) (zs : List Int) (a : Int) (n : Nat) (w : World) (h : Rd .u8 w v zs) (hb : Byt zs) (hn : zs ≠ []) (hf : Cx.fst 2 zs = (a, (n : Int))) :
    Calls Tryz.prog 102 #[.agg #[.int .i64 0], v] w fun e w' => e = .returned (.tuple #[.int .i64 a, .int .i64 n]) ∧ Below w.heap.size w w' := by
  have := first16_any 0 v zs w h hb (.inl rfl) hn
  rwa [show Cx.first16 0 zs = (a, (n : Int)) from hf] at this
theorem fst3_any (v : Value) (zs : List Int) (a : Int) (n : Nat) (w : World) (h : Rd .u8 w v zs) (hb : Byt zs) (hn : zs ≠ []) (hf : Cx.fst 3 zs = (a, (n : Int))) :
    Calls Tryz.prog 102 #[.agg #[.int .i64 1], v] w fun e w' => e = .returned (.tuple #[.int .i64 a, .int .i64 n]) ∧ Below w.heap.size w w' := by
  have := first16_any 1 v zs w h hb (.inr rfl) hn
  rwa [show Cx.first16 1 zs = (a, (n : Int)) from hf] at this
theorem fst4_any (v : Value) (zs : List Int) (a : Int) (n : Nat) (w : World) (h : Rd .u8 w v zs) (hb : Byt zs) (hn : zs ≠ []) (hf : Cx.fst 4 zs = (a, (n : Int))) :
    Calls Tryz.prog 114 #[.agg #[], v] w fun e w' => e = .returned (.tuple #[.int .i64 a, .int .i64 n]) ∧ Below w.heap.size w w' := by
  have := first4_any v zs w h hb hn
  have e : (Cx.c0 zs, (1 : Int)) = (a, (n : Int)) := hf
  rw [Prod.mk.injEq] at e
  rwa [e.1, e.2] at this

def lenOf : Value → Nat | .slice _ n _ => n | _ => 0

/-- A slice cut at its head. -/
theorem Rd.cut_same {k : IntKind} {w : World} {ao : Option Addr} {len cap n : Nat} {zs : List Int} (h : Rd k w (.slice ao len cap) zs) (hc : cap = n) : Rd k w (.slice ao (len - n) (cap - n)) (zs.drop n) := by
  obtain ⟨ao', cap', hv, h1, h2, h3⟩ := h
  cases hv
  have hd : zs.drop n = [] := List.drop_eq_nil_of_le (by omega)
  rw [hd]
  exact ⟨ao, cap - n, by simp; omega, by simp, by omega, fun h => absurd rfl h⟩
theorem Rd.cut {k : IntKind} {w : World} {b off len cap n : Nat} {zs : List Int} (h : Rd k w (.slice (some ⟨b, off, none⟩) len cap) zs) (hn : n ≤ zs.length) : Rd k w (.slice (some ⟨b, off + n, none⟩) (len - n) (cap - n)) (zs.drop n) := by
  obtain ⟨ao', cap', hv, h1, h2, h3⟩ := h
  cases hv
  refine ⟨_, cap - n, by rw [List.length_drop], by rw [List.length_drop]; omega, by omega, fun hd => ?_⟩
  obtain ⟨b', off', ha, hb, hc⟩ := h3 (fun h => hd (by rw [h]; simp))
  cases ha
  refine ⟨b, off + n, rfl, hb, fun i hi => ?_⟩
  rw [List.length_drop] at hi
  rw [Nat.add_assoc, hc (n + i) (by omega), List.getElem?_drop]

theorem Rd.cut_if {k : IntKind} {w : World} {b off len cap n : Nat} {zs : List Int} (h : Rd k w (.slice (some ⟨b, off, none⟩) len cap) zs) (hn : n ≤ zs.length) : Rd k w (.slice (if cap = n then some ⟨b, off, none⟩ else some ⟨b, off + n, none⟩) (len - n) (cap - n)) (zs.drop n) := by
  split
  · exact h.cut_same (by assumption)
  · exact h.cut hn

theorem snoc_map (l : List Int) (a : Int) : l.map (Value.int .i64) ++ [Value.int .i64 a] = (l ++ [a]).map (Value.int .i64) := by simp

set_option maxRecDepth 100000 in
set_option maxHeartbeats 1000000 in
theorem decodeAll_1 (v : Value) (zs : List Int) (w : World) (h : Rd .u8 w v zs) (hb : Byt zs) (hz : zs.length * 8 ≤ 140737488355328) :
    Calls Tryz.prog 33 #[.iface 76 (.agg #[]), v] w fun e w' => ∃ v', e = .returned v' ∧ w'.ownsRow w.heap.size 3 1 v' (Cx.dec 1 zs).length ((Cx.dec 1 zs).map (Value.int .i64)) ∧ Below w.heap.size w w' := by
  obtain ⟨i0, hi, hz0, hz1, hz2⟩ := info_parts Tryz.info_i64
  have HR : Hid (Rd .u8 w v zs) := h
  have HB : Hid (Byt zs) := hb
  clear h hb
  have hmt := m_first1
  go_enter Tryz.func33, Tryz.ntmps33
  go_wp2_with fail
  go_loopw [1, 5] (fun bv o wr => ∃ ys l : List Int, Hid (Cx.dec 1 zs = l ++ Cx.dec 1 ys) ∧ l.length + ys.length ≤ zs.length ∧ Hid (Rd .u8 w bv ys) ∧ Hid (Byt ys) ∧ wr.ownsRow w.heap.size 3 1 o l.length (l.map (Value.int .i64)) ∧ Below w.heap.size w wr) (fun bv _ _ => lenOf bv)
  case atStart => exact ⟨zs, [], rfl, by simp, HR.out, HB.out, World.ownsRow_nil _ _ _ _, Below.refl _ _⟩
  case round =>
    obtain ⟨ys, l, HD, hle, HY, HYB, hown, hbw⟩ := hrel
    have hw' : w.heap.size ≤ wr.heap.size := hbw.size
    have hylen := HY.out.len
    by_cases hn : ys = []
    · have HE : Hid (Cx.dec 1 zs = l) := by unfold Hid; rw [HD.out, hn, Cx.dec_nil, List.append_nil]
      obtain ⟨ao, cap, hv, hlc, hcm, _⟩ := HY.out
      rw [hn] at hv
      subst hv
      clear HY HD HYB
      simp only [List.length_nil]
      go_wp2
      go_ret
      exact ⟨_, rfl, by rw [HE.out]; exact hown, hbw⟩
    · obtain ⟨a, n, hf, hn1, hn2⟩ : ∃ (a : Int) (n : Nat), Cx.fst 1 ys = (a, (n : Int)) ∧ 1 ≤ n ∧ n ≤ ys.length := by
        have := Cx.fst_bd 1 ys hn
        exact ⟨_, (Cx.fst 1 ys).2.toNat, Prod.ext rfl (by simp only; omega), by omega, by omega⟩
      have HF : Hid (Cx.fst 1 ys = (a, (n : Int))) := hf
      have HD' : Hid (Cx.dec 1 zs = (l ++ [a]) ++ Cx.dec 1 (ys.drop n)) := by unfold Hid; rw [HD.out, Cx.dec_cons 1 ys hn a n hf]; simp
      have HNE : Hid (ys ≠ []) := hn
      have hyp : 0 < ys.length := List.length_pos_iff.2 hn
      obtain ⟨ao, cap, hv, hlc, hcm, hrest⟩ := HY.out
      obtain ⟨b, off, hao, _⟩ := hrest hn
      subst hao
      subst hv
      have hcm' : cap ≤ 9223372036854775807 := hcm
      have HT := snoc_map l a
      have HT' : Hid (l.map (Value.int .i64) ++ [Value.int .i64 a] = (l ++ [a]).map (Value.int .i64)) := HT
      have hdl : (ys.drop n).length = ys.length - n := List.length_drop
      clear hf hn hrest hcm HT HD
      generalize hml : l.map (Value.int .i64) = ml at *
      clear hml
      go_wp2_with fail
      refine (fst1_any _ ys a n _ (HY.out.ext hbw) HYB.out HNE.out HF.out).mono ?_
      rintro e w1 ⟨rfl, hb1⟩
      have hown1 := own_ext hown hb1
      have hbw1 : Below w.heap.size w w1 := ext_trans hbw hb1
      have hw1 : w.heap.size ≤ w1.heap.size := hbw1.size
      clear hown hbw hb1
      go_wp2_with (at_builtin; refine wpList_append_own _ rfl _ _ 36 rfl w.heap.size 3 i0 (.int .i64 0) 1 8 Tryz.underlying36 hi hz0 hz1 hz2 rfl (by decide) _ _ _ rfl (hown1.alloc _) ⟨w1.heap.size, 0, none⟩ 1 1 [.int .i64 a] rfl rfl (cell_one_new _ _ _) (one_i64 _) (by unfold maxLen; omega) (by omega) (by simp; omega) ?_; intro v' w' hown' hg' hx')
      all_goals refine ⟨⟨ys.drop n, l ++ [a], HD'.out, ?_, ?_, HYB.out.drop n, ?_, below_push hbw1 hown1 hg'⟩, ?_⟩
      all_goals first
        | exact HY.out.cut_if hn2
        | exact HY.out.cut hn2
        | exact HY.out.cut_same (by assumption)
        | (rw [hdl, List.length_append, List.length_singleton]; omega)
        | (rw [List.length_append]; rw [HT'.out] at hown'; exact hown')
        | (simp only [lenOf]; omega)

set_option maxRecDepth 100000 in
set_option maxHeartbeats 1000000 in
theorem decodeAll_2 (v : Value) (zs : List Int) (w : World) (h : Rd .u8 w v zs) (hb : Byt zs) (hz : zs.length * 8 ≤ 140737488355328) :
    Calls Tryz.prog 33 #[.iface 78 (.agg #[.int .i64 0]), v] w fun e w' => ∃ v', e = .returned v' ∧ w'.ownsRow w.heap.size 3 1 v' (Cx.dec 2 zs).length ((Cx.dec 2 zs).map (Value.int .i64)) ∧ Below w.heap.size w w' := by
  obtain ⟨i0, hi, hz0, hz1, hz2⟩ := info_parts Tryz.info_i64
  have HR : Hid (Rd .u8 w v zs) := h
  have HB : Hid (Byt zs) := hb
  clear h hb
  have hmt := m_first2
  go_enter Tryz.func33, Tryz.ntmps33
  go_wp2_with fail
  go_loopw [1, 5] (fun bv o wr => ∃ ys l : List Int, Hid (Cx.dec 2 zs = l ++ Cx.dec 2 ys) ∧ l.length + ys.length ≤ zs.length ∧ Hid (Rd .u8 w bv ys) ∧ Hid (Byt ys) ∧ wr.ownsRow w.heap.size 3 1 o l.length (l.map (Value.int .i64)) ∧ Below w.heap.size w wr) (fun bv _ _ => lenOf bv)
  case atStart => exact ⟨zs, [], rfl, by simp, HR.out, HB.out, World.ownsRow_nil _ _ _ _, Below.refl _ _⟩
  case round =>
    obtain ⟨ys, l, HD, hle, HY, HYB, hown, hbw⟩ := hrel
    have hw' : w.heap.size ≤ wr.heap.size := hbw.size
    have hylen := HY.out.len
    by_cases hn : ys = []
    · have HE : Hid (Cx.dec 2 zs = l) := by unfold Hid; rw [HD.out, hn, Cx.dec_nil, List.append_nil]
      obtain ⟨ao, cap, hv, hlc, hcm, _⟩ := HY.out
      rw [hn] at hv
      subst hv
      clear HY HD HYB
      simp only [List.length_nil]
      go_wp2
      go_ret
      exact ⟨_, rfl, by rw [HE.out]; exact hown, hbw⟩
    · obtain ⟨a, n, hf, hn1, hn2⟩ : ∃ (a : Int) (n : Nat), Cx.fst 2 ys = (a, (n : Int)) ∧ 1 ≤ n ∧ n ≤ ys.length := by
        have := Cx.fst_bd 2 ys hn
        exact ⟨_, (Cx.fst 2 ys).2.toNat, Prod.ext rfl (by simp only; omega), by omega, by omega⟩
      have HF : Hid (Cx.fst 2 ys = (a, (n : Int))) := hf
      have HD' : Hid (Cx.dec 2 zs = (l ++ [a]) ++ Cx.dec 2 (ys.drop n)) := by unfold Hid; rw [HD.out, Cx.dec_cons 2 ys hn a n hf]; simp
      have HNE : Hid (ys ≠ []) := hn
      have hyp : 0 < ys.length := List.length_pos_iff.2 hn
      obtain ⟨ao, cap, hv, hlc, hcm, hrest⟩ := HY.out
      obtain ⟨b, off, hao, _⟩ := hrest hn
      subst hao
      subst hv
      have hcm' : cap ≤ 9223372036854775807 := hcm
      have HT := snoc_map l a
      have HT' : Hid (l.map (Value.int .i64) ++ [Value.int .i64 a] = (l ++ [a]).map (Value.int .i64)) := HT
      have hdl : (ys.drop n).length = ys.length - n := List.length_drop
      clear hf hn hrest hcm HT HD
      generalize hml : l.map (Value.int .i64) = ml at *
      clear hml
      go_wp2_with fail
      refine (fst2_any _ ys a n _ (HY.out.ext hbw) HYB.out HNE.out HF.out).mono ?_
      rintro e w1 ⟨rfl, hb1⟩
      have hown1 := own_ext hown hb1
      have hbw1 : Below w.heap.size w w1 := ext_trans hbw hb1
      have hw1 : w.heap.size ≤ w1.heap.size := hbw1.size
      clear hown hbw hb1
      go_wp2_with (at_builtin; refine wpList_append_own _ rfl _ _ 36 rfl w.heap.size 3 i0 (.int .i64 0) 1 8 Tryz.underlying36 hi hz0 hz1 hz2 rfl (by decide) _ _ _ rfl (hown1.alloc _) ⟨w1.heap.size, 0, none⟩ 1 1 [.int .i64 a] rfl rfl (cell_one_new _ _ _) (one_i64 _) (by unfold maxLen; omega) (by omega) (by simp; omega) ?_; intro v' w' hown' hg' hx')
      all_goals refine ⟨⟨ys.drop n, l ++ [a], HD'.out, ?_, ?_, HYB.out.drop n, ?_, below_push hbw1 hown1 hg'⟩, ?_⟩
      all_goals first
        | exact HY.out.cut_if hn2
        | exact HY.out.cut hn2
        | exact HY.out.cut_same (by assumption)
        | (rw [hdl, List.length_append, List.length_singleton]; omega)
        | (rw [List.length_append]; rw [HT'.out] at hown'; exact hown')
        | (simp only [lenOf]; omega)

set_option maxRecDepth 100000 in
set_option maxHeartbeats 1000000 in
theorem decodeAll_3 (v : Value) (zs : List Int) (w : World) (h : Rd .u8 w v zs) (hb : Byt zs) (hz : zs.length * 8 ≤ 140737488355328) :
    Calls Tryz.prog 33 #[.iface 78 (.agg #[.int .i64 1]), v] w fun e w' => ∃ v', e = .returned v' ∧ w'.ownsRow w.heap.size 3 1 v' (Cx.dec 3 zs).length ((Cx.dec 3 zs).map (Value.int .i64)) ∧ Below w.heap.size w w' := by
  obtain ⟨i0, hi, hz0, hz1, hz2⟩ := info_parts Tryz.info_i64
  have HR : Hid (Rd .u8 w v zs) := h
  have HB : Hid (Byt zs) := hb
  clear h hb
  have hmt := m_first2
  go_enter Tryz.func33, Tryz.ntmps33
  go_wp2_with fail
  go_loopw [1, 5] (fun bv o wr => ∃ ys l : List Int, Hid (Cx.dec 3 zs = l ++ Cx.dec 3 ys) ∧ l.length + ys.length ≤ zs.length ∧ Hid (Rd .u8 w bv ys) ∧ Hid (Byt ys) ∧ wr.ownsRow w.heap.size 3 1 o l.length (l.map (Value.int .i64)) ∧ Below w.heap.size w wr) (fun bv _ _ => lenOf bv)
  case atStart => exact ⟨zs, [], rfl, by simp, HR.out, HB.out, World.ownsRow_nil _ _ _ _, Below.refl _ _⟩
  case round =>
    obtain ⟨ys, l, HD, hle, HY, HYB, hown, hbw⟩ := hrel
    have hw' : w.heap.size ≤ wr.heap.size := hbw.size
    have hylen := HY.out.len
    by_cases hn : ys = []
    · have HE : Hid (Cx.dec 3 zs = l) := by unfold Hid; rw [HD.out, hn, Cx.dec_nil, List.append_nil]
      obtain ⟨ao, cap, hv, hlc, hcm, _⟩ := HY.out
      rw [hn] at hv
      subst hv
      clear HY HD HYB
      simp only [List.length_nil]
      go_wp2
      go_ret
      exact ⟨_, rfl, by rw [HE.out]; exact hown, hbw⟩
    · obtain ⟨a, n, hf, hn1, hn2⟩ : ∃ (a : Int) (n : Nat), Cx.fst 3 ys = (a, (n : Int)) ∧ 1 ≤ n ∧ n ≤ ys.length := by
        have := Cx.fst_bd 3 ys hn
        exact ⟨_, (Cx.fst 3 ys).2.toNat, Prod.ext rfl (by simp only; omega), by omega, by omega⟩
      have HF : Hid (Cx.fst 3 ys = (a, (n : Int))) := hf
      have HD' : Hid (Cx.dec 3 zs = (l ++ [a]) ++ Cx.dec 3 (ys.drop n)) := by unfold Hid; rw [HD.out, Cx.dec_cons 3 ys hn a n hf]; simp
      have HNE : Hid (ys ≠ []) := hn
      have hyp : 0 < ys.length := List.length_pos_iff.2 hn
      obtain ⟨ao, cap, hv, hlc, hcm, hrest⟩ := HY.out
      obtain ⟨b, off, hao, _⟩ := hrest hn
      subst hao
      subst hv
      have hcm' : cap ≤ 9223372036854775807 := hcm
      have HT := snoc_map l a
      have HT' : Hid (l.map (Value.int .i64) ++ [Value.int .i64 a] = (l ++ [a]).map (Value.int .i64)) := HT
      have hdl : (ys.drop n).length = ys.length - n := List.length_drop
      clear hf hn hrest hcm HT HD
      generalize hml : l.map (Value.int .i64) = ml at *
      clear hml
      go_wp2_with fail
      refine (fst3_any _ ys a n _ (HY.out.ext hbw) HYB.out HNE.out HF.out).mono ?_
      rintro e w1 ⟨rfl, hb1⟩
      have hown1 := own_ext hown hb1
      have hbw1 : Below w.heap.size w w1 := ext_trans hbw hb1
      have hw1 : w.heap.size ≤ w1.heap.size := hbw1.size
      clear hown hbw hb1
      go_wp2_with (at_builtin; refine wpList_append_own _ rfl _ _ 36 rfl w.heap.size 3 i0 (.int .i64 0) 1 8 Tryz.underlying36 hi hz0 hz1 hz2 rfl (by decide) _ _ _ rfl (hown1.alloc _) ⟨w1.heap.size, 0, none⟩ 1 1 [.int .i64 a] rfl rfl (cell_one_new _ _ _) (one_i64 _) (by unfold maxLen; omega) (by omega) (by simp; omega) ?_; intro v' w' hown' hg' hx')
      all_goals refine ⟨⟨ys.drop n, l ++ [a], HD'.out, ?_, ?_, HYB.out.drop n, ?_, below_push hbw1 hown1 hg'⟩, ?_⟩
      all_goals first
        | exact HY.out.cut_if hn2
        | exact HY.out.cut hn2
        | exact HY.out.cut_same (by assumption)
        | (rw [hdl, List.length_append, List.length_singleton]; omega)
        | (rw [List.length_append]; rw [HT'.out] at hown'; exact hown')
        | (simp only [lenOf]; omega)

set_option maxRecDepth 100000 in
set_option maxHeartbeats 1000000 in
theorem decodeAll_4 (v : Value) (zs : List Int) (w : World) (h : Rd .u8 w v zs) (hb : Byt zs) (hz : zs.length * 8 ≤ 140737488355328) :
    Calls Tryz.prog 33 #[.iface 79 (.agg #[]), v] w fun e w' => ∃ v', e = .returned v' ∧ w'.ownsRow w.heap.size 3 1 v' (Cx.dec 4 zs).length ((Cx.dec 4 zs).map (Value.int .i64)) ∧ Below w.heap.size w w' := by
  obtain ⟨i0, hi, hz0, hz1, hz2⟩ := info_parts Tryz.info_i64
  have HR : Hid (Rd .u8 w v zs) := h
  have HB : Hid (Byt zs) := hb
  clear h hb
  have hmt := m_first4
  go_enter Tryz.func33, Tryz.ntmps33
  go_wp2_with fail
  go_loopw [1, 5] (fun bv o wr => ∃ ys l : List Int, Hid (Cx.dec 4 zs = l ++ Cx.dec 4 ys) ∧ l.length + ys.length ≤ zs.length ∧ Hid (Rd .u8 w bv ys) ∧ Hid (Byt ys) ∧ wr.ownsRow w.heap.size 3 1 o l.length (l.map (Value.int .i64)) ∧ Below w.heap.size w wr) (fun bv _ _ => lenOf bv)
  case atStart => exact ⟨zs, [], rfl, by simp, HR.out, HB.out, World.ownsRow_nil _ _ _ _, Below.refl _ _⟩
  case round =>
    obtain ⟨ys, l, HD, hle, HY, HYB, hown, hbw⟩ := hrel
    have hw' : w.heap.size ≤ wr.heap.size := hbw.size
    have hylen := HY.out.len
    by_cases hn : ys = []
    · have HE : Hid (Cx.dec 4 zs = l) := by unfold Hid; rw [HD.out, hn, Cx.dec_nil, List.append_nil]
      obtain ⟨ao, cap, hv, hlc, hcm, _⟩ := HY.out
      rw [hn] at hv
      subst hv
      clear HY HD HYB
      simp only [List.length_nil]
      go_wp2
      go_ret
      exact ⟨_, rfl, by rw [HE.out]; exact hown, hbw⟩
    · obtain ⟨a, n, hf, hn1, hn2⟩ : ∃ (a : Int) (n : Nat), Cx.fst 4 ys = (a, (n : Int)) ∧ 1 ≤ n ∧ n ≤ ys.length := by
        have := Cx.fst_bd 4 ys hn
        exact ⟨_, (Cx.fst 4 ys).2.toNat, Prod.ext rfl (by simp only; omega), by omega, by omega⟩
      have HF : Hid (Cx.fst 4 ys = (a, (n : Int))) := hf
      have HD' : Hid (Cx.dec 4 zs = (l ++ [a]) ++ Cx.dec 4 (ys.drop n)) := by unfold Hid; rw [HD.out, Cx.dec_cons 4 ys hn a n hf]; simp
      have HNE : Hid (ys ≠ []) := hn
      have hyp : 0 < ys.length := List.length_pos_iff.2 hn
      obtain ⟨ao, cap, hv, hlc, hcm, hrest⟩ := HY.out
      obtain ⟨b, off, hao, _⟩ := hrest hn
      subst hao
      subst hv
      have hcm' : cap ≤ 9223372036854775807 := hcm
      have HT := snoc_map l a
      have HT' : Hid (l.map (Value.int .i64) ++ [Value.int .i64 a] = (l ++ [a]).map (Value.int .i64)) := HT
      have hdl : (ys.drop n).length = ys.length - n := List.length_drop
      clear hf hn hrest hcm HT HD
      generalize hml : l.map (Value.int .i64) = ml at *
      clear hml
      go_wp2_with fail
      refine (fst4_any _ ys a n _ (HY.out.ext hbw) HYB.out HNE.out HF.out).mono ?_
      rintro e w1 ⟨rfl, hb1⟩
      have hown1 := own_ext hown hb1
      have hbw1 : Below w.heap.size w w1 := ext_trans hbw hb1
      have hw1 : w.heap.size ≤ w1.heap.size := hbw1.size
      clear hown hbw hb1
      go_wp2_with (at_builtin; refine wpList_append_own _ rfl _ _ 36 rfl w.heap.size 3 i0 (.int .i64 0) 1 8 Tryz.underlying36 hi hz0 hz1 hz2 rfl (by decide) _ _ _ rfl (hown1.alloc _) ⟨w1.heap.size, 0, none⟩ 1 1 [.int .i64 a] rfl rfl (cell_one_new _ _ _) (one_i64 _) (by unfold maxLen; omega) (by omega) (by simp; omega) ?_; intro v' w' hown' hg' hx')
      all_goals refine ⟨⟨ys.drop n, l ++ [a], HD'.out, ?_, ?_, HYB.out.drop n, ?_, below_push hbw1 hown1 hg'⟩, ?_⟩
      all_goals first
        | exact HY.out.cut_if hn2
        | exact HY.out.cut hn2
        | exact HY.out.cut_same (by assumption)
        | (rw [hdl, List.length_append, List.length_singleton]; omega)
        | (rw [List.length_append]; rw [HT'.out] at hown'; exact hown')
        | (simp only [lenOf]; omega)

end Go.Proofs.YtmfbobibpebfnaaGreat
