import Derived.Test.YtmfbobibpebfnaaGreatJ05
import Derived.Test.YtmfbobibpebfnaaGreatJ11
/- Guess of the document. -/
namespace Go.Proofs.YtmfbobibpebfnaaGreat
open Go.RowKit

/-- How many of the first k bytes are zeros at places of that parity. -/
def Cx.zp (zs : List Int) (p : Nat) : Nat → Nat
  | 0 => 0
  | k + 1 => Cx.zp zs p k + if k % 2 = p ∧ zs[k]?.getD 0 = 0 then 1 else 0
theorem Cx.zp_le (zs : List Int) (p : Nat) : ∀ k, Cx.zp zs p k ≤ k := by
  intro k
  induction k with
  | zero => exact Nat.le_refl _
  | succ k ih => unfold Cx.zp; split <;> omega
theorem Cx.zp_zc (zs : List Int) (p : Nat) (hp : p ≤ 1) : ∀ u, Cx.zp zs p (2 * u) = Cx.zc zs p u := by
  intro u
  induction u with
  | zero => rfl
  | succ u ih =>
    show Cx.zp zs p (2 * u + 1 + 1) = Cx.zc zs p u + _
    unfold Cx.zp
    unfold Cx.zp
    rw [ih]
    rcases (show p = 0 ∨ p = 1 by omega) with rfl | rfl
    · rw [if_neg (show ¬ ((2 * u + 1) % 2 = 0 ∧ zs[2 * u + 1]?.getD 0 = 0) by omega), Nat.add_zero, Nat.add_zero]
      congr 1
      by_cases hc : zs[2 * u]?.getD 0 = 0
      · rw [if_pos ⟨by omega, hc⟩, if_pos hc]
      · rw [if_neg (fun h => hc h.2), if_neg hc]
    · rw [if_neg (show ¬ (2 * u % 2 = 1 ∧ zs[2 * u]?.getD 0 = 0) by omega), Nat.add_zero]
      congr 1
      by_cases hc : zs[2 * u + 1]?.getD 0 = 0
      · rw [if_pos ⟨by omega, hc⟩, if_pos hc]
      · rw [if_neg (fun h => hc h.2), if_neg hc]

theorem Cx.hi8_succ (zs : List Int) (k : Nat) (h : k < zs.length) : Cx.hi8 (zs.take (k + 1)) = Cx.hi8 (zs.take k) + if 128 ≤ zs[k]?.getD 0 then 1 else 0 := by
  unfold Cx.hi8
  rw [List.take_add_one, List.countP_append, List.getElem?_eq_getElem h]
  simp [List.countP_cons]
theorem Cx.neg8_succ (zs : List Int) (k : Nat) (h : k < zs.length) : Cx.neg8 (zs.take (k + 1)) = Cx.neg8 (zs.take k) + if zs[k]?.getD 0 < 0 then 1 else 0 := by
  unfold Cx.neg8
  rw [List.take_add_one, List.countP_append, List.getElem?_eq_getElem h]
  simp [List.countP_cons]
theorem Cx.det_iff (zs : List Int) : 0 < (Cx.det zs).2 ↔ (Cx.det zs).1 ≠ 0 := by
  unfold Cx.det; repeat' split
  all_goals simp

set_option maxRecDepth 100000 in
set_option maxHeartbeats 4000000 in
/-- The document's Guess. -/
theorem rGuess_any (v : Value) (zs : List Int) (w : World) (h : Rd .u8 w v zs) (hb : Byt zs) (hz : zs.length * 8 ≤ 140737488355328) :
    Calls Tryz.prog 54 #[v] w fun e w' => e = .returned (.tuple #[.int .i64 (Cx.gue zs).1, .float .f64 (Cx.gue zs).2]) ∧ Below w.heap.size w w' := by
  have HR : Hid (Rd .u8 w v zs) := h
  have HB : Hid (Byt zs) := hb
  have hle := Cx.hi8_le zs
  have hrl := Cx.rw_le zs.length zs (Nat.le_refl _) hb
  obtain ⟨ao, cap, rfl, hl, hm, hc⟩ := h
  have HCC : Hid (zs ≠ [] → ∃ b off, ao = some ⟨b, off, none⟩ ∧ b < w.heap.size ∧ ∀ i, i < zs.length → w.cell? ⟨b, off + i, none⟩ = some (.int .u8 (zs[i]?.getD 0))) := hc
  have hcap : cap ≤ 9223372036854775807 := hm
  have HG : Hid (Cx.gue zs = if 0 < (Cx.det zs).2 then ((Cx.det zs).1, 4607182418800017408) else if (Cx.wid zs (zs.length / 2)).1 ≠ 0 then Cx.wid zs (zs.length / 2) else Cx.nar zs) := rfl
  have HDI : Hid (0 < (Cx.det zs).2 ↔ (Cx.det zs).1 ≠ 0) := Cx.det_iff zs
  have hdv : Int.tdiv (zs.length : Int) 2 = ((zs.length / 2 : Nat) : Int) := by rw [Int.tdiv_eq_ediv_of_nonneg (by omega)]; omega
  have hdv' : (zs.length : Int) / 2 = ((zs.length / 2 : Nat) : Int) := by omega
  have hu2 : 2 * (zs.length / 2) ≤ zs.length := by omega
  clear hc hb hm
  generalize Cx.gue zs = G at *
  generalize zs.length / 2 = u at *
  go_enter Tryz.func54, Tryz.ntmps54
  go_wp2_with fail
  refine (rDetect_any _ zs _ HR.out (by omega)).mono ?_
  rintro e w1 ⟨rfl, hb1⟩
  have HW1 : Hid (Below w.heap.size w w1) := hb1
  clear hb1
  generalize (Cx.det zs).1 = d1 at *
  generalize (Cx.det zs).2 = d2 at *
  by_cases hd : d1 = 0
  · have hd2 : ¬ 0 < d2 := fun h => (HDI.out.1 h) hd
    have HG' : Hid (G = if (Cx.wid zs u).1 ≠ 0 then Cx.wid zs u else Cx.nar zs) := by unfold Hid; rw [HG.out, if_neg hd2]
    subst hd
    clear HG HDI hd2
    by_cases hu : u = 0
    · subst hu
      have HE0 : Hid (G = Cx.nar zs) := by unfold Hid; rw [HG'.out]; exact if_neg (fun h => h rfl)
      clear HG'
      go_wp2_with fail
      go_loopw [11, 12] (fun hv i wq => ∃ k : Nat, k ≤ zs.length ∧ i = .int .i64 k ∧ hv = .int .i64 (Cx.hi8 (zs.take k) : Nat) ∧ Below w1.heap.size w1 wq) (fun _ i _ => zs.length - (intOf i).toNat)
      case atStart => exact ⟨0, Nat.zero_le _, rfl, rfl, Below.refl _ _⟩
      case round =>
        obtain ⟨k, hk, rfl, rfl, hbq⟩ := hrel
        have HBQ : Hid (Below w.heap.size w wr) := ext_trans HW1.out hbq
        by_cases hlt : k < zs.length
        · obtain ⟨b, off, rfl, hbl, hcl⟩ := HCC.out (List.length_pos_iff.1 (by omega))
          have hcx : wr.cell? ⟨b, off + k, none⟩ = some (.int .u8 (zs[k]?.getD 0)) := (HBQ.out.cell (p := ⟨b, off + k, none⟩) hbl).trans (hcl k hlt)
          have HS : Hid (Cx.hi8 (zs.take (k + 1)) = Cx.hi8 (zs.take k) + if 128 ≤ zs[k]?.getD 0 then 1 else 0) := Cx.hi8_succ zs k hlt
          have hbk : Cx.hi8 (zs.take k) ≤ zs.length := Nat.le_trans (Cx.hi8_le _) (by rw [List.length_take]; omega)
          generalize zs[k]?.getD 0 = x at *
          generalize Cx.hi8 (zs.take k) = Z at *
          clear hcl
          by_cases hx : 128 ≤ x
          · have HS' : Hid (Cx.hi8 (zs.take (k + 1)) = Z + 1) := by unfold Hid; rw [HS.out, if_pos hx]
            clear HS
            go_wp2
            go_roundw
            case rel => exact ⟨k + 1, by omega, by go_num, by rw [HS'.out]; go_num, hbq⟩
            case measure => simp [intOf]; omega
          · have HS' : Hid (Cx.hi8 (zs.take (k + 1)) = Z) := by unfold Hid; rw [HS.out, if_neg hx]; rfl
            clear HS
            go_wp2
            go_roundw
            case rel => exact ⟨k + 1, by omega, by go_num, by rw [HS'.out], hbq⟩
            case measure => simp [intOf]; omega
        · have HH : Hid (Cx.hi8 (zs.take k) = Cx.hi8 zs) := by unfold Hid; rw [List.take_of_length_le (by omega)]
          rw [HH.out]
          clear hbq
          go_wp2_with fail
          refine (rDecode_any 1 _ zs _ (HR.out.ext HBQ.out) HB.out hz).mono ?_
          rintro e w5 ⟨l, rfl, hl5, hb5⟩
          rw [Cx.dd_yes 1 zs rfl] at hl5
          obtain ⟨la, lc, rfl, hlc, hlm, hlcell⟩ := Rd.of_own hl5
          have hlm' : lc ≤ 9223372036854775807 := hlm
          have HLC : Hid (Cx.dec 1 zs ≠ [] → ∃ b off, la = some ⟨b, off, none⟩ ∧ b < w5.heap.size ∧ ∀ i, i < (Cx.dec 1 zs).length → w5.cell? ⟨b, off + i, none⟩ = some (.int .i64 ((Cx.dec 1 zs)[i]?.getD 0))) := hlcell
          have HW5 : Hid (Below w.heap.size w w5) := ext_trans HBQ.out hb5
          have HDS : Hid (Cx.rw8 zs = Cx.neg8 (Cx.dec 1 zs)) := rfl
          have hdl : (Cx.dec 1 zs).length ≤ zs.length := Cx.dec_len 1 _ zs
          clear hl5 hb5 hlcell hlm HCC
          generalize Cx.dec 1 zs = ds at *
          generalize Cx.er 1 = er at *
          go_wp2_with fail
          go_loopw [13, 16] (fun rv i wq => ∃ k2 : Nat, k2 ≤ ds.length ∧ i = .int .i64 k2 ∧ rv = .int .i64 (Cx.neg8 (ds.take k2) : Nat) ∧ Below w5.heap.size w5 wq) (fun _ i _ => ds.length - (intOf i).toNat)
          case atStart => exact ⟨0, Nat.zero_le _, rfl, rfl, Below.refl _ _⟩
          case round =>
            obtain ⟨k2, hk2, rfl, rfl, hbq⟩ := hrel
            have HBR : Hid (Below w.heap.size w wr) := ext_trans HW5.out hbq
            by_cases hlt2 : k2 < ds.length
            · obtain ⟨b, off, rfl, hbl, hcl⟩ := HLC.out (List.length_pos_iff.1 (by omega))
              have hcx : wr.cell? ⟨b, off + k2, none⟩ = some (.int .i64 (ds[k2]?.getD 0)) := (hbq.cell (p := ⟨b, off + k2, none⟩) hbl).trans (hcl k2 hlt2)
              have HS : Hid (Cx.neg8 (ds.take (k2 + 1)) = Cx.neg8 (ds.take k2) + if ds[k2]?.getD 0 < 0 then 1 else 0) := Cx.neg8_succ ds k2 hlt2
              have hbk : Cx.neg8 (ds.take k2) ≤ ds.length := Nat.le_trans List.countP_le_length (by rw [List.length_take]; omega)
              generalize ds[k2]?.getD 0 = x at *
              generalize Cx.neg8 (ds.take k2) = Z at *
              clear hcl
              by_cases hx : x < 0
              · have HS' : Hid (Cx.neg8 (ds.take (k2 + 1)) = Z + 1) := by unfold Hid; rw [HS.out, if_pos hx]
                clear HS
                go_wp2
                go_roundw
                case rel => exact ⟨k2 + 1, by omega, by go_num, by rw [HS'.out]; go_num, hbq⟩
                case measure => simp [intOf]; omega
              · have HS' : Hid (Cx.neg8 (ds.take (k2 + 1)) = Z) := by unfold Hid; rw [HS.out, if_neg hx]; rfl
                clear HS
                go_wp2
                go_roundw
                case rel => exact ⟨k2 + 1, by omega, by go_num, by rw [HS'.out], hbq⟩
                case measure => simp [intOf]; omega
            · have HT2 : Hid (Cx.neg8 (ds.take k2) = Cx.rw8 zs) := by unfold Hid; rw [List.take_of_length_le (by omega), HDS.out]
              rw [HT2.out]
              clear HLC hbq HDS HT2 HH
              have HN : Hid (G = if Cx.rw8 zs = 0 then (1, 4607182418800017408) else if Fl.ge (Fl.shr (Cx.hi8 zs - Cx.rw8 zs) (Cx.hi8 zs)) 4604930618986332160 = true then (1, Fl.shr (Cx.hi8 zs - Cx.rw8 zs) (Cx.hi8 zs)) else (4, Fl.less (Fl.shr (Cx.hi8 zs - Cx.rw8 zs) (Cx.hi8 zs)))) := HE0.out
              clear HE0
              generalize Cx.hi8 zs = H at *
              generalize Cx.rw8 zs = R at *
              by_cases hR : R = 0
              · subst hR
                have HE : Hid (G = (1, 4607182418800017408)) := HN.out
                clear HN
                go_wp2
                go_ret2
                exact ⟨by rw [HE.out]; rfl, HBR.out⟩
              · have hRb : ((R : Int) == 0) = false := by rw [beq_eq_false_iff_ne]; omega
                have hsub : (H : Int) - (R : Int) = ((H - R : Nat) : Int) := by omega
                have hq := Fl.shr_eq (H - R) H (by omega) (by omega)
                have hok := Fl.shr_ok (H - R) H (by omega) (by omega)
                have hl := Fl.less_eq _ hok
                have HN' : Hid (G = if Fl.ge (Fl.shr (H - R) H) 4604930618986332160 = true then (1, Fl.shr (H - R) H) else (4, Fl.less (Fl.shr (H - R) H))) := by unfold Hid; rw [HN.out, if_neg hR]
                clear HN hok
                rw [← hsub] at hq
                generalize Fl.shr (H - R) H = q at *
                have hop : ∀ t w, (binOp .quo t (.float .f64 (floatOfInt .f64 ((H : Int) - (R : Int)))) (.float .f64 (floatOfInt .f64 (H : Int)))).run Tryz.prog w = .ok (.float .f64 q) w := fun t w => run_float_arith w .quo t .f64 _ _ q hq
                have hos : ∀ t w, (binOp .sub t (.float .f64 4607182418800017408) (.float .f64 q)).run Tryz.prog w = .ok (.float .f64 (Fl.less q)) w := fun t w => run_float_arith w .sub t .f64 _ _ _ hl
                have hge := Fl.ge_eq
                clear hq hl hsub
                cases hg : Fl.ge q 4604930618986332160
                · have HE : Hid (G = (4, Fl.less q)) := by unfold Hid; rw [HN'.out, hg]; rfl
                  clear HN'
                  go_wp2
                  go_ret2
                  exact ⟨by rw [HE.out]; rfl, HBR.out⟩
                · have HE : Hid (G = (1, q)) := by unfold Hid; rw [HN'.out, hg]; rfl
                  clear HN'
                  go_wp2
                  go_ret2
                  exact ⟨by rw [HE.out]; rfl, HBR.out⟩
    · have hup : 0 < u := by omega
      have hub : ((u : Int) == 0) = false := by rw [beq_eq_false_iff_ne]; omega
      have hBu : w.heap.size ≤ w1.heap.size := HW1.out.size
      go_wp2_with fail
      go_loopw [8] (fun i wr => ∃ k : Nat, k ≤ 2 * u ∧ i = .int .i64 k ∧ wr.cell? ⟨w1.heap.size, 0, none⟩ = some (.int .i64 (Cx.zp zs 0 k : Nat)) ∧ wr.cell? ⟨w1.heap.size, 1, none⟩ = some (.int .i64 (Cx.zp zs 1 k : Nat)) ∧ wr.frozen? ⟨w1.heap.size, 0, none⟩ = false ∧ wr.frozen? ⟨w1.heap.size, 1, none⟩ = false ∧ Below w1.heap.size w1 wr) (fun i _ => 2 * u - (intOf i).toNat)
      case atStart => exact ⟨0, Nat.zero_le _, rfl, by simp [Cx.zp], by simp [Cx.zp], by simp, by simp, (Below.refl _ _).alloc (Nat.le_refl _) _⟩
      case round =>
        obtain ⟨k, hk, rfl, hc0, hc1, hf0, hf1, hbw⟩ := hrel
        by_cases hlt : k < 2 * u
        · obtain ⟨b, off, rfl, hbl, hcl⟩ := HCC.out (List.length_pos_iff.1 (by omega))
          have hcx : wr.cell? ⟨b, off + k, none⟩ = some (.int .u8 (zs[k]?.getD 0)) := (hbw.cell (p := ⟨b, off + k, none⟩) (Nat.lt_of_lt_of_le hbl hBu)).trans ((HW1.out.cell (p := ⟨b, off + k, none⟩) hbl).trans (hcl k (by omega)))
          have hlt' : (k : Int) < 2 * (u : Int) := by omega
          have z0 := Cx.zp_le zs 0 k
          have z1 := Cx.zp_le zs 1 k
          have HS0 : Hid (Cx.zp zs 0 (k + 1) = Cx.zp zs 0 k + if k % 2 = 0 ∧ zs[k]?.getD 0 = 0 then 1 else 0) := rfl
          have HS1 : Hid (Cx.zp zs 1 (k + 1) = Cx.zp zs 1 k + if k % 2 = 1 ∧ zs[k]?.getD 0 = 0 then 1 else 0) := rfl
          clear hcl HCC
          generalize zs[k]?.getD 0 = x at *
          generalize Cx.zp zs 0 k = Z0 at *
          generalize Cx.zp zs 1 k = Z1 at *
          by_cases hx : x = 0
          · subst hx
            by_cases hpar : k % 2 = 0
            · have hrm : Int.tmod (k : Int) 2 = 0 := by rw [Int.tmod_eq_emod_of_nonneg (by omega)]; omega
              have hrm' : (k : Int) % 2 = 0 := by omega
              have HT0 : Hid (Cx.zp zs 0 (k + 1) = Z0 + 1) := by unfold Hid; rw [HS0.out, if_pos ⟨by omega, rfl⟩]
              have HT1 : Hid (Cx.zp zs 1 (k + 1) = Z1) := by unfold Hid; rw [HS1.out, if_neg (by omega)]; rfl
              clear HS0 HS1 hpar
              go_wp2
              go_roundw
              case rel =>
                refine ⟨k + 1, by omega, by go_num, ?_, ?_, ?_, ?_, ?_⟩
                · rw [HT0.out]; rw [World.cell?_setCell_same' _ _ _ (by rw [hc0]; rfl)]; rfl
                · rw [HT1.out]; rw [World.cell?_setCell_other]; exact hc1; (intro h; cases h)
                · rw [World.frozen?_setCell]; exact hf0
                · rw [World.frozen?_setCell]; exact hf1
                · exact hbw.setCell (Nat.le_refl _) _
              case measure => simp [intOf]; omega
            · have hrm : Int.tmod (k : Int) 2 = 1 := by rw [Int.tmod_eq_emod_of_nonneg (by omega)]; omega
              have hrm' : (k : Int) % 2 = 1 := by omega
              have HT1 : Hid (Cx.zp zs 1 (k + 1) = Z1 + 1) := by unfold Hid; rw [HS1.out, if_pos ⟨by omega, rfl⟩]
              have HT0 : Hid (Cx.zp zs 0 (k + 1) = Z0) := by unfold Hid; rw [HS0.out, if_neg (by omega)]; rfl
              clear HS0 HS1 hpar
              go_wp2
              go_roundw
              case rel =>
                refine ⟨k + 1, by omega, by go_num, ?_, ?_, ?_, ?_, ?_⟩
                · rw [HT0.out]; rw [World.cell?_setCell_other]; exact hc0; (intro h; cases h)
                · rw [HT1.out]; rw [World.cell?_setCell_same' _ _ _ (by rw [hc1]; rfl)]; rfl
                · rw [World.frozen?_setCell]; exact hf0
                · rw [World.frozen?_setCell]; exact hf1
                · exact hbw.setCell (Nat.le_refl _) _
              case measure => simp [intOf]; omega
          · have hxb : (x == 0) = false := by simp [hx]
            have HT0 : Hid (Cx.zp zs 0 (k + 1) = Z0) := by unfold Hid; rw [HS0.out, if_neg (fun h => hx h.2)]; rfl
            have HT1 : Hid (Cx.zp zs 1 (k + 1) = Z1) := by unfold Hid; rw [HS1.out, if_neg (fun h => hx h.2)]; rfl
            clear HS0 HS1
            go_wp2
            go_roundw
            case rel => exact ⟨k + 1, by omega, by go_num, by rw [HT0.out]; exact hc0, by rw [HT1.out]; exact hc1, hf0, hf1, hbw⟩
            case measure => simp [intOf]; omega
        · obtain rfl : k = 2 * u := by omega
          have hge1 := Fl.ge_eq
          have hle1 := Fl.le_eq
          rw [Cx.zp_zc zs 0 (by omega)] at hc0
          rw [Cx.zp_zc zs 1 (by omega)] at hc1
          have hq0 := Fl.shr_eq (Cx.zc zs 0 u) u hup (by omega)
          have hq1 := Fl.shr_eq (Cx.zc zs 1 u) u hup (by omega)
          have HWD : Hid (Cx.wid zs u = if (Fl.ge (Fl.shr (Cx.zc zs 1 u) u) 4602678819172646912 && Fl.le (Fl.shr (Cx.zc zs 0 u) u) 4593671619917905920) = true then (2, Fl.shr (Cx.zc zs 1 u) u)
              else if (Fl.ge (Fl.shr (Cx.zc zs 0 u) u) 4602678819172646912 && Fl.le (Fl.shr (Cx.zc zs 1 u) u) 4593671619917905920) = true then (3, Fl.shr (Cx.zc zs 0 u) u) else (0, 0)) := by
            unfold Hid Cx.wid; rw [if_neg hu]
          generalize Fl.shr (Cx.zc zs 0 u) u = q0 at *
          generalize Fl.shr (Cx.zc zs 1 u) u = q1 at *
          generalize Cx.zc zs 0 u = N0 at *
          generalize Cx.zc zs 1 u = N1 at *
          have hop0 : ∀ t w, (binOp .quo t (.float .f64 (floatOfInt .f64 (N0 : Int))) (.float .f64 (floatOfInt .f64 (u : Int)))).run Tryz.prog w = .ok (.float .f64 q0) w := fun t w => run_float_arith w .quo t .f64 _ _ _ hq0
          have hop1 : ∀ t w, (binOp .quo t (.float .f64 (floatOfInt .f64 (N1 : Int))) (.float .f64 (floatOfInt .f64 (u : Int)))).run Tryz.prog w = .ok (.float .f64 q1) w := fun t w => run_float_arith w .quo t .f64 _ _ _ hq1
          clear hq0 hq1
          have HBW : Hid (Below w.heap.size w wr) := ext_trans HW1.out hbw
          obtain ⟨w2, hw2⟩ : ∃ w2, w2 = wr := ⟨wr, rfl⟩
          subst hw2
          clear hbw
          by_cases hA : (Fl.ge q1 4602678819172646912 && Fl.le q0 4593671619917905920) = true
          · have HE : Hid (G = (2, q1)) := by unfold Hid; rw [HG'.out, HWD.out, if_pos hA]; rfl
            obtain ⟨g1, g2⟩ := Bool.and_eq_true_iff.1 hA
            clear HG' HWD hA
            go_wp2
            go_ret2
            exact ⟨by rw [HE.out]; rfl, HBW.out⟩
          · by_cases hB : (Fl.ge q0 4602678819172646912 && Fl.le q1 4593671619917905920) = true
            · have HE : Hid (G = (3, q0)) := by unfold Hid; rw [HG'.out, HWD.out, if_neg hA, if_pos hB]; rfl
              obtain ⟨g1, g2⟩ := Bool.and_eq_true_iff.1 hB
              clear HG' HWD hB
              cases g3 : Fl.ge q1 4602678819172646912 <;> cases g4 : Fl.le q0 4593671619917905920
              all_goals first
                | (exfalso; rw [g3, g4] at hA; exact hA rfl)
                | (clear hA; go_wp2; go_ret2; exact ⟨by rw [HE.out]; rfl, HBW.out⟩)
            · have HE0 : Hid (G = Cx.nar zs) := by unfold Hid; rw [HG'.out, HWD.out, if_neg hA, if_neg hB]; exact if_neg (fun h => h rfl)
              clear HG' HWD
              cases g1 : Fl.ge q1 4602678819172646912 <;> cases g2 : Fl.le q0 4593671619917905920 <;> cases g3 : Fl.ge q0 4602678819172646912 <;> cases g4 : Fl.le q1 4593671619917905920
              all_goals try (exfalso; rw [g1, g2] at hA; exact hA rfl)
              all_goals try (exfalso; rw [g3, g4] at hB; exact hB rfl)
              all_goals clear hA hB
              all_goals
                go_wp2_with fail
                go_loopw [11, 12] (fun hv i wq => ∃ k : Nat, k ≤ zs.length ∧ i = .int .i64 k ∧ hv = .int .i64 (Cx.hi8 (zs.take k) : Nat) ∧ Below w2.heap.size w2 wq) (fun _ i _ => zs.length - (intOf i).toNat)
                case atStart => exact ⟨0, Nat.zero_le _, rfl, rfl, Below.refl _ _⟩
                case round =>
                  obtain ⟨k, hk, rfl, rfl, hbq⟩ := hrel
                  have HBQ : Hid (Below w.heap.size w wr) := ext_trans HBW.out hbq
                  by_cases hlt : k < zs.length
                  · obtain ⟨b, off, rfl, hbl, hcl⟩ := HCC.out (List.length_pos_iff.1 (by omega))
                    have hcx : wr.cell? ⟨b, off + k, none⟩ = some (.int .u8 (zs[k]?.getD 0)) := (HBQ.out.cell (p := ⟨b, off + k, none⟩) hbl).trans (hcl k hlt)
                    have HS : Hid (Cx.hi8 (zs.take (k + 1)) = Cx.hi8 (zs.take k) + if 128 ≤ zs[k]?.getD 0 then 1 else 0) := Cx.hi8_succ zs k hlt
                    have hbk : Cx.hi8 (zs.take k) ≤ zs.length := Nat.le_trans (Cx.hi8_le _) (by rw [List.length_take]; omega)
                    generalize zs[k]?.getD 0 = x at *
                    generalize Cx.hi8 (zs.take k) = Z at *
                    clear hcl
                    by_cases hx : 128 ≤ x
                    · have HS' : Hid (Cx.hi8 (zs.take (k + 1)) = Z + 1) := by unfold Hid; rw [HS.out, if_pos hx]
                      clear HS
                      go_wp2
                      go_roundw
                      case rel => exact ⟨k + 1, by omega, by go_num, by rw [HS'.out]; go_num, hbq⟩
                      case measure => simp [intOf]; omega
                    · have HS' : Hid (Cx.hi8 (zs.take (k + 1)) = Z) := by unfold Hid; rw [HS.out, if_neg hx]; rfl
                      clear HS
                      go_wp2
                      go_roundw
                      case rel => exact ⟨k + 1, by omega, by go_num, by rw [HS'.out], hbq⟩
                      case measure => simp [intOf]; omega
                  · have HH : Hid (Cx.hi8 (zs.take k) = Cx.hi8 zs) := by unfold Hid; rw [List.take_of_length_le (by omega)]
                    rw [HH.out]
                    clear hbq
                    go_wp2_with fail
                    refine (rDecode_any 1 _ zs _ (HR.out.ext HBQ.out) HB.out hz).mono ?_
                    rintro e w5 ⟨l, rfl, hl5, hb5⟩
                    rw [Cx.dd_yes 1 zs rfl] at hl5
                    obtain ⟨la, lc, rfl, hlc, hlm, hlcell⟩ := Rd.of_own hl5
                    have hlm' : lc ≤ 9223372036854775807 := hlm
                    have HLC : Hid (Cx.dec 1 zs ≠ [] → ∃ b off, la = some ⟨b, off, none⟩ ∧ b < w5.heap.size ∧ ∀ i, i < (Cx.dec 1 zs).length → w5.cell? ⟨b, off + i, none⟩ = some (.int .i64 ((Cx.dec 1 zs)[i]?.getD 0))) := hlcell
                    have HW5 : Hid (Below w.heap.size w w5) := ext_trans HBQ.out hb5
                    have HDS : Hid (Cx.rw8 zs = Cx.neg8 (Cx.dec 1 zs)) := rfl
                    have hdl : (Cx.dec 1 zs).length ≤ zs.length := Cx.dec_len 1 _ zs
                    clear hl5 hb5 hlcell hlm HCC
                    generalize Cx.dec 1 zs = ds at *
                    generalize Cx.er 1 = er at *
                    go_wp2_with fail
                    go_loopw [13, 16] (fun rv i wq => ∃ k2 : Nat, k2 ≤ ds.length ∧ i = .int .i64 k2 ∧ rv = .int .i64 (Cx.neg8 (ds.take k2) : Nat) ∧ Below w5.heap.size w5 wq) (fun _ i _ => ds.length - (intOf i).toNat)
                    case atStart => exact ⟨0, Nat.zero_le _, rfl, rfl, Below.refl _ _⟩
                    case round =>
                      obtain ⟨k2, hk2, rfl, rfl, hbq⟩ := hrel
                      have HBR : Hid (Below w.heap.size w wr) := ext_trans HW5.out hbq
                      by_cases hlt2 : k2 < ds.length
                      · obtain ⟨b, off, rfl, hbl, hcl⟩ := HLC.out (List.length_pos_iff.1 (by omega))
                        have hcx : wr.cell? ⟨b, off + k2, none⟩ = some (.int .i64 (ds[k2]?.getD 0)) := (hbq.cell (p := ⟨b, off + k2, none⟩) hbl).trans (hcl k2 hlt2)
                        have HS : Hid (Cx.neg8 (ds.take (k2 + 1)) = Cx.neg8 (ds.take k2) + if ds[k2]?.getD 0 < 0 then 1 else 0) := Cx.neg8_succ ds k2 hlt2
                        have hbk : Cx.neg8 (ds.take k2) ≤ ds.length := Nat.le_trans List.countP_le_length (by rw [List.length_take]; omega)
                        generalize ds[k2]?.getD 0 = x at *
                        generalize Cx.neg8 (ds.take k2) = Z at *
                        clear hcl
                        by_cases hx : x < 0
                        · have HS' : Hid (Cx.neg8 (ds.take (k2 + 1)) = Z + 1) := by unfold Hid; rw [HS.out, if_pos hx]
                          clear HS
                          go_wp2
                          go_roundw
                          case rel => exact ⟨k2 + 1, by omega, by go_num, by rw [HS'.out]; go_num, hbq⟩
                          case measure => simp [intOf]; omega
                        · have HS' : Hid (Cx.neg8 (ds.take (k2 + 1)) = Z) := by unfold Hid; rw [HS.out, if_neg hx]; rfl
                          clear HS
                          go_wp2
                          go_roundw
                          case rel => exact ⟨k2 + 1, by omega, by go_num, by rw [HS'.out], hbq⟩
                          case measure => simp [intOf]; omega
                      · have HT2 : Hid (Cx.neg8 (ds.take k2) = Cx.rw8 zs) := by unfold Hid; rw [List.take_of_length_le (by omega), HDS.out]
                        rw [HT2.out]
                        clear HLC hbq HDS HT2 HH
                        have HN : Hid (G = if Cx.rw8 zs = 0 then (1, 4607182418800017408) else if Fl.ge (Fl.shr (Cx.hi8 zs - Cx.rw8 zs) (Cx.hi8 zs)) 4604930618986332160 = true then (1, Fl.shr (Cx.hi8 zs - Cx.rw8 zs) (Cx.hi8 zs)) else (4, Fl.less (Fl.shr (Cx.hi8 zs - Cx.rw8 zs) (Cx.hi8 zs)))) := HE0.out
                        clear HE0
                        generalize Cx.hi8 zs = H at *
                        generalize Cx.rw8 zs = R at *
                        by_cases hR : R = 0
                        · subst hR
                          have HE : Hid (G = (1, 4607182418800017408)) := HN.out
                          clear HN
                          go_wp2
                          go_ret2
                          exact ⟨by rw [HE.out]; rfl, HBR.out⟩
                        · have hRb : ((R : Int) == 0) = false := by rw [beq_eq_false_iff_ne]; omega
                          have hsub : (H : Int) - (R : Int) = ((H - R : Nat) : Int) := by omega
                          have hq := Fl.shr_eq (H - R) H (by omega) (by omega)
                          have hok := Fl.shr_ok (H - R) H (by omega) (by omega)
                          have hl := Fl.less_eq _ hok
                          have HN' : Hid (G = if Fl.ge (Fl.shr (H - R) H) 4604930618986332160 = true then (1, Fl.shr (H - R) H) else (4, Fl.less (Fl.shr (H - R) H))) := by unfold Hid; rw [HN.out, if_neg hR]
                          clear HN hok
                          rw [← hsub] at hq
                          generalize Fl.shr (H - R) H = q at *
                          have hop : ∀ t w, (binOp .quo t (.float .f64 (floatOfInt .f64 ((H : Int) - (R : Int)))) (.float .f64 (floatOfInt .f64 (H : Int)))).run Tryz.prog w = .ok (.float .f64 q) w := fun t w => run_float_arith w .quo t .f64 _ _ q hq
                          have hos : ∀ t w, (binOp .sub t (.float .f64 4607182418800017408) (.float .f64 q)).run Tryz.prog w = .ok (.float .f64 (Fl.less q)) w := fun t w => run_float_arith w .sub t .f64 _ _ _ hl
                          have hge := Fl.ge_eq
                          clear hq hl hsub
                          cases hg : Fl.ge q 4604930618986332160
                          · have HE : Hid (G = (4, Fl.less q)) := by unfold Hid; rw [HN'.out, hg]; rfl
                            clear HN'
                            go_wp2
                            go_ret2
                            exact ⟨by rw [HE.out]; rfl, HBR.out⟩
                          · have HE : Hid (G = (1, q)) := by unfold Hid; rw [HN'.out, hg]; rfl
                            clear HN'
                            go_wp2
                            go_ret2
                            exact ⟨by rw [HE.out]; rfl, HBR.out⟩
  · have hd2 : 0 < d2 := HDI.out.2 hd
    have HE : Hid (G = (d1, 4607182418800017408)) := by unfold Hid; rw [HG.out, if_pos hd2]
    have hdb : (d1 != 0) = true := by simp [hd]
    clear HG HDI
    go_wp2
    go_ret2
    exact ⟨by rw [HE.out]; rfl, HW1.out⟩
end Go.Proofs.YtmfbobibpebfnaaGreat

/- guessed and the law CodecGuess. -/
namespace Go.Proofs.YtmfbobibpebfnaaGreat
open Go.RowKit

theorem Fl.one_ok : Fl.Ok (Ieee.double.read 4607182418800017408) := .inl Fl.one_num
theorem Cx.nar_ok (zs : List Int) (hb : Byt zs) (hz : zs.length ≤ 140737488355328) : Fl.Ok (Ieee.double.read (Cx.nar zs).2) := by
  have hle := Cx.hi8_le zs
  have hrl := Cx.rw_le zs.length zs (Nat.le_refl _) hb
  unfold Cx.nar
  split
  · exact Fl.one_ok
  · have hok := Fl.shr_ok (Cx.hi8 zs - Cx.rw8 zs) (Cx.hi8 zs) (by omega) (by omega)
    split
    · exact hok
    · exact Fl.less_ok _ hok
theorem Cx.wid_ok (zs : List Int) (u : Nat) (hu : u ≤ 140737488355328) (h : (Cx.wid zs u).1 ≠ 0) : Fl.Ok (Ieee.double.read (Cx.wid zs u).2) := by
  unfold Cx.wid at h ⊢
  split
  · rename_i h0; rw [if_pos h0] at h; exact absurd rfl h
  · rename_i h0; rw [if_neg h0] at h
    split
    · exact Fl.shr_ok _ _ (by omega) (by omega)
    · rename_i h1; rw [if_neg h1] at h
      split
      · exact Fl.shr_ok _ _ (by omega) (by omega)
      · rename_i h2; rw [if_neg h2] at h; exact absurd rfl h
theorem Cx.gue_self (zs : List Int) (hb : Byt zs) (hz : zs.length ≤ 140737488355328) : FloatKind.f64.format.order (Cx.gue zs).2 (Cx.gue zs).2 = some .eq := by
  refine Fl.self_eq _ ?_
  unfold Cx.gue
  split
  · exact Fl.one_ok
  · split
    · exact Cx.wid_ok zs _ (by omega) (by assumption)
    · exact Cx.nar_ok zs hb hz

set_option maxRecDepth 100000 in
set_option maxHeartbeats 1000000 in
theorem guessed_any (v : Value) (z : List Int) (w : World) (h : Rd .u8 w v z) (hb : Byt z) (hz : (z.length + 40) * 8 ≤ 140737488355328) :
    Calls Tryz.prog 27 #[v] w fun e w' => e = .returned (.bool true) ∧ Below w.heap.size w w' := by
  obtain ⟨ao, cp, rfl, _⟩ := id h
  have HR : Hid (Rd .u8 w (.slice ao z.length cp) z) := h
  have HB : Hid (Byt z) := hb
  clear h hb
  go_enter Tryz.func27, Tryz.ntmps27
  go_wp2_with fail
  refine (lend_any _ z _ HR.out (by omega)).mono ?_
  rintro e w1 ⟨g, cap, rfl, hL1, hb1⟩
  have HL : Hid (Lent w1 w.heap.size g cap z) := hL1
  have hcap : z.length + 40 ≤ cap := hL1.1
  have hcm : cap ≤ 9223372036854775807 := hL1.2.1
  have HW1 : Hid (Below w.heap.size w w1) := hb1
  clear hL1 hb1
  go_wp2_with fail
  refine (Guess_any _ z _ HL.out.rd HB.out (by omega)).mono ?_
  rintro e w2 ⟨rfl, hb2⟩
  have HW2 : Hid (Below w1.heap.size w1 w2) := hb2
  clear hb2
  go_wp2_with fail
  refine (rGuess_any _ z _ (HR.out.ext (ext_trans HW1.out HW2.out)) HB.out (by omega)).mono ?_
  rintro e w5 ⟨rfl, hb5⟩
  have HW5 : Hid (Below w1.heap.size w1 w5) := ext_trans HW2.out hb5
  have HR5 : Hid (Rd .u8 w5 (.slice ao z.length cp) z) := HR.out.ext (ext_trans HW1.out HW5.out)
  have HL5 : Hid (Lent w5 w.heap.size g cap z) := HL.out.ext HW5.out
  clear hb5
  have hse := Cx.gue_self z HB.out (by omega)
  generalize (Cx.gue z).1 = x1 at *
  generalize (Cx.gue z).2 = x2 at *
  go_wp2_with fail
  refine (kept_any _ z g cap _ _ HR5.out HL5.out).mono ?_
  rintro e w7 ⟨rfl, hb7⟩
  have HW7 : Hid (Below w1.heap.size w1 w7) := ext_trans HW5.out hb7
  have HL7 : Hid (Lent w7 w.heap.size g cap z) := HL5.out.ext hb7
  clear hb7 hse
  go_wp2_with fail
  refine (turned_any z g cap _ _ (by omega) HL7.out).mono ?_
  rintro e w8 ⟨o, rfl, hL8, hO8, hg8⟩
  have hT := turn_len z
  have hTb : Hid (Byt (turn z)) := turn_byt z
  have HL8 : Hid (Lent w8 w.heap.size g cap (turn z)) := hL8
  have HO8 : Hid (Rd .u8 w8 o (turn z)) := Rd.of_own hO8
  have HG8 : Hid (w7.grownBy w8 (some g)) := hg8
  clear hL8 hO8 hg8
  have hrd8 := HL8.out.rd
  rw [hT] at hrd8
  have HRD : Hid (Rd .u8 w8 (.slice (some ⟨g, 0, none⟩) z.length cap) (turn z)) := hrd8
  have HTL : Hid ((turn z).length * 8 ≤ 140737488355328) := by unfold Hid; omega
  have hse := Cx.gue_self (turn z) hTb.out (by omega)
  clear hrd8 hT
  go_wp2_with fail
  refine (Guess_any _ (turn z) _ HRD.out hTb.out (by have := HTL.out; omega)).mono ?_
  rintro e w9 ⟨rfl, hb9⟩
  have HW9 : Hid (Below w8.heap.size w8 w9) := hb9
  clear hb9
  go_wp2_with fail
  refine (rGuess_any _ (turn z) _ (HO8.out.ext HW9.out) hTb.out HTL.out).mono ?_
  rintro e w12 ⟨rfl, hb12⟩
  have HW12 : Hid (Below w8.heap.size w8 w12) := ext_trans HW9.out hb12
  clear hb12
  generalize (Cx.gue (turn z)).1 = x3 at *
  generalize (Cx.gue (turn z)).2 = x4 at *
  go_wp2
  go_ret
  refine ⟨rfl, ?_⟩
  have hA : Below w.heap.size w w7 := ext_trans HW1.out HW7.out
  have hB : Below w.heap.size w w8 := hA.grown HG8.out hA.size (fun k hk => by cases hk; exact HL8.out.2.2.1)
  exact ext_trans hB HW12.out

theorem Byt.two3 : Byt [65, 233] := by unfold Byt; simp
end Go.Proofs.YtmfbobibpebfnaaGreat
