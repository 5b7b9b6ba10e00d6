/- The document's Delete. -/
import Derived.Test.YtmldfjhfgaggpaaGRefY
namespace Go.Proofs.Ytmldfjhfgaggpaa
open Go.RowKit
variable {F : Nat → Prop}

theorem del_nil {s : Bs} {n k : Int} {t : List Int} (hrf : refE n k = 0) (hz : nil? ⟨k, t⟩ = true) : deleteB s n ⟨k, t⟩ = (0, s) := by
  have h0 : (k == 1 || t.any brB) = false := by
    unfold nil? at hz
    simp only [Bool.and_eq_true, beq_iff_eq] at hz
    obtain ⟨rfl, h2⟩ := hz
    have : t = [] := List.length_eq_zero_iff.1 (by omega)
    rw [this]
    rfl
  unfold deleteB
  rw [if_pos hrf]
  dsimp only
  rw [h0]
  split
  · exact takeB_skip (by rw [hz]; simp)
  · exact takeB_skip (by rw [hz]; simp)
theorem rd_cell {w : World} {ao : Option Addr} {n c : Nat} {t : List Int} (h : RdS w (.slice ao n c) t) (j : Nat) (hj : j < t.length) : ∃ b off, ao = some ⟨b, off, none⟩ ∧ w.cell? ⟨b, off + j, none⟩ = some (.int .i64 (t[j]?.getD 0)) := by
  have hn : t ≠ [] := by intro e; rw [e] at hj; simp at hj
  obtain ⟨b, off, c', e, _, _, _, hc⟩ := h.last hn
  cases e
  exact ⟨b, off, rfl, hc j hj⟩
set_option maxRecDepth 100000 in
set_option maxHeartbeats 4000000 in
theorem r_Delete_any (w : World) (q : Nat) (s : Bs) (n k : Int) (v : Value) (t : List Int) (hR : Rb F w q s) (hs : Good s) (hv : RdS w v t) (hl : t.length * 8 ≤ 140737488351232) :
    Calls Try.prog 63 #[.pointer (some ⟨q, 0, none⟩), .int .i64 n, .int .i64 k, v] w (TkR F w q (deleteB s n ⟨k, t⟩)) := by
  obtain ⟨ao, c, rfl, _⟩ := hv.len
  have RF := hidIt (r_refuse_any n k w)
  have WR := hidIt (r_written_any k _ t w hv hl)
  have HR := hidIt hR
  have HV := hidIt hv
  have HLL := hidIt (show (cls k t).length * 8 ≤ 140737488355240 by have := (cls_len k t).2; omega)
  by_cases hrf : refE n k = 0
  · obtain ⟨hnm, _, hk⟩ := refE_ok hrf
    have HNR := hidIt (nm_range hnm)
    have HNC := hidIt (nil_cls (t := t) hk)
    have HG := hidIt hs
    have HK := hidIt hk
    rw [hrf] at RF
    clear hR hv hl hs hnm hk
    go_enter Try.func63, Try.ntmps63
    go_upto_region 5 with (first | (go_at_call 83; refine RF.out.mono ?_; rintro e y8 ⟨rfl, rfl⟩; (try dsimp only)) | (go_at_call 84; refine WR.out.mono ?_; rintro e w2 ⟨v2, rfl, hr2, hb2⟩; obtain ⟨ra2, rc2, re2, _⟩ := hr2.rds.len; subst re2; have R2 := hidIt hr2; have B2 := hidIt hb2; clear hr2 hb2; (try dsimp only)))
    generalize hw3 : World.alloc _ _ = w3
    have HB3 : Hid (Below w2.heap.size w2 w3) := by unfold Hid; rw [← hw3]; exact ext_alloc (Below.refl _ _) _
    have HK3 : Hid (w3.heap[w2.heap.size]? = some (.cells #[.int .i64 k, .slice ra2 (cls k t).length rc2] 94 (0, 0))) := by unfold Hid; rw [← hw3]; exact heap_alloc_new _ _
    clear hw3
    have HB13 := hidIt (ext_trans B2.out HB3.out)
    obtain ⟨_, e0, e1, _⟩ := cells2 HK3.out
    have HOF := hidIt (fun (_ : cls k t ≠ []) g (hg : F g) => R2.out.off (HR.out.fl g hg))
    have HRD := hidIt (R2.out.rds.ext HB3.out)
    by_cases h95 : n = 95
    · have HT := hidIt (show deleteB s n ⟨k, t⟩ = (0, s) by subst h95; unfold deleteB; rw [if_pos hrf]; show takeB s 95 ⟨k, t⟩ = _; exact takeB_skip rfl)
      subst h95
      clear hrf
      go_wp2_with fail
      go_ret
      exact ⟨by rw [HT.out]; rfl, by rw [HT.out]; exact HR.out.ext HB13.out, Kq.of HB13.out⟩
    have h95b : (n == 95) = false := by simp [h95]
    by_cases hz : (cls k t).length = 0
    · have HT := hidIt (show deleteB s n ⟨k, t⟩ = (0, s) by exact del_nil hrf (by rw [HNC.out, hz]; rfl))
      have hzb : (((cls k t).length : Int) == 0) = true := by simp [hz]
      clear hrf h95
      go_wp2_with fail
      go_ret
      exact ⟨by rw [HT.out]; rfl, by rw [HT.out]; exact HR.out.ext HB13.out, Kq.of HB13.out⟩
    have hzb : (((cls k t).length : Int) == 0) = false := by simp [hz]
    have HNZ := hidIt (show nil? ⟨k, t⟩ = false by rw [HNC.out]; simp [hz])
    have UN := hidIt (r_unnamed_any n w3)
    cases hun : unB n
    · rw [hun] at UN
      have HYB := hidIt (show deleteB s n ⟨k, t⟩ = takeB s n ⟨k, t⟩ by unfold deleteB; rw [if_pos hrf, hun]; rfl)
      have TK := hidIt (r_take_name w3 q s n 0 k _ (cls k t) hun (by decide) (HR.out.ext HB13.out) (by exact HNR.out) HRD.out HOF.out HK.out HLL.out)
      have HT := hidIt (show _ = _ from HYB.out.trans (tkD_take HG.out HK.out (by rw [h95b, HNZ.out]; rfl)).symm)
      clear hrf h95 hz
      go_wp2_with (first | (go_at_call 67; refine UN.out.mono ?_; rintro e y9 ⟨rfl, rfl⟩; (try dsimp only)) | (go_at_call 85; refine TK.out.mono ?_; rintro e w4 ⟨rfl, hr4, hk4⟩; have R4 := hidIt hr4; have K4 := hidIt hk4; clear hr4 hk4; (try dsimp only)))
      go_ret
      exact ⟨by rw [HT.out]; rfl, by rw [HT.out]; exact R4.out, (Kq.of HB13.out).trans K4.out⟩
    · rw [hun] at UN
      have HYB := hidIt (show deleteB s n ⟨k, t⟩ = if (k == 1 || t.any brB) = true then ringB s ⟨k, t⟩ else takeB s 45 ⟨k, t⟩ by unfold deleteB; rw [if_pos hrf, hun]; rfl)
      have TK1 := hidIt (r_take_ring w3 q s n 49 k _ (cls k t) hun rfl (HR.out.ext HB13.out) (by decide) HRD.out HOF.out HK.out HLL.out)
      have TK2 := hidIt (r_take_at w3 q s n 45 k _ (cls k t) hun (by decide) (HR.out.ext HB13.out) (by decide) HRD.out HOF.out HK.out HLL.out)
      have HT1 := hidIt (tkD_ring (r := ⟨k, t⟩) HG.out HK.out (not_nil HNZ.out HK.out))
      have HT2 := hidIt (tkD_take (n := 45) (r := ⟨k, t⟩) HG.out HK.out (by rw [HNZ.out]; rfl))
      have HCELL := hidIt (rd_cell (HV.out.ext HB13.out))
      clear hrf h95 hz
      go_wp2_with (go_at_call 67; refine UN.out.mono ?_; rintro e y9 ⟨rfl, rfl⟩; (try dsimp only))
      go_loopw [11, 12] (fun wh i wr => ∃ j : Nat, j ≤ t.length ∧ i = .int .i64 j ∧ wh = .bool (k == 1 || (t.take j).any brB) ∧ w3 = wr) (fun _ i _ => t.length - (RowKit.intOf i).toNat)
      case atStart => exact ⟨0, Nat.zero_le _, rfl, by simp, rfl⟩
      case round =>
        obtain ⟨j, hj, rfl, rfl, rfl⟩ := hrel
        by_cases hlt : j < t.length
        · obtain ⟨b, off, rfl, c1⟩ := HCELL.out j hlt
          have hi1 : (j : Int) < (t.length : Int) := by omega
          have HST := hidIt (show (k == 1 || (t.take (j + 1)).any brB) = ((k == 1 || (t.take j).any brB) || brB (t[j]?.getD 0)) by
            rw [List.take_succ_eq_append_getElem hlt, List.any_append, ← Bool.or_assoc]
            simp [hlt])
          generalize t[j]?.getD 0 = x at *
          generalize (k == 1 || (t.take j).any brB) = hb at *
          by_cases h10 : x = 10
          · subst h10
            go_wp2_with fail
            go_roundw
            case rel => exact ⟨j + 1, by omega, by go_num, by rw [HST.out]; simp [brB], trivial⟩
            case measure => simp [RowKit.intOf]; omega
          · have hb10 : (x == 10) = false := by simp [h10]
            clear h10
            by_cases h13 : x = 13
            · subst h13
              go_wp2_with fail
              go_roundw
              case rel => exact ⟨j + 1, by omega, by go_num, by rw [HST.out]; simp [brB], trivial⟩
              case measure => simp [RowKit.intOf]; omega
            · have hb13 : (x == 13) = false := by simp [h13]
              have HX := hidIt (show brB x = false by unfold brB; rw [hb10, hb13]; rfl)
              clear h13
              go_wp2_with fail
              go_roundw
              case rel => exact ⟨j + 1, by omega, by go_num, by rw [HST.out, HX.out]; simp, trivial⟩
              case measure => simp [RowKit.intOf]; omega
        · have hje : j = t.length := by omega
          have hi1 : ¬ (j : Int) < (t.length : Int) := by omega
          have HTA := hidIt (show t.take j = t by rw [hje, List.take_length])
          clear hlt hj hje
          rw [HTA.out]
          have HYC := hidIt (show ∀ b, (k == 1 || t.any brB) = b → deleteB s n ⟨k, t⟩ = if b = true then ringB s ⟨k, t⟩ else takeB s 45 ⟨k, t⟩ from fun b hb => by rw [HYB.out, hb])
          cases hb : (k == 1 || t.any brB)
          · have HT := hidIt ((HYC.out false hb).trans HT2.out.symm)
            clear hb
            go_wp2_with (go_at_call 85; refine TK2.out.mono ?_; rintro e w4 ⟨rfl, hr4, hk4⟩; have R4 := hidIt hr4; have K4 := hidIt hk4; clear hr4 hk4; (try dsimp only))
            go_ret
            exact ⟨by rw [HT.out]; rfl, by rw [HT.out]; exact R4.out, (Kq.of HB13.out).trans K4.out⟩
          · have HT := hidIt ((HYC.out true hb).trans HT1.out.symm)
            clear hb
            go_wp2_with (go_at_call 85; refine TK1.out.mono ?_; rintro e w4 ⟨rfl, hr4, hk4⟩; have R4 := hidIt hr4; have K4 := hidIt hk4; clear hr4 hk4; (try dsimp only))
            go_ret
            exact ⟨by rw [HT.out]; rfl, by rw [HT.out]; exact R4.out, (Kq.of HB13.out).trans K4.out⟩
  · have HT := hidIt (show deleteB s n ⟨k, t⟩ = (refE n k, s) by unfold deleteB; rw [if_neg hrf])
    have hne : (refE n k != 0) = true := by simp [hrf]
    generalize refE n k = er at *
    clear hR hv hl hs
    go_enter Try.func63, Try.ntmps63
    go_wp2_with (go_at_call 83; refine RF.out.mono ?_; rintro e y8 ⟨rfl, rfl⟩; (try dsimp only))
    go_ret
    exact ⟨by rw [HT.out]; rfl, by rw [HT.out]; exact HR.out, Kps.refl _ _⟩
end Go.Proofs.Ytmldfjhfgaggpaa
