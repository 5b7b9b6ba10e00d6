/- The document's Yank, Delete. -/
import Derived.Test.YtmldfjhfgaggpaaGRefT
namespace Go.Proofs.Ytmldfjhfgaggpaa
open Go.RowKit
variable {F : Nat → Prop}

theorem nil_cls {k : Int} {t : List Int} (hk : k = 0 ∨ k = 1) : nil? ⟨k, t⟩ = ((cls k t).length == 0) := by
  unfold nil?
  rcases hk with rfl | rfl
  · unfold cls
    simp only [show ((0 : Int) == 1) = false from rfl, Bool.false_and, Bool.false_eq_true, if_false, beq_self_eq_true, Bool.true_and]
    cases t <;> simp
    omega
  · have := cls_pos ⟨1, t⟩ (.inr rfl)
    dsimp only at this ⊢
    cases h : ((cls 1 t).length == 0)
    · rfl
    · simp at h; rw [h] at this; simp at this
theorem tkD_take {s : Bs} (hs : Good s) {n : Int} {r : Rg} (hk : r.k = 0 ∨ r.k = 1) (h : (n == 95 || nil? r) = false) : tkD s n ⟨r.k, cls r.k r.t⟩ false = takeB s n r := by
  have hr := not_nil (Bool.or_eq_false_iff.1 h).2 hk
  unfold tkD
  rw [ow_nxt hs hk hr]
  have hw := wrtn_fine s.m n r
  by_cases hl : 140000 < (nxt s.m n r).t.length
  · rw [if_pos hl] at hw ⊢
    rw [takeB_none h hw]
  · rw [if_neg hl] at hw ⊢
    rw [takeB_some h hw]
    rfl
theorem tkD_ring {s : Bs} (hs : Good s) {r : Rg} (hk : r.k = 0 ∨ r.k = 1) (hr : r.t ≠ [] ∨ r.k = 1) : tkD s 49 ⟨r.k, cls r.k r.t⟩ true = ringB s r := by
  unfold tkD ringB
  rw [ow_nxt hs hk hr]
  have hw := wrtn_fine s.m 49 r
  by_cases hl : 140000 < (nxt s.m 49 r).t.length
  · rw [if_pos hl] at hw ⊢
    rw [hw]
  · rw [if_neg hl] at hw ⊢
    rw [hw]
    rfl
set_option maxRecDepth 100000 in
set_option maxHeartbeats 4000000 in
theorem r_Yank_any (w : World) (q : Nat) (s : Bs) (n k : Int) (v : Value) (t : List Int) (hR : Rb F w q s) (hs : Good s) (hv : RdS w v t) (hl : t.length * 8 ≤ 140737488351232) :
    Calls Try.prog 62 #[.pointer (some ⟨q, 0, none⟩), .int .i64 n, .int .i64 k, v] w (TkR F w q (yankB s n ⟨k, t⟩)) := by
  obtain ⟨ao, c, rfl, _⟩ := hv.len
  have RF := hidIt (r_refuse_any n k w)
  have WR := hidIt (r_written_any k _ t w hv hl)
  have HR := hidIt hR
  have HV := hidIt hv
  have HLL := hidIt (show (cls k t).length * 8 ≤ 140737488355240 by have := (cls_len k t).2; omega)
  by_cases hrf : refE n k = 0
  · obtain ⟨hnm, _, hk⟩ := refE_ok hrf
    have HNR := hidIt (nm_range hnm)
    have HNC := hidIt (nil_cls (t := t) hk)
    have HG := hidIt hs
    have HK := hidIt hk
    rw [hrf] at RF
    clear hR hv hl hs hnm hk
    go_enter Try.func62, Try.ntmps62
    go_upto_region 5 with (first | (go_at_call 83; refine RF.out.mono ?_; rintro e y8 ⟨rfl, rfl⟩; (try dsimp only)) | (go_at_call 84; refine WR.out.mono ?_; rintro e w2 ⟨v2, rfl, hr2, hb2⟩; obtain ⟨ra2, rc2, re2, _⟩ := hr2.rds.len; subst re2; have R2 := hidIt hr2; have B2 := hidIt hb2; clear hr2 hb2; (try dsimp only)))
    generalize hw3 : World.alloc _ _ = w3
    have HB3 : Hid (Below w2.heap.size w2 w3) := by unfold Hid; rw [← hw3]; exact ext_alloc (Below.refl _ _) _
    have HK3 : Hid (w3.heap[w2.heap.size]? = some (.cells #[.int .i64 k, .slice ra2 (cls k t).length rc2] 94 (0, 0))) := by unfold Hid; rw [← hw3]; exact heap_alloc_new _ _
    clear hw3
    have HB13 := hidIt (ext_trans B2.out HB3.out)
    obtain ⟨_, e0, e1, _⟩ := cells2 HK3.out
    have HOF := hidIt (fun (_ : cls k t ≠ []) g (hg : F g) => R2.out.off (HR.out.fl g hg))
    have HRD := hidIt (R2.out.rds.ext HB3.out)
    by_cases h95 : n = 95
    · have HT := hidIt (show yankB s n ⟨k, t⟩ = (0, s) by subst h95; unfold yankB; rw [if_pos hrf]; show takeB s 95 _ = _; exact takeB_skip rfl)
      subst h95
      clear hrf
      go_wp2_with fail
      go_ret
      exact ⟨by rw [HT.out]; rfl, by rw [HT.out]; exact HR.out.ext HB13.out, Kq.of HB13.out⟩
    have h95b : (n == 95) = false := by simp [h95]
    by_cases hz : (cls k t).length = 0
    · have HT := hidIt (show yankB s n ⟨k, t⟩ = (0, s) by unfold yankB; rw [if_pos hrf]; exact takeB_skip (by rw [HNC.out, hz]; simp))
      have hzb : (((cls k t).length : Int) == 0) = true := by simp [hz]
      clear hrf h95
      go_wp2_with fail
      go_ret
      exact ⟨by rw [HT.out]; rfl, by rw [HT.out]; exact HR.out.ext HB13.out, Kq.of HB13.out⟩
    have hzb : (((cls k t).length : Int) == 0) = false := by simp [hz]
    have HNZ := hidIt (show nil? ⟨k, t⟩ = false by rw [HNC.out]; simp [hz])
    have HYB := hidIt (show yankB s n ⟨k, t⟩ = takeB s (if unB n = true then 48 else n) ⟨k, t⟩ by unfold yankB; rw [if_pos hrf])
    cases hun : unB n
    · rw [hun] at HYB
      have TK := hidIt (r_take_name w3 q s n 48 k _ (cls k t) hun (by decide) (HR.out.ext HB13.out) (by exact HNR.out) HRD.out HOF.out HK.out HLL.out)
      have HT := hidIt (show _ = _ from HYB.out.trans (tkD_take HG.out HK.out (by rw [show ((if false = true then (48 : Int) else n) == 95) = false from h95b, HNZ.out]; rfl)).symm)
      clear hrf h95 hz
      go_wp2_with (first | (go_at_call 67; refine UN.out.mono ?_; rintro e y9 ⟨rfl, rfl⟩; (try dsimp only)) | (go_at_call 85; refine TK.out.mono ?_; rintro e w4 ⟨rfl, hr4, hk4⟩; have R4 := hidIt hr4; have K4 := hidIt hk4; clear hr4 hk4; (try dsimp only)))
      go_ret
      exact ⟨by rw [HT.out]; rfl, by rw [HT.out]; exact R4.out, (Kq.of HB13.out).trans K4.out⟩
    · rw [hun] at HYB
      have TK := hidIt (r_take_at w3 q s n 48 k _ (cls k t) hun (by decide) (HR.out.ext HB13.out) (by decide) HRD.out HOF.out HK.out HLL.out)
      have HT := hidIt (show _ = _ from HYB.out.trans (tkD_take HG.out HK.out (by rw [HNZ.out]; rfl)).symm)
      clear hrf h95 hz
      go_wp2_with (first | (go_at_call 67; refine UN.out.mono ?_; rintro e y9 ⟨rfl, rfl⟩; (try dsimp only)) | (go_at_call 85; refine TK.out.mono ?_; rintro e w4 ⟨rfl, hr4, hk4⟩; have R4 := hidIt hr4; have K4 := hidIt hk4; clear hr4 hk4; (try dsimp only)))
      go_ret
      exact ⟨by rw [HT.out]; rfl, by rw [HT.out]; exact R4.out, (Kq.of HB13.out).trans K4.out⟩
  · have HT := hidIt (show yankB s n ⟨k, t⟩ = (refE n k, s) by unfold yankB; rw [if_neg hrf])
    have hne : (refE n k != 0) = true := by simp [hrf]
    generalize refE n k = er at *
    clear hR hv hl hs
    go_enter Try.func62, Try.ntmps62
    go_wp2_with (go_at_call 83; refine RF.out.mono ?_; rintro e y8 ⟨rfl, rfl⟩; (try dsimp only))
    go_ret
    exact ⟨by rw [HT.out]; rfl, by rw [HT.out]; exact HR.out, Kps.refl _ _⟩
end Go.Proofs.Ytmldfjhfgaggpaa
