/- KeysBack: the walk. -/
import Derived.Test.YtdbmgjkgfmdmjaaDoorKAlv
import Derived.Test.YtdbmgjkgfmdmjaaDoorKBk
namespace Go.Proofs.YtdbmgjkgfmdmjaaDoor
open Go.RowKit
set_option maxRecDepth 100000 in
set_option maxHeartbeats 4000000 in
theorem back_any (mode : Int) (c : Cm) (w : World) (hr : In64 c.r) (ha : In64 c.a) (hT : Tb w) :
    Calls Tryd.prog 3 #[.int .i64 mode, cmV c] w fun e w' => e = .returned (.bool true) ∧ Below w.heap.size w w' := by
  obtain ⟨cr, cc, cv, cm, ca⟩ := c
  have HTb := hidIt hT
  have HSB := hidIt (fun l h => spell_back (mode := mode) (c := ⟨cr, cc, cv, cm, ca⟩) (l := l) h)
  have HSI := hidIt (fun l h => spell_in (mode := mode) (c := ⟨cr, cc, cv, cm, ca⟩) (l := l) hr ha h)
  obtain ⟨w0, hw0⟩ : ∃ w0, w0 = w.alloc (.cells #[.int .i64 cr, .int .i64 cc, .int .i64 cv, .int .i64 cm, .int .i64 ca] 23) := ⟨_, rfl⟩
  have HB0 : Hid (Below w.heap.size w w0) := by unfold Hid; rw [hw0]; exact ext_alloc (Below.refl _ _) _
  have HR0 : Hid (w0.heap[w.heap.size]? = some (.cells #[.int .i64 cr, .int .i64 cc, .int .i64 cv, .int .i64 cm, .int .i64 ca] 23 (0, 0))) := by unfold Hid; rw [hw0]; exact heap_alloc_new _ _
  have HAL := hidIt (alive_any w0 (hT.ext HB0.out))
  clear hT hr ha
  go_enter Tryd.func3, Tryd.ntmps3
  go_upto_region 1 with fail
  rw [← hw0]
  clear hw0
  go_upto_region 4 with (go_at_call 9; refine HAL.out.mono ?_; rintro e w1 ⟨rfl, hb1⟩; (try dsimp only); have HB1 := hidIt (ext_trans HB0.out hb1); have HR1 := hidIt ((hb1.block _ (Array.getElem?_eq_some_iff.1 HR0.out).1).trans HR0.out); clear hb1)
  obtain ⟨_, q0, q1, q2, q3, q4, qf⟩ := cells5 HR1.out
  have HSP := hidIt (Spell_any mode ⟨cr, cc, cv, cm, ca⟩ w1 (HTb.out.ext HB1.out))
  generalize spell mode ⟨cr, cc, cv, cm, ca⟩ = SS at HSP HSB HSI
  go_upto_region 5 with (go_at_call 10; refine HSP.out.mono ?_; rintro e w2 ⟨u, rfl, ho, hb2⟩; (try dsimp only); have HO := hidIt ho; have HB2 := hidIt hb2; clear ho hb2)
  clear q0 q1 q2 q3 q4 qf
  have HR2 := hidIt ((HB2.out.block _ (Array.getElem?_eq_some_iff.1 HR1.out).1).trans HR1.out)
  cases SS with
  | none =>
    obtain rfl : u = .slice none 0 0 := HO.out
    go_wp2_with fail
    go_ret
    exact ⟨rfl, ext_trans HB1.out HB2.out⟩
  | some l =>
    have HFB := hidIt (HSB.out l rfl)
    obtain ⟨hl, hne, hin⟩ := HSI.out l rfl
    have HRD := hidIt HO.out.1.rds
    obtain ⟨ua, uc, rfl, _⟩ := HO.out.1.rds.len
    have hl0 : 0 < l.length := List.length_pos_iff.2 hne
    have hl1 : ¬ l.length = 0 := by omega
    have hl2 : ¬ (l.length : Int) = 0 := by omega
    have hl3 : ¬ l = [] := hne
    have hl4 : ((l.length : Int) == 0) = false := by simpa using hl2
    have HFE := hidIt (fed_any (mode := mode) HRD.out hin (by omega))
    clear HSB HSI hin
    go_upto_region 8 with (go_at_call 11; refine HFE.out.mono ?_; rintro e w3 ⟨c7, s7, hfr, rfl, hb3⟩; obtain ⟨rfl, rfl⟩ := hfr.det HFB.out; (try dsimp only); have HB3 := hidIt hb3; clear hfr hb3)
    obtain ⟨w4, hw4⟩ : ∃ w4, w4 = w3.alloc (.cells #[.int .i64 cr, .int .i64 cc, .int .i64 cv, .int .i64 cm, .int .i64 ca] 23) := ⟨_, rfl⟩
    rw [← hw4]
    have hb4 : Below w3.heap.size w3 w4 := by rw [hw4]; exact ext_alloc (Below.refl _ _) _
    have HC4 : Hid (w4.heap[w3.heap.size]? = some (.cells #[.int .i64 cr, .int .i64 cc, .int .i64 cv, .int .i64 cm, .int .i64 ca] 23 (0, 0))) := by unfold Hid; rw [hw4]; exact heap_alloc_new _ _
    have HB4 := hidIt (ext_trans HB3.out hb4)
    have HR4 := hidIt ((HB4.out.block _ (Array.getElem?_eq_some_iff.1 HR2.out).1).trans HR2.out)
    clear hw4 hb4
    generalize w3.heap.size = g4 at *
    obtain ⟨_, q0, q1, q2, q3, q4, qf⟩ := cells5 HR4.out
    obtain ⟨_, e0, e1, e2, e3, e4, ef⟩ := cells5 HC4.out
    go_wp2_with fail
    go_ret
    exact ⟨rfl, ext_trans (ext_trans HB1.out HB2.out) HB4.out⟩
end Go.Proofs.YtdbmgjkgfmdmjaaDoor
