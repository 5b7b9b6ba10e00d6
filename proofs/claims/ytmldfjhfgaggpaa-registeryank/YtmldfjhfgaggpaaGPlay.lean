/- The laws' plays. -/
import Derived.Test.YtmldfjhfgaggpaaGBeg
namespace Go.Proofs.Ytmldfjhfgaggpaa
open Go.RowKit
variable {F : Nat → Prop}

set_option maxRecDepth 100000 in
set_option maxHeartbeats 8000000 in
theorem plays_any (v : Value) (xs : List Sv) (kd : Int) (w : World) (h : RdT w v xs) : Calls Try.prog 30 #[v, .int .i64 kd] w fun e w' => e = .returned (.bool true) ∧ Below w.heap.size w w' := by
  have H := hidIt h
  obtain ⟨ao, cap, rfl, hl1, hl2, hl3, hok, _⟩ := h
  have HOK := hidIt hok
  clear hok
  obtain ⟨w1, hw1, k0, hb1⟩ : ∃ w1, w1 = w.alloc (.cells #[.pointer none, .pointer none, .pointer none, .pointer none, .slice none 0 0] 58) ∧ w1.heap[w.heap.size]? = some (.cells #[.pointer none, .pointer none, .pointer none, .pointer none, .slice none 0 0] 58 (0, 0)) ∧ Below w.heap.size w w1 := ⟨_, rfl, heap_alloc_new _ _, ext_alloc (Below.refl _ _) _⟩
  have AB := hidIt (able_any w1)
  have HK0 := hidIt k0
  have HB1 := hidIt hb1
  have HLT := hidIt (Array.getElem?_eq_some_iff.1 k0).1
  clear k0 hb1
  go_enter Try.func30, Try.ntmps30
  go_upto_region 2 with fail
  rw [← hw1]
  clear hw1
  go_wp2_with (first | (go_at_call 12; refine AB.out.mono ?_; rintro e w2 ⟨rfl, hb2⟩; have HB2 := hidIt hb2; have BG := hidIt (begin_any (B := w.heap.size) w2 w.heap.size ((hb2.block _ HLT.out).trans HK0.out) (Nat.le_refl _)); clear hb2; (try dsimp only)) | (go_at_call 27; refine BG.out.mono ?_; rintro e w3 ⟨rfl, hx3⟩; have HX3 := hidIt hx3.out; clear hx3; (try dsimp only)))
  go_loopw [6] (fun i wr => ∃ j : Nat, j ≤ xs.length ∧ i = .int .i64 j ∧ Hid (∃ F z pv, Wd w.heap.size F (9 * j) wr w.heap.size z pv ∧ Syn z ∧ Below w.heap.size w wr)) (fun i _ => xs.length - (RowKit.intOf i).toNat)
  case atStart =>
    obtain ⟨F, z, pv, a, b, d⟩ := HX3.out
    exact ⟨0, Nat.zero_le _, rfl, F, z, pv, a, b, (ext_trans HB1.out HB2.out).trans d⟩
  case round =>
    obtain ⟨j, hj, rfl, hx⟩ := hrel
    obtain ⟨F, z, pw, hwd, hsy, hbw⟩ := hx.out
    have HWD := hidIt hwd
    have HSY := hidIt hsy
    have HBW := hidIt hbw
    clear hx hwd hsy hbw
    by_cases hlt : j < xs.length
    · obtain ⟨x, hx⟩ : ∃ x, xs[j]? = some x := ⟨_, List.getElem?_eq_getElem hlt⟩
      obtain ⟨ao', cap', hv', _, _, _, _, h6⟩ := H.out
      cases hv'
      obtain ⟨pb, po, ea, hpb, hc⟩ := h6 (by intro e; rw [e] at hlt; simp at hlt)
      subst ea
      obtain ⟨c0, c1, c2, c3, pv, c4, c5⟩ := hc j x hx
      have cc : ∀ k, wr.cell? ⟨pb, k, none⟩ = w.cell? ⟨pb, k, none⟩ := fun k => HBW.out.cell (p := ⟨pb, k, none⟩) hpb
      rw [← cc] at c0 c1 c2 c3 c4
      obtain ⟨pa, pc, epv, _⟩ := c5.len
      subst epv
      have ST := hidIt (step_any wr w.heap.size z pw x _ HWD.out HSY.out HBW.out.size (HOK.out x (List.mem_of_getElem? hx)) (c5.ext HBW.out) (fun hn => c5.old hn) (by omega))
      unfold stc at ST
      have hi1 : (j : Int) < (xs.length : Int) := by omega
      clear hc h6 c5 hx cc
      go_upto_region 8 with (go_at_call 28; refine ST.out.mono ?_; rintro e w4 ⟨rfl, hx4⟩; have HX4 := hidIt hx4.out; clear hx4; (try dsimp only))
      obtain ⟨F4, z4, pw4, hw4, hs4, hb4⟩ := HX4.out
      have HW4 := hidIt hw4
      have HS4 := hidIt hs4
      have HB4 := hidIt (HBW.out.trans hb4)
      have cc : ∀ k, w4.cell? ⟨pb, k, none⟩ = wr.cell? ⟨pb, k, none⟩ := fun k => hb4.cell (p := ⟨pb, k, none⟩) hpb
      rw [← cc] at c0
      have p0 := hw4.cells.1 0 (by omega)
      have p1 := hw4.cells.1 1 (by omega)
      clear hw4 hs4 hb4 c1 c2 c3 c4 cc HX4
      go_wp2_with fail
      go_roundw
      case rel => exact ⟨j + 1, by omega, by go_num, F4, z4, pw4, HW4.out, HS4.out, HB4.out⟩
      case measure => simp [RowKit.intOf]; omega
    · have hi1 : ¬ (j : Int) < (xs.length : Int) := by omega
      go_wp2_with fail
      go_ret
      exact ⟨rfl, HBW.out⟩
end Go.Proofs.Ytmldfjhfgaggpaa
