/- RegisterAll: the walk. -/
import Derived.Test.YtmldfjhfgaggpaaGBeg
namespace Go.Proofs.Ytmldfjhfgaggpaa
open Go.RowKit
variable {F : Nat → Prop}

set_option maxRecDepth 100000 in
set_option maxHeartbeats 8000000 in
theorem all_any (v : Value) (xs : List Sv) (w : World) (h : RdT w v xs) : Calls Try.prog 8 #[v] w fun e w' => e = .returned (.bool true) ∧ Below w.heap.size w w' := by
  have H := hidIt h
  obtain ⟨ao, cap, rfl, hl1, hl2, hl3, hok, _⟩ := h
  have HOK := hidIt hok
  clear hok
  obtain ⟨w1, hw1, k0, hb1⟩ : ∃ w1, w1 = w.alloc (.cells #[.pointer none, .pointer none, .pointer none, .pointer none, .slice none 0 0] 58) ∧ w1.heap[w.heap.size]? = some (.cells #[.pointer none, .pointer none, .pointer none, .pointer none, .slice none 0 0] 58 (0, 0)) ∧ Below w.heap.size w w1 := ⟨_, rfl, heap_alloc_new _ _, ext_alloc (Below.refl _ _) _⟩
  have AB := hidIt (able_any w1)
  have HK0 := hidIt k0
  have HB1 := hidIt hb1
  have HLT := hidIt (Array.getElem?_eq_some_iff.1 k0).1
  clear k0 hb1
  go_enter Try.func8, Try.ntmps8
  go_upto_region 2 with fail
  rw [← hw1]
  clear hw1
  go_wp2_with (first | (go_at_call 12; refine AB.out.mono ?_; rintro e w2 ⟨rfl, hb2⟩; have HB2 := hidIt hb2; have BG := hidIt (begin_any (B := w.heap.size) w2 w.heap.size ((hb2.block _ HLT.out).trans HK0.out) (Nat.le_refl _)); clear hb2; (try dsimp only)) | (go_at_call 27; refine BG.out.mono ?_; rintro e w3 ⟨rfl, hx3⟩; have HX3 := hidIt hx3.out; clear hx3; (try dsimp only)))
  go_loopw [4] (fun i wr => ∃ j : Nat, j ≤ xs.length ∧ i = .int .i64 j ∧ Hid (∃ F z pv, Wd w.heap.size F (9 * j) wr w.heap.size z pv ∧ Syn z ∧ Below w.heap.size w wr)) (fun i _ => xs.length - (RowKit.intOf i).toNat)
  case atStart =>
    obtain ⟨F, z, pv, a, b, d⟩ := HX3.out
    exact ⟨0, Nat.zero_le _, rfl, F, z, pv, a, b, (ext_trans HB1.out HB2.out).trans d⟩
  case round =>
    obtain ⟨j, hj, rfl, hx⟩ := hrel
    obtain ⟨F, z, pw, hwd, hsy, hbw⟩ := hx.out
    have HWD := hidIt hwd
    have HSY := hidIt hsy
    have HBW := hidIt hbw
    clear hx hwd hsy hbw
    by_cases hlt : j < xs.length
    · obtain ⟨x, hx⟩ : ∃ x, xs[j]? = some x := ⟨_, List.getElem?_eq_getElem hlt⟩
      obtain ⟨ao', cap', hv', _, _, _, _, h6⟩ := H.out
      cases hv'
      obtain ⟨pb, po, ea, hpb, hc⟩ := h6 (by intro e; rw [e] at hlt; simp at hlt)
      subst ea
      obtain ⟨c0, c1, c2, c3, pv, c4, c5⟩ := hc j x hx
      have cc : ∀ k, wr.cell? ⟨pb, k, none⟩ = w.cell? ⟨pb, k, none⟩ := fun k => HBW.out.cell (p := ⟨pb, k, none⟩) hpb
      rw [← cc] at c0 c1 c2 c3 c4
      obtain ⟨pa, pc, epv, _⟩ := c5.len
      subst epv
      have ST := hidIt (step_any wr w.heap.size z pw x _ HWD.out HSY.out HBW.out.size (HOK.out x (List.mem_of_getElem? hx)) (c5.ext HBW.out) (fun hn => c5.old hn) (by omega))
      unfold stc at ST
      have hi1 : (j : Int) < (xs.length : Int) := by omega
      clear hc h6 c5 hx cc
      go_wp2_with (go_at_call 28; refine ST.out.mono ?_; rintro e w4 ⟨rfl, hx4⟩; have HX4 := hidIt hx4.out; clear hx4; (try dsimp only))
      go_roundw
      case rel =>
        obtain ⟨F4, z4, pw4, hw4, hs4, hb4⟩ := HX4.out
        exact ⟨j + 1, by omega, by go_num, F4, z4, pw4, hw4, hs4, HBW.out.trans hb4⟩
      case measure => simp [RowKit.intOf]; omega
    · have hi1 : ¬ (j : Int) < (xs.length : Int) := by omega
      generalize 9 * j = NN at *
      generalize wr = wo at *
      clear hlt hj
      go_wp2_with fail
      go_loopw [5] (fun i wr => ∃ a : Nat, a ≤ 2 ∧ i = .int .i64 a ∧ Below wo.heap.size wo wr) (fun i _ => 2 - (RowKit.intOf i).toNat)
      case atStart => exact ⟨0, by omega, rfl, Below.refl _ _⟩
      case round =>
        obtain ⟨a, ha, rfl, hba⟩ := hrel
        have HBA := hidIt hba
        clear hba
        by_cases ha2 : (a : Int) < 2
        · go_wp2_with fail
          go_loopw [6] (fun i wr => ∃ k : Nat, k ≤ 131 ∧ i = .int .i64 ((k : Int) - 1) ∧ Below wo.heap.size wo wr) (fun i _ => 131 - (RowKit.intOf i + 1).toNat)
          case atStart => exact ⟨0, by omega, rfl, HBA.out⟩
          case round =>
            obtain ⟨k, hk, rfl, hbk⟩ := hrel
            have HBK := hidIt hbk
            clear hbk
            by_cases hk2 : (k : Int) - 1 < 130
            · have GE := hidIt (get_any wr w.heap.size z pw a ((k : Int) - 1) (HWD.out.ext HBK.out) HSY.out (by omega) (In64.of (by omega) (by omega)))
              generalize hq : (k : Int) - 1 = q at *
              have hqb : q + 1 ≤ 130 := by omega
              have hqa : -1 ≤ q := by omega
              go_wp2_with (go_at_call 29; refine GE.out.mono ?_; rintro e w5 ⟨rfl, hb5⟩; have HB5 := hidIt hb5; clear hb5; (try dsimp only))
              go_roundw
              case rel => exact ⟨k + 1, by omega, by rw [show ((k + 1 : Nat) : Int) - 1 = q + 1 by omega], ext_trans HBK.out HB5.out⟩
              case measure => simp [RowKit.intOf]; omega
            · go_wp2_with fail
              go_roundw
              case rel => exact ⟨a + 1, by omega, by go_num, HBK.out⟩
              case measure => simp [RowKit.intOf]; omega
        · go_wp2_with fail
          go_ret
          exact ⟨rfl, ext_trans HBW.out HBA.out⟩
end Go.Proofs.Ytmldfjhfgaggpaa
