/- above, below, IsBreak, Next, Prev, Snap. -/
import Derived.Test.YtahjjpleceppaaaRules
namespace Go.Proofs.Ytahjjpleceppaaa
open Go.RowKit

set_option maxRecDepth 100000 in
theorem above_any (v : Value) (zs : List Int) (a : Nat) (w : World) (hr : Rd .i64 w v zs) (ha : a < zs.length) :
    Calls Try.prog 44 #[v, .int .i64 a] w fun e w' => e = .returned (.int .i64 (Cl.up zs (a + 1))) ∧ Below w.heap.size w w' := by
  have HR : Hid (Rd .i64 w v zs) := hr
  obtain ⟨b, off, cap, rfl, hl, hm, hb, hc⟩ := hr.at (by omega)
  have HC : Hid (∀ i, i < zs.length → w.cell? ⟨b, off + i, none⟩ = some (.int .i64 (Cl.at zs i))) := hc
  have hc0 := hc a ha
  have C0 : Hid (∀ w, Calls Try.prog 47 #[.int .i64 (Cl.at zs a)] w fun e w' => e = .returned (.int .i64 (Gx.cls (Cl.at zs a))) ∧ Below w.heap.size w w') := Class_any _
  clear hc hr
  go_enter Try.func44, Try.ntmps44
  go_wp2_with (go_at_call 47; refine (C0.out _).mono ?_; rintro e w1 ⟨rfl, hb1⟩)
  have HB1 : Hid (Below w.heap.size w w1) := hb1
  clear hb1 hc0
  go_loopw [5, 6] (fun l i wr => ∃ (k : Nat), a < k ∧ k ≤ zs.length ∧ i = .int .i64 k ∧ l = .int .i64 (Gx.cls (Cl.at zs (k - 1))) ∧ Hid (Cl.up zs (a + 1) = Cl.up zs k) ∧ Below w.heap.size w wr) (fun _ i _ => zs.length - (intOf i).toNat)
  case atStart => exact ⟨a + 1, by omega, by omega, by go_num, rfl, rfl, HB1.out⟩
  case round =>
    obtain ⟨k, hk1, hk2, rfl, rfl, HU, hbw⟩ := hrel
    have HBW : Hid (Below w.heap.size w wr) := hbw
    by_cases hlt : k < zs.length
    · have hcm : wr.cell? ⟨b, off + k, none⟩ = some (.int .i64 (Cl.at zs k)) := (hbw.cell (p := ⟨b, off + k, none⟩) hb).trans (HC.out k hlt)
      have CX : Hid (∀ w, Calls Try.prog 47 #[.int .i64 (Cl.at zs k)] w fun e w' => e = .returned (.int .i64 (Gx.cls (Cl.at zs k))) ∧ Below w.heap.size w w') := Class_any _
      have CJ : Hid (∀ w', Below w.heap.size w w' → Calls Try.prog 46 #[.slice (some ⟨b, off, none⟩) zs.length cap, .int .i64 k, .int .i64 (Gx.cls (Cl.at zs (k - 1))), .int .i64 (Gx.cls (Cl.at zs k))] w' fun e w'' => e = .returned (.bool (Cl.jn zs k)) ∧ Below w'.heap.size w' w'') := fun w' hb => joined_any _ zs k w' (HR.out.ext hb) (by omega) hlt
      obtain ⟨cr, hcr⟩ : ∃ c, c = Gx.cls (Cl.at zs k) := ⟨_, rfl⟩
      have HCR : Hid (cr = Gx.cls (Cl.at zs (k + 1 - 1))) := hcr
      rw [← hcr] at CX CJ
      clear hcr hbw C0
      generalize Gx.cls (Cl.at zs (k - 1)) = cl at *
      generalize Cl.at zs k = x at *
      cases hj : Cl.jn zs k with
      | true =>
        rw [hj] at CJ
        have HU' : Hid (Cl.up zs (a + 1) = Cl.up zs (k + 1)) := HU.out.trans (Cl.up_no zs k hlt hj)
        go_wp2_with (first | (go_at_call 47; refine (CX.out _).mono ?_; rintro e w2 ⟨rfl, hb2⟩) | (go_at_call 46; refine (CJ.out _ (ext_trans HBW.out hb2)).mono ?_; rintro e w3 ⟨rfl, hb3⟩))
        go_roundw
        case rel => exact ⟨k + 1, by omega, by omega, by go_num, by rw [HCR.out], HU'.out, ext_trans HBW.out (ext_trans hb2 hb3)⟩
        case measure => simp [intOf]; omega
      | false =>
        rw [hj] at CJ
        have HU' : Hid (Cl.up zs (a + 1) = k) := HU.out.trans (Cl.up_yes zs k hlt hj)
        go_wp2_with (first | (go_at_call 47; refine (CX.out _).mono ?_; rintro e w2 ⟨rfl, hb2⟩) | (go_at_call 46; refine (CJ.out _ (ext_trans HBW.out hb2)).mono ?_; rintro e w3 ⟨rfl, hb3⟩))
        go_ret
        exact ⟨ret_int (by rw [HU'.out]), ext_trans HBW.out (ext_trans hb2 hb3)⟩
    · have HU' : Hid (Cl.up zs (a + 1) = zs.length) := HU.out.trans (Cl.up_end zs k (by omega))
      go_wp2
      go_ret
      exact ⟨ret_int (by rw [HU'.out]), HBW.out⟩

set_option maxRecDepth 100000 in
theorem below_any (v : Value) (zs : List Int) (a : Nat) (w : World) (hr : Rd .i64 w v zs) (ha0 : 0 < a) (ha : a ≤ zs.length) :
    Calls Try.prog 48 #[v, .int .i64 a] w fun e w' => e = .returned (.int .i64 (Cl.dn zs (a - 1))) ∧ Below w.heap.size w w' := by
  have HR : Hid (Rd .i64 w v zs) := hr
  obtain ⟨b, off, cap, rfl, hl, hm, hb, hc⟩ := hr.at (by omega)
  have HC : Hid (∀ i, i < zs.length → w.cell? ⟨b, off + i, none⟩ = some (.int .i64 (Cl.at zs i))) := hc
  obtain ⟨a, rfl⟩ : ∃ a', a = a' + 1 := ⟨a - 1, by omega⟩
  have hc0 := hc a (by omega)
  have hai : ((a + 1 : Nat) : Int) - 1 = (a : Int) := by omega
  have C0 : Hid (∀ w, Calls Try.prog 47 #[.int .i64 (Cl.at zs a)] w fun e w' => e = .returned (.int .i64 (Gx.cls (Cl.at zs a))) ∧ Below w.heap.size w w') := Class_any _
  clear hc hr
  rw [Nat.add_sub_cancel]
  go_enter Try.func48, Try.ntmps48
  go_wp2_with (go_at_call 47; refine (C0.out _).mono ?_; rintro e w1 ⟨rfl, hb1⟩)
  have HB1 : Hid (Below w.heap.size w w1) := hb1
  clear hb1 hc0
  go_loopw [5, 6] (fun l i wr => ∃ (k : Nat), k ≤ a ∧ i = .int .i64 k ∧ l = .int .i64 (Gx.cls (Cl.at zs k)) ∧ Hid (Cl.dn zs a = Cl.dn zs k) ∧ Below w.heap.size w wr) (fun _ i _ => (intOf i).toNat)
  case atStart => exact ⟨a, by omega, by go_num, rfl, rfl, HB1.out⟩
  case round =>
    obtain ⟨k, hk, rfl, rfl, HU, hbw⟩ := hrel
    have HBW : Hid (Below w.heap.size w wr) := hbw
    cases k with
    | zero =>
      have HU' : Hid (Cl.dn zs a = 0) := HU.out
      go_wp2
      go_ret
      exact ⟨ret_int (by rw [HU'.out]; rfl), HBW.out⟩
    | succ k =>
      have hcm : wr.cell? ⟨b, off + k, none⟩ = some (.int .i64 (Cl.at zs k)) := (hbw.cell (p := ⟨b, off + k, none⟩) hb).trans (HC.out k (by omega))
      have CX : Hid (∀ w, Calls Try.prog 47 #[.int .i64 (Cl.at zs k)] w fun e w' => e = .returned (.int .i64 (Gx.cls (Cl.at zs k))) ∧ Below w.heap.size w w') := Class_any _
      have CJ : Hid (∀ w', Below w.heap.size w w' → Calls Try.prog 46 #[.slice (some ⟨b, off, none⟩) zs.length cap, .int .i64 (k + 1 : Nat), .int .i64 (Gx.cls (Cl.at zs k)), .int .i64 (Gx.cls (Cl.at zs (k + 1)))] w' fun e w'' => e = .returned (.bool (Cl.jn zs (k + 1))) ∧ Below w'.heap.size w' w'') := fun w' hb => joined_any _ zs (k + 1) w' (HR.out.ext hb) (by omega) (by omega)
      obtain ⟨cl, hcl⟩ : ∃ c, c = Gx.cls (Cl.at zs k) := ⟨_, rfl⟩
      have HCL : Hid (cl = Gx.cls (Cl.at zs k)) := hcl
      rw [← hcl] at CX CJ
      clear hcl hbw C0
      generalize Gx.cls (Cl.at zs (k + 1)) = cr at *
      have hki : ((k + 1 : Nat) : Int) - 1 = (k : Int) := by omega
      cases hj : Cl.jn zs (k + 1) with
      | true =>
        rw [hj] at CJ
        have HU' : Hid (Cl.dn zs a = Cl.dn zs k) := HU.out.trans (Cl.dn_no zs k hj)
        go_wp2_with (first | (go_at_call 47; refine (CX.out _).mono ?_; rintro e w2 ⟨rfl, hb2⟩) | (go_at_call 46; refine (CJ.out _ (ext_trans HBW.out hb2)).mono ?_; rintro e w3 ⟨rfl, hb3⟩))
        go_roundw
        case rel => exact ⟨k, by omega, by go_num, by rw [HCL.out], HU'.out, ext_trans HBW.out (ext_trans hb2 hb3)⟩
        case measure => simp [intOf]
      | false =>
        rw [hj] at CJ
        have HU' : Hid (Cl.dn zs a = k + 1) := HU.out.trans (Cl.dn_yes zs k hj)
        go_wp2_with (first | (go_at_call 47; refine (CX.out _).mono ?_; rintro e w2 ⟨rfl, hb2⟩) | (go_at_call 46; refine (CJ.out _ (ext_trans HBW.out hb2)).mono ?_; rintro e w3 ⟨rfl, hb3⟩))
        go_ret
        exact ⟨ret_int (by rw [HU'.out]; rfl), ext_trans HBW.out (ext_trans hb2 hb3)⟩
end Go.Proofs.Ytahjjpleceppaaa
