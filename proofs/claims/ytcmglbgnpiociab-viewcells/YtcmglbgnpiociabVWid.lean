/- How many cells a cluster takes. -/
import Derived.Test.YtcmglbgnpiociabVPlc
import Derived.Test.YtcmglbgnpiociabMem
import Derived.WalkMore
import Derived.Deep.LoopGhost
namespace Go.Proofs.Ytcmglbgnpiociab
open Go.RowKit

theorem Vw.sw_take (xs : List Int) (i : Nat) (h : i < xs.length) : Vw.sw (xs.take (i + 1)) = Vw.sw (xs.take i) + (Gx.wid (Cl.at xs i)).toNat := by
  rw [List.take_add_one, Vw.sw_app]
  unfold Cl.at
  rw [List.getElem?_eq_getElem h]
  simp [Vw.sw]

set_option maxRecDepth 100000 in
theorem width_any (v : Value) (xs : List Int) (c : Nat) (w : World) (hr : Rd .i64 w v xs) (h0 : 0 < xs.length) (hl : xs.length ≤ 140737488355328) : Calls Try.prog 38 #[v, .int .i64 c] w fun e w' => e = .returned (.int .i64 (Vw.wd xs c)) ∧ Below w.heap.size w w' := by
  obtain ⟨b, off, cap, rfl, hcap, hmx, hb, hc⟩ := hr.at h0
  have HC := hidIt hc
  by_cases h1 : xs.length = 1
  · have hc0 := hc 0 h0
    rw [Nat.add_zero] at hc0
    have HQ : Hid (Vw.wd xs c = if Cl.at xs 0 = 9 then 8 - c % 8 else (Gx.wid (Cl.at xs 0)).toNat) := by unfold Hid Vw.wd; rw [if_pos h1]
    have b1 : ((xs.length : Int) == 1) = true := by simp [h1]
    have hlt : (0 : Int) < (xs.length : Int) := by omega
    generalize Cl.at xs 0 = x at *
    clear hc HC
    by_cases h9 : x = 9
    · subst h9
      have HQ' : Hid (((Vw.wd xs c : Nat) : Int) = 8 - (c : Int).tmod 8) := by unfold Hid; rw [HQ.out, if_pos rfl, Int.tmod_eq_emod_of_nonneg (by omega)]; omega
      have hw : IntKind.i64.wrap ((c : Int).tmod 8) = (c : Int).tmod 8 := by rw [IntKind.wrap_i64, Int.tmod_eq_emod_of_nonneg (by omega)]; omega
      have hw2 : IntKind.i64.wrap (8 - (c : Int).tmod 8) = 8 - (c : Int).tmod 8 := by rw [IntKind.wrap_i64, Int.tmod_eq_emod_of_nonneg (by omega)]; omega
      go_enter Try.func38, Try.ntmps38
      go_wp2
      go_ret
      exact ⟨ret_int HQ'.out.symm, Below.refl _ _⟩
    · have b9 : (x == 9) = false := by simp [h9]
      have HW := hidIt (Width_any x)
      have HQ' : Hid (((Vw.wd xs c : Nat) : Int) = Gx.wid x) := by unfold Hid; have := Gx.wid_le x; rw [HQ.out, if_neg h9]; omega
      clear h9
      go_enter Try.func38, Try.ntmps38
      go_wp2_with (go_at_call 44; refine (HW.out _).mono ?_; rintro e w1 ⟨rfl, hb1⟩)
      go_ret
      exact ⟨ret_int HQ'.out.symm, hb1⟩
  · have b1 : ((xs.length : Int) == 1) = false := by rw [beq_eq_false_iff_ne]; omega
    have HQ : Hid (Vw.wd xs c = min (Vw.sw xs) 2) := by unfold Hid Vw.wd; rw [if_neg h1]
    clear hc h1
    go_enter Try.func38, Try.ntmps38
    go_wp2
    go_loopw [5, 24] (fun l i wr => ∃ (k : Nat), k ≤ xs.length ∧ i = .int .i64 k ∧ l = .int .i64 (Vw.sw (xs.take k) : Nat) ∧ Below w.heap.size w wr) (fun _ i _ => xs.length - (intOf i).toNat)
    case atStart => exact ⟨0, by omega, rfl, rfl, Below.refl _ _⟩
    case round =>
      obtain ⟨k, hk, rfl, rfl, hbw⟩ := hrel
      have HBW := hidIt hbw
      by_cases hlt : k < xs.length
      · have hcm : wr.cell? ⟨b, off + k, none⟩ = some (.int .i64 (Cl.at xs k)) := (hbw.cell (p := ⟨b, off + k, none⟩) hb).trans (HC.out k hlt)
        have HW := hidIt (Width_any (Cl.at xs k))
        have hwl := Gx.wid_le (Cl.at xs k)
        have HS : Hid (((Vw.sw (xs.take k) : Nat) : Int) + Gx.wid (Cl.at xs k) = ((Vw.sw (xs.take (k + 1)) : Nat) : Int)) := by unfold Hid; rw [Vw.sw_take xs k hlt]; omega
        have hsl := Vw.sw_le (xs.take k)
        rw [List.length_take] at hsl
        have hw : IntKind.i64.wrap (((Vw.sw (xs.take k) : Nat) : Int) + Gx.wid (Cl.at xs k)) = ((Vw.sw (xs.take k) : Nat) : Int) + Gx.wid (Cl.at xs k) := by rw [IntKind.wrap_i64]; omega
        have hk' : (k : Int) < (xs.length : Int) := by omega
        have hk0 : (0 : Int) ≤ (k : Int) := by omega
        clear hbw hwl hsl
        generalize Cl.at xs k = x at *
        generalize Gx.wid x = y at *
        generalize Vw.sw (xs.take k) = z at *
        go_wp2_with (go_at_call 44; refine (HW.out _).mono ?_; rintro e w2 ⟨rfl, hb2⟩)
        go_roundw
        case rel => exact ⟨k + 1, by omega, by go_num, by rw [HS.out], ext_trans HBW.out hb2⟩
        case measure => simp [intOf]; omega
      · have he : k = xs.length := by omega
        subst he
        rw [List.take_length]
        have HS := hidIt (show Vw.sw xs = Vw.sw xs from rfl)
        clear hbw hlt
        generalize Vw.sw xs = z at *
        go_wp2
        all_goals
          go_ret
          refine ⟨ret_int ?_, HBW.out⟩
          rw [HQ.out]
          omega
end Go.Proofs.Ytcmglbgnpiociab
