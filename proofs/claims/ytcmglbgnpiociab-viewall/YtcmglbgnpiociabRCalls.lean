/- The document's Breaks, Next, Snap, Prev, Count, Column, Offset. -/
import Derived.Test.YtcmglbgnpiociabRBreak
import Derived.Test.YtcmglbgnpiociabVCov
import Derived.Test.YtcmglbgnpiociabVApp
namespace Go.Proofs.Ytcmglbgnpiociab
open Go.RowKit

set_option maxRecDepth 100000 in
set_option maxHeartbeats 1000000 in
theorem rBreaks_any (v : Value) (zs : List Int) (w : World) (hr : Rd .i64 w v zs) (hz : zs.length * 8 + 8 ≤ 140737488355328) :
    Calls Try.prog 39 #[v] w fun e w' => ∃ v', e = .returned v' ∧ Own w' w.heap.size v' (Cl.bi zs) ∧ Below w.heap.size w w' := by
  have HR : Hid (Rd .i64 w v zs) := hr
  obtain ⟨i0, hi, hz0, hz1, hz2⟩ := info_parts Try.info_i64
  obtain ⟨ao, cap, rfl⟩ : ∃ ao cap, v = .slice ao zs.length cap := by obtain ⟨ao, cap, hv, _⟩ := hr; exact ⟨ao, cap, hv⟩
  clear hr
  unfold Own
  go_enter Try.func39, Try.ntmps39
  go_wp2_with fail
  go_loopw [3, 4] (fun o i wr => ∃ k : Nat, k ≤ zs.length + 1 ∧ i = .int .i64 k ∧ wr.ownsRow w.heap.size 3 1 o (Cl.bl zs k).length (((Cl.bl zs k).map fun (n : Nat) => (n : Int)).map (Value.int .i64)) ∧ Below w.heap.size w wr) (fun _ i _ => zs.length + 1 - (intOf i).toNat)
  case atStart => exact ⟨0, Nat.zero_le _, rfl, World.ownsRow_nil _ _ _ _, Below.refl _ _⟩
  case round =>
    obtain ⟨k, hk, rfl, hown, hb⟩ := hrel
    have hz' : w.heap.size ≤ wr.heap.size := hb.size
    have HBW : Hid (Below w.heap.size w wr) := hb
    by_cases hlt : k ≤ zs.length
    · have KB : Hid (Calls Try.prog 45 #[.slice ao zs.length cap, .int .i64 k] wr fun e w' => e = .returned (.bool (Cl.isB zs k)) ∧ w' = wr) := by
        have := rIsBreak_any _ zs (k : Int) wr (HR.out.ext hb)
        unfold Cl.isBi at this
        rwa [if_pos (by omega), Int.toNat_natCast] at this
      have hbl := Cl.bl_len zs k
      cases hI : Cl.isB zs k with
      | true =>
        rw [hI] at KB
        have HT : Hid (((Cl.bl zs (k + 1)).map fun (n : Nat) => (n : Int)).map (Value.int .i64) = ((Cl.bl zs k).map fun (n : Nat) => (n : Int)).map (Value.int .i64) ++ [.int .i64 k] ∧ (Cl.bl zs (k + 1)).length = (Cl.bl zs k).length + 1) := by
          unfold Hid; rw [Cl.bl_yes zs k hI]; simp
        generalize ((Cl.bl zs k).map fun (n : Nat) => (n : Int)).map (Value.int .i64) = xs at *
        generalize (Cl.bl zs k).length = m at *
        go_wp2_with (first | (go_at_call 45; refine KB.out.mono ?_; rintro e w1 ⟨rfl, hw1⟩; obtain rfl : wr = w1 := hw1.symm) | (at_builtin; refine wpList_append_own _ rfl _ _ 27 rfl w.heap.size 3 i0 (.int .i64 0) 1 8 Try.underlying27 hi hz0 hz1 hz2 rfl (by decide) _ _ _ rfl (hown.alloc _) ⟨wr.heap.size, 0, none⟩ 1 1 [.int .i64 k] rfl rfl (cell_one_new _ _ _) (one_i64 _) (by unfold maxLen; omega) (by omega) (by simp; omega) ?_; intro v' w' hown' hg' hx'))
        go_roundw
        case rel => exact ⟨k + 1, by omega, by go_num, by rw [HT.out.1, HT.out.2]; exact hown', below_push HBW.out hown hg'⟩
        case measure => simp [intOf]; omega
      | false =>
        rw [hI] at KB
        have HT : Hid (Cl.bl zs (k + 1) = Cl.bl zs k) := Cl.bl_no zs k hI
        go_wp2_with (go_at_call 45; refine KB.out.mono ?_; rintro e w1 ⟨rfl, hw1⟩; obtain rfl : wr = w1 := hw1.symm)
        go_roundw
        case rel => exact ⟨k + 1, by omega, by go_num, by rw [HT.out]; exact hown, HBW.out⟩
        case measure => simp [intOf]; omega
    · have hke : k = zs.length + 1 := by omega
      subst hke
      have HT : Hid (((Cl.bl zs (zs.length + 1)).map fun (n : Nat) => (n : Int)).map (Value.int .i64) = (Cl.bi zs).map (Value.int .i64) ∧ (Cl.bl zs (zs.length + 1)).length = (Cl.bi zs).length) := ⟨rfl, by unfold Cl.bi Cl.bs; rw [List.length_map]⟩
      go_wp2
      go_ret
      exact ⟨_, rfl, by rw [← HT.out.1, ← HT.out.2]; exact hown, HBW.out⟩
end Go.Proofs.Ytcmglbgnpiociab
