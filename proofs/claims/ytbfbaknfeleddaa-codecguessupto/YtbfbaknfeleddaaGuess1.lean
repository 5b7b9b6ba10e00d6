/- Guess of the code: zeroShare, countHighAndRaw. -/
import Derived.Test.YtbfbaknfeleddaaFlt
import Derived.Test.YtbfbaknfeleddaaDec5
import Derived.WalkLawsBesides
namespace Go.Proofs.Ytbfbaknfeleddaa
open Go.RowKit

/-- How many of the first k units have a zero at place p. -/
def Cx.zc (zs : List Int) (p : Nat) : Nat → Nat
  | 0 => 0
  | k + 1 => Cx.zc zs p k + if zs[2 * k + p]?.getD 0 = 0 then 1 else 0
theorem Cx.zc_le (zs : List Int) (p : Nat) : ∀ k, Cx.zc zs p k ≤ k := by
  intro k
  induction k with
  | zero => exact Nat.le_refl _
  | succ k ih => unfold Cx.zc; split <;> omega

set_option maxRecDepth 100000 in
theorem zeroShare_any (v : Value) (zs : List Int) (p u : Nat) (q : Nat) (w : World) (h : Rd .u8 w v zs) (hp : p ≤ 1) (hu : 2 * u ≤ zs.length) (h0 : 0 < u)
    (hq : floatBits .quo .f64 (floatOfInt .f64 (Cx.zc zs p u : Nat)) (floatOfInt .f64 (u : Nat)) = some q) :
    Calls Try.prog 86 #[v, .int .i64 p, .int .i64 u] w fun e w' => e = .returned (.float .f64 q) ∧ Below w.heap.size w w' := by
  have hlen := h.len
  obtain ⟨ao, cap, rfl, hl, hm, hc⟩ := h
  obtain ⟨b, off, rfl, hbl, hc⟩ := hc (List.length_pos_iff.1 (by omega))
  have HC : Hid (∀ i, i < zs.length → w.cell? ⟨b, off + i, none⟩ = some (.int .u8 (zs[i]?.getD 0))) := hc
  have HQ : Hid (floatBits .quo .f64 (floatOfInt .f64 (Cx.zc zs p u : Nat)) (floatOfInt .f64 (u : Nat)) = some q) := hq
  clear hc hq hm
  go_enter Try.func86, Try.ntmps86
  go_wp2
  go_loopw [7, 10] (fun n i wr => ∃ k : Nat, k ≤ u ∧ i = .int .i64 k ∧ n = .int .i64 (Cx.zc zs p k : Nat) ∧ Below w.heap.size w wr) (fun _ i _ => u - (intOf i).toNat)
  case atStart => exact ⟨0, Nat.zero_le _, rfl, rfl, Below.refl _ _⟩
  case round =>
    obtain ⟨k, hk, rfl, rfl, hbw⟩ := hrel
    by_cases hlt : k < u
    · have hzk := Cx.zc_le zs p k
      have hcx : wr.cell? ⟨b, off + (2 * k + p), none⟩ = some (.int .u8 (zs[2 * k + p]?.getD 0)) := (hbw.cell (p := ⟨b, off + (2 * k + p), none⟩) hbl).trans (HC.out (2 * k + p) (by omega))
      have hix : (2 * (k : Int) + (p : Int)).toNat = 2 * k + p := by omega
      have hiy : 2 * (k : Int) + (p : Int) < (zs.length : Int) := by omega
      have hiz : 0 ≤ 2 * (k : Int) + (p : Int) := by omega
      have HS : Hid (Cx.zc zs p (k + 1) = Cx.zc zs p k + if zs[2 * k + p]?.getD 0 = 0 then 1 else 0) := rfl
      generalize zs[2 * k + p]?.getD 0 = x at *
      generalize Cx.zc zs p k = Z at *
      by_cases hx : x = 0
      · subst hx
        have HS' : Hid (Cx.zc zs p (k + 1) = Z + 1) := HS.out
        clear HS
        go_wp2
        go_roundw
        case rel => exact ⟨k + 1, by omega, by go_num, by rw [HS'.out]; go_num, hbw⟩
        case measure => simp [intOf]; omega
      · have hxb : (x == 0) = false := by simp [hx]
        have HS' : Hid (Cx.zc zs p (k + 1) = Z) := by unfold Hid; rw [HS.out, if_neg hx]; rfl
        clear HS
        go_wp2
        go_roundw
        case rel => exact ⟨k + 1, by omega, by go_num, by rw [HS'.out], hbw⟩
        case measure => simp [intOf]; omega
    · have hke : k = u := by omega
      subst hke
      have hop : ∀ t w, (binOp .quo t (.float .f64 (floatOfInt .f64 (Cx.zc zs p k : Nat))) (.float .f64 (floatOfInt .f64 (k : Nat)))).run Try.prog w = .ok (.float .f64 q) w := fun t w => run_float_arith w .quo t .f64 _ _ q HQ.out
      have HOP : Hid (∀ t w, (binOp .quo t (.float .f64 (floatOfInt .f64 (Cx.zc zs p k : Nat))) (.float .f64 (floatOfInt .f64 (k : Nat)))).run Try.prog w = .ok (.float .f64 q) w) := hop
      clear HC HQ
      go_wp2
      go_ret
      exact ⟨rfl, hbw⟩
end Go.Proofs.Ytbfbaknfeleddaa
