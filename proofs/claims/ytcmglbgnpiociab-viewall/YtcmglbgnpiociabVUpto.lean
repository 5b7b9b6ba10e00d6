/- All asks of some kinds. -/
import Derived.Test.YtcmglbgnpiociabVNest
namespace Go.Proofs.Ytcmglbgnpiociab
open Go.RowKit

/-- Asks of these kinds are answered as they should be. -/
def Told (lo hi : Int) : Prop := ∀ (q : Ak) (w : World), lo ≤ q.k → q.k ≤ hi → q.Ok w → (Lit.float .f64 q.x).wf = true → Calls Try.prog 8 #[.agg q.cs] w fun e w' => e = .returned (.bool true) ∧ Below w.heap.size w w'

set_option maxRecDepth 100000 in
set_option maxHeartbeats 1000000 in
theorem upTo_any (lo hi : Int) (hT : Told lo hi) (v : Value) (n : Nat) (w : World) (h : RdA w v n) : Calls Try.prog 7 #[v, .int .i64 lo, .int .i64 hi] w fun e w' => e = .returned (.bool true) ∧ Below w.heap.size w w' := by
  obtain ⟨ao, cap, rfl, hn, hm, hc⟩ := h
  have hm' : cap ≤ 9223372036854775807 := hm
  have HC := hidIt hc
  have HT := hidIt hT
  have AB := hidIt (able_any w)
  clear hc hm hT
  go_enter Try.func7, Try.ntmps7
  go_wp2_with (go_at_call 9; refine AB.out.mono ?_; rintro e w1 ⟨rfl, hb1⟩; have R1 := hidIt hb1; clear hb1)
  go_loopw [7] (fun i wr => ∃ k : Nat, k ≤ n ∧ i = .int .i64 k ∧ Below w.heap.size w wr) (fun i _ => n - (intOf i).toNat)
  case atStart => exact ⟨0, Nat.zero_le _, rfl, R1.out⟩
  case round =>
    obtain ⟨k, hk, rfl, hbw⟩ := hrel
    have HW := hidIt hbw
    by_cases hlt : k < n
    · obtain ⟨b, off, rfl, hbl, hall⟩ := HC.out (by omega)
      obtain ⟨q, hcq, hok, hx⟩ := hall k hlt
      have cc : ∀ j c, q.cs[j]? = some c → wr.cell? ⟨b, off + k * 7 + j, none⟩ = some c := fun j c hj => (hbw.cell (p := ⟨b, off + k * 7 + j, none⟩) hbl).trans (hcq j c hj)
      have HP := hidIt (fun h1 h2 => HT.out q wr h1 h2 (hok.ext hbw) hx)
      obtain ⟨kd, qa, qb, qc, qd, qx, qv, zs⟩ := q
      have c0 : wr.cell? ⟨b, off + k * 7, none⟩ = some (.int .i64 kd) := cc 0 _ rfl
      have c1 : wr.cell? ⟨b, off + k * 7 + 1, none⟩ = some (.int .i64 qa) := cc 1 _ rfl
      have c2 : wr.cell? ⟨b, off + k * 7 + 2, none⟩ = some (.int .i64 qb) := cc 2 _ rfl
      have c3 : wr.cell? ⟨b, off + k * 7 + 3, none⟩ = some (.int .i64 qc) := cc 3 _ rfl
      have c4 : wr.cell? ⟨b, off + k * 7 + 4, none⟩ = some (.int .i64 qd) := cc 4 _ rfl
      have c5 : wr.cell? ⟨b, off + k * 7 + 5, none⟩ = some (.float .f64 qx) := cc 5 _ rfl
      have c6 : wr.cell? ⟨b, off + k * 7 + 6, none⟩ = some (qv) := cc 6 _ rfl
      unfold Ak.cs at HP
      have hkn : (k : Int) < (n : Int) := by omega
      clear hall hcq hok hx hbw cc HC HT
      by_cases h1 : lo ≤ kd
      · by_cases h2 : kd ≤ hi
        · have HQ := hidIt (HP.out h1 h2)
          clear HP
          go_wp2_with (go_at_call 8; refine HQ.out.mono ?_; rintro e w2 ⟨rfl, hb2⟩; have HB2 := hidIt (ext_trans HW.out hb2); clear hb2)
          go_roundw
          case rel => exact ⟨k + 1, by omega, by go_num, HB2.out⟩
          case measure => simp [intOf]; omega
        · clear HP
          go_wp2_with fail
          go_roundw
          case rel => exact ⟨k + 1, by omega, by go_num, HW.out⟩
          case measure => simp [intOf]; omega
      · clear HP
        go_wp2_with fail
        go_roundw
        case rel => exact ⟨k + 1, by omega, by go_num, HW.out⟩
        case measure => simp [intOf]; omega
    · clear HC HT
      go_wp2
      go_ret
      exact ⟨rfl, HW.out⟩

theorem told12 : Told 1 2 := fun q w h1 h2 hok _ => by
  refine asked_whole q w (.inl (by omega)) fun w' => ?_
  rcases Int.lt_or_eq_of_le h1 with h | h
  · exact whole2 q w' (by omega) hok.hb
  · exact whole1 q w' h.symm

set_option maxRecDepth 100000 in
theorem lines_any (v : Value) (n : Nat) (w : World) (h : RdA w v n) : Calls Try.prog 3 #[v] w fun e w' => e = .returned (.bool true) ∧ Below w.heap.size w w' := by
  have UP := hidIt (upTo_any 1 2 told12 v n w h)
  obtain ⟨ao, cap, rfl, _⟩ := h
  go_enter Try.func3, Try.ntmps3
  go_wp2_with (go_at_call 7; refine UP.out.mono ?_; rintro e w1 ⟨rfl, hb1⟩)
  go_ret
  exact ⟨rfl, hb1⟩
end Go.Proofs.Ytcmglbgnpiociab
