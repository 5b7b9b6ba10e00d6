/- ViewCells, ViewAll: the walks. -/
import Derived.Test.YtcmglbgnpiociabVUptoS
import Derived.Test.YtcmglbgnpiociabVAsk8
namespace Go.Proofs.Ytcmglbgnpiociab
open Go.RowKit

theorem told78 : Told 7 8 := fun q w h1 h2 hok _ => by
  rcases Int.lt_or_eq_of_le h1 with h | h
  · exact ask8 q w (by omega) hok
  · exact ask7 q w h.symm hok
theorem told_all (q : Ak) (w : World) (hok : q.Ok w) (hx : (Lit.float .f64 q.x).wf = true) : Calls Try.prog 8 #[.agg q.cs] w fun e w' => e = .returned (.bool true) ∧ Below w.heap.size w w' := by
  by_cases h0 : q.k < 1
  · exact asked_whole q w (.inl (by omega)) fun w' => whole0 q w' (.inl h0)
  by_cases h9 : 8 < q.k
  · exact asked_whole q w (.inr h9) fun w' => whole0 q w' (.inr (by omega))
  by_cases h2 : q.k ≤ 2
  · exact told12 q w (by omega) h2 hok hx
  by_cases h6 : q.k ≤ 6
  · exact told36 q w (by omega) h6 hok hx
  · exact told78 q w (by omega) (by omega) hok hx
theorem told18 : Told 1 8 := fun q w _ _ hok hx => told_all q w hok hx

set_option maxRecDepth 100000 in
theorem cells_any (v : Value) (n : Nat) (w : World) (h : RdA w v n) : Calls Try.prog 5 #[v] w fun e w' => e = .returned (.bool true) ∧ Below w.heap.size w w' := by
  have UP := hidIt (upTo_any 7 8 told78 v n w h)
  obtain ⟨ao, cap, rfl, _⟩ := h
  go_enter Try.func5, Try.ntmps5
  go_wp2_with (go_at_call 7; refine UP.out.mono ?_; rintro e w1 ⟨rfl, hb1⟩)
  go_ret
  exact ⟨rfl, hb1⟩

set_option maxRecDepth 100000 in
set_option maxHeartbeats 1000000 in
theorem all_any (v : Value) (n : Nat) (w : World) (h : RdA w v n) : Calls Try.prog 6 #[v] w fun e w' => e = .returned (.bool true) ∧ Below w.heap.size w w' := by
  have UP := hidIt (upTo_any 1 8 told18 v n w h)
  obtain ⟨ao, cap, rfl, hn, hm, hc⟩ := h
  have hm' : cap ≤ 9223372036854775807 := hm
  have HC := hidIt hc
  have wn : IntKind.i64.wrap ((n : Int) - 1) = (n : Int) - 1 := by rw [IntKind.wrap_i64]; omega
  clear hc hm
  go_enter Try.func6, Try.ntmps6
  go_wp2_with (go_at_call 7; refine UP.out.mono ?_; rintro e w1 ⟨rfl, hb1⟩; have R1 := hidIt hb1; clear hb1)
  go_loopw [3] (fun i wr => ∃ k : Nat, k ≤ n ∧ i = .int .i64 ((k : Int) - 1) ∧ Below w.heap.size w wr) (fun i _ => (intOf i + 1).toNat)
  case atStart => exact ⟨n, Nat.le_refl _, rfl, R1.out⟩
  case round =>
    obtain ⟨k, hk, rfl, hbw⟩ := hrel
    have HW := hidIt hbw
    by_cases hlt : 0 < k
    · obtain ⟨b, off, rfl, hbl, hall⟩ := HC.out (by omega)
      obtain ⟨m, rfl⟩ : ∃ m, k = m + 1 := ⟨k - 1, by omega⟩
      obtain ⟨q, hcq, hok, hx⟩ := hall m (by omega)
      have cc : ∀ j c, q.cs[j]? = some c → wr.cell? ⟨b, off + m * 7 + j, none⟩ = some c := fun j c hj => (hbw.cell (p := ⟨b, off + m * 7 + j, none⟩) hbl).trans (hcq j c hj)
      have HP := hidIt (told_all q wr (hok.ext hbw) hx)
      obtain ⟨kd, qa, qb, qc, qd, qx, qv, zs⟩ := q
      have c0 : wr.cell? ⟨b, off + m * 7, none⟩ = some (.int .i64 kd) := cc 0 _ rfl
      have c1 : wr.cell? ⟨b, off + m * 7 + 1, none⟩ = some (.int .i64 qa) := cc 1 _ rfl
      have c2 : wr.cell? ⟨b, off + m * 7 + 2, none⟩ = some (.int .i64 qb) := cc 2 _ rfl
      have c3 : wr.cell? ⟨b, off + m * 7 + 3, none⟩ = some (.int .i64 qc) := cc 3 _ rfl
      have c4 : wr.cell? ⟨b, off + m * 7 + 4, none⟩ = some (.int .i64 qd) := cc 4 _ rfl
      have c5 : wr.cell? ⟨b, off + m * 7 + 5, none⟩ = some (.float .f64 qx) := cc 5 _ rfl
      have c6 : wr.cell? ⟨b, off + m * 7 + 6, none⟩ = some qv := cc 6 _ rfl
      unfold Ak.cs at HP
      have e1 : ((m + 1 : Nat) : Int) - 1 = (m : Int) := by omega
      have hm1 : (m : Int) < (n : Int) := by omega
      have hm0 : (0 : Int) ≤ (m : Int) := by omega
      have wm : IntKind.i64.wrap ((m : Int) - 1) = (m : Int) - 1 := by rw [IntKind.wrap_i64]; omega
      rw [e1]
      clear hall hcq hok hx hbw cc HC e1
      go_wp2_with (go_at_call 8; refine HP.out.mono ?_; rintro e w2 ⟨rfl, hb2⟩; have HB2 := hidIt (ext_trans HW.out hb2); clear hb2)
      go_roundw
      case rel => exact ⟨m, by omega, rfl, HB2.out⟩
      case measure => simp [intOf]
    · have hk0 : k = 0 := by omega
      subst hk0
      clear HC
      go_wp2
      go_ret
      exact ⟨rfl, HW.out⟩
end Go.Proofs.Ytcmglbgnpiociab
