/- ClusterAll: the walk. -/
import Derived.Test.YtahjjpleceppaaaAsked
import Derived.Test.YtahjjpleceppaaaNest
namespace Go.Proofs.Ytahjjpleceppaaa
open Go.RowKit

theorem Cl.bi_nil : (Cl.bi []).length = 1 := by rw [Cl.bi_len]; rw [show ([] : List Int).length = 0 from rfl, Cl.cnt_zero]

set_option maxRecDepth 100000 in
set_option maxHeartbeats 1000000 in
theorem law_All (v : Value) (n : Nat) (w : World) (h : RdO w v n) :
    Calls Try.prog 14 #[v] w fun e w' => e = .returned (.bool true) ∧ Below w.heap.size w w' := by
  obtain ⟨ao, cap, rfl, hn, hm, hc⟩ := h
  have hm' : cap ≤ 9223372036854775807 := hm
  have HC : Hid (0 < n → ∃ b off, ao = some ⟨b, off, none⟩ ∧ b < w.heap.size ∧ ∀ i, i < n → ∃ kind at' ai ci zs,
    w.cell? ⟨b, off + i * 3, none⟩ = some (.int .i64 kind) ∧ w.cell? ⟨b, off + i * 3 + 1, none⟩ = some (.int .i64 at') ∧ w.cell? ⟨b, off + i * 3 + 2, none⟩ = some (.slice ai zs.length ci) ∧ Rd .i64 w (.slice ai zs.length ci) zs ∧ zs.length * 8 ≤ 140737488351232) := hc
  clear hc hm
  go_enter Try.func14, Try.ntmps14
  go_wp2_with fail
  refine (Breaks_any _ [] _ (Rd.nil _ _) (by simp)).mono ?_
  rintro e w1 ⟨u1, rfl, ho1, hb1⟩
  obtain ⟨d1, e1, rfl⟩ := ho1.rd.form
  rw [Cl.bi_nil]
  have R1 : Hid (Below w.heap.size w w1) := hb1
  clear ho1 hb1
  go_wp2_with fail
  go_loopw [3] (fun i wr => ∃ k : Nat, k ≤ n ∧ i = .int .i64 k ∧ Below w.heap.size w wr) (fun i _ => n - (intOf i).toNat)
  case atStart => exact ⟨0, Nat.zero_le _, rfl, R1.out⟩
  case round =>
    obtain ⟨k, hk, rfl, hbw⟩ := hrel
    have HW : Hid (Below w.heap.size w wr) := hbw
    by_cases hlt : k < n
    · obtain ⟨b, off, rfl, hbl, hall⟩ := HC.out (by omega)
      obtain ⟨kind, at', ai, ci, zs, c0, c1, c2, hr, hz⟩ := hall k hlt
      have hc0 := (hbw.cell (p := ⟨b, off + k * 3, none⟩) hbl).trans c0
      have hc1 := (hbw.cell (p := ⟨b, off + k * 3 + 1, none⟩) hbl).trans c1
      have hc2 := (hbw.cell (p := ⟨b, off + k * 3 + 2, none⟩) hbl).trans c2
      have HP : Hid (Calls Try.prog 43 #[.agg #[.int .i64 kind, .int .i64 at', .slice ai zs.length ci]] wr fun e w' => e = .returned (.bool true) ∧ Below wr.heap.size wr w') := played_any kind at' ai ci zs wr (hr.ext hbw) (by omega)
      clear hall c0 c1 c2 hr hbw
      go_wp2_with (go_at_call 43; refine HP.out.mono ?_; rintro e w2 ⟨rfl, hb2⟩; have HB2 : Hid (Below w.heap.size w w2) := ext_trans HW.out hb2; clear hb2)
      go_roundw
      case rel => exact ⟨k + 1, by omega, by go_num, HB2.out⟩
      case measure => simp [intOf]; omega
    · clear HC
      go_wp2
      go_ret
      exact ⟨rfl, HW.out⟩
end Go.Proofs.Ytahjjpleceppaaa
