/- ClusterAhead: the walk. -/
import Derived.Test.YtahjjpleceppaaaPure2
namespace Go.Proofs.Ytahjjpleceppaaa
open Go.RowKit

theorem joined_rel (v u : Value) (qs zs : List Int) (w : World) (ha : Rd .i64 w v qs) (hr : Rd .i64 w u zs) (hz : (qs.length + zs.length) * 8 ≤ 140737488355328) :
    Hid (∀ w', Below w.heap.size w w' → Calls Try.prog 15 #[v, u] w' fun e w'' => ∃ v', e = .returned v' ∧ Rd .i64 w'' v' (qs ++ zs) ∧ Below w.heap.size w w'') :=
  fun w' hb => (lawJoined_any v u qs zs w' (ha.ext hb) (hr.ext hb) hz).mono fun _ _ ⟨v', h1, h2, h3⟩ => ⟨v', h1, h2.rd, ext_trans hb h3⟩
/-- A call that gives a new list, relative to an elder world. -/
theorem new_of {fn : Nat} {args : Array Value} {zs : List Int} {w w' : World} (hb : Below w.heap.size w w') (h : Calls Try.prog fn args w' fun e w'' => ∃ v', e = .returned v' ∧ Own w'' w'.heap.size v' zs ∧ Below w'.heap.size w' w'') :
    Calls Try.prog fn args w' fun e w'' => ∃ v', e = .returned v' ∧ Rd .i64 w'' v' zs ∧ Below w'.heap.size w' w'' ∧ Below w.heap.size w w'' :=
  h.mono fun _ _ ⟨v', h1, h2, h3⟩ => ⟨v', h1, h2.rd, h3, ext_trans hb h3⟩
theorem tell_of {fn : Nat} {args : Array Value} {r : Value} {w w' : World} (hb : Below w.heap.size w w') (h : Calls Try.prog fn args w' fun e w'' => e = .returned r ∧ Below w'.heap.size w' w'') :
    Calls Try.prog fn args w' fun e w'' => e = .returned r ∧ Below w'.heap.size w' w'' ∧ Below w.heap.size w w'' :=
  h.mono fun _ _ ⟨h1, h3⟩ => ⟨h1, h3, ext_trans hb h3⟩
theorem Rd.form {w : World} {v : Value} {zs : List Int} (h : Rd .i64 w v zs) : ∃ ao cap, v = .slice ao zs.length cap := by obtain ⟨ao, cap, hv, _⟩ := h; exact ⟨ao, cap, hv⟩

set_option maxRecDepth 100000 in
set_option maxHeartbeats 1000000 in
theorem law_ahead (v0 : Value) (z0 : List Int) (v1 : Value) (z1 : List Int) (v2 : Value) (z2 : List Int) (w : World) (h0 : Rd .i64 w v0 z0) (h1 : Rd .i64 w v1 z1) (h2 : Rd .i64 w v2 z2) (hz : (z0.length + z1.length + z2.length) * 8 + 8 ≤ 140737488355328) :
    Calls Try.prog 3 #[v0, v1, v2] w fun e w' => e = .returned (.bool true) ∧ Below w.heap.size w w' := by
  have H0 : Hid (Rd .i64 w v0 z0) := h0
  have H1 : Hid (Rd .i64 w v1 z1) := h1
  have H2 : Hid (Rd .i64 w v2 z2) := h2
  obtain ⟨a0, c0, rfl⟩ := h0.form
  obtain ⟨a1, c1, rfl⟩ := h1.form
  obtain ⟨a2, c2, rfl⟩ := h2.form
  clear h0 h1 h2
  obtain ⟨q1, hq1⟩ : ∃ q, q = z0 ++ z1 := ⟨_, rfl⟩
  obtain ⟨q2, hq2⟩ : ∃ q, q = z0 ++ z2 := ⟨_, rfl⟩
  have l1 : q1.length ≤ z0.length + z1.length := by rw [hq1, List.length_append]; exact Nat.le_refl _
  have l2 : q2.length ≤ z0.length + z2.length := by rw [hq2, List.length_append]; exact Nat.le_refl _
  have m1 := Cl.bi_le q1
  have m2 := Cl.bi_le q2
  have HQ : Hid (Cl.uptoL z0.length (Cl.bi q1) = Cl.uptoL z0.length (Cl.bi q2)) := by unfold Hid; rw [hq1, hq2]; exact Cl.ahead z0 z1 z2
  have HQ1 : Hid (q1 = z0 ++ z1) := hq1
  have HQ2 : Hid (q2 = z0 ++ z2) := hq2
  clear hq1 hq2
  go_enter Try.func3, Try.ntmps3
  go_wp2_with fail
  refine (new_of (Below.refl _ _) (lawJoined_any _ _ z0 z1 _ H0.out H1.out (by omega))).mono ?_
  rintro e w1 ⟨u1, rfl, hr1, -, hb1⟩
  rw [← HQ1.out] at hr1
  have R1 : Hid (Rd .i64 w1 u1 q1 ∧ Below w.heap.size w w1) := ⟨hr1, hb1⟩
  clear hb1
  go_wp2_with fail
  refine (new_of R1.out.2 (lawJoined_any _ _ z0 z2 _ (H0.out.ext R1.out.2) (H2.out.ext R1.out.2) (by omega))).mono ?_
  rintro e w2 ⟨u2, rfl, hr2, hp2, hb2⟩
  rw [← HQ2.out] at hr2
  have R2 : Hid (Rd .i64 w2 u1 q1 ∧ Rd .i64 w2 u2 q2 ∧ Below w.heap.size w w2) := ⟨R1.out.1.ext hp2, hr2, hb2⟩
  obtain ⟨d1, e1, rfl⟩ := hr1.form
  obtain ⟨d2, e2, rfl⟩ := hr2.form
  clear R1 hp2 hb2 hr1 hr2
  go_wp2_with fail
  refine (new_of R2.out.2.2 (copied_any _ _ _ R2.out.1 (by omega))).mono ?_
  rintro e w3 ⟨u3, rfl, hr3, hp3, hb3⟩
  have R3 : Hid (Rd .i64 w3 u3 q1 ∧ Below w2.heap.size w2 w3 ∧ Below w.heap.size w w3) := ⟨hr3, hp3, hb3⟩
  clear hp3 hb3
  go_wp2_with fail
  refine (new_of R3.out.2.2 (Breaks_any _ _ _ R3.out.1 (by omega))).mono ?_
  rintro e w4 ⟨u4, rfl, hr4, hp4, hb4⟩
  have R4 : Hid (Rd .i64 w4 u4 (Cl.bi q1) ∧ Below w2.heap.size w2 w4 ∧ Below w.heap.size w w4) := ⟨hr4, ext_trans R3.out.2.1 hp4, hb4⟩
  obtain ⟨d4, e4, rfl⟩ := hr4.form
  clear hp4 hb4 hr4 hr3 R3
  go_wp2_with fail
  refine (new_of R4.out.2.2 (copied_any _ _ _ (R2.out.2.1.ext R4.out.2.1) (by omega))).mono ?_
  rintro e w5 ⟨u5, rfl, hr5, hp5, hb5⟩
  have R5 : Hid (Rd .i64 w5 u5 q2 ∧ Below w4.heap.size w4 w5 ∧ Below w.heap.size w w5) := ⟨hr5, hp5, hb5⟩
  clear hp5 hb5 hr5
  go_wp2_with fail
  refine (new_of R5.out.2.2 (Breaks_any _ _ _ R5.out.1 (by omega))).mono ?_
  rintro e w6 ⟨u6, rfl, hr6, hp6, hb6⟩
  have R6 : Hid (Rd .i64 w6 u6 (Cl.bi q2) ∧ Below w4.heap.size w4 w6 ∧ Below w.heap.size w w6) := ⟨hr6, ext_trans R5.out.2.1 hp6, hb6⟩
  obtain ⟨d6, e6, rfl⟩ := hr6.form
  clear hp6 hb6 hr6 R5
  go_wp2_with fail
  refine (tell_of R6.out.2.2 (ends_any _ _ _ _ (R4.out.1.ext R6.out.2.1) (Cl.bi_rise _))).mono ?_
  rintro e w7 ⟨rfl, hp7, hb7⟩
  have R7 : Hid (Below w6.heap.size w6 w7 ∧ Below w.heap.size w w7) := ⟨hp7, hb7⟩
  clear hp7 hb7
  go_wp2_with fail
  refine (tell_of R7.out.2 (ends_any _ _ _ _ (R6.out.1.ext R7.out.1) (Cl.bi_rise _))).mono ?_
  rintro e w8 ⟨rfl, hp8, hb8⟩
  have R8 : Hid (Rd .i64 w8 (.slice d4 (Cl.bi q1).length e4) (Cl.bi q1) ∧ Rd .i64 w8 (.slice d6 (Cl.bi q2).length e6) (Cl.bi q2) ∧ Below w.heap.size w w8) := ⟨R4.out.1.ext (ext_trans R6.out.2.1 (ext_trans R7.out.1 hp8)), R6.out.1.ext (ext_trans R7.out.1 hp8), hb8⟩
  clear hp8 hb8 R7
  go_wp2_with fail
  refine (new_of R8.out.2.2 (upto_any _ _ _ _ R8.out.1 (by omega))).mono ?_
  rintro e w9 ⟨u9, rfl, hr9, hp9, hb9⟩
  have R9 : Hid (Rd .i64 w9 u9 (Cl.uptoL (z0.length : Int) (Cl.bi q1)) ∧ Below w8.heap.size w8 w9 ∧ Below w.heap.size w w9) := ⟨hr9, hp9, hb9⟩
  obtain ⟨d9, e9, rfl⟩ := hr9.form
  clear hp9 hb9 hr9
  go_wp2_with fail
  refine (new_of R9.out.2.2 (upto_any _ _ _ _ (R8.out.2.1.ext R9.out.2.1) (by omega))).mono ?_
  rintro e w10 ⟨u10, rfl, hr10, hp10, hb10⟩
  have R10 : Hid (Rd .i64 w10 u10 (Cl.uptoL (z0.length : Int) (Cl.bi q2)) ∧ Below w9.heap.size w9 w10 ∧ Below w.heap.size w w10) := ⟨hr10, hp10, hb10⟩
  obtain ⟨d10, e10, rfl⟩ := hr10.form
  clear hp10 hb10 hr10
  go_wp2_with fail
  refine (tell_of R10.out.2.2 (same_any _ _ _ _ _ (R9.out.1.ext R10.out.2.1) R10.out.1 HQ.out)).mono ?_
  rintro e w11 ⟨rfl, hp11, hb11⟩
  have R11 : Hid (Below w.heap.size w w11) := hb11
  clear hp11 hb11
  go_wp2_with fail
  go_ret
  exact ⟨rfl, R11.out⟩
end Go.Proofs.Ytahjjpleceppaaa
