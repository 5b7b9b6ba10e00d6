/- ClusterCut: the walk. -/
import Derived.Test.YtahjjpleceppaaaWalkAhead
namespace Go.Proofs.Ytahjjpleceppaaa
open Go.RowKit

theorem Rd.cut_same {k : IntKind} {w : World} {ao : Option Addr} {len cap n : Nat} {zs : List Int} (h : Rd k w (.slice ao len cap) zs) (hc : cap = n) : Rd k w (.slice ao (len - n) (cap - n)) (zs.drop n) := by
  obtain ⟨ao', cap', hv, h1, h2, h3⟩ := h
  cases hv
  have hd : zs.drop n = [] := List.drop_eq_nil_of_le (by omega)
  rw [hd]
  exact ⟨ao, cap - n, by simp; omega, by simp, by omega, fun h => absurd rfl h⟩
theorem Rd.cut {k : IntKind} {w : World} {b off len cap n : Nat} {zs : List Int} (h : Rd k w (.slice (some ⟨b, off, none⟩) len cap) zs) (hn : n ≤ zs.length) : Rd k w (.slice (some ⟨b, off + n, none⟩) (len - n) (cap - n)) (zs.drop n) := by
  obtain ⟨ao', cap', hv, h1, h2, h3⟩ := h
  cases hv
  refine ⟨_, cap - n, by rw [List.length_drop], by rw [List.length_drop]; omega, by omega, fun hd => ?_⟩
  obtain ⟨b', off', ha, hb, hc⟩ := h3 (fun h => hd (by rw [h]; simp))
  cases ha
  refine ⟨b, off + n, rfl, hb, fun i hi => ?_⟩
  rw [List.length_drop] at hi
  rw [Nat.add_assoc, hc (n + i) (by omega), List.getElem?_drop]
theorem Own.form {w : World} {base : Nat} {v : Value} {zs : List Int} (h : Own w base v zs) : (v = .slice none 0 0 ∧ zs = []) ∨ ∃ g cap, v = .slice (some ⟨g, 0, none⟩) zs.length cap ∧ base ≤ g ∧ zs.length ≤ cap ∧ cap ≤ 9223372036854775807 := by
  obtain ⟨h1, h2⟩ := h
  rcases h2 with ⟨hv, h0⟩ | ⟨g', cap', cur, hv, hb, hg, hn, hc, hs, ht⟩
  · exact .inl ⟨hv, List.length_eq_zero_iff.1 h0⟩
  · exact .inr ⟨g', cap', hv, hb, hn, hc⟩
theorem Cl.snap_zero (a : Int) : Cl.snap [] a = 0 := by unfold Cl.snap; split <;> (try split) <;> first | rfl | (simp at *; omega)

set_option maxRecDepth 100000 in
set_option maxHeartbeats 1000000 in
theorem law_cut (v0 : Value) (z0 : List Int) (v1 : Value) (z1 : List Int) (w : World) (h0 : Rd .i64 w v0 z0) (h1 : Rd .i64 w v1 z1) (hz : (z0.length + z1.length) * 8 + 8 ≤ 140737488355328) :
    Calls Try.prog 7 #[v0, v1] w fun e w' => e = .returned (.bool true) ∧ Below w.heap.size w w' := by
  have H0 : Hid (Rd .i64 w v0 z0) := h0
  have H1 : Hid (Rd .i64 w v1 z1) := h1
  obtain ⟨a0, c0, rfl⟩ := h0.form
  obtain ⟨a1, c1, rfl⟩ := h1.form
  clear h0 h1
  obtain ⟨q, hq⟩ : ∃ q, q = z0 ++ z1 := ⟨_, rfl⟩
  have l1 : q.length = z0.length + z1.length := by rw [hq, List.length_append]
  have l2 : q.length ≤ z0.length + z1.length := by omega
  obtain ⟨s1, s2, s3, s4⟩ := Cl.snap_spec q (z0.length : Int)
  rw [Int.toNat_natCast] at s3
  have s5 : Cl.snap q (z0.length : Int) ≤ z0.length := by omega
  have m1 := Cl.bi_le q
  have HQ : Hid (Cl.bi (q.drop (Cl.snap q (z0.length : Int))) = Cl.fromL (Cl.snap q (z0.length : Int)) (Cl.bi q)) := Cl.cut q _ s2 s1
  have HQ1 : Hid (q = z0 ++ z1) := hq
  have HM : Hid (∀ x ∈ Cl.bi q, 0 ≤ x ∧ x ≤ 9223372036854775807) := fun x hx => by have := Cl.bi_mem q x hx; omega
  have K1 : Hid (∀ w' v', Rd .i64 w' v' q → Calls Try.prog 26 #[v', .int .i64 z0.length] w' fun e w'' => e = .returned (.int .i64 (Cl.snap q (z0.length : Int))) ∧ Below w'.heap.size w' w'') := fun w' v' h => Snap_any v' q _ w' h
  have K2 : Hid (∀ w' v', Rd .i64 w' v' q → Calls Try.prog 23 #[v', .int .i64 (Cl.snap q (z0.length : Int))] w' fun e w'' => e = .returned (.bool true) ∧ Below w'.heap.size w' w'') := fun w' v' h => by
    have := IsBreak_any v' q (Cl.snap q (z0.length : Int)) w' h
    rwa [Cl.isBi_nat q _ s1, s2] at this
  clear hq l1 s2 s3 s4
  generalize hp : Cl.snap q (z0.length : Int) = p at *
  clear hp
  obtain ⟨qd, hqd⟩ : ∃ d, d = q.drop p := ⟨_, rfl⟩
  have m2 := Cl.bi_le qd
  have m3 : qd.length ≤ q.length := by rw [hqd, List.length_drop]; omega
  rw [← hqd] at HQ
  have HQD : Hid (qd = q.drop p) := hqd
  clear hqd
  go_enter Try.func7, Try.ntmps7
  go_wp2_with fail
  refine (lawJoined_any _ _ z0 z1 _ H0.out H1.out (by omega)).mono ?_
  rintro e w1 ⟨u1, rfl, hr1, hb1⟩
  rw [← HQ1.out] at hr1
  have R1 : Hid (Rd .i64 w1 u1 q ∧ Below w.heap.size w w1) := ⟨hr1.rd, hb1⟩
  have HF : Hid ((u1 = .slice none 0 0 ∧ q = []) ∨ ∃ g cap, u1 = .slice (some ⟨g, 0, none⟩) q.length cap ∧ w.heap.size ≤ g ∧ q.length ≤ cap ∧ cap ≤ 9223372036854775807) := hr1.form
  obtain ⟨d1, e1, hu1⟩ := hr1.rd.form
  subst hu1
  clear hb1 hr1
  go_wp2_with fail
  refine (new_of R1.out.2 (copied_any _ _ _ R1.out.1 (by omega))).mono ?_
  rintro e w2 ⟨u2, rfl, hr2, hp2, hb2⟩
  have R2 : Hid (Rd .i64 w2 u2 q ∧ Below w1.heap.size w1 w2 ∧ Below w.heap.size w w2) := ⟨hr2, hp2, hb2⟩
  clear hr2 hp2 hb2
  go_wp2_with fail
  refine (new_of R2.out.2.2 (Breaks_any _ _ _ R2.out.1 (by omega))).mono ?_
  rintro e w3 ⟨u3, rfl, hr3, hp3, hb3⟩
  have R3 : Hid (Rd .i64 w3 u3 (Cl.bi q) ∧ Below w1.heap.size w1 w3 ∧ Below w.heap.size w w3) := ⟨hr3, ext_trans R2.out.2.1 hp3, hb3⟩
  obtain ⟨d3, e3, rfl⟩ := hr3.form
  clear hr3 hp3 hb3 R2
  go_wp2_with fail
  refine (tell_of R3.out.2.2 (ends_any _ _ _ _ R3.out.1 (Cl.bi_rise _))).mono ?_
  rintro e w4 ⟨rfl, hp4, hb4⟩
  have R4 : Hid (Below w3.heap.size w3 w4 ∧ Below w1.heap.size w1 w4 ∧ Below w.heap.size w w4) := ⟨hp4, ext_trans R3.out.2.1 hp4, hb4⟩
  clear hp4 hb4
  go_wp2_with fail
  refine (new_of R4.out.2.2 (copied_any _ _ _ (R1.out.1.ext R4.out.2.1) (by omega))).mono ?_
  rintro e w5 ⟨u5, rfl, hr5, hp5, hb5⟩
  have R5 : Hid (Rd .i64 w5 u5 q ∧ Below w3.heap.size w3 w5 ∧ Below w1.heap.size w1 w5 ∧ Below w.heap.size w w5) := ⟨hr5, ext_trans R4.out.1 hp5, ext_trans R4.out.2.1 hp5, hb5⟩
  clear hr5 hp5 hb5 R4
  go_wp2_with fail
  refine (tell_of R5.out.2.2.2 (K1.out _ _ R5.out.1)).mono ?_
  rintro e w6 ⟨rfl, hp6, hb6⟩
  have R6 : Hid (Below w3.heap.size w3 w6 ∧ Below w1.heap.size w1 w6 ∧ Below w.heap.size w w6) := ⟨ext_trans R5.out.2.1 hp6, ext_trans R5.out.2.2.1 hp6, hb6⟩
  clear hp6 hb6 R5
  have hx : decide ((z0.length : Int) < (p : Int)) = false := by simp; omega
  go_wp2_with fail
  refine (new_of R6.out.2.2 (copied_any _ _ _ (R1.out.1.ext R6.out.2.1) (by omega))).mono ?_
  rintro e w7 ⟨u7, rfl, hr7, hp7, hb7⟩
  have R7 : Hid (Rd .i64 w7 u7 q ∧ Below w3.heap.size w3 w7 ∧ Below w1.heap.size w1 w7 ∧ Below w.heap.size w w7) := ⟨hr7, ext_trans R6.out.1 hp7, ext_trans R6.out.2.1 hp7, hb7⟩
  clear hr7 hp7 hb7 R6
  go_wp2_with fail
  refine (tell_of R7.out.2.2.2 (K2.out _ _ R7.out.1)).mono ?_
  rintro e w8 ⟨rfl, hp8, hb8⟩
  have R8 : Hid (Below w3.heap.size w3 w8 ∧ Below w1.heap.size w1 w8 ∧ Below w.heap.size w w8) := ⟨ext_trans R7.out.2.1 hp8, ext_trans R7.out.2.2.1 hp8, hb8⟩
  clear hp8 hb8 R7
  rcases HF.out with ⟨hu, hq0⟩ | ⟨g, cap, hu, hg, hqc, hcm⟩
  · simp only [Value.slice.injEq] at hu
    obtain ⟨rfl, hql, rfl⟩ := hu
    have hp0 : p = 0 := by omega
    subst hp0
    have RQ : Hid (Rd .i64 w1 (.slice none 0 0) qd) := by
      unfold Hid; rw [HQD.out, hq0, List.drop_nil]; exact Rd.nil _ _
    clear HF hq0
    go_wp2_with fail
    refine (new_of R8.out.2.2 (copied_any _ _ _ (RQ.out.ext R8.out.2.1) (by omega))).mono ?_
    rintro e w9 ⟨u9, rfl, hr9, hp9, hb9⟩
    have R9 : Hid (Rd .i64 w9 u9 qd ∧ Below w3.heap.size w3 w9 ∧ Below w.heap.size w w9) := ⟨hr9, ext_trans R8.out.1 hp9, hb9⟩
    clear hr9 hp9 hb9
    go_wp2_with fail
    refine (new_of R9.out.2.2 (Breaks_any _ _ _ R9.out.1 (by omega))).mono ?_
    rintro e w10 ⟨u10, rfl, hr10, hp10, hb10⟩
    have R10 : Hid (Rd .i64 w10 u10 (Cl.bi qd) ∧ Below w3.heap.size w3 w10 ∧ Below w.heap.size w w10) := ⟨hr10, ext_trans R9.out.2.1 hp10, hb10⟩
    obtain ⟨d10, e10, rfl⟩ := hr10.form
    clear hr10 hp10 hb10 R9
    go_wp2_with fail
    refine (new_of R10.out.2.2 (from_any _ _ _ _ (R3.out.1.ext R10.out.2.1) (by omega) (by omega) HM.out)).mono ?_
    rintro e w11 ⟨u11, rfl, hr11, hp11, hb11⟩
    have R11 : Hid (Rd .i64 w11 u11 (Cl.fromL ((0 : Nat) : Int) (Cl.bi q)) ∧ Below w10.heap.size w10 w11 ∧ Below w.heap.size w w11) := ⟨hr11, hp11, hb11⟩
    obtain ⟨d11, e11, rfl⟩ := hr11.form
    clear hr11 hp11 hb11
    go_wp2_with fail
    refine (tell_of R11.out.2.2 (same_any _ _ _ _ _ (R10.out.1.ext R11.out.2.1) R11.out.1 HQ.out)).mono ?_
    rintro e w12 ⟨rfl, hp12, hb12⟩
    have R12 : Hid (Below w.heap.size w w12) := hb12
    clear hp12 hb12
    go_wp2_with fail
    go_ret
    exact ⟨rfl, R12.out⟩
  · simp only [Value.slice.injEq] at hu
    obtain ⟨rfl, _, rfl⟩ := hu
    have hpq : (p : Int) ≤ (q.length : Int) := by omega
    by_cases hcp : p = e1
    · subst hcp
      have RQ : Hid (Rd .i64 w1 (.slice (some ⟨g, 0, none⟩) 0 0) qd) := by
        unfold Hid; rw [HQD.out]; have := R1.out.1.cut_same rfl; rwa [Nat.sub_self, show q.length - p = 0 from by omega] at this
      clear HF
      go_wp2_with fail
      refine (new_of R8.out.2.2 (copied_any _ _ _ (RQ.out.ext R8.out.2.1) (by omega))).mono ?_
      rintro e w9 ⟨u9, rfl, hr9, hp9, hb9⟩
      have R9 : Hid (Rd .i64 w9 u9 qd ∧ Below w3.heap.size w3 w9 ∧ Below w.heap.size w w9) := ⟨hr9, ext_trans R8.out.1 hp9, hb9⟩
      clear hr9 hp9 hb9
      go_wp2_with fail
      refine (new_of R9.out.2.2 (Breaks_any _ _ _ R9.out.1 (by omega))).mono ?_
      rintro e w10 ⟨u10, rfl, hr10, hp10, hb10⟩
      have R10 : Hid (Rd .i64 w10 u10 (Cl.bi qd) ∧ Below w3.heap.size w3 w10 ∧ Below w.heap.size w w10) := ⟨hr10, ext_trans R9.out.2.1 hp10, hb10⟩
      obtain ⟨d10, e10, rfl⟩ := hr10.form
      clear hr10 hp10 hb10 R9
      go_wp2_with fail
      refine (new_of R10.out.2.2 (from_any _ _ (p : Int) _ (R3.out.1.ext R10.out.2.1) (by omega) (by omega) HM.out)).mono ?_
      rintro e w11 ⟨u11, rfl, hr11, hp11, hb11⟩
      have R11 : Hid (Rd .i64 w11 u11 (Cl.fromL (p : Int) (Cl.bi q)) ∧ Below w10.heap.size w10 w11 ∧ Below w.heap.size w w11) := ⟨hr11, hp11, hb11⟩
      obtain ⟨d11, e11, rfl⟩ := hr11.form
      clear hr11 hp11 hb11
      go_wp2_with fail
      refine (tell_of R11.out.2.2 (same_any _ _ _ _ _ (R10.out.1.ext R11.out.2.1) R11.out.1 HQ.out)).mono ?_
      rintro e w12 ⟨rfl, hp12, hb12⟩
      have R12 : Hid (Below w.heap.size w w12) := hb12
      clear hp12 hb12
      go_wp2_with fail
      go_ret
      exact ⟨rfl, R12.out⟩
    · have hcp' : ¬ e1 = p := fun h => hcp h.symm
      have RQ : Hid (Rd .i64 w1 (.slice (some ⟨g, 0 + p, none⟩) (q.length - p) (e1 - p)) qd) := by
        unfold Hid; rw [HQD.out]; exact R1.out.1.cut (by omega)
      rw [Nat.zero_add] at RQ
      clear HF
      go_wp2_with fail
      refine (new_of R8.out.2.2 (copied_any _ _ _ (RQ.out.ext R8.out.2.1) (by omega))).mono ?_
      rintro e w9 ⟨u9, rfl, hr9, hp9, hb9⟩
      have R9 : Hid (Rd .i64 w9 u9 qd ∧ Below w3.heap.size w3 w9 ∧ Below w.heap.size w w9) := ⟨hr9, ext_trans R8.out.1 hp9, hb9⟩
      clear hr9 hp9 hb9
      go_wp2_with fail
      refine (new_of R9.out.2.2 (Breaks_any _ _ _ R9.out.1 (by omega))).mono ?_
      rintro e w10 ⟨u10, rfl, hr10, hp10, hb10⟩
      have R10 : Hid (Rd .i64 w10 u10 (Cl.bi qd) ∧ Below w3.heap.size w3 w10 ∧ Below w.heap.size w w10) := ⟨hr10, ext_trans R9.out.2.1 hp10, hb10⟩
      obtain ⟨d10, e10, rfl⟩ := hr10.form
      clear hr10 hp10 hb10 R9
      go_wp2_with fail
      refine (new_of R10.out.2.2 (from_any _ _ (p : Int) _ (R3.out.1.ext R10.out.2.1) (by omega) (by omega) HM.out)).mono ?_
      rintro e w11 ⟨u11, rfl, hr11, hp11, hb11⟩
      have R11 : Hid (Rd .i64 w11 u11 (Cl.fromL (p : Int) (Cl.bi q)) ∧ Below w10.heap.size w10 w11 ∧ Below w.heap.size w w11) := ⟨hr11, hp11, hb11⟩
      obtain ⟨d11, e11, rfl⟩ := hr11.form
      clear hr11 hp11 hb11
      go_wp2_with fail
      refine (tell_of R11.out.2.2 (same_any _ _ _ _ _ (R10.out.1.ext R11.out.2.1) R11.out.1 HQ.out)).mono ?_
      rintro e w12 ⟨rfl, hp12, hb12⟩
      have R12 : Hid (Below w.heap.size w w12) := hb12
      clear hp12 hb12
      go_wp2_with fail
      go_ret
      exact ⟨rfl, R12.out⟩
end Go.Proofs.Ytahjjpleceppaaa
