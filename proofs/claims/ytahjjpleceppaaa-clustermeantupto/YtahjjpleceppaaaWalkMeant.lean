/- ClusterMeant: what stands alone; the law. -/
import Derived.Test.YtahjjpleceppaaaMeant2
namespace Go.Proofs.Ytahjjpleceppaaa
open Go.RowKit

set_option maxRecDepth 100000 in
set_option maxHeartbeats 2000000 in
theorem meant_8e (hdv : Value) (hd : List Int) (tlv : Value) (tl row : List Int) (n : Nat) (w : World) (h0 : Rd .i64 w hdv hd) (h1 : Rd .i64 w tlv tl) (hz : (hd.length + tl.length) * 8 + 4000 ≤ 140737488355328) (hn : n ≤ 64) (hm : (n : Int) % 2 = 0) (hrow : row = [-1 - (n : Int)]) :
    Calls Try.prog 6 #[hdv, .int .i64 8, .int .i64 n, tlv] w fun e w' => e = .returned (.bool true) ∧ Below w.heap.size w w' := by
  have H0 : Hid (Rd .i64 w hdv hd) := h0
  have H1 : Hid (Rd .i64 w tlv tl) := h1
  obtain ⟨a0, c0, rfl⟩ := h0.form
  obtain ⟨a1, c1, rfl⟩ := h1.form
  clear h0 h1
  obtain ⟨i0, hi, hz0, hz1, hz2⟩ := info_parts Try.info_i64
  obtain ⟨ms, hms⟩ : ∃ m, m = hd ++ [(10 : Int)] := ⟨_, rfl⟩
  have hml : ms.length = hd.length + 1 := by rw [hms]; simp
  have hml' : ms.length ≤ hd.length + 1 := by omega
  have HMS : Hid (ms = hd ++ [10]) := hms
  obtain ⟨q, hq⟩ : ∃ q, q = ms ++ row ++ tl := ⟨_, rfl⟩
  have hql : q.length ≤ ms.length + row.length + tl.length := by rw [hq]; simp; omega
  have HQ : Hid (q = ms ++ row ++ tl) := hq
  have m1 := Cl.bi_le q
  have hdn1 : decide ((64 : Int) < (n : Int)) = false := by simp; omega
  have hrl : row.length = 1 := by rw [hrow]; rfl
  have hmi : ((n : Int) % 2 == 1) = false := by rw [beq_eq_false_iff_ne, hm]; decide
  have HB0 : Hid (Cl.isBi q (ms.length : Int) = true) := by
    unfold Hid
    rw [Cl.isBi_nat q _ (by rw [hq]; simp), hq, hms, List.append_assoc, List.length_append]
    exact Cl.lead_B hd (row ++ tl)
  have HB2 : Hid (Cl.isBi q ((ms.length : Int) + 1) = true) := by
    unfold Hid
    rw [show (ms.length : Int) + 1 = ((ms.length + 1 : Nat) : Int) from by omega, Cl.isBi_nat q _ (by rw [hq, hrow]; simp)]
    refine Cl.isB_after q _ (by omega) (by rw [hq, hrow]; simp) (.inr ?_)
    have e : Cl.at q (ms.length + 1 - 1) = -1 - (n : Int) := by
      rw [hq, hrow, Nat.add_sub_cancel, List.append_assoc]
      exact Cl.at_mid ms tl _
    rw [e]; exact (Gx.alone_facts _ (by omega)).1
  have HROW : Hid (row = [-1 - (n : Int)]) := hrow
  clear hrow hq hms hml hm
  go_enter Try.func6, Try.ntmps6
  go_wp2_with fail
  refine (copied_any _ hd _ H0.out (by omega)).mono ?_
  rintro e w1 ⟨u1, rfl, ho1, hb1⟩
  unfold Own at ho1
  have hz' : w.heap.size ≤ w1.heap.size := hb1.size
  have HB1 : Hid (Below w.heap.size w w1) := hb1
  generalize hxs : hd.map (Value.int .i64) = xs at *
  have HXS : Hid (xs ++ [Value.int .i64 10] = (hd ++ [10]).map (Value.int .i64)) := by unfold Hid; rw [← hxs]; simp
  clear hxs hb1
  go_wp2_with (at_builtin; refine wpList_append_own _ rfl _ _ 22 rfl w.heap.size 3 i0 (.int .i64 0) 1 8 Try.underlying22 hi hz0 hz1 hz2 rfl (by decide) _ _ _ rfl (ho1.alloc _) ⟨w1.heap.size, 0, none⟩ 1 1 [.int .i64 10] rfl rfl (cell_one_new _ _ _) (one_i64 _) (by unfold maxLen; omega) (by omega) (by simp; omega) ?_; intro v' w2 hown' hg' hx')
  have hb2 := below_push HB1.out ho1 hg'
  rw [HXS.out] at hown'
  have hr2 : Rd .i64 w2 v' (hd ++ [10]) := Rd.of_own hown'
  have R2 : Hid (Rd .i64 w2 v' ms ∧ Below w.heap.size w w2) := by unfold Hid; rw [HMS.out]; exact ⟨hr2, hb2⟩
  obtain ⟨d2, e2, rfl⟩ := R2.out.1.form
  clear ho1 hown' hg' hx' hb2 hr2 HXS HB1
  have R3 : Hid (Rd .i64 (w2.alloc (.cells #[.int .i64 (-1 - (n : Int))] 3)) (.slice d2 ms.length e2) ms ∧ Rd .i64 (w2.alloc (.cells #[.int .i64 (-1 - (n : Int))] 3)) (.slice (some ⟨w2.heap.size, 0, none⟩) 1 1) row ∧ Below w.heap.size w (w2.alloc (.cells #[.int .i64 (-1 - (n : Int))] 3))) := by
    refine ⟨R2.out.1.ext (ext_alloc (Below.refl _ _) _), ?_, ext_alloc R2.out.2 _⟩
    rw [HROW.out]
    exact Rd.lit .i64 w2 3 [-1 - (n : Int)] (by simp [maxLen])
  clear R2
  go_wp2_with fail
  refine (new_of R3.out.2.2 (lawJoined_any _ _ ms row _ R3.out.1 R3.out.2.1 (by omega))).mono ?_
  rintro e w4 ⟨u4, rfl, hr4, hp4, hb4⟩
  have R4 : Hid (Rd .i64 w4 u4 (ms ++ row) ∧ Below w.heap.size w w4) := ⟨hr4, hb4⟩
  clear hr4 hp4 hb4
  go_wp2_with fail
  refine (new_of R4.out.2 (lawJoined_any _ _ (ms ++ row) tl _ R4.out.1 (H1.out.ext R4.out.2) (by rw [List.length_append]; omega))).mono ?_
  rintro e w5 ⟨u5, rfl, hr5, -, hb5⟩
  have R5 : Hid (Rd .i64 w5 u5 q ∧ Below w.heap.size w w5) := by unfold Hid; rw [HQ.out]; exact ⟨hr5, hb5⟩
  obtain ⟨d5, e5, rfl⟩ := R5.out.1.form
  clear hr5 hb5 R4
  go_wp2_with fail
  refine (new_of (Below.refl _ _) (copied_any _ q _ R5.out.1 (by omega))).mono ?_
  rintro e w6 ⟨u6, rfl, hr6, -, hb6⟩
  have R6 : Hid (Rd .i64 w6 u6 q ∧ Below w5.heap.size w5 w6) := ⟨hr6, hb6⟩
  clear hr6 hb6
  go_wp2_with fail
  refine (new_of R6.out.2 (Breaks_any _ q _ R6.out.1 (by omega))).mono ?_
  rintro e w7 ⟨u7, rfl, hr7, -, hb7⟩
  have R7 : Hid (Rd .i64 w7 u7 (Cl.bi q) ∧ Below w5.heap.size w5 w7) := ⟨hr7, hb7⟩
  clear hr7 hb7 R6
  go_wp2_with fail
  refine (tell_of R7.out.2 (ends_any _ _ _ _ R7.out.1 (Cl.bi_rise _))).mono ?_
  rintro e w8 ⟨rfl, -, hb8⟩
  have R8 : Hid (Below w5.heap.size w5 w8) := hb8
  clear hb8 R7
  go_wp2_with fail
  refine (tell_of R8.out (IsBreak_any _ q _ _ (R5.out.1.ext R8.out))).mono ?_
  rintro e w9 ⟨rfl, -, hb9⟩
  rw [HB0.out]
  have R9 : Hid (Below w5.heap.size w5 w9) := hb9
  clear hb9 R8
  go_wp2_with fail
  refine (tell_of R9.out (IsBreak_any _ q _ _ (R5.out.1.ext R9.out))).mono ?_
  rintro e w10 ⟨rfl, -, hb10⟩
  rw [HB2.out]
  have R10 : Hid (Below w5.heap.size w5 w10) := hb10
  clear hb10 R9
  go_wp2_with fail
  go_ret
  exact ⟨rfl, ext_trans R5.out.2 R10.out⟩

set_option maxRecDepth 100000 in
set_option maxHeartbeats 2000000 in
theorem meant_8o (hdv : Value) (hd : List Int) (tlv : Value) (tl row : List Int) (n : Nat) (w : World) (h0 : Rd .i64 w hdv hd) (h1 : Rd .i64 w tlv tl) (hz : (hd.length + tl.length) * 8 + 4000 ≤ 140737488355328) (hn : n ≤ 64) (hm : (n : Int) % 2 = 1) (hrow : row = [55296 + 31 * (n : Int)]) :
    Calls Try.prog 6 #[hdv, .int .i64 8, .int .i64 n, tlv] w fun e w' => e = .returned (.bool true) ∧ Below w.heap.size w w' := by
  have H0 : Hid (Rd .i64 w hdv hd) := h0
  have H1 : Hid (Rd .i64 w tlv tl) := h1
  obtain ⟨a0, c0, rfl⟩ := h0.form
  obtain ⟨a1, c1, rfl⟩ := h1.form
  clear h0 h1
  obtain ⟨i0, hi, hz0, hz1, hz2⟩ := info_parts Try.info_i64
  obtain ⟨ms, hms⟩ : ∃ m, m = hd ++ [(10 : Int)] := ⟨_, rfl⟩
  have hml : ms.length = hd.length + 1 := by rw [hms]; simp
  have hml' : ms.length ≤ hd.length + 1 := by omega
  have HMS : Hid (ms = hd ++ [10]) := hms
  obtain ⟨q, hq⟩ : ∃ q, q = ms ++ row ++ tl := ⟨_, rfl⟩
  have hql : q.length ≤ ms.length + row.length + tl.length := by rw [hq]; simp; omega
  have HQ : Hid (q = ms ++ row ++ tl) := hq
  have m1 := Cl.bi_le q
  have hdn1 : decide ((64 : Int) < (n : Int)) = false := by simp; omega
  have hrl : row.length = 1 := by rw [hrow]; rfl
  have hmi : ((n : Int) % 2 == 1) = true := by rw [beq_iff_eq]; exact hm
  have HB0 : Hid (Cl.isBi q (ms.length : Int) = true) := by
    unfold Hid
    rw [Cl.isBi_nat q _ (by rw [hq]; simp), hq, hms, List.append_assoc, List.length_append]
    exact Cl.lead_B hd (row ++ tl)
  have HB2 : Hid (Cl.isBi q ((ms.length : Int) + 1) = true) := by
    unfold Hid
    rw [show (ms.length : Int) + 1 = ((ms.length + 1 : Nat) : Int) from by omega, Cl.isBi_nat q _ (by rw [hq, hrow]; simp)]
    refine Cl.isB_after q _ (by omega) (by rw [hq, hrow]; simp) (.inr ?_)
    have e : Cl.at q (ms.length + 1 - 1) = 55296 + 31 * (n : Int) := by
      rw [hq, hrow, Nat.add_sub_cancel, List.append_assoc]
      exact Cl.at_mid ms tl _
    rw [e]; exact (Gx.alone_facts _ (by omega)).1
  have HROW : Hid (row = [55296 + 31 * (n : Int)]) := hrow
  clear hrow hq hms hml hm
  go_enter Try.func6, Try.ntmps6
  go_wp2_with fail
  refine (copied_any _ hd _ H0.out (by omega)).mono ?_
  rintro e w1 ⟨u1, rfl, ho1, hb1⟩
  unfold Own at ho1
  have hz' : w.heap.size ≤ w1.heap.size := hb1.size
  have HB1 : Hid (Below w.heap.size w w1) := hb1
  generalize hxs : hd.map (Value.int .i64) = xs at *
  have HXS : Hid (xs ++ [Value.int .i64 10] = (hd ++ [10]).map (Value.int .i64)) := by unfold Hid; rw [← hxs]; simp
  clear hxs hb1
  go_wp2_with (at_builtin; refine wpList_append_own _ rfl _ _ 22 rfl w.heap.size 3 i0 (.int .i64 0) 1 8 Try.underlying22 hi hz0 hz1 hz2 rfl (by decide) _ _ _ rfl (ho1.alloc _) ⟨w1.heap.size, 0, none⟩ 1 1 [.int .i64 10] rfl rfl (cell_one_new _ _ _) (one_i64 _) (by unfold maxLen; omega) (by omega) (by simp; omega) ?_; intro v' w2 hown' hg' hx')
  have hb2 := below_push HB1.out ho1 hg'
  rw [HXS.out] at hown'
  have hr2 : Rd .i64 w2 v' (hd ++ [10]) := Rd.of_own hown'
  have R2 : Hid (Rd .i64 w2 v' ms ∧ Below w.heap.size w w2) := by unfold Hid; rw [HMS.out]; exact ⟨hr2, hb2⟩
  obtain ⟨d2, e2, rfl⟩ := R2.out.1.form
  clear ho1 hown' hg' hx' hb2 hr2 HXS HB1
  have R3 : Hid (Rd .i64 (w2.alloc (.cells #[.int .i64 (55296 + 31 * (n : Int))] 3)) (.slice d2 ms.length e2) ms ∧ Rd .i64 (w2.alloc (.cells #[.int .i64 (55296 + 31 * (n : Int))] 3)) (.slice (some ⟨w2.heap.size, 0, none⟩) 1 1) row ∧ Below w.heap.size w (w2.alloc (.cells #[.int .i64 (55296 + 31 * (n : Int))] 3))) := by
    refine ⟨R2.out.1.ext (ext_alloc (Below.refl _ _) _), ?_, ext_alloc R2.out.2 _⟩
    rw [HROW.out]
    exact Rd.lit .i64 w2 3 [55296 + 31 * (n : Int)] (by simp [maxLen])
  clear R2
  go_wp2_with fail
  refine (new_of R3.out.2.2 (lawJoined_any _ _ ms row _ R3.out.1 R3.out.2.1 (by omega))).mono ?_
  rintro e w4 ⟨u4, rfl, hr4, hp4, hb4⟩
  have R4 : Hid (Rd .i64 w4 u4 (ms ++ row) ∧ Below w.heap.size w w4) := ⟨hr4, hb4⟩
  clear hr4 hp4 hb4
  go_wp2_with fail
  refine (new_of R4.out.2 (lawJoined_any _ _ (ms ++ row) tl _ R4.out.1 (H1.out.ext R4.out.2) (by rw [List.length_append]; omega))).mono ?_
  rintro e w5 ⟨u5, rfl, hr5, -, hb5⟩
  have R5 : Hid (Rd .i64 w5 u5 q ∧ Below w.heap.size w w5) := by unfold Hid; rw [HQ.out]; exact ⟨hr5, hb5⟩
  obtain ⟨d5, e5, rfl⟩ := R5.out.1.form
  clear hr5 hb5 R4
  go_wp2_with fail
  refine (new_of (Below.refl _ _) (copied_any _ q _ R5.out.1 (by omega))).mono ?_
  rintro e w6 ⟨u6, rfl, hr6, -, hb6⟩
  have R6 : Hid (Rd .i64 w6 u6 q ∧ Below w5.heap.size w5 w6) := ⟨hr6, hb6⟩
  clear hr6 hb6
  go_wp2_with fail
  refine (new_of R6.out.2 (Breaks_any _ q _ R6.out.1 (by omega))).mono ?_
  rintro e w7 ⟨u7, rfl, hr7, -, hb7⟩
  have R7 : Hid (Rd .i64 w7 u7 (Cl.bi q) ∧ Below w5.heap.size w5 w7) := ⟨hr7, hb7⟩
  clear hr7 hb7 R6
  go_wp2_with fail
  refine (tell_of R7.out.2 (ends_any _ _ _ _ R7.out.1 (Cl.bi_rise _))).mono ?_
  rintro e w8 ⟨rfl, -, hb8⟩
  have R8 : Hid (Below w5.heap.size w5 w8) := hb8
  clear hb8 R7
  go_wp2_with fail
  refine (tell_of R8.out (IsBreak_any _ q _ _ (R5.out.1.ext R8.out))).mono ?_
  rintro e w9 ⟨rfl, -, hb9⟩
  rw [HB0.out]
  have R9 : Hid (Below w5.heap.size w5 w9) := hb9
  clear hb9 R8
  go_wp2_with fail
  refine (tell_of R9.out (IsBreak_any _ q _ _ (R5.out.1.ext R9.out))).mono ?_
  rintro e w10 ⟨rfl, -, hb10⟩
  rw [HB2.out]
  have R10 : Hid (Below w5.heap.size w5 w10) := hb10
  clear hb10 R9
  go_wp2_with fail
  go_ret
  exact ⟨rfl, ext_trans R5.out.2 R10.out⟩

set_option maxRecDepth 100000 in
theorem law_meant (v0 : Value) (z0 : List Int) (kind nn : Int) (v3 : Value) (z3 : List Int) (w : World) (h0 : Rd .i64 w v0 z0) (h3 : Rd .i64 w v3 z3) (hz : (z0.length + z3.length) * 8 + 4000 ≤ 140737488355328) :
    Calls Try.prog 6 #[v0, .int .i64 kind, .int .i64 nn, v3] w fun e w' => e = .returned (.bool true) ∧ Below w.heap.size w w' := by
  by_cases hn : nn < 0 ∨ 64 < nn ∨ kind < 0 ∨ 8 < kind
  · obtain ⟨a0, c0, rfl⟩ := h0.form
    obtain ⟨a3, c3, rfl⟩ := h3.form
    clear h0 h3 hz
    by_cases g1 : nn < 0
    · have d1 : decide (nn < 0) = true := by simp [g1]
      go_enter Try.func6, Try.ntmps6
      go_wp2
      go_ret
      exact ⟨rfl, Below.refl _ _⟩
    have d1 : decide (nn < 0) = false := by simp; omega
    by_cases g2 : 64 < nn
    · have d2 : decide ((64 : Int) < nn) = true := by simp [g2]
      go_enter Try.func6, Try.ntmps6
      go_wp2
      go_ret
      exact ⟨rfl, Below.refl _ _⟩
    have d2 : decide ((64 : Int) < nn) = false := by simp; omega
    by_cases g3 : kind < 0
    · have d3 : decide (kind < 0) = true := by simp [g3]
      go_enter Try.func6, Try.ntmps6
      go_wp2
      go_ret
      exact ⟨rfl, Below.refl _ _⟩
    have d3 : decide (kind < 0) = false := by simp; omega
    have g4 : 8 < kind := by omega
    have d4 : decide ((8 : Int) < kind) = true := by simp [g4]
    clear hn
    go_enter Try.func6, Try.ntmps6
    go_wp2
    go_ret
    exact ⟨rfl, Below.refl _ _⟩
  obtain ⟨n, rfl⟩ : ∃ n : Nat, nn = n := ⟨nn.toNat, by omega⟩
  have hn64 : n ≤ 64 := by omega
  by_cases k8 : kind = 8
  · subst k8
    by_cases hm : (n : Int) % 2 = 1
    · exact meant_8o v0 z0 v3 z3 _ n w h0 h3 hz hn64 hm rfl
    · exact meant_8e v0 z0 v3 z3 _ n w h0 h3 hz hn64 (by omega) rfl
  by_cases k5 : kind = 5
  · subst k5
    exact meant_5 v0 z0 v3 z3 (Cl.row 5 n) n w h0 h3 hz hn64 (Cl.row_len 5 n hn64) (fun i a b => (Cl.row_B 5 n i a b (by decide) (by decide)).trans (by simp)) (fun w => meant_any 5 n w (by decide) (by decide) hn64)
  by_cases k0 : kind = 0
  · subst k0
    exact meant_0 v0 z0 v3 z3 (Cl.row 0 n) n w h0 h3 hz hn64 (Cl.row_len 0 n hn64) (fun i a b => (Cl.row_B 0 n i a b (by decide) (by decide)).trans (by simp)) (fun w => meant_any 0 n w (by decide) (by decide) hn64) rfl
  · exact meant_o v0 z0 v3 z3 (Cl.row kind n) kind n w h0 h3 hz hn64 (by omega) (by omega) k5 (Cl.row_len kind n hn64) (fun i a b => (Cl.row_B kind n i a b (by omega) (by omega)).trans (by simp [k5])) (fun w => meant_any kind n w (by omega) (by omega) hn64)
end Go.Proofs.Ytahjjpleceppaaa
