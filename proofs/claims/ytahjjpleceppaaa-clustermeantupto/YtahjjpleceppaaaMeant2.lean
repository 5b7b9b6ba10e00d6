/- ClusterMeant: the walks, by kind. -/
import Derived.Test.YtahjjpleceppaaaMeant1
namespace Go.Proofs.Ytahjjpleceppaaa
open Go.RowKit

set_option maxRecDepth 100000 in
set_option maxHeartbeats 2000000 in
theorem meant_5 (hdv : Value) (hd : List Int) (tlv : Value) (tl row : List Int) (n : Nat) (w : World) (h0 : Rd .i64 w hdv hd) (h1 : Rd .i64 w tlv tl) (hz : (hd.length + tl.length) * 8 + 4000 ≤ 140737488355328) (hn : n ≤ 64) (hrl : row.length ≤ 64)
    (hrow : ∀ i, 0 < i → i < row.length → Cl.isB row i = (i % 2 == 0))
    (CM : Hid (∀ w, Calls Try.prog 27 #[.int .i64 5, .int .i64 n] w fun e w' => ∃ v', e = .returned v' ∧ Rd .i64 w' v' row ∧ Below w.heap.size w w')) :
    Calls Try.prog 6 #[hdv, .int .i64 5, .int .i64 n, tlv] w fun e w' => e = .returned (.bool true) ∧ Below w.heap.size w w' := by
  have H0 : Hid (Rd .i64 w hdv hd) := h0
  have H1 : Hid (Rd .i64 w tlv tl) := h1
  obtain ⟨a0, c0, rfl⟩ := h0.form
  obtain ⟨a1, c1, rfl⟩ := h1.form
  clear h0 h1
  obtain ⟨i0, hi, hz0, hz1, hz2⟩ := info_parts Try.info_i64
  obtain ⟨ms, hms⟩ : ∃ m, m = hd ++ [(10 : Int)] := ⟨_, rfl⟩
  have hml : ms.length = hd.length + 1 := by rw [hms]; simp
  have hml' : ms.length ≤ hd.length + 1 := by omega
  have HMS : Hid (ms = hd ++ [10]) := hms
  obtain ⟨q, hq⟩ : ∃ q, q = ms ++ row ++ tl := ⟨_, rfl⟩
  have hql : q.length ≤ ms.length + row.length + tl.length := by rw [hq]; simp; omega
  have HQ : Hid (q = ms ++ row ++ tl) := hq
  have m1 := Cl.bi_le q
  have hdn1 : decide ((64 : Int) < (n : Int)) = false := by simp; omega
  have HB0 : Hid (Cl.isBi q (ms.length : Int) = true) := by
    unfold Hid
    rw [Cl.isBi_nat q _ (by rw [hq]; simp), hq, hms, List.append_assoc, List.length_append]
    exact Cl.lead_B hd (row ++ tl)
  have HBi : Hid (∀ i, 0 < i → i < row.length → Cl.isBi q ((ms.length : Int) + (i : Int)) = (i % 2 == 0)) := fun i g0 gi => by
    rw [show (ms.length : Int) + (i : Int) = ((ms.length + i : Nat) : Int) from by omega, Cl.isBi_nat q _ (by rw [hq]; simp; omega), ← hrow i g0 gi, hq, hml, hms]
    exact Cl.meant_at hd row tl i gi
  clear hrow hq hms hml
  go_enter Try.func6, Try.ntmps6
  go_wp2_with fail
  refine (copied_any _ hd _ H0.out (by omega)).mono ?_
  rintro e w1 ⟨u1, rfl, ho1, hb1⟩
  unfold Own at ho1
  have hz' : w.heap.size ≤ w1.heap.size := hb1.size
  have HB1 : Hid (Below w.heap.size w w1) := hb1
  generalize hxs : hd.map (Value.int .i64) = xs at *
  have HXS : Hid (xs ++ [Value.int .i64 10] = (hd ++ [10]).map (Value.int .i64)) := by unfold Hid; rw [← hxs]; simp
  clear hxs hb1
  go_wp2_with (at_builtin; refine wpList_append_own _ rfl _ _ 22 rfl w.heap.size 3 i0 (.int .i64 0) 1 8 Try.underlying22 hi hz0 hz1 hz2 rfl (by decide) _ _ _ rfl (ho1.alloc _) ⟨w1.heap.size, 0, none⟩ 1 1 [.int .i64 10] rfl rfl (cell_one_new _ _ _) (one_i64 _) (by unfold maxLen; omega) (by omega) (by simp; omega) ?_; intro v' w2 hown' hg' hx')
  have hb2 := below_push HB1.out ho1 hg'
  rw [HXS.out] at hown'
  have hr2 : Rd .i64 w2 v' (hd ++ [10]) := Rd.of_own hown'
  have R2 : Hid (Rd .i64 w2 v' ms ∧ Below w.heap.size w w2) := by unfold Hid; rw [HMS.out]; exact ⟨hr2, hb2⟩
  obtain ⟨d2, e2, rfl⟩ := R2.out.1.form
  clear ho1 hown' hg' hx' hb2 hr2 HXS HB1
  go_wp2_with fail
  refine (CM.out _).mono ?_
  rintro e w3 ⟨u3, rfl, hr3, hb3⟩
  have R3 : Hid (Rd .i64 w3 (.slice d2 ms.length e2) ms ∧ Rd .i64 w3 u3 row ∧ Below w.heap.size w w3) := ⟨R2.out.1.ext hb3, hr3, ext_trans R2.out.2 hb3⟩
  obtain ⟨d3, e3, rfl⟩ := R3.out.2.1.form
  clear hr3 hb3 R2
  go_wp2_with fail
  refine (new_of R3.out.2.2 (lawJoined_any _ _ ms row _ R3.out.1 R3.out.2.1 (by omega))).mono ?_
  rintro e w4 ⟨u4, rfl, hr4, hp4, hb4⟩
  have R4 : Hid (Rd .i64 w4 u4 (ms ++ row) ∧ Below w.heap.size w w4) := ⟨hr4, hb4⟩
  clear hr4 hp4 hb4
  go_wp2_with fail
  refine (new_of R4.out.2 (lawJoined_any _ _ (ms ++ row) tl _ R4.out.1 (H1.out.ext R4.out.2) (by rw [List.length_append]; omega))).mono ?_
  rintro e w5 ⟨u5, rfl, hr5, -, hb5⟩
  have R5 : Hid (Rd .i64 w5 u5 q ∧ Below w.heap.size w w5) := by unfold Hid; rw [HQ.out]; exact ⟨hr5, hb5⟩
  obtain ⟨d5, e5, rfl⟩ := R5.out.1.form
  clear hr5 hb5 R4
  go_wp2_with fail
  refine (new_of (Below.refl _ _) (copied_any _ q _ R5.out.1 (by omega))).mono ?_
  rintro e w6 ⟨u6, rfl, hr6, -, hb6⟩
  have R6 : Hid (Rd .i64 w6 u6 q ∧ Below w5.heap.size w5 w6) := ⟨hr6, hb6⟩
  clear hr6 hb6
  go_wp2_with fail
  refine (new_of R6.out.2 (Breaks_any _ q _ R6.out.1 (by omega))).mono ?_
  rintro e w7 ⟨u7, rfl, hr7, -, hb7⟩
  have R7 : Hid (Rd .i64 w7 u7 (Cl.bi q) ∧ Below w5.heap.size w5 w7) := ⟨hr7, hb7⟩
  clear hr7 hb7 R6
  go_wp2_with fail
  refine (tell_of R7.out.2 (ends_any _ _ _ _ R7.out.1 (Cl.bi_rise _))).mono ?_
  rintro e w8 ⟨rfl, -, hb8⟩
  have R8 : Hid (Below w5.heap.size w5 w8) := hb8
  clear hb8 R7
  go_wp2_with fail
  refine (tell_of R8.out (IsBreak_any _ q _ _ (R5.out.1.ext R8.out))).mono ?_
  rintro e w9 ⟨rfl, -, hb9⟩
  rw [HB0.out]
  have R9 : Hid (Below w5.heap.size w5 w9) := hb9
  clear hb9 R8
  go_wp2_with fail
  go_loopw [16] (fun i wr => ∃ k : Nat, 0 < k ∧ (k ≤ row.length ∨ k = 1) ∧ i = .int .i64 k ∧ Below w5.heap.size w5 wr) (fun i _ => row.length - (intOf i).toNat)
  case atStart => exact ⟨1, by omega, .inr rfl, rfl, R9.out⟩
  case round =>
    obtain ⟨k, hk0', hkr, rfl, hbw⟩ := hrel
    have HW : Hid (Below w5.heap.size w5 wr) := hbw
    clear hbw R9
    by_cases hlt : k < row.length
    · have KB : Hid (Calls Try.prog 23 #[.slice d5 q.length e5, .int .i64 ((ms.length : Int) + (k : Int))] wr fun e w' => e = .returned (.bool (k % 2 == 0)) ∧ Below wr.heap.size wr w') := by
        have := IsBreak_any _ q ((ms.length : Int) + (k : Int)) wr (R5.out.1.ext HW.out)
        rwa [HBi.out k hk0' hlt] at this
      rcases Nat.mod_two_eq_zero_or_one k with hm | hm
      · obtain ⟨bI, hbI⟩ : ∃ b, b = (k % 2 == 0) := ⟨_, rfl⟩
        rw [← hbI] at KB
        have hbt : bI = true := by rw [hbI, hm]; rfl
        have hmi : ((k : Int) % 2 == 0) = true := by rw [beq_iff_eq]; omega
        clear hbI hm
        go_wp2_with (go_at_call 23; refine KB.out.mono ?_; rintro e wN ⟨rfl, hbN⟩; have HN : Hid (Below w5.heap.size w5 wN) := ext_trans HW.out hbN; clear hbN)
        go_roundw
        case rel => exact ⟨k + 1, by omega, by omega, by go_num, HN.out⟩
        case measure => simp [intOf]; omega
      · obtain ⟨bI, hbI⟩ : ∃ b, b = (k % 2 == 0) := ⟨_, rfl⟩
        rw [← hbI] at KB
        have hbt : bI = false := by rw [hbI, hm]; rfl
        have hmi : ((k : Int) % 2 == 0) = false := by rw [beq_eq_false_iff_ne]; omega
        clear hbI hm
        go_wp2_with (go_at_call 23; refine KB.out.mono ?_; rintro e wN ⟨rfl, hbN⟩; have HN : Hid (Below w5.heap.size w5 wN) := ext_trans HW.out hbN; clear hbN)
        go_roundw
        case rel => exact ⟨k + 1, by omega, by omega, by go_num, HN.out⟩
        case measure => simp [intOf]; omega
    · clear hkr
      go_wp2
      go_ret
      exact ⟨rfl, ext_trans R5.out.2 HW.out⟩

set_option maxRecDepth 100000 in
set_option maxHeartbeats 2000000 in
theorem meant_0 (hdv : Value) (hd : List Int) (tlv : Value) (tl row : List Int) (n : Nat) (w : World) (h0 : Rd .i64 w hdv hd) (h1 : Rd .i64 w tlv tl) (hz : (hd.length + tl.length) * 8 + 4000 ≤ 140737488355328) (hn : n ≤ 64) (hrl : row.length ≤ 64)
    (hrow : ∀ i, 0 < i → i < row.length → Cl.isB row i = false)
    (CM : Hid (∀ w, Calls Try.prog 27 #[.int .i64 0, .int .i64 n] w fun e w' => ∃ v', e = .returned v' ∧ Rd .i64 w' v' row ∧ Below w.heap.size w w')) (h13 : row = [13, 10]) :
    Calls Try.prog 6 #[hdv, .int .i64 0, .int .i64 n, tlv] w fun e w' => e = .returned (.bool true) ∧ Below w.heap.size w w' := by
  have H0 : Hid (Rd .i64 w hdv hd) := h0
  have H1 : Hid (Rd .i64 w tlv tl) := h1
  obtain ⟨a0, c0, rfl⟩ := h0.form
  obtain ⟨a1, c1, rfl⟩ := h1.form
  clear h0 h1
  obtain ⟨i0, hi, hz0, hz1, hz2⟩ := info_parts Try.info_i64
  obtain ⟨ms, hms⟩ : ∃ m, m = hd ++ [(10 : Int)] := ⟨_, rfl⟩
  have hml : ms.length = hd.length + 1 := by rw [hms]; simp
  have hml' : ms.length ≤ hd.length + 1 := by omega
  have HMS : Hid (ms = hd ++ [10]) := hms
  obtain ⟨q, hq⟩ : ∃ q, q = ms ++ row ++ tl := ⟨_, rfl⟩
  have hql : q.length ≤ ms.length + row.length + tl.length := by rw [hq]; simp; omega
  have HQ : Hid (q = ms ++ row ++ tl) := hq
  have m1 := Cl.bi_le q
  have hdn1 : decide ((64 : Int) < (n : Int)) = false := by simp; omega
  have HB0 : Hid (Cl.isBi q (ms.length : Int) = true) := by
    unfold Hid
    rw [Cl.isBi_nat q _ (by rw [hq]; simp), hq, hms, List.append_assoc, List.length_append]
    exact Cl.lead_B hd (row ++ tl)
  have HBi : Hid (∀ i, 0 < i → i < row.length → Cl.isBi q ((ms.length : Int) + (i : Int)) = false) := fun i g0 gi => by
    rw [show (ms.length : Int) + (i : Int) = ((ms.length + i : Nat) : Int) from by omega, Cl.isBi_nat q _ (by rw [hq]; simp; omega), ← hrow i g0 gi, hq, hml, hms]
    exact Cl.meant_at hd row tl i gi
  have HB2 : Hid (Cl.isBi q ((ms.length : Int) + 2) = true) := by
    unfold Hid
    rw [show (ms.length : Int) + 2 = ((ms.length + 2 : Nat) : Int) from by omega, Cl.isBi_nat q _ (by rw [hq, h13]; simp)]
    refine Cl.isB_after q _ (by omega) (by rw [hq, h13]; simp) (.inl ?_)
    have e : Cl.at q (ms.length + 2 - 1) = 10 := by
      rw [hq, h13, show ms.length + 2 - 1 = (ms ++ [13]).length from by simp, show ms ++ [13, 10] ++ tl = (ms ++ [13]) ++ 10 :: tl from by simp]
      exact Cl.at_mid (ms ++ [13]) tl 10
    rw [e]; exact Gx.cls_ten
  have hrow2 : row.length = 2 := by rw [h13]; rfl
  clear hrow hq hms hml h13 hrow2
  go_enter Try.func6, Try.ntmps6
  go_wp2_with fail
  refine (copied_any _ hd _ H0.out (by omega)).mono ?_
  rintro e w1 ⟨u1, rfl, ho1, hb1⟩
  unfold Own at ho1
  have hz' : w.heap.size ≤ w1.heap.size := hb1.size
  have HB1 : Hid (Below w.heap.size w w1) := hb1
  generalize hxs : hd.map (Value.int .i64) = xs at *
  have HXS : Hid (xs ++ [Value.int .i64 10] = (hd ++ [10]).map (Value.int .i64)) := by unfold Hid; rw [← hxs]; simp
  clear hxs hb1
  go_wp2_with (at_builtin; refine wpList_append_own _ rfl _ _ 22 rfl w.heap.size 3 i0 (.int .i64 0) 1 8 Try.underlying22 hi hz0 hz1 hz2 rfl (by decide) _ _ _ rfl (ho1.alloc _) ⟨w1.heap.size, 0, none⟩ 1 1 [.int .i64 10] rfl rfl (cell_one_new _ _ _) (one_i64 _) (by unfold maxLen; omega) (by omega) (by simp; omega) ?_; intro v' w2 hown' hg' hx')
  have hb2 := below_push HB1.out ho1 hg'
  rw [HXS.out] at hown'
  have hr2 : Rd .i64 w2 v' (hd ++ [10]) := Rd.of_own hown'
  have R2 : Hid (Rd .i64 w2 v' ms ∧ Below w.heap.size w w2) := by unfold Hid; rw [HMS.out]; exact ⟨hr2, hb2⟩
  obtain ⟨d2, e2, rfl⟩ := R2.out.1.form
  clear ho1 hown' hg' hx' hb2 hr2 HXS HB1
  go_wp2_with fail
  refine (CM.out _).mono ?_
  rintro e w3 ⟨u3, rfl, hr3, hb3⟩
  have R3 : Hid (Rd .i64 w3 (.slice d2 ms.length e2) ms ∧ Rd .i64 w3 u3 row ∧ Below w.heap.size w w3) := ⟨R2.out.1.ext hb3, hr3, ext_trans R2.out.2 hb3⟩
  obtain ⟨d3, e3, rfl⟩ := R3.out.2.1.form
  clear hr3 hb3 R2
  go_wp2_with fail
  refine (new_of R3.out.2.2 (lawJoined_any _ _ ms row _ R3.out.1 R3.out.2.1 (by omega))).mono ?_
  rintro e w4 ⟨u4, rfl, hr4, hp4, hb4⟩
  have R4 : Hid (Rd .i64 w4 u4 (ms ++ row) ∧ Below w.heap.size w w4) := ⟨hr4, hb4⟩
  clear hr4 hp4 hb4
  go_wp2_with fail
  refine (new_of R4.out.2 (lawJoined_any _ _ (ms ++ row) tl _ R4.out.1 (H1.out.ext R4.out.2) (by rw [List.length_append]; omega))).mono ?_
  rintro e w5 ⟨u5, rfl, hr5, -, hb5⟩
  have R5 : Hid (Rd .i64 w5 u5 q ∧ Below w.heap.size w w5) := by unfold Hid; rw [HQ.out]; exact ⟨hr5, hb5⟩
  obtain ⟨d5, e5, rfl⟩ := R5.out.1.form
  clear hr5 hb5 R4
  go_wp2_with fail
  refine (new_of (Below.refl _ _) (copied_any _ q _ R5.out.1 (by omega))).mono ?_
  rintro e w6 ⟨u6, rfl, hr6, -, hb6⟩
  have R6 : Hid (Rd .i64 w6 u6 q ∧ Below w5.heap.size w5 w6) := ⟨hr6, hb6⟩
  clear hr6 hb6
  go_wp2_with fail
  refine (new_of R6.out.2 (Breaks_any _ q _ R6.out.1 (by omega))).mono ?_
  rintro e w7 ⟨u7, rfl, hr7, -, hb7⟩
  have R7 : Hid (Rd .i64 w7 u7 (Cl.bi q) ∧ Below w5.heap.size w5 w7) := ⟨hr7, hb7⟩
  clear hr7 hb7 R6
  go_wp2_with fail
  refine (tell_of R7.out.2 (ends_any _ _ _ _ R7.out.1 (Cl.bi_rise _))).mono ?_
  rintro e w8 ⟨rfl, -, hb8⟩
  have R8 : Hid (Below w5.heap.size w5 w8) := hb8
  clear hb8 R7
  go_wp2_with fail
  refine (tell_of R8.out (IsBreak_any _ q _ _ (R5.out.1.ext R8.out))).mono ?_
  rintro e w9 ⟨rfl, -, hb9⟩
  rw [HB0.out]
  have R9 : Hid (Below w5.heap.size w5 w9) := hb9
  clear hb9 R8
  go_wp2_with fail
  go_loopw [16] (fun i wr => ∃ k : Nat, 0 < k ∧ (k ≤ row.length ∨ k = 1) ∧ i = .int .i64 k ∧ Below w5.heap.size w5 wr) (fun i _ => row.length - (intOf i).toNat)
  case atStart => exact ⟨1, by omega, .inr rfl, rfl, R9.out⟩
  case round =>
    obtain ⟨k, hk0', hkr, rfl, hbw⟩ := hrel
    have HW : Hid (Below w5.heap.size w5 wr) := hbw
    clear hbw R9
    by_cases hlt : k < row.length
    · have KB : Hid (Calls Try.prog 23 #[.slice d5 q.length e5, .int .i64 ((ms.length : Int) + (k : Int))] wr fun e w' => e = .returned (.bool false) ∧ Below wr.heap.size wr w') := by
        have := IsBreak_any _ q ((ms.length : Int) + (k : Int)) wr (R5.out.1.ext HW.out)
        rwa [HBi.out k hk0' hlt] at this
      go_wp2_with (go_at_call 23; refine KB.out.mono ?_; rintro e wN ⟨rfl, hbN⟩; have HN : Hid (Below w5.heap.size w5 wN) := ext_trans HW.out hbN; clear hbN)
      go_roundw
      case rel => exact ⟨k + 1, by omega, by omega, by go_num, HN.out⟩
      case measure => simp [intOf]; omega
    · have KB : Hid (Calls Try.prog 23 #[.slice d5 q.length e5, .int .i64 ((ms.length : Int) + 2)] wr fun e w' => e = .returned (.bool true) ∧ Below wr.heap.size wr w') := by
        have := IsBreak_any _ q ((ms.length : Int) + 2) wr (R5.out.1.ext HW.out)
        rwa [HB2.out] at this
      clear hkr
      go_wp2_with (go_at_call 23; refine KB.out.mono ?_; rintro e wN ⟨rfl, hbN⟩; have HN : Hid (Below w5.heap.size w5 wN) := ext_trans HW.out hbN; clear hbN)
      go_ret
      exact ⟨rfl, ext_trans R5.out.2 HN.out⟩

set_option maxRecDepth 100000 in
set_option maxHeartbeats 2000000 in
theorem meant_o (hdv : Value) (hd : List Int) (tlv : Value) (tl row : List Int) (kind : Int) (n : Nat) (w : World) (h0 : Rd .i64 w hdv hd) (h1 : Rd .i64 w tlv tl) (hz : (hd.length + tl.length) * 8 + 4000 ≤ 140737488355328) (hn : n ≤ 64) (hk0 : 0 < kind) (hk7 : kind ≤ 7) (hk5 : kind ≠ 5) (hrl : row.length ≤ 64)
    (hrow : ∀ i, 0 < i → i < row.length → Cl.isB row i = false)
    (CM : Hid (∀ w, Calls Try.prog 27 #[.int .i64 kind, .int .i64 n] w fun e w' => ∃ v', e = .returned v' ∧ Rd .i64 w' v' row ∧ Below w.heap.size w w')) :
    Calls Try.prog 6 #[hdv, .int .i64 kind, .int .i64 n, tlv] w fun e w' => e = .returned (.bool true) ∧ Below w.heap.size w w' := by
  have H0 : Hid (Rd .i64 w hdv hd) := h0
  have H1 : Hid (Rd .i64 w tlv tl) := h1
  obtain ⟨a0, c0, rfl⟩ := h0.form
  obtain ⟨a1, c1, rfl⟩ := h1.form
  clear h0 h1
  obtain ⟨i0, hi, hz0, hz1, hz2⟩ := info_parts Try.info_i64
  obtain ⟨ms, hms⟩ : ∃ m, m = hd ++ [(10 : Int)] := ⟨_, rfl⟩
  have hml : ms.length = hd.length + 1 := by rw [hms]; simp
  have hml' : ms.length ≤ hd.length + 1 := by omega
  have HMS : Hid (ms = hd ++ [10]) := hms
  obtain ⟨q, hq⟩ : ∃ q, q = ms ++ row ++ tl := ⟨_, rfl⟩
  have hql : q.length ≤ ms.length + row.length + tl.length := by rw [hq]; simp; omega
  have HQ : Hid (q = ms ++ row ++ tl) := hq
  have m1 := Cl.bi_le q
  have hdn1 : decide ((64 : Int) < (n : Int)) = false := by simp; omega
  have HB0 : Hid (Cl.isBi q (ms.length : Int) = true) := by
    unfold Hid
    rw [Cl.isBi_nat q _ (by rw [hq]; simp), hq, hms, List.append_assoc, List.length_append]
    exact Cl.lead_B hd (row ++ tl)
  have HBi : Hid (∀ i, 0 < i → i < row.length → Cl.isBi q ((ms.length : Int) + (i : Int)) = false) := fun i g0 gi => by
    rw [show (ms.length : Int) + (i : Int) = ((ms.length + i : Nat) : Int) from by omega, Cl.isBi_nat q _ (by rw [hq]; simp; omega), ← hrow i g0 gi, hq, hml, hms]
    exact Cl.meant_at hd row tl i gi
  have hq8 : (kind == 8) = false := by rw [beq_eq_false_iff_ne]; omega
  have hq5 : (kind == 5) = false := by rw [beq_eq_false_iff_ne]; omega
  have hq0 : (kind != 0) = true := by simp; omega
  have hdk : decide (kind < 0) = false := by simp; omega
  have hdk8 : decide ((8 : Int) < kind) = false := by simp; omega
  clear hrow hq hms hml
  go_enter Try.func6, Try.ntmps6
  go_wp2_with fail
  refine (copied_any _ hd _ H0.out (by omega)).mono ?_
  rintro e w1 ⟨u1, rfl, ho1, hb1⟩
  unfold Own at ho1
  have hz' : w.heap.size ≤ w1.heap.size := hb1.size
  have HB1 : Hid (Below w.heap.size w w1) := hb1
  generalize hxs : hd.map (Value.int .i64) = xs at *
  have HXS : Hid (xs ++ [Value.int .i64 10] = (hd ++ [10]).map (Value.int .i64)) := by unfold Hid; rw [← hxs]; simp
  clear hxs hb1
  go_wp2_with (at_builtin; refine wpList_append_own _ rfl _ _ 22 rfl w.heap.size 3 i0 (.int .i64 0) 1 8 Try.underlying22 hi hz0 hz1 hz2 rfl (by decide) _ _ _ rfl (ho1.alloc _) ⟨w1.heap.size, 0, none⟩ 1 1 [.int .i64 10] rfl rfl (cell_one_new _ _ _) (one_i64 _) (by unfold maxLen; omega) (by omega) (by simp; omega) ?_; intro v' w2 hown' hg' hx')
  have hb2 := below_push HB1.out ho1 hg'
  rw [HXS.out] at hown'
  have hr2 : Rd .i64 w2 v' (hd ++ [10]) := Rd.of_own hown'
  have R2 : Hid (Rd .i64 w2 v' ms ∧ Below w.heap.size w w2) := by unfold Hid; rw [HMS.out]; exact ⟨hr2, hb2⟩
  obtain ⟨d2, e2, rfl⟩ := R2.out.1.form
  clear ho1 hown' hg' hx' hb2 hr2 HXS HB1
  go_wp2_with fail
  refine (CM.out _).mono ?_
  rintro e w3 ⟨u3, rfl, hr3, hb3⟩
  have R3 : Hid (Rd .i64 w3 (.slice d2 ms.length e2) ms ∧ Rd .i64 w3 u3 row ∧ Below w.heap.size w w3) := ⟨R2.out.1.ext hb3, hr3, ext_trans R2.out.2 hb3⟩
  obtain ⟨d3, e3, rfl⟩ := R3.out.2.1.form
  clear hr3 hb3 R2
  go_wp2_with fail
  refine (new_of R3.out.2.2 (lawJoined_any _ _ ms row _ R3.out.1 R3.out.2.1 (by omega))).mono ?_
  rintro e w4 ⟨u4, rfl, hr4, hp4, hb4⟩
  have R4 : Hid (Rd .i64 w4 u4 (ms ++ row) ∧ Below w.heap.size w w4) := ⟨hr4, hb4⟩
  clear hr4 hp4 hb4
  go_wp2_with fail
  refine (new_of R4.out.2 (lawJoined_any _ _ (ms ++ row) tl _ R4.out.1 (H1.out.ext R4.out.2) (by rw [List.length_append]; omega))).mono ?_
  rintro e w5 ⟨u5, rfl, hr5, -, hb5⟩
  have R5 : Hid (Rd .i64 w5 u5 q ∧ Below w.heap.size w w5) := by unfold Hid; rw [HQ.out]; exact ⟨hr5, hb5⟩
  obtain ⟨d5, e5, rfl⟩ := R5.out.1.form
  clear hr5 hb5 R4
  go_wp2_with fail
  refine (new_of (Below.refl _ _) (copied_any _ q _ R5.out.1 (by omega))).mono ?_
  rintro e w6 ⟨u6, rfl, hr6, -, hb6⟩
  have R6 : Hid (Rd .i64 w6 u6 q ∧ Below w5.heap.size w5 w6) := ⟨hr6, hb6⟩
  clear hr6 hb6
  go_wp2_with fail
  refine (new_of R6.out.2 (Breaks_any _ q _ R6.out.1 (by omega))).mono ?_
  rintro e w7 ⟨u7, rfl, hr7, -, hb7⟩
  have R7 : Hid (Rd .i64 w7 u7 (Cl.bi q) ∧ Below w5.heap.size w5 w7) := ⟨hr7, hb7⟩
  clear hr7 hb7 R6
  go_wp2_with fail
  refine (tell_of R7.out.2 (ends_any _ _ _ _ R7.out.1 (Cl.bi_rise _))).mono ?_
  rintro e w8 ⟨rfl, -, hb8⟩
  have R8 : Hid (Below w5.heap.size w5 w8) := hb8
  clear hb8 R7
  go_wp2_with fail
  refine (tell_of R8.out (IsBreak_any _ q _ _ (R5.out.1.ext R8.out))).mono ?_
  rintro e w9 ⟨rfl, -, hb9⟩
  rw [HB0.out]
  have R9 : Hid (Below w5.heap.size w5 w9) := hb9
  clear hb9 R8
  go_wp2_with fail
  go_loopw [16] (fun i wr => ∃ k : Nat, 0 < k ∧ (k ≤ row.length ∨ k = 1) ∧ i = .int .i64 k ∧ Below w5.heap.size w5 wr) (fun i _ => row.length - (intOf i).toNat)
  case atStart => exact ⟨1, by omega, .inr rfl, rfl, R9.out⟩
  case round =>
    obtain ⟨k, hk0', hkr, rfl, hbw⟩ := hrel
    have HW : Hid (Below w5.heap.size w5 wr) := hbw
    clear hbw R9
    by_cases hlt : k < row.length
    · have KB : Hid (Calls Try.prog 23 #[.slice d5 q.length e5, .int .i64 ((ms.length : Int) + (k : Int))] wr fun e w' => e = .returned (.bool false) ∧ Below wr.heap.size wr w') := by
        have := IsBreak_any _ q ((ms.length : Int) + (k : Int)) wr (R5.out.1.ext HW.out)
        rwa [HBi.out k hk0' hlt] at this
      go_wp2_with (go_at_call 23; refine KB.out.mono ?_; rintro e wN ⟨rfl, hbN⟩; have HN : Hid (Below w5.heap.size w5 wN) := ext_trans HW.out hbN; clear hbN)
      go_roundw
      case rel => exact ⟨k + 1, by omega, by omega, by go_num, HN.out⟩
      case measure => simp [intOf]; omega
    · clear hkr
      go_wp2
      go_ret
      exact ⟨rfl, ext_trans R5.out.2 HW.out⟩

end Go.Proofs.Ytahjjpleceppaaa
