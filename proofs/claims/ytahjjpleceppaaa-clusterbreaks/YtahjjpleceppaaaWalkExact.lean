/- ClusterBreaks, ClusterPoints, ClusterSteps, ClusterColumns: the walks. -/
import Derived.Test.YtahjjpleceppaaaRCalls2
import Derived.Test.YtahjjpleceppaaaWalkAhead
import Derived.Deep.RegionHeld3
namespace Go.Proofs.Ytahjjpleceppaaa
open Go.RowKit

set_option maxRecDepth 100000 in
theorem law_breaks (v : Value) (zs : List Int) (w : World) (h : Rd .i64 w v zs) (hz : zs.length * 8 ≤ 140737488351232) :
    Calls Try.prog 9 #[v] w fun e w' => e = .returned (.bool true) ∧ Below w.heap.size w w' := by
  have H0 : Hid (Rd .i64 w v zs) := h
  obtain ⟨ao, cp, rfl⟩ := h.form
  clear h
  go_enter Try.func9, Try.ntmps9
  go_wp2_with fail
  refine (new_of (Below.refl _ _) (copied_any _ zs _ H0.out (by omega))).mono ?_
  rintro e w1 ⟨u1, rfl, hr1, -, hb1⟩
  have R1 : Hid (Rd .i64 w1 u1 zs ∧ Below w.heap.size w w1) := ⟨hr1, hb1⟩
  clear hr1 hb1
  go_wp2_with fail
  refine (new_of R1.out.2 (Breaks_any _ zs _ R1.out.1 (by omega))).mono ?_
  rintro e w2 ⟨u2, rfl, hr2, -, hb2⟩
  have R2 : Hid (Rd .i64 w2 u2 (Cl.bi zs) ∧ Below w.heap.size w w2) := ⟨hr2, hb2⟩
  clear hr2 hb2
  go_wp2_with fail
  refine (new_of R2.out.2 (rBreaks_any _ zs _ (H0.out.ext R2.out.2) (by omega))).mono ?_
  rintro e w3 ⟨u3, rfl, hr3, hp3, hb3⟩
  have R3 : Hid (Rd .i64 w3 u2 (Cl.bi zs) ∧ Rd .i64 w3 u3 (Cl.bi zs) ∧ Below w.heap.size w w3) := ⟨R2.out.1.ext hp3, hr3, hb3⟩
  clear hr3 hp3 hb3
  go_wp2_with fail
  refine (tell_of R3.out.2.2 (same_any _ _ _ _ _ R3.out.1 R3.out.2.1 rfl)).mono ?_
  rintro e w4 ⟨rfl, -, hb4⟩
  have R4 : Hid (Below w.heap.size w w4) := hb4
  clear hb4
  go_wp2_with fail
  go_ret
  exact ⟨rfl, R4.out⟩

set_option maxRecDepth 100000 in
set_option maxHeartbeats 2000000 in
theorem law_points (v0 : Value) (zs : List Int) (v1 : Value) (qs : List Int) (w : World) (h0 : Rd .i64 w v0 zs) (h1 : Rd .i64 w v1 qs) (hz : zs.length * 8 ≤ 140737488351232 ∧ qs.length * 8 ≤ 140737488351232) :
    Calls Try.prog 10 #[v0, v1] w fun e w' => e = .returned (.bool true) ∧ Below w.heap.size w w' := by
  obtain ⟨hz, hzq⟩ := hz
  have H0 : Hid (Rd .i64 w v0 zs) := h0
  have H1 : Hid (Rd .i64 w v1 qs) := h1
  obtain ⟨ao, cp, rfl⟩ := h0.form
  obtain ⟨aq, cq, rfl⟩ := h1.form
  have CP := copied_rel _ zs w h0 (by omega)
  clear h0 h1
  have KZ := rel_of (w := w) (fun v' w' h => IsBreak_any v' zs 0 w' h)
  rw [show Cl.isBi zs 0 = true from (Cl.isBi_nat zs 0 (Nat.zero_le _)).trans (Cl.isB_zero zs)] at KZ
  go_enter Try.func10, Try.ntmps10
  go_wp2_with fail
  refine (CP.out _ (Below.refl _ _)).mono ?_
  rintro e w1 ⟨u1, rfl, hr1, hb1⟩
  have R1 : Hid (Rd .i64 w1 u1 zs ∧ Below w.heap.size w w1) := ⟨hr1, hb1⟩
  clear hr1 hb1
  go_wp2_with fail
  refine (KZ.out _ _ R1.out.1 R1.out.2).mono ?_
  rintro e w2 ⟨rfl, hb2⟩
  have R2 : Hid (Below w.heap.size w w2) := hb2
  clear hb2 R1
  go_wp2_with fail
  go_loopw [5] (fun i wr => ∃ k : Nat, k ≤ qs.length ∧ i = .int .i64 k ∧ Below w.heap.size w wr) (fun i _ => qs.length - (intOf i).toNat)
  case atStart => exact ⟨0, Nat.zero_le _, rfl, R2.out⟩
  case round =>
    obtain ⟨k, hk, rfl, hbw⟩ := hrel
    have HW : Hid (Below w.heap.size w wr) := hbw
    by_cases hlt : k < qs.length
    · obtain ⟨b, off, cap, hv, hlc, hcm, hbl, hcell⟩ := H1.out.at (by omega)
      simp only [Value.slice.injEq] at hv
      obtain ⟨rfl, _, rfl⟩ := hv
      have HCA : Hid (∀ w', Below w.heap.size w w' → w'.cell? ⟨b, off + k, none⟩ = some (.int .i64 (Cl.at qs k))) := fun w' hw => (hw.cell (p := ⟨b, off + k, none⟩) hbl).trans (hcell k hlt)
      have hca := HCA.out wr hbw
      have b1 : (0 : Int) ≤ (k : Int) := by omega
      have b2 : (k : Int) < (qs.length : Int) := by omega
      clear hcell hbw
      generalize Cl.at qs k = a at *
      have K0 := rel_of (w := w) (fun v' w' h => IsBreak_any v' zs a w' h)
      have R0 : Hid (∀ w', Below w.heap.size w w' → Calls Try.prog 32 #[.slice ao zs.length cp, .int .i64 a] w' fun e w'' => e = .returned (.bool (Cl.isBi zs a)) ∧ Below w.heap.size w w'') := fun w' hw => (rIsBreak_any _ zs a w' (H0.out.ext hw)).mono fun _ _ ⟨e1, e2⟩ => ⟨e1, e2 ▸ hw⟩
      generalize Cl.isBi zs a = x0 at *
      have q0 : (x0 != x0) = false := by simp
      go_wp2_with fail
      go_region_held3 (fun w' => w'.cell? ⟨b, off + k, none⟩ = some (.int .i64 a)) (go_keep) (first | (go_at_call 17; refine (CP.out _ (by repeat (first | exact HW.out | apply Below.drew))).mono ?_; rintro e wA0 ⟨uA0, rfl, hrA, hbA⟩; have HA0 : Hid (Rd .i64 wA0 uA0 zs ∧ Below w.heap.size w wA0) := ⟨hrA, hbA⟩; have hca := HCA.out wA0 HA0.out.2; clear hrA hbA) | (go_at_call 23; refine (K0.out _ _ HA0.out.1 HA0.out.2).mono ?_; rintro e wB0 ⟨rfl, hbB⟩; have HB0 : Hid (Below w.heap.size w wB0) := hbB; have hca := HCA.out wB0 HB0.out; clear hbB))
      have hca := HCA.out wB0 HB0.out
      go_wp2_with (go_at_call 32; refine (R0.out _ HB0.out).mono ?_; rintro e wC0 ⟨rfl, hbC⟩; have HC0 : Hid (Below w.heap.size w wC0) := hbC; have hca := HCA.out wC0 HC0.out; clear hbC)
      go_wp2_with fail
      go_roundw
      case rel => exact ⟨k + 1, by omega, by go_num, HC0.out⟩
      case measure => simp [intOf]; omega
    · go_wp2
      go_ret
      exact ⟨rfl, HW.out⟩

set_option maxRecDepth 100000 in
set_option maxHeartbeats 2000000 in
theorem law_steps (v0 : Value) (zs : List Int) (v1 : Value) (qs : List Int) (w : World) (h0 : Rd .i64 w v0 zs) (h1 : Rd .i64 w v1 qs) (hz : zs.length * 8 ≤ 140737488351232 ∧ qs.length * 8 ≤ 140737488351232) :
    Calls Try.prog 12 #[v0, v1] w fun e w' => e = .returned (.bool true) ∧ Below w.heap.size w w' := by
  obtain ⟨hz, hzq⟩ := hz
  have H0 : Hid (Rd .i64 w v0 zs) := h0
  have H1 : Hid (Rd .i64 w v1 qs) := h1
  obtain ⟨ao, cp, rfl⟩ := h0.form
  obtain ⟨aq, cq, rfl⟩ := h1.form
  have CP := copied_rel _ zs w h0 (by omega)
  clear h0 h1
  obtain ⟨i0, hi, hz0, hz1, hz2⟩ := info_parts Try.info_i64
  obtain ⟨ms, hms⟩ : ∃ m, m = zs ++ [(10 : Int)] := ⟨_, rfl⟩
  have hml : ms.length = zs.length + 1 := by rw [hms]; simp
  have HM : Hid (ms = zs ++ [10]) := hms
  have KM := rel_of (w := w) (fun v' w' h => Next_any v' ms (zs.length : Int) w' h)
  have hnx : Cl.next ms (zs.length : Int) = ms.length := by
    unfold Cl.next; rw [if_neg (by omega), if_neg (by omega), Int.toNat_natCast]; exact Cl.up_end ms _ (by omega)
  rw [hnx] at KM
  have hqm : ((ms.length : Int) != (ms.length : Int)) = false := by simp
  clear hnx hml hms
  go_enter Try.func12, Try.ntmps12
  go_wp2_with fail
  refine (copied_any _ zs _ H0.out (by omega)).mono ?_
  rintro e w1 ⟨u1, rfl, ho1, hb1⟩
  unfold Own at ho1
  have hz' : w.heap.size ≤ w1.heap.size := hb1.size
  have HB1 : Hid (Below w.heap.size w w1) := hb1
  generalize hxs : zs.map (Value.int .i64) = xs at *
  have HXS : Hid (xs ++ [Value.int .i64 10] = (zs ++ [10]).map (Value.int .i64)) := by unfold Hid; rw [← hxs]; simp
  clear hxs hb1
  go_wp2_with (at_builtin; refine wpList_append_own _ rfl _ _ 22 rfl w.heap.size 3 i0 (.int .i64 0) 1 8 Try.underlying22 hi hz0 hz1 hz2 rfl (by decide) _ _ _ rfl (ho1.alloc _) ⟨w1.heap.size, 0, none⟩ 1 1 [.int .i64 10] rfl rfl (cell_one_new _ _ _) (one_i64 _) (by unfold maxLen; omega) (by omega) (by simp; omega) ?_; intro v' w' hown' hg' hx')
  have hb2 := below_push HB1.out ho1 hg'
  rw [HXS.out] at hown'
  have hr2 : Rd .i64 w' v' (zs ++ [10]) := Rd.of_own hown'
  have R2 : Hid (Rd .i64 w' v' ms ∧ Below w.heap.size w w') := by unfold Hid; rw [HM.out]; exact ⟨hr2, hb2⟩
  obtain ⟨d2, e2, rfl⟩ : ∃ ao cap, v' = .slice ao ms.length cap := by obtain ⟨ao, cap, hv, _⟩ := R2.out.1; exact ⟨ao, cap, hv⟩
  clear ho1 hown' hg' hx' hb2 hr2 HXS HB1
  go_wp2_with fail
  refine (KM.out _ _ R2.out.1 R2.out.2).mono ?_
  rintro e w3 ⟨rfl, hb3⟩
  have R3 : Hid (Below w.heap.size w w3) := hb3
  clear hb3 R2
  go_wp2_with fail
  go_loopw [6] (fun i wr => ∃ k : Nat, k ≤ qs.length ∧ i = .int .i64 k ∧ Below w.heap.size w wr) (fun i _ => qs.length - (intOf i).toNat)
  case atStart => exact ⟨0, Nat.zero_le _, rfl, R3.out⟩
  case round =>
    obtain ⟨k, hk, rfl, hbw⟩ := hrel
    have HW : Hid (Below w.heap.size w wr) := hbw
    by_cases hlt : k < qs.length
    · obtain ⟨b, off, cap, hv, hlc, hcm, hbl, hcell⟩ := H1.out.at (by omega)
      simp only [Value.slice.injEq] at hv
      obtain ⟨rfl, _, rfl⟩ := hv
      have HCA : Hid (∀ w', Below w.heap.size w w' → w'.cell? ⟨b, off + k, none⟩ = some (.int .i64 (Cl.at qs k))) := fun w' hw => (hw.cell (p := ⟨b, off + k, none⟩) hbl).trans (hcell k hlt)
      have hca := HCA.out wr hbw
      have b1 : (0 : Int) ≤ (k : Int) := by omega
      have b2 : (k : Int) < (qs.length : Int) := by omega
      clear hcell hbw
      generalize Cl.at qs k = a at *
      have K0 := rel_of (w := w) (fun v' w' h => Next_any v' zs a w' h)
      have R0 : Hid (∀ w', Below w.heap.size w w' → Calls Try.prog 37 #[.slice ao zs.length cp, .int .i64 a] w' fun e w'' => e = .returned (.int .i64 (Cl.next zs a)) ∧ Below w.heap.size w w'') := fun w' hw => (rNext_any _ zs a w' (H0.out.ext hw)).mono fun _ _ ⟨e1, e2⟩ => ⟨e1, e2 ▸ hw⟩
      generalize Cl.next zs a = x0 at *
      have q0 : ((x0 : Int) != (x0 : Int)) = false := by simp
      have K1 := rel_of (w := w) (fun v' w' h => Prev_any v' zs a w' h)
      have R1 : Hid (∀ w', Below w.heap.size w w' → Calls Try.prog 38 #[.slice ao zs.length cp, .int .i64 a] w' fun e w'' => e = .returned (.int .i64 (Cl.prev zs a)) ∧ Below w.heap.size w w'') := fun w' hw => (rPrev_any _ zs a w' (H0.out.ext hw)).mono fun _ _ ⟨e1, e2⟩ => ⟨e1, e2 ▸ hw⟩
      generalize Cl.prev zs a = x1 at *
      have q1 : ((x1 : Int) != (x1 : Int)) = false := by simp
      have K2 := rel_of (w := w) (fun v' w' h => Snap_any v' zs a w' h)
      have R2 : Hid (∀ w', Below w.heap.size w w' → Calls Try.prog 39 #[.slice ao zs.length cp, .int .i64 a] w' fun e w'' => e = .returned (.int .i64 (Cl.snap zs a)) ∧ Below w.heap.size w w'') := fun w' hw => (rSnap_any _ zs a w' (H0.out.ext hw)).mono fun _ _ ⟨e1, e2⟩ => ⟨e1, e2 ▸ hw⟩
      generalize Cl.snap zs a = x2 at *
      have q2 : ((x2 : Int) != (x2 : Int)) = false := by simp
      go_wp2_with fail
      go_region_held3 (fun w' => w'.cell? ⟨b, off + k, none⟩ = some (.int .i64 a)) (go_keep) (first | (go_at_call 17; refine (CP.out _ (by repeat (first | exact HW.out | apply Below.drew))).mono ?_; rintro e wA0 ⟨uA0, rfl, hrA, hbA⟩; have HA0 : Hid (Rd .i64 wA0 uA0 zs ∧ Below w.heap.size w wA0) := ⟨hrA, hbA⟩; have hca := HCA.out wA0 HA0.out.2; clear hrA hbA) | (go_at_call 29; refine (K0.out _ _ HA0.out.1 HA0.out.2).mono ?_; rintro e wB0 ⟨rfl, hbB⟩; have HB0 : Hid (Below w.heap.size w wB0) := hbB; have hca := HCA.out wB0 HB0.out; clear hbB))
      have hca := HCA.out wB0 HB0.out
      go_wp2_with (go_at_call 37; refine (R0.out _ HB0.out).mono ?_; rintro e wC0 ⟨rfl, hbC⟩; have HC0 : Hid (Below w.heap.size w wC0) := hbC; have hca := HCA.out wC0 HC0.out; clear hbC)
      go_region_held3 (fun w' => w'.cell? ⟨b, off + k, none⟩ = some (.int .i64 a)) (go_keep) (first | (go_at_call 17; refine (CP.out _ (by repeat (first | exact HC0.out | apply Below.drew))).mono ?_; rintro e wA1 ⟨uA1, rfl, hrA, hbA⟩; have HA1 : Hid (Rd .i64 wA1 uA1 zs ∧ Below w.heap.size w wA1) := ⟨hrA, hbA⟩; have hca := HCA.out wA1 HA1.out.2; clear hrA hbA) | (go_at_call 30; refine (K1.out _ _ HA1.out.1 HA1.out.2).mono ?_; rintro e wB1 ⟨rfl, hbB⟩; have HB1 : Hid (Below w.heap.size w wB1) := hbB; have hca := HCA.out wB1 HB1.out; clear hbB))
      have hca := HCA.out wB1 HB1.out
      go_wp2_with (go_at_call 38; refine (R1.out _ HB1.out).mono ?_; rintro e wC1 ⟨rfl, hbC⟩; have HC1 : Hid (Below w.heap.size w wC1) := hbC; have hca := HCA.out wC1 HC1.out; clear hbC)
      go_region_held3 (fun w' => w'.cell? ⟨b, off + k, none⟩ = some (.int .i64 a)) (go_keep) (first | (go_at_call 17; refine (CP.out _ (by repeat (first | exact HC1.out | apply Below.drew))).mono ?_; rintro e wA2 ⟨uA2, rfl, hrA, hbA⟩; have HA2 : Hid (Rd .i64 wA2 uA2 zs ∧ Below w.heap.size w wA2) := ⟨hrA, hbA⟩; have hca := HCA.out wA2 HA2.out.2; clear hrA hbA) | (go_at_call 26; refine (K2.out _ _ HA2.out.1 HA2.out.2).mono ?_; rintro e wB2 ⟨rfl, hbB⟩; have HB2 : Hid (Below w.heap.size w wB2) := hbB; have hca := HCA.out wB2 HB2.out; clear hbB))
      have hca := HCA.out wB2 HB2.out
      go_wp2_with (go_at_call 39; refine (R2.out _ HB2.out).mono ?_; rintro e wC2 ⟨rfl, hbC⟩; have HC2 : Hid (Below w.heap.size w wC2) := hbC; have hca := HCA.out wC2 HC2.out; clear hbC)
      go_wp2_with fail
      go_roundw
      case rel => exact ⟨k + 1, by omega, by go_num, HC2.out⟩
      case measure => simp [intOf]; omega
    · go_wp2
      go_ret
      exact ⟨rfl, HW.out⟩

set_option maxRecDepth 100000 in
set_option maxHeartbeats 2000000 in
theorem law_columns (v0 : Value) (zs : List Int) (v1 : Value) (qs : List Int) (w : World) (h0 : Rd .i64 w v0 zs) (h1 : Rd .i64 w v1 qs) (hz : zs.length * 8 ≤ 140737488351232 ∧ qs.length * 8 ≤ 140737488351232) :
    Calls Try.prog 13 #[v0, v1] w fun e w' => e = .returned (.bool true) ∧ Below w.heap.size w w' := by
  obtain ⟨hz, hzq⟩ := hz
  have H0 : Hid (Rd .i64 w v0 zs) := h0
  have H1 : Hid (Rd .i64 w v1 qs) := h1
  obtain ⟨ao, cp, rfl⟩ := h0.form
  obtain ⟨aq, cq, rfl⟩ := h1.form
  have CP := copied_rel _ zs w h0 (by omega)
  clear h0 h1
  have KC := rel_of (w := w) (fun v' w' h => Count_any v' zs w' h)
  have HK1 : Hid ((Cl.cnt [10] [(10 : Int)].length : Int) = 1) := by
    unfold Hid
    have := Cl.cnt_up [10] 0 (by decide)
    rw [Cl.up_end [10] 1 (by decide), Cl.cnt_zero] at this
    rw [this]; rfl
  go_enter Try.func13, Try.ntmps13
  go_wp2_with fail
  refine (tell_of ((Below.refl _ _).alloc (Nat.le_refl _) _) (Count_any _ [10] _ (Rd.lit .i64 w 3 [10] (by simp [maxLen])))).mono ?_
  rintro e w1 ⟨rfl, -, hb1⟩
  rw [HK1.out]
  have R1 : Hid (Below w.heap.size w w1) := hb1
  clear hb1
  go_wp2_with fail
  refine (CP.out _ R1.out).mono ?_
  rintro e w2 ⟨u2, rfl, hr2, hb2⟩
  have R2 : Hid (Rd .i64 w2 u2 zs ∧ Below w.heap.size w w2) := ⟨hr2, hb2⟩
  clear hr2 hb2
  go_wp2_with fail
  refine (KC.out _ _ R2.out.1 R2.out.2).mono ?_
  rintro e w3 ⟨rfl, hb3⟩
  have R3 : Hid (Below w.heap.size w w3) := hb3
  clear hb3
  go_wp2_with fail
  refine (tell_of R3.out (rCount_any _ zs _ (H0.out.ext R3.out) (by omega))).mono ?_
  rintro e w4 ⟨rfl, -, hb4⟩
  have R4 : Hid (Below w.heap.size w w4) := hb4
  clear hb4 R1 R2 R3
  have hqc : ((Cl.cnt zs zs.length : Int) != (Cl.cnt zs zs.length : Int)) = false := by simp
  go_wp2_with fail
  go_loopw [5] (fun i wr => ∃ k : Nat, k ≤ qs.length ∧ i = .int .i64 k ∧ Below w.heap.size w wr) (fun i _ => qs.length - (intOf i).toNat)
  case atStart => exact ⟨0, Nat.zero_le _, rfl, R4.out⟩
  case round =>
    obtain ⟨k, hk, rfl, hbw⟩ := hrel
    have HW : Hid (Below w.heap.size w wr) := hbw
    by_cases hlt : k < qs.length
    · obtain ⟨b, off, cap, hv, hlc, hcm, hbl, hcell⟩ := H1.out.at (by omega)
      simp only [Value.slice.injEq] at hv
      obtain ⟨rfl, _, rfl⟩ := hv
      have HCA : Hid (∀ w', Below w.heap.size w w' → w'.cell? ⟨b, off + k, none⟩ = some (.int .i64 (Cl.at qs k))) := fun w' hw => (hw.cell (p := ⟨b, off + k, none⟩) hbl).trans (hcell k hlt)
      have hca := HCA.out wr hbw
      have b1 : (0 : Int) ≤ (k : Int) := by omega
      have b2 : (k : Int) < (qs.length : Int) := by omega
      clear hcell hbw
      generalize Cl.at qs k = a at *
      have K0 := rel_of (w := w) (fun v' w' h => Column_any v' zs a w' h)
      have R0 : Hid (∀ w', Below w.heap.size w w' → Calls Try.prog 41 #[.slice ao zs.length cp, .int .i64 a] w' fun e w'' => e = .returned (.int .i64 (Cl.col zs a)) ∧ Below w.heap.size w w'') := fun w' hw => (rColumn_any _ zs a w' (H0.out.ext hw) (by omega)).mono fun _ _ ⟨e1, e2⟩ => ⟨e1, ext_trans hw e2⟩
      generalize Cl.col zs a = x0 at *
      have q0 : ((x0 : Int) != (x0 : Int)) = false := by simp
      have K1 := rel_of (w := w) (fun v' w' h => Offset_any v' zs a w' h)
      have R1 : Hid (∀ w', Below w.heap.size w w' → Calls Try.prog 42 #[.slice ao zs.length cp, .int .i64 a] w' fun e w'' => e = .returned (.int .i64 (Cl.ofs zs a)) ∧ Below w.heap.size w w'') := fun w' hw => (rOffset_any _ zs a w' (H0.out.ext hw) (by omega)).mono fun _ _ ⟨e1, e2⟩ => ⟨e1, ext_trans hw e2⟩
      generalize Cl.ofs zs a = x1 at *
      have q1 : ((x1 : Int) != (x1 : Int)) = false := by simp
      go_wp2_with fail
      go_region_held3 (fun w' => w'.cell? ⟨b, off + k, none⟩ = some (.int .i64 a)) (go_keep) (first | (go_at_call 17; refine (CP.out _ (by repeat (first | exact HW.out | apply Below.drew))).mono ?_; rintro e wA0 ⟨uA0, rfl, hrA, hbA⟩; have HA0 : Hid (Rd .i64 wA0 uA0 zs ∧ Below w.heap.size w wA0) := ⟨hrA, hbA⟩; have hca := HCA.out wA0 HA0.out.2; clear hrA hbA) | (go_at_call 24; refine (K0.out _ _ HA0.out.1 HA0.out.2).mono ?_; rintro e wB0 ⟨rfl, hbB⟩; have HB0 : Hid (Below w.heap.size w wB0) := hbB; have hca := HCA.out wB0 HB0.out; clear hbB))
      have hca := HCA.out wB0 HB0.out
      go_wp2_with (go_at_call 41; refine (R0.out _ HB0.out).mono ?_; rintro e wC0 ⟨rfl, hbC⟩; have HC0 : Hid (Below w.heap.size w wC0) := hbC; have hca := HCA.out wC0 HC0.out; clear hbC)
      go_region_held3 (fun w' => w'.cell? ⟨b, off + k, none⟩ = some (.int .i64 a)) (go_keep) (first | (go_at_call 17; refine (CP.out _ (by repeat (first | exact HC0.out | apply Below.drew))).mono ?_; rintro e wA1 ⟨uA1, rfl, hrA, hbA⟩; have HA1 : Hid (Rd .i64 wA1 uA1 zs ∧ Below w.heap.size w wA1) := ⟨hrA, hbA⟩; have hca := HCA.out wA1 HA1.out.2; clear hrA hbA) | (go_at_call 25; refine (K1.out _ _ HA1.out.1 HA1.out.2).mono ?_; rintro e wB1 ⟨rfl, hbB⟩; have HB1 : Hid (Below w.heap.size w wB1) := hbB; have hca := HCA.out wB1 HB1.out; clear hbB))
      have hca := HCA.out wB1 HB1.out
      go_wp2_with (go_at_call 42; refine (R1.out _ HB1.out).mono ?_; rintro e wC1 ⟨rfl, hbC⟩; have HC1 : Hid (Below w.heap.size w wC1) := hbC; have hca := HCA.out wC1 HC1.out; clear hbC)
      go_wp2_with fail
      go_roundw
      case rel => exact ⟨k + 1, by omega, by go_num, HC1.out⟩
      case measure => simp [intOf]; omega
    · go_wp2
      go_ret
      exact ⟨rfl, HW.out⟩
end Go.Proofs.Ytahjjpleceppaaa
