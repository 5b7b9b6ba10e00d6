/- ClusterWalk: the walk. -/
import Derived.Test.YtahjjpleceppaaaWalkAhead
namespace Go.Proofs.Ytahjjpleceppaaa
open Go.RowKit

/-- The number of boundaries below k names the next one. -/
theorem Cl.bs_below (zs : List Int) (k : Nat) (hk : k ≤ zs.length) : (Cl.bl zs k).length < (Cl.bs zs).length ∧ ∃ p, (Cl.bs zs)[(Cl.bl zs k).length]? = some p ∧ (p = k ↔ Cl.isB zs k = true) := by
  have h1 : (Cl.bl zs k).length < (Cl.bs zs).length := by
    obtain ⟨t, ht⟩ := Cl.bl_pre zs k zs.length hk
    have e : Cl.bs zs = Cl.bl zs zs.length ++ [zs.length] := Cl.bl_yes zs _ (Cl.isB_end zs)
    rw [e, ht]; simp; try omega
  refine ⟨h1, (Cl.bs zs)[(Cl.bl zs k).length], List.getElem?_eq_getElem h1, ?_⟩
  constructor
  · intro h
    obtain ⟨q, _, q2, _, q4⟩ := Cl.bs_get zs _ h1
    rw [List.getElem?_eq_getElem h1, h] at q4
    rw [Option.some.inj q4]; exact q2
  · intro h
    have h2 := Cl.bs_at zs k hk h
    have h3 : Cl.cnt zs k = (Cl.bl zs k).length := by unfold Cl.cnt; rw [Cl.bl_yes zs k h]; simp
    rw [h3, List.getElem?_eq_getElem h1] at h2
    exact Option.some.inj h2
theorem Cl.next_nat (zs : List Int) (p : Nat) (h : p < zs.length) : Cl.next zs (p : Int) = Cl.up zs (p + 1) := by
  unfold Cl.next; rw [if_neg (by omega), if_neg (by omega)]; rfl
theorem Cl.prev_nat (zs : List Int) (p : Nat) (h0 : 0 < p) (h : p ≤ zs.length) : Cl.prev zs (p : Int) = Cl.dn zs (p - 1) := by
  unfold Cl.prev; rw [if_neg (by omega), if_neg (by omega)]; rfl

set_option maxRecDepth 100000 in
set_option maxHeartbeats 2000000 in
theorem law_walk (v : Value) (zs : List Int) (w : World) (h : Rd .i64 w v zs) (hz : zs.length * 8 ≤ 140737488351232) :
    Calls Try.prog 8 #[v] w fun e w' => e = .returned (.bool true) ∧ Below w.heap.size w w' := by
  have HV : Hid (Rd .i64 w v zs) := h
  obtain ⟨ao, cp, rfl⟩ := h.form
  have m1 := Cl.bi_le zs
  clear h
  go_enter Try.func8, Try.ntmps8
  go_wp2_with fail
  refine ((copied_any _ zs _ HV.out (by omega))).mono ?_
  rintro e w1 ⟨u1, rfl, ho1, hb1⟩
  have hr1 := ho1.rd
  have R1 : Hid (Rd .i64 w1 u1 zs ∧ Below w.heap.size w w1) := ⟨hr1, hb1⟩
  clear hr1 ho1 hb1
  go_wp2_with fail
  refine (new_of R1.out.2 (Breaks_any _ _ _ R1.out.1 (by omega))).mono ?_
  rintro e w2 ⟨u2, rfl, hr2, -, hb2⟩
  have R2 : Hid (Rd .i64 w2 u2 (Cl.bi zs) ∧ Below w.heap.size w w2) := ⟨hr2, hb2⟩
  have hR := Cl.bi_rise zs
  have hpos := hR.1
  have HR : Hid (Cl.rise (Cl.bi zs) (zs.length : Int)) := hR
  obtain ⟨g, off, cap, rfl, hlc, hcm, hgl, hcell⟩ := hr2.at hpos
  have HC : Hid (∀ i, i < (Cl.bi zs).length → w2.cell? ⟨g, off + i, none⟩ = some (.int .i64 (Cl.at (Cl.bi zs) i))) := hcell
  have CP := copied_rel _ zs w2 (HV.out.ext hb2) (by omega)
  have K1 := rel_of (w := w2) (fun v' w' h => Count_any v' zs w' h)
  have ml := Cl.bi_len zs
  have mc : (Cl.cnt zs zs.length : Int) = ((Cl.bi zs).length : Int) - 1 := by omega
  rw [mc] at K1
  have hne : (((Cl.bi zs).length : Int) - 1 != ((Cl.bi zs).length : Int) - 1) = false := by simp
  have HW : Hid (Below w.heap.size w w2) := hb2
  have HN : Hid (∀ i, i + 1 < (Cl.bi zs).length → ∃ p u : Nat, Cl.at (Cl.bi zs) i = (p : Int) ∧ Cl.at (Cl.bi zs) (i + 1) = (u : Int) ∧ Cl.next zs (p : Int) = u ∧ Cl.prev zs (u : Int) = p) := by
    intro i hi
    have hl : (Cl.bi zs).length = (Cl.bs zs).length := by unfold Cl.bi; rw [List.length_map]
    obtain ⟨p, p1, p2, p3, p4⟩ := Cl.bs_get zs i (by omega)
    obtain ⟨q1, q2, q3⟩ := Cl.bs_next zs i p p4 (by omega)
    obtain ⟨u1, u2, u3, u4⟩ := Cl.up_spec zs _ (p + 1) rfl (by omega) (by omega)
    refine ⟨p, Cl.up zs (p + 1), ?_, ?_, Cl.next_nat zs p q1, ?_⟩
    · unfold Cl.at; rw [Cl.bi_get, p4]; rfl
    · unfold Cl.at; rw [Cl.bi_get, q2]; rfl
    · rw [Cl.prev_nat zs _ (by omega) u2]; exact q3
  have HJ : Hid (∀ k, k ≤ zs.length → (Cl.bl zs k).length < (Cl.bi zs).length ∧ ∃ p : Nat, Cl.at (Cl.bi zs) (Cl.bl zs k).length = (p : Int) ∧ (p = k ↔ Cl.isB zs k = true)) := by
    intro k hk
    have hl : (Cl.bi zs).length = (Cl.bs zs).length := by unfold Cl.bi; rw [List.length_map]
    obtain ⟨j1, p, j2, j3⟩ := Cl.bs_below zs k hk
    exact ⟨by omega, p, by unfold Cl.at; rw [Cl.bi_get, j2]; rfl, j3⟩
  clear hr2 hb2 hcell R1 hR ml mc
  generalize Cl.bi zs = X at *
  go_wp2_with fail
  refine (tell_of (Below.refl _ _) (ends_any _ _ _ _ R2.out.1 HR.out)).mono ?_
  rintro e w3 ⟨rfl, -, hb3⟩
  have R3 : Hid (Below w2.heap.size w2 w3) := hb3
  clear hb3
  go_wp2_with fail
  refine (CP.out _ R3.out).mono ?_
  rintro e w4 ⟨u4, rfl, hr4, hb4⟩
  have R4 : Hid (Rd .i64 w4 u4 zs ∧ Below w2.heap.size w2 w4) := ⟨hr4, hb4⟩
  clear hr4 hb4
  go_wp2_with fail
  refine (K1.out _ _ R4.out.1 R4.out.2).mono ?_
  rintro e w5 ⟨rfl, hb5⟩
  have R5 : Hid (Below w2.heap.size w2 w5) := hb5
  clear hb5 R3 R4 K1
  have HZ : Hid (zs.length * 8 ≤ 140737488351232) := hz
  go_wp2_with fail
  go_loopw [4] (fun i wr => ∃ k : Nat, k < X.length ∧ i = .int .i64 k ∧ Below w2.heap.size w2 wr) (fun i _ => X.length - (intOf i).toNat)
  case atStart => exact ⟨0, hpos, rfl, R5.out⟩
  case round =>
    obtain ⟨i, hi, rfl, hbw⟩ := hrel
    have HB : Hid (Below w2.heap.size w2 wr) := hbw
    clear R5 hne
    by_cases hlt : i + 1 < X.length
    · obtain ⟨p, u, x1, x2, x3, x4⟩ := HN.out i hlt
      have KN := rel_of (w := w2) (fun v' w' h => Next_any v' zs (p : Int) w' h)
      have KP := rel_of (w := w2) (fun v' w' h => Prev_any v' zs (u : Int) w' h)
      rw [x3] at KN
      rw [x4] at KP
      obtain ⟨i1, hi1⟩ : ∃ i1, i1 = i + 1 := ⟨_, rfl⟩
      have HCi : Hid (∀ w', Below w2.heap.size w2 w' → w'.cell? ⟨g, off + i, none⟩ = some (.int .i64 p) ∧ w'.cell? ⟨g, off + (i + 1), none⟩ = some (.int .i64 u) ∧ w'.cell? ⟨g, off + i1, none⟩ = some (.int .i64 u)) := fun w' hw => by
        have e1 := (hw.cell (p := ⟨g, off + i, none⟩) hgl).trans (HC.out i (by omega))
        have e2 := (hw.cell (p := ⟨g, off + (i + 1), none⟩) hgl).trans (HC.out (i + 1) hlt)
        rw [x1] at e1
        rw [x2] at e2
        exact ⟨e1, e2, by rw [hi1]; exact e2⟩
      have hci := (HCi.out wr hbw).1
      have hci1 := (HCi.out wr hbw).2.1
      have hci2 := (HCi.out wr hbw).2.2
      have hwi : IntKind.i64.wrap ((i : Int) + 1) = (i1 : Int) := by rw [IntKind.wrap_i64]; omega
      have b1 : (0 : Int) ≤ (i : Int) := by omega
      have b2 : (i : Int) < (X.length : Int) := by omega
      have b3 : (0 : Int) ≤ (i1 : Int) := by omega
      have b4 : (i1 : Int) < (X.length : Int) := by omega
      have q1 : ((u : Int) != (u : Int)) = false := by simp
      have q2 : ((p : Int) != (p : Int)) = false := by simp
      have HI1 : Hid (i1 = i + 1) := hi1
      clear hbw x1 x2 x3 x4 hi1
      go_wp2_with fail
      go_region_held3 (fun w' => w'.cell? ⟨g, off + i, none⟩ = some (.int .i64 p) ∧ w'.cell? ⟨g, off + (i + 1), none⟩ = some (.int .i64 u) ∧ w'.cell? ⟨g, off + i1, none⟩ = some (.int .i64 u)) (go_keep) (first | (go_at_call 17; refine (CP.out _ (by repeat (first | exact HB.out | apply Below.drew))).mono ?_; rintro e w6 ⟨u6, rfl, hr6, hb6⟩; have HB6 : Hid (Rd .i64 w6 u6 zs ∧ Below w2.heap.size w2 w6) := ⟨hr6, hb6⟩; have hci := (HCi.out w6 HB6.out.2).1; have hci1 := (HCi.out w6 HB6.out.2).2.1; have hci2 := (HCi.out w6 HB6.out.2).2.2; clear hr6 hb6) | (go_at_call 29; refine (KN.out _ _ HB6.out.1 HB6.out.2).mono ?_; rintro e w7 ⟨rfl, hb7⟩; have HB7 : Hid (Below w2.heap.size w2 w7) := hb7; have hci := (HCi.out w7 HB7.out).1; have hci1 := (HCi.out w7 HB7.out).2.1; have hci2 := (HCi.out w7 HB7.out).2.2; clear hb7))
      go_wp2_with fail
      clear hci hci1 hci2
      have hci := (HCi.out w7 HB7.out).1
      have hci1 := (HCi.out w7 HB7.out).2.1
      have hci2 := (HCi.out w7 HB7.out).2.2
      go_region_held3 (fun w' => w'.cell? ⟨g, off + i, none⟩ = some (.int .i64 p) ∧ w'.cell? ⟨g, off + (i + 1), none⟩ = some (.int .i64 u) ∧ w'.cell? ⟨g, off + i1, none⟩ = some (.int .i64 u)) (go_keep) (first | (go_at_call 17; refine (CP.out _ (by repeat (first | exact HB7.out | apply Below.drew))).mono ?_; rintro e w8 ⟨u8, rfl, hr8, hb8⟩; have HB8 : Hid (Rd .i64 w8 u8 zs ∧ Below w2.heap.size w2 w8) := ⟨hr8, hb8⟩; have hci := (HCi.out w8 HB8.out.2).1; have hci1 := (HCi.out w8 HB8.out.2).2.1; have hci2 := (HCi.out w8 HB8.out.2).2.2; clear hr8 hb8) | (go_at_call 30; refine (KP.out _ _ HB8.out.1 HB8.out.2).mono ?_; rintro e w9 ⟨rfl, hb9⟩; have HB9 : Hid (Below w2.heap.size w2 w9) := hb9; have hci := (HCi.out w9 HB9.out).1; have hci1 := (HCi.out w9 HB9.out).2.1; have hci2 := (HCi.out w9 HB9.out).2.2; clear hb9))
      go_wp2_with fail
      go_roundw
      case rel => have := HI1.out; exact ⟨i1, by omega, by go_num, HB9.out⟩
      case measure => have := HI1.out; simp [intOf]; omega
    · clear HN
      go_wp2_with fail
      go_loopw [7, 8] (fun j i wr => ∃ k : Nat, k ≤ zs.length + 1 ∧ i = .int .i64 k ∧ j = .int .i64 (Cl.bl zs k).length ∧ Below w2.heap.size w2 wr) (fun _ i _ => zs.length + 1 - (intOf i).toNat)
      case atStart => exact ⟨0, by omega, rfl, rfl, HB.out⟩
      case round =>
        obtain ⟨k, hk, rfl, rfl, hbw⟩ := hrel
        have HB' : Hid (Below w2.heap.size w2 wr) := hbw
        by_cases hlt2 : k ≤ zs.length
        · obtain ⟨j1, p, x1, x2⟩ := HJ.out k hlt2
          have KB := rel_of (w := w2) (fun v' w' h => IsBreak_any v' zs (k : Int) w' h)
          rw [Cl.isBi_nat zs k hlt2] at KB
          have hcj : wr.cell? ⟨g, off + (Cl.bl zs k).length, none⟩ = some (.int .i64 p) := by
            have e1 := (hbw.cell (p := ⟨g, off + (Cl.bl zs k).length, none⟩) hgl).trans (HC.out _ j1)
            rwa [x1] at e1
          have hd1 : decide (((Cl.bl zs k).length : Int) < (X.length : Int)) = true := by simp; omega
          have HS : Hid ((Cl.bl zs (k + 1)).length = (Cl.bl zs k).length + (if Cl.isB zs k = true then 1 else 0)) := by
            unfold Hid
            by_cases h : Cl.isB zs k = true
            · rw [Cl.bl_yes zs k h, if_pos h]; simp
            · rw [Cl.bl_no zs k (by simpa using h), if_neg h]; rfl
          clear hbw x1
          generalize (Cl.bl zs k).length = j at *
          cases hI : Cl.isB zs k with
          | true =>
            obtain rfl : p = k := x2.2 hI
            rw [hI] at HS
            generalize Cl.isB zs p = bI at *
            have q1 : ((p : Int) == (p : Int)) = true := by simp
            clear x2
            go_wp2_with fail
            refine (CP.out _ HB'.out).mono ?_
            rintro e w6 ⟨u6, rfl, hr6, hb6⟩
            have R6 : Hid (Rd .i64 w6 u6 zs ∧ Below w2.heap.size w2 w6) := ⟨hr6, hb6⟩
            clear hr6 hb6
            go_wp2_with fail
            refine (KB.out _ _ R6.out.1 R6.out.2).mono ?_
            rintro e w7 ⟨rfl, hb7⟩
            have R7 : Hid (Below w2.heap.size w2 w7) := hb7
            clear hb7
            go_wp2
            go_roundw
            case rel => exact ⟨p + 1, by omega, by go_num, by rw [HS.out]; go_num, R7.out⟩
            case measure => simp [intOf]; omega
          | false =>
            have hpk : p ≠ k := fun h => by rw [x2.1 h] at hI; cases hI
            rw [hI] at KB HS
            have q1 : ((p : Int) == (k : Int)) = false := by rw [beq_eq_false_iff_ne]; omega
            clear x2
            go_wp2_with fail
            refine (CP.out _ HB'.out).mono ?_
            rintro e w6 ⟨u6, rfl, hr6, hb6⟩
            have R6 : Hid (Rd .i64 w6 u6 zs ∧ Below w2.heap.size w2 w6) := ⟨hr6, hb6⟩
            clear hr6 hb6
            go_wp2_with fail
            refine (KB.out _ _ R6.out.1 R6.out.2).mono ?_
            rintro e w7 ⟨rfl, hb7⟩
            have R7 : Hid (Below w2.heap.size w2 w7) := hb7
            clear hb7
            go_wp2
            go_roundw
            case rel => exact ⟨k + 1, by omega, by go_num, by rw [HS.out]; go_num, R7.out⟩
            case measure => simp [intOf]; omega
        · clear HJ HC
          go_wp2
          go_ret
          exact ⟨rfl, ext_trans HW.out HB'.out⟩
end Go.Proofs.Ytahjjpleceppaaa
