/- ViewRound: the walk. -/
import Derived.Test.YtcmglbgnpiociaaVRndP
import Derived.Test.YtcmglbgnpiociaaVSeen
namespace Go.Proofs.Ytcmglbgnpiociaa
open Go.RowKit Ieee
attribute [local go_sem] Vw.mx_go Vw.mn_go

theorem Vw.share_sh (t h n : Int) (B : Nat) (hB : Vw.bt h n = (B : Int)) (ht : 0 ≤ t) : Vw.share t h n = Vw.sh t.toNat B := by
  unfold Vw.share Vw.sh
  rw [hB]
  by_cases h0 : B = 0
  · rw [if_pos (by omega), if_pos h0]
  · rw [if_neg (by omega), if_neg h0]
    congr 1
    omega
/-- How two of them stand to each other. -/
theorem Fl.ord_lt (x y : Nat) (h : x < y) (hy : y < 9218868437227405312) : FloatKind.f64.format.order x y = some .lt := by
  have e : FloatKind.f64.format.order x y = some (compare (Fl.U x) (Fl.U y)) := Fl.order_ok x y (by omega) hy
  rw [e, Nat.compare_eq_lt.2 (Fl.U_lt h)]
theorem Fl.ord_gt (x y : Nat) (h : y < x) (hx : x < 9218868437227405312) : FloatKind.f64.format.order x y = some .gt := by
  have e : FloatKind.f64.format.order x y = some (compare (Fl.U x) (Fl.U y)) := Fl.order_ok x y hx (by omega)
  rw [e, Nat.compare_eq_gt.2 (Fl.U_lt h)]
theorem Fl.ord_eq (x y : Nat) (h : x = y) (hy : y < 9218868437227405312) : FloatKind.f64.format.order x y = some .eq := by
  have e : FloatKind.f64.format.order x y = some (compare (Fl.U x) (Fl.U y)) := Fl.order_ok x y (by omega) hy
  rw [e, h, Nat.compare_eq_eq.2 rfl]

set_option maxRecDepth 100000 in
set_option maxHeartbeats 8000000 in
theorem round_any' (a b c d : Int) (w : World) : Calls Try.prog 6 #[.int .i64 a, .int .i64 b, .int .i64 c, .int .i64 d] w fun e w' => e = .returned (.bool true) ∧ Below w.heap.size w w' := by
  have AB := hidIt (able_any w)
  have FR := hidIt (frame_any c d)
  have S1 := hidIt (Share_any a c d)
  have S2 := hidIt (Share_any b c d)
  obtain ⟨n1, n2⟩ := Vw.ls_le d
  obtain ⟨g1, g2⟩ := Vw.hg_le c
  obtain ⟨t1, t2⟩ := Vw.no_le a _ n1
  obtain ⟨l1, l2⟩ := Vw.no_le b _ n1
  have et := Vw.no_eq a _ n1
  have el := Vw.no_eq b _ n1
  have eq := Vw.bt_eq (Vw.hg c) (Vw.ls d)
  have DD := hidIt (fun x hx w => Drag_any x c d w hx)
  obtain ⟨B, hB, hB'⟩ := Vw.bt_nat (Vw.hg c) (Vw.ls d) g1 n2
  rw [hB, Int.toNat_natCast] at DD
  rw [Vw.share_sh _ _ _ B hB t1] at S1
  rw [Vw.share_sh _ _ _ B hB l1] at S2
  rw [hB] at eq
  generalize Vw.ls d = n at *
  generalize Vw.hg c = h at *
  clear hB
  obtain ⟨ta, hta⟩ : ∃ ta : Nat, Vw.no a n = (ta : Int) := ⟨(Vw.no a n).toNat, by omega⟩
  obtain ⟨tb, htb⟩ : ∃ tb : Nat, Vw.no b n = (tb : Int) := ⟨(Vw.no b n).toNat, by omega⟩
  rw [hta] at S1 et t1 t2
  rw [htb] at S2 el l1 l2
  rw [Int.toNat_natCast] at S1 S2
  clear hta htb
  have wn : IntKind.i64.wrap (n - 1) = n - 1 := by rw [IntKind.wrap_i64]; omega
  have wh : IntKind.i64.wrap (n - h) = n - h := by rw [IntKind.wrap_i64]; omega
  have hs := Vw.sh_le ta B hB'
  have hu := Vw.sh_le tb B hB'
  have D := hidIt (DD.out (Vw.sh ta B) (by omega))
  rw [Vw.drag_sh ta B hB'] at D
  have HQ : Hid (((min ta B : Nat) : Int) = Vw.mn (ta : Int) (B : Int)) := by unfold Hid Vw.mn; omega
  -- how s and u stand to 0, 1 and each other, in each case
  have HZ := hidIt (Vw.sh_zero ta B hB')
  have HO := hidIt (fun h0 => Vw.sh_one ta B hB' h0)
  have HL := hidIt (fun h0 h1 => Vw.sh_lt ta tb B hB' h0 h1)
  have HM := hidIt (fun h0 => Vw.sh_mono ta tb B hB' h0)
  generalize Vw.sh ta B = s at *
  generalize Vw.sh tb B = u at *
  generalize min ta B = mB at *
  clear DD
  have Q : Hid ((ta : Int) < (tb : Int) → FloatKind.f64.format.order s u = some .lt ∨ (¬ (tb : Int) ≤ (B : Int) ∧ FloatKind.f64.format.order s u = some .eq)) := fun k => by
    have hm := HM.out (by omega)
    rcases Nat.lt_or_ge s u with h1 | h1
    · exact .inl (Fl.ord_lt s u h1 (by omega))
    · refine .inr ⟨fun l => ?_, Fl.ord_eq s u (by omega) (by omega)⟩
      have := HL.out (by omega) (by omega)
      omega
  have ZZ : Hid ((((ta : Int) == 0) = true ∧ ((B : Int) == 0) = true ∧ ¬ (0 : Int) < (B : Int) ∧ FloatKind.f64.format.order s 0 = some .eq ∧ FloatKind.f64.format.order s 4607182418800017408 = some .lt) ∨
      (((ta : Int) == 0) = true ∧ ((B : Int) == 0) = false ∧ (0 : Int) < (B : Int) ∧ ¬ (B : Int) ≤ (ta : Int) ∧ FloatKind.f64.format.order s 0 = some .eq ∧ FloatKind.f64.format.order s 4607182418800017408 = some .lt) ∨
      (((ta : Int) == 0) = false ∧ ((B : Int) == 0) = true ∧ ¬ (0 : Int) < (B : Int) ∧ FloatKind.f64.format.order s 0 = some .eq ∧ FloatKind.f64.format.order s 4607182418800017408 = some .lt) ∨
      (((ta : Int) == 0) = false ∧ ((B : Int) == 0) = false ∧ (0 : Int) < (B : Int) ∧ (B : Int) ≤ (ta : Int) ∧ FloatKind.f64.format.order s 0 = some .gt ∧ FloatKind.f64.format.order s 4607182418800017408 = some .eq) ∨
      (((ta : Int) == 0) = false ∧ ((B : Int) == 0) = false ∧ (0 : Int) < (B : Int) ∧ ¬ (B : Int) ≤ (ta : Int) ∧ FloatKind.f64.format.order s 0 = some .gt ∧ FloatKind.f64.format.order s 4607182418800017408 = some .lt)) := by
    unfold Hid
    have hz := HZ.out
    have lt1 : s = 0 → FloatKind.f64.format.order s 0 = some .eq ∧ FloatKind.f64.format.order s 4607182418800017408 = some .lt := fun k => ⟨Fl.ord_eq s 0 k (by decide), Fl.ord_lt s _ (by omega) (by decide)⟩
    by_cases k0 : ta = 0
    · by_cases k1 : B = 0
      · exact .inl ⟨by simp [k0], by simp [k1], by omega, lt1 (hz.2 (.inl k0))⟩
      · exact .inr (.inl ⟨by simp [k0], by simp; omega, by omega, by omega, lt1 (hz.2 (.inl k0))⟩)
    · by_cases k1 : B = 0
      · exact .inr (.inr (.inl ⟨by simp; omega, by simp [k1], by omega, lt1 (hz.2 (.inr k1))⟩))
      · have s0 : 0 < s := by
          rcases Nat.eq_zero_or_pos s with h1 | h1
          · have := hz.1 h1; omega
          · exact h1
        have ho := HO.out (by omega)
        by_cases k2 : B ≤ ta
        · exact .inr (.inr (.inr (.inl ⟨by simp; omega, by simp; omega, by omega, by omega, Fl.ord_gt s 0 s0 (by omega), Fl.ord_eq s _ (ho.2 k2) (by decide)⟩)))
        · refine .inr (.inr (.inr (.inr ⟨by simp; omega, by simp; omega, by omega, by omega, Fl.ord_gt s 0 s0 (by omega), Fl.ord_lt s _ ?_ (by decide)⟩)))
          rcases Nat.lt_or_eq_of_le hs with h1 | h1
          · exact h1
          · exact absurd (ho.1 h1) k2
  clear HZ HO HL HM hs hu
  have b0 : (0 : Int) ≤ (B : Int) := by omega
  rcases ZZ.out with ⟨r0, r1, r2, z, o⟩ | ⟨r0, r1, r2, r3, z, o⟩ | ⟨r0, r1, r2, z, o⟩ | ⟨r0, r1, r2, r3, z, o⟩ | ⟨r0, r1, r2, r3, z, o⟩
  all_goals
    clear ZZ
    by_cases k2 : (ta : Int) < (tb : Int)
    · rcases Q.out k2 with q | ⟨k3, q⟩
      · clear Q
        by_cases k3 : (tb : Int) ≤ (B : Int)
        all_goals
          go_enter Try.func6, Try.ntmps6
          go_wp2_with (first | (go_at_call 9; refine AB.out.mono ?_; rintro e w1 ⟨rfl, hb1⟩) | (go_at_call 10; refine (FR.out _).mono ?_; rintro e w2 ⟨rfl, rfl⟩) | (go_at_call 17; refine (S1.out _).mono ?_; clear S1; rintro e w2 ⟨rfl, rfl⟩) | (go_at_call 17; refine (S2.out _).mono ?_; clear S2; rintro e w2 ⟨rfl, rfl⟩) | (go_at_call 18; refine (D.out _).mono ?_; clear D; rintro e w2 ⟨rfl, rfl⟩))
          all_goals
            go_ret
            refine ⟨ret_bool ?_, hb1⟩
            first | exact beq_iff_eq.2 HQ.out | (rw [beq_iff_eq]; have hq := HQ.out; unfold Vw.mn at hq; omega)
      · clear Q
        go_enter Try.func6, Try.ntmps6
        go_wp2_with (first | (go_at_call 9; refine AB.out.mono ?_; rintro e w1 ⟨rfl, hb1⟩) | (go_at_call 10; refine (FR.out _).mono ?_; rintro e w2 ⟨rfl, rfl⟩) | (go_at_call 17; refine (S1.out _).mono ?_; clear S1; rintro e w2 ⟨rfl, rfl⟩) | (go_at_call 17; refine (S2.out _).mono ?_; clear S2; rintro e w2 ⟨rfl, rfl⟩) | (go_at_call 18; refine (D.out _).mono ?_; clear D; rintro e w2 ⟨rfl, rfl⟩))
        all_goals
          go_ret
          refine ⟨ret_bool ?_, hb1⟩
          first | exact beq_iff_eq.2 HQ.out | (rw [beq_iff_eq]; have hq := HQ.out; unfold Vw.mn at hq; omega)
    · clear Q
      go_enter Try.func6, Try.ntmps6
      go_wp2_with (first | (go_at_call 9; refine AB.out.mono ?_; rintro e w1 ⟨rfl, hb1⟩) | (go_at_call 10; refine (FR.out _).mono ?_; rintro e w2 ⟨rfl, rfl⟩) | (go_at_call 17; refine (S1.out _).mono ?_; clear S1; rintro e w2 ⟨rfl, rfl⟩) | (go_at_call 17; refine (S2.out _).mono ?_; clear S2; rintro e w2 ⟨rfl, rfl⟩) | (go_at_call 18; refine (D.out _).mono ?_; clear D; rintro e w2 ⟨rfl, rfl⟩))
      all_goals
        go_ret
        refine ⟨ret_bool ?_, hb1⟩
        first | exact beq_iff_eq.2 HQ.out | (rw [beq_iff_eq]; have hq := HQ.out; unfold Vw.mn at hq; omega)
end Go.Proofs.Ytcmglbgnpiociaa
