/- Share, and whether the program is able at all. -/
import Derived.Test.YtcmglbgnpiociabFlt
import Derived.Test.YtcmglbgnpiociabVAt
namespace Go.Proofs.Ytcmglbgnpiociab
open Go.RowKit

theorem Fl.foi (n : Nat) : floatOfInt .f64 (n : Int) = Fl.ofN n := by
  unfold floatOfInt FloatKind.nearest FloatKind.encode Fl.ofN Ieee.Format.write
  simp only [Int.natAbs_natCast, show decide ((n : Int) < 0) = false from decide_eq_false (by omega)]
  rfl
theorem ret_float {a b : Nat} (h : a = b) : Ending.returned (.float .f64 a) = .returned (.float .f64 b) := by rw [h]
/-- The share of counts. -/
def Fl.shr (n u : Nat) : Nat := (Ieee.double.div (Fl.ofN n) (Fl.ofN u)).getD 0
theorem Fl.shr_eq (n u : Nat) (h0 : 0 < u) (h1 : u < 9007199254740992) : floatBits .quo .f64 (floatOfInt .f64 (n : Int)) (floatOfInt .f64 (u : Int)) = some (Fl.shr n u) := by
  obtain ⟨q, hq, _⟩ := Fl.div_ok n u h0 h1
  rw [Fl.foi, Fl.foi]
  unfold Fl.shr
  rw [hq]
  exact hq
theorem Fl.shr_ok (n u : Nat) (h0 : 0 < u) (h1 : u < 9007199254740992) : Fl.Ok (Ieee.double.read (Fl.shr n u)) := by
  obtain ⟨q, hq, hk⟩ := Fl.div_ok n u h0 h1
  unfold Fl.shr
  rw [hq]
  exact hk

/-- Share's answer, by the numbers as they are taken. -/
def Vw.share (t h n : Int) : Nat := if Vw.bt h n = 0 then 0 else Fl.shr (min t (Vw.bt h n)).toNat (Vw.bt h n).toNat

set_option maxRecDepth 100000 in
theorem Share_any (a b c : Int) (w : World) : Calls Try.prog 16 #[.int .i64 a, .int .i64 b, .int .i64 c] w fun e w' => e = .returned (.float .f64 (Vw.share (Vw.no a (Vw.ls c)) (Vw.hg b) (Vw.ls c))) ∧ w' = w := by
  have HH := hidIt (takeHeight_any b)
  have HL := hidIt (takeLines_any c)
  obtain ⟨n1, n2⟩ := Vw.ls_le c
  obtain ⟨g1, g2⟩ := Vw.hg_le b
  have HA := hidIt (takeNumber_any a (Vw.ls c) n1 n2)
  have HB := hidIt (bottom_any (Vw.hg b) (Vw.ls c) n1 n2 g1 g2)
  obtain ⟨t1, t2⟩ := Vw.no_le a _ n1
  generalize hn : Vw.ls c = n at *
  generalize hh : Vw.hg b = h at *
  generalize ht : Vw.no a n = t at *
  have HQ : Hid (Vw.share t h n = if Vw.bt h n = 0 then 0 else Fl.shr (min t (Vw.bt h n)).toNat (Vw.bt h n).toNat) := rfl
  have hbt : 0 ≤ Vw.bt h n ∧ Vw.bt h n < n := by unfold Vw.bt; omega
  obtain ⟨b1, b2⟩ := hbt
  generalize Vw.bt h n = q at *
  clear hn hh ht
  by_cases hq : q = 0
  · subst hq
    go_enter Try.func16, Try.ntmps16
    go_wp2_with (first | (go_at_call 29; refine (HH.out _).mono ?_; rintro e w1 ⟨rfl, rfl⟩) | (go_at_call 30; refine (HL.out _).mono ?_; rintro e w1 ⟨rfl, rfl⟩) | (go_at_call 31; refine (HA.out _).mono ?_; rintro e w1 ⟨rfl, rfl⟩) | (go_at_call 32; refine (HB.out _).mono ?_; rintro e w1 ⟨rfl, rfl⟩))
    go_ret
    exact ⟨ret_float (by rw [HQ.out]; rfl), rfl⟩
  · have bq : (q == 0) = false := by simp [hq]
    have HQ' : Hid (Vw.share t h n = Fl.shr (min t q).toNat q.toNat) := by unfold Hid; rw [HQ.out, if_neg hq]
    have hop : ∀ z, z = min t q → ∀ ty w, (binOp .quo ty (.float .f64 (floatOfInt .f64 z)) (.float .f64 (floatOfInt .f64 q))).run Try.prog w = .ok (.float .f64 (Fl.shr (min t q).toNat q.toNat)) w := by
      rintro z rfl ty w
      have h := Fl.shr_eq (min t q).toNat q.toNat (by omega) (by omega)
      rw [show (((min t q).toNat : Nat) : Int) = min t q by omega, show ((q.toNat : Nat) : Int) = q by omega] at h
      exact run_float_arith w .quo ty .f64 _ _ _ h
    generalize Fl.shr (min t q).toNat q.toNat = r at *
    rcases Int.lt_or_le q t with hle | hle
    · have ho := hop q (by omega)
      clear hop hq
      go_enter Try.func16, Try.ntmps16
      go_wp2_with (first | (go_at_call 29; refine (HH.out _).mono ?_; rintro e w1 ⟨rfl, rfl⟩) | (go_at_call 30; refine (HL.out _).mono ?_; rintro e w1 ⟨rfl, rfl⟩) | (go_at_call 31; refine (HA.out _).mono ?_; rintro e w1 ⟨rfl, rfl⟩) | (go_at_call 32; refine (HB.out _).mono ?_; rintro e w1 ⟨rfl, rfl⟩))
      all_goals
        go_ret
        exact ⟨ret_float HQ'.out.symm, rfl⟩
    · have ho := hop t (by omega)
      clear hop hq
      go_enter Try.func16, Try.ntmps16
      go_wp2_with (first | (go_at_call 29; refine (HH.out _).mono ?_; rintro e w1 ⟨rfl, rfl⟩) | (go_at_call 30; refine (HL.out _).mono ?_; rintro e w1 ⟨rfl, rfl⟩) | (go_at_call 31; refine (HA.out _).mono ?_; rintro e w1 ⟨rfl, rfl⟩) | (go_at_call 32; refine (HB.out _).mono ?_; rintro e w1 ⟨rfl, rfl⟩))
      go_ret
      exact ⟨ret_float HQ'.out.symm, rfl⟩

/-- What the row of three answers. -/
theorem Vw.cell3 : Vw.cell [97, 9, 98] 2 = 8 := by
  have u1 : Cl.up [97, 9, 98] (0 + 1) = 1 := Cl.up_yes _ _ (by decide) (by decide +kernel)
  have u2 : Cl.up [97, 9, 98] (1 + 1) = 2 := Cl.up_yes _ _ (by decide) (by decide +kernel)
  have u3 : Cl.up [97, 9, 98] (2 + 1) = 3 := Cl.up_end _ _ (by decide)
  have d1 : Vw.wd (Vw.clu [97, 9, 98] 0) 0 = 1 := by unfold Vw.clu; rw [u1]; decide +kernel
  have d2 : Vw.wd (Vw.clu [97, 9, 98] 1) (0 + 1) = 7 := by unfold Vw.clu; rw [u2]; decide +kernel
  unfold Vw.cell
  rw [Vw.ps_step _ 0 0 (by decide), u1, d1, Vw.ps_step _ 1 (0 + 1) (by decide), u2, d2, Vw.ps_step _ 2 _ (by decide), u3]
  rfl

set_option maxRecDepth 100000 in
theorem able_any (w : World) : Calls Try.prog 9 #[] w fun e w' => e = .returned (.bool true) ∧ Below w.heap.size w w' := by
  have F := hidIt (Follow_any 10 5 100 15)
  have S := hidIt (Share_any 2 5 9)
  have PC := hidIt (Percent_any 0 3)
  have C : Hid (Calls Try.prog 11 #[.slice (some ⟨w.heap.size, 0, none⟩) 3 3, .int .i64 2] (w.alloc (.cells #[.int .i64 97, .int .i64 9, .int .i64 98] 3)) fun e w' => e = .returned (.int .i64 8) ∧ Below w.heap.size w w') := by
    have h := P.Cell_any _ [97, 9, 98] 2 _ (Rd.lit .i64 w 3 [97, 9, 98] (by simp [maxLen])) (by simp)
    rw [Vw.cell3] at h
    refine Calls.mono h ?_
    rintro e w' ⟨rfl, hb⟩
    exact ⟨rfl, ext_trans (ext_alloc (Below.refl _ _) _) hb⟩
  have f1 : Vw.follow (Vw.no 10 (Vw.ls 100)) (Vw.hg 5) (Vw.no 15 (Vw.ls 100)) = 11 := by decide
  have s1 : Vw.share (Vw.no 2 (Vw.ls 9)) (Vw.hg 5) (Vw.ls 9) = 4602678819172646912 := by decide +kernel
  have p1 : Vw.percent (Vw.no 0 (Vw.ls 3)) (Vw.ls 3) = 33 := by decide
  rw [f1] at F
  rw [s1] at S
  rw [p1] at PC
  clear f1 s1 p1
  go_enter Try.func9, Try.ntmps9
  go_wp2_with (first | (go_at_call 15; refine (F.out _).mono ?_; rintro e w1 ⟨rfl, rfl⟩) | (go_at_call 16; refine (S.out _).mono ?_; rintro e w1 ⟨rfl, rfl⟩) | (go_at_call 17; refine (PC.out _).mono ?_; rintro e w1 ⟨rfl, rfl⟩) | (go_at_call 11; refine C.out.mono ?_; rintro e w1 ⟨rfl, hb1⟩))
  go_ret
  exact ⟨rfl, hb1⟩
end Go.Proofs.Ytcmglbgnpiociab
