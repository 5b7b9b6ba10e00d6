/- takeShare, Drag, Part. -/
import Derived.Test.YtcmglbgnpiociabVDrg
namespace Go.Proofs.Ytcmglbgnpiociab
open Go.RowKit Ieee

/-- A word is a NaN, or it is to be held against 0 and 1. -/
theorem Fl.tri (x : Nat) : (double.order x x = none ∧ double.order x 0 = none ∧ double.order x 4607182418800017408 = none) ∨ (double.order x x = some .eq ∧ ∃ o p, double.order x 0 = some o ∧ double.order x 4607182418800017408 = some p) := by
  obtain ⟨m1, i1, e1, _⟩ := Fl.read_pos 4607182418800017408 (by decide)
  obtain ⟨m0, i0, e0, _⟩ := Fl.read_pos 0 (by decide)
  cases hx : double.read x with
  | nan s f =>
    left
    unfold Format.order
    rw [hx]
    exact ⟨rfl, rfl, rfl⟩
  | infinity s =>
    right
    refine ⟨Fl.self_eq x (.inr ⟨s, hx⟩), ?_⟩
    unfold Format.order
    rw [hx, e0, e1]
    exact ⟨_, _, rfl, rfl⟩
  | number s m i =>
    right
    refine ⟨Fl.self_eq x (.inl ⟨s, m, i, hx⟩), ?_⟩
    unfold Format.order
    rw [hx, e0, e1]
    exact ⟨_, _, rfl, rfl⟩

/-- Floats' comparisons, out of the walks' sight. -/
def Fl.eqB (x y : Nat) : Bool := double.order x y == some .eq
def Fl.geB (x y : Nat) : Bool := (double.order x y == some .gt || double.order x y == some .eq)
def Fl.leB (x y : Nat) : Bool := (double.order x y == some .lt || double.order x y == some .eq)
def Fl.gtB (x y : Nat) : Bool := double.order x y == some .gt
theorem Fl.ge_go (x y : Nat) : (FloatKind.f64.format.order x y == some .gt || FloatKind.f64.format.order x y == some .eq) = Fl.geB x y := rfl
theorem Fl.le_go (x y : Nat) : (FloatKind.f64.format.order x y == some .lt || FloatKind.f64.format.order x y == some .eq) = Fl.leB x y := rfl

theorem isNaN_any (x : Nat) (w : World) : Calls Try.prog 42 #[.float .f64 x] w fun e w' => e = .returned (.bool (!Fl.eqB x x)) ∧ w' = w := by
  go_enter Try.func42, Try.ntmps42
  go_wp2
  go_ret
  exact ⟨rfl, rfl⟩

set_option maxRecDepth 100000 in
theorem takeShare_any (x : Nat) (w : World) : Calls Try.prog 35 #[.float .f64 x] w fun e w' => e = .returned (.float .f64 (Vw.tk x)) ∧ w' = w := by
  rcases Fl.tri x with ⟨h1, h2, h3⟩ | ⟨h1, o, p, h2, h3⟩
  · have HN : Hid (∀ w, Calls Try.prog 42 #[.float .f64 x] w fun e w' => e = .returned (.bool true) ∧ w' = w) := by
      have h := isNaN_any x
      unfold Fl.eqB at h
      rw [h1] at h
      exact h
    have HQ : Hid (Vw.tk x = 0) := by unfold Hid Vw.tk; rw [h2]; rfl
    clear h1 h2 h3
    go_enter Try.func35, Try.ntmps35
    go_wp2_with (go_at_call 42; refine (HN.out _).mono ?_; rintro e w1 ⟨rfl, rfl⟩)
    go_ret
    exact ⟨ret_float HQ.out.symm, rfl⟩
  · have HN : Hid (∀ w, Calls Try.prog 42 #[.float .f64 x] w fun e w' => e = .returned (.bool false) ∧ w' = w) := by
      have h := isNaN_any x
      unfold Fl.eqB at h
      rw [h1] at h
      exact h
    have HT : Hid (Vw.tk x = if o = .gt then (if p = .lt then x else 4607182418800017408) else 0) := by unfold Hid Vw.tk; rw [h2, h3]; simp only [Option.some.injEq]
    have g1 : (FloatKind.f64.format.order x 0 == some .lt || FloatKind.f64.format.order x 0 == some .eq) = (o == .lt || o == .eq) := by
      show (double.order x 0 == some .lt || double.order x 0 == some .eq) = _
      rw [h2]; rfl
    have g2 : (FloatKind.f64.format.order x 4607182418800017408 == some .gt || FloatKind.f64.format.order x 4607182418800017408 == some .eq) = (p == .gt || p == .eq) := by
      show (double.order x 4607182418800017408 == some .gt || double.order x 4607182418800017408 == some .eq) = _
      rw [h3]; rfl
    clear h1 h2 h3
    cases o with
    | gt =>
      have k1 : (Ordering.gt == .lt || Ordering.gt == .eq) = false := rfl
      rw [k1] at g1
      cases p with
      | lt =>
        have k2 : (Ordering.lt == .gt || Ordering.lt == .eq) = false := rfl
        rw [k2] at g2
        have HQ : Hid (Vw.tk x = x) := HT.out
        go_enter Try.func35, Try.ntmps35
        go_wp2_with (go_at_call 42; refine (HN.out _).mono ?_; rintro e w1 ⟨rfl, rfl⟩)
        go_ret
        exact ⟨ret_float HQ.out.symm, rfl⟩
      | eq =>
        have k2 : (Ordering.eq == .gt || Ordering.eq == .eq) = true := rfl
        rw [k2] at g2
        have HQ : Hid (Vw.tk x = 4607182418800017408) := HT.out
        go_enter Try.func35, Try.ntmps35
        go_wp2_with (go_at_call 42; refine (HN.out _).mono ?_; rintro e w1 ⟨rfl, rfl⟩)
        go_ret
        exact ⟨ret_float HQ.out.symm, rfl⟩
      | gt =>
        have k2 : (Ordering.gt == .gt || Ordering.gt == .eq) = true := rfl
        rw [k2] at g2
        have HQ : Hid (Vw.tk x = 4607182418800017408) := HT.out
        go_enter Try.func35, Try.ntmps35
        go_wp2_with (go_at_call 42; refine (HN.out _).mono ?_; rintro e w1 ⟨rfl, rfl⟩)
        go_ret
        exact ⟨ret_float HQ.out.symm, rfl⟩
    | lt =>
      have k1 : (Ordering.lt == .lt || Ordering.lt == .eq) = true := rfl
      rw [k1] at g1
      have HQ : Hid (Vw.tk x = 0) := HT.out
      go_enter Try.func35, Try.ntmps35
      go_wp2_with (go_at_call 42; refine (HN.out _).mono ?_; rintro e w1 ⟨rfl, rfl⟩)
      go_ret
      exact ⟨ret_float HQ.out.symm, rfl⟩
    | eq =>
      have k1 : (Ordering.eq == .lt || Ordering.eq == .eq) = true := rfl
      rw [k1] at g1
      have HQ : Hid (Vw.tk x = 0) := HT.out
      go_enter Try.func35, Try.ntmps35
      go_wp2_with (go_at_call 42; refine (HN.out _).mono ?_; rintro e w1 ⟨rfl, rfl⟩)
      go_ret
      exact ⟨ret_float HQ.out.symm, rfl⟩

theorem Vw.bt_nat (h n : Int) (h1 : 1 ≤ h) (n1 : n ≤ 1099511627776) : ∃ B : Nat, Vw.bt h n = (B : Int) ∧ B < 1099511627777 := ⟨(Vw.bt h n).toNat, by unfold Vw.bt; omega, by unfold Vw.bt; omega⟩

set_option maxRecDepth 100000 in
theorem Drag_any (x : Nat) (b c : Int) (w : World) (hx : x < 18446744073709551616) : Calls Try.prog 22 #[.float .f64 x, .int .i64 b, .int .i64 c] w fun e w' => e = .returned (.int .i64 (Vw.drag x (Vw.bt (Vw.hg b) (Vw.ls c)).toNat : Nat)) ∧ w' = w := by
  have HH := hidIt (takeHeight_any b)
  have HL := hidIt (takeLines_any c)
  obtain ⟨n1, n2⟩ := Vw.ls_le c
  obtain ⟨g1, g2⟩ := Vw.hg_le b
  have HB := hidIt (bottom_any (Vw.hg b) (Vw.ls c) n1 n2 g1 g2)
  have HS := hidIt (takeShare_any x)
  obtain ⟨B, hB, hB'⟩ := Vw.bt_nat (Vw.hg b) (Vw.ls c) g1 n2
  rw [hB] at HB
  rw [hB, Int.toNat_natCast]
  generalize Vw.ls c = n at *
  generalize Vw.hg b = h at *
  have ht := Vw.tk_le x hx
  have hp := (Vw.pr_ok _ B ht hB').1
  obtain ⟨hs1, _, hs2, hs3⟩ := Vw.sum_ok _ B ht hB'
  have HQ : Hid (Vw.drag x B = Vw.fl (Vw.sm (Vw.pr (Vw.tk x) B))) := rfl
  rw [← Fl.foi] at hp
  have o1 : ∀ ty w, (binOp .mul ty (.float .f64 (Vw.tk x)) (.float .f64 (floatOfInt .f64 (B : Int)))).run Try.prog w = .ok (.float .f64 (Vw.pr (Vw.tk x) B)) w := fun ty w => run_float_arith w .mul ty .f64 _ _ _ hp
  have o2 : ∀ ty w, (binOp .add ty (.float .f64 (Vw.pr (Vw.tk x) B)) (.float .f64 4602678819172646912)).run Try.prog w = .ok (.float .f64 (Vw.sm (Vw.pr (Vw.tk x) B))) w := fun ty w => run_float_arith w .add ty .f64 _ _ _ hs1
  generalize Vw.drag x B = R at *
  generalize Vw.sm (Vw.pr (Vw.tk x) B) = r at *
  generalize Vw.pr (Vw.tk x) B = q at *
  generalize Vw.fl r = f at *
  generalize Vw.tk x = s at *
  have o3 : ∀ w, (convert 26 3 (.float .f64 r)).run Try.prog w = .ok (.int .i64 f) w := fun w => run_convert_float_int w 26 3 .f64 .i64 r f (by kernel_rfl) Try.underlying3 hs3
  clear hp hs1 hs3 hB
  have hfB : ¬ (B : Int) < (f : Int) := by omega
  go_enter Try.func22, Try.ntmps22
  go_wp2_with (first | (go_at_call 29; refine (HH.out _).mono ?_; rintro e w1 ⟨rfl, rfl⟩) | (go_at_call 30; refine (HL.out _).mono ?_; rintro e w1 ⟨rfl, rfl⟩) | (go_at_call 35; refine (HS.out _).mono ?_; rintro e w1 ⟨rfl, rfl⟩) | (go_at_call 32; refine (HB.out _).mono ?_; rintro e w1 ⟨rfl, rfl⟩))
  go_ret
  exact ⟨ret_int (by rw [HQ.out]), rfl⟩

theorem Fl.mul_comm' (x y : Nat) (hx : x < 9218868437227405312) (hy : y < 9218868437227405312) : double.mul x y = double.mul y x := by
  obtain ⟨m, i, e, _⟩ := Fl.read_pos x hx
  obtain ⟨n, j, e', _⟩ := Fl.read_pos y hy
  unfold Format.mul
  rw [e, e']
  unfold Datum.product
  simp only
  rw [Nat.mul_comm m n, Int.add_comm i j]
/-- A part of the height. -/
def Vw.part (x h : Nat) : Nat := max (Vw.fl (Vw.pr (Vw.tk x) h)) 1
theorem Vw.part_in (s h : Nat) (hs : s ≤ 4607182418800017408) (hh : h < 1099511627777) : Vw.fl (Vw.pr s h) ≤ h := by
  obtain ⟨uB, lB⟩ := Fl.U_n h (by omega)
  have := Vw.fl_mono _ _ (Vw.pr_ok s h hs hh).2
  have e : Vw.fl (Fl.ofN h) = h := by unfold Vw.fl; rw [uB, Nat.mul_div_cancel _ Fl.P_pos]
  omega

set_option maxRecDepth 100000 in
theorem Part_any (b : Int) (x : Nat) (w : World) (hx : x < 18446744073709551616) : Calls Try.prog 25 #[.int .i64 b, .float .f64 x] w fun e w' => e = .returned (.int .i64 (Vw.part x (Vw.hg b).toNat : Nat)) ∧ w' = w := by
  have HH := hidIt (takeHeight_any b)
  obtain ⟨g1, g2⟩ := Vw.hg_le b
  have HS := hidIt (takeShare_any x)
  obtain ⟨h, hh⟩ : ∃ h : Nat, Vw.hg b = (h : Int) := ⟨(Vw.hg b).toNat, by omega⟩
  rw [hh] at HH
  rw [hh, Int.toNat_natCast]
  have hl : h < 1099511627777 := by omega
  have ht := Vw.tk_le x hx
  have hp := (Vw.pr_ok _ h ht hl).1
  have hi := Vw.part_in _ h ht hl
  obtain ⟨uB, lB⟩ := Fl.U_n h (by omega)
  have hpi := (Vw.pr_ok _ h ht hl).2
  have hs3 := toInt_P (Vw.pr (Vw.tk x) h) (by omega) (by omega)
  rw [Fl.mul_comm' _ _ (by omega) lB] at hp
  have HQ : Hid (Vw.part x h = max (Vw.fl (Vw.pr (Vw.tk x) h)) 1) := rfl
  rw [← Fl.foi] at hp
  have o1 : ∀ ty w, (binOp .mul ty (.float .f64 (floatOfInt .f64 (h : Int))) (.float .f64 (Vw.tk x))).run Try.prog w = .ok (.float .f64 (Vw.pr (Vw.tk x) h)) w := fun ty w => run_float_arith w .mul ty .f64 _ _ _ hp
  clear hpi uB lB
  generalize Vw.part x h = R at *
  generalize Vw.pr (Vw.tk x) h = r at *
  generalize Vw.fl r = f at *
  generalize Vw.tk x = s at *
  have o3 : ∀ w, (convert 26 3 (.float .f64 r)).run Try.prog w = .ok (.int .i64 f) w := fun w => run_convert_float_int w 26 3 .f64 .i64 r f (by kernel_rfl) Try.underlying3 hs3
  clear hp hs3 hh
  go_enter Try.func25, Try.ntmps25
  go_wp2_with (first | (go_at_call 29; refine (HH.out _).mono ?_; rintro e w1 ⟨rfl, rfl⟩) | (go_at_call 35; refine (HS.out _).mono ?_; rintro e w1 ⟨rfl, rfl⟩))
  all_goals
    go_ret
    refine ⟨ret_int ?_, rfl⟩
    rw [HQ.out]
    omega
end Go.Proofs.Ytcmglbgnpiociab
