/- Guess of the code: guessNarrow, guessWide. -/
import Derived.Test.YtbfbaknfeleddaaGuess2
import Derived.Test.YtbfbaknfeleddaaMarks
namespace Go.Proofs.Ytbfbaknfeleddaa
open Go.RowKit

def Fl.ge (x y : Nat) : Bool := (Ieee.double.order x y == some .gt || Ieee.double.order x y == some .eq)
def Fl.le (x y : Nat) : Bool := (Ieee.double.order x y == some .lt || Ieee.double.order x y == some .eq)
theorem Fl.ge_eq (x y : Nat) : (FloatKind.f64.format.order x y == some .gt || FloatKind.f64.format.order x y == some .eq) = Fl.ge x y := rfl
theorem Fl.le_eq (x y : Nat) : (FloatKind.f64.format.order x y == some .lt || FloatKind.f64.format.order x y == some .eq) = Fl.le x y := rfl
theorem Fl.foi (n : Nat) : floatOfInt .f64 (n : Int) = Fl.ofN n := by
  unfold floatOfInt FloatKind.nearest FloatKind.encode Fl.ofN Ieee.Format.write
  simp only [Int.natAbs_natCast, show decide ((n : Int) < 0) = false from decide_eq_false (by omega)]
  rfl

/-- The share of counts. -/
def Fl.shr (n u : Nat) : Nat := (Ieee.double.div (Fl.ofN n) (Fl.ofN u)).getD 0
theorem Fl.shr_eq (n u : Nat) (h0 : 0 < u) (h1 : u < 9007199254740992) : floatBits .quo .f64 (floatOfInt .f64 (n : Int)) (floatOfInt .f64 (u : Int)) = some (Fl.shr n u) := by
  obtain ⟨q, hq, _⟩ := Fl.div_ok n u h0 h1
  rw [Fl.foi, Fl.foi]
  unfold Fl.shr
  rw [hq]
  exact hq
theorem Fl.shr_ok (n u : Nat) (h0 : 0 < u) (h1 : u < 9007199254740992) : Fl.Ok (Ieee.double.read (Fl.shr n u)) := by
  obtain ⟨q, hq, hk⟩ := Fl.div_ok n u h0 h1
  unfold Fl.shr
  rw [hq]
  exact hk
/-- One less a share. -/
def Fl.less (q : Nat) : Nat := (Ieee.double.sub 4607182418800017408 q).getD 0
theorem Fl.one_num : ∃ s m p, Ieee.double.read 4607182418800017408 = .number s m p := ⟨false, 4503599627370496, -52, by decide⟩
theorem Fl.less_eq (q : Nat) (h : Fl.Ok (Ieee.double.read q)) : floatBits .sub .f64 4607182418800017408 q = some (Fl.less q) := by
  obtain ⟨r, hr, _⟩ := Fl.sub_ok _ q Fl.one_num h
  unfold Fl.less
  rw [hr]
  exact hr
theorem Fl.less_ok (q : Nat) (h : Fl.Ok (Ieee.double.read q)) : Fl.Ok (Ieee.double.read (Fl.less q)) := by
  obtain ⟨r, hr, hk⟩ := Fl.sub_ok _ q Fl.one_num h
  unfold Fl.less
  rw [hr]
  exact hk

def Cx.nar (zs : List Int) : Int × Nat :=
  if Cx.rw8 zs = 0 then (1, 4607182418800017408) else if Fl.ge (Fl.shr (Cx.hi8 zs - Cx.rw8 zs) (Cx.hi8 zs)) 4604930618986332160 = true then (1, Fl.shr (Cx.hi8 zs - Cx.rw8 zs) (Cx.hi8 zs)) else (4, Fl.less (Fl.shr (Cx.hi8 zs - Cx.rw8 zs) (Cx.hi8 zs)))
def Cx.wid (zs : List Int) (u : Nat) : Int × Nat :=
  if u = 0 then (0, 0) else if (Fl.ge (Fl.shr (Cx.zc zs 1 u) u) 4602678819172646912 && Fl.le (Fl.shr (Cx.zc zs 0 u) u) 4593671619917905920) = true then (2, Fl.shr (Cx.zc zs 1 u) u)
  else if (Fl.ge (Fl.shr (Cx.zc zs 0 u) u) 4602678819172646912 && Fl.le (Fl.shr (Cx.zc zs 1 u) u) 4593671619917905920) = true then (3, Fl.shr (Cx.zc zs 0 u) u) else (0, 0)

set_option maxRecDepth 100000 in
theorem guessNarrow_any (v : Value) (zs : List Int) (w : World) (h : Rd .u8 w v zs) (hb : Byt zs) (hz : zs.length ≤ 140737488355328) :
    Calls Try.prog 78 #[v] w fun e w' => e = .returned (.tuple #[.int .i64 (Cx.nar zs).1, .float .f64 (Cx.nar zs).2]) ∧ Below w.heap.size w w' := by
  have HR : Hid (Rd .u8 w v zs) := h
  have HB : Hid (Byt zs) := hb
  have hle := Cx.hi8_le zs
  have hrl := Cx.rw_le zs.length zs (Nat.le_refl _) hb
  have HN : Hid (Cx.nar zs = if Cx.rw8 zs = 0 then (1, 4607182418800017408) else if Fl.ge (Fl.shr (Cx.hi8 zs - Cx.rw8 zs) (Cx.hi8 zs)) 4604930618986332160 = true then (1, Fl.shr (Cx.hi8 zs - Cx.rw8 zs) (Cx.hi8 zs)) else (4, Fl.less (Fl.shr (Cx.hi8 zs - Cx.rw8 zs) (Cx.hi8 zs)))) := rfl
  clear h hb
  generalize hNR : Cx.nar zs = NR at *
  clear hNR
  go_enter Try.func78, Try.ntmps78
  go_wp2_with fail
  refine (countHR_any _ zs _ HR.out HB.out).mono ?_
  rintro e w1 ⟨rfl, hb1⟩
  have HW1 : Hid (Below w.heap.size w w1) := hb1
  clear hb1
  generalize Cx.hi8 zs = H at *
  generalize Cx.rw8 zs = R at *
  by_cases hR : R = 0
  · subst hR
    have HE : Hid (NR = (1, 4607182418800017408)) := HN.out
    clear HN
    go_wp2
    go_ret2
    exact ⟨by rw [HE.out]; rfl, HW1.out⟩
  · have hRb : ((R : Int) == 0) = false := by rw [beq_eq_false_iff_ne]; omega
    have hsub : (H : Int) - (R : Int) = ((H - R : Nat) : Int) := by omega
    have hq := Fl.shr_eq (H - R) H (by omega) (by omega)
    have hok := Fl.shr_ok (H - R) H (by omega) (by omega)
    have hl := Fl.less_eq _ hok
    have HN' : Hid (NR = if Fl.ge (Fl.shr (H - R) H) 4604930618986332160 = true then (1, Fl.shr (H - R) H) else (4, Fl.less (Fl.shr (H - R) H))) := by unfold Hid; rw [HN.out, if_neg hR]
    clear HN hok
    rw [← hsub] at hq
    generalize Fl.shr (H - R) H = q at *
    have hop : ∀ t w, (binOp .quo t (.float .f64 (floatOfInt .f64 ((H : Int) - (R : Int)))) (.float .f64 (floatOfInt .f64 (H : Int)))).run Try.prog w = .ok (.float .f64 q) w := fun t w => run_float_arith w .quo t .f64 _ _ q hq
    have hos : ∀ t w, (binOp .sub t (.float .f64 4607182418800017408) (.float .f64 q)).run Try.prog w = .ok (.float .f64 (Fl.less q)) w := fun t w => run_float_arith w .sub t .f64 _ _ _ hl
    have hge := Fl.ge_eq
    clear hq hl hsub
    cases hg : Fl.ge q 4604930618986332160
    · have HE : Hid (NR = (4, Fl.less q)) := by unfold Hid; rw [HN'.out, hg]; rfl
      clear HN'
      go_wp2
      go_ret2
      exact ⟨by rw [HE.out]; rfl, HW1.out⟩
    · have HE : Hid (NR = (1, q)) := by unfold Hid; rw [HN'.out, hg]; rfl
      clear HN'
      go_wp2
      go_ret2
      exact ⟨by rw [HE.out]; rfl, HW1.out⟩

set_option maxRecDepth 100000 in
theorem guessWide_any (v : Value) (zs : List Int) (w : World) (h : Rd .u8 w v zs) (hz : zs.length ≤ 140737488355328) :
    Calls Try.prog 77 #[v] w fun e w' => e = .returned (.tuple #[.int .i64 (Cx.wid zs (zs.length / 2)).1, .float .f64 (Cx.wid zs (zs.length / 2)).2]) ∧ Below w.heap.size w w' := by
  have HR : Hid (Rd .u8 w v zs) := h
  obtain ⟨ao, cap, rfl, _⟩ := h
  have hdv : Int.tdiv (zs.length : Int) 2 = ((zs.length / 2 : Nat) : Int) := by rw [Int.tdiv_eq_ediv_of_nonneg (by omega)]; omega
  have hdv' : (zs.length : Int) / 2 = ((zs.length / 2 : Nat) : Int) := by omega
  have hu2 : 2 * (zs.length / 2) ≤ zs.length := by omega
  generalize zs.length / 2 = u at *
  by_cases hu : u = 0
  · subst hu
    have HE : Hid (Cx.wid zs 0 = (0, 0)) := rfl
    generalize Cx.wid zs 0 = NR at *
    go_enter Try.func77, Try.ntmps77
    go_wp2
    go_ret2
    exact ⟨by rw [HE.out]; rfl, Below.refl _ _⟩
  · have hub : ((u : Int) == 0) = false := by rw [beq_eq_false_iff_ne]; omega
    have HN : Hid (Cx.wid zs u = if (Fl.ge (Fl.shr (Cx.zc zs 1 u) u) 4602678819172646912 && Fl.le (Fl.shr (Cx.zc zs 0 u) u) 4593671619917905920) = true then (2, Fl.shr (Cx.zc zs 1 u) u)
        else if (Fl.ge (Fl.shr (Cx.zc zs 0 u) u) 4602678819172646912 && Fl.le (Fl.shr (Cx.zc zs 1 u) u) 4593671619917905920) = true then (3, Fl.shr (Cx.zc zs 0 u) u) else (0, 0)) := by
      unfold Hid Cx.wid; rw [if_neg hu]
    have HQ0 : Hid (floatBits .quo .f64 (floatOfInt .f64 (Cx.zc zs 0 u : Nat)) (floatOfInt .f64 (u : Nat)) = some (Fl.shr (Cx.zc zs 0 u) u)) := Fl.shr_eq _ _ (by omega) (by omega)
    have HQ1 : Hid (floatBits .quo .f64 (floatOfInt .f64 (Cx.zc zs 1 u : Nat)) (floatOfInt .f64 (u : Nat)) = some (Fl.shr (Cx.zc zs 1 u) u)) := Fl.shr_eq _ _ (by omega) (by omega)
    generalize Cx.wid zs u = NR at *
    generalize Fl.shr (Cx.zc zs 0 u) u = q0 at *
    generalize Fl.shr (Cx.zc zs 1 u) u = q1 at *
    have hge := Fl.ge_eq
    have hlq := Fl.le_eq
    go_enter Try.func77, Try.ntmps77
    go_wp2_with fail
    refine (zeroShare_any _ zs 0 u q0 _ HR.out (by omega) hu2 (by omega) HQ0.out).mono ?_
    rintro e w1 ⟨rfl, hb1⟩
    have HW1 : Hid (Below w.heap.size w w1) := hb1
    clear hb1
    go_wp2_with fail
    refine (zeroShare_any _ zs 1 u q1 _ (HR.out.ext HW1.out) (by omega) hu2 (by omega) HQ1.out).mono ?_
    rintro e w2 ⟨rfl, hb2⟩
    have HW2 : Hid (Below w.heap.size w w2) := ext_trans HW1.out hb2
    clear hb2 HQ0 HQ1
    cases g1 : Fl.ge q1 4602678819172646912 <;> cases g2 : Fl.le q0 4593671619917905920 <;> cases g3 : Fl.ge q0 4602678819172646912 <;> cases g4 : Fl.le q1 4593671619917905920
    all_goals
      have HE := HN.out
      rw [g1, g2, g3, g4] at HE
      simp only [Bool.and_self, Bool.and_true, Bool.and_false, Bool.false_eq_true, if_true, if_false] at HE
      have HE' : Hid (NR = _) := HE
      clear HE HN
      go_wp2
      go_ret2
      exact ⟨by rw [HE'.out]; rfl, HW2.out⟩
end Go.Proofs.Ytbfbaknfeleddaa
