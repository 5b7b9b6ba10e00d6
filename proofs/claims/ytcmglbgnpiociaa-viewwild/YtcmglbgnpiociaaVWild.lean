/- ViewWild: the walk. -/
import Derived.Test.YtcmglbgnpiociaaVWildP
import Derived.Test.YtcmglbgnpiociaaVSeen
namespace Go.Proofs.Ytcmglbgnpiociaa
open Go.RowKit Ieee
attribute [local go_sem] Vw.mx_go Vw.mn_go

set_option maxRecDepth 100000 in
set_option maxHeartbeats 8000000 in
theorem wild_any (x y : Nat) (b c : Int) (w : World) (hx : x < 18446744073709551616) (hy : y < 18446744073709551616) : Calls Try.prog 8 #[.float .f64 x, .float .f64 y, .int .i64 b, .int .i64 c] w fun e w' => e = .returned (.bool true) ∧ Below w.heap.size w w' := by
  have AB := hidIt (able_any w)
  have FR := hidIt (frame_any b c)
  have D1 := hidIt (Drag_any x b c · hx)
  have D2 := hidIt (Drag_any y b c · hy)
  have P1 := hidIt (Part_any b x · hx)
  have P2 := hidIt (Part_any b y · hy)
  have P3 := hidIt (Part_any b 4602678819172646912 · (by decide))
  obtain ⟨n1, n2⟩ := Vw.ls_le c
  obtain ⟨g1, g2⟩ := Vw.hg_le b
  have eq := Vw.bt_eq (Vw.hg b) (Vw.ls c)
  obtain ⟨B, hB, hB'⟩ := Vw.bt_nat (Vw.hg b) (Vw.ls c) g1 n2
  obtain ⟨h, hh⟩ : ∃ h : Nat, Vw.hg b = (h : Int) := ⟨(Vw.hg b).toNat, by omega⟩
  rw [hB, Int.toNat_natCast] at D1 D2
  rw [hh, Int.toNat_natCast] at P1 P2 P3
  rw [hB, hh] at eq
  rw [hh] at FR g1 g2
  generalize Vw.ls c = n at *
  have hl : h < 1099511627777 := by omega
  have wn : IntKind.i64.wrap (n - (h : Int)) = n - (h : Int) := by rw [IntKind.wrap_i64]; omega
  have d1 := Vw.drag_le x B hx hB'
  have HA : Hid (Fl.geB x 4607182418800017408 = true → Vw.drag x B = B ∧ Vw.part x h = h) := fun k => ⟨Vw.drag_one x B hB' (Vw.tk_ge x hx k), Vw.part_one x h hl (by omega) (Vw.tk_ge x hx k)⟩
  have HBB : Hid (Fl.leB x 0 = true → Vw.drag x B = 0 ∧ Vw.part x h = 1) := fun k => ⟨Vw.drag_zero x B hB' (Vw.tk_le0 x k), Vw.part_zero x h hl (Vw.tk_le0 x k)⟩
  have HC : Hid (Fl.eqB x x = false → Vw.drag x B = 0 ∧ Vw.part x h = 1) := fun k => ⟨Vw.drag_zero x B hB' (Vw.tk_nan x k), Vw.part_zero x h hl (Vw.tk_nan x k)⟩
  have HD : Hid (Fl.leB x y = true → Vw.drag x B ≤ Vw.drag y B ∧ Vw.part x h ≤ Vw.part y h) := fun k => ⟨Vw.drag_mono x y B hy hB' (Vw.tk_mono x y hx hy k), Vw.part_mono x y h hy hl (Vw.tk_mono x y hx hy k)⟩
  have p1 : 1 ≤ Vw.part x h ∧ Vw.part x h ≤ h := by
    have := Vw.part_in (Vw.tk x) h (Vw.tk_le x hx) hl
    unfold Vw.part
    omega
  have P3' := Vw.part_half h hl
  have wq : IntKind.i64.wrap ((h : Int).tdiv 2) = (h : Int).tdiv 2 := by rw [IntKind.wrap_i64, Int.tdiv_eq_ediv_of_nonneg (by omega)]; omega
  have HQ : Hid (((Vw.part 4602678819172646912 h : Nat) : Int) = Vw.mx ((h : Int) / 2) 1) := by unfold Hid Vw.mx; rw [P3']; omega
  clear P3'
  generalize Vw.part 4602678819172646912 h = ph at *
  generalize Vw.drag x B = dx at *
  generalize Vw.drag y B = dy at *
  generalize Vw.part x h = px at *
  generalize Vw.part y h = py at *
  obtain ⟨p1, p2⟩ := p1
  have c1 : ¬ (dx : Int) < 0 := by omega
  have c2 : ¬ (B : Int) < (dx : Int) := by omega
  have c3 : ¬ (px : Int) < 1 := by omega
  have c4 : ¬ (h : Int) < (px : Int) := by omega
  obtain ⟨bA, hA⟩ : ∃ b, Fl.geB x 4607182418800017408 = b := ⟨_, rfl⟩
  obtain ⟨bB, hBB⟩ : ∃ b, Fl.leB x 0 = b := ⟨_, rfl⟩
  obtain ⟨bC, hC⟩ : ∃ b, Fl.eqB x x = b := ⟨_, rfl⟩
  obtain ⟨bD, hD⟩ : ∃ b, Fl.leB x y = b := ⟨_, rfl⟩
  have eA : bA = true → ((dx : Int) != (B : Int)) = false ∧ ((px : Int) != (h : Int)) = false := fun k => by
    obtain ⟨q1, q2⟩ := HA.out (hA.trans k)
    rw [q1, q2]; simp
  have eB : bB = true → ((dx : Int) != 0) = false ∧ ((px : Int) != 1) = false := fun k => by
    obtain ⟨q1, q2⟩ := HBB.out (hBB.trans k)
    rw [q1, q2]; simp
  have eC : bC = false → ((dx : Int) != 0) = false ∧ ((px : Int) != 1) = false := fun k => by
    obtain ⟨q1, q2⟩ := HC.out (hC.trans k)
    rw [q1, q2]; simp
  have eD : bD = true → ¬ (dy : Int) < (dx : Int) ∧ ¬ (py : Int) < (px : Int) := fun k => by
    obtain ⟨q1, q2⟩ := HD.out (hD.trans k)
    constructor <;> omega
  have g1 : (FloatKind.f64.format.order x 4607182418800017408 == some .gt || FloatKind.f64.format.order x 4607182418800017408 == some .eq) = bA := hA
  have g2 : (FloatKind.f64.format.order x 0 == some .lt || FloatKind.f64.format.order x 0 == some .eq) = bB := hBB
  have g3 : (FloatKind.f64.format.order x x != some .eq) = !bC := by rw [← hC]; rfl
  have g4 : (FloatKind.f64.format.order x y == some .lt || FloatKind.f64.format.order x y == some .eq) = bD := hD
  clear HA HBB HC HD hA hBB hC hD hB hh
  cases bD
  · clear D2 P2 eD
    cases bA <;> cases bB <;> cases bC <;> (first | (obtain ⟨eA1, eA2⟩ := eA rfl) | clear eA) <;> (first | (obtain ⟨eB1, eB2⟩ := eB rfl) | clear eB) <;> (first | (obtain ⟨eC1, eC2⟩ := eC rfl) | clear eC) <;> (simp only [Bool.not_true, Bool.not_false] at g3)
    all_goals
      go_enter Try.func8, Try.ntmps8
      go_wp2_with (first | (go_at_call 9; refine AB.out.mono ?_; rintro e w1 ⟨rfl, hb1⟩) | (go_at_call 10; refine (FR.out _).mono ?_; rintro e w2 ⟨rfl, rfl⟩) | (go_at_call 18; refine (D1.out _).mono ?_; clear D1; rintro e w2 ⟨rfl, rfl⟩) | (go_at_call 20; refine (P1.out _).mono ?_; clear P1; rintro e w2 ⟨rfl, rfl⟩) | (go_at_call 20; refine (P3.out _).mono ?_; clear P3; rintro e w2 ⟨rfl, rfl⟩))
      go_ret
      exact ⟨ret_bool (beq_iff_eq.2 HQ.out), hb1⟩
  · obtain ⟨eD1, eD2⟩ := eD rfl
    cases bA <;> cases bB <;> cases bC <;> (first | (obtain ⟨eA1, eA2⟩ := eA rfl) | clear eA) <;> (first | (obtain ⟨eB1, eB2⟩ := eB rfl) | clear eB) <;> (first | (obtain ⟨eC1, eC2⟩ := eC rfl) | clear eC) <;> (simp only [Bool.not_true, Bool.not_false] at g3)
    all_goals
      go_enter Try.func8, Try.ntmps8
      go_wp2_with (first | (go_at_call 9; refine AB.out.mono ?_; rintro e w1 ⟨rfl, hb1⟩) | (go_at_call 10; refine (FR.out _).mono ?_; rintro e w2 ⟨rfl, rfl⟩) | (go_at_call 18; refine (D1.out _).mono ?_; clear D1; rintro e w2 ⟨rfl, rfl⟩) | (go_at_call 20; refine (P1.out _).mono ?_; clear P1; rintro e w2 ⟨rfl, rfl⟩) | (go_at_call 18; refine (D2.out _).mono ?_; clear D2; rintro e w2 ⟨rfl, rfl⟩) | (go_at_call 20; refine (P2.out _).mono ?_; clear P2; rintro e w2 ⟨rfl, rfl⟩) | (go_at_call 20; refine (P3.out _).mono ?_; clear P3; rintro e w2 ⟨rfl, rfl⟩))
      go_ret
      exact ⟨ret_bool (beq_iff_eq.2 HQ.out), hb1⟩
end Go.Proofs.Ytcmglbgnpiociaa
