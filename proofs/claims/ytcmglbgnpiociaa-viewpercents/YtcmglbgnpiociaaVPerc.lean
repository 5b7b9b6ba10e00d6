/- ViewPercents, ViewScrolled. -/
import Derived.Test.YtcmglbgnpiociaaVSeen
namespace Go.Proofs.Ytcmglbgnpiociaa
open Go.RowKit
attribute [local go_sem] Vw.mx_go Vw.mn_go

set_option maxRecDepth 100000 in
set_option maxHeartbeats 1000000 in
theorem percents_any (a b : Int) (w : World) : Calls Try.prog 4 #[.int .i64 a, .int .i64 b] w fun e w' => e = .returned (.bool true) ∧ Below w.heap.size w w' := by
  have AB := hidIt (able_any w)
  have FR := hidIt (frame_any 1 b)
  have PC := hidIt (Percent_any a b)
  obtain ⟨n1, n2⟩ := Vw.ls_le b
  obtain ⟨l1, l2⟩ := Vw.no_le a _ n1
  have el := Vw.no_eq a _ n1
  generalize Vw.ls b = n at *
  generalize Vw.no a n = l at *
  have wn : IntKind.i64.wrap (n - 1) = n - 1 := by rw [IntKind.wrap_i64]; omega
  have wl : IntKind.i64.wrap (l + 1) = l + 1 := by rw [IntKind.wrap_i64]; omega
  have w1 : IntKind.i64.wrap (100 * (l + 1)) = 100 * (l + 1) := by rw [IntKind.wrap_i64]; omega
  obtain ⟨p, hp⟩ : ∃ p, p = Vw.percent l n := ⟨_, rfl⟩
  rw [← hp] at PC
  have hp' : p = (100 * (l + 1)) / n := by rw [hp]; exact Int.tdiv_eq_ediv_of_nonneg (by omega)
  have p0 : 0 ≤ p := by rw [hp']; exact Int.ediv_nonneg (by omega) (by omega)
  have pn : p * n ≤ 100 * (l + 1) := by rw [hp']; exact Int.ediv_mul_le _ (by omega)
  have pm : 100 * (l + 1) < (p + 1) * n := by rw [hp']; exact Int.lt_ediv_add_one_mul_self _ (by omega)
  have p1 : p ≤ 100 := by
    rw [hp']
    have : (100 * (l + 1)) / n ≤ (100 * n) / n := Int.ediv_le_ediv (by omega) (by omega)
    rw [Int.mul_ediv_cancel _ (by omega)] at this
    exact this
  have pe : (p == 100) = (l == n - 1) := by
    rw [Bool.eq_iff_iff, beq_iff_eq, beq_iff_eq]
    constructor
    · intro h; rw [h] at pn; omega
    · intro h
      rw [hp', h, show n - 1 + 1 = n by omega, Int.mul_ediv_cancel _ (by omega)]
  have hx0 : 0 ≤ p * n := Int.mul_nonneg p0 (by omega)
  have e1 : (p + 1) * n = p * n + n := by rw [Int.add_mul, Int.one_mul]
  have wx : IntKind.i64.wrap (p * n) = p * n := by rw [IntKind.wrap_i64]; omega
  have wp : IntKind.i64.wrap (p + 1) = p + 1 := by rw [IntKind.wrap_i64]; omega
  have wy : IntKind.i64.wrap ((p + 1) * n) = (p + 1) * n := by rw [IntKind.wrap_i64]; omega
  clear hp hp' e1 hx0
  go_enter Try.func4, Try.ntmps4
  go_wp2_with (first | (go_at_call 9; refine AB.out.mono ?_; rintro e w1 ⟨rfl, hb1⟩) | (go_at_call 10; refine (FR.out _).mono ?_; rintro e w2 ⟨rfl, rfl⟩) | (go_at_call 12; refine (PC.out _).mono ?_; rintro e w2 ⟨rfl, rfl⟩))
  go_ret
  refine ⟨ret_bool ?_, hb1⟩
  simp

set_option maxRecDepth 100000 in
set_option maxHeartbeats 1000000 in
theorem scrolled_any (a b c d : Int) (w : World) (hb0 : -9223372036854775808 ≤ b) (hb9 : b ≤ 9223372036854775807) : Calls Try.prog 7 #[.int .i64 a, .int .i64 b, .int .i64 c, .int .i64 d] w fun e w' => e = .returned (.bool true) ∧ Below w.heap.size w w' := by
  have AB := hidIt (able_any w)
  have FR := hidIt (frame_any c d)
  have SC := hidIt (Scroll_any a b c d hb0)
  have SD := hidIt (fun g (h : -9223372036854775808 ≤ -b) => Scroll_any g (-b) c d h)
  obtain ⟨n1, n2⟩ := Vw.ls_le d
  obtain ⟨g1, g2⟩ := Vw.hg_le c
  obtain ⟨t1, t2⟩ := Vw.no_le a _ n1
  have et := Vw.no_eq a _ n1
  have eq := Vw.bt_eq (Vw.hg c) (Vw.ls d)
  have HNO : Hid (∀ g, 0 ≤ g → g < Vw.ls d → Vw.no g (Vw.ls d) = g) := fun g h1 h2 => by unfold Vw.no Vw.wi; omega
  generalize Vw.ls d = n at *
  generalize Vw.hg c = h at *
  generalize Vw.no a n = t at *
  have HS : Hid (∀ t b, Vw.scroll t b h n = if b < 0 then max (t + b) 0 else t + min b (max (Vw.bt h n - t) 0)) := fun _ _ => rfl
  have hbt : 0 ≤ Vw.bt h n ∧ Vw.bt h n < n := by unfold Vw.bt; omega
  obtain ⟨b1, b2⟩ := hbt
  have wn : IntKind.i64.wrap (n - 1) = n - 1 := by rw [IntKind.wrap_i64]; omega
  have wh : IntKind.i64.wrap (n - h) = n - h := by rw [IntKind.wrap_i64]; omega
  generalize Vw.bt h n = q at *
  obtain ⟨g, hg⟩ : ∃ g, g = Vw.scroll t b h n := ⟨_, rfl⟩
  rw [← hg] at SC
  rw [HS.out] at hg
  by_cases hb : b < 0
  · rw [if_pos hb] at hg
    have c0 : 0 ≤ g := by omega
    have c1 : ¬ 0 ≤ b := by omega
    by_cases ht : t = 0
    · have c2 : g = 0 := by omega
      subst c2
      subst ht
      clear hg
      go_enter Try.func7, Try.ntmps7
      go_wp2_with (first | (go_at_call 9; refine AB.out.mono ?_; rintro e w1 ⟨rfl, hb1⟩) | (go_at_call 10; refine (FR.out _).mono ?_; rintro e w2 ⟨rfl, rfl⟩) | (go_at_call_of 19 (Value.int IntKind.i64 a); refine (SC.out _).mono ?_; rintro e w2 ⟨rfl, rfl⟩))
      go_ret
      exact ⟨ret_bool (by simp), hb1⟩
    · have c2 : g < t := by omega
      clear hg
      go_enter Try.func7, Try.ntmps7
      go_wp2_with (first | (go_at_call 9; refine AB.out.mono ?_; rintro e w1 ⟨rfl, hb1⟩) | (go_at_call 10; refine (FR.out _).mono ?_; rintro e w2 ⟨rfl, rfl⟩) | (go_at_call_of 19 (Value.int IntKind.i64 a); refine (SC.out _).mono ?_; rintro e w2 ⟨rfl, rfl⟩))
      go_ret
      exact ⟨ret_bool (by simp), hb1⟩
  · rw [if_neg hb] at hg
    have c1 : 0 ≤ b := by omega
    have c2 : ¬ g < t := by omega
    have c3 : ¬ Vw.mx t q < g := by unfold Vw.mx; omega
    have wg : IntKind.i64.wrap (g - t) = g - t := by rw [IntKind.wrap_i64]; omega
    have wb : IntKind.i64.wrap (-b) = -b := by rw [IntKind.wrap_i64]; omega
    have HG : Hid (g < q → b = g - t) := fun h => by omega
    have H0 : Hid (b = 0 → g = t) := fun h => by omega
    have S2 : Hid (g < q → ∀ w, Calls Try.prog 19 #[.int .i64 g, .int .i64 (-b), .int .i64 c, .int .i64 d] w fun e w' => e = .returned (.int .i64 t) ∧ w' = w) := fun hq => by
      have e := SD.out g (by omega)
      have e2 : Vw.scroll (Vw.no g n) (-b) h n = t := by rw [HNO.out g (by omega) (by omega), HS.out]; split <;> omega
      rw [e2] at e
      exact e
    have hgg : (b = 0 → g = t) := H0.out
    clear hg SD HNO HS hb
    by_cases h0 : b = 0
    · obtain rfl : g = t := H0.out h0
      subst h0
      have d0 : (g != g) = false := by simp
      have wb : IntKind.i64.wrap 0 = 0 := by decide
      clear hgg H0
      by_cases hq : g < q
      · have S3 := hidIt (S2.out hq)
        have d1 : ((0 : Int) != g - g) = false := by simp
        clear S2
        go_enter Try.func7, Try.ntmps7
        go_wp2_with (first | (go_at_call 9; refine AB.out.mono ?_; rintro e w1 ⟨rfl, hb1⟩) | (go_at_call 10; refine (FR.out _).mono ?_; rintro e w2 ⟨rfl, rfl⟩) | (go_at_call 19; refine (SC.out _).mono ?_; clear SC; rintro e w2 ⟨rfl, rfl⟩) | (go_at_call 19; refine (S3.out _).mono ?_; rintro e w2 ⟨rfl, rfl⟩))
        go_ret
        exact ⟨ret_bool (by simp), hb1⟩
      · clear S2
        go_enter Try.func7, Try.ntmps7
        go_wp2_with (first | (go_at_call 9; refine AB.out.mono ?_; rintro e w1 ⟨rfl, hb1⟩) | (go_at_call 10; refine (FR.out _).mono ?_; rintro e w2 ⟨rfl, rfl⟩) | (go_at_call 19; refine (SC.out _).mono ?_; clear SC; rintro e w2 ⟨rfl, rfl⟩))
        go_ret
        exact ⟨ret_bool (by simp), hb1⟩
    · have d0 : (b == 0) = false := by simp [h0]
      clear hgg H0
      by_cases hq : g < q
      · have S3 := hidIt (S2.out hq)
        have d1 : (b != g - t) = false := by simp [HG.out hq]
        have d2 : (t != t) = false := by simp
        clear S2
        go_enter Try.func7, Try.ntmps7
        go_wp2_with (first | (go_at_call 9; refine AB.out.mono ?_; rintro e w1 ⟨rfl, hb1⟩) | (go_at_call 10; refine (FR.out _).mono ?_; rintro e w2 ⟨rfl, rfl⟩) | (go_at_call 19; refine (SC.out _).mono ?_; clear SC; rintro e w2 ⟨rfl, rfl⟩) | (go_at_call 19; refine (S3.out _).mono ?_; rintro e w2 ⟨rfl, rfl⟩))
        go_ret
        exact ⟨ret_bool (by simp), hb1⟩
      · clear S2
        go_enter Try.func7, Try.ntmps7
        go_wp2_with (first | (go_at_call 9; refine AB.out.mono ?_; rintro e w1 ⟨rfl, hb1⟩) | (go_at_call 10; refine (FR.out _).mono ?_; rintro e w2 ⟨rfl, rfl⟩) | (go_at_call 19; refine (SC.out _).mono ?_; clear SC; rintro e w2 ⟨rfl, rfl⟩))
        go_ret
        exact ⟨ret_bool (by simp), hb1⟩
end Go.Proofs.Ytcmglbgnpiociaa
