/- Numbers as they are taken; Follow, Scroll, Percent. -/
import Derived.Test.YtcmglbgnpiociabFind
import Derived.Deep.RegionHeld3
namespace Go.Proofs.Ytcmglbgnpiociab
open Go.RowKit

theorem hidIt {p : Prop} (h : p) : Hid p := h
/-- A number as it is taken. -/
def Vw.wi (n lo hi : Int) : Int := min (max n lo) hi
def Vw.hg (n : Int) : Int := Vw.wi n 1 200
def Vw.ls (n : Int) : Int := Vw.wi n 1 1099511627776
def Vw.no (a n : Int) : Int := Vw.wi a 0 (n - 1)
def Vw.bt (h n : Int) : Int := max (n - h) 0
def Vw.follow (t h l : Int) : Int := if l < t then l else if t + h ≤ l then l - h + 1 else t
def Vw.scroll (t b h n : Int) : Int := if b < 0 then max (t + b) 0 else t + min b (max (Vw.bt h n - t) 0)
def Vw.percent (l n : Int) : Int := (100 * (l + 1)).tdiv n

theorem Vw.hg_le (n : Int) : 1 ≤ Vw.hg n ∧ Vw.hg n ≤ 200 := by unfold Vw.hg Vw.wi; omega
theorem Vw.ls_le (n : Int) : 1 ≤ Vw.ls n ∧ Vw.ls n ≤ 1099511627776 := by unfold Vw.ls Vw.wi; omega
theorem Vw.no_le (a n : Int) (h : 1 ≤ n) : 0 ≤ Vw.no a n ∧ Vw.no a n < n := by unfold Vw.no Vw.wi; omega

theorem within_any (n lo hi : Int) (w : World) : Calls Try.prog 41 #[.int .i64 n, .int .i64 lo, .int .i64 hi] w fun e w' => e = .returned (.int .i64 (Vw.wi n lo hi)) ∧ w' = w := by
  have HQ : Hid (Vw.wi n lo hi = min (max n lo) hi) := rfl
  go_enter Try.func41, Try.ntmps41
  go_wp2
  all_goals
    go_ret
    refine ⟨ret_int ?_, rfl⟩
    rw [HQ.out]
    split at * <;> omega

theorem takeHeight_any (n : Int) (w : World) : Calls Try.prog 29 #[.int .i64 n] w fun e w' => e = .returned (.int .i64 (Vw.hg n)) ∧ w' = w := by
  have HW := hidIt (within_any n 1 200)
  go_enter Try.func29, Try.ntmps29
  go_wp2_with (go_at_call 41; refine (HW.out _).mono ?_; rintro e w1 ⟨rfl, rfl⟩)
  go_ret
  exact ⟨ret_int rfl, rfl⟩
theorem takeLines_any (n : Int) (w : World) : Calls Try.prog 30 #[.int .i64 n] w fun e w' => e = .returned (.int .i64 (Vw.ls n)) ∧ w' = w := by
  have HW := hidIt (within_any n 1 1099511627776)
  go_enter Try.func30, Try.ntmps30
  go_wp2_with (go_at_call 41; refine (HW.out _).mono ?_; rintro e w1 ⟨rfl, rfl⟩)
  go_ret
  exact ⟨ret_int rfl, rfl⟩
theorem takeNumber_any (a n : Int) (h0 : 1 ≤ n) (h1 : n ≤ 1099511627776) (w : World) : Calls Try.prog 31 #[.int .i64 a, .int .i64 n] w fun e w' => e = .returned (.int .i64 (Vw.no a n)) ∧ w' = w := by
  have HW := hidIt (within_any a 0 (n - 1))
  have hw : IntKind.i64.wrap (n - 1) = n - 1 := by rw [IntKind.wrap_i64]; omega
  go_enter Try.func31, Try.ntmps31
  go_wp2_with (go_at_call 41; refine (HW.out _).mono ?_; rintro e w1 ⟨rfl, rfl⟩)
  go_ret
  exact ⟨ret_int rfl, rfl⟩
theorem bottom_any (h n : Int) (h0 : 1 ≤ n) (h1 : n ≤ 1099511627776) (h2 : 1 ≤ h) (h3 : h ≤ 200) (w : World) : Calls Try.prog 32 #[.int .i64 h, .int .i64 n] w fun e w' => e = .returned (.int .i64 (Vw.bt h n)) ∧ w' = w := by
  have HQ : Hid (Vw.bt h n = max (n - h) 0) := rfl
  have hw : IntKind.i64.wrap (n - h) = n - h := by rw [IntKind.wrap_i64]; omega
  go_enter Try.func32, Try.ntmps32
  go_wp2
  all_goals
    go_ret
    refine ⟨ret_int ?_, rfl⟩
    rw [HQ.out]
    omega

set_option maxRecDepth 100000 in
theorem Follow_any (a b c d : Int) (w : World) : Calls Try.prog 15 #[.int .i64 a, .int .i64 b, .int .i64 c, .int .i64 d] w fun e w' => e = .returned (.int .i64 (Vw.follow (Vw.no a (Vw.ls c)) (Vw.hg b) (Vw.no d (Vw.ls c)))) ∧ w' = w := by
  have HH := hidIt (takeHeight_any b)
  have HL := hidIt (takeLines_any c)
  obtain ⟨n1, n2⟩ := Vw.ls_le c
  obtain ⟨g1, g2⟩ := Vw.hg_le b
  have HA := hidIt (takeNumber_any a (Vw.ls c) n1 n2)
  have HD := hidIt (takeNumber_any d (Vw.ls c) n1 n2)
  obtain ⟨t1, t2⟩ := Vw.no_le a _ n1
  obtain ⟨l1, l2⟩ := Vw.no_le d _ n1
  generalize hn : Vw.ls c = n at *
  generalize hh : Vw.hg b = h at *
  generalize hl : Vw.no d n = l at *
  generalize ht : Vw.no a n = t at *
  have HQ : Hid (Vw.follow t h l = if l < t then l else if t + h ≤ l then l - h + 1 else t) := rfl
  clear hn hh hl ht
  have w1 : IntKind.i64.wrap (t + h) = t + h := by rw [IntKind.wrap_i64]; omega
  have w2 : IntKind.i64.wrap (l - h) = l - h := by rw [IntKind.wrap_i64]; omega
  have w3 : IntKind.i64.wrap (l - h + 1) = l - h + 1 := by rw [IntKind.wrap_i64]; omega
  go_enter Try.func15, Try.ntmps15
  go_wp2_with (first | (go_at_call 29; refine (HH.out _).mono ?_; rintro e w1 ⟨rfl, rfl⟩) | (go_at_call 30; refine (HL.out _).mono ?_; rintro e w1 ⟨rfl, rfl⟩) | (go_at_call_of 31 (Value.int IntKind.i64 a); refine (HA.out _).mono ?_; rintro e w1 ⟨rfl, rfl⟩) | (go_at_call_of 31 (Value.int IntKind.i64 d); refine (HD.out _).mono ?_; rintro e w1 ⟨rfl, rfl⟩))
  all_goals
    go_ret
    refine ⟨ret_int ?_, rfl⟩
    rw [HQ.out]
    split <;> (try split) <;> omega

set_option maxRecDepth 100000 in
theorem Scroll_any (a b c d : Int) (hb0 : -9223372036854775808 ≤ b) (w : World) : Calls Try.prog 19 #[.int .i64 a, .int .i64 b, .int .i64 c, .int .i64 d] w fun e w' => e = .returned (.int .i64 (Vw.scroll (Vw.no a (Vw.ls d)) b (Vw.hg c) (Vw.ls d))) ∧ w' = w := by
  have HH := hidIt (takeHeight_any c)
  have HL := hidIt (takeLines_any d)
  obtain ⟨n1, n2⟩ := Vw.ls_le d
  obtain ⟨g1, g2⟩ := Vw.hg_le c
  have HA := hidIt (takeNumber_any a (Vw.ls d) n1 n2)
  have HB := hidIt (bottom_any (Vw.hg c) (Vw.ls d) n1 n2 g1 g2)
  obtain ⟨t1, t2⟩ := Vw.no_le a _ n1
  generalize hn : Vw.ls d = n at *
  generalize hh : Vw.hg c = h at *
  generalize ht : Vw.no a n = t at *
  have HQ : Hid (Vw.scroll t b h n = if b < 0 then max (t + b) 0 else t + min b (max (Vw.bt h n - t) 0)) := rfl
  have hbt : 0 ≤ Vw.bt h n ∧ Vw.bt h n < n := by unfold Vw.bt; omega
  obtain ⟨b1, b2⟩ := hbt
  generalize Vw.bt h n = q at *
  clear hn hh ht
  by_cases hb : b < 0
  · have w1 : IntKind.i64.wrap (t + b) = t + b := by rw [IntKind.wrap_i64]; omega
    go_enter Try.func19, Try.ntmps19
    go_wp2_with (first | (go_at_call 29; refine (HH.out _).mono ?_; rintro e w1 ⟨rfl, rfl⟩) | (go_at_call 30; refine (HL.out _).mono ?_; rintro e w1 ⟨rfl, rfl⟩) | (go_at_call 31; refine (HA.out _).mono ?_; rintro e w1 ⟨rfl, rfl⟩) | (go_at_call 32; refine (HB.out _).mono ?_; rintro e w1 ⟨rfl, rfl⟩))
    all_goals
      go_ret
      refine ⟨ret_int ?_, rfl⟩
      rw [HQ.out, if_pos hb]
      omega
  · have w1 : IntKind.i64.wrap (q - t) = q - t := by rw [IntKind.wrap_i64]; omega
    have hb' : 0 ≤ b := by omega
    have w2 : ∀ z, z ≤ max (q - t) 0 → 0 ≤ z → IntKind.i64.wrap (t + z) = t + z := fun z h1 h2 => by rw [IntKind.wrap_i64]; omega
    go_enter Try.func19, Try.ntmps19
    go_wp2_with (first | (go_at_call 29; refine (HH.out _).mono ?_; rintro e w1 ⟨rfl, rfl⟩) | (go_at_call 30; refine (HL.out _).mono ?_; rintro e w1 ⟨rfl, rfl⟩) | (go_at_call 31; refine (HA.out _).mono ?_; rintro e w1 ⟨rfl, rfl⟩) | (go_at_call 32; refine (HB.out _).mono ?_; rintro e w1 ⟨rfl, rfl⟩))
    all_goals
      go_ret
      refine ⟨ret_int ?_, rfl⟩
      rw [HQ.out, if_neg (by omega)]
      first | omega | (rw [w2 _ (by omega) (by omega)]; omega)

set_option maxRecDepth 100000 in
theorem Percent_any (a b : Int) (w : World) : Calls Try.prog 17 #[.int .i64 a, .int .i64 b] w fun e w' => e = .returned (.int .i64 (Vw.percent (Vw.no a (Vw.ls b)) (Vw.ls b))) ∧ w' = w := by
  have HL := hidIt (takeLines_any b)
  obtain ⟨n1, n2⟩ := Vw.ls_le b
  have HA := hidIt (takeNumber_any a (Vw.ls b) n1 n2)
  obtain ⟨t1, t2⟩ := Vw.no_le a _ n1
  generalize hn : Vw.ls b = n at *
  generalize ht : Vw.no a n = t at *
  have HQ : Hid (Vw.percent t n = (100 * (t + 1)).tdiv n) := rfl
  clear hn ht
  have w1 : IntKind.i64.wrap (t + 1) = t + 1 := by rw [IntKind.wrap_i64]; omega
  have w2 : IntKind.i64.wrap (100 * (t + 1)) = 100 * (t + 1) := by rw [IntKind.wrap_i64]; omega
  have w3 : IntKind.i64.wrap ((100 * (t + 1)).tdiv n) = (100 * (t + 1)).tdiv n := by
    have h1 : (100 * (t + 1)).tdiv n = (100 * (t + 1)) / n := Int.tdiv_eq_ediv_of_nonneg (by omega)
    have h2 : (100 * (t + 1)) / n ≤ 100 * (t + 1) := Int.ediv_le_self _ (by omega)
    have h3 : 0 ≤ (100 * (t + 1)) / n := Int.ediv_nonneg (by omega) (by omega)
    rw [IntKind.wrap_i64, h1]; omega
  have nz : (n == 0) = false := by rw [beq_eq_false_iff_ne]; omega
  go_enter Try.func17, Try.ntmps17
  go_wp2_with (first | (go_at_call 30; refine (HL.out _).mono ?_; rintro e w1 ⟨rfl, rfl⟩) | (go_at_call 31; refine (HA.out _).mono ?_; rintro e w1 ⟨rfl, rfl⟩))
  go_ret
  refine ⟨ret_int ?_, rfl⟩
  rw [HQ.out]
end Go.Proofs.Ytcmglbgnpiociab
