/- ViewSeen, ViewPercents, ViewScrolled. -/
import Derived.Test.YtcmglbgnpiociaaVAble
namespace Go.Proofs.Ytcmglbgnpiociaa
open Go.RowKit

/-- The greater and the lesser, out of the walks' sight. -/
def Vw.mx (a b : Int) : Int := max a b
def Vw.mn (a b : Int) : Int := min a b
theorem Vw.mx_go (a b : Int) [inst : Decidable (a < b)] : (if a < b then b else a) = Vw.mx a b := by unfold Vw.mx; split <;> omega
theorem Vw.mn_go (a b : Int) [inst : Decidable (b < a)] : (if b < a then b else a) = Vw.mn a b := by unfold Vw.mn; split <;> omega
attribute [local go_sem] Vw.mx_go Vw.mn_go

theorem Vw.hg_eq (b : Int) : Vw.mx 1 (Vw.mn b 200) = Vw.hg b := by unfold Vw.mx Vw.mn Vw.hg Vw.wi; omega
theorem Vw.ls_eq (b : Int) : Vw.mx 1 (Vw.mn b 1099511627776) = Vw.ls b := by unfold Vw.mx Vw.mn Vw.ls Vw.wi; omega
theorem Vw.no_eq (a n : Int) (h : 1 ≤ n) : Vw.mx 0 (Vw.mn a (n - 1)) = Vw.no a n := by unfold Vw.mx Vw.mn Vw.no Vw.wi; omega
theorem Vw.bt_eq (h n : Int) : Vw.mx (n - h) 0 = Vw.bt h n := rfl

theorem frame_any (b c : Int) (w : World) : Calls Try.prog 10 #[.int .i64 b, .int .i64 c] w fun e w' => e = .returned (.tuple #[.int .i64 (Vw.hg b), .int .i64 (Vw.ls c)]) ∧ w' = w := by
  have h1 := Vw.hg_eq b
  have h2 := Vw.ls_eq c
  go_enter Try.func10, Try.ntmps10
  go_wp2
  go_ret2
  exact ⟨rfl, rfl⟩

set_option maxRecDepth 100000 in
set_option maxHeartbeats 1000000 in
theorem seen_any (a b c d : Int) (w : World) : Calls Try.prog 3 #[.int .i64 a, .int .i64 b, .int .i64 c, .int .i64 d] w fun e w' => e = .returned (.bool true) ∧ Below w.heap.size w w' := by
  have AB := hidIt (able_any w)
  have FR := hidIt (frame_any b c)
  have FO := hidIt (Follow_any a b c d)
  obtain ⟨n1, n2⟩ := Vw.ls_le c
  obtain ⟨g1, g2⟩ := Vw.hg_le b
  obtain ⟨t1, t2⟩ := Vw.no_le a _ n1
  obtain ⟨l1, l2⟩ := Vw.no_le d _ n1
  have et := Vw.no_eq a _ n1
  have el := Vw.no_eq d _ n1
  generalize Vw.ls c = n at *
  generalize Vw.hg b = h at *
  generalize Vw.no d n = l at *
  generalize Vw.no a n = t at *
  have wn : IntKind.i64.wrap (n - 1) = n - 1 := by rw [IntKind.wrap_i64]; omega
  have HQ : Hid (Vw.follow t h l = if l < t then l else if t + h ≤ l then l - h + 1 else t) := rfl
  obtain ⟨g, hg⟩ : ∃ g, g = Vw.follow t h l := ⟨_, rfl⟩
  rw [← hg] at FO
  rw [HQ.out] at hg
  have wg : IntKind.i64.wrap (l - g) = l - g := by rw [IntKind.wrap_i64]; split at hg <;> (try split at hg) <;> omega
  have wt : IntKind.i64.wrap (l - t) = l - t := by rw [IntKind.wrap_i64]; omega
  have wh : IntKind.i64.wrap (h - 1) = h - 1 := by rw [IntKind.wrap_i64]; omega
  clear HQ
  have b0 : ¬ g < 0 := by split at hg <;> (try split at hg) <;> omega
  have b1 : ¬ n ≤ g := by split at hg <;> (try split at hg) <;> omega
  have b2 : ¬ l < g := by split at hg <;> (try split at hg) <;> omega
  have b3 : ¬ h ≤ l - g := by split at hg <;> (try split at hg) <;> omega
  by_cases h1 : l < t
  · rw [if_pos h1] at hg
    subst hg
    have c1 : ¬ t ≤ g := by omega
    have c2 : (g == g) = true := by simp
    go_enter Try.func3, Try.ntmps3
    go_wp2_with (first | (go_at_call 9; refine AB.out.mono ?_; rintro e w1 ⟨rfl, hb1⟩) | (go_at_call 10; refine (FR.out _).mono ?_; rintro e w2 ⟨rfl, rfl⟩) | (go_at_call 11; refine (FO.out _).mono ?_; rintro e w2 ⟨rfl, rfl⟩))
    go_ret
    exact ⟨rfl, hb1⟩
  · rw [if_neg h1] at hg
    have c1 : t ≤ l := by omega
    by_cases h2 : t + h ≤ l
    · rw [if_pos h2] at hg
      have c3 : ¬ l - t < h := by omega
      have c4 : l - g = h - 1 := by omega
      clear hg
      go_enter Try.func3, Try.ntmps3
      go_wp2_with (first | (go_at_call 9; refine AB.out.mono ?_; rintro e w1 ⟨rfl, hb1⟩) | (go_at_call 10; refine (FR.out _).mono ?_; rintro e w2 ⟨rfl, rfl⟩) | (go_at_call 11; refine (FO.out _).mono ?_; rintro e w2 ⟨rfl, rfl⟩))
      go_ret
      refine ⟨ret_bool ?_, hb1⟩
      simp
    · rw [if_neg h2] at hg
      subst hg
      have c3 : l - g < h := by omega
      go_enter Try.func3, Try.ntmps3
      go_wp2_with (first | (go_at_call 9; refine AB.out.mono ?_; rintro e w1 ⟨rfl, hb1⟩) | (go_at_call 10; refine (FR.out _).mono ?_; rintro e w2 ⟨rfl, rfl⟩) | (go_at_call 11; refine (FO.out _).mono ?_; rintro e w2 ⟨rfl, rfl⟩))
      go_ret
      refine ⟨ret_bool ?_, hb1⟩
      simp
end Go.Proofs.Ytcmglbgnpiociaa
