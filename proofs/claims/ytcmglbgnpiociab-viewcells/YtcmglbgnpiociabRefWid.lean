/- The document's Width. -/
import Derived.Test.YtcmglbgnpiociabRefCls2
namespace Go.Proofs.Ytcmglbgnpiociab
open Go.RowKit

theorem Gx.wide_has (a : Int) : Gx.vD (Gx.find Gx.wideRows a) 1 = if Gx.has Gx.wideRows 2 a then 2 else 1 := by
  unfold Gx.has
  cases h : Gx.find Gx.wideRows a with
  | none => rfl
  | some r =>
    have := Gx.all_find (p := fun r => r.2.2 == 2) (by decide +kernel) h
    simp at this
    simp [Gx.vD, this]

set_option maxRecDepth 100000 in
set_option maxHeartbeats 1000000 in
theorem rWidth_any (a : Int) (w : World) : Calls Try.prog 40 #[.int .i64 a] w fun e w' => e = .returned (.int .i64 (Gx.wid a)) ∧ w' = w := by
  by_cases hr : -256 ≤ a ∧ a ≤ -1
  · have HQ : Hid (Gx.wid a = 4) := by unfold Hid Gx.wid; rw [if_pos hr]
    have hb : (decide (-256 ≤ a) && decide (a ≤ -1)) = true := by simp [hr.1, hr.2]
    go_enter Try.func40, Try.ntmps40
    go_wp2_with (go_at_call 46; refine (rRaw_any _ _).mono ?_; rintro e w' ⟨rfl, rfl⟩; rw [hb])
    go_ret
    exact ⟨ret_int HQ.out.symm, rfl⟩
  have hb : (decide (-256 ≤ a) && decide (a ≤ -1)) = false := by rw [Bool.and_eq_false_iff]; simp; omega
  by_cases hl : Gx.isLn a = true
  · have HQ : Hid (Gx.wid a = 6) := by unfold Hid Gx.wid; rw [if_neg hr, if_pos hl]
    go_enter Try.func40, Try.ntmps40
    go_wp2_with (first | (go_at_call 46; refine (rRaw_any _ _).mono ?_; rintro e w' ⟨rfl, rfl⟩; rw [hb]) | (go_at_call 47; refine (rLone_any _ _).mono ?_; rintro e w' ⟨rfl, rfl⟩; rw [hl]))
    go_ret
    exact ⟨ret_int HQ.out.symm, rfl⟩
  have hl' : Gx.isLn a = false := by simpa using hl
  by_cases hs : Gx.isSc a = false
  · have HQ : Hid (Gx.wid a = 0) := by unfold Hid Gx.wid; rw [if_neg hr, if_neg hl, if_pos (.inl hs)]
    go_enter Try.func40, Try.ntmps40
    go_wp2_with (first | (go_at_call 46; refine (rRaw_any _ _).mono ?_; rintro e w' ⟨rfl, rfl⟩; rw [hb]) | (go_at_call 47; refine (rLone_any _ _).mono ?_; rintro e w' ⟨rfl, rfl⟩; rw [hl']) | (go_at_call 48; refine (rScalar_any _ _).mono ?_; rintro e w' ⟨rfl, rfl⟩; rw [hs]))
    go_ret
    exact ⟨ret_int HQ.out.symm, rfl⟩
  have hs' : Gx.isSc a = true := by simpa using hs
  by_cases h9 : a = 9
  · subst h9
    have HQ : Hid (Gx.wid 9 = 0) := by unfold Hid Gx.wid; rw [if_neg hr, if_neg hl, if_pos (.inr rfl)]
    go_enter Try.func40, Try.ntmps40
    go_wp2_with (first | (go_at_call 46; refine (rRaw_any _ _).mono ?_; rintro e w' ⟨rfl, rfl⟩; rw [hb]) | (go_at_call 47; refine (rLone_any _ _).mono ?_; rintro e w' ⟨rfl, rfl⟩; rw [hl']) | (go_at_call 48; refine (rScalar_any _ _).mono ?_; rintro e w' ⟨rfl, rfl⟩; rw [hs']))
    go_ret
    exact ⟨ret_int HQ.out.symm, rfl⟩
  have b9 : (a == 9) = false := by simp [h9]
  have HC : Hid (∀ w, Calls Try.prog 49 #[.int .i64 a] w fun e w' => e = .returned (.int .i64 (Gx.cls a)) ∧ w' = w) := rClass_any a
  have HD : Hid (∀ w, Calls Try.prog 50 #[.int .i64 a] w fun e w' => e = .returned (.bool (Gx.has Gx.wideRows 2 a)) ∧ w' = w) := rWide_any a
  have HQ : Hid (Gx.wid a = if Gx.cls a = 1 ∨ Gx.cls a = 2 ∨ Gx.cls a = 4 ∨ Gx.cls a = 5 ∨ Gx.cls a = 10 ∨ Gx.cls a = 11 then 0 else if Gx.cls a = 3 then (if a ≤ 159 then 2 else 1) else if Gx.has Gx.wideRows 2 a then 2 else 1) := by
    unfold Hid Gx.wid; rw [if_neg hr, if_neg hl, if_neg (by simp [hs', h9]), Gx.wide_has]
  generalize Gx.has Gx.wideRows 2 a = o at *
  generalize Gx.cls a = c at *
  clear hr hl hs h9
  by_cases hc : c = 1 ∨ c = 2 ∨ c = 4 ∨ c = 5 ∨ c = 10 ∨ c = 11
  · have HQ' : Hid (Gx.wid a = 0) := by unfold Hid; rw [HQ.out, if_pos hc]
    clear HQ
    rcases hc with rfl | rfl | rfl | rfl | rfl | rfl
    all_goals
      go_enter Try.func40, Try.ntmps40
      go_wp2_with (first | (go_at_call 46; refine (rRaw_any _ _).mono ?_; rintro e w' ⟨rfl, rfl⟩; rw [hb]) | (go_at_call 47; refine (rLone_any _ _).mono ?_; rintro e w' ⟨rfl, rfl⟩; rw [hl']) | (go_at_call 48; refine (rScalar_any _ _).mono ?_; rintro e w' ⟨rfl, rfl⟩; rw [hs']) | (go_at_call 49; refine (HC.out _).mono ?_; rintro e w' ⟨rfl, rfl⟩))
      go_ret
      exact ⟨ret_int HQ'.out.symm, rfl⟩
  have HQ' : Hid (Gx.wid a = if c = 3 then (if a ≤ 159 then 2 else 1) else if o then 2 else 1) := by unfold Hid; rw [HQ.out, if_neg hc]
  clear HQ
  by_cases h3 : c = 3
  · subst h3
    by_cases h159 : a ≤ 159
    · have HQ3 : Hid (Gx.wid a = 2) := by unfold Hid; rw [HQ'.out, if_pos rfl, if_pos h159]
      clear HQ'
      go_enter Try.func40, Try.ntmps40
      go_wp2_with (first | (go_at_call 46; refine (rRaw_any _ _).mono ?_; rintro e w' ⟨rfl, rfl⟩; rw [hb]) | (go_at_call 47; refine (rLone_any _ _).mono ?_; rintro e w' ⟨rfl, rfl⟩; rw [hl']) | (go_at_call 48; refine (rScalar_any _ _).mono ?_; rintro e w' ⟨rfl, rfl⟩; rw [hs']) | (go_at_call 49; refine (HC.out _).mono ?_; rintro e w' ⟨rfl, rfl⟩))
      go_ret
      exact ⟨ret_int HQ3.out.symm, rfl⟩
    · have HQ3 : Hid (Gx.wid a = 1) := by unfold Hid; rw [HQ'.out, if_pos rfl, if_neg h159]
      clear HQ'
      go_enter Try.func40, Try.ntmps40
      go_wp2_with (first | (go_at_call 46; refine (rRaw_any _ _).mono ?_; rintro e w' ⟨rfl, rfl⟩; rw [hb]) | (go_at_call 47; refine (rLone_any _ _).mono ?_; rintro e w' ⟨rfl, rfl⟩; rw [hl']) | (go_at_call 48; refine (rScalar_any _ _).mono ?_; rintro e w' ⟨rfl, rfl⟩; rw [hs']) | (go_at_call 49; refine (HC.out _).mono ?_; rintro e w' ⟨rfl, rfl⟩))
      go_ret
      exact ⟨ret_int HQ3.out.symm, rfl⟩
  have HQ : Hid (Gx.wid a = if o then 2 else 1) := by unfold Hid; rw [HQ'.out, if_neg h3]
  have c1 : (c == 1) = false := by simp; omega
  have c2 : (c == 2) = false := by simp; omega
  have c3 : (c == 3) = false := by simp; omega
  have c4 : (c == 4) = false := by simp; omega
  have c5 : (c == 5) = false := by simp; omega
  have c10 : (c == 10) = false := by simp; omega
  have c11 : (c == 11) = false := by simp; omega
  clear hc HQ' h3
  cases o
  all_goals
    go_enter Try.func40, Try.ntmps40
    go_wp2_with (first | (go_at_call 46; refine (rRaw_any _ _).mono ?_; rintro e w' ⟨rfl, rfl⟩; rw [hb]) | (go_at_call 47; refine (rLone_any _ _).mono ?_; rintro e w' ⟨rfl, rfl⟩; rw [hl']) | (go_at_call 48; refine (rScalar_any _ _).mono ?_; rintro e w' ⟨rfl, rfl⟩; rw [hs']) | (go_at_call 49; refine (HC.out _).mono ?_; rintro e w' ⟨rfl, rfl⟩) | (go_at_call 50; refine (HD.out _).mono ?_; rintro e w' ⟨rfl, rfl⟩))
    go_ret
    exact ⟨ret_int HQ.out.symm, rfl⟩
end Go.Proofs.Ytcmglbgnpiociab
