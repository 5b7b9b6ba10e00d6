/- Conjunct, Word, Width of the code. -/
import Derived.Test.YtcmglbgnpiociabCls
namespace Go.Proofs.Ytcmglbgnpiociab
open Go.RowKit

set_option maxRecDepth 100000 in
theorem Conjunct_any (a : Int) (w : World) : Calls Try.prog 77 #[.int .i64 a] w fun e w' => e = .returned (.int .i64 (Gx.cnj a)) ∧ Below w.heap.size w w' := by
  refine calls_of_wp Try.func77 rfl ?_
  generalize hL : Value.string _ = v
  have HF : Hid (∀ w, Calls Try.prog 57 #[v, .int .i64 a] w fun e w' => e = .returned (Gx.foundV (Gx.find Gx.conjunctRows a)) ∧ Below w.heap.size w w') := by
    have hv : v = .string (Gx.str Gx.conjunctRows) := by rw [← hL]; kernel_rfl
    intro w
    rw [hv]
    exact find_any _ Gx.ok_conjunct (by decide) a w
  clear hL
  simp only [Try.ntmps77, List.size_toArray, List.length_cons, List.length_nil, Nat.reduceAdd, Nat.reduceSub, Array.replicate_succ,
     Array.replicate_zero, List.push_toArray, List.append_toArray, List.nil_append, List.cons_append]
  have HQ : Hid (Gx.cnj a = match Gx.find Gx.conjunctRows a with | some r => (r.2.2 : Int) | none => if a = 8204 then 0 else if Gx.cls a = 4 ∨ Gx.cls a = 5 then 2 else 0) := rfl
  generalize Gx.find Gx.conjunctRows a = o at *
  cases o with
  | some r =>
    go_wp2_with (go_at_call 57; refine (HF.out _).mono ?_; rintro e w1 ⟨rfl, hb1⟩; unfold Gx.foundV)
    go_ret
    exact ⟨ret_int HQ.out.symm, ext_alloc hb1 _⟩
  | none =>
    by_cases hn : a = 8204
    · subst hn
      go_wp2_with (go_at_call 57; refine (HF.out _).mono ?_; rintro e w1 ⟨rfl, hb1⟩; unfold Gx.foundV)
      go_ret
      exact ⟨ret_int (by rw [HQ.out]; rfl), ext_alloc hb1 _⟩
    · have bn : (a == 8204) = false := by simp [hn]
      have HC : Hid (∀ w, Calls Try.prog 51 #[.int .i64 a] w fun e w' => e = .returned (.int .i64 (Gx.cls a)) ∧ Below w.heap.size w w') := Class_any a
      simp only [if_neg hn] at HQ
      generalize Gx.cls a = c at *
      by_cases h4 : c = 4
      · subst h4
        go_wp2_with (first | (go_at_call 57; refine (HF.out _).mono ?_; rintro e w1 ⟨rfl, hb1⟩; unfold Gx.foundV) | (go_at_call 51; refine (HC.out _).mono ?_; rintro e w2 ⟨rfl, hb2⟩))
        go_ret
        exact ⟨ret_int (by rw [HQ.out]; rfl), ext_trans (ext_alloc hb1 _) hb2⟩
      by_cases h5 : c = 5
      · subst h5
        go_wp2_with (first | (go_at_call 57; refine (HF.out _).mono ?_; rintro e w1 ⟨rfl, hb1⟩; unfold Gx.foundV) | (go_at_call 51; refine (HC.out _).mono ?_; rintro e w2 ⟨rfl, hb2⟩))
        go_ret
        exact ⟨ret_int (by rw [HQ.out]; rfl), ext_trans (ext_alloc hb1 _) hb2⟩
      · have b4 : (c == 4) = false := by simp [h4]
        have b5 : (c == 5) = false := by simp [h5]
        go_wp2_with (first | (go_at_call 57; refine (HF.out _).mono ?_; rintro e w1 ⟨rfl, hb1⟩; unfold Gx.foundV) | (go_at_call 51; refine (HC.out _).mono ?_; rintro e w2 ⟨rfl, hb2⟩))
        go_ret
        exact ⟨ret_int (by rw [HQ.out, if_neg (by omega)]), ext_trans (ext_alloc hb1 _) hb2⟩

theorem controlWidth_any (a : Int) (w : World) : Calls Try.prog 56 #[.int .i64 a] w fun e w' => e = .returned (.int .i64 (if a ≤ 159 then 2 else 1)) ∧ w' = w := by
  by_cases h : a ≤ 159
  all_goals
    go_enter Try.func56, Try.ntmps56
    go_wp2
    go_ret
    first | exact ⟨rfl, rfl⟩ | exact ⟨ret_int (by simp [h]), rfl⟩ | exact ⟨ret_int (by rw [if_neg (by omega)]), rfl⟩

set_option maxRecDepth 100000 in
set_option maxHeartbeats 1000000 in
theorem Width_any (a : Int) (w : World) : Calls Try.prog 44 #[.int .i64 a] w fun e w' => e = .returned (.int .i64 (Gx.wid a)) ∧ Below w.heap.size w w' := by
  refine calls_of_wp Try.func44 rfl ?_
  generalize hL : Value.string _ = v
  have HF : Hid (∀ w, Calls Try.prog 57 #[v, .int .i64 a] w fun e w' => e = .returned (Gx.foundV (Gx.find Gx.wideRows a)) ∧ Below w.heap.size w w') := by
    have hv : v = .string (Gx.str Gx.wideRows) := by rw [← hL]; kernel_rfl
    intro w
    rw [hv]
    exact find_any _ Gx.ok_wide (by decide) a w
  clear hL
  simp only [Try.ntmps44, List.size_toArray, List.length_cons, List.length_nil, Nat.reduceAdd, Nat.reduceSub, Array.replicate_succ,
     Array.replicate_zero, List.push_toArray, List.append_toArray, List.nil_append, List.cons_append]
  by_cases hr : -256 ≤ a ∧ a ≤ -1
  · have HQ : Hid (Gx.wid a = 4) := by unfold Hid Gx.wid; rw [if_pos hr]
    have hb : (decide (-256 ≤ a) && decide (a ≤ -1)) = true := by simp [hr.1, hr.2]
    go_wp2_with (go_at_call 53; refine (isRaw_any _ _).mono ?_; rintro e w' ⟨rfl, rfl⟩; rw [hb])
    go_ret
    exact ⟨ret_int HQ.out.symm, Below.refl _ _⟩
  have hb : (decide (-256 ≤ a) && decide (a ≤ -1)) = false := by rw [Bool.and_eq_false_iff]; simp; omega
  by_cases hl : Gx.isLn a = true
  · have HQ : Hid (Gx.wid a = 6) := by unfold Hid Gx.wid; rw [if_neg hr, if_pos hl]
    go_wp2_with (first | (go_at_call 53; refine (isRaw_any _ _).mono ?_; rintro e w' ⟨rfl, rfl⟩; rw [hb]) | (go_at_call 54; refine (isLone_any _ _).mono ?_; rintro e w' ⟨rfl, rfl⟩; rw [hl]))
    go_ret
    exact ⟨ret_int HQ.out.symm, Below.refl _ _⟩
  have hl' : Gx.isLn a = false := by simpa using hl
  by_cases hs : Gx.isSc a = false
  · have HQ : Hid (Gx.wid a = 0) := by unfold Hid Gx.wid; rw [if_neg hr, if_neg hl, if_pos (.inl hs)]
    go_wp2_with (first | (go_at_call 53; refine (isRaw_any _ _).mono ?_; rintro e w' ⟨rfl, rfl⟩; rw [hb]) | (go_at_call 54; refine (isLone_any _ _).mono ?_; rintro e w' ⟨rfl, rfl⟩; rw [hl']) | (go_at_call 55; refine (isScalar_any _ _).mono ?_; rintro e w' ⟨rfl, rfl⟩; rw [hs]))
    go_ret
    exact ⟨ret_int HQ.out.symm, Below.refl _ _⟩
  have hs' : Gx.isSc a = true := by simpa using hs
  by_cases h9 : a = 9
  · subst h9
    have HQ : Hid (Gx.wid 9 = 0) := by unfold Hid Gx.wid; rw [if_neg hr, if_neg hl, if_pos (.inr rfl)]
    go_wp2_with (first | (go_at_call 53; refine (isRaw_any _ _).mono ?_; rintro e w' ⟨rfl, rfl⟩; rw [hb]) | (go_at_call 54; refine (isLone_any _ _).mono ?_; rintro e w' ⟨rfl, rfl⟩; rw [hl']) | (go_at_call 55; refine (isScalar_any _ _).mono ?_; rintro e w' ⟨rfl, rfl⟩; rw [hs']))
    go_ret
    exact ⟨ret_int HQ.out.symm, Below.refl _ _⟩
  have b9 : (a == 9) = false := by simp [h9]
  have HC : Hid (∀ w, Calls Try.prog 51 #[.int .i64 a] w fun e w' => e = .returned (.int .i64 (Gx.cls a)) ∧ Below w.heap.size w w') := Class_any a
  have HQ : Hid (Gx.wid a = if Gx.cls a = 1 ∨ Gx.cls a = 2 ∨ Gx.cls a = 4 ∨ Gx.cls a = 5 ∨ Gx.cls a = 10 ∨ Gx.cls a = 11 then 0 else if Gx.cls a = 3 then (if a ≤ 159 then 2 else 1) else Gx.vD (Gx.find Gx.wideRows a) 1) := by
    unfold Hid Gx.wid; rw [if_neg hr, if_neg hl, if_neg (by simp [hs', h9])]
  generalize Gx.find Gx.wideRows a = o at *
  generalize Gx.cls a = c at *
  clear hr hl hs h9
  by_cases hc : c = 1 ∨ c = 2 ∨ c = 4 ∨ c = 5 ∨ c = 10 ∨ c = 11
  · have HQ' : Hid (Gx.wid a = 0) := by unfold Hid; rw [HQ.out, if_pos hc]
    clear HQ
    rcases hc with rfl | rfl | rfl | rfl | rfl | rfl
    all_goals
      go_wp2_with (first | (go_at_call 53; refine (isRaw_any _ _).mono ?_; rintro e w' ⟨rfl, rfl⟩; rw [hb]) | (go_at_call 54; refine (isLone_any _ _).mono ?_; rintro e w' ⟨rfl, rfl⟩; rw [hl']) | (go_at_call 55; refine (isScalar_any _ _).mono ?_; rintro e w' ⟨rfl, rfl⟩; rw [hs']) | (go_at_call 51; refine (HC.out _).mono ?_; rintro e w2 ⟨rfl, hb2⟩))
      go_ret
      exact ⟨ret_int HQ'.out.symm, hb2⟩
  have HQ' : Hid (Gx.wid a = if c = 3 then (if a ≤ 159 then 2 else 1) else Gx.vD o 1) := by unfold Hid; rw [HQ.out, if_neg hc]
  clear HQ
  by_cases h3 : c = 3
  · subst h3
    have HQ3 : Hid (Gx.wid a = if a ≤ 159 then 2 else 1) := by unfold Hid; rw [HQ'.out, if_pos rfl]
    have HW : Hid (∀ w, Calls Try.prog 56 #[.int .i64 a] w fun e w' => e = .returned (.int .i64 (if a ≤ 159 then 2 else 1)) ∧ w' = w) := controlWidth_any a
    generalize (if a ≤ 159 then (2 : Int) else 1) = x at *
    clear HQ'
    go_wp2_with (first | (go_at_call 53; refine (isRaw_any _ _).mono ?_; rintro e w' ⟨rfl, rfl⟩; rw [hb]) | (go_at_call 54; refine (isLone_any _ _).mono ?_; rintro e w' ⟨rfl, rfl⟩; rw [hl']) | (go_at_call 55; refine (isScalar_any _ _).mono ?_; rintro e w' ⟨rfl, rfl⟩; rw [hs']) | (go_at_call 51; refine (HC.out _).mono ?_; rintro e w2 ⟨rfl, hb2⟩) | (go_at_call 56; refine (HW.out _).mono ?_; rintro e w' ⟨rfl, rfl⟩))
    go_ret
    exact ⟨ret_int HQ3.out.symm, hb2⟩
  have HQ : Hid (Gx.wid a = Gx.vD o 1) := by unfold Hid; rw [HQ'.out, if_neg h3]
  have c1 : (c == 1) = false := by simp; omega
  have c2 : (c == 2) = false := by simp; omega
  have c3 : (c == 3) = false := by simp; omega
  have c4 : (c == 4) = false := by simp; omega
  have c5 : (c == 5) = false := by simp; omega
  have c10 : (c == 10) = false := by simp; omega
  have c11 : (c == 11) = false := by simp; omega
  clear hc HQ' h3
  cases o with
  | none =>
    go_wp2_with (first | (go_at_call 53; refine (isRaw_any _ _).mono ?_; rintro e w' ⟨rfl, rfl⟩; rw [hb]) | (go_at_call 54; refine (isLone_any _ _).mono ?_; rintro e w' ⟨rfl, rfl⟩; rw [hl']) | (go_at_call 55; refine (isScalar_any _ _).mono ?_; rintro e w' ⟨rfl, rfl⟩; rw [hs']) | (go_at_call 51; refine (HC.out _).mono ?_; rintro e w2 ⟨rfl, hb2⟩) | (go_at_call 57; refine (HF.out _).mono ?_; rintro e w1 ⟨rfl, hb1⟩; unfold Gx.foundV))
    go_ret
    exact ⟨ret_int HQ.out.symm, ext_alloc (ext_trans hb2 hb1) _⟩
  | some r =>
    go_wp2_with (first | (go_at_call 53; refine (isRaw_any _ _).mono ?_; rintro e w' ⟨rfl, rfl⟩; rw [hb]) | (go_at_call 54; refine (isLone_any _ _).mono ?_; rintro e w' ⟨rfl, rfl⟩; rw [hl']) | (go_at_call 55; refine (isScalar_any _ _).mono ?_; rintro e w' ⟨rfl, rfl⟩; rw [hs']) | (go_at_call 51; refine (HC.out _).mono ?_; rintro e w2 ⟨rfl, hb2⟩) | (go_at_call 57; refine (HF.out _).mono ?_; rintro e w1 ⟨rfl, hb1⟩; unfold Gx.foundV))
    go_ret
    exact ⟨ret_int HQ.out.symm, ext_alloc (ext_trans hb2 hb1) _⟩
end Go.Proofs.Ytcmglbgnpiociab
