/- Class, Conjunct, Word, Width of the code. -/
import Derived.Test.YtahjjpleceppaaaFind
namespace Go.Proofs.Ytahjjpleceppaaa
open Go.RowKit

def Gx.isLn (a : Int) : Bool := decide (55296 ≤ a) && decide (a ≤ 57343)
def Gx.isSc (a : Int) : Bool := decide (0 ≤ a) && (decide (a ≤ 1114111) && !Gx.isLn a)
def Gx.vD (o : Option Gx.Row) (d : Int) : Int := match o with | some r => r.2.2 | none => d
def Gx.cls (a : Int) : Int :=
  if 32 ≤ a ∧ a ≤ 126 then 0 else if Gx.isSc a = false then 3 else if a = 13 then 1 else if a = 10 then 2 else if a = 8205 then 5
  else if 44032 ≤ a ∧ a ≤ 55203 then (if (a - 44032) % 28 = 0 then 12 else 13) else Gx.vD (Gx.find Gx.classRows a) 0
def Gx.cnj (a : Int) : Int :=
  match Gx.find Gx.conjunctRows a with
  | some r => r.2.2
  | none => if a = 8204 then 0 else if Gx.cls a = 4 ∨ Gx.cls a = 5 then 2 else 0
def Gx.wrd (a : Int) : Int := Gx.vD (Gx.find Gx.wordRows a) 1
def Gx.wid (a : Int) : Int :=
  if -256 ≤ a ∧ a ≤ -1 then 4 else if Gx.isLn a then 6 else if Gx.isSc a = false ∨ a = 9 then 0
  else if Gx.cls a = 1 ∨ Gx.cls a = 2 ∨ Gx.cls a = 4 ∨ Gx.cls a = 5 ∨ Gx.cls a = 10 ∨ Gx.cls a = 11 then 0
  else if Gx.cls a = 3 then (if a ≤ 159 then 2 else 1) else Gx.vD (Gx.find Gx.wideRows a) 1

theorem Gx.ok_class : Gx.okT Gx.classRows = true := by kernel_rfl
theorem Gx.ok_conjunct : Gx.okT Gx.conjunctRows = true := by kernel_rfl
theorem Gx.ok_word : Gx.okT Gx.wordRows = true := by kernel_rfl
theorem Gx.ok_wide : Gx.okT Gx.wideRows = true := by kernel_rfl

theorem isLone_any (a : Int) (w : World) : Calls Try.prog 71 #[.int .i64 a] w fun e w' => e = .returned (.bool (Gx.isLn a)) ∧ w' = w := by
  by_cases h : 55296 ≤ a
  all_goals
    go_enter Try.func71, Try.ntmps71
    go_wp2
    go_ret
    refine ⟨ret_bool ?_, rfl⟩
    first | (simp [Gx.isLn, h]; done) | (rw [Bool.eq_iff_iff]; simp [Gx.isLn]; omega)

theorem isScalar_any (a : Int) (w : World) : Calls Try.prog 62 #[.int .i64 a] w fun e w' => e = .returned (.bool (Gx.isSc a)) ∧ w' = w := by
  by_cases h : 0 ≤ a
  · by_cases h' : a ≤ 1114111
    · go_enter Try.func62, Try.ntmps62
      go_wp2_with (go_at_call 71; refine (isLone_any _ _).mono ?_; rintro e w' ⟨rfl, rfl⟩)
      go_ret
      exact ⟨ret_bool (by simp [Gx.isSc, h, h']), rfl⟩
    · go_enter Try.func62, Try.ntmps62
      go_wp2_with (go_at_call 71; refine (isLone_any _ _).mono ?_; rintro e w' ⟨rfl, rfl⟩)
      go_ret
      exact ⟨ret_bool (by simp [Gx.isSc]; omega), rfl⟩
  · go_enter Try.func62, Try.ntmps62
    go_wp2_with (go_at_call 71; refine (isLone_any _ _).mono ?_; rintro e w' ⟨rfl, rfl⟩)
    go_ret
    exact ⟨ret_bool (by simp [Gx.isSc]; omega), rfl⟩

theorem hangulClass_any (a : Int) (h1 : 44032 ≤ a) (h2 : a ≤ 55203) (w : World) : Calls Try.prog 63 #[.int .i64 a] w fun e w' => e = .returned (.int .i64 (if (a - 44032) % 28 = 0 then 12 else 13)) ∧ w' = w := by
  by_cases h : (a - 44032) % 28 = 0
  · have hb : ((a - 44032) % 28 == 0) = true := by simp [h]
    go_enter Try.func63, Try.ntmps63
    go_wp2
    go_ret
    exact ⟨rfl, rfl⟩
  · have hb : ((a - 44032) % 28 == 0) = false := by simp [h]
    go_enter Try.func63, Try.ntmps63
    go_wp2
    go_ret
    exact ⟨rfl, rfl⟩

set_option maxRecDepth 100000 in
theorem Class_any (a : Int) (w : World) : Calls Try.prog 47 #[.int .i64 a] w fun e w' => e = .returned (.int .i64 (Gx.cls a)) ∧ Below w.heap.size w w' := by
  refine calls_of_wp Try.func47 rfl ?_
  generalize hL : Value.string _ = v
  have HF : Hid (∀ w, Calls Try.prog 64 #[v, .int .i64 a] w fun e w' => e = .returned (Gx.foundV (Gx.find Gx.classRows a)) ∧ Below w.heap.size w w') := by
    have hv : v = .string (Gx.str Gx.classRows) := by rw [← hL]; kernel_rfl
    intro w
    rw [hv]
    exact find_any _ Gx.ok_class (by decide) a w
  clear hL
  simp only [Try.ntmps47, List.size_toArray, List.length_cons, List.length_nil, Nat.reduceAdd, Nat.reduceSub, Array.replicate_succ,
     Array.replicate_zero, List.push_toArray, List.append_toArray, List.nil_append, List.cons_append]
  by_cases hp : 32 ≤ a ∧ a ≤ 126
  · have HQ : Hid (Gx.cls a = 0) := by unfold Hid Gx.cls; rw [if_pos hp]
    obtain ⟨hp1, hp2⟩ := hp
    go_wp2
    go_ret
    exact ⟨ret_int HQ.out.symm, Below.refl _ _⟩
  have hpb : (decide (32 ≤ a) && decide (a ≤ 126)) = false := by rw [Bool.and_eq_false_iff]; simp; omega
  by_cases hs : Gx.isSc a = false
  · have HQ : Hid (Gx.cls a = 3) := by unfold Hid Gx.cls; rw [if_neg hp, if_pos hs]
    rcases (show a < 32 ∨ 126 < a from by omega) with h32 | h32
    all_goals
      go_wp2_with (go_at_call 62; refine (isScalar_any _ _).mono ?_; rintro e w' ⟨rfl, rfl⟩; rw [hs])
      go_ret
      exact ⟨ret_int HQ.out.symm, Below.refl _ _⟩
  have hs' : Gx.isSc a = true := by simpa using hs
  by_cases h13 : a = 13
  · subst h13
    go_wp2_with (go_at_call 62; refine (isScalar_any _ _).mono ?_; rintro e w' ⟨rfl, rfl⟩; rw [hs'])
    go_ret
    exact ⟨rfl, Below.refl _ _⟩
  by_cases h10 : a = 10
  · subst h10
    go_wp2_with (go_at_call 62; refine (isScalar_any _ _).mono ?_; rintro e w' ⟨rfl, rfl⟩; rw [hs'])
    go_ret
    exact ⟨rfl, Below.refl _ _⟩
  by_cases hj : a = 8205
  · subst hj
    go_wp2_with (go_at_call 62; refine (isScalar_any _ _).mono ?_; rintro e w' ⟨rfl, rfl⟩; rw [hs'])
    go_ret
    exact ⟨rfl, Below.refl _ _⟩
  have b13 : (a == 13) = false := by simp [h13]
  have b10 : (a == 10) = false := by simp [h10]
  have bj : (a == 8205) = false := by simp [hj]
  by_cases hh : 44032 ≤ a ∧ a ≤ 55203
  · have HQ : Hid (Gx.cls a = if (a - 44032) % 28 = 0 then 12 else 13) := by unfold Hid Gx.cls; rw [if_neg hp, if_neg hs, if_neg h13, if_neg h10, if_neg hj, if_pos hh]
    obtain ⟨hh1, hh2⟩ := hh
    have h32 : 126 < a := by omega
    have HH : Hid _ := hangulClass_any a hh1 hh2
    generalize (if (a - 44032) % 28 = 0 then (12 : Int) else 13) = x at *
    clear h13 h10 hj hp hs
    go_wp2_with (first | (go_at_call 62; refine (isScalar_any _ _).mono ?_; rintro e w' ⟨rfl, rfl⟩; rw [hs']) | (go_at_call 63; refine (HH.out _).mono ?_; rintro e w' ⟨rfl, rfl⟩))
    go_ret
    exact ⟨ret_int HQ.out.symm, Below.refl _ _⟩
  have HQ : Hid (Gx.cls a = Gx.vD (Gx.find Gx.classRows a) 0) := by unfold Hid Gx.cls; rw [if_neg hp, if_neg hs, if_neg h13, if_neg h10, if_neg hj, if_neg hh]
  have h32 : a < 32 ∨ 126 < a := by omega
  have hhg : a < 44032 ∨ 55203 < a := by omega
  generalize Gx.find Gx.classRows a = o at *
  clear h13 h10 hj hp hs hh
  rcases h32 with h32 | h32 <;> rcases hhg with hhg | hhg
  all_goals first | (exfalso; omega) | skip
  all_goals
    cases o with
    | none =>
      go_wp2_with (first | (go_at_call 62; refine (isScalar_any _ _).mono ?_; rintro e w' ⟨rfl, rfl⟩; rw [hs']) | (go_at_call 64; refine (HF.out _).mono ?_; rintro e w1 ⟨rfl, hb1⟩; unfold Gx.foundV))
      go_ret
      exact ⟨ret_int HQ.out.symm, ext_alloc hb1 _⟩
    | some r =>
      go_wp2_with (first | (go_at_call 62; refine (isScalar_any _ _).mono ?_; rintro e w' ⟨rfl, rfl⟩; rw [hs']) | (go_at_call 64; refine (HF.out _).mono ?_; rintro e w1 ⟨rfl, hb1⟩; unfold Gx.foundV))
      go_ret
      exact ⟨ret_int HQ.out.symm, ext_alloc hb1 _⟩
end Go.Proofs.Ytahjjpleceppaaa
