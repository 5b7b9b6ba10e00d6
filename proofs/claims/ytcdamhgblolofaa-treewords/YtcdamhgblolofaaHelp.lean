/- slot, Digits, num; one thing put in. -/
import Derived.Test.YtcdamhgblolofaaMeth
namespace Go.Proofs.Ytcdamhgblolofaa
open Go.RowKit

theorem num_any (k : Int) (w : World) : Calls Try.prog 28 #[.int .i64 k] w fun e w' => e = .returned (.int .i64 k) ∧ w' = w := by
  go_enter Try.func28, Try.ntmps28
  go_wp2_with fail
  go_ret
  exact ⟨rfl, rfl⟩

theorem slot_any (i : Int) (n : Nat) (w : World) (hn : n ≤ 4611686018427387904) : Calls Try.prog 25 #[.int .i64 i, .int .i64 n] w fun e w' => ∃ k : Nat, e = .returned (.int .i64 k) ∧ k ≤ n ∧ w' = w := by
  have hn1 : (n : Int) ≤ 4611686018427387904 := by omega
  have hn2 : ¬ (n : Int) + 1 = 0 := by omega
  have h1 : Int.tmod i ((n : Int) + 1) < (n : Int) + 1 := Int.tmod_lt_of_pos i (by omega)
  have h2 : -((n : Int) + 1) < Int.tmod i ((n : Int) + 1) := by
    have := Int.tmod_lt_of_pos (-i) (b := (n : Int) + 1) (by omega)
    rw [Int.neg_tmod] at this
    omega
  generalize hq : Int.tmod i ((n : Int) + 1) = q at *
  by_cases hs : q < 0
  · go_enter Try.func25, Try.ntmps25
    go_wp2_with fail
    go_ret
    exact ⟨(q + n + 1).toNat, by rw [Int.toNat_of_nonneg (by omega)]; rfl, by omega, rfl⟩
  · go_enter Try.func25, Try.ntmps25
    go_wp2_with fail
    go_ret
    exact ⟨q.toNat, by rw [Int.toNat_of_nonneg (by omega)]; rfl, by omega, rfl⟩

theorem dig_le (n : Nat) : dig n ≤ n := by
  induction n using Nat.strongRecOn with
  | _ n ih =>
    by_cases h : n = 0
    · subst h; simp [dig_zero]
    · rw [dig_pos (by omega)]
      have := ih (n / 2) (by omega)
      omega
theorem dig_bd (n : Nat) (h : n ≤ 4611686018427387904) : dig n ≤ 63 := by
  have : dig n ≤ dig 4611686018427387904 := dig_mono h
  have e : dig 4611686018427387904 = 63 := by
    have : ∀ k, dig (2 ^ k) = k + 1 := by
      intro k
      induction k with
      | zero => rw [dig_pos (by decide)]; simp [dig_zero]
      | succ k ih => rw [dig_pos (Nat.two_pow_pos _), Nat.pow_succ, Nat.mul_div_cancel _ (by decide), ih]
    exact this 62
  omega

theorem Digits_any (n : Nat) (w : World) (hn : n ≤ 4611686018427387904) : Calls Try.prog 30 #[.int .i64 n] w fun e w' => e = .returned (.int .i64 (dig n : Nat)) ∧ w' = w := by
  go_enter Try.func30, Try.ntmps30
  go_wp2_with fail
  go_loop [0, 3] (fun a d => ∃ m k : Nat, a = .int .i64 m ∧ d = .int .i64 k ∧ Hid (dig n = k + dig m) ∧ m ≤ 4611686018427387904 ∧ k ≤ 63) (fun a _ => (intOf a).toNat)
  case atStart => exact ⟨n, 0, rfl, rfl, by unfold Hid; omega, hn, by omega⟩
  case round =>
    obtain ⟨m, k, rfl, rfl, HD, hm, hk⟩ := hrel
    by_cases h0 : 0 < m
    · have h0' : (0 : Int) < (m : Int) := by omega
      have hd1 : (m : Int) / 2 = ((m / 2 : Nat) : Int) := by omega
      have hd2 : Int.tdiv (m : Int) 2 = ((m / 2 : Nat) : Int) := by rw [Int.tdiv_eq_ediv_of_nonneg (by omega)]; omega
      have HP := hidIt (dig_pos h0)
      have HB := hidIt (dig_bd n hn)
      have HQ := hidIt (show m / 2 < m ∧ m / 2 ≤ 4611686018427387904 by omega)
      generalize m / 2 = q at *
      go_wp2_with fail
      go_round
      case rel => exact ⟨q, k + 1, rfl, by go_num, by have h1 := HD.out; have h2 := HP.out; unfold Hid; omega, HQ.out.2, by have h1 := HD.out; have h2 := HP.out; have h3 := HB.out; omega⟩
      case measure => have := HQ.out.1; simp [intOf]; omega
    · obtain rfl : m = 0 := by omega
      go_wp2_with fail
      go_ret
      exact ⟨ret_int (by have := HD.out; rw [dig_zero] at this; omega), rfl⟩

/-- A thing put in at a place. -/
def ins (xs : List It) (a : Int) (x : It) : List It := xs.take a.toNat ++ [x] ++ xs.drop a.toNat
theorem ins_len (xs : List It) (a : Int) (x : It) : (ins xs a x).length = xs.length + 1 := by
  have h := congrArg List.length (List.take_append_drop a.toNat xs)
  simp only [List.length_append] at h
  simp only [ins, List.length_append, List.length_cons, List.length_nil]
  omega
theorem ins_wt (xs : List It) (a : Int) (x : It) : wt (ins xs a x) = wt xs + wt [x] := by
  have h := congrArg wt (List.take_append_drop a.toNat xs)
  rw [wt_app] at h
  simp only [ins, wt_app]
  omega
theorem ins_at (xs : List It) (a : Int) (x : It) (h0 : 0 ≤ a) (h1 : a ≤ xs.length) : atL (ins xs a x) a = some x := by
  have hl : (xs.take a.toNat).length = a.toNat := by rw [List.length_take]; omega
  have := atL_here (xs.take a.toNat) (xs.drop a.toNat) x
  rw [hl, Int.toNat_of_nonneg h0] at this
  unfold ins
  rw [List.append_assoc]
  exact this
/-- The letters of runs, each one letter. -/
theorem su_l (xs : List It) : (rA.su xs).l + xs.length = wt xs := by
  induction xs with
  | nil => rfl
  | cons x xs ih =>
    have h1 := rA.ok xs
    have h2 := meas_l x
    rw [Alg.su_cons, wt_cons]
    have e : (rA.add (rA.meas x) (rA.su xs)).l = (Rs.meas x).l + (rA.su xs).l := by
      show (Rs.add (Rs.meas x) (rA.su xs)).l = _
      unfold Rs.add
      rcases rA.okm x with h3 | ⟨h3, _⟩
      · have h3' : Rs.meas x = Rs.zero := h3
        rw [h3']; simp [Rs.zero]
      · have h3' : 1 ≤ (Rs.meas x).s := h3
        rw [if_neg (by omega)]
        rcases h1 with h4 | ⟨h4, _⟩
        · rw [h4]; simp [Rs.zero]
        · rw [if_neg (by omega)]
    rw [e, List.length_cons]
    omega

theorem Replace_ins (u : Option Addr) (xs : List It) (a : Int) (v : Value) (x : It) (w : World) (h : TT w (.agg #[.pointer u]) xs) (hv : RdR w v [x]) (h0 : 0 ≤ a) (h1 : a ≤ xs.length) (hw : wt xs + wt [x] ≤ 4611686018427387904) :
    Calls Try.prog 26 #[.agg #[.pointer u], .int .i64 a, .int .i64 a, v] w fun e w' => ∃ u', e = .returned (.tuple #[.agg #[.pointer u'], .int .i64 0]) ∧ Hid (TT w' (.agg #[.pointer u']) (ins xs a x)) ∧ Below w.heap.size w w' := by
  have := Replace_good u xs a.toNat a.toNat v [x] w h hv (Nat.le_refl _) (by omega) hw
  rw [Int.toNat_of_nonneg h0] at this
  exact this
theorem At_ins (u : Option Addr) (xs : List It) (a : Int) (x : It) (w : World) (h : TT w (.agg #[.pointer u]) (ins xs a x)) (h0 : 0 ≤ a) (h1 : a ≤ xs.length) (hx : xs.length ≤ 4611686018427387904) (hw : wt (ins xs a x) ≤ 4611686018427387904) :
    Calls Try.prog 27 #[.agg #[.pointer u], .int .i64 a] w fun e w' => e = .returned (.tuple #[.agg #[.int .i64 x.1, .int .i64 x.2], .bool true]) ∧ Below w.heap.size w w' := by
  refine (At_any u _ a w h hw (by omega)).mono ?_
  rintro e w' ⟨y, b, rfl, hy, hb⟩
  rcases hy with ⟨h2, rfl⟩ | ⟨h2, _⟩
  · rw [ins_at xs a x h0 h1] at h2
    cases h2
    exact ⟨rfl, hb⟩
  · rw [ins_at xs a x h0 h1] at h2
    cases h2
end Go.Proofs.Ytcdamhgblolofaa
