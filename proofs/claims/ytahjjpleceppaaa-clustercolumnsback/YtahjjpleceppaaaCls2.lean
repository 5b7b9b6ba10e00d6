/- Conjunct, Word, Width of the code. -/
import Derived.Test.YtahjjpleceppaaaCls
namespace Go.Proofs.Ytahjjpleceppaaa
open Go.RowKit

set_option maxRecDepth 100000 in
theorem Conjunct_any (a : Int) (w : World) : Calls Try.prog 70 #[.int .i64 a] w fun e w' => e = .returned (.int .i64 (Gx.cnj a)) ∧ Below w.heap.size w w' := by
  refine calls_of_wp Try.func70 rfl ?_
  generalize hL : Value.string _ = v
  have HF : Hid (∀ w, Calls Try.prog 64 #[v, .int .i64 a] w fun e w' => e = .returned (Gx.foundV (Gx.find Gx.conjunctRows a)) ∧ Below w.heap.size w w') := by
    have hv : v = .string (Gx.str Gx.conjunctRows) := by rw [← hL]; kernel_rfl
    intro w
    rw [hv]
    exact find_any _ Gx.ok_conjunct (by decide) a w
  clear hL
  simp only [Try.ntmps70, List.size_toArray, List.length_cons, List.length_nil, Nat.reduceAdd, Nat.reduceSub, Array.replicate_succ,
     Array.replicate_zero, List.push_toArray, List.append_toArray, List.nil_append, List.cons_append]
  have HQ : Hid (Gx.cnj a = match Gx.find Gx.conjunctRows a with | some r => (r.2.2 : Int) | none => if a = 8204 then 0 else if Gx.cls a = 4 ∨ Gx.cls a = 5 then 2 else 0) := rfl
  generalize Gx.find Gx.conjunctRows a = o at *
  cases o with
  | some r =>
    go_wp2_with (go_at_call 64; refine (HF.out _).mono ?_; rintro e w1 ⟨rfl, hb1⟩; unfold Gx.foundV)
    go_ret
    exact ⟨ret_int HQ.out.symm, ext_alloc hb1 _⟩
  | none =>
    by_cases hn : a = 8204
    · subst hn
      go_wp2_with (go_at_call 64; refine (HF.out _).mono ?_; rintro e w1 ⟨rfl, hb1⟩; unfold Gx.foundV)
      go_ret
      exact ⟨ret_int (by rw [HQ.out]; rfl), ext_alloc hb1 _⟩
    · have bn : (a == 8204) = false := by simp [hn]
      have HC : Hid (∀ w, Calls Try.prog 47 #[.int .i64 a] w fun e w' => e = .returned (.int .i64 (Gx.cls a)) ∧ Below w.heap.size w w') := Class_any a
      simp only [if_neg hn] at HQ
      generalize Gx.cls a = c at *
      by_cases h4 : c = 4
      · subst h4
        go_wp2_with (first | (go_at_call 64; refine (HF.out _).mono ?_; rintro e w1 ⟨rfl, hb1⟩; unfold Gx.foundV) | (go_at_call 47; refine (HC.out _).mono ?_; rintro e w2 ⟨rfl, hb2⟩))
        go_ret
        exact ⟨ret_int (by rw [HQ.out]; rfl), ext_trans (ext_alloc hb1 _) hb2⟩
      by_cases h5 : c = 5
      · subst h5
        go_wp2_with (first | (go_at_call 64; refine (HF.out _).mono ?_; rintro e w1 ⟨rfl, hb1⟩; unfold Gx.foundV) | (go_at_call 47; refine (HC.out _).mono ?_; rintro e w2 ⟨rfl, hb2⟩))
        go_ret
        exact ⟨ret_int (by rw [HQ.out]; rfl), ext_trans (ext_alloc hb1 _) hb2⟩
      · have b4 : (c == 4) = false := by simp [h4]
        have b5 : (c == 5) = false := by simp [h5]
        go_wp2_with (first | (go_at_call 64; refine (HF.out _).mono ?_; rintro e w1 ⟨rfl, hb1⟩; unfold Gx.foundV) | (go_at_call 47; refine (HC.out _).mono ?_; rintro e w2 ⟨rfl, hb2⟩))
        go_ret
        exact ⟨ret_int (by rw [HQ.out, if_neg (by omega)]), ext_trans (ext_alloc hb1 _) hb2⟩
end Go.Proofs.Ytahjjpleceppaaa
