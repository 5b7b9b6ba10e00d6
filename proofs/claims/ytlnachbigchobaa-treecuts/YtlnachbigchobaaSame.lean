/- same: two trees of the same things. -/
import Derived.Test.YtlnachbigchobaaHelp
import Derived.Deep.LoopGhost
namespace Go.Proofs.Ytlnachbigchobaa
open Go.RowKit

theorem at_in (u : Option Addr) (xs : List It) (k : Nat) (w : World) (h : TT w (.agg #[.pointer u]) xs) (hw : wt xs ≤ 4611686018427387904) (hk : k < xs.length) :
    Calls Try.prog 27 #[.agg #[.pointer u], .int .i64 k] w fun e w' => e = .returned (.tuple #[.agg #[.int .i64 (xs[k]?.getD (0, 0)).1, .int .i64 (xs[k]?.getD (0, 0)).2], .bool true]) ∧ Below w.heap.size w w' := by
  have hl := Nat.le_trans (wt_len xs) hw
  have e : atL xs (k : Int) = some (xs[k]?.getD (0, 0)) := by
    unfold atL
    rw [if_neg (by omega), Int.toNat_natCast, List.getElem?_eq_getElem hk]
    rfl
  refine (At_any u xs k w h hw (by omega)).mono ?_
  rintro e' w' ⟨y, b, rfl, hy, hb⟩
  rcases hy with ⟨h2, rfl⟩ | ⟨h2, _⟩
  · rw [e] at h2
    cases h2
    exact ⟨rfl, hb⟩
  · rw [e] at h2
    cases h2

set_option maxRecDepth 100000 in
set_option maxHeartbeats 4000000 in
theorem same_any (ua ub : Option Addr) (xs : List It) (w : World) (h1 : TT w (.agg #[.pointer ua]) xs) (h2 : TT w (.agg #[.pointer ub]) xs) (hw : wt xs ≤ 4611686018427387904) :
    Calls Try.prog 31 #[.agg #[.pointer ua], .agg #[.pointer ub]] w fun e w' => e = .returned (.bool true) ∧ Below w.heap.size w w' := by
  have hlen := Nat.le_trans (wt_len xs) hw
  obtain ⟨w0, hw0⟩ : ∃ w0, w0 = (w.alloc (.cells #[.pointer ua] 39)).alloc (.cells #[.pointer ub] 39) := ⟨_, rfl⟩
  have hb0 : Below w.heap.size w w0 := by rw [hw0]; exact ext_alloc (ext_alloc (Below.refl _ _) _) _
  have HB0 := hidIt hb0
  have q0 : w0.cell? ⟨w.heap.size, 0, none⟩ = some (.pointer ua) := by rw [hw0]; simp
  have q1 : w0.cell? ⟨w.heap.size + 1, 0, none⟩ = some (.pointer ub) := by
    have hB : w0.heap[w.heap.size + 1]? = some (.cells #[.pointer ub] 39 (0, 0)) := by
      have := heap_alloc_new (w.alloc (.cells #[.pointer ua] 39)) (.cells #[.pointer ub] 39)
      rw [World.size_alloc] at this
      rw [hw0]; exact this
    rw [cell_of_row w0 _ 0 _ _ _ hB]; rfl
  have hsz : w.heap.size + 1 < w0.heap.size := by rw [hw0]; simp
  have HC : Hid (∀ w', Below w0.heap.size w0 w' → w'.cell? ⟨w.heap.size, 0, none⟩ = some (.pointer ua) ∧ w'.cell? ⟨w.heap.size + 1, 0, none⟩ = some (.pointer ub)) := fun w' hb => ⟨(hb.cell (p := ⟨w.heap.size, 0, none⟩) (by simp only; omega)).trans q0, (hb.cell (p := ⟨w.heap.size + 1, 0, none⟩) hsz).trans q1⟩
  have SA : Hid (∀ w', Below w0.heap.size w0 w' → Calls Try.prog 22 #[.agg #[.pointer ua]] w' fun e w'' => e = .returned (.int .i64 xs.length) ∧ Below w0.heap.size w0 w'') := fun w' hb => (Size_any ua xs w' ((h1.ext hb0).ext hb)).mono fun _ _ ⟨k1, k2⟩ => ⟨k1, ext_trans hb k2⟩
  have SB : Hid (∀ w', Below w0.heap.size w0 w' → Calls Try.prog 22 #[.agg #[.pointer ub]] w' fun e w'' => e = .returned (.int .i64 xs.length) ∧ Below w0.heap.size w0 w'') := fun w' hb => (Size_any ub xs w' ((h2.ext hb0).ext hb)).mono fun _ _ ⟨k1, k2⟩ => ⟨k1, ext_trans hb k2⟩
  have UA : Hid (∀ w', Below w0.heap.size w0 w' → Calls Try.prog 21 #[.agg #[.pointer ua]] w' fun e w'' => e = .returned (.agg #[.int .i64 (rA.su xs).l, .int .i64 (rA.su xs).s, .int .i64 (rA.su xs).f, .int .i64 (rA.su xs).z]) ∧ Below w0.heap.size w0 w'') := fun w' hb => (Sum_any ua xs w' ((h1.ext hb0).ext hb)).mono fun _ _ ⟨s, k0, k1, k2⟩ => ⟨by rw [← k0.out]; exact k1, ext_trans hb k2⟩
  have UB : Hid (∀ w', Below w0.heap.size w0 w' → Calls Try.prog 21 #[.agg #[.pointer ub]] w' fun e w'' => e = .returned (.agg #[.int .i64 (rA.su xs).l, .int .i64 (rA.su xs).s, .int .i64 (rA.su xs).f, .int .i64 (rA.su xs).z]) ∧ Below w0.heap.size w0 w'') := fun w' hb => (Sum_any ub xs w' ((h2.ext hb0).ext hb)).mono fun _ _ ⟨s, k0, k1, k2⟩ => ⟨by rw [← k0.out]; exact k1, ext_trans hb k2⟩
  have TA : Hid (∀ k w', k < xs.length → Below w0.heap.size w0 w' → Calls Try.prog 27 #[.agg #[.pointer ua], .int .i64 (k : Nat)] w' fun e w'' => e = .returned (.tuple #[.agg #[.int .i64 (xs[k]?.getD (0, 0)).1, .int .i64 (xs[k]?.getD (0, 0)).2], .bool true]) ∧ Below w'.heap.size w' w'') := fun k w' hk hb => at_in ua xs k w' ((h1.ext hb0).ext hb) hw hk
  have TB : Hid (∀ k w', k < xs.length → Below w0.heap.size w0 w' → Calls Try.prog 27 #[.agg #[.pointer ub], .int .i64 (k : Nat)] w' fun e w'' => e = .returned (.tuple #[.agg #[.int .i64 (xs[k]?.getD (0, 0)).1, .int .i64 (xs[k]?.getD (0, 0)).2], .bool true]) ∧ Below w'.heap.size w' w'') := fun k w' hk hb => at_in ub xs k w' ((h2.ext hb0).ext hb) hw hk
  clear h1 h2 hb0 hw
  generalize rA.su xs = sx at *
  have hnn : ((xs.length : Int) != (xs.length : Int)) = false := by simp
  go_enter Try.func31, Try.ntmps31
  go_wp2_with fail
  rw [← hw0]
  clear hw0
  go_region_held3 (fun w' => w'.cell? ⟨w.heap.size, 0, none⟩ = some (.pointer ua) ∧ w'.cell? ⟨w.heap.size + 1, 0, none⟩ = some (.pointer ub)) (go_keep) (first
    | (go_at_call_of 22 ua; refine (SA.out _ (by repeat (first | exact HBB.out | exact Below.refl _ _ | apply Below.drew))).mono ?_; rintro e w1 ⟨rfl, hb⟩; (try clear HBB); clear q0 q1; have HBB := hidIt hb; obtain ⟨q0, q1⟩ := HC.out w1 hb; clear hb)
    | (go_at_call_of 22 ub; refine (SB.out _ (by repeat (first | exact HBB.out | exact Below.refl _ _ | apply Below.drew))).mono ?_; rintro e w1 ⟨rfl, hb⟩; (try clear HBB); clear q0 q1; have HBB := hidIt hb; obtain ⟨q0, q1⟩ := HC.out w1 hb; clear hb)
    | (go_at_call_of 21 ua; refine (UA.out _ (by repeat (first | exact HBB.out | exact Below.refl _ _ | apply Below.drew))).mono ?_; rintro e w1 ⟨rfl, hb⟩; (try clear HBB); clear q0 q1; have HBB := hidIt hb; obtain ⟨q0, q1⟩ := HC.out w1 hb; clear hb)
    | (go_at_call_of 21 ub; refine (UB.out _ (by repeat (first | exact HBB.out | exact Below.refl _ _ | apply Below.drew))).mono ?_; rintro e w1 ⟨rfl, hb⟩; (try clear HBB); clear q0 q1; have HBB := hidIt hb; obtain ⟨q0, q1⟩ := HC.out w1 hb; clear hb))
  go_wp2_with fail
  go_loopw [5] (fun i wr => ∃ k : Nat, k ≤ xs.length ∧ i = .int .i64 k ∧ Hid (Below w0.heap.size w0 wr)) (fun i _ => xs.length - (intOf i).toNat)
  case atStart => exact ⟨0, Nat.zero_le _, rfl, HBB.out⟩
  case round =>
    obtain ⟨k, hk, rfl, HBR⟩ := hrel
    clear q0 q1
    obtain ⟨q0, q1⟩ := HC.out wr HBR.out
    by_cases hlt : k < xs.length
    · have hlt' : (k : Int) < (xs.length : Int) := by omega
      have KA : Hid (∀ w', Below w0.heap.size w0 w' → Calls Try.prog 27 #[.agg #[.pointer ua], .int .i64 (k : Nat)] w' fun e w'' => e = .returned (.tuple #[.agg #[.int .i64 (xs[k]?.getD (0, 0)).1, .int .i64 (xs[k]?.getD (0, 0)).2], .bool true]) ∧ Below w'.heap.size w' w'') := fun w' hb => TA.out k w' hlt hb
      have KB : Hid (∀ w', Below w0.heap.size w0 w' → Calls Try.prog 27 #[.agg #[.pointer ub], .int .i64 (k : Nat)] w' fun e w'' => e = .returned (.tuple #[.agg #[.int .i64 (xs[k]?.getD (0, 0)).1, .int .i64 (xs[k]?.getD (0, 0)).2], .bool true]) ∧ Below w'.heap.size w' w'') := fun w' hb => TB.out k w' hlt hb
      generalize xs[k]?.getD (0, 0) = x at *
      go_wp2_with fail
      refine (SA.out wr HBR.out).mono ?_
      rintro e w1 ⟨rfl, hb1⟩
      have HB1 := hidIt hb1
      clear q0 q1 hb1
      obtain ⟨q0, q1⟩ := HC.out w1 HB1.out
      go_wp2_with fail
      refine (KA.out w1 HB1.out).mono ?_
      rintro e w2 ⟨rfl, hb2⟩
      have HB2 := hidIt (ext_trans HB1.out hb2)
      clear q0 q1 hb2
      obtain ⟨q0, q1⟩ := HC.out w2 HB2.out
      have hs2 : w.heap.size + 1 < w2.heap.size := by have := HB2.out.size; omega
      go_wp2_with fail
      refine (KB.out _ (ext_alloc HB2.out _)).mono ?_
      rintro e w3 ⟨rfl, hb3⟩
      have HB3 := hidIt (ext_trans (ext_alloc HB2.out _) hb3)
      have y0 : w3.cell? ⟨w2.heap.size, 0, none⟩ = some (.int .i64 x.1) := (hb3.cell (p := ⟨w2.heap.size, 0, none⟩) (by simp)).trans (by simp)
      have y1 : w3.cell? ⟨w2.heap.size, 1, none⟩ = some (.int .i64 x.2) := (hb3.cell (p := ⟨w2.heap.size, 1, none⟩) (by simp)).trans (by simp)
      have hs3 : w2.heap.size < w3.heap.size := by have := hb3.size; simp at this; omega
      clear hb3 q0 q1
      go_wp2_with fail
      go_roundw
      case rel => exact ⟨k + 1, by omega, by go_num, ext_alloc HB3.out _⟩
      case measure => simp [intOf]; omega
    · have hke : k = xs.length := by omega
      subst hke
      have hge : ¬ (xs.length : Int) < (xs.length : Int) := by omega
      go_wp2_with fail
      refine (SA.out wr HBR.out).mono ?_
      rintro e w1 ⟨rfl, hb1⟩
      have HB1 := hidIt hb1
      clear hb1
      go_wp2_with fail
      go_ret
      exact ⟨rfl, ext_trans HB0.out HB1.out⟩
end Go.Proofs.Ytlnachbigchobaa
