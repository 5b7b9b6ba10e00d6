/- The document's own Upto. -/
import Derived.Test.YtlnachbigchobaaRef2
namespace Go.Proofs.Ytlnachbigchobaa
open Go.RowKit

set_option maxRecDepth 100000 in
set_option maxHeartbeats 1000000 in
theorem rUpto_any (v : Value) (xs : List It) (i : Int) (w : World) (h : RdR w v xs) (hw : wt xs ≤ 4611686018427387904) :
    Calls Try.prog 15 #[v, .int .i64 i] w fun e w' => ∃ s, Hid (s = rA.su (xs.take i.toNat)) ∧ e = .returned (.agg #[.int .i64 s.l, .int .i64 s.s, .int .i64 s.f, .int .i64 s.z]) ∧ Below w.heap.size w w' := by
  by_cases hn : xs = [] ∨ i ≤ 0
  · have HE : Hid (Rs.zero = rA.su (xs.take i.toNat)) := by
      rcases hn with rfl | hn
      · rw [List.take_nil]; rfl
      · rw [show i.toNat = 0 by omega]; rfl
    obtain ⟨ao, cap, rfl, hl, hm, h0, hc⟩ := h
    clear hc h0
    unfold maxLen at hm
    by_cases hi : i ≤ 0
    · have hi' : ¬ (0 : Int) < i := by omega
      have hi2 : decide ((0 : Int) < i) = false := by simpa using hi
      generalize xs.length = n at *
      clear hn
      go_enter Try.func15, Try.ntmps15
      go_wp2_with fail
      refine wp_loop_rounds 1 ?_
      rw [rounds_succ]
      go_wp2_with fail
      exact bodyPost_ret (v := .agg #[.int .i64 0, .int .i64 0, .int .i64 0, .int .i64 0]) (by simp [results, Try.results15, go_sem]) rfl ⟨_, HE, rfl, by repeat (first | exact Below.refl _ _ | refine ext_alloc ?_ _)⟩
    · obtain rfl : xs = [] := hn.resolve_right hi
      simp only [List.length_nil]
      have hi' : (0 : Int) < i := by omega
      go_enter Try.func15, Try.ntmps15
      go_wp2_with fail
      refine wp_loop_rounds 1 ?_
      rw [rounds_succ]
      go_wp2_with fail
      exact bodyPost_ret (v := .agg #[.int .i64 0, .int .i64 0, .int .i64 0, .int .i64 0]) (by simp [results, Try.results15, go_sem]) rfl ⟨_, HE, rfl, by repeat (first | exact Below.refl _ _ | refine ext_alloc ?_ _)⟩
  · have hn1 : xs ≠ [] := fun h => hn (.inl h)
    have hip : 0 < i := Int.not_le.1 (fun h => hn (.inr h))
    clear hn
    obtain ⟨ao, cap, rfl, hl, hm, h0, hc⟩ := h
    unfold maxLen at hm
    obtain ⟨b, off, rfl, hbl, hc⟩ := hc hn1
    have hlen : xs.length ≤ 4611686018427387904 := Nat.le_trans (wt_len xs) hw
    clear h0 hn1
    go_enter Try.func15, Try.ntmps15
    go_wp2_with fail
    go_loopw [6] (fun i' wr => ∃ k : Nat, k ≤ xs.length ∧ (k : Int) ≤ i ∧ i' = .int .i64 k ∧ Blk 29 wr w.heap.size Rs.zero ∧ Blk 29 wr (w.heap.size + 1) (rA.su (xs.take k)) ∧ Below w.heap.size w wr) (fun i' _ => xs.length - (intOf i').toNat)
    case atStart => exact ⟨0, Nat.zero_le _, by omega, rfl, (Blk.new _ w Rs.zero).ext (ext_alloc (Below.refl _ _) _), by rw [List.take_zero]; have := Blk.new 29 (w.alloc (.cells #[.int .i64 0, .int .i64 0, .int .i64 0, .int .i64 0] 29)) Rs.zero; rw [World.size_alloc] at this; exact this, by repeat (first | exact Below.refl _ _ | refine ext_alloc ?_ _)⟩
    case round =>
      obtain ⟨k, hk, hki, rfl, hA, hB, hb⟩ := hrel
      obtain ⟨a0, a1, a2, a3, af⟩ := hA.cells
      obtain ⟨b0, b1, b2, b3, bf⟩ := hB.cells
      have hsz : w.heap.size + 1 < wr.heap.size := hB.lt
      by_cases hlt : k < xs.length ∧ (k : Int) < i
      · obtain ⟨hlt, hlti⟩ := hlt
        have c0 : wr.cell? ⟨b, off + k * 2, none⟩ = some (.int .i64 (xs[k]?.getD (0, 0)).1) := (hb.cell (p := ⟨b, off + k * 2, none⟩) hbl).trans (hc k hlt).1
        have c1 : wr.cell? ⟨b, off + k * 2 + 1, none⟩ = some (.int .i64 (xs[k]?.getD (0, 0)).2) := (hb.cell (p := ⟨b, off + k * 2 + 1, none⟩) hbl).trans (hc k hlt).2
        have HT : Hid (Rs.add (rA.su (xs.take k)) (Rs.meas (xs[k]?.getD (0, 0))) = rA.su (xs.take (k + 1))) := by
          have e : xs.take k ++ [xs[k]?.getD (0, 0)] = xs.take (k + 1) := by rw [List.take_succ_eq_append_getElem hlt, List.getElem?_eq_getElem hlt]; rfl
          unfold Hid; rw [← e, Alg.su_snoc]; rfl
        have hok : (rA.su (xs.take k)).Ok := Rs.su_ok _
        have hlb : (rA.su (xs.take k)).l ≤ 4611686018427387904 := by
          have h1 := Rs.bound (xs.take k)
          have h2 := wt_app (xs.take k) (xs.drop k)
          rw [List.take_append_drop] at h2
          omega
        have BE : Hid (∀ w', Calls Try.prog 39 #[.agg #[.int .i64 (rA.su (xs.take k)).l, .int .i64 (rA.su (xs.take k)).s, .int .i64 (rA.su (xs.take k)).f, .int .i64 (rA.su (xs.take k)).z], .agg #[.int .i64 (xs[k]?.getD (0, 0)).1, .int .i64 (xs[k]?.getD (0, 0)).2]] w' fun e w'' => ∃ q, Hid (q = rA.su (xs.take (k + 1))) ∧ e = .returned (.agg #[.int .i64 q.l, .int .i64 q.s, .int .i64 q.f, .int .i64 q.z]) ∧ Below w'.heap.size w' w'') := fun w' => (behind_any _ _ w' hok hlb).mono fun _ _ ⟨q, h1, h2⟩ => ⟨q, h1.out.trans HT.out, h2⟩
        generalize xs[k]?.getD (0, 0) = x at *
        generalize rA.su (xs.take k) = s at *
        clear hc HT hok hlb
        go_wp2_with fail
        go_region_with (go_at_call 39; refine (BE.out _).mono ?_; rintro e w2 ⟨q, HQ, rfl, hb2⟩; have HB2 : Hid (Below wr.heap.size wr w2) := ext_trans (by repeat (first | exact Below.refl _ _ | apply Below.drew)) hb2; clear hb2; have hB2 := hB.ext HB2.out; obtain ⟨f0, f1, f2, f3, ff⟩ := hB2.cells)
        all_goals
          go_wp2_with fail
          obtain ⟨p1, p2⟩ := hB2.put q
          go_roundw
          case rel => exact ⟨k + 1, by omega, by omega, by go_num, (hA.ext HB2.out).other p2 (by omega), by rw [← HQ.out]; exact p1, below_put (hb.trans (HB2.out.mono (by omega))) (by have := HB2.out.size; omega) p2 (by omega)⟩
          case measure => simp [intOf]; omega
      · have HT : Hid (rA.su (xs.take k) = rA.su (xs.take i.toNat)) := by
          unfold Hid
          by_cases hk2 : k < xs.length
          · rw [show i.toNat = k by omega]
          · rw [List.take_of_length_le (l := xs) (i := k) (by omega), List.take_of_length_le (by omega)]
        generalize rA.su (xs.take k) = s at *
        clear hc
        by_cases hlti : (k : Int) < i
        · have hge : ¬ (k : Int) < (xs.length : Int) := by omega
          have hge' : ¬ k < xs.length := by omega
          go_wp2_with fail
          exact bodyPost_ret (v := .agg #[.int .i64 s.l, .int .i64 s.s, .int .i64 s.f, .int .i64 s.z]) (by simp [results, Try.results15, go_sem, a0, a1, a2, a3]) rfl ⟨s, HT, rfl, below_put hb (by omega) (hA.put s).2 (Nat.le_refl _)⟩
        · have hge : decide ((k : Int) < i) = false := by simpa using hlti
          go_wp2_with fail
          exact bodyPost_ret (v := .agg #[.int .i64 s.l, .int .i64 s.s, .int .i64 s.f, .int .i64 s.z]) (by simp [results, Try.results15, go_sem, a0, a1, a2, a3]) rfl ⟨s, HT, rfl, below_put hb (by omega) (hA.put s).2 (Nat.le_refl _)⟩
end Go.Proofs.Ytlnachbigchobaa
