/- The document's Find. -/
import Derived.Test.YtlnachbigchobaaRef4
namespace Go.Proofs.Ytlnachbigchobaa
open Go.RowKit

set_option maxRecDepth 100000 in
set_option maxHeartbeats 2000000 in
theorem rFind_any (v : Value) (xs : List It) (k n : Int) (w : World) (h : RdR w v xs) (hw : wt xs ≤ 4611686018427387904) :
    Calls Try.prog 79 #[v, .int .i64 k, .int .i64 n] w fun e w' => e = .returned (.int .i64 (rA.fnd k n Rs.zero xs : Nat)) ∧ Below w.heap.size w w' := by
  have hlen : xs.length ≤ 4611686018427387904 := Nat.le_trans (wt_len xs) hw
  have R1 := hidIt h
  have HW := hidIt hw
  obtain ⟨ao, cap, rfl, hl, hm, h0, hc⟩ := h
  unfold maxLen at hm
  clear hc h0 hw
  generalize hF : rA.fnd k n Rs.zero xs = F
  have HF := hidIt hF
  clear hF
  go_enter Try.func79, Try.ntmps79
  go_wp2_with fail
  go_loopw [8] (fun i' wr => ∃ j : Nat, j ≤ xs.length + 1 ∧ i' = .int .i64 j ∧ Blk 29 wr w.heap.size (rA.su (xs.take j)) ∧ Hid ((j ≤ xs.length → F = j + rA.fnd k n (rA.su (xs.take j)) (xs.drop j)) ∧ (xs.length < j → F = xs.length + 1)) ∧ Below w.heap.size w wr) (fun i' _ => xs.length + 1 - (intOf i').toNat)
  case atStart => exact ⟨0, Nat.zero_le _, rfl, Blk.new _ w Rs.zero, ⟨fun _ => by rw [← HF.out, List.take_zero, List.drop_zero, Alg.su_nil]; simp; rfl, fun h => by omega⟩, ext_alloc (Below.refl _ _) _⟩
  case round =>
    obtain ⟨j, hj, rfl, hB, HI, hb⟩ := hrel
    obtain ⟨b0, b1, b2, b3, bf⟩ := hB.cells
    have hsz : w.heap.size < wr.heap.size := hB.lt
    by_cases hle : j ≤ xs.length
    · have hle' : (j : Int) ≤ (xs.length : Int) := by omega
      have I1 := HI.out.1 hle
      by_cases hk : n ≤ rA.key (rA.su (xs.take j)) k
      · have HE : Hid (F = j) := by rw [I1, rA.fnd_here _ _ _ _ hk]; rfl
        have KA : Hid (Calls Try.prog 19 #[.agg #[.int .i64 (rA.su (xs.take j)).l, .int .i64 (rA.su (xs.take j)).s, .int .i64 (rA.su (xs.take j)).f, .int .i64 (rA.su (xs.take j)).z], .int .i64 k] wr fun e w'' => e = .returned (.int .i64 (rA.key (rA.su (xs.take j)) k)) ∧ Below wr.heap.size wr w'') := rKey_any _ k wr
        generalize rA.key (rA.su (xs.take j)) k = ka at *
        generalize rA.su (xs.take j) = s at *
        clear I1 HI
        go_wp2_with fail
        refine KA.out.mono ?_
        rintro e w1 ⟨rfl, hb1⟩
        have HB1 := hidIt (hb.trans (hb1.mono (by omega)))
        clear hb1
        go_wp2_with fail
        go_ret
        exact ⟨ret_int (by rw [HE.out]), HB1.out⟩
      · have hk' : decide (n ≤ rA.key (rA.su (xs.take j)) k) = false := by simpa using hk
        have KA : Hid (Calls Try.prog 19 #[.agg #[.int .i64 (rA.su (xs.take j)).l, .int .i64 (rA.su (xs.take j)).s, .int .i64 (rA.su (xs.take j)).f, .int .i64 (rA.su (xs.take j)).z], .int .i64 k] wr fun e w'' => e = .returned (.int .i64 (rA.key (rA.su (xs.take j)) k)) ∧ Below wr.heap.size wr w'') := rKey_any _ k wr
        by_cases hlt : j < xs.length
        · have hlt' : (j : Int) < (xs.length : Int) := by omega
          obtain ⟨b, off, cap', e0, _, _, hbl, hcc⟩ := R1.out.at (by omega)
          simp only [Value.slice.injEq] at e0
          obtain ⟨rfl, _, rfl⟩ := e0
          have c0w : w.cell? ⟨b, off + j * 2, none⟩ = some (.int .i64 (xs[j]?.getD (0, 0)).1) := (hcc j hlt).1
          have c1w : w.cell? ⟨b, off + j * 2 + 1, none⟩ = some (.int .i64 (xs[j]?.getD (0, 0)).2) := (hcc j hlt).2
          have HT : Hid (Rs.add (rA.su (xs.take j)) (Rs.meas (xs[j]?.getD (0, 0))) = rA.su (xs.take (j + 1))) := by
            unfold Hid; rw [← take_snoc xs j hlt, Alg.su_snoc]; rfl
          have HN : Hid ((j + 1 ≤ xs.length → F = j + 1 + rA.fnd k n (rA.su (xs.take (j + 1))) (xs.drop (j + 1))) ∧ (xs.length < j + 1 → F = xs.length + 1)) := by
            refine ⟨fun _ => ?_, fun h => by omega⟩
            have e1 : xs.drop j = xs[j]?.getD (0, 0) :: xs.drop (j + 1) := by rw [List.getElem?_eq_getElem hlt]; exact (List.getElem_cons_drop hlt).symm
            rw [e1, Alg.fnd, if_neg hk] at I1
            have e2 : rA.add (rA.su (xs.take j)) (rA.meas (xs[j]?.getD (0, 0))) = rA.su (xs.take (j + 1)) := HT.out
            rw [e2] at I1
            omega
          have hok : (rA.su (xs.take j)).Ok := Rs.su_ok _
          have hlb : (rA.su (xs.take j)).l ≤ 4611686018427387904 := by
            have h1 := Rs.bound (xs.take j)
            have h2 := wt_app (xs.take j) (xs.drop j)
            have h3 := HW.out
            rw [List.take_append_drop] at h2
            omega
          have BE : Hid (∀ w', Calls Try.prog 39 #[.agg #[.int .i64 (rA.su (xs.take j)).l, .int .i64 (rA.su (xs.take j)).s, .int .i64 (rA.su (xs.take j)).f, .int .i64 (rA.su (xs.take j)).z], .agg #[.int .i64 (xs[j]?.getD (0, 0)).1, .int .i64 (xs[j]?.getD (0, 0)).2]] w' fun e w'' => ∃ q, Hid (q = rA.su (xs.take (j + 1))) ∧ e = .returned (.agg #[.int .i64 q.l, .int .i64 q.s, .int .i64 q.f, .int .i64 q.z]) ∧ Below w'.heap.size w' w'') := fun w' => (behind_any _ _ w' hok hlb).mono fun _ _ ⟨q, h1, h2⟩ => ⟨q, h1.out.trans HT.out, h2⟩
          generalize rA.key (rA.su (xs.take j)) k = ka at *
          generalize xs[j]?.getD (0, 0) = x at *
          generalize rA.su (xs.take j) = s at *
          clear hcc HT hok hlb I1 HI
          go_wp2_with fail
          refine KA.out.mono ?_
          rintro e w1 ⟨rfl, hb1⟩
          have HW1 := hidIt (hb.trans (hb1.mono (by omega)))
          have hB1 := hB.ext hb1
          have HK1 := hidIt hb1
          clear hb1 b0 b1 b2 b3 bf
          obtain ⟨b0, b1, b2, b3, bf⟩ := hB1.cells
          have c0 := (HW1.out.cell (p := ⟨b, off + j * 2, none⟩) hbl).trans c0w
          have c1 := (HW1.out.cell (p := ⟨b, off + j * 2 + 1, none⟩) hbl).trans c1w
          have hs1 : w.heap.size < w1.heap.size := hB1.lt
          clear c0w c1w
          go_wp2_with fail
          go_region_with (go_at_call 39; refine (BE.out _).mono ?_; rintro e w2 ⟨q, HQ, rfl, hb2⟩; have HB2 : Hid (Below w1.heap.size w1 w2) := ext_trans (by repeat (first | exact Below.refl _ _ | apply Below.drew)) hb2; clear hb2; have hB2 := hB1.ext HB2.out; obtain ⟨f0, f1, f2, f3, ff⟩ := hB2.cells)
          all_goals
            go_wp2_with fail
            obtain ⟨p1, p2⟩ := hB2.put q
            go_roundw
            case rel => exact ⟨j + 1, by omega, by go_num, by rw [← HQ.out]; exact p1, HN, below_put (HW1.out.trans (HB2.out.mono (by omega))) (by have := HB2.out.size; omega) p2 (by omega)⟩
            case measure => simp [intOf]; omega
        · obtain rfl : j = xs.length := by omega
          have hge : ¬ (xs.length : Int) < (xs.length : Int) := by omega
          have HN : Hid (F = xs.length + 1) := by
            rw [List.drop_length, Alg.fnd, if_neg hk] at I1
            exact I1
          have HS : Hid (rA.su (xs.take xs.length) = rA.su (xs.take (xs.length + 1))) := by unfold Hid; rw [List.take_length, List.take_of_length_le (by omega)]
          generalize rA.key (rA.su (xs.take xs.length)) k = ka at *
          generalize rA.su (xs.take xs.length) = s at *
          clear I1 HI
          go_wp2_with fail
          refine KA.out.mono ?_
          rintro e w1 ⟨rfl, hb1⟩
          have HW1 := hidIt (hb.trans (hb1.mono (by omega)))
          have HBL := hidIt (hB.ext hb1)
          clear hb1
          go_wp2_with fail
          go_roundw
          case rel => exact ⟨xs.length + 1, by omega, by go_num, by rw [← HS.out]; exact HBL.out, ⟨fun h => by omega, fun _ => HN.out⟩, HW1.out⟩
          case measure => simp [intOf]
    · obtain rfl : j = xs.length + 1 := by omega
      have HE := hidIt (HI.out.2 (by omega))
      clear HI
      generalize rA.su (xs.take (xs.length + 1)) = s at *
      go_wp2_with fail
      go_ret
      exact ⟨ret_int (by rw [HE.out]; rfl), hb⟩
end Go.Proofs.Ytlnachbigchobaa
