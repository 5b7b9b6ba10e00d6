/- The document's Breaks, Next, Snap, Prev, Count, Column, Offset. -/
import Derived.Test.YtahjjpleceppaaaRBreak
import Derived.Test.YtahjjpleceppaaaPure2
namespace Go.Proofs.Ytahjjpleceppaaa
open Go.RowKit

set_option maxRecDepth 100000 in
set_option maxHeartbeats 1000000 in
theorem rBreaks_any (v : Value) (zs : List Int) (w : World) (hr : Rd .i64 w v zs) (hz : zs.length * 8 + 8 ≤ 140737488355328) :
    Calls Try.prog 31 #[v] w fun e w' => ∃ v', e = .returned v' ∧ Own w' w.heap.size v' (Cl.bi zs) ∧ Below w.heap.size w w' := by
  have HR : Hid (Rd .i64 w v zs) := hr
  obtain ⟨i0, hi, hz0, hz1, hz2⟩ := info_parts Try.info_i64
  obtain ⟨ao, cap, rfl⟩ : ∃ ao cap, v = .slice ao zs.length cap := by obtain ⟨ao, cap, hv, _⟩ := hr; exact ⟨ao, cap, hv⟩
  clear hr
  unfold Own
  go_enter Try.func31, Try.ntmps31
  go_wp2_with fail
  go_loopw [3, 4] (fun o i wr => ∃ k : Nat, k ≤ zs.length + 1 ∧ i = .int .i64 k ∧ wr.ownsRow w.heap.size 3 1 o (Cl.bl zs k).length (((Cl.bl zs k).map fun (n : Nat) => (n : Int)).map (Value.int .i64)) ∧ Below w.heap.size w wr) (fun _ i _ => zs.length + 1 - (intOf i).toNat)
  case atStart => exact ⟨0, Nat.zero_le _, rfl, World.ownsRow_nil _ _ _ _, Below.refl _ _⟩
  case round =>
    obtain ⟨k, hk, rfl, hown, hb⟩ := hrel
    have hz' : w.heap.size ≤ wr.heap.size := hb.size
    have HBW : Hid (Below w.heap.size w wr) := hb
    by_cases hlt : k ≤ zs.length
    · have KB : Hid (Calls Try.prog 32 #[.slice ao zs.length cap, .int .i64 k] wr fun e w' => e = .returned (.bool (Cl.isB zs k)) ∧ w' = wr) := by
        have := rIsBreak_any _ zs (k : Int) wr (HR.out.ext hb)
        unfold Cl.isBi at this
        rwa [if_pos (by omega), Int.toNat_natCast] at this
      have hbl := Cl.bl_len zs k
      cases hI : Cl.isB zs k with
      | true =>
        rw [hI] at KB
        have HT : Hid (((Cl.bl zs (k + 1)).map fun (n : Nat) => (n : Int)).map (Value.int .i64) = ((Cl.bl zs k).map fun (n : Nat) => (n : Int)).map (Value.int .i64) ++ [.int .i64 k] ∧ (Cl.bl zs (k + 1)).length = (Cl.bl zs k).length + 1) := by
          unfold Hid; rw [Cl.bl_yes zs k hI]; simp
        generalize ((Cl.bl zs k).map fun (n : Nat) => (n : Int)).map (Value.int .i64) = xs at *
        generalize (Cl.bl zs k).length = m at *
        go_wp2_with (first | (go_at_call 32; refine KB.out.mono ?_; rintro e w1 ⟨rfl, hw1⟩; obtain rfl : wr = w1 := hw1.symm) | (at_builtin; refine wpList_append_own _ rfl _ _ 22 rfl w.heap.size 3 i0 (.int .i64 0) 1 8 Try.underlying22 hi hz0 hz1 hz2 rfl (by decide) _ _ _ rfl (hown.alloc _) ⟨wr.heap.size, 0, none⟩ 1 1 [.int .i64 k] rfl rfl (cell_one_new _ _ _) (one_i64 _) (by unfold maxLen; omega) (by omega) (by simp; omega) ?_; intro v' w' hown' hg' hx'))
        go_roundw
        case rel => exact ⟨k + 1, by omega, by go_num, by rw [HT.out.1, HT.out.2]; exact hown', below_push HBW.out hown hg'⟩
        case measure => simp [intOf]; omega
      | false =>
        rw [hI] at KB
        have HT : Hid (Cl.bl zs (k + 1) = Cl.bl zs k) := Cl.bl_no zs k hI
        go_wp2_with (go_at_call 32; refine KB.out.mono ?_; rintro e w1 ⟨rfl, hw1⟩; obtain rfl : wr = w1 := hw1.symm)
        go_roundw
        case rel => exact ⟨k + 1, by omega, by go_num, by rw [HT.out]; exact hown, HBW.out⟩
        case measure => simp [intOf]; omega
    · have hke : k = zs.length + 1 := by omega
      subst hke
      have HT : Hid (((Cl.bl zs (zs.length + 1)).map fun (n : Nat) => (n : Int)).map (Value.int .i64) = (Cl.bi zs).map (Value.int .i64) ∧ (Cl.bl zs (zs.length + 1)).length = (Cl.bi zs).length) := ⟨rfl, by unfold Cl.bi Cl.bs; rw [List.length_map]⟩
      go_wp2
      go_ret
      exact ⟨_, rfl, by rw [← HT.out.1, ← HT.out.2]; exact hown, HBW.out⟩

set_option maxRecDepth 100000 in
theorem rNext_any (v : Value) (zs : List Int) (a : Int) (w : World) (hr : Rd .i64 w v zs) :
    Calls Try.prog 37 #[v, .int .i64 a] w fun e w' => e = .returned (.int .i64 (Cl.next zs a)) ∧ w' = w := by
  have HR : Hid (Rd .i64 w v zs) := hr
  have hlen := hr.len
  obtain ⟨ao, cap, rfl⟩ : ∃ ao cap, v = .slice ao zs.length cap := by obtain ⟨ao, cap, hv, _⟩ := hr; exact ⟨ao, cap, hv⟩
  clear hr
  by_cases h0 : a < 0
  · have HQ : Hid (Cl.next zs a = 0) := by unfold Hid Cl.next; rw [if_pos h0]
    go_enter Try.func37, Try.ntmps37
    go_wp2
    go_ret
    exact ⟨ret_int (by rw [HQ.out]; rfl), rfl⟩
  obtain ⟨p, rfl⟩ : ∃ p : Nat, a = p := ⟨a.toNat, by omega⟩
  have HQ : Hid (p < zs.length → Cl.next zs (p : Int) = Cl.up zs (p + 1)) := fun h => by unfold Cl.next; rw [if_neg h0, if_neg (by omega)]; rfl
  have HQ2 : Hid (zs.length ≤ p → Cl.next zs (p : Int) = zs.length) := fun h => by unfold Cl.next; rw [if_neg h0, if_pos (by omega)]
  go_enter Try.func37, Try.ntmps37
  go_wp2_with fail
  go_loop [5] (fun i => ∃ k : Nat, p ≤ k ∧ i = .int .i64 k ∧ (k = p ∨ (k ≤ zs.length ∧ Hid (Cl.up zs (p + 1) = Cl.up zs k)))) (fun i => zs.length - (intOf i).toNat)
  case atStart => exact ⟨p, Nat.le_refl _, rfl, .inl rfl⟩
  case round =>
    obtain ⟨k, hk, rfl, hc⟩ := hrel
    by_cases hlt : k < zs.length
    · have KB : Hid (Calls Try.prog 32 #[.slice ao zs.length cap, .int .i64 k] w fun e w' => e = .returned (.bool (Cl.isB zs k)) ∧ w' = w) := by
        have := rIsBreak_any _ zs (k : Int) w HR.out
        unfold Cl.isBi at this
        rwa [if_pos (by omega), Int.toNat_natCast] at this
      by_cases hkp : k = p
      · subst hkp
        have hd : decide ((k : Int) < (k : Int)) = false := by simp
        cases hI : Cl.isB zs k with
        | true =>
          rw [hI] at KB
          go_wp2_with (go_at_call 32; refine KB.out.mono ?_; rintro e w1 ⟨rfl, hw1⟩; obtain rfl : w = w1 := hw1.symm)
          go_round
          case rel => exact ⟨k + 1, by omega, by go_num, .inr ⟨by omega, rfl⟩⟩
          case measure => simp [intOf]; omega
        | false =>
          rw [hI] at KB
          go_wp2_with (go_at_call 32; refine KB.out.mono ?_; rintro e w1 ⟨rfl, hw1⟩; obtain rfl : w = w1 := hw1.symm)
          go_round
          case rel => exact ⟨k + 1, by omega, by go_num, .inr ⟨by omega, rfl⟩⟩
          case measure => simp [intOf]; omega
      · have HU : Hid (Cl.up zs (p + 1) = Cl.up zs k) := by
          rcases hc with h | h
          · exact absurd h hkp
          · exact h.2
        have hd : decide ((p : Int) < (k : Int)) = true := by simp; omega
        have hjk := Cl.isB_mid zs k (by omega) hlt
        clear hc
        cases hj : Cl.jn zs k with
        | true =>
          rw [hjk, hj] at KB
          have KB' : Hid (Calls Try.prog 32 #[.slice ao zs.length cap, .int .i64 k] w fun e w' => e = .returned (.bool false) ∧ w' = w) := KB
          have HU' : Hid (Cl.up zs (p + 1) = Cl.up zs (k + 1)) := HU.out.trans (Cl.up_no zs k hlt hj)
          clear hjk KB
          go_wp2_with (go_at_call 32; refine KB'.out.mono ?_; rintro e w1 ⟨rfl, hw1⟩; obtain rfl : w = w1 := hw1.symm)
          go_round
          case rel => exact ⟨k + 1, by omega, by go_num, .inr ⟨by omega, HU'.out⟩⟩
          case measure => simp [intOf]; omega
        | false =>
          rw [hjk, hj] at KB
          have KB' : Hid (Calls Try.prog 32 #[.slice ao zs.length cap, .int .i64 k] w fun e w' => e = .returned (.bool true) ∧ w' = w) := KB
          have HU' : Hid (Cl.next zs (p : Int) = k) := (HQ.out (by omega)).trans (HU.out.trans (Cl.up_yes zs k hlt hj))
          clear hjk KB
          go_wp2_with (go_at_call 32; refine KB'.out.mono ?_; rintro e w1 ⟨rfl, hw1⟩; obtain rfl : w = w1 := hw1.symm)
          go_ret
          exact ⟨ret_int (by rw [HU'.out]), rfl⟩
    · have HU' : Hid (Cl.next zs (p : Int) = zs.length) := by
        unfold Hid
        by_cases hp : p < zs.length
        · rcases hc with h | h
          · omega
          · rw [HQ.out hp, h.2.out, Cl.up_end zs k (by omega)]
        · exact HQ2.out (by omega)
      clear hc
      go_wp2
      go_ret
      exact ⟨ret_int (by rw [HU'.out]), rfl⟩

set_option maxRecDepth 100000 in
theorem rSnap_any (v : Value) (zs : List Int) (a : Int) (w : World) (hr : Rd .i64 w v zs) :
    Calls Try.prog 39 #[v, .int .i64 a] w fun e w' => e = .returned (.int .i64 (Cl.snap zs a)) ∧ w' = w := by
  have HR : Hid (Rd .i64 w v zs) := hr
  have hlen := hr.len
  obtain ⟨ao, cap, rfl⟩ : ∃ ao cap, v = .slice ao zs.length cap := by obtain ⟨ao, cap, hv, _⟩ := hr; exact ⟨ao, cap, hv⟩
  clear hr
  obtain ⟨s1, s2, s3, s4⟩ := Cl.snap_spec zs a
  have HS : Hid (Cl.isB zs (Cl.snap zs a) = true ∧ ∀ j, Cl.snap zs a < j → j ≤ min zs.length a.toNat → Cl.isB zs j = false) := ⟨s2, s4⟩
  have HS0 : Hid (a < 0 → Cl.snap zs a = 0) := fun h => by unfold Cl.snap; rw [if_pos h]
  clear s2 s4
  by_cases h1 : (zs.length : Int) < a
  · go_enter Try.func39, Try.ntmps39
    go_wp2_with fail
    go_loop [5] (fun i => ∃ k : Nat, k ≤ zs.length ∧ i = .int .i64 k ∧ Cl.snap zs a ≤ k) (fun i => (intOf i).toNat)
    case atStart => exact ⟨zs.length, Nat.le_refl _, rfl, s1⟩
    case round =>
      obtain ⟨k, hk, rfl, hc⟩ := hrel
      cases k with
      | zero =>
        have HZ : Hid (Cl.snap zs a = 0) := by unfold Hid; omega
        go_wp2
        go_ret
        exact ⟨ret_int (by rw [HZ.out]; rfl), rfl⟩
      | succ k =>
        have KB : Hid (Calls Try.prog 32 #[.slice ao zs.length cap, .int .i64 (k + 1 : Nat)] w fun e w' => e = .returned (.bool (Cl.isB zs (k + 1))) ∧ w' = w) := by
          have := rIsBreak_any _ zs ((k + 1 : Nat) : Int) w HR.out
          unfold Cl.isBi at this
          rwa [if_pos (by omega), Int.toNat_natCast] at this
        have hki : ((k + 1 : Nat) : Int) - 1 = (k : Int) := by omega
        cases hI : Cl.isB zs (k + 1) with
        | true =>
          rw [hI] at KB
          have HZ : Hid (Cl.snap zs a = k + 1) := by
            unfold Hid
            rcases Nat.lt_or_ge (Cl.snap zs a) (k + 1) with h | h
            · have := HS.out.2 (k + 1) h (by omega); rw [hI] at this; cases this
            · omega
          go_wp2_with (go_at_call 32; refine KB.out.mono ?_; rintro e w1 ⟨rfl, hw1⟩; obtain rfl : w = w1 := hw1.symm)
          go_ret
          exact ⟨ret_int (by rw [HZ.out]; rfl), rfl⟩
        | false =>
          rw [hI] at KB
          have hle : Cl.snap zs a ≤ k := by
            rcases Nat.lt_or_ge k (Cl.snap zs a) with h | h
            · have e : Cl.snap zs a = k + 1 := by omega
              have := HS.out.1; rw [e, hI] at this; cases this
            · exact h
          go_wp2_with (go_at_call 32; refine KB.out.mono ?_; rintro e w1 ⟨rfl, hw1⟩; obtain rfl : w = w1 := hw1.symm)
          go_round
          case rel => exact ⟨k, by omega, by go_num, hle⟩
          case measure => simp [intOf]
  · have hd : decide ((zs.length : Int) < a) = false := by simp; omega
    go_enter Try.func39, Try.ntmps39
    go_wp2_with fail
    go_loop [5] (fun i => ∃ x : Int, x ≤ a ∧ (x < 0 → x = a) ∧ i = .int .i64 x ∧ (Cl.snap zs a ≤ x.toNat)) (fun i => (intOf i).toNat)
    case atStart => exact ⟨a, Int.le_refl _, fun _ => rfl, rfl, by omega⟩
    case round =>
      obtain ⟨x, hx, hxa, rfl, hc⟩ := hrel
      by_cases hx0 : x ≤ 0
      · have HZ : Hid (Cl.snap zs a = 0) := by unfold Hid; omega
        go_wp2
        go_ret
        exact ⟨ret_int (by rw [HZ.out]; rfl), rfl⟩
      · obtain ⟨k, rfl⟩ : ∃ k : Nat, x = ((k + 1 : Nat) : Int) := ⟨x.toNat - 1, by omega⟩
        have KB : Hid (Calls Try.prog 32 #[.slice ao zs.length cap, .int .i64 (k + 1 : Nat)] w fun e w' => e = .returned (.bool (Cl.isB zs (k + 1))) ∧ w' = w) := by
          have := rIsBreak_any _ zs ((k + 1 : Nat) : Int) w HR.out
          unfold Cl.isBi at this
          rwa [if_pos (by omega), Int.toNat_natCast] at this
        have hki : ((k + 1 : Nat) : Int) - 1 = (k : Int) := by omega
        rw [Int.toNat_natCast] at hc
        cases hI : Cl.isB zs (k + 1) with
        | true =>
          rw [hI] at KB
          have HZ : Hid (Cl.snap zs a = k + 1) := by
            unfold Hid
            rcases Nat.lt_or_ge (Cl.snap zs a) (k + 1) with h | h
            · have := HS.out.2 (k + 1) h (by omega); rw [hI] at this; cases this
            · omega
          clear hxa
          go_wp2_with (go_at_call 32; refine KB.out.mono ?_; rintro e w1 ⟨rfl, hw1⟩; obtain rfl : w = w1 := hw1.symm)
          go_ret
          exact ⟨ret_int (by rw [HZ.out]; rfl), rfl⟩
        | false =>
          rw [hI] at KB
          have hle : Cl.snap zs a ≤ k := by
            rcases Nat.lt_or_ge k (Cl.snap zs a) with h | h
            · have e : Cl.snap zs a = k + 1 := by omega
              have := HS.out.1; rw [e, hI] at this; cases this
            · exact h
          clear hxa
          go_wp2_with (go_at_call 32; refine KB.out.mono ?_; rintro e w1 ⟨rfl, hw1⟩; obtain rfl : w = w1 := hw1.symm)
          go_round
          case rel => exact ⟨k, by omega, fun h => by omega, by go_num, by omega⟩
          case measure => simp [intOf]
end Go.Proofs.Ytahjjpleceppaaa
