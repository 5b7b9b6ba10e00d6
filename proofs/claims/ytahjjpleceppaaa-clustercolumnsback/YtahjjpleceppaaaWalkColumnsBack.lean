/- ClusterColumnsBack: the walk. -/
import Derived.Test.YtahjjpleceppaaaPass
namespace Go.Proofs.Ytahjjpleceppaaa
open Go.RowKit

theorem Cl.bs_zero (zs : List Int) : (Cl.bs zs)[0]? = some 0 := by
  have := Cl.bs_at zs 0 (Nat.zero_le _) (Cl.isB_zero zs)
  rwa [Cl.cnt_zero] at this
theorem Cl.snap_spec (zs : List Int) (a : Int) : Cl.snap zs a ≤ zs.length ∧ Cl.isB zs (Cl.snap zs a) = true ∧ Cl.snap zs a ≤ min zs.length a.toNat ∧ ∀ j, Cl.snap zs a < j → j ≤ min zs.length a.toNat → Cl.isB zs j = false := by
  unfold Cl.snap
  by_cases h0 : a < 0
  · rw [if_pos h0]; exact ⟨Nat.zero_le _, Cl.isB_zero zs, Nat.zero_le _, fun j h1 h2 => by omega⟩
  rw [if_neg h0]
  by_cases h1 : (zs.length : Int) ≤ a
  · rw [if_pos h1]; exact ⟨Nat.le_refl _, Cl.isB_end zs, by omega, fun j h1 h2 => by omega⟩
  · rw [if_neg h1]
    obtain ⟨d1, d2, d3⟩ := Cl.dn_spec zs a.toNat (by omega)
    exact ⟨by omega, d2, by omega, fun j h1 h2 => d3 j h1 (by omega)⟩
theorem Cl.ofs_col (zs : List Int) (a : Int) : Cl.ofs zs (Cl.col zs a) = Cl.snap zs a := by
  obtain ⟨h1, h2, h3, h4⟩ := Cl.snap_spec zs a
  have e : Cl.col zs a = Cl.cnt zs (Cl.snap zs a) := Cl.cnt_gap zs _ _ h3 h4
  unfold Cl.ofs
  rw [if_neg (by omega), e, Int.toNat_natCast, Cl.bs_at zs _ h1 h2]; rfl
theorem Cl.ofs_spec (zs : List Int) (c : Int) : Cl.ofs zs c ≤ zs.length ∧ Cl.isB zs (Cl.ofs zs c) = true ∧ (Cl.cnt zs (Cl.ofs zs c) : Int) = if c < 0 then 0 else if (Cl.cnt zs zs.length : Int) < c then (Cl.cnt zs zs.length : Int) else c := by
  unfold Cl.ofs
  by_cases h0 : c < 0
  · rw [if_pos h0, if_pos h0]; exact ⟨Nat.zero_le _, Cl.isB_zero zs, by rw [Cl.cnt_zero]; rfl⟩
  rw [if_neg h0, if_neg h0]
  have hl := Cl.bs_len zs
  by_cases h1 : (Cl.cnt zs zs.length : Int) < c
  · rw [if_pos h1, List.getElem?_eq_none (by omega)]
    exact ⟨Nat.le_refl _, Cl.isB_end zs, rfl⟩
  · rw [if_neg h1]
    obtain ⟨k, k1, k2, k3, k4⟩ := Cl.bs_get zs c.toNat (by omega)
    rw [k4]
    exact ⟨k1, k2, by simp only [Option.getD_some]; omega⟩
theorem Cl.isBi_nat (zs : List Int) (k : Nat) (h : k ≤ zs.length) : Cl.isBi zs (k : Int) = Cl.isB zs k := by
  unfold Cl.isBi; rw [if_pos (by omega)]; rfl
theorem Cl.col_nat (zs : List Int) (k : Nat) (h : k ≤ zs.length) : Cl.col zs (k : Int) = Cl.cnt zs k := by
  unfold Cl.col; rw [Int.toNat_natCast, Nat.min_eq_right h]

/-- A copy of the list, and a call upon it: all relative to the world at the beginning. -/
theorem copied_rel (v : Value) (zs : List Int) (w : World) (hr : Rd .i64 w v zs) (hz : zs.length * 8 ≤ 140737488355328) :
    Hid (∀ w', Below w.heap.size w w' → Calls Try.prog 17 #[v] w' fun e w'' => ∃ v', e = .returned v' ∧ Rd .i64 w'' v' zs ∧ Below w.heap.size w w'') :=
  fun w' hb => (copied_any v zs w' (hr.ext hb) hz).mono fun _ _ ⟨v', h1, h2, h3⟩ => ⟨v', h1, h2.rd, ext_trans hb h3⟩
theorem rel_of {fn : Nat} {args : Value → Array Value} {zs : List Int} {r : Value} {w : World} (h : ∀ v' w', Rd .i64 w' v' zs → Calls Try.prog fn (args v') w' fun e w'' => e = .returned r ∧ Below w'.heap.size w' w'') :
    Hid (∀ w' v', Rd .i64 w' v' zs → Below w.heap.size w w' → Calls Try.prog fn (args v') w' fun e w'' => e = .returned r ∧ Below w.heap.size w w'') :=
  fun w' v' h1 hb => (h v' w' h1).mono fun _ _ ⟨h2, h3⟩ => ⟨h2, ext_trans hb h3⟩

set_option maxRecDepth 100000 in
set_option maxHeartbeats 4000000 in
theorem law_columnsBack (v : Value) (zs : List Int) (a c : Int) (w : World) (hr : Rd .i64 w v zs) (hz : zs.length * 8 ≤ 140737488351232) :
    Calls Try.prog 5 #[v, .int .i64 a, .int .i64 c] w fun e w' => e = .returned (.bool true) ∧ Below w.heap.size w w' := by
  have CP := copied_rel v zs w hr (by omega)
  have K1 := rel_of (w := w) (fun v' w' h => Count_any v' zs w' h)
  have K2 := rel_of (w := w) (fun v' w' h => IsBreak_any v' zs 0 w' h)
  have K3 := rel_of (w := w) (fun v' w' h => Column_any v' zs a w' h)
  have K4 := rel_of (w := w) (fun v' w' h => Offset_any v' zs (Cl.col zs a) w' h)
  have K5 := rel_of (w := w) (fun v' w' h => Snap_any v' zs a w' h)
  have K6 := rel_of (w := w) (fun v' w' h => Offset_any v' zs c w' h)
  have K7 := rel_of (w := w) (fun v' w' h => IsBreak_any v' zs (Cl.ofs zs c) w' h)
  have K8 := rel_of (w := w) (fun v' w' h => Column_any v' zs (Cl.ofs zs c) w' h)
  obtain ⟨o1, o2, o3⟩ := Cl.ofs_spec zs c
  rw [show Cl.isBi zs 0 = true from (Cl.isBi_nat zs 0 (Nat.zero_le _)).trans (Cl.isB_zero zs)] at K2
  rw [Cl.ofs_col] at K4
  rw [Cl.isBi_nat zs _ o1, o2] at K7
  rw [Cl.col_nat zs _ o1] at K8
  have hn := Cl.cnt_le zs zs.length
  have hn0 : 0 < zs.length → 0 < Cl.cnt zs zs.length := fun h => Cl.cnt_pos zs _ h (Cl.isB_end zs)
  obtain ⟨ao, cap, rfl, hl, hm, _⟩ := hr
  unfold maxLen at hm
  generalize Cl.cnt zs zs.length = n at *
  generalize Cl.cnt zs (Cl.ofs zs c) = m at *
  generalize Cl.ofs zs c = p at *
  generalize Cl.snap zs a = q at *
  generalize Cl.col zs a = r at *
  generalize hL : zs.length = L at *
  have hb := Below.refl w.heap.size w
  have hLn : (L = 0 ∧ n = 0) ∨ (0 < L ∧ 0 < n) := by omega
  rcases (show c < 0 ∨ (0 ≤ c ∧ c ≤ (n : Int)) ∨ (0 ≤ c ∧ (n : Int) < c) from by omega) with h | ⟨h, h'⟩ | ⟨h, h'⟩ <;> rcases hLn with ⟨rfl, rfl⟩ | ⟨hL1, hn1⟩
  all_goals
    first | rw [if_pos h] at o3 | rw [if_neg (by omega), if_neg (by omega)] at o3 | rw [if_neg (by omega), if_pos h'] at o3
    first | have hd1 : decide ((L : Int) < (n : Int)) = false := by simp; omega
          | skip
    first | have hd2 : decide ((n : Int) < 1) = false := by simp; omega
          | skip
    first | have hd3 : ((L : Int) == 0) = false := by rw [beq_eq_false_iff_ne]; omega
          | skip
    first | have hd4 : decide ((n : Int) < c) = false := by simp; omega
          | skip
    go_enter Try.func5, Try.ntmps5
    go_wp2_with fail
    refine (CP.out _ hb).mono ?_
    rintro e w1 ⟨v1, rfl, hr1, hb1⟩
    go_wp2_with fail
    refine (K1.out _ _ hr1 hb1).mono ?_
    rintro e w2 ⟨rfl, hb2⟩
    go_wp2_with fail
    refine (CP.out _ hb2).mono ?_
    rintro e w3 ⟨v3, rfl, hr3, hb3⟩
    go_wp2_with fail
    refine (K2.out _ _ hr3 hb3).mono ?_
    rintro e w4 ⟨rfl, hb4⟩
    go_wp2_with fail
    refine (CP.out _ hb4).mono ?_
    rintro e w5 ⟨v5, rfl, hr5, hb5⟩
    go_wp2_with fail
    refine (K3.out _ _ hr5 hb5).mono ?_
    rintro e w6 ⟨rfl, hb6⟩
    go_wp2_with fail
    refine (CP.out _ hb6).mono ?_
    rintro e w7 ⟨v7, rfl, hr7, hb7⟩
    go_wp2_with fail
    refine (K4.out _ _ hr7 hb7).mono ?_
    rintro e w8 ⟨rfl, hb8⟩
    go_wp2_with fail
    refine (CP.out _ hb8).mono ?_
    rintro e w9 ⟨v9, rfl, hr9, hb9⟩
    go_wp2_with fail
    refine (K5.out _ _ hr9 hb9).mono ?_
    rintro e w10 ⟨rfl, hb10⟩
    go_wp2_with fail
    refine (CP.out _ hb10).mono ?_
    rintro e w11 ⟨v11, rfl, hr11, hb11⟩
    go_wp2_with fail
    refine (K6.out _ _ hr11 hb11).mono ?_
    rintro e w12 ⟨rfl, hb12⟩
    go_wp2_with fail
    refine (CP.out _ hb12).mono ?_
    rintro e w13 ⟨v13, rfl, hr13, hb13⟩
    go_wp2_with fail
    refine (K7.out _ _ hr13 hb13).mono ?_
    rintro e w14 ⟨rfl, hb14⟩
    go_wp2_with fail
    refine (CP.out _ hb14).mono ?_
    rintro e w15 ⟨v15, rfl, hr15, hb15⟩
    go_wp2_with fail
    refine (K8.out _ _ hr15 hb15).mono ?_
    rintro e w16 ⟨rfl, hb16⟩
    go_wp2_with fail
    go_ret
    first | exact ⟨rfl, hb16⟩ | exact ⟨ret_bool (by rw [beq_iff_eq]; omega), hb16⟩
end Go.Proofs.Ytahjjpleceppaaa
