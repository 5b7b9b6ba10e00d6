/- KeysCount: the walk. -/
import Derived.Test.YtdbmgjkgfmdmjaaKFed
import Derived.Test.YtdbmgjkgfmdmjaaKWrit
namespace Go.Proofs.Ytdbmgjkgfmdmjaa
open Go.RowKit
theorem k_and14 (n : Int) : ∃ x : Nat, bits .and .i64 n 16383 = (x : Int) ∧ x < 16384 := by
  have h3 : (BitVec.ofInt 64 16383).toNat = 2 ^ 14 - 1 := by decide
  have key : (BitVec.ofInt 64 n &&& BitVec.ofInt 64 16383).toNat = (n % ((2 ^ 64 : Nat) : Int)).toNat % 2 ^ 14 := by
    rw [BitVec.toNat_and, BitVec.toNat_ofInt, h3, Nat.and_two_pow_sub_one_eq_mod]
  refine ⟨(n % ((2 ^ 64 : Nat) : Int)).toNat % 16384, ?_, Nat.mod_lt _ (by decide)⟩
  show IntKind.i64.wrap ((BitVec.ofInt 64 n &&& BitVec.ofInt 64 16383).toNat : Nat) = _
  rw [key, IntKind.wrap_i64]
  omega
theorem k_and10 (n : Int) : ∃ x : Nat, bits .and .i64 n 1023 = (x : Int) ∧ x < 1024 := by
  have h3 : (BitVec.ofInt 64 1023).toNat = 2 ^ 10 - 1 := by decide
  have key : (BitVec.ofInt 64 n &&& BitVec.ofInt 64 1023).toNat = (n % ((2 ^ 64 : Nat) : Int)).toNat % 2 ^ 10 := by
    rw [BitVec.toNat_and, BitVec.toNat_ofInt, h3, Nat.and_two_pow_sub_one_eq_mod]
  refine ⟨(n % ((2 ^ 64 : Nat) : Int)).toNat % 1024, ?_, Nat.mod_lt _ (by decide)⟩
  show IntKind.i64.wrap ((BitVec.ofInt 64 n &&& BitVec.ofInt 64 1023).toNat : Nat) = _
  rw [key, IntKind.wrap_i64]
  omega
theorem k_and4 (n : Int) : ∃ x : Nat, bits .and .i64 n 15 = (x : Int) ∧ x < 16 := by
  have h3 : (BitVec.ofInt 64 15).toNat = 2 ^ 4 - 1 := by decide
  have key : (BitVec.ofInt 64 n &&& BitVec.ofInt 64 15).toNat = (n % ((2 ^ 64 : Nat) : Int)).toNat % 2 ^ 4 := by
    rw [BitVec.toNat_and, BitVec.toNat_ofInt, h3, Nat.and_two_pow_sub_one_eq_mod]
  refine ⟨(n % ((2 ^ 64 : Nat) : Int)).toNat % 16, ?_, Nat.mod_lt _ (by decide)⟩
  show IntKind.i64.wrap ((BitVec.ofInt 64 n &&& BitVec.ofInt 64 15).toNat : Nat) = _
  rw [key, IntKind.wrap_i64]
  omega
theorem own_lit2 (w : World) (x y : Int) (base : Nat) (hb : base ≤ w.heap.size) : OwnI (w.alloc (.cells #[.int .i64 x, .int .i64 y] 3)) base (.slice (some ⟨w.heap.size, 0, none⟩) 2 2) [x, y] :=
  ⟨rfl, .inr ⟨w.heap.size, 2, #[.int .i64 x, .int .i64 y], rfl, hb, heap_alloc_new _ _, Nat.le_refl _, by decide, rfl, rfl⟩⟩
theorem written_one (x : Nat) (hx : x < 99999) (w : World) : Calls Try.prog 6 #[.int .i64 (1 + (x : Int))] w fun e w' => ∃ v, e = .returned v ∧ OwnI w' w.heap.size v (dg 20 (1 + x)) ∧ Below w.heap.size w w' := by
  have h := written_any (1 + x) (by omega) w
  rw [show ((1 + x : Nat) : Int) = 1 + (x : Int) by omega] at h
  exact h
theorem ext_base {w y z : World} (hb : Below w.heap.size w y) (h : Below y.heap.size y z) : Below w.heap.size w z := ext_trans hb h
set_option maxRecDepth 100000 in
set_option maxHeartbeats 8000000 in
theorem count_any (a b c nm : Int) (w : World) :
    Calls Try.prog 4 #[.int .i64 a, .int .i64 b, .int .i64 c, .int .i64 nm] w fun e w' => e = .returned (.bool true) ∧ Below w.heap.size w w' := by
  obtain ⟨xa, ea, la⟩ := k_and14 a
  obtain ⟨xb, eb, lb⟩ := k_and10 b
  obtain ⟨xc, ec, lc⟩ := k_and14 c
  obtain ⟨xn, en, ln⟩ := k_and4 nm
  have HW1 := hidIt (written_one xa (by omega))
  have HW2 := hidIt (written_one xb (by omega))
  have HW3 := hidIt (written_one xc (by omega))
  have HCK := hidIt (count_keys (f := 20) (a := 1 + xa) (b := 1 + xb) (c := 1 + xc) (x := 97 + (xn : Int)) (Nat.lt_of_lt_of_le (show 1 + xa < 100000 by omega) (by decide)) (Nat.lt_of_lt_of_le (show 1 + xb < 100000 by omega) (by decide)) (Nat.lt_of_lt_of_le (show 1 + xc < 100000 by omega) (by decide)) (by omega) (by omega) (by omega) (by omega) (by omega))
  have HLA := hidIt (dg_len 20 (1 + xa))
  have HLB2 := hidIt (dg_len 20 (1 + xb))
  have HLC := hidIt (dg_len 20 (1 + xc))
  have HMA := hidIt (dg_mem 20 (1 + xa))
  have HMB := hidIt (dg_mem 20 (1 + xb))
  have HMC := hidIt (dg_mem 20 (1 + xc))
  generalize dg 20 (1 + xa) = da at *
  generalize dg 20 (1 + xb) = db at *
  generalize dg 20 (1 + xc) = dc at *
  obtain ⟨l1, HE1⟩ : ∃ l, Hid (l = [] ++ da) := ⟨_, hidIt rfl⟩
  obtain ⟨l2, HE2⟩ : ∃ l, Hid (l = l1 ++ [34, 97 + (xn : Int)]) := ⟨_, hidIt rfl⟩
  obtain ⟨l3, HE3⟩ : ∃ l, Hid (l = l2 ++ db) := ⟨_, hidIt rfl⟩
  obtain ⟨l4, HE4⟩ : ∃ l, Hid (l = l3 ++ [100]) := ⟨_, hidIt rfl⟩
  obtain ⟨l5, HE5⟩ : ∃ l, Hid (l = l4 ++ dc) := ⟨_, hidIt rfl⟩
  obtain ⟨l6, HE6⟩ : ∃ l, Hid (l = l5 ++ [106]) := ⟨_, hidIt rfl⟩
  have HLB : Hid (da.length ≤ 20 ∧ db.length ≤ 20 ∧ dc.length ≤ 20 ∧ l1.length ≤ 20 ∧ l2.length ≤ 22 ∧ l3.length ≤ 42 ∧ l4.length ≤ 43 ∧ l5.length ≤ 63 ∧ l6.length ≤ 64) := by
    have h1 := HLA.out; have h2 := HLB2.out; have h3 := HLC.out
    unfold Hid
    rw [HE6.out, HE5.out, HE4.out, HE3.out, HE2.out, HE1.out]
    simp only [List.length_append, List.length_cons, List.length_nil]
    omega
  have HL6 : Hid (l6 = da ++ [34] ++ [97 + (xn : Int)] ++ db ++ [100] ++ dc ++ [106]) := by
    unfold Hid
    rw [HE6.out, HE5.out, HE4.out, HE3.out, HE2.out, HE1.out]
    simp
  rw [← HL6.out] at HCK
  have HI6 : Hid (∀ k ∈ l6, In64 k) := by
    intro k hk
    rw [HL6.out] at hk
    simp only [List.mem_append, List.mem_singleton] at hk
    have hb : 0 ≤ k ∧ k ≤ 1000 := by
      rcases hk with ((((((hk | hk) | hk) | hk) | hk) | hk) | hk)
      · have := HMA.out k hk; omega
      · omega
      · omega
      · have := HMB.out k hk; omega
      · omega
      · have := HMC.out k hk; omega
      · omega
    exact In64.of (by omega) (by omega)
  clear HLA HLB2 HLC HMA HMB HMC HL6
  go_enter Try.func4, Try.ntmps4
  go_upto_region 6 with fail
  go_upto_region 7 with (first | (go_at_call 6; refine (HW1.out _).mono ?_; rintro e y1 ⟨v1, rfl, own, hb⟩; (try dsimp only); have HV1 := hidIt own; have HB1 := hidIt hb; clear own hb) | (at_builtin; refine wpl_ints rfl _ _ 32 rfl w.heap.size Try.info_i64 Try.underlying32 _ [] rfl (OwnI.nil _ _) _ da rfl ((HV1.out).rds) (by first | (have := HLB.out; omega) | (simp; have := HLB.out; omega)) (HB1.out.size) ?_; intro u1 x1 own hbb; have HC1 := hidIt (HB1.out.trans hbb); rw [← HE1.out] at own; obtain ⟨a1, c1, rfl, _⟩ := own.rds.len; have HO1 := hidIt own; clear own hbb; (try dsimp only)))
  go_upto_region 8 with (at_builtin; refine wpl_ints rfl _ _ 32 rfl w.heap.size Try.info_i64 Try.underlying32 _ l1 rfl (HO1.out.ext (ext_alloc (Below.refl _ _) _)) _ [34, 97 + (xn : Int)] rfl ((own_lit2 x1 34 (97 + (xn : Int)) w.heap.size HC1.out.size).rds) (by first | (have := HLB.out; omega) | (simp; have := HLB.out; omega)) ((ext_alloc HC1.out _).size) ?_; intro u2 x2 own hbb; have HC2 := hidIt ((ext_alloc HC1.out _).trans hbb); rw [← HE2.out] at own; obtain ⟨a2, c2, rfl, _⟩ := own.rds.len; have HO2 := hidIt own; clear own hbb; (try dsimp only))
  clear HO1 HC1 HV1 HB1
  go_upto_region 9 with (first | (go_at_call 6; refine (HW2.out _).mono ?_; rintro e y2 ⟨v2, rfl, own, hb⟩; (try dsimp only); have HV2 := hidIt own; have HB2 := hidIt hb; clear own hb) | (at_builtin; refine wpl_ints rfl _ _ 32 rfl w.heap.size Try.info_i64 Try.underlying32 _ l2 rfl (HO2.out.ext HB2.out) _ db rfl (HV2.out.rds) (by first | (have := HLB.out; omega) | (simp; have := HLB.out; omega)) ((ext_trans HC2.out HB2.out).size) ?_; intro u3 x3 own hbb; have HC3 := hidIt ((ext_trans HC2.out HB2.out).trans hbb); rw [← HE3.out] at own; obtain ⟨a3, c3, rfl, _⟩ := own.rds.len; have HO3 := hidIt own; clear own hbb; (try dsimp only)))
  clear HO2 HC2 HV2 HB2
  go_upto_region 10 with (at_builtin; refine wpl_ints rfl _ _ 32 rfl w.heap.size Try.info_i64 Try.underlying32 _ l3 rfl (HO3.out.ext (ext_alloc (Below.refl _ _) _)) _ [100] rfl ((own_lit1 x3 100 w.heap.size HC3.out.size).rds) (by first | (have := HLB.out; omega) | (simp; have := HLB.out; omega)) ((ext_alloc HC3.out _).size) ?_; intro u4 x4 own hbb; have HC4 := hidIt ((ext_alloc HC3.out _).trans hbb); rw [← HE4.out] at own; obtain ⟨a4, c4, rfl, _⟩ := own.rds.len; have HO4 := hidIt own; clear own hbb; (try dsimp only))
  clear HO3 HC3
  go_upto_region 11 with (first | (go_at_call 6; refine (HW3.out _).mono ?_; rintro e y3 ⟨v3, rfl, own, hb⟩; (try dsimp only); have HV3 := hidIt own; have HB3 := hidIt hb; clear own hb) | (at_builtin; refine wpl_ints rfl _ _ 32 rfl w.heap.size Try.info_i64 Try.underlying32 _ l4 rfl (HO4.out.ext HB3.out) _ dc rfl (HV3.out.rds) (by first | (have := HLB.out; omega) | (simp; have := HLB.out; omega)) ((ext_trans HC4.out HB3.out).size) ?_; intro u5 x5 own hbb; have HC5 := hidIt ((ext_trans HC4.out HB3.out).trans hbb); rw [← HE5.out] at own; obtain ⟨a5, c5, rfl, _⟩ := own.rds.len; have HO5 := hidIt own; clear own hbb; (try dsimp only)))
  clear HO4 HC4 HV3 HB3
  go_upto_region 12 with (at_builtin; refine wpl_ints rfl _ _ 32 rfl w.heap.size Try.info_i64 Try.underlying32 _ l5 rfl (HO5.out.ext (ext_alloc (Below.refl _ _) _)) _ [106] rfl ((own_lit1 x5 106 w.heap.size HC5.out.size).rds) (by first | (have := HLB.out; omega) | (simp; have := HLB.out; omega)) ((ext_alloc HC5.out _).size) ?_; intro u6 x6 own hbb; have HC6 := hidIt ((ext_alloc HC5.out _).trans hbb); rw [← HE6.out] at own; obtain ⟨a6, c6, rfl, _⟩ := own.rds.len; have HO6 := hidIt own; clear own hbb; (try dsimp only))
  clear HO5 HC5
  obtain ⟨A1, HA1⟩ : ∃ x, Hid (x = min (1 + (xa : Int)) 9999) := ⟨_, hidIt rfl⟩
  obtain ⟨P1, HP1⟩ : ∃ x, Hid (x = A1 * (1 + (xb : Int))) := ⟨_, hidIt rfl⟩
  obtain ⟨A2, HA2⟩ : ∃ x, Hid (x = min P1 9999) := ⟨_, hidIt rfl⟩
  obtain ⟨A3, HA3⟩ : ∃ x, Hid (x = min (1 + (xc : Int)) 9999) := ⟨_, hidIt rfl⟩
  obtain ⟨P2, HP2⟩ : ∃ x, Hid (x = A2 * A3) := ⟨_, hidIt rfl⟩
  obtain ⟨K, HK⟩ : ∃ x, Hid (x = min P2 9999) := ⟨_, hidIt rfl⟩
  have hpos : Hid (0 ≤ P1 ∧ P1 ≤ 99990000 ∧ 0 ≤ P2 ∧ P2 ≤ 99990000) := by
    have hb1 : 0 ≤ A1 ∧ A1 ≤ 9999 := by have := HA1.out; omega
    have h1 : 0 ≤ P1 ∧ P1 ≤ 9999 * 1024 := by
      rw [HP1.out]
      exact ⟨Int.mul_nonneg hb1.1 (by omega), Int.mul_le_mul hb1.2 (by omega) (by omega) (by decide)⟩
    have hb2 : 0 ≤ A2 ∧ A2 ≤ 9999 := by have := HA2.out; omega
    have hb3 : 0 ≤ A3 ∧ A3 ≤ 9999 := by have := HA3.out; omega
    have h2 : 0 ≤ P2 ∧ P2 ≤ 9999 * 9999 := by
      rw [HP2.out]
      exact ⟨Int.mul_nonneg hb2.1 hb3.1, Int.mul_le_mul hb2.2 hb3.2 hb3.1 (by decide)⟩
    unfold Hid
    omega
  have hm1 : min (1 + (xa : Int)) 9999 = A1 := HA1.out.symm
  have hw1 : wrap64 (A1 * (1 + (xb : Int))) = P1 := by rw [← HP1.out]; unfold wrap64; have := hpos.out; omega
  have hm2 : min P1 9999 = A2 := HA2.out.symm
  have hm3 : min (1 + (xc : Int)) 9999 = A3 := HA3.out.symm
  have hw2 : wrap64 (A2 * A3) = P2 := by rw [← HP2.out]; unfold wrap64; have := hpos.out; omega
  have hm4 : min P2 9999 = K := HK.out.symm
  have HKE : Hid (min (min (min ((1 + xa : Nat) : Int) 9999 * min ((1 + xb : Nat) : Int) 9999) 9999 * min ((1 + xc : Nat) : Int) 9999) 9999 = K) := by
    unfold Hid
    rw [HK.out, HP2.out, HA3.out, HA2.out, HP1.out, HA1.out, show ((1 + xa : Nat) : Int) = 1 + (xa : Int) by omega, show ((1 + xb : Nat) : Int) = 1 + (xb : Int) by omega, show ((1 + xc : Nat) : Int) = 1 + (xc : Int) by omega, show min (1 + (xb : Int)) 9999 = 1 + (xb : Int) by omega]
  rw [HKE.out] at HCK
  go_upto_region 13 with (go_at_call 7; refine (fed_any HO6.out.rds HI6.out (by have := HLB.out; omega)).mono ?_; rintro e y7 ⟨c7, s7, hfr, rfl, hb7⟩; obtain ⟨rfl, rfl⟩ := hfr.det HCK.out; (try dsimp only); have HB7 := hidIt (ext_trans HC6.out hb7); clear hfr hb7)
  obtain ⟨y8, hy8⟩ : ∃ y8, y8 = y7.alloc (.cells #[.int .i64 (97 + (xn : Int)), .int .i64 K, .int .i64 2, .int .i64 11, .int .i64 0] 43) := ⟨_, rfl⟩
  rw [← hy8]
  have hc8 : y8.heap[y7.heap.size]? = some (.cells #[.int .i64 (97 + (xn : Int)), .int .i64 K, .int .i64 2, .int .i64 11, .int .i64 0] 43 (0, 0)) := by rw [hy8]; exact heap_alloc_new _ _
  have HB8 : Hid (Below w.heap.size w y8) := by unfold Hid; rw [hy8]; exact ext_alloc HB7.out _
  clear hy8
  generalize y7.heap.size = g8 at *
  obtain ⟨_, g0, g1, g2, g3, g4, gf⟩ := cells5 hc8
  go_wp2_with fail
  go_ret
  exact ⟨rfl, HB8.out⟩
end Go.Proofs.Ytdbmgjkgfmdmjaa
