import Derived.Test.YtfdceljdhgbkcaaGreatDoorJ41
import Derived.Test.YtfdceljdhgbkcaaGreatDoorJ34
import Derived.BigQuiet
/- The document's joined, digits, less, whole. -/
namespace Go.Proofs.YtfdceljdhgbkcaaGreatDoor
open Go.RowKit
set_option maxRecDepth 100000 in
set_option maxHeartbeats 4000000 in
theorem r_joined_any (av bv cv : Value) (A B C : List Int) (w : World) (ha : RdS w av A) (hb : RdS w bv B) (hc : RdS w cv C) (hl : A.length + B.length + C.length ≤ 20000) :
    Calls Tryz.prog 29 #[av, bv, cv] w fun e w' => ∃ v, e = .returned v ∧ OwnI w' w.heap.size v (A ++ B ++ C) ∧ Below w.heap.size w w' := by
  obtain ⟨aa, ac, rfl, _⟩ := ha.len
  obtain ⟨ba, bc, rfl, _⟩ := hb.len
  obtain ⟨ca, cc, rfl, _⟩ := hc.len
  have HA := hidIt ha
  have HB := hidIt hb
  have HC := hidIt hc
  have HL := hidIt hl
  have HBa : Hid (Below w.heap.size w w) := Below.refl _ _
  have HOa : Hid (OwnI w w.heap.size (.slice none 0 0) []) := OwnI.nil _ _
  clear ha hb hc hl
  go_enter Tryz.func29, Tryz.ntmps29
  go_upto_region 3 with fail
  go_loopw [7, 8] (fun kv iv wr => ∃ (p : Nat) (a : Option Addr) (n c : Nat), p ≤ A.length ∧ iv = .int .i64 p ∧ kv = .slice a n c ∧ Hid (OwnI wr w.heap.size (.slice a n c) (([] : List Int) ++ A.take p)) ∧ Hid (Below w.heap.size w wr)) (fun _ iv _ => A.length - (RowKit.intOf iv).toNat)
  case atStart => exact ⟨0, _, _, _, Nat.zero_le _, rfl, rfl, by rw [List.take_zero, List.append_nil]; exact HOa.out, HBa.out⟩
  case round =>
    clear HOa HBa
    obtain ⟨p, a, n, c, hp, rfl, rfl, HO, HBW⟩ := hrel
    by_cases hlt : p < A.length
    · have hltI : (p : Int) < (A.length : Int) := by omega
      obtain ⟨kb, ko, rfl, ck⟩ := rd_at (HA.out.ext HBW.out) hlt
      have HN : Hid (([] : List Int) ++ A.take (p + 1) = ([] : List Int) ++ A.take p ++ [A[p]?.getD 0]) := by unfold Hid; rw [List.take_add_one, List.getElem?_eq_getElem hlt, ← List.append_assoc]; rfl
      generalize A[p]?.getD 0 = z at ck HN
      obtain ⟨K1, HK1⟩ : ∃ K1, Hid (K1 = ([] : List Int) ++ A.take p) := ⟨_, hidIt rfl⟩
      obtain ⟨K2, HK2⟩ : ∃ K2, Hid (K2 = ([] : List Int) ++ A.take (p + 1)) := ⟨_, hidIt rfl⟩
      rw [← HK2.out, ← HK1.out] at HN
      rw [← HK1.out] at HO
      have HTL : Hid (K1.length ≤ 30000) := by unfold Hid; rw [HK1.out]; have := HL.out; simp only [List.length_append, List.length_take, List.length_nil]; omega
      go_wp2_with (at_builtin; refine wpl_ints rfl _ _ 38 rfl w.heap.size Tryz.info_i64 Tryz.underlying38 _ K1 rfl (HO.out.ext (ext_alloc (Below.refl _ _) _)) _ [z] rfl (own_lit1 _ _ _ HBW.out.size).rds (by have := HTL.out; simp; omega) (Nat.le_trans HBW.out.size (by simp)) ?_; intro v2 w2 own2 hb2; rw [← HN.out] at own2; obtain ⟨ao2, cu2, rfl, _⟩ := own2.rds.len; have HO2 := hidIt own2; have HBB := hidIt ((ext_alloc HBW.out _).trans hb2); clear own2 hb2; (try dsimp only))
      go_roundw
      case rel => exact ⟨p + 1, _, _, _, by omega, by go_num, rfl, by rw [← HK2.out]; exact HO2.out, HBB.out⟩
      case measure => simp [RowKit.intOf]; omega
    · obtain rfl : p = A.length := by omega
      have hge : ¬ (A.length : Int) < (A.length : Int) := by omega
      have HE : Hid (OwnI wr w.heap.size (.slice a n c) (([] : List Int) ++ A)) := by have := HO.out; rwa [List.take_length] at this
      clear HO
      rw [List.nil_append] at HE
      have HOb := HE
      have HBb := HBW
      clear HE HBW
      go_upto_region 7 with fail
      go_loopw [7, 9] (fun kv iv wr => ∃ (p : Nat) (a : Option Addr) (n c : Nat), p ≤ B.length ∧ iv = .int .i64 p ∧ kv = .slice a n c ∧ Hid (OwnI wr w.heap.size (.slice a n c) (A ++ B.take p)) ∧ Hid (Below w.heap.size w wr)) (fun _ iv _ => B.length - (RowKit.intOf iv).toNat)
      case atStart => exact ⟨0, _, _, _, Nat.zero_le _, rfl, rfl, by rw [List.take_zero, List.append_nil]; exact HOb.out, HBb.out⟩
      case round =>
        clear HOb HBb
        obtain ⟨p, a, n, c, hp, rfl, rfl, HO, HBW⟩ := hrel
        by_cases hlt : p < B.length
        · have hltI : (p : Int) < (B.length : Int) := by omega
          obtain ⟨kb, ko, rfl, ck⟩ := rd_at (HB.out.ext HBW.out) hlt
          have HN : Hid (A ++ B.take (p + 1) = A ++ B.take p ++ [B[p]?.getD 0]) := by unfold Hid; rw [List.take_add_one, List.getElem?_eq_getElem hlt, ← List.append_assoc]; rfl
          generalize B[p]?.getD 0 = z at ck HN
          obtain ⟨K1, HK1⟩ : ∃ K1, Hid (K1 = A ++ B.take p) := ⟨_, hidIt rfl⟩
          obtain ⟨K2, HK2⟩ : ∃ K2, Hid (K2 = A ++ B.take (p + 1)) := ⟨_, hidIt rfl⟩
          rw [← HK2.out, ← HK1.out] at HN
          rw [← HK1.out] at HO
          have HTL : Hid (K1.length ≤ 30000) := by unfold Hid; rw [HK1.out]; have := HL.out; simp only [List.length_append, List.length_take]; omega
          go_wp2_with (at_builtin; refine wpl_ints rfl _ _ 38 rfl w.heap.size Tryz.info_i64 Tryz.underlying38 _ K1 rfl (HO.out.ext (ext_alloc (Below.refl _ _) _)) _ [z] rfl (own_lit1 _ _ _ HBW.out.size).rds (by have := HTL.out; simp; omega) (Nat.le_trans HBW.out.size (by simp)) ?_; intro v2 w2 own2 hb2; rw [← HN.out] at own2; obtain ⟨ao2, cu2, rfl, _⟩ := own2.rds.len; have HO2 := hidIt own2; have HBB := hidIt ((ext_alloc HBW.out _).trans hb2); clear own2 hb2; (try dsimp only))
          go_roundw
          case rel => exact ⟨p + 1, _, _, _, by omega, by go_num, rfl, by rw [← HK2.out]; exact HO2.out, HBB.out⟩
          case measure => simp [RowKit.intOf]; omega
        · obtain rfl : p = B.length := by omega
          have hge : ¬ (B.length : Int) < (B.length : Int) := by omega
          have HE : Hid (OwnI wr w.heap.size (.slice a n c) (A ++ B)) := by have := HO.out; rwa [List.take_length] at this
          clear HO
          have HOc := HE
          have HBc := HBW
          clear HE HBW
          go_upto_region 11 with fail
          go_loopw [7, 10] (fun kv iv wr => ∃ (p : Nat) (a : Option Addr) (n c : Nat), p ≤ C.length ∧ iv = .int .i64 p ∧ kv = .slice a n c ∧ Hid (OwnI wr w.heap.size (.slice a n c) ((A ++ B) ++ C.take p)) ∧ Hid (Below w.heap.size w wr)) (fun _ iv _ => C.length - (RowKit.intOf iv).toNat)
          case atStart => exact ⟨0, _, _, _, Nat.zero_le _, rfl, rfl, by rw [List.take_zero, List.append_nil]; exact HOc.out, HBc.out⟩
          case round =>
            clear HOc HBc
            obtain ⟨p, a, n, c, hp, rfl, rfl, HO, HBW⟩ := hrel
            by_cases hlt : p < C.length
            · have hltI : (p : Int) < (C.length : Int) := by omega
              obtain ⟨kb, ko, rfl, ck⟩ := rd_at (HC.out.ext HBW.out) hlt
              have HN : Hid ((A ++ B) ++ C.take (p + 1) = (A ++ B) ++ C.take p ++ [C[p]?.getD 0]) := by unfold Hid; rw [List.take_add_one, List.getElem?_eq_getElem hlt, ← List.append_assoc]; rfl
              generalize C[p]?.getD 0 = z at ck HN
              obtain ⟨K1, HK1⟩ : ∃ K1, Hid (K1 = (A ++ B) ++ C.take p) := ⟨_, hidIt rfl⟩
              obtain ⟨K2, HK2⟩ : ∃ K2, Hid (K2 = (A ++ B) ++ C.take (p + 1)) := ⟨_, hidIt rfl⟩
              rw [← HK2.out, ← HK1.out] at HN
              rw [← HK1.out] at HO
              have HTL : Hid (K1.length ≤ 30000) := by unfold Hid; rw [HK1.out]; have := HL.out; simp only [List.length_append, List.length_take]; omega
              go_wp2_with (at_builtin; refine wpl_ints rfl _ _ 38 rfl w.heap.size Tryz.info_i64 Tryz.underlying38 _ K1 rfl (HO.out.ext (ext_alloc (Below.refl _ _) _)) _ [z] rfl (own_lit1 _ _ _ HBW.out.size).rds (by have := HTL.out; simp; omega) (Nat.le_trans HBW.out.size (by simp)) ?_; intro v2 w2 own2 hb2; rw [← HN.out] at own2; obtain ⟨ao2, cu2, rfl, _⟩ := own2.rds.len; have HO2 := hidIt own2; have HBB := hidIt ((ext_alloc HBW.out _).trans hb2); clear own2 hb2; (try dsimp only))
              go_roundw
              case rel => exact ⟨p + 1, _, _, _, by omega, by go_num, rfl, by rw [← HK2.out]; exact HO2.out, HBB.out⟩
              case measure => simp [RowKit.intOf]; omega
            · obtain rfl : p = C.length := by omega
              have hge : ¬ (C.length : Int) < (C.length : Int) := by omega
              have HE : Hid (OwnI wr w.heap.size (.slice a n c) ((A ++ B) ++ C)) := by have := HO.out; rwa [List.take_length] at this
              clear HO
              go_wp2_with fail
              go_ret
              exact ⟨.slice a n c, rfl, by have := HE.out; rwa [List.append_assoc] at this, HBW.out⟩
theorem ten20 : 9999 < 10 ^ 20 := by omega
theorem dig_start {n : Nat} (h : n ≤ 9999) : dg 20 n ++ [] = nbK (n : Int) ∧ n < 10 ^ 20 := by
  refine ⟨?_, Nat.lt_of_le_of_lt h ten20⟩
  rw [List.append_nil]
  unfold nbK
  split
  · rw [Int.toNat_natCast]
  · rename_i h
    obtain rfl : n = 0 := by omega
    exact dg_zero 20
theorem dg_step {f n : Nat} (h : 0 < n) (hf : n < 10 ^ f) : ∃ g, f = g + 1 ∧ dg f n = dg g (n / 10) ++ [48 + ((n % 10 : Nat) : Int)] ∧ n / 10 < 10 ^ g := by
  cases f with
  | zero => simp at hf; omega
  | succ g =>
    refine ⟨g, rfl, ?_, ?_⟩
    · rw [dg, if_neg (by omega)]
    · rw [Nat.pow_succ] at hf
      omega
set_option maxRecDepth 100000 in
set_option maxHeartbeats 4000000 in
theorem r_digits_any (c : Int) (w : World) (h0 : 0 ≤ c) (h9 : c ≤ 9999) :
    Calls Tryz.prog 26 #[.int .i64 c] w fun e w' => ∃ v, e = .returned v ∧ OwnI w' w.heap.size v (nbK c) ∧ Below w.heap.size w w' := by
  obtain ⟨n, rfl⟩ : ∃ n : Nat, c = n := ⟨c.toNat, by omega⟩
  have HS := hidIt (dig_start (show n ≤ 9999 by omega))
  have hn9 : n ≤ 9999 := by omega
  generalize nbK (n : Int) = R at HS ⊢
  clear h0 h9
  have hR : R.length ≤ 20 := by
    have := HS.out.1
    rw [List.append_nil] at this
    rw [← this]
    exact dg_len _ _
  have HR := hidIt hR
  clear hR
  go_enter Tryz.func26, Tryz.ntmps26
  go_upto_region 2 with fail
  go_loopw [0, 3] (fun nv ov wr => ∃ (m : Nat) (a : Option Addr) (k c : Nat) (X : List Int), m ≤ 9999 ∧ nv = .int .i64 m ∧ ov = .slice a k c ∧ Hid (∃ f, dg f m ++ X = R ∧ m < 10 ^ f) ∧ Hid (OwnI wr w.heap.size (.slice a k c) X) ∧ Hid (Below w.heap.size w wr)) (fun nv _ _ => (RowKit.intOf nv).toNat)
  case atStart => exact ⟨n, _, _, _, [], hn9, rfl, rfl, ⟨20, HS.out⟩, OwnI.nil _ _, Below.refl _ _⟩
  case round =>
    obtain ⟨m, a, k, c, X, hm, rfl, rfl, HF, HO, HBW⟩ := hrel
    by_cases hp : 0 < m
    · have hpI : (m : Int) > 0 := by omega
      have hpd : (0 : Int) < (m : Int) := by omega
      have HF2 : Hid (∃ g, dg g (m / 10) ++ ([48 + ((m % 10 : Nat) : Int)] ++ X) = R ∧ m / 10 < 10 ^ g) := by
        obtain ⟨f, h1, h2⟩ := HF.out
        obtain ⟨g, rfl, h3, h4⟩ := dg_step hp h2
        exact ⟨g, by rw [← h1, h3, List.append_assoc], h4⟩
      have HXL : Hid (X.length ≤ 20) := by
        obtain ⟨f, h1, _⟩ := HF.out
        have := HR.out
        unfold Hid
        rw [← h1, List.length_append] at this
        omega
      clear HF
      have hmod : (m : Int).tmod 10 = ((m % 10 : Nat) : Int) := by rw [Int.tmod_eq_emod_of_nonneg (by omega)]; omega
      have hdiv : (m : Int).tdiv 10 = ((m / 10 : Nat) : Int) := by rw [Int.tdiv_eq_ediv_of_nonneg (by omega)]; omega
      have hm10 : ((m % 10 : Nat) : Int) < 10 := by omega
      generalize ((m % 10 : Nat) : Int) = r at hmod hm10 HF2
      have hr0 : 0 ≤ r := by rw [← hmod]; exact Int.tmod_nonneg _ (by omega)
      obtain ⟨m2, hm2⟩ : ∃ m2, m2 = m / 10 := ⟨_, rfl⟩
      rw [← hm2] at HF2 hdiv
      have HM2 : Hid (m2 < m ∧ m2 ≤ 9999) := by unfold Hid; omega
      have HW : Hid (wrap64 (m2 : Int) = (m2 : Int)) := by unfold Hid wrap64; omega
      clear hm2
      go_wp2_with fail
      go_at_call 29
      refine (r_joined_any _ _ _ [48 + r] X [] _ (own_lit1 _ _ _ (Nat.zero_le _)).rds (HO.out.ext (ext_alloc (Below.refl _ _) _)).rds (OwnI.nil _ 0).rds (by have := HXL.out; simp; omega)).mono ?_
      rintro e y ⟨v, rfl, ho, hb⟩
      rw [List.append_nil] at ho
      obtain ⟨va, vc, rfl, _⟩ := ho.rds.len
      have HO2 := hidIt (ho.le (base' := w.heap.size) (by simp; exact Nat.le_succ_of_le HBW.out.size))
      have HBY := hidIt ((ext_alloc HBW.out _).trans (hb.mono (by simp; exact Nat.le_succ_of_le HBW.out.size)))
      clear ho hb
      (try dsimp only)
      go_wp2_with fail
      go_roundw
      case rel => exact ⟨m2, _, _, _, _, HM2.out.2, by rw [HW.out], rfl, HF2.out, HO2.out, HBY.out⟩
      case measure => rw [HW.out]; simp [RowKit.intOf]; exact HM2.out.1
    · have hm0 : m = 0 := by omega
      subst hm0
      have HF2 : Hid (X = R) := by
        obtain ⟨f, h1, _⟩ := HF.out
        rw [dg_zero, List.nil_append] at h1
        exact h1
      clear HF
      go_wp2_with fail
      go_ret
      exact ⟨_, rfl, by rw [← HF2.out]; exact HO.out, HBW.out⟩
set_option maxRecDepth 100000 in
set_option maxHeartbeats 4000000 in
theorem r_less_any (u v : Value) (xs ys : List Int) (w : World) (hx : RdS w u xs) (hy : RdS w v ys) : Calls Tryz.prog 55 #[u, v] w fun e w' => e = .returned (.bool (bfr xs ys)) ∧ Below w.heap.size w w' := by
  obtain ⟨ao, cu, rfl, lx⟩ := hx.len
  obtain ⟨bo, cv, rfl, ly⟩ := hy.len
  have HX := hidIt hx
  have HY := hidIt hy
  clear hx hy
  by_cases heq : xs.length = ys.length
  · have HEQ := hidIt heq
    have HB : Hid (bfr xs ys = decide (cmpL xs ys < 0)) := by unfold Hid bfr; rw [if_pos heq]
    rw [HB.out]
    have HQ : Hid (((xs.length : Int) != (xs.length : Int)) = false) := by unfold Hid; simp
    have hq := HQ.out
    rw [← heq]
    clear heq ly HB
    go_enter Tryz.func55, Tryz.ntmps55
    go_wp2_with fail
    go_loopw [5] (fun i wr => ∃ k : Nat, k ≤ xs.length ∧ i = .int .i64 k ∧ Below w.heap.size w wr ∧ Hid (cmpL (xs.drop k) (ys.drop k) = cmpL xs ys)) (fun i _ => xs.length - (RowKit.intOf i).toNat)
    case atStart => exact ⟨0, Nat.zero_le _, rfl, Below.refl _ _, rfl⟩
    case round =>
      obtain ⟨k, hk, rfl, hbw, HE⟩ := hrel
      by_cases h1 : k < xs.length
      · have h2 : k < ys.length := by have := HEQ.out; omega
        rw [cmpL_at, if_pos h1, if_pos h2] at HE
        obtain ⟨b1, o1, e1, c1⟩ := rd_at (HX.out.ext hbw) h1
        obtain ⟨b2, o2, e2, c2⟩ := rd_at (HY.out.ext hbw) h2
        subst e1 e2
        have hi1 : (k : Int) < (xs.length : Int) := by omega
        generalize xs[k]?.getD 0 = x at c1 HE
        generalize ys[k]?.getD 0 = y at c2 HE
        clear h2
        by_cases hxy : x = y
        · subst hxy
          have HE' : Hid (cmpL (xs.drop (k + 1)) (ys.drop (k + 1)) = cmpL xs ys) := by
            have := HE.out
            rw [if_pos (by unfold cm1; rw [if_neg (by omega), if_neg (by omega)])] at this
            exact this
          clear HE
          go_wp2_with fail
          go_quiet (fail)
          go_wp2_with fail
          go_roundw
          case rel => exact ⟨k + 1, by omega, by go_num, below_drewN hbw _, HE'⟩
          case measure => simp [RowKit.intOf]; omega
        · have HR : Hid (decide (cmpL xs ys < 0) = decide (x < y)) := by
            unfold Hid
            rw [← HE.out]
            unfold cm1
            by_cases h : x < y
            · rw [if_pos h, if_neg (by decide)]
              simp [h]
            · rw [if_neg h, if_pos (show y < x by omega), if_neg (by decide)]
              simp [h]
          clear HE
          go_wp2_with fail
          go_quiet (fail)
          go_wp2_with fail
          go_quiet (fail)
          go_wp2_with fail
          try rw [Exit.noGoto_ret]
          go_ret
          exact ⟨by rw [HR.out]; rfl, below_drewN (below_drewN hbw _) _⟩
      · have HR : Hid (decide (cmpL xs ys < 0) = false) := by
          unfold Hid
          rw [← HE.out, List.drop_eq_nil_of_le (by omega), List.drop_eq_nil_of_le (by have := HEQ.out; omega)]
          rfl
        clear HE
        go_wp2_with fail
        go_ret
        exact ⟨by rw [HR.out]; rfl, hbw⟩
  · have h2 : ¬ (xs.length : Int) = (ys.length : Int) := by omega
    have HB : Hid (bfr xs ys = decide (xs.length < ys.length)) := by unfold Hid bfr; rw [if_neg heq]
    rw [HB.out]
    clear heq HB
    go_enter Tryz.func55, Tryz.ntmps55
    go_wp2_with fail
    go_ret
    exact ⟨rfl, Below.refl _ _⟩
set_option maxRecDepth 100000 in
set_option maxHeartbeats 4000000 in
theorem r_whole_any (r : DRw) (kv : Value) (a : Int) (w : World) (hk : RdS w kv r.ks) (hkl : r.ks.length ≤ 100) :
    Calls Tryz.prog 27 #[.agg #[kv, .int .i64 r.v, .int .i64 r.m, .int .i64 r.a, .bool r.asks], .int .i64 a] w fun e w' => ∃ v, e = .returned v ∧ RdS w' v (dWhl r a) ∧ Below w.heap.size w w' := by
  obtain ⟨ks, rv, rm, ra, ras⟩ := r
  unfold dWhl
  dsimp only at *
  obtain ⟨ka, kc, rfl, _⟩ := hk.len
  cases ras
  · skip
    obtain ⟨w0, hw0⟩ : ∃ w0, w0 = w.alloc (.cells #[.slice ka ks.length kc, .int .i64 rv, .int .i64 rm, .int .i64 ra, .bool false] 71) := ⟨_, rfl⟩
    have hb0 : Below w.heap.size w w0 := by rw [hw0]; exact ext_alloc (Below.refl _ _) _
    have HB0 := hidIt hb0
    have HR0 : Hid (w0.heap[w.heap.size]? = some (.cells #[.slice ka ks.length kc, .int .i64 rv, .int .i64 rm, .int .i64 ra, .bool false] 71 (0, 0))) := by unfold Hid; rw [hw0]; exact heap_alloc_new _ _
    have HK0 := hidIt (hk.ext hb0)
    clear hk hb0
    obtain ⟨_, g0, g1, g2, g3, g4, gf⟩ := cells5 HR0.out
    go_enter Tryz.func27, Tryz.ntmps27
    go_upto_region 1 with fail
    rw [← hw0]
    clear hw0
    go_wp2_with fail
    go_ret
    exact ⟨_, rfl, HK0.out, HB0.out⟩
  · rw [if_pos rfl]
    obtain ⟨w0, hw0⟩ : ∃ w0, w0 = w.alloc (.cells #[.slice ka ks.length kc, .int .i64 rv, .int .i64 rm, .int .i64 ra, .bool true] 71) := ⟨_, rfl⟩
    have hb0 : Below w.heap.size w w0 := by rw [hw0]; exact ext_alloc (Below.refl _ _) _
    have HB0 := hidIt hb0
    have HR0 : Hid (w0.heap[w.heap.size]? = some (.cells #[.slice ka ks.length kc, .int .i64 rv, .int .i64 rm, .int .i64 ra, .bool true] 71 (0, 0))) := by unfold Hid; rw [hw0]; exact heap_alloc_new _ _
    have HK0 := hidIt (hk.ext hb0)
    clear hk hb0
    obtain ⟨_, g0, g1, g2, g3, g4, gf⟩ := cells5 HR0.out
    go_enter Tryz.func27, Tryz.ntmps27
    go_upto_region 1 with fail
    rw [← hw0]
    clear hw0
    go_wp2_with fail
    go_at_call 29
    refine (r_joined_any _ _ _ ks [a] [] _ (HK0.out.ext (ext_alloc (Below.refl _ _) _)) (own_lit1 _ _ _ (Nat.zero_le _)).rds (OwnI.nil _ 0).rds (by simp; omega)).mono ?_
    rintro e y ⟨v, rfl, ho, hb⟩
    rw [List.append_nil] at ho
    obtain ⟨va, vc, rfl, _⟩ := ho.rds.len
    have HO := hidIt ho
    have HBY := hidIt ((ext_alloc HB0.out _).trans (hb.mono (by simp; exact Nat.le_succ_of_le HB0.out.size)))
    clear ho hb
    (try dsimp only)
    go_wp2_with fail
    go_ret
    exact ⟨_, rfl, HO.out.rds, HBY.out⟩
end Go.Proofs.YtfdceljdhgbkcaaGreatDoor
