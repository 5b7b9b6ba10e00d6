/- The law's step. -/
import Derived.Test.YtmldfjhfgaggpaaGWrt2
import Derived.Test.YtmldfjhfgaggpaaGWrt3
import Derived.Test.YtmldfjhfgaggpaaGWrt4
import Derived.Test.YtmldfjhfgaggpaaGStep1
import Derived.Test.YtmldfjhfgaggpaaGStep2
namespace Go.Proofs.Ytmldfjhfgaggpaa
open Go.RowKit
variable {F : Nat → Prop}

theorem nm_some {s : Bs} (h : Good s) : ∀ k, (s.m k).isSome = true → 0 ≤ k ∧ k < 128 := fun k hk => by
  obtain ⟨r, hr⟩ := Option.isSome_iff_exists.1 hk
  have := (h.nm k r hr).1
  exact ⟨this.1, this.2.1⟩
theorem Wd.more {B N N' : Nat} {w : World} {g : Nat} {z : Ws} {pv : Value} (h : Wd B F N w g z pv) (hN : N ≤ N') : Wd B F N' w g z pv :=
  ⟨h.blk, h.fg, fun i hi => (h.bk i hi).mono hN, h.rb, h.gs, h.gd, h.pen, h.nb, h.nm, h.nq, h.lo⟩
theorem Syn.copy {z : Ws} (h : Syn z) {i j : Nat} (hi : i < 2) (b bm q : Nat → Nat) : Syn ⟨b, bm, q, setN z.s j (z.s i), setN z.d j (z.d i)⟩ := by
  intro k hk
  dsimp only
  by_cases e : k = j
  · subst e; rw [setN_same, setN_same]; exact h i hi
  · rw [setN_other _ _ e, setN_other _ _ e]; exact h k hk
set_option maxRecDepth 100000 in
set_option maxHeartbeats 8000000 in
theorem step_any {B N : Nat} (w : World) (g : Nat) (z : Ws) (pv : Value) (x : Sv) (v : Value) (hW : Wd B F N w g z pv) (hS : Syn z) (hB : B ≤ w.heap.size) (hx : x.Ok) (hv : RdS w v x.t) (ho : x.t ≠ [] → Old B v) (hN : N < 9223372036854770000) :
    Calls Try.prog 28 #[.pointer (some ⟨g, 0, none⟩), .agg (stc x v)] w (StR B (N + 9) w g) := by
  obtain ⟨ao, c, rfl, _⟩ := hv.len
  obtain ⟨w1, hw1, k0, hb1⟩ : ∃ w1, w1 = w.alloc (.cells (stc x (.slice ao x.t.length c)) 47) ∧ w1.heap[w.heap.size]? = some (.cells (stc x (.slice ao x.t.length c)) 47 (0, 0)) ∧ Below w.heap.size w w1 := ⟨_, rfl, heap_alloc_new _ _, ext_alloc (Below.refl _ _) _⟩
  obtain ⟨i, hie⟩ : ∃ i : Nat, (i : Int) = x.who % 2 := ⟨(x.who % 2).toNat, by omega⟩
  have hi : i < 2 := by omega
  have hil : (i : Int) < 2 := by omega
  have han : bits .and .i64 x.who 1 = (i : Int) := by rw [i64_and1, hie]
  obtain ⟨c0, c2, c3, c4⟩ := cells5 k0
  have c1 : w1.cell? ⟨w.heap.size, 1, none⟩ = some (.int .i64 x.who) := (cellOf k0 1).trans rfl
  have HW := hidIt (hW.ext hb1)
  have HS := hidIt hS
  have HI := hidIt hi
  have HX := hidIt hx
  have HV := hidIt (hv.ext hb1)
  have HO := hidIt ho
  have HN := hidIt hN
  have HB1 := hidIt (Nat.le_trans hB hb1.size)
  have HBL := hidIt (show Below B w w1 from hb1.mono hB)
  clear hW hS hB hx hv ho hN hb1 k0 hi hie
  by_cases hk : x.k = 1
  · skip
    have WR : Hid (Calls Try.prog 48 #[.pointer (some ⟨g, 0, none⟩), .int .i64 i, .agg #[.int .i64 1, .int .i64 x.who, .int .i64 x.n, .int .i64 x.s, .slice ao x.t.length c]] w1 (StR B (N + 9) w1 g)) := by
      have h := writes1_any w1 g z pv i x _ HW.out HS.out HI.out HB1.out HX.out hk HV.out HO.out HN.out
      unfold stc at h
      rw [hk] at h
      exact h
    rw [hk] at c0
    clear hk
    go_enter Try.func28, Try.ntmps28
    go_upto_region 1 with fail
    rw [← hw1]
    clear hw1
    go_wp2_with (go_at_call 48; refine WR.out.mono ?_; rintro e w2 ⟨rfl, hx2⟩; have HX2 := hidIt hx2.out; clear hx2; (try dsimp only))
    go_ret
    refine ⟨rfl, ?_⟩
    obtain ⟨F2, z2, pv2, a, b, d⟩ := HX2.out
    exact ⟨F2, z2, pv2, a, b, HBL.out.trans d⟩
  have n1 : (x.k == 1) = false := by simp [hk]
  clear hk
  by_cases hk : x.k = 2
  · skip
    have WR : Hid (Calls Try.prog 48 #[.pointer (some ⟨g, 0, none⟩), .int .i64 i, .agg #[.int .i64 2, .int .i64 x.who, .int .i64 x.n, .int .i64 x.s, .slice ao x.t.length c]] w1 (StR B (N + 9) w1 g)) := by
      have h := writes2_any w1 g z pv i x _ HW.out HS.out HI.out HB1.out HX.out hk HV.out HO.out HN.out
      unfold stc at h
      rw [hk] at h
      exact h
    rw [hk] at c0
    clear hk
    go_enter Try.func28, Try.ntmps28
    go_upto_region 1 with fail
    rw [← hw1]
    clear hw1
    go_wp2_with (go_at_call 48; refine WR.out.mono ?_; rintro e w2 ⟨rfl, hx2⟩; have HX2 := hidIt hx2.out; clear hx2; (try dsimp only))
    go_ret
    refine ⟨rfl, ?_⟩
    obtain ⟨F2, z2, pv2, a, b, d⟩ := HX2.out
    exact ⟨F2, z2, pv2, a, b, HBL.out.trans d⟩
  have n2 : (x.k == 2) = false := by simp [hk]
  clear hk
  by_cases hk : x.k = 3
  · skip
    have WR : Hid (Calls Try.prog 48 #[.pointer (some ⟨g, 0, none⟩), .int .i64 i, .agg #[.int .i64 3, .int .i64 x.who, .int .i64 x.n, .int .i64 x.s, .slice ao x.t.length c]] w1 (StR B (N + 9) w1 g)) := by
      have h := writes3_any w1 g z pv i x _ HW.out HS.out HI.out HB1.out HX.out hk HV.out HO.out HN.out
      unfold stc at h
      rw [hk] at h
      exact h
    rw [hk] at c0
    clear hk
    go_enter Try.func28, Try.ntmps28
    go_upto_region 1 with fail
    rw [← hw1]
    clear hw1
    go_wp2_with (go_at_call 48; refine WR.out.mono ?_; rintro e w2 ⟨rfl, hx2⟩; have HX2 := hidIt hx2.out; clear hx2; (try dsimp only))
    go_ret
    refine ⟨rfl, ?_⟩
    obtain ⟨F2, z2, pv2, a, b, d⟩ := HX2.out
    exact ⟨F2, z2, pv2, a, b, HBL.out.trans d⟩
  have n3 : (x.k == 3) = false := by simp [hk]
  clear hk
  by_cases hk : x.k = 4
  · have GE := hidIt (get_any w1 g z pv i x.n HW.out HS.out HI.out HX.out.n)
    rw [hk] at c0 n1 n2 n3
    clear hk
    go_enter Try.func28, Try.ntmps28
    go_upto_region 1 with fail
    rw [← hw1]
    clear hw1
    go_wp2_with (go_at_call 29; refine GE.out.mono ?_; rintro e w2 ⟨rfl, hb2⟩; have HB2 := hidIt hb2; clear hb2; (try dsimp only))
    go_ret
    exact ⟨rfl, F, z, pv, (HW.out.ext HB2.out).more (Nat.le_add_right _ _), HS.out, HBL.out.trans (HB2.out.mono HB1.out)⟩
  have n4 : (x.k == 4) = false := by simp [hk]
  clear hk
  by_cases hk : x.k = 5
  · rw [hk] at c0 n1 n2 n3 n4
    clear hk
    obtain ⟨g1, g2, _, _⟩ := HW.out.cells
    have g1' := g1 i HI.out
    have g2' := g2 i HI.out
    have NA := hidIt (Names_any w1.drew (z.b i) (z.bm i) N (z.s i).m (z.s i).p ((HW.out.ext (Below.refl _ _).drew).bk i HI.out) (nm_some (HW.out.gs i HI.out)))
    have NR := hidIt (fun w' (hb : Below w1.heap.size w1 w') => r_Names_any w' (z.q i) (z.d i) ((HW.out.ext hb).rb i HI.out) (HW.out.gd i HI.out))
    rw [← HS.out i HI.out] at NR
    have HGC := hidIt (fun w' (hb : Below w1.heap.size w1 w') => (HW.out.ext hb).cells)
    generalize nms (z.s i).m 128 = nl at *
    clear g1 g2
    go_enter Try.func28, Try.ntmps28
    go_upto_region 1 with fail
    rw [← hw1]
    clear hw1
    go_upto_region 10 with fail
    go_region_held3 (fun w' => w'.cell? ⟨g, i, none⟩ = some (.pointer (some ⟨z.b i, 0, none⟩)) ∧ w'.cell? ⟨g, 2 + i, none⟩ = some (.pointer (some ⟨z.q i, 0, none⟩))) (go_keep) (first | (go_at_call 23; refine NA.out.mono ?_; rintro e w2 ⟨v2, rfl, ho2, hb2⟩; obtain ⟨a2, m2, d2, e2⟩ := ho2.form; subst e2; have O2 := hidIt ho2; have HB2 := hidIt (ext_trans (Below.refl _ _).drew hb2); clear ho2 hb2 g1' g2' NA; have g1' := (HGC.out w2 HB2.out).1 i HI.out; have g2' := (HGC.out w2 HB2.out).2.1 i HI.out; (try dsimp only)) | (go_at_call 49; refine (NR.out w2 HB2.out).mono ?_; rintro e w3 ⟨v3, rfl, ho3, hb3⟩; obtain ⟨a3, m3, d3, e3⟩ := ho3.form; subst e3; have O3 := hidIt ho3; have HB3 := hidIt hb3; clear ho3 hb3 g1' g2' NR; have g1' := (HGC.out w3 (ext_trans HB2.out HB3.out)).1 i HI.out; have g2' := (HGC.out w3 (ext_trans HB2.out HB3.out)).2.1 i HI.out; (try dsimp only)) | (go_at_call 26; refine (sameInts_any _ _ nl w3 ((O2.out.ext HB3.out).rds).1 O3.out.rds.1).mono ?_; rintro e w4 ⟨rfl, hb4⟩; have HB4 := hidIt hb4; clear hb4 g1' g2'; have g1' := (HGC.out w4 (ext_trans (ext_trans HB2.out HB3.out) HB4.out)).1 i HI.out; have g2' := (HGC.out w4 (ext_trans (ext_trans HB2.out HB3.out) HB4.out)).2.1 i HI.out; (try dsimp only)))
    go_wp2_with fail
    go_ret
    have hb := ext_trans (ext_trans HB2.out HB3.out) HB4.out
    exact ⟨rfl, F, z, pv, (HW.out.ext hb).more (Nat.le_add_right _ _), HS.out, HBL.out.trans (hb.mono HB1.out)⟩
  have n5 : (x.k == 5) = false := by simp [hk]
  clear hk
  by_cases hk : x.k = 6
  · rw [hk] at c0 n1 n2 n3 n4 n5
    clear hk
    obtain ⟨j, hj⟩ : ∃ j : Nat, j = 1 - i := ⟨_, rfl⟩
    have hjl : (j : Int) < 2 := by omega
    have HJ := hidIt (show j < 2 by omega)
    have HIJ := hidIt (show j ≠ i by have := HI.out; omega)
    have hwr : IntKind.i64.wrap (1 - (i : Int)) = (j : Int) := by have := HI.out; rw [IntKind.wrap_i64]; omega
    obtain ⟨g1, _, _, fz⟩ := HW.out.cells
    have g1' := g1 i HI.out
    have g2' := g1 j HJ.out
    have CP := hidIt (Copy_any w1.drew (z.b i) (z.bm i) N (z.s i).m (z.s i).p ((HW.out.ext (Below.refl _ _).drew).bk i HI.out))
    have HGC := hidIt (fun w' (hb : Below w1.heap.size w1 w') => (HW.out.ext hb).cells)
    clear g1 hj
    go_enter Try.func28, Try.ntmps28
    go_upto_region 1 with fail
    rw [← hw1]
    clear hw1
    go_upto_region 12 with fail
    go_cut [] from 45 to 57 (fun wF => Hid (∃ F2 b2 bm2, Wd B F2 N wF g { z with b := setN z.b j b2, bm := setN z.bm j bm2, s := setN z.s j (z.s i) } pv ∧ B ≤ wF.heap.size ∧ Below B w1 wF))
    case first =>
      go_region_with (go_at_call 22; refine CP.out.mono ?_; rintro e w2 ⟨b2, bm2, rfl, l1, l2, l3, hb2, hc2⟩; have HB2 := hidIt hb2; have HC2 := hidIt hc2; have L1 := hidIt l1; have L2 := hidIt l2; have L3 := hidIt l3; clear l1 l2 l3 hb2 hc2 g1' g2' fz CP; have g1' := (HGC.out w2 (ext_trans (Below.refl _ _).drew HB2.out)).1 i HI.out; have g2' := (HGC.out w2 (ext_trans (Below.refl _ _).drew HB2.out)).1 j HJ.out; have fz := (HGC.out w2 (ext_trans (Below.refl _ _).drew HB2.out)).2.2.2; (try dsimp only))
      all_goals
        go_wp2_with fail
        go_meet
        case rel =>
          have hp := (HW.out.ext (Below.refl _ _).drew).pcopy HB1.out HI.out HJ.out HIJ.out HB2.out L1.out L2.out L3.out HC2.out
          have hb : Below B w1 w2 := (ext_trans (Below.refl _ _).drew HB2.out).mono HB1.out
          exact ⟨_, _, _, hp.1, by have := hp.2.size; have := hb.size; have := HB1.out; omega, hb.grown hp.2 (by have := hb.size; have := HB1.out; omega) (fun k hk => by cases hk; exact HW.out.lo.1)⟩
    obtain ⟨F2, b2, bm2, hw2, hs2, hb2⟩ := hcut
    have HW2 := hidIt hw2
    have HS2 := hidIt hs2
    have HB2 := hidIt hb2
    clear hw2 hs2 hb2 g1' g2' fz CP HGC
    obtain ⟨_, g3, _, fz⟩ := HW2.out.cells
    have g1' := g3 i HI.out
    have g2' := g3 j HJ.out
    dsimp only at g1' g2'
    have CP := hidIt (r_Copy_any wc.drew (z.q i) (z.d i) ((HW2.out.ext (Below.refl _ _).drew).rb i HI.out))
    have HGC := hidIt (fun w' (hb : Below wc.heap.size wc w') => (HW2.out.ext hb).cells)
    clear g3
    go_upto_region 13 with fail
    go_cut [] from 58 to 70 (fun wF => Hid (∃ F3 q3, Wd B F3 N wF g { z with b := setN z.b j b2, bm := setN z.bm j bm2, s := setN z.s j (z.s i), q := setN z.q j q3, d := setN z.d j (z.d i) } pv ∧ Below B wc wF))
    case first =>
      go_region_with (go_at_call 50; refine CP.out.mono ?_; rintro e w3 ⟨rfl, l3, hb3, hc3⟩; have HB3 := hidIt hb3; have HC3 := hidIt hc3; have L3 := hidIt l3; clear l3 hb3 hc3 g1' g2' fz CP; have g1' := (HGC.out w3 (ext_trans (Below.refl _ _).drew HB3.out)).2.1 i HI.out; have g2' := (HGC.out w3 (ext_trans (Below.refl _ _).drew HB3.out)).2.1 j HJ.out; have fz := (HGC.out w3 (ext_trans (Below.refl _ _).drew HB3.out)).2.2.2; dsimp only at g1' g2'; (try dsimp only))
      all_goals
        go_wp2_with fail
        go_meet
        case rel =>
          have hp := (HW2.out.ext (Below.refl _ _).drew).rcopy HS2.out HI.out HJ.out HIJ.out HB3.out (Nat.le_refl _) L3.out HC3.out
          have hb : Below B wc w3 := (ext_trans (Below.refl _ _).drew HB3.out).mono HS2.out
          exact ⟨_, _, hp.1, hb.grown hp.2 (by have := hb.size; have := HS2.out; omega) (fun k hk => by cases hk; exact HW.out.lo.1)⟩
    obtain ⟨F3, q3, hw3, hb3⟩ := hcut
    have HW3 := hidIt hw3
    have HB3 := hidIt hb3
    clear hw3 hb3 g1' g2' fz CP HGC
    have pj := HW3.out.cells.1 j HJ.out
    dsimp only at pj
    rw [setN_same] at pj
    go_wp2_with fail
    go_ret
    exact ⟨rfl, F3, _, pv, HW3.out.more (Nat.le_add_right _ _), HS.out.copy HI.out _ _ _, (HBL.out.trans HB2.out).trans HB3.out⟩
  have n6 : (x.k == 6) = false := by simp [hk]
  clear hk
  go_enter Try.func28, Try.ntmps28
  go_upto_region 1 with fail
  rw [← hw1]
  clear hw1
  go_wp2_with fail
  go_ret
  exact ⟨rfl, F, z, pv, HW.out.more (Nat.le_add_right _ _), HS.out, HBL.out⟩
end Go.Proofs.Ytmldfjhfgaggpaa
