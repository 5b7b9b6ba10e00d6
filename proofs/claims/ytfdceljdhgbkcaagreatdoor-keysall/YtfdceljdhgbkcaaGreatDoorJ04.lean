import Derived.Test.YtfdceljdhgbkcaaGreatDoorJ03
import Derived.Test.YtfdceljdhgbkcaaGreatDoorJ02
/- behind and command of a binding. -/
namespace Go.Proofs.YtfdceljdhgbkcaaGreatDoor
open Go.RowKit
structure Cm where
  r : Int
  c : Int
  v : Int
  m : Int
  a : Int
abbrev cmV (x : Cm) : Value := .agg #[.int .i64 x.r, .int .i64 x.c, .int .i64 x.v, .int .i64 x.m, .int .i64 x.a]
def bhd (b : Bd) (op : Int) : Option Bd := if b.v = 1 then some { b with v := op } else if b.v = op then some b else none
def cmdB (b : Bd) (reg count key : Int) : Cm := ⟨reg, count, b.v, if b.m = 33 ∧ count > 0 then 18 else b.m, if b.t = 1 then key else b.a⟩
/-- Two blocks that were made just now. -/
theorem two_new {w : World} (c1 c2 : Array Value) (T1 T2 : TypeId) : ((w.alloc (.cells c1 T1)).alloc (.cells c2 T2)).heap[w.heap.size]? = some (.cells c1 T1 (0, 0)) ∧ ((w.alloc (.cells c1 T1)).alloc (.cells c2 T2)).heap[w.heap.size + 1]? = some (.cells c2 T2 (0, 0)) ∧ Below w.heap.size w ((w.alloc (.cells c1 T1)).alloc (.cells c2 T2)) := by
  refine ⟨((MapKept.heap_alloc _ _).2 _ (by rw [World.size_alloc]; omega)).trans (heap_alloc_new _ _), ?_, ext_alloc (ext_alloc (Below.refl _ _) _) _⟩
  rw [← World.size_alloc w (.cells c1 T1)]
  exact heap_alloc_new _ _
set_option maxRecDepth 100000 in
theorem behind_any (v m a t op : Int) (w : World) :
    Calls Tryz.prog 63 #[.agg #[.int .i64 v, .int .i64 m, .int .i64 a, .int .i64 t], .int .i64 op] w fun e w' => e = .returned (.tuple #[vlB (bhd ⟨v, m, a, t⟩ op), .bool (bhd ⟨v, m, a, t⟩ op).isSome]) ∧ Below w.heap.size w w' := by
  obtain ⟨w0, hw0⟩ : ∃ w0, w0 = (w.alloc (.cells #[.int .i64 v, .int .i64 m, .int .i64 a, .int .i64 t] 62)).alloc (.cells #[.int .i64 0, .int .i64 0, .int .i64 0, .int .i64 0] 62) := ⟨_, rfl⟩
  obtain ⟨k0, k1, hb0⟩ : w0.heap[w.heap.size]? = some (.cells #[.int .i64 v, .int .i64 m, .int .i64 a, .int .i64 t] 62 (0, 0)) ∧ w0.heap[w.heap.size + 1]? = some (.cells #[.int .i64 0, .int .i64 0, .int .i64 0, .int .i64 0] 62 (0, 0)) ∧ Below w.heap.size w w0 := by rw [hw0]; exact two_new _ _ _ _
  obtain ⟨_, c0, c1, c2, c3, cf⟩ := cells4 k0
  obtain ⟨_, q0, q1, q2, q3, qf⟩ := cells4 k1
  by_cases h1 : v = 1
  · have HE : Hid (bhd ⟨v, m, a, t⟩ op = some ⟨op, m, a, t⟩) := by unfold Hid bhd; rw [if_pos h1]
    have h1b : (v == 1) = true := by simpa using h1
    obtain ⟨p1, g1⟩ := set1 k0 0 (.int .i64 op)
    obtain ⟨w1, hw1⟩ : ∃ w1, w1 = w0.setCell ⟨w.heap.size, 0, none⟩ (.int .i64 op) := ⟨_, rfl⟩
    rw [← hw1] at p1 g1
    have p1' : w1.heap[w.heap.size]? = some (.cells #[.int .i64 op, .int .i64 m, .int .i64 a, .int .i64 t] 62 (0, 0)) := p1
    have k1' : w1.heap[w.heap.size + 1]? = some (.cells #[.int .i64 0, .int .i64 0, .int .i64 0, .int .i64 0] 62 (0, 0)) := (g1.block _ (Array.getElem?_eq_some_iff.1 k1).1 (by simp)).trans k1
    obtain ⟨_, d0, d1, d2, d3, df⟩ := cells4 p1'
    obtain ⟨_, r0, r1, r2, r3, rf⟩ := cells4 k1'
    have HP := hidIt (put4 k1' (.int .i64 op) (.int .i64 m) (.int .i64 a) (.int .i64 t))
    have HB1 := hidIt (below_put hb0 hb0.size g1 (Nat.le_refl _))
    have HW1 := hidIt hw1
    clear h1 k0 k1 p1 p1' k1' g1 hb0 hw1
    go_enter Tryz.func63, Tryz.ntmps63
    go_upto_region 1 with fail
    rw [← hw0]
    clear hw0
    go_upto_region 4 with fail
    rw [← HW1.out]
    clear HW1 c0 c1 c2 c3 cf q0 q1 q2 q3 qf
    go_wp2
    refine bodyPost_ret (v := .tuple #[.agg #[.int .i64 op, .int .i64 m, .int .i64 a, .int .i64 t], .bool true]) (by simp [results, Tryz.results63, go_sem, r0, r1, r2, r3]) rfl ⟨by rw [HE.out]; rfl, ?_⟩
    exact below_put HB1.out HB1.out.size HP.out.2 (Nat.le_succ _)
  · have h1b : (v == 1) = false := by simpa using h1
    by_cases h2 : v = op
    · have HE : Hid (bhd ⟨v, m, a, t⟩ op = some ⟨v, m, a, t⟩) := by unfold Hid bhd; rw [if_neg h1, if_pos h2]
      have h2b : (v == op) = true := by simpa using h2
      have HP := hidIt (put4 k1 (.int .i64 v) (.int .i64 m) (.int .i64 a) (.int .i64 t))
      have HB0 := hidIt hb0
      clear h1 h2 k0 k1 hb0
      go_enter Tryz.func63, Tryz.ntmps63
      go_upto_region 1 with fail
      rw [← hw0]
      clear hw0
      go_wp2
      refine bodyPost_ret (v := .tuple #[.agg #[.int .i64 v, .int .i64 m, .int .i64 a, .int .i64 t], .bool true]) (by simp [results, Tryz.results63, go_sem, q0, q1, q2, q3]) rfl ⟨by rw [HE.out]; rfl, ?_⟩
      exact below_put HB0.out HB0.out.size HP.out.2 (Nat.le_succ _)
    · have HE : Hid (bhd ⟨v, m, a, t⟩ op = none) := by unfold Hid bhd; rw [if_neg h1, if_neg h2]
      have h2b : (v == op) = false := by simpa using h2
      have HP := hidIt (put4 k1 (.int .i64 0) (.int .i64 0) (.int .i64 0) (.int .i64 0))
      have HB0 := hidIt hb0
      clear h1 h2 k0 k1 hb0
      go_enter Tryz.func63, Tryz.ntmps63
      go_upto_region 1 with fail
      rw [← hw0]
      clear hw0
      go_wp2
      refine bodyPost_ret (v := .tuple #[.agg #[.int .i64 0, .int .i64 0, .int .i64 0, .int .i64 0], .bool false]) (by simp [results, Tryz.results63, go_sem, q0, q1, q2, q3]) rfl ⟨by rw [HE.out]; rfl, ?_⟩
      exact below_put HB0.out HB0.out.size HP.out.2 (Nat.le_succ _)
set_option maxRecDepth 100000 in
set_option maxHeartbeats 6000000 in
theorem command_any (v m a t reg cnt key : Int) (w : World) :
    Calls Tryz.prog 52 #[.agg #[.int .i64 v, .int .i64 m, .int .i64 a, .int .i64 t], .int .i64 reg, .int .i64 cnt, .int .i64 key] w fun e w' => e = .returned (cmV (cmdB ⟨v, m, a, t⟩ reg cnt key)) ∧ Below w.heap.size w w' := by
  obtain ⟨w0, hw0⟩ : ∃ w0, w0 = (w.alloc (.cells #[.int .i64 v, .int .i64 m, .int .i64 a, .int .i64 t] 62)).alloc (.cells #[.int .i64 0, .int .i64 0, .int .i64 0, .int .i64 0, .int .i64 0] 33) := ⟨_, rfl⟩
  obtain ⟨k0, k1, hb0⟩ : w0.heap[w.heap.size]? = some (.cells #[.int .i64 v, .int .i64 m, .int .i64 a, .int .i64 t] 62 (0, 0)) ∧ w0.heap[w.heap.size + 1]? = some (.cells #[.int .i64 0, .int .i64 0, .int .i64 0, .int .i64 0, .int .i64 0] 33 (0, 0)) ∧ Below w.heap.size w w0 := by rw [hw0]; exact two_new _ _ _ _
  obtain ⟨w1, hw1⟩ : ∃ w1, w1 = w0.alloc (.cells #[.int .i64 reg, .int .i64 cnt, .int .i64 v, .int .i64 m, .int .i64 a] 33) := ⟨_, rfl⟩
  obtain ⟨_, c0, c1, c2, c3, cf⟩ := cells4 k0
  have l0 := (Array.getElem?_eq_some_iff.1 k0).1
  have l1 := (Array.getElem?_eq_some_iff.1 k1).1
  have hb1 : Below w0.heap.size w0 w1 := by rw [hw1]; exact ext_alloc (Below.refl _ _) _
  have j0 : w1.heap[w.heap.size]? = some (.cells #[.int .i64 v, .int .i64 m, .int .i64 a, .int .i64 t] 62 (0, 0)) := (hb1.block _ l0).trans k0
  have j1 : w1.heap[w.heap.size + 1]? = some (.cells #[.int .i64 0, .int .i64 0, .int .i64 0, .int .i64 0, .int .i64 0] 33 (0, 0)) := (hb1.block _ l1).trans k1
  have j2 : w1.heap[w0.heap.size]? = some (.cells #[.int .i64 reg, .int .i64 cnt, .int .i64 v, .int .i64 m, .int .i64 a] 33 (0, 0)) := by rw [hw1]; exact heap_alloc_new _ _
  have HBW : Hid (Below w.heap.size w w1) := hb0.trans (hb1.mono hb0.size)
  have hge : w.heap.size + 1 < w0.heap.size := l1
  have hle : w.heap.size ≤ w0.heap.size := by omega
  generalize hg : w0.heap.size = g at *
  have HG := hidIt hg
  have HW1 := hidIt hw1
  clear hw1 hg k0 k1 hb0 hb1 l0 l1
  by_cases h1 : t = 1
  · have h1b : (t == 1) = true := by simpa using h1
    by_cases h2 : m = 33
    · have h2b : (m == 33) = true := by simpa using h2
      by_cases h3 : cnt > 0
      · skip
        have HE : Hid (cmdB ⟨v, m, a, t⟩ reg cnt key = ⟨reg, cnt, v, 18, key⟩) := by unfold Hid cmdB; simp [h1, h2, h3]
        obtain ⟨u1, v1⟩ := set1 j2 4 (.int .i64 key)
        obtain ⟨x1, hx1⟩ : ∃ x, x = w1.setCell ⟨g, 4, none⟩ (.int .i64 key) := ⟨_, rfl⟩
        rw [← hx1] at u1 v1
        have j0_1 : x1.heap[w.heap.size]? = some (.cells #[.int .i64 v, .int .i64 m, .int .i64 a, .int .i64 t] 62 (0, 0)) := (v1.block _ (Array.getElem?_eq_some_iff.1 j0).1 (by simp; omega)).trans j0
        have j1_1 : x1.heap[w.heap.size + 1]? = some (.cells #[.int .i64 0, .int .i64 0, .int .i64 0, .int .i64 0, .int .i64 0] 33 (0, 0)) := (v1.block _ (Array.getElem?_eq_some_iff.1 j1).1 (by simp; omega)).trans j1
        have j2_1 : x1.heap[g]? = some (.cells #[.int .i64 reg, .int .i64 cnt, .int .i64 v, .int .i64 m, .int .i64 key] 33 (0, 0)) := u1
        have HB1 := hidIt (below_put (HBW.out) (HBW.out).size v1 hle)
        have HX1 := hidIt hx1
        obtain ⟨u2, v2⟩ := set1 j2_1 3 (.int .i64 18)
        obtain ⟨x2, hx2⟩ : ∃ x, x = x1.setCell ⟨g, 3, none⟩ (.int .i64 18) := ⟨_, rfl⟩
        rw [← hx2] at u2 v2
        have j0_2 : x2.heap[w.heap.size]? = some (.cells #[.int .i64 v, .int .i64 m, .int .i64 a, .int .i64 t] 62 (0, 0)) := (v2.block _ (Array.getElem?_eq_some_iff.1 j0_1).1 (by simp; omega)).trans j0_1
        have j1_2 : x2.heap[w.heap.size + 1]? = some (.cells #[.int .i64 0, .int .i64 0, .int .i64 0, .int .i64 0, .int .i64 0] 33 (0, 0)) := (v2.block _ (Array.getElem?_eq_some_iff.1 j1_1).1 (by simp; omega)).trans j1_1
        have j2_2 : x2.heap[g]? = some (.cells #[.int .i64 reg, .int .i64 cnt, .int .i64 v, .int .i64 18, .int .i64 key] 33 (0, 0)) := u2
        have HB2 := hidIt (below_put (HB1.out) (HB1.out).size v2 hle)
        have HX2 := hidIt hx2
        obtain ⟨_, b0, b1, b2, b3, bf⟩ := cells4 j0
        obtain ⟨_, e0, e1, e2, e3, e4, ef⟩ := cells5 j2
        obtain ⟨_, b0_1, b1_1, b2_1, b3_1, bf_1⟩ := cells4 j0_1
        obtain ⟨_, e0_1, e1_1, e2_1, e3_1, e4_1, ef_1⟩ := cells5 j2_1
        obtain ⟨_, b0_2, b1_2, b2_2, b3_2, bf_2⟩ := cells4 j0_2
        obtain ⟨_, e0_2, e1_2, e2_2, e3_2, e4_2, ef_2⟩ := cells5 j2_2
        obtain ⟨_, f0, f1, f2, f3, f4, ff⟩ := cells5 j1_2
        have HP := hidIt (put5 j1_2 (.int .i64 reg) (.int .i64 cnt) (.int .i64 v) (.int .i64 18) (.int .i64 key))
        clear h1 h2 hge j0 j1 j2 hx1 u1 v1 j0_1 j1_1 j2_1 hx2 u2 v2 j0_2 j1_2 j2_2
        go_enter Tryz.func52, Tryz.ntmps52
        go_upto_region 1 with fail
        rw [← hw0]
        clear hw0
        go_upto_region 2 with fail
        rw [HG.out, ← HW1.out]
        clear HW1 c0 c1 c2 c3 cf
        go_upto_region 4 with fail
        rw [← HX1.out]
        go_upto_region 6 with fail
        rw [← HX2.out]
        go_wp2
        refine bodyPost_ret (v := .agg #[.int .i64 reg, .int .i64 cnt, .int .i64 v, .int .i64 18, .int .i64 key]) (by simp [results, Tryz.results52, go_sem, f0, f1, f2, f3, f4]) rfl ⟨by rw [HE.out], ?_⟩
        exact below_put (HB2.out) (HB2.out).size HP.out.2 (Nat.le_succ _)
      · skip
        have HE : Hid (cmdB ⟨v, m, a, t⟩ reg cnt key = ⟨reg, cnt, v, m, key⟩) := by unfold Hid cmdB; simp [h1, h2, h3]
        obtain ⟨u1, v1⟩ := set1 j2 4 (.int .i64 key)
        obtain ⟨x1, hx1⟩ : ∃ x, x = w1.setCell ⟨g, 4, none⟩ (.int .i64 key) := ⟨_, rfl⟩
        rw [← hx1] at u1 v1
        have j0_1 : x1.heap[w.heap.size]? = some (.cells #[.int .i64 v, .int .i64 m, .int .i64 a, .int .i64 t] 62 (0, 0)) := (v1.block _ (Array.getElem?_eq_some_iff.1 j0).1 (by simp; omega)).trans j0
        have j1_1 : x1.heap[w.heap.size + 1]? = some (.cells #[.int .i64 0, .int .i64 0, .int .i64 0, .int .i64 0, .int .i64 0] 33 (0, 0)) := (v1.block _ (Array.getElem?_eq_some_iff.1 j1).1 (by simp; omega)).trans j1
        have j2_1 : x1.heap[g]? = some (.cells #[.int .i64 reg, .int .i64 cnt, .int .i64 v, .int .i64 m, .int .i64 key] 33 (0, 0)) := u1
        have HB1 := hidIt (below_put (HBW.out) (HBW.out).size v1 hle)
        have HX1 := hidIt hx1
        obtain ⟨_, b0, b1, b2, b3, bf⟩ := cells4 j0
        obtain ⟨_, e0, e1, e2, e3, e4, ef⟩ := cells5 j2
        obtain ⟨_, b0_1, b1_1, b2_1, b3_1, bf_1⟩ := cells4 j0_1
        obtain ⟨_, e0_1, e1_1, e2_1, e3_1, e4_1, ef_1⟩ := cells5 j2_1
        obtain ⟨_, f0, f1, f2, f3, f4, ff⟩ := cells5 j1_1
        have HP := hidIt (put5 j1_1 (.int .i64 reg) (.int .i64 cnt) (.int .i64 v) (.int .i64 m) (.int .i64 key))
        clear h1 h2 hge j0 j1 j2 hx1 u1 v1 j0_1 j1_1 j2_1
        go_enter Tryz.func52, Tryz.ntmps52
        go_upto_region 1 with fail
        rw [← hw0]
        clear hw0
        go_upto_region 2 with fail
        rw [HG.out, ← HW1.out]
        clear HW1 c0 c1 c2 c3 cf
        go_upto_region 4 with fail
        rw [← HX1.out]
        go_wp2
        refine bodyPost_ret (v := .agg #[.int .i64 reg, .int .i64 cnt, .int .i64 v, .int .i64 m, .int .i64 key]) (by simp [results, Tryz.results52, go_sem, f0, f1, f2, f3, f4]) rfl ⟨by rw [HE.out], ?_⟩
        exact below_put (HB1.out) (HB1.out).size HP.out.2 (Nat.le_succ _)
    · have h2b : (m == 33) = false := by simpa using h2
      have HE : Hid (cmdB ⟨v, m, a, t⟩ reg cnt key = ⟨reg, cnt, v, m, key⟩) := by unfold Hid cmdB; simp [h1, h2]
      obtain ⟨u1, v1⟩ := set1 j2 4 (.int .i64 key)
      obtain ⟨x1, hx1⟩ : ∃ x, x = w1.setCell ⟨g, 4, none⟩ (.int .i64 key) := ⟨_, rfl⟩
      rw [← hx1] at u1 v1
      have j0_1 : x1.heap[w.heap.size]? = some (.cells #[.int .i64 v, .int .i64 m, .int .i64 a, .int .i64 t] 62 (0, 0)) := (v1.block _ (Array.getElem?_eq_some_iff.1 j0).1 (by simp; omega)).trans j0
      have j1_1 : x1.heap[w.heap.size + 1]? = some (.cells #[.int .i64 0, .int .i64 0, .int .i64 0, .int .i64 0, .int .i64 0] 33 (0, 0)) := (v1.block _ (Array.getElem?_eq_some_iff.1 j1).1 (by simp; omega)).trans j1
      have j2_1 : x1.heap[g]? = some (.cells #[.int .i64 reg, .int .i64 cnt, .int .i64 v, .int .i64 m, .int .i64 key] 33 (0, 0)) := u1
      have HB1 := hidIt (below_put (HBW.out) (HBW.out).size v1 hle)
      have HX1 := hidIt hx1
      obtain ⟨_, b0, b1, b2, b3, bf⟩ := cells4 j0
      obtain ⟨_, e0, e1, e2, e3, e4, ef⟩ := cells5 j2
      obtain ⟨_, b0_1, b1_1, b2_1, b3_1, bf_1⟩ := cells4 j0_1
      obtain ⟨_, e0_1, e1_1, e2_1, e3_1, e4_1, ef_1⟩ := cells5 j2_1
      obtain ⟨_, f0, f1, f2, f3, f4, ff⟩ := cells5 j1_1
      have HP := hidIt (put5 j1_1 (.int .i64 reg) (.int .i64 cnt) (.int .i64 v) (.int .i64 m) (.int .i64 key))
      clear h1 h2 hge j0 j1 j2 hx1 u1 v1 j0_1 j1_1 j2_1
      go_enter Tryz.func52, Tryz.ntmps52
      go_upto_region 1 with fail
      rw [← hw0]
      clear hw0
      go_upto_region 2 with fail
      rw [HG.out, ← HW1.out]
      clear HW1 c0 c1 c2 c3 cf
      go_upto_region 4 with fail
      rw [← HX1.out]
      go_wp2
      refine bodyPost_ret (v := .agg #[.int .i64 reg, .int .i64 cnt, .int .i64 v, .int .i64 m, .int .i64 key]) (by simp [results, Tryz.results52, go_sem, f0, f1, f2, f3, f4]) rfl ⟨by rw [HE.out], ?_⟩
      exact below_put (HB1.out) (HB1.out).size HP.out.2 (Nat.le_succ _)
  · have h1b : (t == 1) = false := by simpa using h1
    by_cases h2 : m = 33
    · have h2b : (m == 33) = true := by simpa using h2
      by_cases h3 : cnt > 0
      · skip
        have HE : Hid (cmdB ⟨v, m, a, t⟩ reg cnt key = ⟨reg, cnt, v, 18, a⟩) := by unfold Hid cmdB; simp [h1, h2, h3]
        obtain ⟨u1, v1⟩ := set1 j2 3 (.int .i64 18)
        obtain ⟨x1, hx1⟩ : ∃ x, x = w1.setCell ⟨g, 3, none⟩ (.int .i64 18) := ⟨_, rfl⟩
        rw [← hx1] at u1 v1
        have j0_1 : x1.heap[w.heap.size]? = some (.cells #[.int .i64 v, .int .i64 m, .int .i64 a, .int .i64 t] 62 (0, 0)) := (v1.block _ (Array.getElem?_eq_some_iff.1 j0).1 (by simp; omega)).trans j0
        have j1_1 : x1.heap[w.heap.size + 1]? = some (.cells #[.int .i64 0, .int .i64 0, .int .i64 0, .int .i64 0, .int .i64 0] 33 (0, 0)) := (v1.block _ (Array.getElem?_eq_some_iff.1 j1).1 (by simp; omega)).trans j1
        have j2_1 : x1.heap[g]? = some (.cells #[.int .i64 reg, .int .i64 cnt, .int .i64 v, .int .i64 18, .int .i64 a] 33 (0, 0)) := u1
        have HB1 := hidIt (below_put (HBW.out) (HBW.out).size v1 hle)
        have HX1 := hidIt hx1
        obtain ⟨_, b0, b1, b2, b3, bf⟩ := cells4 j0
        obtain ⟨_, e0, e1, e2, e3, e4, ef⟩ := cells5 j2
        obtain ⟨_, b0_1, b1_1, b2_1, b3_1, bf_1⟩ := cells4 j0_1
        obtain ⟨_, e0_1, e1_1, e2_1, e3_1, e4_1, ef_1⟩ := cells5 j2_1
        obtain ⟨_, f0, f1, f2, f3, f4, ff⟩ := cells5 j1_1
        have HP := hidIt (put5 j1_1 (.int .i64 reg) (.int .i64 cnt) (.int .i64 v) (.int .i64 18) (.int .i64 a))
        clear h1 h2 hge j0 j1 j2 hx1 u1 v1 j0_1 j1_1 j2_1
        go_enter Tryz.func52, Tryz.ntmps52
        go_upto_region 1 with fail
        rw [← hw0]
        clear hw0
        go_upto_region 2 with fail
        rw [HG.out, ← HW1.out]
        clear HW1 c0 c1 c2 c3 cf
        go_upto_region 6 with fail
        rw [← HX1.out]
        go_wp2
        refine bodyPost_ret (v := .agg #[.int .i64 reg, .int .i64 cnt, .int .i64 v, .int .i64 18, .int .i64 a]) (by simp [results, Tryz.results52, go_sem, f0, f1, f2, f3, f4]) rfl ⟨by rw [HE.out], ?_⟩
        exact below_put (HB1.out) (HB1.out).size HP.out.2 (Nat.le_succ _)
      · skip
        have HE : Hid (cmdB ⟨v, m, a, t⟩ reg cnt key = ⟨reg, cnt, v, m, a⟩) := by unfold Hid cmdB; simp [h1, h2, h3]
        obtain ⟨_, b0, b1, b2, b3, bf⟩ := cells4 j0
        obtain ⟨_, e0, e1, e2, e3, e4, ef⟩ := cells5 j2
        obtain ⟨_, f0, f1, f2, f3, f4, ff⟩ := cells5 j1
        have HP := hidIt (put5 j1 (.int .i64 reg) (.int .i64 cnt) (.int .i64 v) (.int .i64 m) (.int .i64 a))
        clear h1 h2 hge j0 j1 j2
        go_enter Tryz.func52, Tryz.ntmps52
        go_upto_region 1 with fail
        rw [← hw0]
        clear hw0
        go_upto_region 2 with fail
        rw [HG.out, ← HW1.out]
        clear HW1 c0 c1 c2 c3 cf
        go_wp2
        refine bodyPost_ret (v := .agg #[.int .i64 reg, .int .i64 cnt, .int .i64 v, .int .i64 m, .int .i64 a]) (by simp [results, Tryz.results52, go_sem, f0, f1, f2, f3, f4]) rfl ⟨by rw [HE.out], ?_⟩
        exact below_put (HBW.out) (HBW.out).size HP.out.2 (Nat.le_succ _)
    · have h2b : (m == 33) = false := by simpa using h2
      have HE : Hid (cmdB ⟨v, m, a, t⟩ reg cnt key = ⟨reg, cnt, v, m, a⟩) := by unfold Hid cmdB; simp [h1, h2]
      obtain ⟨_, b0, b1, b2, b3, bf⟩ := cells4 j0
      obtain ⟨_, e0, e1, e2, e3, e4, ef⟩ := cells5 j2
      obtain ⟨_, f0, f1, f2, f3, f4, ff⟩ := cells5 j1
      have HP := hidIt (put5 j1 (.int .i64 reg) (.int .i64 cnt) (.int .i64 v) (.int .i64 m) (.int .i64 a))
      clear h1 h2 hge j0 j1 j2
      go_enter Tryz.func52, Tryz.ntmps52
      go_upto_region 1 with fail
      rw [← hw0]
      clear hw0
      go_upto_region 2 with fail
      rw [HG.out, ← HW1.out]
      clear HW1 c0 c1 c2 c3 cf
      go_wp2
      refine bodyPost_ret (v := .agg #[.int .i64 reg, .int .i64 cnt, .int .i64 v, .int .i64 m, .int .i64 a]) (by simp [results, Tryz.results52, go_sem, f0, f1, f2, f3, f4]) rfl ⟨by rw [HE.out], ?_⟩
      exact below_put (HBW.out) (HBW.out).size HP.out.2 (Nat.le_succ _)
end Go.Proofs.YtfdceljdhgbkcaaGreatDoor
