/- The law's same. -/
import Derived.Test.YtlcgagapkkdocaaDStill
import Derived.BigQuiet
import Derived.ChangeKeysEq
namespace Go.Proofs.Ytlcgagapkkdocaa
open Go.RowKit

/-- A shot of two disks that show the same. -/
theorem Shot.as {w : World} {a b c : Value} {D E : Dk} (h : Shot w a b c E) (hs : E.se = D.se) (hf : ∀ p ∈ D.se, (fiAt E.fi p.2).bs = (fiAt D.fi p.2).bs ∧ (fiAt E.fi p.2).ct = (fiAt D.fi p.2).ct) : Shot w a b c D := by
  obtain ⟨h1, h2, h3⟩ := h
  rw [hs] at h1 h2 h3
  have e2 : D.se.map (dat E) = D.se.map (dat D) := List.map_congr_left (fun p hp => by unfold dat; rw [(hf p hp).1])
  have e3 : D.se.flatMap (stm E) = D.se.flatMap (stm D) := by
    simp only [List.flatMap]
    congr 1
    exact List.map_congr_left (fun p hp => by unfold stm; rw [(hf p hp).1, (hf p hp).2])
  rw [e2] at h2
  rw [e3] at h3
  exact ⟨h1, h2, h3⟩
theorem flat_at {D : Dk} : ∀ {l : Dir} {j : Nat} {p : Nm × Nat}, l[j]? = some p → ∀ i, i < 3 → (l.flatMap (stm D))[j * 3 + i]? = (stm D p)[i]?
  | [], _, _, h, _, _ => by simp at h
  | q :: l, 0, p, h, i, hi => by
    simp at h
    subst h
    rw [List.flatMap_cons, List.getElem?_append_left (by simp [stm]; omega)]
    simp
  | q :: l, j + 1, p, h, i, hi => by
    rw [List.flatMap_cons, List.getElem?_append_right (by simp [stm]; omega)]
    rw [show (j + 1) * 3 + i - (stm D q).length = j * 3 + i by simp [stm]; omega]
    exact flat_at (by simpa using h) i hi
/-- A row's slice and what is read of it. -/
theorem row_at {w : World} {e : TypeId} {size n : Nat} {v : Value} {xs : List Value} (h : w.ownsRow 0 e size v n xs) : ∃ ao c, v = .slice ao n c ∧ (0 < n → ∃ g, ao = some ⟨g, 0, none⟩ ∧ n ≤ c ∧ ∀ j x, xs[j]? = some x → w.cell? ⟨g, j, none⟩ = some x) := by
  rcases h.2 with ⟨rfl, h0⟩ | ⟨g, cap, cur, rfl, _, hc, h1, h2, h3, h4⟩
  · exact ⟨none, 0, by rw [h0], fun hn => by omega⟩
  · refine ⟨_, _, rfl, fun _ => ⟨g, rfl, h1, fun j x hx => ?_⟩⟩
    rw [← h4, List.getElem?_take] at hx
    split at hx
    · simpa [World.cell?, hc] using hx
    · cases hx
set_option maxRecDepth 100000 in
/-- Two stamps, compared. -/
theorem neq_stamp (a b c a' b' c' : Int) (w : World) : (binOp .neq 55 (.agg #[.int .i64 a, .int .i64 b, .int .i64 c]) (.agg #[.int .i64 a', .int .i64 b', .int .i64 c'])).run Try.prog w = .ok (.bool (!(a == a' && (b == b' && c == c')))) w := by
  obtain ⟨i, hi⟩ := info_of_underlying Try.underlying3
  have hp : Try.prog.plainKey 3 = true := by kernel_rfl
  have hc : Try.prog.cellsOf 3 = 1 := by kernel_rfl
  rw [run_neq_struct, run_equalIn_array w 9999 _ _ Try.underlying55 hi, hc]
  have pr : ∀ (x y z : Int) (w : World), (part 3 #[.int .i64 x, .int .i64 y, .int .i64 z] 0).run Try.prog w = .ok (.int .i64 x) w ∧ (part 3 #[.int .i64 x, .int .i64 y, .int .i64 z] 1).run Try.prog w = .ok (.int .i64 y) w ∧ (part 3 #[.int .i64 x, .int .i64 y, .int .i64 z] 2).run Try.prog w = .ok (.int .i64 z) w := fun x y z w =>
    ⟨run_part_plain w hp rfl, run_part_plain w hp rfl, run_part_plain w hp rfl⟩
  have eq : ∀ (x y : Int) (w : World), (Op.equalIn 9999 3 (.int .i64 x) (.int .i64 y)).run Try.prog w = .ok (x == y) w := fun x y w => run_equalIn_int w 9998 3 .i64 .i64 x y Try.underlying3
  have hr : List.range 3 = [0, 1, 2] := rfl
  rw [hr]
  have p0 := fun x y z w => (pr x y z w).1
  have p1 := fun x y z w => (pr x y z w).2.1
  have p2 := fun x y z w => (pr x y z w).2.2
  clear pr
  cases h1 : a == a' <;> cases h2 : b == b' <;> cases h3 : c == c' <;> simp only [Op.eqItems, Nat.mul_one, Sem.run_bind, Sem.run_ite, Sem.run_pure, p0, p1, p2, Result.andThen_ok, eq, h1, h2, h3, Bool.not_false, Bool.not_true, Bool.false_eq_true, if_true, if_false, Bool.false_and, Bool.true_and]
set_option maxRecDepth 100000 in
set_option maxHeartbeats 4000000 in
theorem same_any {w : World} {vn vd vs un ud us : Value} {D : Dk} (h : Shot w vn vd vs D) (k : Shot w un ud us D) (hl : D.se.length ≤ 16) :
    Calls Try.prog 25 #[.agg #[vn, vd, vs], .agg #[un, ud, us]] w fun e w' => e = .returned (.bool true) ∧ Below w.heap.size w w' := by
  obtain ⟨w1, hw1, k0, k1, hb1⟩ : ∃ w1, w1 = (w.alloc (.cells #[vn, vd, vs] 51)).alloc (.cells #[un, ud, us] 51) ∧ w1.heap[w.heap.size]? = some (.cells #[vn, vd, vs] 51 (0, 0)) ∧ w1.heap[w.heap.size + 1]? = some (.cells #[un, ud, us] 51 (0, 0)) ∧ Below w.heap.size w w1 :=
    ⟨_, rfl, (heap_alloc_old _ _ (by simp)).trans (heap_alloc_new _ _), by have := heap_alloc_new (w.alloc (.cells #[vn, vd, vs] 51)) (.cells #[un, ud, us] 51); simpa using this, ext_alloc (ext_alloc (Below.refl _ _) _) _⟩
  obtain ⟨na, nc, rfl, hn⟩ := row_at (h.kd (Kd.of (F := fun _ => False) hb1)).n
  obtain ⟨da, dc, rfl, hd⟩ := row_at (h.kd (Kd.of (F := fun _ => False) hb1)).d
  obtain ⟨sa, sc, rfl, hs⟩ := row_at (h.kd (Kd.of (F := fun _ => False) hb1)).s
  obtain ⟨ma, mc, rfl, hm⟩ := row_at (k.kd (Kd.of (F := fun _ => False) hb1)).n
  obtain ⟨ea, ec, rfl, he⟩ := row_at (k.kd (Kd.of (F := fun _ => False) hb1)).d
  obtain ⟨ta, tc, rfl, ht⟩ := row_at (k.kd (Kd.of (F := fun _ => False) hb1)).s
  obtain ⟨y0, y1, y2, _⟩ := cells3 k0
  obtain ⟨z0, z1, z2, _⟩ := cells3 k1
  have HB := hidIt hb1
  have HN := hidIt hn
  have HD := hidIt hd
  have HS := hidIt hs
  have HM := hidIt hm
  have HE := hidIt he
  have HT := hidIt ht
  clear h k k0 k1 hb1 hn hd hs hm he ht
  go_enter Try.func25, Try.ntmps25
  go_upto_region 1 with fail
  rw [← hw1]
  clear hw1
  go_wp2_with fail
  go_loopw [5] (fun i wr => ∃ j : Nat, j ≤ D.se.length ∧ i = .int .i64 j ∧ ∃ n, wr = w1.drewN n) (fun i _ => D.se.length - (RowKit.intOf i).toNat)
  case atStart => exact ⟨0, Nat.zero_le _, rfl, 0, rfl⟩
  case round =>
    obtain ⟨j, hj, rfl, n, rfl⟩ := hrel
    by_cases hlt : j < D.se.length
    · have hlt' : (j : Int) < (D.se.length : Int) := by omega
      obtain ⟨p, hp⟩ : ∃ p, D.se[j]? = some p := ⟨D.se[j], by simp [hlt]⟩
      obtain ⟨gn, e1, b1, c1⟩ := HN.out (by omega)
      obtain ⟨gd, e2, b2, c2⟩ := HD.out (by omega)
      obtain ⟨gs, e3, b3, c3⟩ := HS.out (by omega)
      obtain ⟨gm, e4, b4, c4⟩ := HM.out (by omega)
      obtain ⟨ge, e5, b5, c5⟩ := HE.out (by omega)
      obtain ⟨gt, e6, b6, c6⟩ := HT.out (by omega)
      subst e1 e2 e3 e4 e5 e6
      have q1 := c1 j (sv p.1) (by rw [List.getElem?_map, hp]; rfl)
      have q2 := c2 j (dat D p) (by rw [List.getElem?_map, hp]; rfl)
      have q4 := c4 j (sv p.1) (by rw [List.getElem?_map, hp]; rfl)
      have q5 := c5 j (dat D p) (by rw [List.getElem?_map, hp]; rfl)
      have q30 := c3 (j * 3) (.int .i64 ((p.2 : Int) + 1)) (flat_at hp 0 (by omega))
      have q31 := c3 (j * 3 + 1) (.int .i64 ((fiAt D.fi p.2).bs.length : Int)) (flat_at hp 1 (by omega))
      have q32 := c3 (j * 3 + 2) (.int .i64 ((fiAt D.fi p.2).ct : Int)) (flat_at hp 2 (by omega))
      have q60 := c6 (j * 3) (.int .i64 ((p.2 : Int) + 1)) (flat_at hp 0 (by omega))
      have q61 := c6 (j * 3 + 1) (.int .i64 ((fiAt D.fi p.2).bs.length : Int)) (flat_at hp 1 (by omega))
      have q62 := c6 (j * 3 + 2) (.int .i64 ((fiAt D.fi p.2).ct : Int)) (flat_at hp 2 (by omega))
      unfold dat at q2 q5
      generalize ((p.2 : Int) + 1) = r0 at *
      generalize ((fiAt D.fi p.2).bs.length : Int) = r1 at *
      generalize ((fiAt D.fi p.2).ct : Int) = r2 at *
      generalize bsOf p.1 = t0 at *
      generalize strOfNums (fiAt D.fi p.2).bs = t1 at *
      have hq : ∀ w, (binOp .neq 55 (.agg #[.int .i64 r0, .int .i64 r1, .int .i64 r2]) (.agg #[.int .i64 r0, .int .i64 r1, .int .i64 r2])).run Try.prog w = .ok (.bool false) w := fun w => by rw [neq_stamp]; simp
      clear c1 c2 c3 c4 c5 c6 hp HN HD HS HM HE HT
      go_upto_region 6 with fail
      go_quiet (fail)
      go_wp2_with fail
      go_roundw
      case rel => exact ⟨j + 1, by omega, by go_num, _, rfl⟩
      case measure => simp [RowKit.intOf]; omega
    · have ejk : D.se.length = j := by omega
      subst ejk
      have hge : ¬ (D.se.length : Int) < (D.se.length : Int) := by omega
      go_wp2_with fail
      go_ret
      exact ⟨rfl, ⟨HB.out.os, HB.out.tape, HB.out.output, HB.out.size, HB.out.block⟩⟩
end Go.Proofs.Ytlcgagapkkdocaa
