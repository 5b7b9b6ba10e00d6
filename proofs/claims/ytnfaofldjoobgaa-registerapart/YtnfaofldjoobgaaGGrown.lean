/- The law's grown. -/
import Derived.Test.YtnfaofldjoobgaaGMark
namespace Go.Proofs.Ytnfaofldjoobgaa
open Go.RowKit

/-- An int of a row of the call's own is written. -/
theorem OwnI.set {w : World} {B g n c : Nat} {zs : List Int} (h : OwnI w B (.slice (some ⟨g, 0, none⟩) n c) zs) (j : Nat) (hj : j < zs.length) (x : Int) : OwnI (w.setCell ⟨g, j, none⟩ (.int .i64 x)) B (.slice (some ⟨g, 0, none⟩) n c) (zs.set j x) ∧ w.grownBy (w.setCell ⟨g, j, none⟩ (.int .i64 x)) (some g) ∧ (∃ y, w.cell? ⟨g, j, none⟩ = some (.int .i64 y)) ∧ w.frozen? ⟨g, j, none⟩ = false := by
  obtain ⟨h1, h2⟩ := h
  rcases h2 with ⟨h2, _⟩ | ⟨g', cap, cur, hv, hb, hg, k1, k2, k3, k4⟩
  · cases h2
  · cases hv
    obtain ⟨e, gr⟩ := set1 hg j (.int .i64 x)
    rw [Nat.mul_one] at k4 k3
    have hcur : cur[j]? = some (.int .i64 (zs[j]?.getD 0)) := by
      have := congrArg (fun l => l[j]?) k4
      simp only [List.getElem?_take_of_lt hj, List.getElem?_map, Array.getElem?_toList] at this
      rw [this]
      simp [hj]
    refine ⟨⟨by simp, .inr ⟨g, c, _, by simp, hb, e, by simpa using k1, k2, by simpa using k3, ?_⟩⟩, gr, ⟨_, (cellOf hg j).trans hcur⟩, frozOf hg j⟩
    rw [Nat.mul_one, List.length_set, Array.toList_setIfInBounds, List.map_set, ← k4, List.take_set]
theorem rep_all {zs : List Int} {n : Nat} {m : Int} (hl : zs.length = n) (h : ∀ k, k < n → zs[k]? = some m) : zs = List.replicate n m := by
  apply List.ext_getElem?
  intro k
  by_cases hk : k < n
  · rw [h k hk, List.getElem?_replicate, if_pos hk]
  · rw [List.getElem?_eq_none (by omega), List.getElem?_eq_none (by simp; omega)]
theorem one_cells (w : World) (m : Int) : ∀ k, k < 1 → (w.alloc (.cells #[.int .i64 m] 3)).cell? ⟨w.heap.size, k, none⟩ = some (.int .i64 m) := fun k hk => by
  rw [cellOf (heap_alloc_new w _)]
  match k, hk with
  | 0, _ => rfl
theorem two_cells (w : World) (m : Int) : ∀ k, k < 2 → (w.alloc (.cells #[.int .i64 m, .int .i64 m] 3)).cell? ⟨w.heap.size, k, none⟩ = some (.int .i64 m) := fun k hk => by
  rw [cellOf (heap_alloc_new w _)]
  match k, hk with
  | 0, _ => rfl
  | 1, _ => rfl
theorem three_cells (w : World) (m : Int) : ∀ k, k < 3 → (w.alloc (.cells #[.int .i64 m, .int .i64 m, .int .i64 m] 3)).cell? ⟨w.heap.size, k, none⟩ = some (.int .i64 m) := fun k hk => by
  rw [cellOf (heap_alloc_new w _)]
  match k, hk with
  | 0, _ => rfl
  | 1, _ => rfl
  | 2, _ => rfl
/-- Where a list lies: where v does, or in a new block. -/
def Near (w : World) (v y : Value) : Prop := ∀ k, y.ownBlock = some k → v.ownBlock = some k ∨ w.heap.size ≤ k
/-- What grown answers. -/
def GrR (B : Nat) (w : World) (v : Value) (n : Nat) (m : Int) (e : Ending) (w' : World) : Prop := ∃ rb a1 a2 a3, e = .returned (.slice (some ⟨rb, 0, none⟩) 4 4) ∧ w.heap.size ≤ rb ∧ w'.heap[rb]? = some (.cells #[v, a1, a2, a3] 29 (0, 0)) ∧ OwnI w' B v (List.replicate n m) ∧ OwnI w' B a1 (List.replicate (n + 1) m) ∧ OwnI w' B a2 (List.replicate (n + 2) m) ∧ OwnI w' B a3 (List.replicate (n + 103) m) ∧ Near w v a1 ∧ Near w v a2 ∧ Near w v a3 ∧ Kps (fun k => v.ownBlock = some k) w w'
theorem Near.trans {w w2 : World} {v x y : Value} (h : Near w v x) (hs : w.heap.size ≤ w2.heap.size) (k : y.ownBlock = x.ownBlock ∨ y.ownBlock = some w2.heap.size) : Near w v y := by
  intro q hq
  rcases k with k | k
  · exact h q (k ▸ hq)
  · rw [k] at hq
    cases hq
    exact .inr hs
theorem Near.self (w : World) (v : Value) : Near w v v := fun _ h => .inl h
/-- An append of marks leaves all but v's block and new ones. -/
theorem kps_near {w w2 w3 : World} {v x : Value} (k : Kps (fun k => v.ownBlock = some k) w w2) (h : Near w v x) (g : w2.grownBy w3 x.ownBlock) : Kps (fun k => v.ownBlock = some k) w w3 := by
  refine k.trans (Kps.grown (o := fun q => x.ownBlock = some q) g (fun q e _ => e)) (fun q hq e => ?_)
  rcases h q e with h | h
  · exact h
  · omega
set_option maxRecDepth 100000 in
set_option maxHeartbeats 4000000 in
theorem grown_any {B : Nat} (w : World) (v : Value) (zs : List Int) (m : Int) (hv : OwnI w B v zs) (hB : B ≤ w.heap.size) (hl : zs.length ≤ 200000) :
    Calls Try.prog 24 #[v, .int .i64 m] w (GrR B w v zs.length m) := by
  obtain ⟨ao, c, e, _⟩ := hv.rds.len
  obtain ⟨n, hn⟩ : ∃ n, n = zs.length := ⟨_, rfl⟩
  rw [← hn] at e
  subst e
  have HN := hidIt hn
  have hnb : (n : Int) ≤ 200000 := by omega
  have HB := hidIt hB
  have HV := hidIt hv
  rw [← hn]
  clear hv hB hl hn
  go_enter Try.func24, Try.ntmps24
  go_wp2_with fail
  go_loopw [5] (fun i wr => ∃ j : Nat, j ≤ n ∧ i = .int .i64 j ∧ Hid (∃ ys : List Int, ys.length = n ∧ OwnI wr B (.slice ao n c) ys ∧ (∀ k, k < j → ys[k]? = some m) ∧ w.grownBy wr (Value.slice ao n c).ownBlock)) (fun i _ => n - (RowKit.intOf i).toNat)
  case atStart => exact ⟨0, Nat.zero_le _, rfl, zs, HN.out.symm, HV.out, (fun k hk => by omega), ⟨rfl, rfl, rfl, Nat.le_refl _, fun _ _ _ => rfl⟩⟩
  case round =>
    obtain ⟨j, hj, rfl, hx⟩ := hrel
    obtain ⟨ys, y1, y2, y3, y4⟩ := hx.out
    by_cases hlt : (j : Int) < (n : Int)
    · obtain ⟨g, rfl⟩ : ∃ g, ao = some ⟨g, 0, none⟩ := by
        rcases y2.2 with ⟨e, _⟩ | ⟨g, cap, cur, e, _⟩
        · cases e; omega
        · cases e; exact ⟨g, rfl⟩
      obtain ⟨s1, s2, ⟨y, c1⟩, fr⟩ := y2.set j (by omega) m
      have S1 := hidIt s1
      have S2 := hidIt s2
      have Y1 := hidIt y1
      have Y3 := hidIt y3
      have Y4 := hidIt y4
      clear hx y1 y2 y3 y4 s1 s2
      go_wp2_with fail
      go_roundw
      case rel =>
        refine ⟨j + 1, by omega, by go_num, ys.set j m, by simp [Y1.out], S1.out, fun k hk => ?_, grown_trans Y4.out S2.out⟩
        by_cases e : k = j
        · subst e
          rw [List.getElem?_set_self (by rw [Y1.out]; omega)]
        · rw [List.getElem?_set_ne (Ne.symm e)]
          exact Y3.out k (by omega)
      case measure => simp [RowKit.intOf]; omega
    · have HO : Hid (OwnI wr B (.slice ao n c) (List.replicate n m)) := by
        have := rep_all y1 (fun k hk => y3 k (by omega))
        rw [this] at y2
        exact y2
      have HK : Hid (Kps (fun k => (Value.slice ao n c).ownBlock = some k) w wr) := Kps.grown y4 (fun k e _ => e)
      have HBW := hidIt (show B ≤ wr.heap.size by have := y4.size; have := HB.out; omega)
      clear hx y1 y2 y3 y4 hj HV
      go_upto_region 6 with (at_builtin; refine wpl_marks rfl _ _ 29 rfl B Try.info_i64 Try.underlying29 m n 3 _ rfl (HO.out.ext (ext_alloc (Below.refl _ _) _)) wr.heap.size 3 rfl (three_cells wr m) (by decide) (by omega) (by have := HBW.out; simp; omega) ?_; intro v2 w2 o2 p2 g2 n2; obtain ⟨a2, l2, c2, e2⟩ := o2.form; subst e2; have O2 := hidIt o2; have P2 := hidIt (p2 _ n (HO.out.ext (ext_alloc (Below.refl _ _) _))); have N2 := hidIt ((Near.self w (Value.slice ao n c)).trans (y := .slice a2 l2 c2) (by have := HK.out.size; simp; omega) n2); have K2 := hidIt (kps_near (HK.out.trans (Kps.of_below _ (ext_alloc (Below.refl _ _) _)) (fun _ _ h => h)) (Near.self _ _) g2); clear o2 p2 g2 n2)
      have HB2 := hidIt (show B ≤ w2.heap.size by have := K2.out.size; have := HB.out; omega)
      have HS2 := hidIt K2.out.size
      clear HO HK HBW hlt
      go_wp2_with fail
      go_loopw [6, 7] (fun f i wr => ∃ k : Nat, k ≤ 100 ∧ i = .int .i64 k ∧ Hid (OwnI wr B f (List.replicate (n + 3 + k) m) ∧ OwnI wr B (.slice ao n c) (List.replicate n m) ∧ Near w (.slice ao n c) f ∧ Kps (fun k => (Value.slice ao n c).ownBlock = some k) w wr)) (fun _ i _ => 100 - (RowKit.intOf i).toNat)
      case atStart => exact ⟨0, Nat.zero_le _, rfl, O2.out, P2.out, N2.out, K2.out⟩
      case round =>
        obtain ⟨k, hk, rfl, hx⟩ := hrel
        obtain ⟨x1, x2, x3, x4⟩ := hx.out
        obtain ⟨a3, l3, c3, rfl⟩ := x1.form
        have X1 := hidIt x1
        have X2 := hidIt x2
        have X3 := hidIt x3
        have X4 := hidIt x4
        have XB := hidIt (show B ≤ wr.heap.size by have := x4.size; have := HB.out; omega)
        clear hx x1 x2 x3 x4
        by_cases hlt : (k : Int) < 100
        · go_wp2_with (at_builtin; refine wpl_marks rfl _ _ 29 rfl B Try.info_i64 Try.underlying29 m (n + 3 + k) 1 _ rfl (X1.out.ext (ext_alloc (Below.refl _ _) _)) wr.heap.size 1 rfl (one_cells wr m) (by decide) (by omega) (by have := XB.out; simp; omega) ?_; intro v5 w5 o5 p5 g5 n5; obtain ⟨a5, l5, c5, e5⟩ := o5.form; subst e5; have O5 := hidIt o5; have P5 := hidIt (p5 _ n (X2.out.ext (ext_alloc (Below.refl _ _) _))); have N5 := hidIt (X3.out.trans (y := .slice a5 l5 c5) (by have := X4.out.size; simp; omega) n5); have K5 := hidIt (kps_near (X4.out.trans (Kps.of_below _ (ext_alloc (Below.refl _ _) _)) (fun _ _ h => h)) X3.out g5); clear o5 p5 g5 n5)
          go_roundw
          case rel => exact ⟨k + 1, by omega, by go_num, O5.out, P5.out, N5.out, K5.out⟩
          case measure => simp [RowKit.intOf]; omega
        · have hk1 : k = 100 := by omega
          subst hk1
          go_wp2_with (at_builtin; first
            | (refine wpl_marks rfl _ _ 29 rfl B Try.info_i64 Try.underlying29 m n 1 _ rfl (X2.out.ext (ext_alloc (Below.refl _ _) _)) wr.heap.size 1 rfl (one_cells wr m) (by decide) (by omega) (by have := XB.out; simp; omega) ?_; intro v5 w5 o5 p5 g5 n5; obtain ⟨a5, l5, c5, e5⟩ := o5.form; subst e5; have O5 := hidIt o5; have P5 := hidIt (p5 _ n (X2.out.ext (ext_alloc (Below.refl _ _) _))); have F5 := hidIt (p5 _ _ (X1.out.ext (ext_alloc (Below.refl _ _) _))); have N5 := hidIt ((Near.self w (Value.slice ao n c)).trans (y := .slice a5 l5 c5) (by have := X4.out.size; simp; omega) n5); have K5 := hidIt (kps_near (X4.out.trans (Kps.of_below _ (ext_alloc (Below.refl _ _) _)) (fun _ _ h => h)) (Near.self _ _) g5); have XB5 := hidIt (show B ≤ w5.heap.size by have := K5.out.size; have := HB.out; omega); clear o5 p5 g5 n5 XB)
            | (refine wpl_marks rfl _ _ 29 rfl B Try.info_i64 Try.underlying29 m n 2 _ rfl (P5.out.ext (ext_alloc (Below.refl _ _) _)) w5.heap.size 2 rfl (two_cells w5 m) (by decide) (by omega) (by have := XB5.out; simp; omega) ?_; intro v6 w6 o6 p6 g6 n6; obtain ⟨a6, l6, c6, e6⟩ := o6.form; subst e6; have O6 := hidIt o6; have P6 := hidIt (p6 _ n (P5.out.ext (ext_alloc (Below.refl _ _) _))); have F6 := hidIt (p6 _ _ (F5.out.ext (ext_alloc (Below.refl _ _) _))); have A6 := hidIt (p6 _ _ (O5.out.ext (ext_alloc (Below.refl _ _) _))); have N6 := hidIt ((Near.self w (Value.slice ao n c)).trans (y := .slice a6 l6 c6) (by have := K5.out.size; simp; omega) n6); have K6 := hidIt (kps_near (K5.out.trans (Kps.of_below _ (ext_alloc (Below.refl _ _) _)) (fun _ _ h => h)) (Near.self _ _) g6); clear o6 p6 g6 n6))
          go_ret
          have hb := ext_alloc (Below.refl w6.heap.size w6) (.cells #[.slice ao n c, .slice a5 l5 c5, .slice a6 l6 c6, .slice a3 l3 c3] 29)
          exact ⟨w6.heap.size, _, _, _, rfl, K6.out.size, heap_alloc_new _ _, P6.out.ext hb, A6.out.ext hb, O6.out.ext hb, F6.out.ext hb, N5.out, N6.out, X3.out, K6.out.trans (Kps.of_below _ hb) (fun _ _ h => h)⟩
end Go.Proofs.Ytnfaofldjoobgaa
