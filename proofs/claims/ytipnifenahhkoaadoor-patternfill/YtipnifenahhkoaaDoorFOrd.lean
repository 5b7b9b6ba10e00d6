/- give, taken, backslash, order. -/
import Derived.Test.YtipnifenahhkoaaDoorFSgn
namespace Go.Proofs.YtipnifenahhkoaaDoor
open Go.RowKit

/-- What an order gives, in memory: older than base, or in rows of ints. -/
def Gv (w : World) (base : Nat) (ga : Option Addr) (gc : Nat) (g : List Int) : Prop :=
  Rd .i64 w (.slice ga g.length gc) g ∧ ∀ k off, ga = some ⟨k, off, none⟩ → k < base ∨ ∃ cs, w.heap[k]? = some (.cells cs 3 (0, 0))
theorem Gv.grown {w w' : World} {base : Nat} {ga : Option Addr} {gc : Nat} {g : List Int} {row : Option Nat} (h : Gv w base ga gc g) (hg : w.grownBy w' row) (hr : ∀ k, row = some k → base ≤ k ∧ ∀ cs, w.heap[k]? ≠ some (.cells cs 3 (0, 0))) : Gv w' base ga gc g := by
  obtain ⟨⟨ao, cap, e, h1, h2, h3⟩, h4⟩ := h
  cases e
  have key : ∀ k off, ga = some ⟨k, off, none⟩ → k < w.heap.size → w'.heap[k]? = w.heap[k]? := fun k off e hk => hg.block k hk (fun er => by
    have := hr k er.symm
    rcases h4 k off e with h | ⟨cs, h⟩
    · omega
    · exact this.2 cs h)
  refine ⟨⟨ga, gc, rfl, h1, h2, fun hn => ?_⟩, fun k off e => ?_⟩
  · obtain ⟨k, off, e, hk, hc⟩ := h3 hn
    refine ⟨k, off, e, Nat.lt_of_lt_of_le hk hg.size, fun i hi => ?_⟩
    rw [← hc i hi]
    unfold World.cell?
    simp only [key k off e hk]
  · rcases h4 k off e with h | ⟨cs, h⟩
    · exact .inl h
    · exact .inr ⟨cs, (key k off e (Array.getElem?_eq_some_iff.1 h).1).trans h⟩
/-- An order as a value. -/
def OdV (w : World) (base : Nat) (v : Value) (o : Od) : Prop := ∃ ga gc, v = .agg #[.slice ga o.gives.length gc, .int .i64 o.letter] ∧ Gv w base ga gc o.gives
theorem OdV.grown {w w' : World} {base : Nat} {v : Value} {o : Od} {row : Option Nat} (h : OdV w base v o) (hg : w.grownBy w' row) (hr : ∀ k, row = some k → base ≤ k ∧ ∀ cs, w.heap[k]? ≠ some (.cells cs 3 (0, 0))) : OdV w' base v o := by
  obtain ⟨ga, gc, e, g⟩ := h
  exact ⟨ga, gc, e, g.grown hg hr⟩
set_option maxRecDepth 100000 in
theorem give_any (a : Int) (w : World) (base : Nat) : Calls Tryd.prog 28 #[.int .i64 a] w fun e w' => ∃ v, e = .returned v ∧ OdV w' base v ⟨[a], 0⟩ ∧ Below w.heap.size w w' := by
  go_enter Tryd.func28, Tryd.ntmps28
  go_wp2_with fail
  generalize hw1 : w.alloc (.cells #[.slice (some ⟨w.heap.size + 1, 0, none⟩) 1 1, .int .i64 0] 51) = w1
  have hs1 : w1.heap.size = w.heap.size + 1 := by rw [← hw1]; simp
  have k1 : w1.heap[w.heap.size]? = some (.cells #[.slice (some ⟨w.heap.size + 1, 0, none⟩) 1 1, .int .i64 0] 51 (0, 0)) := by rw [← hw1]; exact heap_alloc_new _ _
  have k2 : (w1.alloc (.cells #[.int .i64 a] 3)).heap[w.heap.size]? = some (.cells #[.slice (some ⟨w.heap.size + 1, 0, none⟩) 1 1, .int .i64 0] 51 (0, 0)) := (Below.heap_alloc _ _ _ (by omega)).trans k1
  have k3 := heap_alloc_new w1 (.cells #[.int .i64 a] 3)
  rw [hs1] at k3
  have c0 : (w1.alloc (.cells #[.int .i64 a] 3)).cell? ⟨w.heap.size, 0, none⟩ = some (.slice (some ⟨w.heap.size + 1, 0, none⟩) 1 1) := by rw [cell_of_row _ _ 0 _ _ _ k2]; rfl
  have c1 : (w1.alloc (.cells #[.int .i64 a] 3)).cell? ⟨w.heap.size, 1, none⟩ = some (.int .i64 0) := by rw [cell_of_row _ _ 1 _ _ _ k2]; rfl
  have hb1 : Below w.heap.size w w1 := by rw [← hw1]; exact ext_alloc (Below.refl _ _) _
  refine bodyPost_ret (v := .agg #[.slice (some ⟨w.heap.size + 1, 0, none⟩) 1 1, .int .i64 0]) (by simp [results, Tryd.results28, go_sem, c0, c1]) rfl ⟨_, rfl, ⟨_, _, rfl, ⟨⟨_, _, rfl, Nat.le_refl _, by simp [maxLen], fun _ => ⟨_, _, rfl, by simp; omega, fun i hi => ?_⟩⟩, fun k off e => ?_⟩⟩, ext_alloc hb1 _⟩
  · have hi0 : i = 0 := by simpa using hi
    subst hi0
    rw [Nat.add_zero, cell_of_row _ _ 0 _ _ _ k3]
    rfl
  · cases e
    exact .inr ⟨_, k3⟩

/-- Two stores into a result's block. -/
theorem put2 {w : World} {g : Nat} {a c : Value} {T : TypeId} (hg : w.heap[g]? = some (.cells #[a, c] T (0, 0))) (x y : Value) : ((w.setCell ⟨g, 0, none⟩ x).setCell ⟨g, 1, none⟩ y).heap[g]? = some (.cells #[x, y] T (0, 0)) ∧ w.grownBy ((w.setCell ⟨g, 0, none⟩ x).setCell ⟨g, 1, none⟩ y) (some g) := by
  obtain ⟨s1, g1⟩ := set1 hg 0 x
  have s1' : (w.setCell ⟨g, 0, none⟩ x).heap[g]? = some (.cells #[x, c] T (0, 0)) := s1
  obtain ⟨s2, g2⟩ := set1 s1' 1 y
  exact ⟨s2, grown_trans g1 g2⟩
theorem cells2 {w : World} {g : Nat} {a b : Value} {T : TypeId} {r : Nat × Nat} (hg : w.heap[g]? = some (.cells #[a, b] T r)) : w.cell? ⟨g, 0, none⟩ = some a ∧ w.cell? ⟨g, 1, none⟩ = some b := by
  refine ⟨?_, ?_⟩ <;> rw [cell_of_row w g _ _ _ _ hg] <;> rfl
theorem not_int {w : World} {g : Nat} {cs : Array Value} {T : TypeId} (hg : w.heap[g]? = some (.cells cs T (0, 0))) (hT : T ≠ 3) : ∀ cs', w.heap[g]? ≠ some (.cells cs' 3 (0, 0)) := by
  intro cs' e
  rw [hg] at e
  cases e
  exact hT rfl
/-- An order laid into the place of a result. -/
theorem od_done {w y : World} {g base : Nat} {a c : Value} (hb : Below g w y) (hg : y.heap[g]? = some (.cells #[a, c] 51 (0, 0))) (hbase : base ≤ g) (ga : Option Addr) (gc : Nat) (o : Od) (hv : Gv y base ga gc o.gives) :
    ((y.setCell ⟨g, 0, none⟩ (.slice ga o.gives.length gc)).setCell ⟨g, 1, none⟩ (.int .i64 o.letter)).cell? ⟨g, 0, none⟩ = some (.slice ga o.gives.length gc) ∧ ((y.setCell ⟨g, 0, none⟩ (.slice ga o.gives.length gc)).setCell ⟨g, 1, none⟩ (.int .i64 o.letter)).cell? ⟨g, 1, none⟩ = some (.int .i64 o.letter) ∧ OdV ((y.setCell ⟨g, 0, none⟩ (.slice ga o.gives.length gc)).setCell ⟨g, 1, none⟩ (.int .i64 o.letter)) base (.agg #[.slice ga o.gives.length gc, .int .i64 o.letter]) o ∧ Below g w ((y.setCell ⟨g, 0, none⟩ (.slice ga o.gives.length gc)).setCell ⟨g, 1, none⟩ (.int .i64 o.letter)) ∧ y.grownBy ((y.setCell ⟨g, 0, none⟩ (.slice ga o.gives.length gc)).setCell ⟨g, 1, none⟩ (.int .i64 o.letter)) (some g) := by
  obtain ⟨p1, p2⟩ := put2 hg (.slice ga o.gives.length gc) (.int .i64 o.letter)
  obtain ⟨c0, c1⟩ := cells2 p1
  have hl := (Array.getElem?_eq_some_iff.1 hg).1
  exact ⟨c0, c1, ⟨ga, gc, rfl, hv.grown p2 (fun k e => by cases e; exact ⟨hbase, not_int hg (by decide)⟩)⟩, hb.grown p2 (Nat.le_of_lt hl) (fun k e => by cases e; exact Nat.le_refl _), p2⟩
set_option maxRecDepth 100000 in
set_option maxHeartbeats 4000000 in
theorem taken_any {w : World} {b : Nat} {sa : Option Addr} {sc : Nat} {rep : List Int} {p : Nat} {la : Option Addr} {lc : Nat} {line mt : List Int} (h : Fl w b sa sc rep p la lc line mt) (base : Nat) (hla : ∀ k o, la = some ⟨k, o, none⟩ → k < base) (hbs : base ≤ w.heap.size) (k : Nat) (hk : k ≤ 9) :
    Calls Tryd.prog 26 #[.pointer (some ⟨b, 0, none⟩), .int .i64 k] w fun e w' => ∃ v, e = .returned v ∧ OdV w' base v ⟨tak line mt k, 0⟩ ∧ Below w.heap.size w w' := by
  obtain ⟨w0, hw0⟩ : ∃ w0, w0 = w.alloc (.cells #[.slice none 0 0, .int .i64 0] 51) := ⟨_, rfl⟩
  have hb0 : Below w.heap.size w w0 := by rw [hw0]; exact ext_alloc (Below.refl _ _) _
  have hc0 : w0.heap[w.heap.size]? = some (.cells #[.slice none 0 0, .int .i64 0] 51 (0, 0)) := by rw [hw0]; exact heap_alloc_new _ _
  have h0 := h.ext hb0
  have d0 := h0.mat (2 * k) (by omega)
  have d1 := h0.mat (2 * k + 1) (by omega)
  obtain ⟨_, _, d2, _⟩ := h0.cells
  have HL := hidIt h0.rl
  have hlen := h0.rl
  have HTK : Hid (tak line mt k = (line.take (min (mt[2 * k + 1]?.getD 0) (line.length : Int)).toNat).drop (max (mt[2 * k]?.getD 0) 0).toNat) := rfl
  generalize mt[2 * k]?.getD 0 = fr at *
  generalize mt[2 * k + 1]?.getD 0 = tt at *
  obtain ⟨i, hi⟩ : ∃ i, i = 2 * k := ⟨_, rfl⟩
  rw [← hi] at d0 d1
  have s1 : 2 * (k : Int) = (i : Int) := by omega
  have s2 : IntKind.i64.wrap (i : Int) = (i : Int) := by rw [IntKind.wrap_i64]; omega
  have s3 : IntKind.i64.wrap ((i : Int) + 1) = ((i + 1 : Nat) : Int) := by rw [IntKind.wrap_i64]; omega
  have hi18 : i ≤ 18 := by omega
  have hi20 : (i : Int) < 20 := by omega
  have hi21 : (i : Int) + 1 < 20 := by omega
  have hi22 : (0 : Int) ≤ (i : Int) + 1 := by omega
  clear hi hk h h0
  go_enter Tryd.func26, Tryd.ntmps26
  go_upto_region 1 with fail
  rw [← hw0]
  clear hw0
  refine wp_region_held_drew (S := fun w' => w'.cell? ⟨b, 5 + i, none⟩ = some (.int .i64 fr) ∧ w'.cell? ⟨b, 5 + (i + 1), none⟩ = some (.int .i64 tt) ∧ w'.cell? ⟨b, 4, none⟩ = some (.slice la line.length lc)) (by kernel_rfl) (⟨d0, d1, d2⟩) (fun hHeld => ?_)
  refine wpAnyH_take (i := 0) (oi := _) (v := ?_) rfl (by kernel_rfl) (by kernel_rfl) (by kernel_rfl) (fun _ _ _ h => h) (Or.inl ⟨by rfl, ?_⟩) (by assumption) ?_
  rotate_left 1
  · intro wq hSw; (try dsimp only at hSw); go_simp; try (with_reducible rfl)
  try simp only [Act.put, List.getElem_toArray, List.getElem_cons_zero, List.setIfInBounds_toArray, List.set_cons_zero, List.set_cons_succ]
  refine wpAnyH_take (i := 1) (oi := _) (v := ?_) rfl (by kernel_rfl) (by kernel_rfl) (by kernel_rfl) (fun _ _ _ h => h) (Or.inl ⟨by rfl, ?_⟩) (by assumption) ?_
  rotate_left 1
  · intro wq hSw; (try dsimp only at hSw); go_simp; try (with_reducible rfl)
  try simp only [Act.put, List.getElem_toArray, List.getElem_cons_succ, List.getElem_cons_zero, List.setIfInBounds_toArray, List.set_cons_zero, List.set_cons_succ]
  refine wpAnyH_take (i := 2) (oi := _) (v := ?_) rfl (by kernel_rfl) (by kernel_rfl) (by kernel_rfl) (fun _ _ _ h => h) (Or.inl ⟨by rfl, ?_⟩) (by assumption) ?_
  rotate_left 1
  · intro wq hSw; (try dsimp only at hSw); go_simp; try (with_reducible rfl)
  try simp only [Act.put, List.getElem_toArray, List.getElem_cons_succ, List.getElem_cons_zero, List.setIfInBounds_toArray, List.set_cons_zero, List.set_cons_succ]
  refine wpAnyH_take (i := 3) (oi := _) (v := ?_) rfl (by kernel_rfl) (by kernel_rfl) (by kernel_rfl) (fun _ _ _ h => h) (Or.inl ⟨by rfl, ?_⟩) (by assumption) ?_
  rotate_left 1
  · intro wq hSw; (try dsimp only at hSw); go_simp; try (with_reducible rfl)
  try simp only [Act.put, List.getElem_toArray, List.getElem_cons_succ, List.getElem_cons_zero, List.setIfInBounds_toArray, List.set_cons_zero, List.set_cons_succ]
  refine wpAnyH_take (i := 4) (oi := _) (v := ?_) rfl (by kernel_rfl) (by kernel_rfl) (by kernel_rfl) (fun _ _ _ h => h) (Or.inl ⟨by rfl, ?_⟩) (by assumption) ?_
  rotate_left 1
  · intro wq hSw; (try dsimp only at hSw); go_simp; try (with_reducible rfl)
  try simp only [Act.put, List.getElem_toArray, List.getElem_cons_succ, List.getElem_cons_zero, List.setIfInBounds_toArray, List.set_cons_zero, List.set_cons_succ]
  refine wpAnyH_take (i := 5) (oi := _) (v := ?_) rfl (by kernel_rfl) (by kernel_rfl) (by kernel_rfl) (fun _ _ _ h => h) (Or.inl ⟨by rfl, ?_⟩) (by assumption) ?_
  rotate_left 1
  · intro wq hSw; (try dsimp only at hSw); go_simp; try (with_reducible rfl)
  try simp only [Act.put, List.getElem_toArray, List.getElem_cons_succ, List.getElem_cons_zero, List.setIfInBounds_toArray, List.set_cons_zero, List.set_cons_succ]
  refine wpAnyH_take (i := 6) (oi := _) (v := ?_) rfl (by kernel_rfl) (by kernel_rfl) (by kernel_rfl) (fun _ _ _ h => h) (Or.inl ⟨by rfl, ?_⟩) (by assumption) ?_
  rotate_left 1
  · intro wq hSw; (try dsimp only at hSw); go_simp; try (with_reducible rfl)
  try simp only [Act.put, List.getElem_toArray, List.getElem_cons_succ, List.getElem_cons_zero, List.setIfInBounds_toArray, List.set_cons_zero, List.set_cons_succ]
  refine wpAnyH_take (i := 7) (oi := _) (v := ?_) rfl (by kernel_rfl) (by kernel_rfl) (by kernel_rfl) (fun _ _ _ h => h) (Or.inl ⟨by rfl, ?_⟩) (by assumption) ?_
  rotate_left 1
  · intro wq hSw; (try dsimp only at hSw); go_simp; try (with_reducible rfl)
  try simp only [Act.put, List.getElem_toArray, List.getElem_cons_succ, List.getElem_cons_zero, List.setIfInBounds_toArray, List.set_cons_zero, List.set_cons_succ]
  refine wpAnyH_take (i := 8) (oi := _) (v := ?_) rfl (by kernel_rfl) (by kernel_rfl) (by kernel_rfl) (fun _ _ _ h => h) (Or.inl ⟨by rfl, ?_⟩) (by assumption) ?_
  rotate_left 1
  · intro wq hSw; (try dsimp only at hSw); go_simp; try (with_reducible rfl)
  try simp only [Act.put, List.getElem_toArray, List.getElem_cons_succ, List.getElem_cons_zero, List.setIfInBounds_toArray, List.set_cons_zero, List.set_cons_succ]
  refine wpAnyH_take (i := 9) (oi := _) (v := ?_) rfl (by kernel_rfl) (by kernel_rfl) (by kernel_rfl) (fun _ _ _ h => h) (Or.inl ⟨by rfl, ?_⟩) (by assumption) ?_
  rotate_left 1
  · intro wq hSw; (try dsimp only at hSw); go_simp; try (with_reducible rfl)
  try simp only [Act.put, List.getElem_toArray, List.getElem_cons_succ, List.getElem_cons_zero, List.setIfInBounds_toArray, List.set_cons_zero, List.set_cons_succ]
  refine wpAnyH_take (i := 10) (oi := _) (v := ?_) rfl (by kernel_rfl) (by kernel_rfl) (by kernel_rfl) (fun _ _ _ h => h) (Or.inl ⟨by rfl, ?_⟩) (by assumption) ?_
  rotate_left 1
  · intro wq hSw; (try dsimp only at hSw); go_simp; try (with_reducible rfl)
  try simp only [Act.put, List.getElem_toArray, List.getElem_cons_succ, List.getElem_cons_zero, List.setIfInBounds_toArray, List.set_cons_zero, List.set_cons_succ]
  refine wpAnyH_take (i := 11) (oi := _) (v := ?_) rfl (by kernel_rfl) (by kernel_rfl) (by kernel_rfl) (fun _ _ _ h => h) (Or.inl ⟨by rfl, ?_⟩) (by assumption) ?_
  rotate_left 1
  · intro wq hSw; (try dsimp only at hSw); go_simp; try (with_reducible rfl)
  try simp only [Act.put, List.getElem_toArray, List.getElem_cons_succ, List.getElem_cons_zero, List.setIfInBounds_toArray, List.set_cons_zero, List.set_cons_succ]
  refine wpAnyH_take (i := 12) (oi := _) (v := ?_) rfl (by kernel_rfl) (by kernel_rfl) (by kernel_rfl) (fun _ _ _ h => h) (Or.inl ⟨by rfl, ?_⟩) (by assumption) ?_
  rotate_left 1
  · intro wq hSw; (try dsimp only at hSw); go_simp; try (with_reducible rfl)
  try simp only [Act.put, List.getElem_toArray, List.getElem_cons_succ, List.getElem_cons_zero, List.setIfInBounds_toArray, List.set_cons_zero, List.set_cons_succ]
  refine wpAnyH_take (i := 13) (oi := _) (v := ?_) rfl (by kernel_rfl) (by kernel_rfl) (by kernel_rfl) (fun _ _ _ h => h) (Or.inl ⟨by rfl, ?_⟩) (by assumption) ?_
  rotate_left 1
  · intro wq hSw; (try dsimp only at hSw); go_simp; try (with_reducible rfl)
  try simp only [Act.put, List.getElem_toArray, List.getElem_cons_succ, List.getElem_cons_zero, List.setIfInBounds_toArray, List.set_cons_zero, List.set_cons_succ]
  refine wpAnyH_take (i := 14) (oi := _) (v := ?_) rfl (by kernel_rfl) (by kernel_rfl) (by kernel_rfl) (fun _ _ _ h => h) (Or.inl ⟨by rfl, ?_⟩) (by assumption) ?_
  rotate_left 1
  · intro wq hSw; (try dsimp only at hSw); go_simp; try (with_reducible rfl)
  try simp only [Act.put, List.getElem_toArray, List.getElem_cons_succ, List.getElem_cons_zero, List.setIfInBounds_toArray, List.set_cons_zero, List.set_cons_succ]
  refine wpAnyH_take (i := 15) (oi := _) (v := ?_) rfl (by kernel_rfl) (by kernel_rfl) (by kernel_rfl) (fun _ _ _ h => h) (Or.inl ⟨by rfl, ?_⟩) (by assumption) ?_
  rotate_left 1
  · intro wq hSw; (try dsimp only at hSw); go_simp; try (with_reducible rfl)
  try simp only [Act.put, List.getElem_toArray, List.getElem_cons_succ, List.getElem_cons_zero, List.setIfInBounds_toArray, List.set_cons_zero, List.set_cons_succ]
  refine wpAnyH_take (i := 16) (oi := _) (v := ?_) rfl (by kernel_rfl) (by kernel_rfl) (by kernel_rfl) (fun _ _ _ h => h) (Or.inl ⟨by rfl, ?_⟩) (by assumption) ?_
  rotate_left 1
  · intro wq hSw; (try dsimp only at hSw); go_simp; try (with_reducible rfl)
  try simp only [Act.put, List.getElem_toArray, List.getElem_cons_succ, List.getElem_cons_zero, List.setIfInBounds_toArray, List.set_cons_zero, List.set_cons_succ]
  refine wpAnyH_take (i := 17) (oi := _) (v := ?_) rfl (by kernel_rfl) (by kernel_rfl) (by kernel_rfl) (fun _ _ _ h => h) (Or.inl ⟨by rfl, ?_⟩) (by assumption) ?_
  rotate_left 1
  · intro wq hSw; (try dsimp only at hSw); go_simp; try (with_reducible rfl)
  try simp only [Act.put, List.getElem_toArray, List.getElem_cons_succ, List.getElem_cons_zero, List.setIfInBounds_toArray, List.set_cons_zero, List.set_cons_succ]
  refine wpAnyH_take (i := 18) (oi := _) (v := ?_) rfl (by kernel_rfl) (by kernel_rfl) (by kernel_rfl) (fun _ _ _ h => h) (Or.inl ⟨by rfl, ?_⟩) (by assumption) ?_
  rotate_left 1
  · intro wq hSw; (try dsimp only at hSw); go_simp; try (with_reducible rfl)
  try simp only [Act.put, List.getElem_toArray, List.getElem_cons_succ, List.getElem_cons_zero, List.setIfInBounds_toArray, List.set_cons_zero, List.set_cons_succ]
  refine wpAnyH_take (i := 19) (oi := _) (v := ?_) rfl (by kernel_rfl) (by kernel_rfl) (by kernel_rfl) (fun _ _ _ h => h) (Or.inl ⟨by rfl, ?_⟩) (by assumption) ?_
  rotate_left 1
  · intro wq hSw; (try dsimp only at hSw); go_simp; try (with_reducible rfl)
  try simp only [Act.put, List.getElem_toArray, List.getElem_cons_succ, List.getElem_cons_zero, List.setIfInBounds_toArray, List.set_cons_zero, List.set_cons_succ]
  refine wpAnyH_take (i := 20) (oi := _) (v := ?_) rfl (by kernel_rfl) (by kernel_rfl) (by kernel_rfl) (fun _ _ _ h => h) (Or.inl ⟨by rfl, ?_⟩) (by assumption) ?_
  rotate_left 1
  · intro wq hSw; (try dsimp only at hSw); go_simp; try (with_reducible rfl)
  try simp only [Act.put, List.getElem_toArray, List.getElem_cons_succ, List.getElem_cons_zero, List.setIfInBounds_toArray, List.set_cons_zero, List.set_cons_succ]
  refine wpAnyH_take (i := 21) (oi := _) (v := ?_) rfl (by kernel_rfl) (by kernel_rfl) (by kernel_rfl) (fun _ _ _ h => h) (Or.inl ⟨by rfl, ?_⟩) (by assumption) ?_
  rotate_left 1
  · intro wq hSw; (try dsimp only at hSw); go_simp; try (with_reducible rfl)
  try simp only [Act.put, List.getElem_toArray, List.getElem_cons_succ, List.getElem_cons_zero, List.setIfInBounds_toArray, List.set_cons_zero, List.set_cons_succ]
  refine wpAnyH_take (i := 22) (oi := _) (v := ?_) rfl (by kernel_rfl) (by kernel_rfl) (by kernel_rfl) (fun _ _ _ h => h) (Or.inl ⟨by rfl, ?_⟩) (by assumption) ?_
  rotate_left 1
  · intro wq hSw; (try dsimp only at hSw); go_simp; try (with_reducible rfl)
  try simp only [Act.put, List.getElem_toArray, List.getElem_cons_succ, List.getElem_cons_zero, List.setIfInBounds_toArray, List.set_cons_zero, List.set_cons_succ]
  refine wpAnyH_take (i := 23) (oi := _) (v := ?_) rfl (by kernel_rfl) (by kernel_rfl) (by kernel_rfl) (fun _ _ _ h => h) (Or.inl ⟨by rfl, ?_⟩) (by assumption) ?_
  rotate_left 1
  · intro wq hSw; (try dsimp only at hSw); go_simp; try (with_reducible rfl)
  try simp only [Act.put, List.getElem_toArray, List.getElem_cons_succ, List.getElem_cons_zero, List.setIfInBounds_toArray, List.set_cons_zero, List.set_cons_succ]
  refine wpAnyH_done (by kernel_rfl) ?_ _
  skip
  have HX : Hid ((if fr < 0 then 0 else fr) = max fr 0) := by unfold Hid; split <;> omega
  have HY : Hid ((if (line.length : Int) < tt then (line.length : Int) else tt) = min tt (line.length : Int)) := by unfold Hid; split <;> omega
  generalize (if fr < 0 then 0 else fr) = X at *
  generalize (if (line.length : Int) < tt then (line.length : Int) else tt) = Y at *
  obtain ⟨y0, hy0⟩ : ∃ y0, y0 = w0.drew := ⟨_, rfl⟩
  have hb1 : Below w.heap.size w y0 := by rw [hy0]; exact hb0.drew
  have hc1 : y0.heap[w.heap.size]? = some (.cells #[.slice none 0 0, .int .i64 0] 51 (0, 0)) := by rw [hy0]; exact hc0
  have HL1 : Hid (Rd .i64 y0 (.slice la line.length lc) line) := by unfold Hid; rw [hy0]; exact HL.out.ext (Below.refl _ _).drew
  have e4 : y0.cell? ⟨b, 4, none⟩ = some (.slice la line.length lc) := by rw [hy0]; simpa using d2
  rw [← hy0]
  have cz0 : y0.cell? ⟨w.heap.size, 0, none⟩ = some (.slice none 0 0) := by rw [cell_of_row _ _ 0 _ _ _ hc1]; rfl
  have cz1 : y0.cell? ⟨w.heap.size, 1, none⟩ = some (.int .i64 0) := by rw [cell_of_row _ _ 1 _ _ _ hc1]; rfl
  have fz : ∀ i, y0.frozen? ⟨w.heap.size, i, none⟩ = false := fun i => by simp [World.frozen?, hc1]
  clear hy0 d0 d1 d2 hb0 hc0 HL hlen
  by_cases hxy : Y ≤ X
  · have hd : decide (Y ≤ X) = true := by simp; exact hxy
    have HT : Hid (tak line mt k = []) := by
      unfold Hid
      rw [HTK.out, ← HX.out, ← HY.out]
      apply List.drop_eq_nil_of_le
      rw [List.length_take]
      omega
    have OD := hidIt (od_done hb1 hc1 hbs none 0 ⟨[], 0⟩ ⟨⟨none, 0, rfl, Nat.le_refl _, by simp [maxLen], fun h => absurd rfl h⟩, fun k off e => by cases e⟩)
    clear hxy HTK
    go_wp2_with fail
    obtain ⟨o0, o1, o2, o3, _⟩ := OD.out
    refine bodyPost_ret (v := .agg #[.slice none 0 0, .int .i64 0]) (by simp only [List.length_nil] at o0 o1; simp [results, Tryd.results26, go_sem, o0, o1]) rfl ⟨_, rfl, ?_, o3⟩
    rw [HT.out]
    exact o2
  · obtain ⟨f, hf⟩ : ∃ f : Nat, X = (f : Int) := ⟨X.toNat, by have := HX.out; omega⟩
    obtain ⟨q, hq⟩ : ∃ q : Nat, Y = (q : Int) := ⟨Y.toNat, by have := HX.out; omega⟩
    subst hf
    subst hq
    have hql : q ≤ line.length := by have := HY.out; omega
    have hfq : f < q := by omega
    have HT : Hid (tak line mt k = (line.take q).drop f) := by
      unfold Hid
      rw [HTK.out, ← HX.out, ← HY.out]
      rfl
    have hd : decide ((q : Int) ≤ (f : Int)) = false := by simp; omega
    obtain ⟨ao, cp, e, hl1, hl2, hl3⟩ := HL1.out
    cases e
    obtain ⟨lb, lo, rfl, hlb, hcl⟩ := hl3 (List.length_pos_iff.1 (by omega))
    have hlc : ¬ lc = f := by omega
    unfold maxLen at hl2
    have hgl : ((line.take q).drop f).length = q - f := by rw [List.length_drop, List.length_take]; omega
    have hgv : Gv y0 base (some ⟨lb, lo + f, none⟩) (lc - f) ((line.take q).drop f) := by
      refine ⟨⟨_, _, rfl, by rw [hgl]; omega, by unfold maxLen; omega, fun _ => ⟨_, _, rfl, hlb, fun i hi => ?_⟩⟩, fun k off e => by cases e; exact .inl (hla lb lo rfl)⟩
      rw [hgl] at hi
      have := hcl (f + i) (by omega)
      rw [show lo + f + i = lo + (f + i) by omega, this]
      rw [List.getElem?_drop, List.getElem?_take, if_pos (by omega)]
    have OD := hidIt (od_done hb1 hc1 hbs _ _ ⟨(line.take q).drop f, 0⟩ hgv)
    simp only [hgl] at OD
    clear hxy HTK hcl hl3 hgv hgl
    go_wp2_with fail
    obtain ⟨o0, o1, o2, o3, _⟩ := OD.out
    refine bodyPost_ret (v := .agg #[.slice (some ⟨lb, lo + f, none⟩) (q - f) (lc - f), .int .i64 0]) (by simp [results, Tryd.results26, go_sem, o0, o1]) rfl ⟨_, rfl, ?_, o3⟩
    rw [HT.out]
    exact o2
end Go.Proofs.YtipnifenahhkoaaDoor
