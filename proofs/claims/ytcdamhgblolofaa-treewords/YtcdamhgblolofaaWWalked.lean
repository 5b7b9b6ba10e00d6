/- walked. -/
import Derived.Test.YtcdamhgblolofaaWItems
namespace Go.Proofs.Ytcdamhgblolofaa.W
open Go.RowKit

/-- The value it is an iterator over the tree at u, from m on. -/
def BlkT (w : World) (g : Nat) (u : Option Addr) : Prop := w.heap[g]? = some (.cells #[.pointer u] 62 (0, 0))
theorem BlkT.lt {w : World} {g : Nat} {u : Option Addr} (h : BlkT w g u) : g < w.heap.size := (Array.getElem?_eq_some_iff.1 h).1
theorem BlkT.ext {w w' : World} {g : Nat} {u : Option Addr} (h : BlkT w g u) (hb : Below w.heap.size w w') : BlkT w' g u := by unfold BlkT; rw [hb.block g h.lt]; exact h
def IterAt (w : World) (it : Value) (u : Option Addr) (m : Nat) : Prop := ∃ a b, it = .func (.func 84) #[] #[.pointer (some ⟨a, 0, none⟩), .pointer (some ⟨b, 0, none⟩)] ∧ BlkT w a u ∧ w.heap[b]? = some (.cells #[.int .i64 (m : Nat)] 3 (0, 0))
theorem IterAt.ext {w w' : World} {it : Value} {u : Option Addr} {m : Nat} (h : IterAt w it u m) (hb : Below w.heap.size w w') : IterAt w' it u m := by
  obtain ⟨a, b, h1, h2, h3⟩ := h
  exact ⟨a, b, h1, h2.ext hb, by rw [hb.block _ (Array.getElem?_eq_some_iff.1 h3).1]; exact h3⟩

/-- What walked has been told so far: the things d of the list l from at on. -/
def WkJ (w : World) (ao : Option Addr) (cap : Nat) (l : List It) (at' : Nat) (st : Bool) (d : List It) (wr : World) : Prop := wr.heap[w.heap.size]? = some (.cells #[.slice ao l.length cap] 59 (0, 0)) ∧ wr.heap[w.heap.size + 1]? = some (.cells #[.bool st] 4 (0, 0)) ∧ wr.heap[w.heap.size + 2]? = some (.cells #[.int .i64 ((at' + d.length : Nat) : Int)] 3 (0, 0)) ∧ wr.heap[w.heap.size + 3]? = some (.cells #[.bool true] 4 (0, 0)) ∧ wr.heap[w.heap.size + 4]? = some (.cells #[.bool (st && !d.isEmpty)] 4 (0, 0)) ∧ Below w.heap.size w wr

set_option maxRecDepth 100000 in
set_option maxHeartbeats 2000000 in
theorem walkedY {w0 : World} {ao : Option Addr} {cap : Nat} {l : List It} {at' : Nat} {st : Bool} (hR : RdR w0 (.slice ao l.length cap) l) (hl : l.length ≤ 4194304) (d : List It) (x : It) (w : World) (h : WkJ w0 ao cap l at' st d w) (hg : (st && !d.isEmpty) = false) (hp : (d ++ [x]) <+: l.drop at') :
    Calls Try.prog 86 #[.agg #[.string x], .pointer (some ⟨w0.heap.size + 3, 0, none⟩), .pointer (some ⟨w0.heap.size + 4, 0, none⟩), .pointer (some ⟨w0.heap.size + 2, 0, none⟩), .pointer (some ⟨w0.heap.size, 0, none⟩), .pointer (some ⟨w0.heap.size + 1, 0, none⟩)] w fun e w' => e = .returned (.bool (!st)) ∧ WkJ w0 ao cap l at' st (d ++ [x]) w' := by
  obtain ⟨z0, z1, z2, z3, z4, z5⟩ := h
  rw [hg] at z4
  have hws : w0.heap.size + 4 < w.heap.size := (Array.getElem?_eq_some_iff.1 z4).1
  obtain ⟨wx, hwx⟩ : ∃ wx, wx = w.alloc (.cells #[.string x] 58) := ⟨_, rfl⟩
  have bx : Below w.heap.size w wx := by rw [hwx]; exact ext_alloc (Below.refl _ _) _
  have hX : wx.heap[w.heap.size]? = some (.cells #[.string x] 58 (0, 0)) := by rw [hwx]; exact heap_alloc_new _ _
  have x0 : wx.cell? ⟨w.heap.size, 0, none⟩ = some (.string x) := by rw [cell_of_row wx _ 0 _ _ _ hX]; rfl
  have hxl : w.heap.size < wx.heap.size := (Array.getElem?_eq_some_iff.1 hX).1
  obtain ⟨q, hq⟩ : ∃ q : Nat, q = at' + d.length := ⟨_, rfl⟩
  obtain ⟨y, hy⟩ := hp
  have hql : q < l.length ∧ l[q]?.getD (ByteArray.mk #[]) = x := by
    have e1 := congrArg List.length hy
    simp only [List.length_append, List.length_cons, List.length_nil, List.length_drop] at e1
    have e2 := congrArg (fun z => z[d.length]?) hy
    simp only [List.append_assoc, List.getElem?_drop] at e2
    rw [List.getElem?_append_right (Nat.le_refl _), Nat.sub_self] at e2
    simp at e2
    refine ⟨by omega, ?_⟩
    rw [hq, ← e2]
    rfl
  obtain ⟨b, off, cap', e0, hlc, hcm, hbl, hcc⟩ := ((hR.ext z5).ext bx).at (by omega)
  simp only [Value.slice.injEq] at e0
  obtain ⟨rfl, he0, rfl⟩ := e0
  clear he0
  obtain ⟨y0, _⟩ := hcc q hql.1
  rw [hql.2] at y0
  obtain ⟨b', off', cap'', e0, _, _, hbl0, _⟩ := hR.at (by omega)
  simp only [Value.slice.injEq, Option.some.injEq, Addr.mk.injEq] at e0
  obtain ⟨⟨rfl, rfl, _⟩, _, _⟩ := e0
  have g0 : wx.heap[w0.heap.size]? = some (.cells #[.slice (some ⟨b, off, none⟩) l.length cap] 59 (0, 0)) := by rw [bx.block _ (by omega)]; exact z0
  have g1 : wx.heap[w0.heap.size + 1]? = some (.cells #[.bool st] 4 (0, 0)) := by rw [bx.block _ (by omega)]; exact z1
  have g2 : wx.heap[w0.heap.size + 2]? = some (.cells #[.int .i64 (q : Nat)] 3 (0, 0)) := by rw [bx.block _ (by omega), hq]; exact z2
  have g3 : wx.heap[w0.heap.size + 3]? = some (.cells #[.bool true] 4 (0, 0)) := by rw [bx.block _ (by omega)]; exact z3
  have g4 : wx.heap[w0.heap.size + 4]? = some (.cells #[.bool false] 4 (0, 0)) := by rw [bx.block _ (by omega)]; exact z4
  have k0 : wx.cell? ⟨w0.heap.size, 0, none⟩ = some (.slice (some ⟨b, off, none⟩) l.length cap) := by rw [cell_of_row wx _ 0 _ _ _ g0]; rfl
  have k1 : wx.cell? ⟨w0.heap.size + 1, 0, none⟩ = some (.bool st) := by rw [cell_of_row wx _ 0 _ _ _ g1]; rfl
  have k2 : wx.cell? ⟨w0.heap.size + 2, 0, none⟩ = some (.int .i64 (q : Nat)) := by rw [cell_of_row wx _ 0 _ _ _ g2]; rfl
  have k3 : wx.cell? ⟨w0.heap.size + 3, 0, none⟩ = some (.bool true) := by rw [cell_of_row wx _ 0 _ _ _ g3]; rfl
  have k4 : wx.cell? ⟨w0.heap.size + 4, 0, none⟩ = some (.bool false) := by rw [cell_of_row wx _ 0 _ _ _ g4]; rfl
  have f2 : ∀ i, wx.frozen? ⟨w0.heap.size + 2, i, none⟩ = false := fun i => by simp [World.frozen?, g2]
  have f3 : ∀ i, wx.frozen? ⟨w0.heap.size + 3, i, none⟩ = false := fun i => by simp [World.frozen?, g3]
  have f4 : ∀ i, wx.frozen? ⟨w0.heap.size + 4, i, none⟩ = false := fun i => by simp [World.frozen?, g4]
  have HEND : Hid (∀ nq, WkJ w0 (some ⟨b, off, none⟩) cap l at' st (d ++ [x]) ((((wx.drewN nq).setCell ⟨w0.heap.size + 3, 0, none⟩ (.bool true)).setCell ⟨w0.heap.size + 2, 0, none⟩ (.int .i64 ((q + 1 : Nat) : Int))).setCell ⟨w0.heap.size + 4, 0, none⟩ (.bool st))) := fun nq => by
    obtain ⟨p1, p2⟩ := set1 (w := wx.drewN nq) (g := w0.heap.size + 3) g3 0 (.bool true)
    have a2 : ((wx.drewN nq).setCell ⟨w0.heap.size + 3, 0, none⟩ (.bool true)).heap[w0.heap.size + 2]? = some (.cells #[.int .i64 (q : Nat)] 3 (0, 0)) := by rw [p2.block _ (show _ < wx.heap.size by omega) (by simp)]; exact g2
    obtain ⟨r1, r2⟩ := set1 a2 0 (.int .i64 ((q + 1 : Nat) : Int))
    have a4 : ((((wx.drewN nq).setCell ⟨w0.heap.size + 3, 0, none⟩ (.bool true)).setCell ⟨w0.heap.size + 2, 0, none⟩ (.int .i64 ((q + 1 : Nat) : Int)))).heap[w0.heap.size + 4]? = some (.cells #[.bool false] 4 (0, 0)) := by rw [r2.block _ (Nat.lt_of_lt_of_le (show _ < wx.heap.size by omega) p2.size) (by simp), p2.block _ (show _ < wx.heap.size by omega) (by simp)]; exact g4
    obtain ⟨t1, t2⟩ := set1 a4 0 (.bool st)
    have n1 : wx.heap.size ≤ ((wx.drewN nq).setCell ⟨w0.heap.size + 3, 0, none⟩ (.bool true)).heap.size := p2.size
    have n2 := r2.size
    refine ⟨?_, ?_, ?_, ?_, ?_, ?_⟩
    · rw [t2.block _ (by omega) (by simp), r2.block _ (by omega) (by simp), p2.block _ (show _ < wx.heap.size by omega) (by simp)]; exact g0
    · rw [t2.block _ (by omega) (by simp), r2.block _ (by omega) (by simp), p2.block _ (show _ < wx.heap.size by omega) (by simp)]; exact g1
    · rw [t2.block _ (by omega) (by simp), List.length_append, List.length_singleton, ← Nat.add_assoc, ← hq]; exact r1
    · rw [t2.block _ (by omega) (by simp), r2.block _ (by omega) (by simp)]; exact p1
    · rw [show (d ++ [x]).isEmpty = false by cases d <;> rfl]; simpa using t1
    · exact below_put (below_put (below_put (below_drewN (z5.trans (bx.mono (by omega))) _) (show _ ≤ wx.heap.size by omega) p2 (by omega)) (by omega) r2 (by omega)) (by omega) t2 (by omega)
  obtain ⟨s1, s2⟩ := set1 g3 0 (.bool true)
  have s3 : (wx.setCell ⟨w0.heap.size + 3, 0, none⟩ (.bool true)).cell? ⟨w0.heap.size + 3, 0, none⟩ = some (.bool true) := by rw [cell_of_row _ _ 0 _ _ _ s1]; rfl
  have sx : (wx.setCell ⟨w0.heap.size + 3, 0, none⟩ (.bool true)).cell? ⟨w.heap.size, 0, none⟩ = some (.string x) := s2.cell x0 (by simp; omega)
  have hq1 : (q : Int) < (l.length : Int) := by have := hql.1; omega
  have hq2 : (0 : Int) ≤ (q : Int) := by omega
  have hbn : ¬ b = w0.heap.size + 3 := by omega
  have hbn' : ¬ w0.heap.size + 3 = b := by omega
  clear z0 z1 z2 z3 z4 z5 bx hX hR hcc hql hq hy g0 g1 g2 g3 g4 hg s1 s2
  go_enter Try.func86, Try.ntmps86
  go_upto_region 1 with fail
  rw [← hwx]
  clear hwx
  generalize w.heap.size = xb at *
  go_region_held3 (fun w' => w'.cell? ⟨w0.heap.size + 3, 0, none⟩ = some (.bool true) ∧ w'.cell? ⟨w0.heap.size + 4, 0, none⟩ = some (.bool false) ∧ w'.cell? ⟨w0.heap.size + 2, 0, none⟩ = some (.int .i64 (q : Nat)) ∧ w'.cell? ⟨w0.heap.size, 0, none⟩ = some (.slice (some ⟨b, off, none⟩) l.length cap) ∧ w'.cell? ⟨xb, 0, none⟩ = some (.string x) ∧ w'.cell? ⟨b, off + q, none⟩ = some (.string x)) (go_keep) (fail)
  all_goals
    cases st with
    | true =>
      go_wp2_with fail
      go_ret
      exact ⟨rfl, HEND.out 1⟩
    | false =>
      go_wp2_with fail
      go_ret
      exact ⟨rfl, HEND.out 1⟩
end Go.Proofs.Ytcdamhgblolofaa.W
