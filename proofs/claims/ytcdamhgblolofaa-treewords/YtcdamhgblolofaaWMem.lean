/- Slices of words that are read; what a sum's block holds. -/
import Derived.Test.YtcdamhgblolofaaWRuns
namespace Go.Proofs.Ytcdamhgblolofaa.W
open Go.RowKit

/-- The slice v reads as the words xs. -/
def RdR (w : World) (v : Value) (xs : List It) : Prop :=
  ∃ ao cap, v = .slice ao xs.length cap ∧ xs.length ≤ cap ∧ cap ≤ maxLen ∧ (ao = none → cap = 0) ∧
    (xs ≠ [] → ∃ b off, ao = some ⟨b, off, none⟩ ∧ b < w.heap.size ∧ ∀ i, i < xs.length → w.cell? ⟨b, off + i, none⟩ = some (.string (xs[i]?.getD (ByteArray.mk #[]))) ∧ w.cell? ⟨b, off + i, none⟩ = some (.string (xs[i]?.getD (ByteArray.mk #[]))))
theorem RdR.ext {w w' : World} {v : Value} {xs : List It} (h : RdR w v xs) (hb : Below w.heap.size w w') : RdR w' v xs := by
  obtain ⟨ao, cap, hv, h1, h2, h0, h3⟩ := h
  refine ⟨ao, cap, hv, h1, h2, h0, fun hn => ?_⟩
  obtain ⟨b, off, ha, hlt, hc⟩ := h3 hn
  exact ⟨b, off, ha, Nat.lt_of_lt_of_le hlt hb.size, fun i hi => ⟨(hb.cell (p := ⟨b, off + i, none⟩) hlt).trans (hc i hi).1, (hb.cell (p := ⟨b, off + i, none⟩) hlt).trans (hc i hi).1⟩⟩
theorem RdR.nil (w : World) : RdR w (.slice none 0 0) [] := ⟨none, 0, rfl, Nat.le_refl _, by simp [maxLen], fun _ => rfl, fun h => absurd rfl h⟩
theorem RdR.len {w : World} {v : Value} {xs : List It} (h : RdR w v xs) : xs.length ≤ 9223372036854775807 := by
  obtain ⟨ao, cap, hv, h1, h2, _⟩ := h
  unfold maxLen at h2
  omega
/-- At block g lies a sum. -/
def Blk (T : TypeId) (w : World) (g : Nat) (s : Ws) : Prop := w.heap[g]? = some (.cells #[.string s.t, .int .i64 s.n] T (0, 0))
theorem Blk.lt {T : TypeId} {w : World} {g : Nat} {s : Ws} (h : Blk T w g s) : g < w.heap.size := (Array.getElem?_eq_some_iff.1 h).1
theorem Blk.ext {T : TypeId} {w w' : World} {g : Nat} {s : Ws} (h : Blk T w g s) (hb : Below w.heap.size w w') : Blk T w' g s := by unfold Blk; rw [hb.block g h.lt]; exact h
theorem Blk.cells {T : TypeId} {w : World} {g : Nat} {s : Ws} (h : Blk T w g s) : w.cell? ⟨g, 0, none⟩ = some (.string s.t) ∧ w.cell? ⟨g, 1, none⟩ = some (.int .i64 s.n) ∧ w.cell? ⟨g, 0, none⟩ = some (.string s.t) ∧ w.cell? ⟨g, 1, none⟩ = some (.int .i64 s.n) ∧ (∀ i, w.frozen? ⟨g, i, none⟩ = false) := by
  refine ⟨?_, ?_, ?_, ?_, ?_⟩
  · rw [cell_of_row w g 0 _ _ _ h]; rfl
  · rw [cell_of_row w g 1 _ _ _ h]; rfl
  · rw [cell_of_row w g 0 _ _ _ h]; rfl
  · rw [cell_of_row w g 1 _ _ _ h]; rfl
  · intro i; unfold Blk at h; simp [World.frozen?, h]
theorem Blk.new (T : TypeId) (w : World) (s : Ws) : Blk T (w.alloc (.cells #[.string s.t, .int .i64 s.n] T)) w.heap.size s := heap_alloc_new _ _
theorem Blk.put {T : TypeId} {w : World} {g : Nat} {s : Ws} (h : Blk T w g s) (q : Ws) : Blk T ((w.setCell ⟨g, 0, none⟩ (.string q.t)).setCell ⟨g, 1, none⟩ (.int .i64 q.n)) g q ∧ w.grownBy ((w.setCell ⟨g, 0, none⟩ (.string q.t)).setCell ⟨g, 1, none⟩ (.int .i64 q.n)) (some g) := by
  obtain ⟨h1, g1⟩ := set1 h 0 (.string q.t)
  obtain ⟨h2, g2⟩ := set1 h1 1 (.int .i64 q.n)
  exact ⟨h2, grown_trans g1 g2⟩
theorem Blk.other {T : TypeId} {w w' : World} {g k : Nat} {s : Ws} (h : Blk T w g s) (hb : w.grownBy w' (some k)) (hk : g ≠ k) : Blk T w' g s := by unfold Blk; rw [hb.block g h.lt (by simpa using hk)]; exact h
end Go.Proofs.Ytcdamhgblolofaa.W
