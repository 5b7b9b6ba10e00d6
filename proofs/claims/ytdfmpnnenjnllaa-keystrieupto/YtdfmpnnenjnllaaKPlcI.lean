/- The places of a trie in memory, at int. -/
import Derived.Test.YtdfmpnnenjnllaaKMap
namespace Go.Proofs.Ytdfmpnnenjnllaa
open Go.RowKit

/-- A place's cells. -/
def pcI : Option Int → List Value
  | some v => [.int .i64 v, .bool true]
  | none => [.int .i64 0, .bool false]
theorem pcI_len (x : Option Int) : (pcI x).length = 2 := by cases x <;> rfl
def flI (xs : List (Option Int)) : List Value := xs.flatMap pcI
theorem flI_cons (x : Option Int) (xs : List (Option Int)) : flI (x :: xs) = pcI x ++ flI xs := rfl
theorem flI_app (xs ys : List (Option Int)) : flI (xs ++ ys) = flI xs ++ flI ys := by simp [flI]
theorem flI_len (xs : List (Option Int)) : (flI xs).length = xs.length * 2 := by
  induction xs with
  | nil => rfl
  | cons x xs ih => rw [flI_cons, List.length_append, ih, List.length_cons, pcI_len]; omega
theorem flI_one (xs : List (Option Int)) : ∀ u ∈ flI xs, u.oneCell' = true := by
  intro u hu
  simp only [flI, List.mem_flatMap] at hu
  obtain ⟨x, _, hx⟩ := hu
  cases x <;> simp only [pcI, List.mem_cons, List.not_mem_nil, or_false] at hx <;> rcases hx with rfl | rfl <;> rfl
theorem flI_at (xs : List (Option Int)) : ∀ i, i < xs.length → ∀ r, r < 2 → (flI xs)[i * 2 + r]? = (pcI (xs[i]?.getD none))[r]? := by
  induction xs with
  | nil => intro i h; simp at h
  | cons x xs ih =>
    intro i h r hr
    rw [flI_cons]
    cases i with
    | zero => rw [List.getElem?_append_left (by rw [pcI_len]; omega)]; simp
    | succ i =>
      rw [List.getElem?_append_right (by rw [pcI_len]; omega), pcI_len, show (i + 1) * 2 + r - 2 = i * 2 + r by omega, ih i (by simpa using h) r hr]
      simp
theorem flI_set (x : Option Int) : ∀ (xs : List (Option Int)) (i : Nat), i < xs.length → ∀ j, (flI (xs.set i x))[j]? = if i * 2 ≤ j ∧ j < i * 2 + 2 then (pcI x)[j - i * 2]? else (flI xs)[j]? := by
  intro xs
  induction xs with
  | nil => intro i h; simp at h
  | cons y xs ih =>
    intro i h j
    cases i with
    | zero =>
      rw [List.set_cons_zero, flI_cons, flI_cons]
      by_cases hj : j < 2
      · rw [if_pos (by omega), List.getElem?_append_left (by rw [pcI_len]; exact hj)]; simp
      · rw [if_neg (by omega), List.getElem?_append_right (by rw [pcI_len]; omega), List.getElem?_append_right (by rw [pcI_len]; omega), pcI_len, pcI_len]
    | succ i =>
      rw [List.set_cons_succ, flI_cons, flI_cons]
      by_cases hj : j < 2
      · rw [if_neg (by omega), List.getElem?_append_left (by rw [pcI_len]; exact hj), List.getElem?_append_left (by rw [pcI_len]; exact hj)]
      · rw [List.getElem?_append_right (by rw [pcI_len]; omega), List.getElem?_append_right (by rw [pcI_len]; omega), pcI_len, ih i (by simpa using h)]
        by_cases hc : (i + 1) * 2 ≤ j ∧ j < (i + 1) * 2 + 2
        · rw [if_pos hc, if_pos (by omega), show j - 2 - i * 2 = j - (i + 1) * 2 by omega]
        · rw [if_neg hc, if_neg (by omega)]
/-- The places xs, in a row. -/
def PlI (w : World) (v : Value) (xs : List (Option Int)) : Prop := w.ownsRow 0 67 2 v xs.length (flI xs)
theorem PlI.same {w w' : World} {g n c : Nat} {xs : List (Option Int)} (h : PlI w (.slice (some ⟨g, 0, none⟩) n c) xs) (hb : w'.heap[g]? = w.heap[g]?) : PlI w' (.slice (some ⟨g, 0, none⟩) n c) xs := by
  obtain ⟨h1, h2⟩ := h
  refine ⟨h1, ?_⟩
  rcases h2 with ⟨e, _⟩ | ⟨q, cap, cur, hv, hq, hg, r⟩
  · cases e
  · cases hv
    exact .inr ⟨g, c, cur, rfl, hq, hb.trans hg, r⟩
theorem PlI.blk {w : World} {g n c : Nat} {xs : List (Option Int)} (h : PlI w (.slice (some ⟨g, 0, none⟩) n c) xs) : n = xs.length ∧ ∃ cur, w.heap[g]? = some (.cells cur 67 (0, 0)) ∧ cur.size = c * 2 ∧ xs.length ≤ c ∧ cur.toList.take (xs.length * 2) = flI xs := by
  obtain ⟨h1, h2⟩ := h
  rcases h2 with ⟨e, _⟩ | ⟨q, cap, cur, hv, hq, hg, hn, hc, hs, ht⟩
  · cases e
  · cases hv
    exact ⟨rfl, cur, hg, hs, hn, ht⟩
theorem PlI.cell {w : World} {g n c : Nat} {xs : List (Option Int)} (h : PlI w (.slice (some ⟨g, 0, none⟩) n c) xs) (i : Nat) (hi : i < xs.length) (r : Nat) (hr : r < 2) : w.cell? ⟨g, i * 2 + r, none⟩ = (pcI (xs[i]?.getD none))[r]? := by
  obtain ⟨_, cur, hg, hs, hl, ht⟩ := h.blk
  have h3 := flI_at xs i hi r hr
  rw [← ht, List.getElem?_take, if_pos (by have : i * 2 + 2 ≤ xs.length * 2 := by rw [← Nat.succ_mul]; exact Nat.mul_le_mul_right _ hi
                                           omega)] at h3
  rw [cell_of_row w g _ cur _ (0, 0) hg]
  simpa using h3
theorem PlI.frz {w : World} {g n c : Nat} {xs : List (Option Int)} (h : PlI w (.slice (some ⟨g, 0, none⟩) n c) xs) (j : Nat) : w.frozen? ⟨g, j, none⟩ = false := by
  obtain ⟨_, cur, hg, _⟩ := h.blk
  simp [World.frozen?, hg]
/-- A trie's two values: its map of steps and its row of places; own: the blocks that they lead to. -/
def TeI (w : World) (own : Nat → Prop) (n : Nat) (ns : List (List Int)) (vs : List (Option Int)) (m s : Value) : Prop :=
  (ns = [] ∧ vs = [] ∧ m = .map none ∧ s = .slice none 0 0) ∨
  (ns ≠ [] ∧ ∃ bm g c, m = .map (some bm) ∧ s = .slice (some ⟨g, 0, none⟩) ns.length c ∧ own bm ∧ own g ∧ MpS w bm n ns ∧ PlI w s vs)
theorem TeI.empty (w : World) (own : Nat → Prop) (n : Nat) : TeI w own n [] [] (.map none) (.slice none 0 0) := .inl ⟨rfl, rfl, rfl, rfl⟩
theorem TeI.same {w w' : World} {own : Nat → Prop} {n : Nat} {ns : List (List Int)} {vs : List (Option Int)} {m s : Value} (h : TeI w own n ns vs m s) (hb : ∀ k, own k → w'.heap[k]? = w.heap[k]?) : TeI w' own n ns vs m s := by
  rcases h with h | ⟨h0, bm, g, c, rfl, rfl, h1, h2, h3, h4⟩
  · exact .inl h
  · exact .inr ⟨h0, bm, g, c, rfl, rfl, h1, h2, h3.same (hb _ h1), h4.same (hb _ h2)⟩
theorem TeI.ext {w w' : World} {own : Nat → Prop} {n : Nat} {ns : List (List Int)} {vs : List (Option Int)} {m s : Value} (h : TeI w own n ns vs m s) (hb : Below w.heap.size w w') : TeI w' own n ns vs m s := by
  rcases h with h | ⟨h0, bm, g, c, rfl, rfl, h1, h2, h3, h4⟩
  · exact .inl h
  · obtain ⟨_, cur, hg, _⟩ := h4.blk
    exact .inr ⟨h0, bm, g, c, rfl, rfl, h1, h2, h3.same (hb.block _ h3.lt), h4.same (hb.block _ (Array.getElem?_eq_some_iff.1 hg).1)⟩
theorem TeI.mono {w : World} {own own' : Nat → Prop} {n n' : Nat} {ns : List (List Int)} {vs : List (Option Int)} {m s : Value} (h : TeI w own n ns vs m s) (ho : ∀ k, own k → own' k) (hn : n ≤ n') : TeI w own' n' ns vs m s := by
  rcases h with h | ⟨h0, bm, g, c, rfl, rfl, h1, h2, ⟨D, h3, h5⟩, h4⟩
  · exact .inl h
  · exact .inr ⟨h0, bm, g, c, rfl, rfl, ho _ h1, ho _ h2, ⟨D, h3.mono hn, h5⟩, h4⟩
theorem TeI.look {w : World} {own : Nat → Prop} {n : Nat} {ns : List (List Int)} {vs : List (Option Int)} {m s : Value} (h : TeI w own n ns vs m s) (i : Nat) (k : Int) (hi : i ≤ 4611686018427387904) (hk : In64 k) :
    (Instr.lookup 23 m (kv i k) true).run Try.prog w = .ok (sv (stp ns i k)) w := by
  rcases h with ⟨rfl, _, rfl, _⟩ | ⟨h0, bm, g, c, rfl, rfl, h1, h2, h3, h4⟩
  · have : stp [] i k = none := stp_out k (by simp)
    rw [this]
    exact look_nil w _ i k (in_nat hi) hk rfl
  · exact h3.look hi hk
theorem TeI.form {w : World} {own : Nat → Prop} {n : Nat} {ns : List (List Int)} {vs : List (Option Int)} {m s : Value} (h : TeI w own n ns vs m s) : ∃ ao c, s = .slice ao ns.length c ∧ ∃ mo, m = .map mo := by
  rcases h with ⟨rfl, _, rfl, rfl⟩ | ⟨h0, bm, g, c, rfl, rfl, _⟩
  · exact ⟨none, 0, rfl, none, rfl⟩
  · exact ⟨_, c, rfl, _, rfl⟩
end Go.Proofs.Ytdfmpnnenjnllaa
