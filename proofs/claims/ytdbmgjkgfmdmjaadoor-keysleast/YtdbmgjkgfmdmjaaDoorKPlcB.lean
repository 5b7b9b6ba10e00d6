/- The places of a trie in memory, at keys.binding. -/
import Derived.Test.YtdbmgjkgfmdmjaaDoorKMap
namespace Go.Proofs.YtdbmgjkgfmdmjaaDoor
open Go.RowKit

structure Bd where
  v : Int
  m : Int
  a : Int
  t : Int
/-- A place's cells. -/
def pcB : Option Bd → List Value
  | some v => [.int .i64 v.v, .int .i64 v.m, .int .i64 v.a, .int .i64 v.t, .bool true]
  | none => [.int .i64 0, .int .i64 0, .int .i64 0, .int .i64 0, .bool false]
theorem pcB_len (x : Option Bd) : (pcB x).length = 5 := by cases x <;> rfl
def flB (xs : List (Option Bd)) : List Value := xs.flatMap pcB
theorem flB_cons (x : Option Bd) (xs : List (Option Bd)) : flB (x :: xs) = pcB x ++ flB xs := rfl
theorem flB_app (xs ys : List (Option Bd)) : flB (xs ++ ys) = flB xs ++ flB ys := by simp [flB]
theorem flB_len (xs : List (Option Bd)) : (flB xs).length = xs.length * 5 := by
  induction xs with
  | nil => rfl
  | cons x xs ih => rw [flB_cons, List.length_append, ih, List.length_cons, pcB_len]; omega
theorem flB_one (xs : List (Option Bd)) : ∀ u ∈ flB xs, u.oneCell' = true := by
  intro u hu
  simp only [flB, List.mem_flatMap] at hu
  obtain ⟨x, _, hx⟩ := hu
  cases x <;> simp only [pcB, List.mem_cons, List.not_mem_nil, or_false] at hx <;> rcases hx with rfl | rfl | rfl | rfl | rfl <;> rfl
theorem flB_at (xs : List (Option Bd)) : ∀ i, i < xs.length → ∀ r, r < 5 → (flB xs)[i * 5 + r]? = (pcB (xs[i]?.getD none))[r]? := by
  induction xs with
  | nil => intro i h; simp at h
  | cons x xs ih =>
    intro i h r hr
    rw [flB_cons]
    cases i with
    | zero => rw [List.getElem?_append_left (by rw [pcB_len]; omega)]; simp
    | succ i =>
      rw [List.getElem?_append_right (by rw [pcB_len]; omega), pcB_len, show (i + 1) * 5 + r - 5 = i * 5 + r by omega, ih i (by simpa using h) r hr]
      simp
theorem flB_set (x : Option Bd) : ∀ (xs : List (Option Bd)) (i : Nat), i < xs.length → ∀ j, (flB (xs.set i x))[j]? = if i * 5 ≤ j ∧ j < i * 5 + 5 then (pcB x)[j - i * 5]? else (flB xs)[j]? := by
  intro xs
  induction xs with
  | nil => intro i h; simp at h
  | cons y xs ih =>
    intro i h j
    cases i with
    | zero =>
      rw [List.set_cons_zero, flB_cons, flB_cons]
      by_cases hj : j < 5
      · rw [if_pos (by omega), List.getElem?_append_left (by rw [pcB_len]; exact hj)]; simp
      · rw [if_neg (by omega), List.getElem?_append_right (by rw [pcB_len]; omega), List.getElem?_append_right (by rw [pcB_len]; omega), pcB_len, pcB_len]
    | succ i =>
      rw [List.set_cons_succ, flB_cons, flB_cons]
      by_cases hj : j < 5
      · rw [if_neg (by omega), List.getElem?_append_left (by rw [pcB_len]; exact hj), List.getElem?_append_left (by rw [pcB_len]; exact hj)]
      · rw [List.getElem?_append_right (by rw [pcB_len]; omega), List.getElem?_append_right (by rw [pcB_len]; omega), pcB_len, ih i (by simpa using h)]
        by_cases hc : (i + 1) * 5 ≤ j ∧ j < (i + 1) * 5 + 5
        · rw [if_pos hc, if_pos (by omega), show j - 5 - i * 5 = j - (i + 1) * 5 by omega]
        · rw [if_neg hc, if_neg (by omega)]
/-- The places xs, in a row. -/
def PlB (w : World) (v : Value) (xs : List (Option Bd)) : Prop := w.ownsRow 0 139 5 v xs.length (flB xs)
theorem PlB.same {w w' : World} {g n c : Nat} {xs : List (Option Bd)} (h : PlB w (.slice (some ⟨g, 0, none⟩) n c) xs) (hb : w'.heap[g]? = w.heap[g]?) : PlB w' (.slice (some ⟨g, 0, none⟩) n c) xs := by
  obtain ⟨h1, h2⟩ := h
  refine ⟨h1, ?_⟩
  rcases h2 with ⟨e, _⟩ | ⟨q, cap, cur, hv, hq, hg, r⟩
  · cases e
  · cases hv
    exact .inr ⟨g, c, cur, rfl, hq, hb.trans hg, r⟩
theorem PlB.blk {w : World} {g n c : Nat} {xs : List (Option Bd)} (h : PlB w (.slice (some ⟨g, 0, none⟩) n c) xs) : n = xs.length ∧ ∃ cur, w.heap[g]? = some (.cells cur 139 (0, 0)) ∧ cur.size = c * 5 ∧ xs.length ≤ c ∧ cur.toList.take (xs.length * 5) = flB xs := by
  obtain ⟨h1, h2⟩ := h
  rcases h2 with ⟨e, _⟩ | ⟨q, cap, cur, hv, hq, hg, hn, hc, hs, ht⟩
  · cases e
  · cases hv
    exact ⟨rfl, cur, hg, hs, hn, ht⟩
theorem PlB.cell {w : World} {g n c : Nat} {xs : List (Option Bd)} (h : PlB w (.slice (some ⟨g, 0, none⟩) n c) xs) (i : Nat) (hi : i < xs.length) (r : Nat) (hr : r < 5) : w.cell? ⟨g, i * 5 + r, none⟩ = (pcB (xs[i]?.getD none))[r]? := by
  obtain ⟨_, cur, hg, hs, hl, ht⟩ := h.blk
  have h3 := flB_at xs i hi r hr
  rw [← ht, List.getElem?_take, if_pos (by have : i * 5 + 5 ≤ xs.length * 5 := by rw [← Nat.succ_mul]; exact Nat.mul_le_mul_right _ hi
                                           omega)] at h3
  rw [cell_of_row w g _ cur _ (0, 0) hg]
  simpa using h3
theorem PlB.frz {w : World} {g n c : Nat} {xs : List (Option Bd)} (h : PlB w (.slice (some ⟨g, 0, none⟩) n c) xs) (j : Nat) : w.frozen? ⟨g, j, none⟩ = false := by
  obtain ⟨_, cur, hg, _⟩ := h.blk
  simp [World.frozen?, hg]
/-- A trie's two values: its map of steps and its row of places; own: the blocks that they lead to. -/
def TeB (w : World) (own : Nat → Prop) (n : Nat) (ns : List (List Int)) (vs : List (Option Bd)) (m s : Value) : Prop :=
  (ns = [] ∧ vs = [] ∧ m = .map none ∧ s = .slice none 0 0) ∨
  (ns ≠ [] ∧ ∃ bm g c, m = .map (some bm) ∧ s = .slice (some ⟨g, 0, none⟩) ns.length c ∧ own bm ∧ own g ∧ MpS w bm n ns ∧ PlB w s vs)
theorem TeB.empty (w : World) (own : Nat → Prop) (n : Nat) : TeB w own n [] [] (.map none) (.slice none 0 0) := .inl ⟨rfl, rfl, rfl, rfl⟩
theorem TeB.same {w w' : World} {own : Nat → Prop} {n : Nat} {ns : List (List Int)} {vs : List (Option Bd)} {m s : Value} (h : TeB w own n ns vs m s) (hb : ∀ k, own k → w'.heap[k]? = w.heap[k]?) : TeB w' own n ns vs m s := by
  rcases h with h | ⟨h0, bm, g, c, rfl, rfl, h1, h2, h3, h4⟩
  · exact .inl h
  · exact .inr ⟨h0, bm, g, c, rfl, rfl, h1, h2, h3.same (hb _ h1), h4.same (hb _ h2)⟩
theorem TeB.ext {w w' : World} {own : Nat → Prop} {n : Nat} {ns : List (List Int)} {vs : List (Option Bd)} {m s : Value} (h : TeB w own n ns vs m s) (hb : Below w.heap.size w w') : TeB w' own n ns vs m s := by
  rcases h with h | ⟨h0, bm, g, c, rfl, rfl, h1, h2, h3, h4⟩
  · exact .inl h
  · obtain ⟨_, cur, hg, _⟩ := h4.blk
    exact .inr ⟨h0, bm, g, c, rfl, rfl, h1, h2, h3.same (hb.block _ h3.lt), h4.same (hb.block _ (Array.getElem?_eq_some_iff.1 hg).1)⟩
theorem TeB.mono {w : World} {own own' : Nat → Prop} {n n' : Nat} {ns : List (List Int)} {vs : List (Option Bd)} {m s : Value} (h : TeB w own n ns vs m s) (ho : ∀ k, own k → own' k) (hn : n ≤ n') : TeB w own' n' ns vs m s := by
  rcases h with h | ⟨h0, bm, g, c, rfl, rfl, h1, h2, ⟨D, h3, h5⟩, h4⟩
  · exact .inl h
  · exact .inr ⟨h0, bm, g, c, rfl, rfl, ho _ h1, ho _ h2, ⟨D, h3.mono hn, h5⟩, h4⟩
theorem TeB.look {w : World} {own : Nat → Prop} {n : Nat} {ns : List (List Int)} {vs : List (Option Bd)} {m s : Value} (h : TeB w own n ns vs m s) (i : Nat) (k : Int) (hi : i ≤ 4611686018427387904) (hk : In64 k) :
    (Instr.lookup 59 m (kv i k) true).run Tryd.prog w = .ok (sv (stp ns i k)) w := by
  rcases h with ⟨rfl, _, rfl, _⟩ | ⟨h0, bm, g, c, rfl, rfl, h1, h2, h3, h4⟩
  · have : stp [] i k = none := stp_out k (by simp)
    rw [this]
    exact look_nil w _ i k (in_nat hi) hk rfl
  · exact h3.look hi hk
theorem TeB.form {w : World} {own : Nat → Prop} {n : Nat} {ns : List (List Int)} {vs : List (Option Bd)} {m s : Value} (h : TeB w own n ns vs m s) : ∃ ao c, s = .slice ao ns.length c ∧ ∃ mo, m = .map mo := by
  rcases h with ⟨rfl, _, rfl, rfl⟩ | ⟨h0, bm, g, c, rfl, rfl, _⟩
  · exact ⟨none, 0, rfl, none, rfl⟩
  · exact ⟨_, c, rfl, _, rfl⟩
end Go.Proofs.YtdbmgjkgfmdmjaaDoor
