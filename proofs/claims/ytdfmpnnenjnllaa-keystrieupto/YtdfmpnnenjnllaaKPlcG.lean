/- The places of a trie in memory, at copyistlaw13.tag. -/
import Derived.Test.YtdfmpnnenjnllaaKMap
namespace Go.Proofs.Ytdfmpnnenjnllaa
open Go.RowKit

structure Tg where
  n : Int
  s : ByteArray
/-- A place's cells. -/
def pcG : Option Tg → List Value
  | some v => [.int .i64 v.n, .string v.s, .bool true]
  | none => [.int .i64 0, .string (ByteArray.mk #[]), .bool false]
theorem pcG_len (x : Option Tg) : (pcG x).length = 3 := by cases x <;> rfl
def flG (xs : List (Option Tg)) : List Value := xs.flatMap pcG
theorem flG_cons (x : Option Tg) (xs : List (Option Tg)) : flG (x :: xs) = pcG x ++ flG xs := rfl
theorem flG_app (xs ys : List (Option Tg)) : flG (xs ++ ys) = flG xs ++ flG ys := by simp [flG]
theorem flG_len (xs : List (Option Tg)) : (flG xs).length = xs.length * 3 := by
  induction xs with
  | nil => rfl
  | cons x xs ih => rw [flG_cons, List.length_append, ih, List.length_cons, pcG_len]; omega
theorem flG_one (xs : List (Option Tg)) : ∀ u ∈ flG xs, u.oneCell' = true := by
  intro u hu
  simp only [flG, List.mem_flatMap] at hu
  obtain ⟨x, _, hx⟩ := hu
  cases x <;> simp only [pcG, List.mem_cons, List.not_mem_nil, or_false] at hx <;> rcases hx with rfl | rfl | rfl <;> rfl
theorem flG_at (xs : List (Option Tg)) : ∀ i, i < xs.length → ∀ r, r < 3 → (flG xs)[i * 3 + r]? = (pcG (xs[i]?.getD none))[r]? := by
  induction xs with
  | nil => intro i h; simp at h
  | cons x xs ih =>
    intro i h r hr
    rw [flG_cons]
    cases i with
    | zero => rw [List.getElem?_append_left (by rw [pcG_len]; omega)]; simp
    | succ i =>
      rw [List.getElem?_append_right (by rw [pcG_len]; omega), pcG_len, show (i + 1) * 3 + r - 3 = i * 3 + r by omega, ih i (by simpa using h) r hr]
      simp
theorem flG_set (x : Option Tg) : ∀ (xs : List (Option Tg)) (i : Nat), i < xs.length → ∀ j, (flG (xs.set i x))[j]? = if i * 3 ≤ j ∧ j < i * 3 + 3 then (pcG x)[j - i * 3]? else (flG xs)[j]? := by
  intro xs
  induction xs with
  | nil => intro i h; simp at h
  | cons y xs ih =>
    intro i h j
    cases i with
    | zero =>
      rw [List.set_cons_zero, flG_cons, flG_cons]
      by_cases hj : j < 3
      · rw [if_pos (by omega), List.getElem?_append_left (by rw [pcG_len]; exact hj)]; simp
      · rw [if_neg (by omega), List.getElem?_append_right (by rw [pcG_len]; omega), List.getElem?_append_right (by rw [pcG_len]; omega), pcG_len, pcG_len]
    | succ i =>
      rw [List.set_cons_succ, flG_cons, flG_cons]
      by_cases hj : j < 3
      · rw [if_neg (by omega), List.getElem?_append_left (by rw [pcG_len]; exact hj), List.getElem?_append_left (by rw [pcG_len]; exact hj)]
      · rw [List.getElem?_append_right (by rw [pcG_len]; omega), List.getElem?_append_right (by rw [pcG_len]; omega), pcG_len, ih i (by simpa using h)]
        by_cases hc : (i + 1) * 3 ≤ j ∧ j < (i + 1) * 3 + 3
        · rw [if_pos hc, if_pos (by omega), show j - 3 - i * 3 = j - (i + 1) * 3 by omega]
        · rw [if_neg hc, if_neg (by omega)]
/-- The places xs, in a row. -/
def PlG (w : World) (v : Value) (xs : List (Option Tg)) : Prop := w.ownsRow 0 69 3 v xs.length (flG xs)
theorem PlG.same {w w' : World} {g n c : Nat} {xs : List (Option Tg)} (h : PlG w (.slice (some ⟨g, 0, none⟩) n c) xs) (hb : w'.heap[g]? = w.heap[g]?) : PlG w' (.slice (some ⟨g, 0, none⟩) n c) xs := by
  obtain ⟨h1, h2⟩ := h
  refine ⟨h1, ?_⟩
  rcases h2 with ⟨e, _⟩ | ⟨q, cap, cur, hv, hq, hg, r⟩
  · cases e
  · cases hv
    exact .inr ⟨g, c, cur, rfl, hq, hb.trans hg, r⟩
theorem PlG.blk {w : World} {g n c : Nat} {xs : List (Option Tg)} (h : PlG w (.slice (some ⟨g, 0, none⟩) n c) xs) : n = xs.length ∧ ∃ cur, w.heap[g]? = some (.cells cur 69 (0, 0)) ∧ cur.size = c * 3 ∧ xs.length ≤ c ∧ cur.toList.take (xs.length * 3) = flG xs := by
  obtain ⟨h1, h2⟩ := h
  rcases h2 with ⟨e, _⟩ | ⟨q, cap, cur, hv, hq, hg, hn, hc, hs, ht⟩
  · cases e
  · cases hv
    exact ⟨rfl, cur, hg, hs, hn, ht⟩
theorem PlG.cell {w : World} {g n c : Nat} {xs : List (Option Tg)} (h : PlG w (.slice (some ⟨g, 0, none⟩) n c) xs) (i : Nat) (hi : i < xs.length) (r : Nat) (hr : r < 3) : w.cell? ⟨g, i * 3 + r, none⟩ = (pcG (xs[i]?.getD none))[r]? := by
  obtain ⟨_, cur, hg, hs, hl, ht⟩ := h.blk
  have h3 := flG_at xs i hi r hr
  rw [← ht, List.getElem?_take, if_pos (by have : i * 3 + 3 ≤ xs.length * 3 := by rw [← Nat.succ_mul]; exact Nat.mul_le_mul_right _ hi
                                           omega)] at h3
  rw [cell_of_row w g _ cur _ (0, 0) hg]
  simpa using h3
theorem PlG.frz {w : World} {g n c : Nat} {xs : List (Option Tg)} (h : PlG w (.slice (some ⟨g, 0, none⟩) n c) xs) (j : Nat) : w.frozen? ⟨g, j, none⟩ = false := by
  obtain ⟨_, cur, hg, _⟩ := h.blk
  simp [World.frozen?, hg]
/-- A trie's two values: its map of steps and its row of places; own: the blocks that they lead to. -/
def TeG (w : World) (own : Nat → Prop) (n : Nat) (ns : List (List Int)) (vs : List (Option Tg)) (m s : Value) : Prop :=
  (ns = [] ∧ vs = [] ∧ m = .map none ∧ s = .slice none 0 0) ∨
  (ns ≠ [] ∧ ∃ bm g c, m = .map (some bm) ∧ s = .slice (some ⟨g, 0, none⟩) ns.length c ∧ own bm ∧ own g ∧ MpS w bm n ns ∧ PlG w s vs)
theorem TeG.empty (w : World) (own : Nat → Prop) (n : Nat) : TeG w own n [] [] (.map none) (.slice none 0 0) := .inl ⟨rfl, rfl, rfl, rfl⟩
theorem TeG.same {w w' : World} {own : Nat → Prop} {n : Nat} {ns : List (List Int)} {vs : List (Option Tg)} {m s : Value} (h : TeG w own n ns vs m s) (hb : ∀ k, own k → w'.heap[k]? = w.heap[k]?) : TeG w' own n ns vs m s := by
  rcases h with h | ⟨h0, bm, g, c, rfl, rfl, h1, h2, h3, h4⟩
  · exact .inl h
  · exact .inr ⟨h0, bm, g, c, rfl, rfl, h1, h2, h3.same (hb _ h1), h4.same (hb _ h2)⟩
theorem TeG.ext {w w' : World} {own : Nat → Prop} {n : Nat} {ns : List (List Int)} {vs : List (Option Tg)} {m s : Value} (h : TeG w own n ns vs m s) (hb : Below w.heap.size w w') : TeG w' own n ns vs m s := by
  rcases h with h | ⟨h0, bm, g, c, rfl, rfl, h1, h2, h3, h4⟩
  · exact .inl h
  · obtain ⟨_, cur, hg, _⟩ := h4.blk
    exact .inr ⟨h0, bm, g, c, rfl, rfl, h1, h2, h3.same (hb.block _ h3.lt), h4.same (hb.block _ (Array.getElem?_eq_some_iff.1 hg).1)⟩
theorem TeG.mono {w : World} {own own' : Nat → Prop} {n n' : Nat} {ns : List (List Int)} {vs : List (Option Tg)} {m s : Value} (h : TeG w own n ns vs m s) (ho : ∀ k, own k → own' k) (hn : n ≤ n') : TeG w own' n' ns vs m s := by
  rcases h with h | ⟨h0, bm, g, c, rfl, rfl, h1, h2, ⟨D, h3, h5⟩, h4⟩
  · exact .inl h
  · exact .inr ⟨h0, bm, g, c, rfl, rfl, ho _ h1, ho _ h2, ⟨D, h3.mono hn, h5⟩, h4⟩
theorem TeG.look {w : World} {own : Nat → Prop} {n : Nat} {ns : List (List Int)} {vs : List (Option Tg)} {m s : Value} (h : TeG w own n ns vs m s) (i : Nat) (k : Int) (hi : i ≤ 4611686018427387904) (hk : In64 k) :
    (Instr.lookup 23 m (kv i k) true).run Try.prog w = .ok (sv (stp ns i k)) w := by
  rcases h with ⟨rfl, _, rfl, _⟩ | ⟨h0, bm, g, c, rfl, rfl, h1, h2, h3, h4⟩
  · have : stp [] i k = none := stp_out k (by simp)
    rw [this]
    exact look_nil w _ i k (in_nat hi) hk rfl
  · exact h3.look hi hk
theorem TeG.form {w : World} {own : Nat → Prop} {n : Nat} {ns : List (List Int)} {vs : List (Option Tg)} {m s : Value} (h : TeG w own n ns vs m s) : ∃ ao c, s = .slice ao ns.length c ∧ ∃ mo, m = .map mo := by
  rcases h with ⟨rfl, _, rfl, rfl⟩ | ⟨h0, bm, g, c, rfl, rfl, _⟩
  · exact ⟨none, 0, rfl, none, rfl⟩
  · exact ⟨_, c, rfl, _, rfl⟩
end Go.Proofs.Ytdfmpnnenjnllaa
