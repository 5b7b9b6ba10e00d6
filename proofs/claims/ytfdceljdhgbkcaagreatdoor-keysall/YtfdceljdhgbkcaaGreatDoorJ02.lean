import Derived.Test.YtfdceljdhgbkcaaGreatDoorJ00
import Derived.Test.YtfdceljdhgbkcaaGreatDoorJ01
/- The places of a trie in memory, at keys.binding. -/
namespace Go.Proofs.YtfdceljdhgbkcaaGreatDoor
open Go.RowKit

structure Bd where
  v : Int
  m : Int
  a : Int
  t : Int
/-- A place's cells. -/
def pcB : Option Bd → List Value
  | some v => [.int .i64 v.v, .int .i64 v.m, .int .i64 v.a, .int .i64 v.t, .bool true]
  | none => [.int .i64 0, .int .i64 0, .int .i64 0, .int .i64 0, .bool false]
theorem pcB_len (x : Option Bd) : (pcB x).length = 5 := by cases x <;> rfl
def flB (xs : List (Option Bd)) : List Value := xs.flatMap pcB
theorem flB_cons (x : Option Bd) (xs : List (Option Bd)) : flB (x :: xs) = pcB x ++ flB xs := rfl
theorem flB_app (xs ys : List (Option Bd)) : flB (xs ++ ys) = flB xs ++ flB ys := by simp [flB]
theorem flB_len (xs : List (Option Bd)) : (flB xs).length = xs.length * 5 := by
  induction xs with
  | nil => rfl
  | cons x xs ih => rw [flB_cons, List.length_append, ih, List.length_cons, pcB_len]; omega
theorem flB_one (xs : List (Option Bd)) : ∀ u ∈ flB xs, u.oneCell' = true := by
  intro u hu
  simp only [flB, List.mem_flatMap] at hu
  obtain ⟨x, _, hx⟩ := hu
  cases x <;> simp only [pcB, List.mem_cons, List.not_mem_nil, or_false] at hx <;> rcases hx with rfl | rfl | rfl | rfl | rfl <;> rfl
theorem flB_at (xs : List (Option Bd)) : ∀ i, i < xs.length → ∀ r, r < 5 → (flB xs)[i * 5 + r]? = (pcB (xs[i]?.getD none))[r]? := by
  induction xs with
  | nil => intro i h; simp at h
  | cons x xs ih =>
    intro i h r hr
    rw [flB_cons]
    cases i with
    | zero => rw [List.getElem?_append_left (by rw [pcB_len]; omega)]; simp
    | succ i =>
      rw [List.getElem?_append_right (by rw [pcB_len]; omega), pcB_len, show (i + 1) * 5 + r - 5 = i * 5 + r by omega, ih i (by simpa using h) r hr]
      simp
theorem flB_set (x : Option Bd) : ∀ (xs : List (Option Bd)) (i : Nat), i < xs.length → ∀ j, (flB (xs.set i x))[j]? = if i * 5 ≤ j ∧ j < i * 5 + 5 then (pcB x)[j - i * 5]? else (flB xs)[j]? := by
  intro xs
  induction xs with
  | nil => intro i h; simp at h
  | cons y xs ih =>
    intro i h j
    cases i with
    | zero =>
      rw [List.set_cons_zero, flB_cons, flB_cons]
      by_cases hj : j < 5
      · rw [if_pos (by omega), List.getElem?_append_left (by rw [pcB_len]; exact hj)]; simp
      · rw [if_neg (by omega), List.getElem?_append_right (by rw [pcB_len]; omega), List.getElem?_append_right (by rw [pcB_len]; omega), pcB_len, pcB_len]
    | succ i =>
      rw [List.set_cons_succ, flB_cons, flB_cons]
      by_cases hj : j < 5
      · rw [if_neg (by omega), List.getElem?_append_left (by rw [pcB_len]; exact hj), List.getElem?_append_left (by rw [pcB_len]; exact hj)]
      · rw [List.getElem?_append_right (by rw [pcB_len]; omega), List.getElem?_append_right (by rw [pcB_len]; omega), pcB_len, ih i (by simpa using h)]
        by_cases hc : (i + 1) * 5 ≤ j ∧ j < (i + 1) * 5 + 5
        · rw [if_pos hc, if_pos (by omega), show j - 5 - i * 5 = j - (i + 1) * 5 by omega]
        · rw [if_neg hc, if_neg (by omega)]
/-- The places xs, in a row. -/
def PlB (w : World) (v : Value) (xs : List (Option Bd)) : Prop := w.ownsRow 0 125 5 v xs.length (flB xs)
theorem PlB.same {w w' : World} {g n c : Nat} {xs : List (Option Bd)} (h : PlB w (.slice (some ⟨g, 0, none⟩) n c) xs) (hb : w'.heap[g]? = w.heap[g]?) : PlB w' (.slice (some ⟨g, 0, none⟩) n c) xs := by
  obtain ⟨h1, h2⟩ := h
  refine ⟨h1, ?_⟩
  rcases h2 with ⟨e, _⟩ | ⟨q, cap, cur, hv, hq, hg, r⟩
  · cases e
  · cases hv
    exact .inr ⟨g, c, cur, rfl, hq, hb.trans hg, r⟩
theorem PlB.blk {w : World} {g n c : Nat} {xs : List (Option Bd)} (h : PlB w (.slice (some ⟨g, 0, none⟩) n c) xs) : n = xs.length ∧ ∃ cur, w.heap[g]? = some (.cells cur 125 (0, 0)) ∧ cur.size = c * 5 ∧ xs.length ≤ c ∧ cur.toList.take (xs.length * 5) = flB xs := by
  obtain ⟨h1, h2⟩ := h
  rcases h2 with ⟨e, _⟩ | ⟨q, cap, cur, hv, hq, hg, hn, hc, hs, ht⟩
  · cases e
  · cases hv
    exact ⟨rfl, cur, hg, hs, hn, ht⟩
theorem PlB.cell {w : World} {g n c : Nat} {xs : List (Option Bd)} (h : PlB w (.slice (some ⟨g, 0, none⟩) n c) xs) (i : Nat) (hi : i < xs.length) (r : Nat) (hr : r < 5) : w.cell? ⟨g, i * 5 + r, none⟩ = (pcB (xs[i]?.getD none))[r]? := by
  obtain ⟨_, cur, hg, hs, hl, ht⟩ := h.blk
  have h3 := flB_at xs i hi r hr
  rw [← ht, List.getElem?_take, if_pos (by have : i * 5 + 5 ≤ xs.length * 5 := by rw [← Nat.succ_mul]; exact Nat.mul_le_mul_right _ hi
                                           omega)] at h3
  rw [cell_of_row w g _ cur _ (0, 0) hg]
  simpa using h3
theorem PlB.frz {w : World} {g n c : Nat} {xs : List (Option Bd)} (h : PlB w (.slice (some ⟨g, 0, none⟩) n c) xs) (j : Nat) : w.frozen? ⟨g, j, none⟩ = false := by
  obtain ⟨_, cur, hg, _⟩ := h.blk
  simp [World.frozen?, hg]
/-- A trie's two values: its map of steps and its row of places; own: the blocks that they lead to. -/
def TeB (w : World) (own : Nat → Prop) (n : Nat) (ns : List (List Int)) (vs : List (Option Bd)) (m s : Value) : Prop :=
  (ns = [] ∧ vs = [] ∧ m = .map none ∧ s = .slice none 0 0) ∨
  (ns ≠ [] ∧ ∃ bm g c, m = .map (some bm) ∧ s = .slice (some ⟨g, 0, none⟩) ns.length c ∧ own bm ∧ own g ∧ MpS w bm n ns ∧ PlB w s vs)
theorem TeB.empty (w : World) (own : Nat → Prop) (n : Nat) : TeB w own n [] [] (.map none) (.slice none 0 0) := .inl ⟨rfl, rfl, rfl, rfl⟩
theorem TeB.same {w w' : World} {own : Nat → Prop} {n : Nat} {ns : List (List Int)} {vs : List (Option Bd)} {m s : Value} (h : TeB w own n ns vs m s) (hb : ∀ k, own k → w'.heap[k]? = w.heap[k]?) : TeB w' own n ns vs m s := by
  rcases h with h | ⟨h0, bm, g, c, rfl, rfl, h1, h2, h3, h4⟩
  · exact .inl h
  · exact .inr ⟨h0, bm, g, c, rfl, rfl, h1, h2, h3.same (hb _ h1), h4.same (hb _ h2)⟩
theorem TeB.ext {w w' : World} {own : Nat → Prop} {n : Nat} {ns : List (List Int)} {vs : List (Option Bd)} {m s : Value} (h : TeB w own n ns vs m s) (hb : Below w.heap.size w w') : TeB w' own n ns vs m s := by
  rcases h with h | ⟨h0, bm, g, c, rfl, rfl, h1, h2, h3, h4⟩
  · exact .inl h
  · obtain ⟨_, cur, hg, _⟩ := h4.blk
    exact .inr ⟨h0, bm, g, c, rfl, rfl, h1, h2, h3.same (hb.block _ h3.lt), h4.same (hb.block _ (Array.getElem?_eq_some_iff.1 hg).1)⟩
theorem TeB.mono {w : World} {own own' : Nat → Prop} {n n' : Nat} {ns : List (List Int)} {vs : List (Option Bd)} {m s : Value} (h : TeB w own n ns vs m s) (ho : ∀ k, own k → own' k) (hn : n ≤ n') : TeB w own' n' ns vs m s := by
  rcases h with h | ⟨h0, bm, g, c, rfl, rfl, h1, h2, ⟨D, h3, h5⟩, h4⟩
  · exact .inl h
  · exact .inr ⟨h0, bm, g, c, rfl, rfl, ho _ h1, ho _ h2, ⟨D, h3.mono hn, h5⟩, h4⟩
theorem TeB.look {w : World} {own : Nat → Prop} {n : Nat} {ns : List (List Int)} {vs : List (Option Bd)} {m s : Value} (h : TeB w own n ns vs m s) (i : Nat) (k : Int) (hi : i ≤ 4611686018427387904) (hk : In64 k) :
    (Instr.lookup 45 m (kv i k) true).run Tryz.prog w = .ok (sv (stp ns i k)) w := by
  rcases h with ⟨rfl, _, rfl, _⟩ | ⟨h0, bm, g, c, rfl, rfl, h1, h2, h3, h4⟩
  · have : stp [] i k = none := stp_out k (by simp)
    rw [this]
    exact look_nil w _ i k (in_nat hi) hk rfl
  · exact h3.look hi hk
theorem TeB.form {w : World} {own : Nat → Prop} {n : Nat} {ns : List (List Int)} {vs : List (Option Bd)} {m s : Value} (h : TeB w own n ns vs m s) : ∃ ao c, s = .slice ao ns.length c ∧ ∃ mo, m = .map mo := by
  rcases h with ⟨rfl, _, rfl, rfl⟩ | ⟨h0, bm, g, c, rfl, rfl, _⟩
  · exact ⟨none, 0, rfl, none, rfl⟩
  · exact ⟨_, c, rfl, _, rfl⟩
end Go.Proofs.YtfdceljdhgbkcaaGreatDoor

/- walk and hasValue of a trie, at keys.binding. -/
namespace Go.Proofs.YtfdceljdhgbkcaaGreatDoor
open Go.RowKit
theorem sv_noneB : sv none = .tuple #[.int .i64 0, .bool false] := rfl
theorem sv_someB (j : Nat) : sv (some j) = .tuple #[.int .i64 (j : Int), .bool true] := rfl

set_option maxRecDepth 100000 in
theorem walkB_any (b o : Nat) (T : TypeId) (cs : Array Value) (w : World) (m s : Value) (own : Nat → Prop) (n : Nat) (ns : List (List Int)) (vs : List (Option Bd)) (l : Value) (ks : List Int)
    (hb : w.heap[b]? = some (.cells cs T (0, 0))) (hm : cs[o]? = some m) (ht : TeB w own n ns vs m s) (hns : ns.length ≤ 2305843009213693952) (hk : Rd .i64 w l ks) (h64 : ∀ k ∈ ks, In64 k) :
    Calls Tryz.prog 77 #[.pointer (some ⟨b, o, none⟩), l] w fun e w' => e = .returned (.tuple #[.int .i64 ((wk ns 0 0 ks).1 : Nat), .int .i64 ((wk ns 0 0 ks).2 : Nat)]) ∧ w = w' := by
  have hlen := hk.len
  obtain ⟨ao, cap, rfl, hl1, hc1, h1⟩ := hk
  have hL := hidIt ht.look
  obtain ⟨_, _, _, mo, hmo⟩ := ht.form
  have cm : w.cell? ⟨b, o, none⟩ = some m := by rw [cell_of_row w b o cs T (0, 0) hb]; exact hm
  subst hmo
  clear ht hb hm
  have hb64 := hidIt h64
  have h1 := hidIt h1
  have HNS := hidIt hns
  clear h64 hns
  generalize hR : wk ns 0 0 ks = R
  have HR := hidIt hR
  clear hR
  obtain ⟨R1, R2⟩ := R
  dsimp only
  go_enter Tryz.func77, Tryz.ntmps77
  go_wp2
  go_loopw [4, 5, 12] (fun a g i wr => ∃ p q : Nat, p ≤ ks.length ∧ a = .int .i64 q ∧ g = .int .i64 p ∧ i = .int .i64 p ∧ w = wr ∧ Hid (wk ns q p (ks.drop p) = (R1, R2) ∧ q ≤ 2305843009213693952)) (fun _ _ i _ => ks.length - (RowKit.intOf i).toNat)
  case atStart => exact ⟨0, 0, Nat.zero_le _, rfl, rfl, rfl, rfl, HR.out, by omega⟩
  case round =>
    obtain ⟨p, q, hp, rfl, rfl, rfl, rfl, HK⟩ := hrel
    by_cases hlt : p < ks.length
    · obtain ⟨bb, off, rfl, hbb, hcl⟩ := h1.out (by intro e; rw [e] at hlt; simp at hlt)
      have c1 := hcl _ hlt
      have hi1 : (p : Int) < (ks.length : Int) := by omega
      have e1 : ks[p]?.getD 0 = ks[p] := by simp [hlt]
      have e2 : ks.drop p = ks[p] :: ks.drop (p + 1) := List.drop_eq_getElem_cons hlt
      rw [e1] at c1
      have HX := hidIt (hb64.out ks[p] (List.getElem_mem hlt))
      have HKK := hidIt (show wk ns q p (ks[p] :: ks.drop (p + 1)) = (R1, R2) by rw [← e2]; exact HK.out.1)
      have HQ := hidIt HK.out.2
      clear e1 e2 HK hcl
      generalize ks[p] = x at *
      have hlk := hL.out q x (by have := HQ.out; omega) HX.out
      cases hs : stp ns q x with
      | none =>
        have HF := hidIt (show (q, p) = (R1, R2) by have := HKK.out; simpa [wk, hs] using this)
        rw [hs] at hlk
        rw [sv_noneB] at hlk
        clear hs HKK
        go_wp2
        go_ret2
        cases HF.out
        exact ⟨rfl, rfl⟩
      | some j =>
        have HF := hidIt (show wk ns j (p + 1) (ks.drop (p + 1)) = (R1, R2) by have := HKK.out; simpa [wk, hs] using this)
        have hj := hidIt (stp_lt hs)
        rw [hs] at hlk
        rw [sv_someB] at hlk
        clear hs HKK
        go_wp2
        go_roundw
        case rel => exact ⟨p + 1, j, by omega, rfl, by go_num, by go_num, trivial, HF.out, by have := hj.out; have := HNS.out; omega⟩
        case measure => simp [RowKit.intOf]; omega
    · have HF := hidIt (show (q, p) = (R1, R2) by have := HK.out.1; rw [List.drop_eq_nil_of_le (by omega)] at this; simpa [wk] using this)
      clear HK
      go_wp2
      go_ret2
      cases HF.out
      exact ⟨rfl, rfl⟩
end Go.Proofs.YtfdceljdhgbkcaaGreatDoor

/- Small blocks. -/
namespace Go.Proofs.YtfdceljdhgbkcaaGreatDoor
open Go.RowKit
theorem heap_alloc_new (w : World) (o : Obj) : (w.alloc o).heap[w.heap.size]? = some o := (MapKept.heap_alloc w o).1
theorem cells2 {w : World} {b : Nat} {T : TypeId} {v0 v1 : Value} (h : w.heap[b]? = some (.cells #[v0, v1] T (0, 0))) : b < w.heap.size ∧ w.cell? ⟨b, 0, none⟩ = some v0 ∧ w.cell? ⟨b, 1, none⟩ = some v1 ∧ (∀ i, w.frozen? ⟨b, i, none⟩ = false) := by
  refine ⟨(Array.getElem?_eq_some_iff.1 h).1, ?_, ?_, fun i => by simp [World.frozen?, h]⟩ <;> (rw [cell_of_row _ _ _ _ _ _ h]; rfl)
theorem put2 {w : World} {g : Nat} {T : TypeId} {v0 v1 : Value} (h : w.heap[g]? = some (.cells #[v0, v1] T (0, 0))) (x0 x1 : Value) :
    ((w.setCell ⟨g, 0, none⟩ x0).setCell ⟨g, 1, none⟩ x1).heap[g]? = some (.cells #[x0, x1] T (0, 0)) ∧ w.grownBy ((w.setCell ⟨g, 0, none⟩ x0).setCell ⟨g, 1, none⟩ x1) (some g) := by
  obtain ⟨h1, g1⟩ := set1 h 0 x0
  obtain ⟨h2, g2⟩ := set1 h1 1 x1
  exact ⟨h2, (grown_trans g1 g2)⟩
theorem cells4 {w : World} {b : Nat} {T : TypeId} {v0 v1 v2 v3 : Value} (h : w.heap[b]? = some (.cells #[v0, v1, v2, v3] T (0, 0))) : b < w.heap.size ∧ w.cell? ⟨b, 0, none⟩ = some v0 ∧ w.cell? ⟨b, 1, none⟩ = some v1 ∧ w.cell? ⟨b, 2, none⟩ = some v2 ∧ w.cell? ⟨b, 3, none⟩ = some v3 ∧ (∀ i, w.frozen? ⟨b, i, none⟩ = false) := by
  refine ⟨(Array.getElem?_eq_some_iff.1 h).1, ?_, ?_, ?_, ?_, fun i => by simp [World.frozen?, h]⟩ <;> (rw [cell_of_row _ _ _ _ _ _ h]; rfl)
theorem put4 {w : World} {g : Nat} {T : TypeId} {v0 v1 v2 v3 : Value} (h : w.heap[g]? = some (.cells #[v0, v1, v2, v3] T (0, 0))) (x0 x1 x2 x3 : Value) :
    ((((w.setCell ⟨g, 0, none⟩ x0).setCell ⟨g, 1, none⟩ x1).setCell ⟨g, 2, none⟩ x2).setCell ⟨g, 3, none⟩ x3).heap[g]? = some (.cells #[x0, x1, x2, x3] T (0, 0)) ∧ w.grownBy ((((w.setCell ⟨g, 0, none⟩ x0).setCell ⟨g, 1, none⟩ x1).setCell ⟨g, 2, none⟩ x2).setCell ⟨g, 3, none⟩ x3) (some g) := by
  obtain ⟨h1, g1⟩ := set1 h 0 x0
  obtain ⟨h2, g2⟩ := set1 h1 1 x1
  obtain ⟨h3, g3⟩ := set1 h2 2 x2
  obtain ⟨h4, g4⟩ := set1 h3 3 x3
  exact ⟨h4, (grown_trans (grown_trans (grown_trans g1 g2) g3) g4)⟩
theorem cells5 {w : World} {b : Nat} {T : TypeId} {v0 v1 v2 v3 v4 : Value} (h : w.heap[b]? = some (.cells #[v0, v1, v2, v3, v4] T (0, 0))) : b < w.heap.size ∧ w.cell? ⟨b, 0, none⟩ = some v0 ∧ w.cell? ⟨b, 1, none⟩ = some v1 ∧ w.cell? ⟨b, 2, none⟩ = some v2 ∧ w.cell? ⟨b, 3, none⟩ = some v3 ∧ w.cell? ⟨b, 4, none⟩ = some v4 ∧ (∀ i, w.frozen? ⟨b, i, none⟩ = false) := by
  refine ⟨(Array.getElem?_eq_some_iff.1 h).1, ?_, ?_, ?_, ?_, ?_, fun i => by simp [World.frozen?, h]⟩ <;> (rw [cell_of_row _ _ _ _ _ _ h]; rfl)
theorem put5 {w : World} {g : Nat} {T : TypeId} {v0 v1 v2 v3 v4 : Value} (h : w.heap[g]? = some (.cells #[v0, v1, v2, v3, v4] T (0, 0))) (x0 x1 x2 x3 x4 : Value) :
    (((((w.setCell ⟨g, 0, none⟩ x0).setCell ⟨g, 1, none⟩ x1).setCell ⟨g, 2, none⟩ x2).setCell ⟨g, 3, none⟩ x3).setCell ⟨g, 4, none⟩ x4).heap[g]? = some (.cells #[x0, x1, x2, x3, x4] T (0, 0)) ∧ w.grownBy (((((w.setCell ⟨g, 0, none⟩ x0).setCell ⟨g, 1, none⟩ x1).setCell ⟨g, 2, none⟩ x2).setCell ⟨g, 3, none⟩ x3).setCell ⟨g, 4, none⟩ x4) (some g) := by
  obtain ⟨h1, g1⟩ := set1 h 0 x0
  obtain ⟨h2, g2⟩ := set1 h1 1 x1
  obtain ⟨h3, g3⟩ := set1 h2 2 x2
  obtain ⟨h4, g4⟩ := set1 h3 3 x3
  obtain ⟨h5, g5⟩ := set1 h4 4 x4
  exact ⟨h5, (grown_trans (grown_trans (grown_trans (grown_trans g1 g2) g3) g4) g5)⟩
theorem cells13 {w : World} {b : Nat} {T : TypeId} {v0 v1 v2 v3 v4 v5 v6 v7 v8 v9 v10 v11 v12 : Value} (h : w.heap[b]? = some (.cells #[v0, v1, v2, v3, v4, v5, v6, v7, v8, v9, v10, v11, v12] T (0, 0))) : b < w.heap.size ∧ w.cell? ⟨b, 0, none⟩ = some v0 ∧ w.cell? ⟨b, 1, none⟩ = some v1 ∧ w.cell? ⟨b, 2, none⟩ = some v2 ∧ w.cell? ⟨b, 3, none⟩ = some v3 ∧ w.cell? ⟨b, 4, none⟩ = some v4 ∧ w.cell? ⟨b, 5, none⟩ = some v5 ∧ w.cell? ⟨b, 6, none⟩ = some v6 ∧ w.cell? ⟨b, 7, none⟩ = some v7 ∧ w.cell? ⟨b, 8, none⟩ = some v8 ∧ w.cell? ⟨b, 9, none⟩ = some v9 ∧ w.cell? ⟨b, 10, none⟩ = some v10 ∧ w.cell? ⟨b, 11, none⟩ = some v11 ∧ w.cell? ⟨b, 12, none⟩ = some v12 ∧ (∀ i, w.frozen? ⟨b, i, none⟩ = false) := by
  refine ⟨(Array.getElem?_eq_some_iff.1 h).1, ?_, ?_, ?_, ?_, ?_, ?_, ?_, ?_, ?_, ?_, ?_, ?_, ?_, fun i => by simp [World.frozen?, h]⟩ <;> (rw [cell_of_row _ _ _ _ _ _ h]; rfl)
end Go.Proofs.YtfdceljdhgbkcaaGreatDoor

/- hasValue and Look of a trie, at keys.binding. -/
namespace Go.Proofs.YtfdceljdhgbkcaaGreatDoor
open Go.RowKit

set_option maxRecDepth 100000 in
theorem hasB_any (b o : Nat) (T : TypeId) (cs : Array Value) (w : World) (m s : Value) (own : Nat → Prop) (n : Nat) (ns : List (List Int)) (vs : List (Option Bd)) (a : Nat)
    (hb : w.heap[b]? = some (.cells cs T (0, 0))) (hs : cs[o + 1]? = some s) (ht : TeB w own n ns vs m s) (hv : vs.length = ns.length) (hns : ns.length ≤ 2305843009213693952) (ha : a < ns.length ∨ ns = []) (hab : a ≤ 2305843009213693952) :
    Calls Tryz.prog 92 #[.pointer (some ⟨b, o, none⟩), .int .i64 (a : Int)] w fun e w' => e = .returned (.bool ((vs[a]?).join.isSome)) ∧ w = w' := by
  have cm : w.cell? ⟨b, o + 1, none⟩ = some s := by rw [cell_of_row w b (o + 1) cs T (0, 0) hb]; exact hs
  clear hb hs
  rcases ht with ⟨rfl, rfl, rfl, rfl⟩ | ⟨h0, bm, g, c, rfl, rfl, _, _, _, h4⟩
  · have h1 : ¬ ((a : Int) < 0) := by omega
    clear hv hns ha
    go_enter Tryz.func92, Tryz.ntmps92
    go_wp2
    go_ret
    exact ⟨ret_bool (by simp), rfl⟩
  · have hlt : a < ns.length := by
      rcases ha with ha | ha
      · exact ha
      · exact absurd ha h0
    have h1 : (a : Int) < (ns.length : Int) := by omega
    have hc := h4.cell a (by omega) 4 (by omega)
    have hx : vs[a]? = some (vs[a]?.getD none) := by rw [List.getElem?_eq_getElem (by omega)]; rfl
    generalize vs[a]?.getD none = x at hc hx
    rw [hx]
    cases x with
    | none =>
      replace hc : w.cell? ⟨g, a * 5 + 4, none⟩ = some (.bool false) := hc
      clear h4 ha h0 hv hx
      go_enter Tryz.func92, Tryz.ntmps92
      go_wp2
      go_ret
      exact ⟨rfl, rfl⟩
    | some v =>
      replace hc : w.cell? ⟨g, a * 5 + 4, none⟩ = some (.bool true) := hc
      clear h4 ha h0 hv hx
      go_enter Tryz.func92, Tryz.ntmps92
      go_wp2
      go_ret
      exact ⟨rfl, rfl⟩

/-- What Look answers beside what it says. -/
def vlB : Option Bd → Value
  | some v => .agg #[.int .i64 v.v, .int .i64 v.m, .int .i64 v.a, .int .i64 v.t]
  | none => .agg #[.int .i64 0, .int .i64 0, .int .i64 0, .int .i64 0]
set_option maxRecDepth 100000 in
theorem lookB_any (b o : Nat) (T : TypeId) (cs : Array Value) (w : World) (m s : Value) (own : Nat → Prop) (n : Nat) (ns : List (List Int)) (vs : List (Option Bd)) (L : List (List Int × Bd)) (l : Value) (ks : List Int)
    (hb : w.heap[b]? = some (.cells cs T (0, 0))) (hm : cs[o]? = some m) (hs : cs[o + 1]? = some s) (ht : TeB w own n ns vs m s) (hT : Tri ns vs L) (hns : ns.length ≤ 2305843009213693952) (hk : Rd .i64 w l ks) (h64 : ∀ k ∈ ks, In64 k) :
    Calls Tryz.prog 60 #[.pointer (some ⟨b, o, none⟩), l] w fun e w' => e = .returned (.tuple #[vlB (lkV L ks), .int .i64 (lkS L ks)]) ∧ Below w.heap.size w w' := by
  obtain ⟨w0, hw0, k0, hb0⟩ : ∃ w0, w0 = w.alloc (.cells #[.int .i64 0, .int .i64 0, .int .i64 0, .int .i64 0] 62) ∧ w0.heap[w.heap.size]? = some (.cells #[.int .i64 0, .int .i64 0, .int .i64 0, .int .i64 0] 62 (0, 0)) ∧ Below w.heap.size w w0 := ⟨_, rfl, heap_alloc_new _ _, ext_alloc (Below.refl _ _) _⟩
  have HB0 := hidIt hb0
  have HZ : Hid (∀ ob, (w0.alloc ob).heap[w.heap.size]? = some (.cells #[.int .i64 0, .int .i64 0, .int .i64 0, .int .i64 0] 62 (0, 0))) := fun ob => ((ext_alloc (Below.refl _ w0) ob).block _ (Array.getElem?_eq_some_iff.1 k0).1).trans k0
  have hbl : b < w.heap.size := (Array.getElem?_eq_some_iff.1 hb).1
  have hb' : w0.heap[b]? = some (.cells cs T (0, 0)) := (hb0.block _ hbl).trans hb
  have ht' := ht.ext hb0
  have HW := hidIt (walkB_any b o T cs w0 m s own n ns vs l ks hb' hm ht' hns (hk.ext hb0) h64)
  have cm : w0.cell? ⟨b, o + 1, none⟩ = some s := by rw [cell_of_row w0 b (o + 1) cs T (0, 0) hb']; exact hs
  have KZ := hidIt k0
  clear hb hs hm hb' ht k0 hbl hb0
  have hlen := hk.len
  obtain ⟨ao, cap, rfl, hl1, hc1, _⟩ := hk
  by_cases hg : (wk ns 0 0 ks).2 < ks.length
  · obtain ⟨e1, e2⟩ := hT.bad (.inl hg)
    rw [e1, e2]
    have hgi : ((wk ns 0 0 ks).2 : Int) < (ks.length : Int) := by omega
    generalize (wk ns 0 0 ks).1 = a at *
    generalize (wk ns 0 0 ks).2 = q at *
    clear hT h64 ht'
    obtain ⟨_, q0, q1, q2, q3, qf⟩ := cells4 (HZ.out (.cells #[.int .i64 0, .int .i64 0, .int .i64 0, .int .i64 0] 62))
    go_enter Tryz.func60, Tryz.ntmps60
    go_upto_region 1 with fail
    rw [← hw0]
    clear hw0
    go_wp2_with (go_at_call 77; refine HW.out.mono ?_; rintro e w1 ⟨rfl, rfl⟩; (try dsimp only))
    refine bodyPost_ret (v := .tuple #[.agg #[.int .i64 0, .int .i64 0, .int .i64 0, .int .i64 0], .int .i64 2]) (by simp [results, Tryz.results60, go_sem, q0, q1, q2, q3]) rfl ⟨rfl, ?_⟩
    exact below_put (ext_alloc HB0.out _) (ext_alloc HB0.out _).size (put4 (HZ.out _) _ _ _ _).2 (Nat.le_refl _)
  · have hgi : ¬ ((wk ns 0 0 ks).2 : Int) < (ks.length : Int) := by omega
    rcases ht' with ⟨rfl, rfl, rfl, rfl⟩ | ⟨h0, bm, g, c, rfl, rfl, _, _, _, h4⟩
    · obtain ⟨e1, e2⟩ := hT.bad (ks := ks) (.inr rfl)
      rw [e1, e2]
      generalize (wk [] 0 0 ks).1 = a at *
      generalize (wk [] 0 0 ks).2 = q at *
      clear hT h64
      obtain ⟨_, q0, q1, q2, q3, qf⟩ := cells4 (HZ.out (.cells #[.int .i64 0, .int .i64 0, .int .i64 0, .int .i64 0] 62))
      go_enter Tryz.func60, Tryz.ntmps60
      go_upto_region 1 with fail
      rw [← hw0]
      clear hw0
      go_wp2_with (go_at_call 77; refine HW.out.mono ?_; rintro e w1 ⟨rfl, rfl⟩; (try dsimp only))
      refine bodyPost_ret (v := .tuple #[.agg #[.int .i64 0, .int .i64 0, .int .i64 0, .int .i64 0], .int .i64 2]) (by simp [results, Tryz.results60, go_sem, q0, q1, q2, q3]) rfl ⟨rfl, ?_⟩
      exact below_put (ext_alloc HB0.out _) (ext_alloc HB0.out _).size (put4 (HZ.out _) _ _ _ _).2 (Nat.le_refl _)
    · have hge : (wk ns 0 0 ks).2 = ks.length := by
        obtain ⟨q, h1, h2, _⟩ := hT.walk h0 ks
        omega
      obtain ⟨f1, f2⟩ := hT.found hge h0
      have hal := hT.here h0 ks
      have hvl := hT.len
      generalize (wk ns 0 0 ks).1 = a at *
      generalize (wk ns 0 0 ks).2 = q at *
      have h1 : (a : Int) < (ns.length : Int) := by omega
      have hnz : ¬ ((ns.length : Int) = 0) := by omega
      have hnz' : ((ns.length : Int) == 0) = false := by simpa using hnz
      have hc := h4.cell a hal
      have hx : vs[a]? = some (vs[a]?.getD none) := by rw [List.getElem?_eq_getElem hal]; rfl
      generalize vs[a]?.getD none = x at hc hx
      cases x with
      | none =>
        obtain ⟨e1, e2⟩ := f2 hx
        rw [e1, e2]
        replace hc : w0.cell? ⟨g, a * 5 + 4, none⟩ = some (.bool false) := hc 4 (by omega)
        clear h4 h0 hx f1 f2 hT h64 e1 e2 hvl hal hge hnz
        obtain ⟨_, q0, q1, q2, q3, qf⟩ := cells4 (HZ.out (.cells #[.int .i64 0, .int .i64 0, .int .i64 0, .int .i64 0] 62))
        go_enter Tryz.func60, Tryz.ntmps60
        go_upto_region 1 with fail
        rw [← hw0]
        clear hw0
        go_wp2_with (go_at_call 77; refine HW.out.mono ?_; rintro e w1 ⟨rfl, rfl⟩; (try dsimp only))
        refine bodyPost_ret (v := .tuple #[.agg #[.int .i64 0, .int .i64 0, .int .i64 0, .int .i64 0], .int .i64 0]) (by simp [results, Tryz.results60, go_sem, q0, q1, q2, q3]) rfl ⟨rfl, ?_⟩
        exact below_put (ext_alloc HB0.out _) (ext_alloc HB0.out _).size (put4 (HZ.out _) _ _ _ _).2 (Nat.le_refl _)
      | some v =>
        obtain ⟨e1, e2⟩ := f1 v hx
        rw [e1, e2]
        have hcb : w0.cell? ⟨g, a * 5 + 4, none⟩ = some (.bool true) := hc 4 (by omega)
        have c0 : w0.cell? ⟨g, a * 5, none⟩ = some (.int .i64 v.v) := by have := hc 0 (by omega); simpa [pcB] using this
        have c1 : w0.cell? ⟨g, a * 5 + 1, none⟩ = some (.int .i64 v.m) := by have := hc 1 (by omega); simpa [pcB] using this
        have c2 : w0.cell? ⟨g, a * 5 + 2, none⟩ = some (.int .i64 v.a) := by have := hc 2 (by omega); simpa [pcB] using this
        have c3 : w0.cell? ⟨g, a * 5 + 3, none⟩ = some (.int .i64 v.t) := by have := hc 3 (by omega); simpa [pcB] using this
        clear h4 h0 hx f1 f2 hT h64 e1 e2 hvl hal hc hge hnz
        obtain ⟨_, q0, q1, q2, q3, qf⟩ := cells4 KZ.out
        go_enter Tryz.func60, Tryz.ntmps60
        go_upto_region 1 with fail
        rw [← hw0]
        clear hw0
        go_wp2_with (go_at_call 77; refine HW.out.mono ?_; rintro e w1 ⟨rfl, rfl⟩; (try dsimp only))
        refine bodyPost_ret (v := .tuple #[.agg #[.int .i64 v.v, .int .i64 v.m, .int .i64 v.a, .int .i64 v.t], .int .i64 1]) (by simp [results, Tryz.results60, go_sem, q0, q1, q2, q3]) rfl ⟨rfl, ?_⟩
        exact below_put HB0.out HB0.out.size (put4 KZ.out _ _ _ _).2 (Nat.le_refl _)
end Go.Proofs.YtfdceljdhgbkcaaGreatDoor

/- Two cells of a block, written as they are. -/
namespace Go.Proofs.YtfdceljdhgbkcaaGreatDoor
open Go.RowKit
theorem set_same {cs : Array Value} {o : Nat} {m s : Value} (hm : cs[o]? = some m) (hs : cs[o + 1]? = some s) : (cs.setIfInBounds o m).setIfInBounds (o + 1) s = cs := by
  apply Array.ext_getElem?
  intro j
  by_cases h1 : j = o + 1
  · subst h1
    rw [Array.getElem?_setIfInBounds_self_of_lt (by have := (Array.getElem?_eq_some_iff.1 hs).1; simpa using this), hs]
  · rw [Array.getElem?_setIfInBounds_ne (by omega)]
    by_cases h2 : j = o
    · subst h2
      rw [Array.getElem?_setIfInBounds_self_of_lt (Array.getElem?_eq_some_iff.1 hm).1, hm]
    · rw [Array.getElem?_setIfInBounds_ne (by omega)]
theorem grown_drew {a b : World} {r : Option Nat} (h : a.grownBy b r) : a.grownBy b.drew r := ⟨h.os, h.tape, h.output, h.size, h.block⟩
theorem set_last {V : Type} (v0 : List (Option V)) (n p : Nat) (hp : 0 < p) (hl : v0.length = n) (v : V) : (v0 ++ List.replicate p none).set (n + p - 1) (some v) = v0 ++ List.replicate (p - 1) none ++ [some v] := by
  obtain ⟨k, rfl⟩ : ∃ k, p = k + 1 := ⟨p - 1, by omega⟩
  rw [List.replicate_succ', ← List.append_assoc, List.set_append_right _ _ (by simp; omega)]
  have : n + (k + 1) - 1 - (v0 ++ List.replicate k (none : Option V)).length = 0 := by simp; omega
  rw [this]
  simp
end Go.Proofs.YtfdceljdhgbkcaaGreatDoor
