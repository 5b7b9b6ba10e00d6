/- One place more, a place written; a round of Put, at keys.binding. -/
import Derived.Test.YtdbmgjkgfmdmjaaDoorKLkB
import Derived.Test.YtdbmgjkgfmdmjaaDoorAppBlk
namespace Go.Proofs.YtdbmgjkgfmdmjaaDoor
open Go.RowKit

theorem mk_oneB (w : World) : (Instr.makeSlice 60 (.int .i64 1) (.int .i64 1)).run Tryd.prog w = .ok (.slice (some ⟨w.heap.size, 0, none⟩) 1 1) (w.alloc (.cells #[.int .i64 0, .int .i64 0, .int .i64 0, .int .i64 0, .bool false] 139)) := by kernel_rfl
theorem Tryd.info_plB : (Tryd.prog.info? 139).map (fun i => (i.zero, i.size, i.bytes)) = some (some (.agg #[.int .i64 0, .int .i64 0, .int .i64 0, .int .i64 0, .bool false]), 5, 40) := by kernel_rfl
section
variable {W : World} {ops : Array Oper} {rest : List Oper} {o : Oper} {a : Act} {Q : Exit → Act → World → Prop}
/-- append(l, a place without a value). -/
theorem wpl_plB (hgd : o.guard = none) (s x : Operand) (ho : o.op = .call { callee := .builtin .append, args := #[s, x], argTypes := #[60, 60] })
    (g n c : Nat) (vs : List (Option Bd)) (hs : a.eval s = .slice (some ⟨g, 0, none⟩) n c) (hown : PlB W (.slice (some ⟨g, 0, none⟩) n c) vs) (h' : Nat) (hx : a.eval x = .slice (some ⟨h', 0, none⟩) 1 1)
    (hc : W.heap[h']? = some (.cells #[.int .i64 0, .int .i64 0, .int .i64 0, .int .i64 0, .bool false] 139 (0, 0))) (hl : (vs.length + 1) * 40 ≤ 140737488355328)
    (h : ∀ g' c' w', PlB w' (.slice (some ⟨g', 0, none⟩) (n + 1) c') (vs ++ [none]) → W.grownBy w' (some g) → (g' = g ∨ g' = W.heap.size) → wpList Tryd.prog ops Q rest (a.put o.dst (.slice (some ⟨g', 0, none⟩) (n + 1) c')) w') : wpList Tryd.prog ops Q (o :: rest) a W := by
  obtain ⟨i0, hi, hz0, hz1, hz2⟩ := info_parts Tryd.info_plB
  have hn := hown.blk.1
  subst hn
  refine wpList_append_blk W hgd s x 60 ho 0 139 i0 (.agg #[.int .i64 0, .int .i64 0, .int .i64 0, .int .i64 0, .bool false]) 5 40 Tryd.underlying60 hi hz0 hz1 hz2 rfl (by decide) (.slice (some ⟨g, 0, none⟩) vs.length c) vs.length (flB vs) hs hown ⟨h', 0, none⟩ 1 1 (pcB none) hx rfl (fun j u hj => ?_) (fun u hu => flB_one [none] u (by simpa [flB] using hu)) (by unfold maxLen; omega) (by omega) (Nat.zero_le _) (by decide) ?_
  · rw [Addr.add_lit, cell_of_row W h' _ _ _ (0, 0) hc, Nat.zero_add]
    simpa [pcB] using hj
  intro v' w' k1 k2 k3
  have hp : w'.ownsRow 0 139 5 v' (vs ++ [none]).length (flB (vs ++ [none])) := by
    rw [flB_app, List.length_append]
    simpa [flB] using k1
  rcases k1.2 with ⟨_, e⟩ | ⟨g', cap, cur', rfl, _, hg', _⟩
  · omega
  · refine h g' cap w' ?_ k2 ?_
    · unfold PlB
      simpa using hp
    · rcases k3 with k3 | k3
      · left; simpa [Value.ownBlock] using k3
      · right; simpa [Value.ownBlock] using k3
end
/-- A row that holds these cells. -/
theorem PlB.of {w : World} {g c : Nat} {cur : Array Value} {xs : List (Option Bd)} (hg : w.heap[g]? = some (.cells cur 139 (0, 0))) (hs : cur.size = c * 5) (hl : xs.length ≤ c) (hc : c ≤ 9223372036854775807) (ht : cur.toList.take (xs.length * 5) = flB xs) : PlB w (.slice (some ⟨g, 0, none⟩) xs.length c) xs :=
  ⟨flB_len xs, .inr ⟨g, c, cur, rfl, Nat.zero_le _, hg, hl, by unfold maxLen; exact hc, hs, ht⟩⟩
theorem PlB.cap {w : World} {g n c : Nat} {xs : List (Option Bd)} (h : PlB w (.slice (some ⟨g, 0, none⟩) n c) xs) : c ≤ 9223372036854775807 := by
  rcases h.2 with ⟨e, _⟩ | ⟨q, cap, cur, hv, hq, hg, hn, hc, _⟩
  · cases e
  · cases hv
    unfold maxLen at hc
    exact hc
/-- A place's value is written. -/
theorem PlB.set {w : World} {g n c : Nat} {xs : List (Option Bd)} (h : PlB w (.slice (some ⟨g, 0, none⟩) n c) xs) (q : Nat) (hq : q < xs.length) (v : Bd) :
    PlB (((((w.setCell ⟨g, q * 5, none⟩ (.int .i64 v.v)).setCell ⟨g, q * 5 + 1, none⟩ (.int .i64 v.m)).setCell ⟨g, q * 5 + 2, none⟩ (.int .i64 v.a)).setCell ⟨g, q * 5 + 3, none⟩ (.int .i64 v.t)).setCell ⟨g, q * 5 + 4, none⟩ (.bool true)) (.slice (some ⟨g, 0, none⟩) n c) (xs.set q (some v)) ∧ w.grownBy (((((w.setCell ⟨g, q * 5, none⟩ (.int .i64 v.v)).setCell ⟨g, q * 5 + 1, none⟩ (.int .i64 v.m)).setCell ⟨g, q * 5 + 2, none⟩ (.int .i64 v.a)).setCell ⟨g, q * 5 + 3, none⟩ (.int .i64 v.t)).setCell ⟨g, q * 5 + 4, none⟩ (.bool true)) (some g) := by
  have hcap := h.cap
  obtain ⟨rfl, cur, hg, hs, hl, ht⟩ := h.blk
  obtain ⟨h1, g1⟩ := set1 hg (q * 5) (.int .i64 v.v)
  obtain ⟨h2, g2⟩ := set1 h1 (q * 5 + 1) (.int .i64 v.m)
  obtain ⟨h3, g3⟩ := set1 h2 (q * 5 + 2) (.int .i64 v.a)
  obtain ⟨h4, g4⟩ := set1 h3 (q * 5 + 3) (.int .i64 v.t)
  obtain ⟨h5, g5⟩ := set1 h4 (q * 5 + 4) (.bool true)
  refine ⟨?_, (grown_trans (grown_trans (grown_trans (grown_trans g1 g2) g3) g4) g5)⟩
  have := PlB.of (xs := xs.set q (some v)) h5 (c := c) (by simpa using hs) (by simpa using hl) hcap ?_
  · simpa using this
  · have hqk : q * 5 + 5 ≤ xs.length * 5 := by rw [← Nat.succ_mul]; exact Nat.mul_le_mul_right _ hq
    have hlk : xs.length * 5 ≤ c * 5 := Nat.mul_le_mul_right _ hl
    apply List.ext_getElem?
    intro j
    rw [flB_set _ _ _ hq, ← ht, List.length_set]
    by_cases hj : j < xs.length * 5
    · rw [List.getElem?_take, if_pos hj, List.getElem?_take, if_pos hj]
      by_cases hc : q * 5 ≤ j ∧ j < q * 5 + 5
      · rw [if_pos hc]
        obtain ⟨r, hr, rfl⟩ : ∃ r, r < 5 ∧ j = q * 5 + r := ⟨j - q * 5, by omega, by omega⟩
        have e : q * 5 + r - q * 5 = r := by omega
        rw [e]
        have hsz : q * 5 + r < cur.size := by omega
        clear h ht hc e hj hqk hlk
        obtain rfl | rfl | rfl | rfl | rfl : r = 0 ∨ r = 1 ∨ r = 2 ∨ r = 3 ∨ r = 4 := by omega
        · simp only [Nat.add_zero, Array.toList_setIfInBounds] at hsz ⊢
          rw [List.getElem?_set_ne (by omega)]
          rw [List.getElem?_set_ne (by omega)]
          rw [List.getElem?_set_ne (by omega)]
          rw [List.getElem?_set_ne (by omega)]
          rw [List.getElem?_set_self (by simpa using hsz)]
          rfl
        · simp only [Array.toList_setIfInBounds] at hsz ⊢
          rw [List.getElem?_set_ne (by omega)]
          rw [List.getElem?_set_ne (by omega)]
          rw [List.getElem?_set_ne (by omega)]
          rw [List.getElem?_set_self (by simpa using hsz)]
          rfl
        · simp only [Array.toList_setIfInBounds] at hsz ⊢
          rw [List.getElem?_set_ne (by omega)]
          rw [List.getElem?_set_ne (by omega)]
          rw [List.getElem?_set_self (by simpa using hsz)]
          rfl
        · simp only [Array.toList_setIfInBounds] at hsz ⊢
          rw [List.getElem?_set_ne (by omega)]
          rw [List.getElem?_set_self (by simpa using hsz)]
          rfl
        · simp only [Array.toList_setIfInBounds] at hsz ⊢
          rw [List.getElem?_set_self (by simpa using hsz)]
          rfl

      · rw [if_neg hc]
        simp only [Array.toList_setIfInBounds]
        rw [List.getElem?_set_ne (by omega)]
        rw [List.getElem?_set_ne (by omega)]
        rw [List.getElem?_set_ne (by omega)]
        rw [List.getElem?_set_ne (by omega)]
        rw [List.getElem?_set_ne (by omega)]
    · rw [List.getElem?_take, if_neg hj, if_neg (by omega), List.getElem?_take, if_neg hj]
end Go.Proofs.YtdbmgjkgfmdmjaaDoor
