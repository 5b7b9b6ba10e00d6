/- One place more, a place written; a round of Put, at int. -/
import Derived.Test.YtdfmpnnenjnllaaKLkI
import Derived.Test.YtdfmpnnenjnllaaAppBlk
namespace Go.Proofs.Ytdfmpnnenjnllaa
open Go.RowKit

theorem mk_oneI (w : World) : (Instr.makeSlice 24 (.int .i64 1) (.int .i64 1)).run Try.prog w = .ok (.slice (some ⟨w.heap.size, 0, none⟩) 1 1) (w.alloc (.cells #[.int .i64 0, .bool false] 67)) := by kernel_rfl
theorem Try.info_plI : (Try.prog.info? 67).map (fun i => (i.zero, i.size, i.bytes)) = some (some (.agg #[.int .i64 0, .bool false]), 2, 16) := by kernel_rfl
section
variable {W : World} {ops : Array Oper} {rest : List Oper} {o : Oper} {a : Act} {Q : Exit → Act → World → Prop}
/-- append(l, a place without a value). -/
theorem wpl_plI (hgd : o.guard = none) (s x : Operand) (ho : o.op = .call { callee := .builtin .append, args := #[s, x], argTypes := #[24, 24] })
    (g n c : Nat) (vs : List (Option Int)) (hs : a.eval s = .slice (some ⟨g, 0, none⟩) n c) (hown : PlI W (.slice (some ⟨g, 0, none⟩) n c) vs) (h' : Nat) (hx : a.eval x = .slice (some ⟨h', 0, none⟩) 1 1)
    (hc : W.heap[h']? = some (.cells #[.int .i64 0, .bool false] 67 (0, 0))) (hl : (vs.length + 1) * 16 ≤ 140737488355328)
    (h : ∀ g' c' w', PlI w' (.slice (some ⟨g', 0, none⟩) (n + 1) c') (vs ++ [none]) → W.grownBy w' (some g) → (g' = g ∨ g' = W.heap.size) → wpList Try.prog ops Q rest (a.put o.dst (.slice (some ⟨g', 0, none⟩) (n + 1) c')) w') : wpList Try.prog ops Q (o :: rest) a W := by
  obtain ⟨i0, hi, hz0, hz1, hz2⟩ := info_parts Try.info_plI
  have hn := hown.blk.1
  subst hn
  refine wpList_append_blk W hgd s x 24 ho 0 67 i0 (.agg #[.int .i64 0, .bool false]) 2 16 Try.underlying24 hi hz0 hz1 hz2 rfl (by decide) (.slice (some ⟨g, 0, none⟩) vs.length c) vs.length (flI vs) hs hown ⟨h', 0, none⟩ 1 1 (pcI none) hx rfl (fun j u hj => ?_) (fun u hu => flI_one [none] u (by simpa [flI] using hu)) (by unfold maxLen; omega) (by omega) (Nat.zero_le _) (by decide) ?_
  · rw [Addr.add_lit, cell_of_row W h' _ _ _ (0, 0) hc, Nat.zero_add]
    simpa [pcI] using hj
  intro v' w' k1 k2 k3
  have hp : w'.ownsRow 0 67 2 v' (vs ++ [none]).length (flI (vs ++ [none])) := by
    rw [flI_app, List.length_append]
    simpa [flI] using k1
  rcases k1.2 with ⟨_, e⟩ | ⟨g', cap, cur', rfl, _, hg', _⟩
  · omega
  · refine h g' cap w' ?_ k2 ?_
    · unfold PlI
      simpa using hp
    · rcases k3 with k3 | k3
      · left; simpa [Value.ownBlock] using k3
      · right; simpa [Value.ownBlock] using k3
end
/-- A row that holds these cells. -/
theorem PlI.of {w : World} {g c : Nat} {cur : Array Value} {xs : List (Option Int)} (hg : w.heap[g]? = some (.cells cur 67 (0, 0))) (hs : cur.size = c * 2) (hl : xs.length ≤ c) (hc : c ≤ 9223372036854775807) (ht : cur.toList.take (xs.length * 2) = flI xs) : PlI w (.slice (some ⟨g, 0, none⟩) xs.length c) xs :=
  ⟨flI_len xs, .inr ⟨g, c, cur, rfl, Nat.zero_le _, hg, hl, by unfold maxLen; exact hc, hs, ht⟩⟩
theorem PlI.cap {w : World} {g n c : Nat} {xs : List (Option Int)} (h : PlI w (.slice (some ⟨g, 0, none⟩) n c) xs) : c ≤ 9223372036854775807 := by
  rcases h.2 with ⟨e, _⟩ | ⟨q, cap, cur, hv, hq, hg, hn, hc, _⟩
  · cases e
  · cases hv
    unfold maxLen at hc
    exact hc
/-- A place's value is written. -/
theorem PlI.set {w : World} {g n c : Nat} {xs : List (Option Int)} (h : PlI w (.slice (some ⟨g, 0, none⟩) n c) xs) (q : Nat) (hq : q < xs.length) (v : Int) :
    PlI ((w.setCell ⟨g, q * 2, none⟩ (.int .i64 v)).setCell ⟨g, q * 2 + 1, none⟩ (.bool true)) (.slice (some ⟨g, 0, none⟩) n c) (xs.set q (some v)) ∧ w.grownBy ((w.setCell ⟨g, q * 2, none⟩ (.int .i64 v)).setCell ⟨g, q * 2 + 1, none⟩ (.bool true)) (some g) := by
  have hcap := h.cap
  obtain ⟨rfl, cur, hg, hs, hl, ht⟩ := h.blk
  obtain ⟨h1, g1⟩ := set1 hg (q * 2) (.int .i64 v)
  obtain ⟨h2, g2⟩ := set1 h1 (q * 2 + 1) (.bool true)
  refine ⟨?_, (grown_trans g1 g2)⟩
  have := PlI.of (xs := xs.set q (some v)) h2 (c := c) (by simpa using hs) (by simpa using hl) hcap ?_
  · simpa using this
  · have hqk : q * 2 + 2 ≤ xs.length * 2 := by rw [← Nat.succ_mul]; exact Nat.mul_le_mul_right _ hq
    have hlk : xs.length * 2 ≤ c * 2 := Nat.mul_le_mul_right _ hl
    apply List.ext_getElem?
    intro j
    rw [flI_set _ _ _ hq, ← ht, List.length_set]
    by_cases hj : j < xs.length * 2
    · rw [List.getElem?_take, if_pos hj, List.getElem?_take, if_pos hj]
      by_cases hc : q * 2 ≤ j ∧ j < q * 2 + 2
      · rw [if_pos hc]
        obtain ⟨r, hr, rfl⟩ : ∃ r, r < 2 ∧ j = q * 2 + r := ⟨j - q * 2, by omega, by omega⟩
        have e : q * 2 + r - q * 2 = r := by omega
        rw [e]
        have hsz : q * 2 + r < cur.size := by omega
        clear h ht hc e hj hqk hlk
        obtain rfl | rfl : r = 0 ∨ r = 1 := by omega
        · simp only [Nat.add_zero, Array.toList_setIfInBounds] at hsz ⊢
          rw [List.getElem?_set_ne (by omega)]
          rw [List.getElem?_set_self (by simpa using hsz)]
          rfl
        · simp only [Array.toList_setIfInBounds] at hsz ⊢
          rw [List.getElem?_set_self (by simpa using hsz)]
          rfl

      · rw [if_neg hc]
        simp only [Array.toList_setIfInBounds]
        rw [List.getElem?_set_ne (by omega)]
        rw [List.getElem?_set_ne (by omega)]
    · rw [List.getElem?_take, if_neg hj, if_neg (by omega), List.getElem?_take, if_neg hj]
end Go.Proofs.Ytdfmpnnenjnllaa
