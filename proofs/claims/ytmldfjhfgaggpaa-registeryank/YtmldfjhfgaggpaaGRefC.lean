/- The document's New, Copy. -/
import Derived.Test.YtmldfjhfgaggpaaGRefG
import Derived.Laws.Rows
import Derived.Laws.Tables
namespace Go.Proofs.Ytmldfjhfgaggpaa
open Go.RowKit
variable {F : Nat → Prop}

theorem pairs_at (a b : Value) (ys : List Value) : ∀ (m n : Nat), n < m → (((List.replicate m [a, b]).flatten) ++ ys)[n * 2]? = some a ∧ (((List.replicate m [a, b]).flatten) ++ ys)[n * 2 + 1]? = some b
  | 0, n, h => absurd h (by omega)
  | m + 1, 0, _ => by simp [List.replicate_succ]
  | m + 1, n + 1, h => by
    have := pairs_at a b ys m n (by omega)
    rw [List.replicate_succ, List.flatten_cons, show (n + 1) * 2 = n * 2 + 2 by omega]
    simpa using this
def zeros : List Value := (List.replicate 128 [Value.int .i64 0, .slice none 0 0]).flatten ++ [.int .i64 0]
theorem zeros_eq : Try.zeroCells97 = zeros.toArray := by kernel_rfl
theorem Rb.zero {w : World} {q : Nat} (h : w.heap[q]? = some (.cells Try.zeroCells97 97 (0, 0))) (h1 : F q) (h2 : ∀ g, F g → g < w.heap.size) : Rb F w q ⟨fun _ => none, 0⟩ := by
  rw [zeros_eq] at h
  refine ⟨_, h, by kernel_rfl, by kernel_rfl, ⟨h1, h2⟩, fun n hn => ?_⟩
  have := pairs_at (.int .i64 0) (.slice none 0 0) [.int .i64 0] 128 n hn
  exact ⟨0, .slice none 0 0, by rw [List.getElem?_toArray]; exact this.1, by rw [List.getElem?_toArray]; exact this.2, .inl rfl, [], rds_nil w, fun h => absurd rfl h, by simp, rfl⟩
set_option maxRecDepth 100000 in
set_option maxHeartbeats 2000000 in
theorem r_New_any (w : World) : Calls Try.prog 47 #[] w fun e w' => e = .returned (.pointer (some ⟨w.heap.size, 0, none⟩)) ∧ Below w.heap.size w w' ∧ ∀ F : Nat → Prop, F w.heap.size → (∀ g, F g → g < w'.heap.size) → Rb F w' w.heap.size ⟨fun _ => none, 0⟩ := by
  go_enter Try.func47, Try.ntmps47
  go_wp2_with fail
  go_ret
  exact ⟨rfl, ext_alloc (Below.refl _ _) _, fun F h1 h2 => Rb.zero (heap_alloc_new _ _) h1 h2⟩
theorem Rb.ones {w : World} {s : Bs} {arr : Array Value} (h2 : arr.size = 257) (h3 : arr[256]? = some (.int .i64 s.p)) (h5 : ∀ n : Nat, n < 128 → ∃ k u, arr[n * 2]? = some (.int .i64 k) ∧ arr[n * 2 + 1]? = some u ∧ Hld F w k u (s.m (n : Int))) : arr.all (·.oneCell') = true := by
  rw [Array.all_eq_true]
  intro i hi
  have hi2 : arr[i]? = some arr[i] := Array.getElem?_eq_getElem hi
  by_cases e : i = 256
  · subst e
    rw [hi2] at h3
    rw [Option.some.inj h3]
    rfl
  · obtain ⟨k, u, a, b, c⟩ := h5 (i / 2) (by omega)
    rcases Nat.mod_two_eq_zero_or_one i with h | h
    · rw [show i / 2 * 2 = i by omega, hi2] at a
      rw [Option.some.inj a]
      rfl
    · rw [show i / 2 * 2 + 1 = i by omega, hi2] at b
      obtain ⟨ao, n, c', rfl⟩ := c.form
      rw [Option.some.inj b]
      rfl
section
variable {P : Program}
theorem wpList_store_row' {ops : Array Oper} {rest : List Oper} {o : Oper} {a : Act} {w : World} {Q : Exit → Act → World → Prop} (hgd : o.guard = none) (ty : TypeId) (x y : Operand) (ho : o.op = .store ty x y)
    (g : Nat) (cells : Array Value) (hx : a.eval x = .pointer (some ⟨g, 0, none⟩)) (hy : a.eval y = .agg cells)
    (t : TypeId) (old : Array Value) (hg : w.heap[g]? = some (.cells old t (0, 0))) (hi : (P.info? ty).map (·.size) = some cells.size) (hold : old.size = cells.size) (h1 : cells.all (·.oneCell') = true)
    (h : wpList P ops Q rest (a.put o.dst undef) (w.setRow g cells)) : wpList P ops Q (o :: rest) a w :=
  wpList_plain hgd fun _ hK => wp_store_row ty x y ho g cells hx hy t old hg hi hold h1 (hK _ _ h)
end
set_option maxRecDepth 100000 in
set_option maxHeartbeats 2000000 in
theorem r_Copy_any (w : World) (q : Nat) (s : Bs) (hR : Rb F w q s) : Calls Try.prog 50 #[.pointer (some ⟨q, 0, none⟩)] w fun e w' => e = .returned (.pointer (some ⟨w.heap.size, 0, none⟩)) ∧ w.heap.size < w'.heap.size ∧ Below w.heap.size w w' ∧ ∀ F' : Nat → Prop, F' w.heap.size → (∀ g, F' g → g < w'.heap.size ∧ (F g ∨ w.heap.size ≤ g)) → Rb F' w' w.heap.size s := by
  obtain ⟨arr, h1, h2, h3, h4, h5⟩ := hR
  have H5 := hidIt h5
  have H3 := hidIt h3
  have H1 := hidIt (Rb.ones h2 h3 h5)
  have HIN := hidIt (show (Try.prog.info? 97).map (·.size) = some arr.size by rw [h2]; kernel_rfl)
  have HZS := hidIt (show Try.zeroCells97.size = arr.size by rw [h2]; kernel_rfl)
  have HA := hidIt h2
  clear h2 h3 h4 h5
  go_enter Try.func50, Try.ntmps50
  go_wp2_with (first
    | (refine wpList_load_row rfl 97 (.tmp 5) rfl q rfl 97 arr (0, 0) _ h1 Try.underlying97 rfl HIN.out ?_)
    | (refine wpList_store_row' rfl 97 (.tmp 3) (.tmp 6) rfl w.heap.size arr rfl rfl 97 _ (heap_alloc_new _ _) HIN.out HZS.out H1.out ?_)
    | go_in)
  go_ret
  have hblk := setRow_heap (w.alloc (.cells Try.zeroCells97 97)) w.heap.size _ arr 97 (0, 0) (heap_alloc_new _ _)
  have hbl : Below w.heap.size w ((w.alloc (.cells Try.zeroCells97 97)).setRow w.heap.size arr) :=
    (ext_alloc (Below.refl _ _) _).grown (row := some w.heap.size) ⟨rfl, rfl, rfl, by simp [World.setRow], fun j _ hk => setRow_other _ w.heap.size j _ (by intro e; subst e; exact hk rfl)⟩ (by simp) (fun k hk => by cases hk; exact Nat.le_refl _)
  refine ⟨rfl, (Array.getElem?_eq_some_iff.1 hblk).1, hbl, fun F' f1 f2 => ⟨arr, hblk, HA.out, H3.out, ⟨f1, fun g hg => (f2 g hg).1⟩, fun n hn => ?_⟩⟩
  obtain ⟨k, u, a, b, hk, t, ht, ho, hl, hm⟩ := H5.out n hn
  refine ⟨k, u, a, b, hk, t, ht.ext hbl, fun hne g hg => ?_, hl, hm⟩
  rcases (f2 g hg).2 with hf | hge
  · exact ho hne g hf
  · exact ht.below hge hne
end Go.Proofs.Ytmldfjhfgaggpaa
