/- Rows that are made, copied into, written over. -/
import Derived.Test.YtcmglbgnpiociabVWhole
import Derived.Test.YtcmglbgnpiociabVRCell
import Derived.Laws.CopyOwn
import Derived.OwnWalk
import Derived.WalkMore
import Derived.Deep.LoopGhost
namespace Go.Proofs.Ytcmglbgnpiociab
open Go.RowKit

theorem cellOf {w : World} {q : Nat} {T : TypeId} {arr : Array Value} (h : w.heap[q]? = some (.cells arr T (0, 0))) (i : Nat) : w.cell? ⟨q, i, none⟩ = arr[i]? := by simp [World.cell?, h]
theorem frozOf {w : World} {q : Nat} {T : TypeId} {arr : Array Value} (h : w.heap[q]? = some (.cells arr T (0, 0))) (i : Nat) : w.frozen? ⟨q, i, none⟩ = false := by simp [World.frozen?, h]
theorem grown_trans {a b c : World} {k : Nat} (h : a.grownBy b (some k)) (h' : b.grownBy c (some k)) : a.grownBy c (some k) :=
  ⟨h'.os.trans h.os, h'.tape.trans h.tape, h'.output.trans h.output, Nat.le_trans h.size h'.size, fun j hj hk => (h'.block j (Nat.lt_of_lt_of_le hj h.size) hk).trans (h.block j hj hk)⟩
theorem row_new {w : World} {base x n : Nat} {xs : List Value} (h : w.ownsRow base 3 1 (.slice (some ⟨x, 0, none⟩) n n) n xs) : ∃ cur : Array Value, w.heap[x]? = some (.cells cur 3 (0, 0)) ∧ cur.size = n := by
  rcases h.2 with ⟨h, _⟩ | ⟨g', cap, cur, h, _, hb, _, _, hs, _⟩
  · cases h
  · cases h; exact ⟨cur, hb, by omega⟩

section
variable {P : Program} {W : World} {ops : Array Oper} {rest : List Oper} {o : Oper} {a : Act} {Q : Exit → Act → World → Prop}
theorem wpl_copyI (hgd : o.guard = none) (d s : Operand) (T : TypeId) (ho : o.op = .call { callee := .builtin .copy, args := #[d, s], argTypes := #[T, T] })
    (hinf : (P.info? 3).map (·.size) = some 1) (ht : P.underlying T = some (.slice 3)) (g n c : Nat) (hd : a.eval d = .slice (some ⟨g, 0, none⟩) n c) (u : Value) (t : List Int) (hs : a.eval s = u) (hu : RdS W u t) (hn : t.length ≤ n)
    (cur : Array Value) (hg : W.heap[g]? = some (.cells cur 3 (0, 0))) (hz : t.length ≤ cur.size)
    (h : ∀ w' (cur' : Array Value), w'.heap[g]? = some (.cells cur' 3 (0, 0)) → cur'.size = cur.size → (∀ j, j < t.length → cur'[j]? = some (.int .i64 (t[j]?.getD 0))) → W.grownBy w' (some g) → wpList P ops Q rest (a.put o.dst (goInt t.length)) w') : wpList P ops Q (o :: rest) a W := by
  by_cases hne : t = []
  · subst hne
    obtain ⟨ao, c', rfl, _⟩ := hu.len
    refine wpList_copy_nothing hgd d s T T ho 3 ht hinf _ _ _ _ _ _ hd hs (by simp) ?_
    exact h W cur hg rfl (fun j hj => by simp at hj) ⟨rfl, rfl, rfl, Nat.le_refl _, fun _ _ _ => rfl⟩
  · obtain ⟨b, off, c', rfl, _, _, _, hc⟩ := hu.1.at (List.length_pos_iff.2 hne)
    refine wpList_copy_own hgd d s T T ho 3 ht hinf g 0 n c ⟨b, off, none⟩ t.length c' hd hs cur 3 hg (t.map (Value.int .i64)) (by rw [List.length_map]; exact (Nat.min_eq_left hn).symm) (fun j v hj => ?_) (by simpa using hz) (one_all _ _) ?_
    · rw [Addr.add_lit]
      have hjl : j < t.length := by have := (List.getElem?_eq_some_iff.1 hj).1; simpa using this
      rw [hc j hjl]
      rw [List.getElem?_map] at hj
      obtain ⟨x, hx, rfl⟩ := Option.map_eq_some_iff.1 hj
      unfold Cl.at
      rw [hx]
      rfl
    · rw [List.length_map]
      refine h _ _ (setRow_heap W g _ _ _ _ hg) ?_ (fun j hj => ?_) ⟨rfl, rfl, rfl, by simp [World.setRow], fun k _ hk => setRow_other W g k _ (by intro e; subst e; exact hk rfl)⟩
      · simp; omega
      · rw [List.getElem?_toArray, List.take_zero, List.nil_append, List.getElem?_append_left (by simpa using hj)]
        simp [hj]
end
end Go.Proofs.Ytcmglbgnpiociab
