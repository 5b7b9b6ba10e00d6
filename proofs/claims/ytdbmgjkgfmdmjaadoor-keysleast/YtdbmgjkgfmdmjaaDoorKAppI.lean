/- append of one int, which names its block; a row of ints that stays. -/
import Derived.Test.YtdbmgjkgfmdmjaaDoorGKit
import Derived.Test.YtdbmgjkgfmdmjaaDoorAppBlk
import Derived.Test.YtdbmgjkgfmdmjaaDoorKBase
namespace Go.Proofs.YtdbmgjkgfmdmjaaDoor
open Go.RowKit
section
variable {P : Program} (W : World)
theorem wp_int1 {op : Oper} {a : Act} {K : Act → World → Prop} {Q : Exit → Act → World → Prop} (s x : Operand) (t : TypeId) (ho : op.op = .call { callee := .builtin .append, args := #[s, x], argTypes := #[t, t] })
    (hinf : (P.info? 3).map (fun i => (i.zero, i.size, i.bytes)) = some (some (.int .i64 0), 1, 8)) (ht : P.underlying t = some (.slice 3))
    (v : Value) (zs : List Int) (hs : a.eval s = v) (hown : OwnI W 0 v zs) (y : Int) (ad : Addr) (c : Nat) (hx : a.eval x = .slice (some ad) 1 c) (hy : W.cell? ad = some (.int .i64 y)) (had : ad.add 0 = ad) (hl : zs.length < 17592186044416)
    (h : ∀ v' w', OwnI w' 0 v' (zs ++ [y]) → W.grownBy w' v.ownBlock → (v'.ownBlock = v.ownBlock ∨ v'.ownBlock = some W.heap.size) → K (a.put op.dst v') w') : op.wp P a W K Q := by
  obtain ⟨i0, hi, hz0, hz1, hz2⟩ := info_parts hinf
  obtain ⟨v', w', hr, h2, h3, h4⟩ := run_append_blk (P := P) W 0 t op.type 3 i0 (.int .i64 0) 1 8 ht hi hz0 hz1 hz2 rfl (by decide) v zs.length (zs.map (Value.int .i64)) hown ad 1 c [.int .i64 y] rfl (fun j u hj => by
    rcases j with _ | j
    · cases hj; rw [had]; exact hy
    · simp at hj) (fun u hu => by rw [List.mem_singleton.1 hu]; rfl) (by unfold maxLen; omega) (by omega) (Nat.zero_le _) (by decide)
  unfold Oper.wp execOp
  simp only [ho, resolve, invoke, builtin, Sem.run_bind, Sem.run_pure, Result.andThen_ok, List.map_toArray, List.map_cons, List.map_nil, hs, hx, hr]
  refine h v' w' ?_ h3 h4
  unfold OwnI
  rw [List.length_append, List.map_append]
  exact h2
theorem wpl_int1 {ops : Array Oper} {rest : List Oper} {o : Oper} {a : Act} {Q : Exit → Act → World → Prop} (hgd : o.guard = none) (s x : Operand) (t : TypeId) (ho : o.op = .call { callee := .builtin .append, args := #[s, x], argTypes := #[t, t] })
    (hinf : (P.info? 3).map (fun i => (i.zero, i.size, i.bytes)) = some (some (.int .i64 0), 1, 8)) (ht : P.underlying t = some (.slice 3))
    (v : Value) (zs : List Int) (hs : a.eval s = v) (hown : OwnI W 0 v zs) (y : Int) (ad : Addr) (c : Nat) (hx : a.eval x = .slice (some ad) 1 c) (hy : W.cell? ad = some (.int .i64 y)) (had : ad.add 0 = ad) (hl : zs.length < 17592186044416)
    (h : ∀ v' w', OwnI w' 0 v' (zs ++ [y]) → W.grownBy w' v.ownBlock → (v'.ownBlock = v.ownBlock ∨ v'.ownBlock = some W.heap.size) → wpList P ops Q rest (a.put o.dst v') w') : wpList P ops Q (o :: rest) a W :=
  wpList_plain hgd fun _ hK => wp_int1 W s x t ho hinf ht v zs hs hown y ad c hx hy had hl (fun v' w' h1 h2 h3 => hK _ _ (h v' w' h1 h2 h3))
end
theorem own_lit1 (w : World) (x : Int) (base : Nat) (hb : base ≤ w.heap.size) : OwnI (w.alloc (.cells #[.int .i64 x] 3)) base (.slice (some ⟨w.heap.size, 0, none⟩) 1 1) [x] :=
  ⟨rfl, .inr ⟨w.heap.size, 1, #[.int .i64 x], rfl, hb, heap_alloc_new _ _, Nat.le_refl _, by decide, rfl, rfl⟩⟩
theorem own_lit2 (w : World) (x y : Int) (base : Nat) (hb : base ≤ w.heap.size) : OwnI (w.alloc (.cells #[.int .i64 x, .int .i64 y] 3)) base (.slice (some ⟨w.heap.size, 0, none⟩) 2 2) [x, y] :=
  ⟨rfl, .inr ⟨w.heap.size, 2, #[.int .i64 x, .int .i64 y], rfl, hb, heap_alloc_new _ _, Nat.le_refl _, by decide, rfl, rfl⟩⟩
theorem lit_cell (w : World) (x : Value) (T : TypeId) : (w.alloc (.cells #[x] T)).cell? ⟨w.heap.size, 0, none⟩ = some x := by
  rw [cell_of_row _ _ 0 _ _ _ (heap_alloc_new _ _)]
  rfl
theorem rd_at {w : World} {ao : Option Addr} {c : Nat} {zs : List Int} (h : RdS w (.slice ao zs.length c) zs) {k : Nat} (hk : k < zs.length) : ∃ b o, ao = some ⟨b, o, none⟩ ∧ w.cell? ⟨b, o + k, none⟩ = some (.int .i64 (zs[k]?.getD 0)) := by
  obtain ⟨⟨ao', cap', e, g1, g2, g3⟩, _⟩ := h
  obtain ⟨b', off', e4, h1, h2⟩ := g3 (by intro e; rw [e] at hk; simp at hk)
  injection e with e1 e2 e3
  exact ⟨b', off', e1.trans e4, h2 k hk⟩
/-- The block that a row of ints lies in. -/
theorem OwnI.blk {w : World} {base : Nat} {v : Value} {zs : List Int} (h : OwnI w base v zs) {g : Nat} (hg : v.ownBlock = some g) : base ≤ g ∧ ∃ cur, w.heap[g]? = some (.cells cur 3 (0, 0)) := by
  rcases h.2 with ⟨rfl, _⟩ | ⟨g', cap, cur, rfl, hb, hg', _⟩
  · cases hg
  · have e : g' = g := by simpa [Value.ownBlock] using hg
    subst e
    exact ⟨hb, cur, hg'⟩
theorem own_ne {y : World} {b : Nat} {v : Value} {zs : List Int} {cs : Array Value} {T : TypeId} {r : Nat × Nat} (h : OwnI y 0 v zs) (hb : y.heap[b]? = some (.cells cs T r)) (hT : T ≠ 3) : v.ownBlock ≠ some b := by
  intro e
  obtain ⟨_, cur, hc⟩ := h.blk e
  rw [hc] at hb
  cases hb
  exact hT rfl
theorem OwnI.stay {w w' : World} {base : Nat} {v : Value} {zs : List Int} (h : OwnI w base v zs) (hs : ∀ g, v.ownBlock = some g → w'.heap[g]? = w.heap[g]?) : OwnI w' base v zs := by
  obtain ⟨h1, h2⟩ := h
  refine ⟨h1, ?_⟩
  rcases h2 with h2 | ⟨g, cap, cur, rfl, hb, hg, r⟩
  · exact .inl h2
  · exact .inr ⟨g, cap, cur, rfl, hb, (hs g rfl).trans hg, r⟩
theorem OwnI.lift {w : World} {base : Nat} {v : Value} {zs : List Int} (h : OwnI w 0 v zs) (hb : ∀ g, v.ownBlock = some g → base ≤ g) : OwnI w base v zs := by
  obtain ⟨h1, h2⟩ := h
  refine ⟨h1, ?_⟩
  rcases h2 with h2 | ⟨g, cap, cur, rfl, _, hg, r⟩
  · exact .inl h2
  · exact .inr ⟨g, cap, cur, rfl, hb g rfl, hg, r⟩
end Go.Proofs.YtdbmgjkgfmdmjaaDoor
