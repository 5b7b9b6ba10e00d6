import Derived.Test.YtfdceljdhgbkcaaDoorJ06
/- append of rows of bindings, in a region that draws. -/
namespace Go.Proofs.YtfdceljdhgbkcaaDoor
open Go.RowKit Go.Lib
set_option maxRecDepth 100000 in
/-- append(v, s...), of rows: the run. -/
theorem run_append_rows (W : World) (ty : TypeId) (base : Nat) (v : Value) (xs : List (Rw × Value)) (hown : OwnW W base v xs) (u : Value) (ys : List (Rw × Value)) (hu : RdW W u ys) (hl : (xs.length + ys.length) * 56 ≤ 140737488355328) (hbase : base ≤ W.heap.size) :
    ∃ v' w', (Builtin.append_ #[44, 44] ty #[v, u]).run Tryd.prog W = .ok v' w' ∧ OwnW w' base v' (xs ++ ys) ∧ Below base W w' ∧ W.grownBy w' v.ownBlock := by
  obtain ⟨i0, hi, hz0, hz1, hz2⟩ := info_parts Tryd.info_row
  obtain ⟨⟨ao, cap, hv, r1, r2, r3⟩, hacc, hsl⟩ := hu
  rcases hsl with e | ⟨ad, n, c, e⟩
  · subst e
    have : ys = [] := by injection hv with _ h2 _; exact List.length_eq_zero_iff.1 h2.symm
    subst this
    exact ⟨v, W, run_append_owned_none (P := Tryd.prog) (w := W) base 44 ty 50 i0 5 Tryd.underlying44 hi v xs.length (fr xs) hown.1, by rw [List.append_nil]; exact hown, Below.refl _ _, ⟨rfl, rfl, rfl, Nat.le_refl _, fun _ _ _ => rfl⟩⟩
  · subst e
    injection hv with e1 e2 e3
    subst e1 e2 e3
    obtain ⟨v', w', hrun, h1, h2, _⟩ := run_append_own (P := Tryd.prog) W base 44 ty 50 i0 (.agg #[.int .i64 0, .int .i64 0, .int .i64 0, .int .i64 0, .slice none 0 0]) 5 56 Tryd.underlying44 hi hz0 hz1 hz2 rfl (by decide) v xs.length (fr xs) hown.1 ad ys.length c (fr ys) (fr_len ys) (fun j u hj => by
      have hne : ys ≠ [] := by intro e; subst e; simp [fr] at hj
      obtain ⟨b, off, e1, _, k3⟩ := r3 hne
      cases e1
      rw [Addr.add_lit]
      exact k3 j u hj) (fr_one ys hacc) (by unfold maxLen; omega) (by omega) hbase
    refine ⟨v', w', hrun, ?_⟩
    have hb : Below base W w' := (Below.refl _ _).grown h2 hbase (fun k hk => (World.ownsRow.lt hown.1 k hk).1)
    have keep : ∀ {zs : List (Rw × Value)}, Acc W zs → Acc w' zs := fun {zs} hz x hx => by
      obtain ⟨hr, hty⟩ := hz x hx
      have hne : ∀ a n c, x.2 = .slice (some a) n c → w'.heap[a.block]? = W.heap[a.block]? := fun a n c e => by
        obtain ⟨cur, r, h3⟩ := hty a n c e
        refine h2.block _ (Array.getElem?_eq_some_iff.1 h3).1 (fun e2 => ?_)
        rcases hown.1.2 with ⟨e3, _⟩ | ⟨g, cp, cur2, e3, _, hg, _⟩
        · rw [e3] at e2; cases e2
        · rw [e3] at e2
          cases e2
          rw [h3] at hg
          injection hg with hg
          injection hg with _ h4
          exact absurd h4 (by decide)
      refine ⟨?_, fun a n c e => ?_⟩
      · obtain ⟨⟨ao, cap, hv, q1, q2, q3⟩, hs⟩ := hr
        refine ⟨⟨ao, cap, hv, q1, q2, fun hn => ?_⟩, hs⟩
        obtain ⟨b, off, e1, hb1, hc1⟩ := q3 hn
        refine ⟨b, off, e1, Nat.lt_of_lt_of_le hb1 h2.size, fun i hi => ?_⟩
        rw [← hc1 i hi]
        unfold World.cell?
        have := hne ⟨b, off, none⟩ _ _ (by rw [hv, e1])
        simp only at this
        simp only [this]
      · obtain ⟨cur, r, h3⟩ := hty a n c e
        exact ⟨cur, r, (hne a n c e).trans h3⟩
    refine ⟨⟨?_, (keep hown.2).app (keep hacc)⟩, hb, h2⟩
    rw [List.length_append, fr_app]
    exact h1
section
variable {W : World}
/-- append(v, s...), of rows, in a region that draws. -/
theorem wp_append_rows {op : Oper} {a : Act} {K : Act → World → Prop} {Q : Exit → Act → World → Prop} (s x : Operand) (ho : op.op = .call { callee := .builtin .append, args := #[s, x], argTypes := #[44, 44] })
    (base : Nat) (v : Value) (xs : List (Rw × Value)) (hs : a.eval s = v) (hown : OwnW W base v xs) (u : Value) (ys : List (Rw × Value)) (hx : a.eval x = u) (hu : RdW W u ys) (hl : (xs.length + ys.length) * 56 ≤ 140737488355328) (hbase : base ≤ W.heap.size)
    (h : ∀ v' w', OwnW w' base v' (xs ++ ys) → Below base W w' → K (a.put op.dst v') w') : op.wp Tryd.prog a W K Q := by
  obtain ⟨v', w', hrun, h1, h2, _⟩ := run_append_rows W op.type base v xs hown u ys hu hl hbase
  unfold Oper.wp execOp
  simp only [ho, resolve, invoke, builtin, Sem.run_bind, Sem.run_pure, Result.andThen_ok, List.map_toArray, List.map_cons, List.map_nil, hs, hx, hrun]
  exact h v' w' h1 h2
variable {ops : Array Oper} {rest : List Oper} {o : Oper} {a : Act} {Q : Exit → Act → World → Prop}
/-- append(v, s...), of rows: what else has turned. -/
theorem wpl_rowsG (hgd : o.guard = none) (s x : Operand) (ho : o.op = .call { callee := .builtin .append, args := #[s, x], argTypes := #[44, 44] })
    (base : Nat) (v : Value) (xs : List (Rw × Value)) (hs : a.eval s = v) (hown : OwnW W base v xs) (u : Value) (ys : List (Rw × Value)) (hx : a.eval x = u) (hu : RdW W u ys) (hl : (xs.length + ys.length) * 56 ≤ 140737488355328) (hbase : base ≤ W.heap.size)
    (h : ∀ v' w', OwnW w' base v' (xs ++ ys) → Below base W w' → (∀ (k : Nat) cur, W.heap[k]? = some (.cells cur 3 (0, 0)) → w'.heap[k]? = some (.cells cur 3 (0, 0))) → wpList Tryd.prog ops Q rest (a.put o.dst v') w') : wpList Tryd.prog ops Q (o :: rest) a W :=
  wpList_plain hgd fun _ hK => by
    obtain ⟨v', w', hrun, h1, h2, h3⟩ := run_append_rows W o.type base v xs hown u ys hu hl hbase
    unfold Oper.wp execOp
    simp only [ho, resolve, invoke, builtin, Sem.run_bind, Sem.run_pure, Result.andThen_ok, List.map_toArray, List.map_cons, List.map_nil, hs, hx, hrun]
    refine hK _ _ (h v' w' h1 h2 (fun k cur hk => (h3.block k (Array.getElem?_eq_some_iff.1 hk).1 (fun e => ?_)).trans hk))
    rcases hown.1.2 with ⟨e3, _⟩ | ⟨g, cp, cur2, e3, _, hg, _⟩
    · rw [e3] at e; cases e
    · rw [e3] at e
      cases e
      rw [hk] at hg
      injection hg with hg
      injection hg with _ h4
      exact absurd h4 (by decide)
end
end Go.Proofs.YtfdceljdhgbkcaaDoor
