import Derived.Test.YtfdceljdhgbkcaaGreatDoorJ02
/- Rows of bindings in memory; slices.Grow and slices.Concat of them. -/
namespace Go.Proofs.YtfdceljdhgbkcaaGreatDoor
open Go.RowKit Go.Lib

/-- Keys and what they are bound to. -/
structure Rw where
  b : Bd
  ks : List Int
/-- A row's cells: x.2 is the slice that reads as its keys. -/
def rcs (x : Rw × Value) : List Value := [.int .i64 x.1.b.v, .int .i64 x.1.b.m, .int .i64 x.1.b.a, .int .i64 x.1.b.t, x.2]
def fr (xs : List (Rw × Value)) : List Value := xs.flatMap rcs
theorem fr_cons (x : Rw × Value) (xs : List (Rw × Value)) : fr (x :: xs) = rcs x ++ fr xs := rfl
theorem fr_app (xs ys : List (Rw × Value)) : fr (xs ++ ys) = fr xs ++ fr ys := by simp [fr]
theorem fr_len (xs : List (Rw × Value)) : (fr xs).length = xs.length * 5 := by
  induction xs with
  | nil => rfl
  | cons x xs ih => rw [fr_cons, List.length_append, ih, List.length_cons]; show 5 + _ = _; omega
theorem fr_at (xs : List (Rw × Value)) : ∀ i x, xs[i]? = some x → ∀ r, r < 5 → (fr xs)[i * 5 + r]? = (rcs x)[r]? := by
  induction xs with
  | nil => intro i x h; simp at h
  | cons y xs ih =>
    intro i x h r hr
    rw [fr_cons]
    cases i with
    | zero => rw [List.getElem?_append_left (by show 0 * 5 + r < 5; omega)]; simp at h; subst h; simp
    | succ i =>
      rw [List.getElem?_append_right (by show 5 ≤ _; omega), show (i + 1) * 5 + r - (rcs y).length = i * 5 + r by show _ - 5 = _; omega]
      exact ih i x (by simpa using h) r hr
/-- Keys that are read, in a block of ints. -/
def KI (w : World) (v : Value) (ks : List Int) : Prop := RdS w v ks ∧ ∀ a n c, v = .slice (some a) n c → ∃ cur r, w.heap[a.block]? = some (.cells cur 3 r)
theorem KI.ext {w w' : World} {v : Value} {ks : List Int} (h : KI w v ks) (hb : Below w.heap.size w w') : KI w' v ks := by
  refine ⟨h.1.ext hb, fun a n c e => ?_⟩
  obtain ⟨cur, r, h1⟩ := h.2 a n c e
  exact ⟨cur, r, (hb.block _ (Array.getElem?_eq_some_iff.1 h1).1).trans h1⟩
/-- The keys of all rows are read. -/
def Acc (w : World) (xs : List (Rw × Value)) : Prop := ∀ x ∈ xs, KI w x.2 x.1.ks
theorem Acc.ext {w w' : World} {xs : List (Rw × Value)} (h : Acc w xs) (hb : Below w.heap.size w w') : Acc w' xs := fun x hx => (h x hx).ext hb
theorem Acc.nil (w : World) : Acc w [] := fun x hx => by cases hx
theorem Acc.app {w : World} {xs ys : List (Rw × Value)} (h : Acc w xs) (k : Acc w ys) : Acc w (xs ++ ys) := fun x hx => by
  rcases List.mem_append.1 hx with hx | hx
  · exact h x hx
  · exact k x hx
theorem fr_one {w : World} (xs : List (Rw × Value)) (h : Acc w xs) : ∀ u ∈ fr xs, u.oneCell' = true := by
  intro u hu
  simp only [fr, List.mem_flatMap, rcs, List.mem_cons, List.not_mem_nil, or_false] at hu
  obtain ⟨x, hx, rfl | rfl | rfl | rfl | rfl⟩ := hu
  · rfl
  · rfl
  · rfl
  · rfl
  · rcases (h x hx).1.2 with e | ⟨a, n, c, e⟩ <;> rw [e] <;> rfl
/-- Rows of the call's own. -/
def OwnW (w : World) (base : Nat) (v : Value) (xs : List (Rw × Value)) : Prop := w.ownsRow base 64 5 v xs.length (fr xs) ∧ Acc w xs
/-- Rows that are read. -/
def RdW (w : World) (v : Value) (xs : List (Rw × Value)) : Prop :=
  (∃ ao cap, v = .slice ao xs.length cap ∧ xs.length ≤ cap ∧ cap ≤ 9223372036854775807 ∧ (xs ≠ [] → ∃ b off, ao = some ⟨b, off, none⟩ ∧ b < w.heap.size ∧ ∀ j u, (fr xs)[j]? = some u → w.cell? ⟨b, off + j, none⟩ = some u)) ∧ Acc w xs ∧ Sl v
theorem RdW.ext {w w' : World} {v : Value} {xs : List (Rw × Value)} (h : RdW w v xs) (hb : Below w.heap.size w w') : RdW w' v xs := by
  obtain ⟨⟨ao, cap, h1, h2, h3, h4⟩, h5, h6⟩ := h
  refine ⟨⟨ao, cap, h1, h2, h3, fun hn => ?_⟩, h5.ext hb, h6⟩
  obtain ⟨b, off, k1, k2, k3⟩ := h4 hn
  exact ⟨b, off, k1, Nat.lt_of_lt_of_le k2 hb.size, fun j u hj => (hb.cell (p := ⟨b, off + j, none⟩) k2).trans (k3 j u hj)⟩
theorem OwnW.rd {w : World} {base : Nat} {v : Value} {xs : List (Rw × Value)} (h : OwnW w base v xs) : RdW w v xs := by
  obtain ⟨⟨h1, h2⟩, h3⟩ := h
  rcases h2 with ⟨rfl, hn⟩ | ⟨g, cap, cur, rfl, hb, hg, hn, hc, hs, ht⟩
  · rw [List.length_eq_zero_iff] at hn
    subst hn
    exact ⟨⟨none, 0, rfl, Nat.le_refl _, by omega, fun h => absurd rfl h⟩, h3, .inl rfl⟩
  · refine ⟨⟨_, cap, rfl, hn, by unfold maxLen at hc; exact hc, fun _ => ⟨g, 0, rfl, (Array.getElem?_eq_some_iff.1 hg).1, fun j u hj => ?_⟩⟩, h3, .inr ⟨_, _, _, rfl⟩⟩
    rw [cell_of_row _ _ _ _ _ _ hg, Nat.zero_add]
    rw [← ht, List.getElem?_take] at hj
    split at hj
    · simpa using hj
    · cases hj
theorem OwnW.ext {w w' : World} {base : Nat} {v : Value} {xs : List (Rw × Value)} (h : OwnW w base v xs) (hb : Below w.heap.size w w') : OwnW w' base v xs := ⟨own_ext h.1 hb, h.2.ext hb⟩
theorem OwnW.nil (w : World) (base : Nat) : OwnW w base (.slice none 0 0) [] := ⟨⟨rfl, .inl ⟨rfl, rfl⟩⟩, Acc.nil w⟩
theorem OwnW.le {w : World} {base base' : Nat} {v : Value} {xs : List (Rw × Value)} (h : OwnW w base v xs) (hb : base' ≤ base) : OwnW w base' v xs := by
  obtain ⟨⟨h1, h2⟩, h3⟩ := h
  refine ⟨⟨h1, ?_⟩, h3⟩
  rcases h2 with h2 | ⟨g, cap, cur, hv, hg, r⟩
  · exact .inl h2
  · exact .inr ⟨g, cap, cur, hv, Nat.le_trans hb hg, r⟩
theorem OwnW.form {w : World} {base : Nat} {v : Value} {xs : List (Rw × Value)} (h : OwnW w base v xs) : ∃ ao n c, v = .slice ao n c := by
  obtain ⟨⟨ao, cap, h1, _⟩, _⟩ := h.rd
  exact ⟨_, _, _, h1⟩
/-- A list of rows that is written out. -/
theorem OwnW.lit {w : World} {xs : List (Rw × Value)} (cs : Array Value) (hc : cs = (fr xs).toArray) (h : Acc w xs) (hx : xs.length ≤ 1000) : OwnW (w.alloc (.cells cs 64)) w.heap.size (.slice (some ⟨w.heap.size, 0, none⟩) xs.length xs.length) xs := by
  refine ⟨⟨fr_len xs, .inr ⟨w.heap.size, xs.length, cs, rfl, Nat.le_refl _, heap_alloc_new _ _, Nat.le_refl _, by unfold maxLen; omega, by rw [hc]; simp [fr_len], ?_⟩⟩, h.ext (ext_alloc (Below.refl _ _) _)⟩
  rw [hc, ← fr_len]
  simp
theorem Tryz.info_row : (Tryz.prog.info? 64).map (fun i => (i.zero, i.size, i.bytes)) = some (some (.agg #[.int .i64 0, .int .i64 0, .int .i64 0, .int .i64 0, .slice none 0 0]), 5, 56) := by kernel_rfl
section
variable {W : World} {ops : Array Oper} {rest : List Oper} {o : Oper} {a : Act} {Q : Exit → Act → World → Prop}
set_option maxRecDepth 100000 in
/-- append(v, s...), of rows. -/
theorem wpl_rows (hgd : o.guard = none) (s x : Operand) (ho : o.op = .call { callee := .builtin .append, args := #[s, x], argTypes := #[58, 58] })
    (base : Nat) (v : Value) (xs : List (Rw × Value)) (hs : a.eval s = v) (hown : OwnW W base v xs) (u : Value) (ys : List (Rw × Value)) (hx : a.eval x = u) (hu : RdW W u ys) (hl : (xs.length + ys.length) * 56 ≤ 140737488355328) (hbase : base ≤ W.heap.size)
    (h : ∀ v' w', OwnW w' base v' (xs ++ ys) → Below base W w' → wpList Tryz.prog ops Q rest (a.put o.dst v') w') : wpList Tryz.prog ops Q (o :: rest) a W := by
  obtain ⟨i0, hi, hz0, hz1, hz2⟩ := info_parts Tryz.info_row
  obtain ⟨⟨ao, cap, hv, r1, r2, r3⟩, hacc, hsl⟩ := hu
  rcases hsl with e | ⟨ad, n, c, e⟩
  · subst e
    have : ys = [] := by injection hv with _ h2 _; exact List.length_eq_zero_iff.1 h2.symm
    subst this
    refine wpList_append_own_none hgd s x 58 ho base 64 i0 5 Tryz.underlying58 hi v xs.length (fr xs) hs hown.1 hx ?_
    exact h v W (by rw [List.append_nil]; exact hown) (Below.refl _ _)
  · subst e
    injection hv with e1 e2 e3
    subst e1 e2 e3
    refine wpList_append_own W hgd s x 58 ho base 64 i0 (.agg #[.int .i64 0, .int .i64 0, .int .i64 0, .int .i64 0, .slice none 0 0]) 5 56 Tryz.underlying58 hi hz0 hz1 hz2 rfl (by decide) v xs.length (fr xs) hs hown.1 ad ys.length c (fr ys) hx (fr_len ys) (fun j u hj => ?_) (fr_one ys hacc) (by unfold maxLen; omega) (by omega) hbase ?_
    · have hne : ys ≠ [] := by intro e; subst e; simp [fr] at hj
      obtain ⟨b, off, e1, _, k3⟩ := r3 hne
      cases e1
      rw [Addr.add_lit]
      exact k3 j u hj
    intro v' w' h1 h2 _
    have hb : Below base W w' := (Below.refl _ _).grown h2 hbase (fun k hk => (World.ownsRow.lt hown.1 k hk).1)
    have keep : ∀ {zs : List (Rw × Value)}, Acc W zs → Acc w' zs := fun {zs} hz x hx => by
      obtain ⟨hr, hty⟩ := hz x hx
      have hne : ∀ a n c, x.2 = .slice (some a) n c → w'.heap[a.block]? = W.heap[a.block]? := fun a n c e => by
        obtain ⟨cur, r, h3⟩ := hty a n c e
        refine h2.block _ (Array.getElem?_eq_some_iff.1 h3).1 (fun e2 => ?_)
        rcases hown.1.2 with ⟨e3, _⟩ | ⟨g, cp, cur2, e3, _, hg, _⟩
        · rw [e3] at e2; cases e2
        · rw [e3] at e2
          cases e2
          rw [h3] at hg
          injection hg with hg
          injection hg with _ h4
          exact absurd h4 (by decide)
      refine ⟨?_, fun a n c e => ?_⟩
      · obtain ⟨⟨ao, cap, hv, q1, q2, q3⟩, hs⟩ := hr
        refine ⟨⟨ao, cap, hv, q1, q2, fun hn => ?_⟩, hs⟩
        obtain ⟨b, off, e1, hb1, hc1⟩ := q3 hn
        refine ⟨b, off, e1, Nat.lt_of_lt_of_le hb1 h2.size, fun i hi => ?_⟩
        rw [← hc1 i hi]
        unfold World.cell?
        have := hne ⟨b, off, none⟩ _ _ (by rw [hv, e1])
        simp only at this
        simp only [this]
      · obtain ⟨cur, r, h3⟩ := hty a n c e
        exact ⟨cur, r, (hne a n c e).trans h3⟩
    refine h v' w' ⟨?_, (keep hown.2).app (keep hacc)⟩ hb
    rw [List.length_append, fr_app]
    exact h1
end
set_option maxRecDepth 100000 in
set_option maxHeartbeats 1000000 in
theorem growR_any (n : Nat) (h0 : 0 < n) (hn : n * 56 ≤ 140737488355328) (w : World) :
    Calls Tryz.prog 82 #[.slice none 0 0, .int .i64 n] w fun e w' => ∃ v, e = .returned v ∧ OwnW w' w.heap.size v [] ∧ Below w.heap.size w w' := by
  obtain ⟨i0, hi, hz0, hz1, hz2⟩ := info_parts Tryz.info_row
  have hrz : ∀ ty, (Builtin.append_ #[58, 3] ty #[.slice none 0 0, .int .i64 n]).run Tryz.prog w = _ := fun ty => by
    have h := Lib.run_append_grow_zeros w 58 3 ty 64 i0 (.agg #[.int .i64 0, .int .i64 0, .int .i64 0, .int .i64 0, .slice none 0 0]) .i64 .i64 Tryz.underlying58 Tryz.underlying3 hi hz0 none 0 0 [] (run_firstCells_none w.drew i0.size 0 0 0) n h0 (by omega) (by omega) (by omega)
      (by rw [hz2]; omega) (by rw [hz2]; exact growslice_fits (by omega) (by omega))
    exact h
  simp only [Nat.zero_add] at hrz
  have hGn : n ≤ grownCap w n 0 64 := grownCap_ge w _ _ _
  have hG63 : grownCap w n 0 64 ≤ 9223372036854775807 := by
    have := grownCap_le_maxLen w n 0 64 (by unfold maxLen; omega)
    unfold maxLen at this
    omega
  generalize grownCap w n 0 64 = G at *
  go_enter Tryz.func82, Tryz.ntmps82
  go_wp2_with (at_builtin; refine Lib.wpList_append_run _ rfl _ _ _ _ rfl _ _ rfl rfl _ _ (hrz _) ?_)
  all_goals
    go_ret
    refine ⟨_, rfl, ⟨⟨rfl, .inr ⟨w.heap.size, G, _, rfl, Nat.le_refl _, heap_alloc_new w _, Nat.zero_le _, by unfold maxLen; omega, ?_, by simp [fr]⟩⟩, Acc.nil _⟩, ((Below.refl _ _).alloc (Nat.le_refl _) _).drew⟩
    simp [Builtin.zeroCells]
    omega
end Go.Proofs.YtfdceljdhgbkcaaGreatDoor

/- append of rows of bindings, in a region that draws. -/
namespace Go.Proofs.YtfdceljdhgbkcaaGreatDoor
open Go.RowKit Go.Lib
set_option maxRecDepth 100000 in
/-- append(v, s...), of rows: the run. -/
theorem run_append_rows (W : World) (ty : TypeId) (base : Nat) (v : Value) (xs : List (Rw × Value)) (hown : OwnW W base v xs) (u : Value) (ys : List (Rw × Value)) (hu : RdW W u ys) (hl : (xs.length + ys.length) * 56 ≤ 140737488355328) (hbase : base ≤ W.heap.size) :
    ∃ v' w', (Builtin.append_ #[58, 58] ty #[v, u]).run Tryz.prog W = .ok v' w' ∧ OwnW w' base v' (xs ++ ys) ∧ Below base W w' ∧ W.grownBy w' v.ownBlock := by
  obtain ⟨i0, hi, hz0, hz1, hz2⟩ := info_parts Tryz.info_row
  obtain ⟨⟨ao, cap, hv, r1, r2, r3⟩, hacc, hsl⟩ := hu
  rcases hsl with e | ⟨ad, n, c, e⟩
  · subst e
    have : ys = [] := by injection hv with _ h2 _; exact List.length_eq_zero_iff.1 h2.symm
    subst this
    exact ⟨v, W, run_append_owned_none (P := Tryz.prog) (w := W) base 58 ty 64 i0 5 Tryz.underlying58 hi v xs.length (fr xs) hown.1, by rw [List.append_nil]; exact hown, Below.refl _ _, ⟨rfl, rfl, rfl, Nat.le_refl _, fun _ _ _ => rfl⟩⟩
  · subst e
    injection hv with e1 e2 e3
    subst e1 e2 e3
    obtain ⟨v', w', hrun, h1, h2, _⟩ := run_append_own (P := Tryz.prog) W base 58 ty 64 i0 (.agg #[.int .i64 0, .int .i64 0, .int .i64 0, .int .i64 0, .slice none 0 0]) 5 56 Tryz.underlying58 hi hz0 hz1 hz2 rfl (by decide) v xs.length (fr xs) hown.1 ad ys.length c (fr ys) (fr_len ys) (fun j u hj => by
      have hne : ys ≠ [] := by intro e; subst e; simp [fr] at hj
      obtain ⟨b, off, e1, _, k3⟩ := r3 hne
      cases e1
      rw [Addr.add_lit]
      exact k3 j u hj) (fr_one ys hacc) (by unfold maxLen; omega) (by omega) hbase
    refine ⟨v', w', hrun, ?_⟩
    have hb : Below base W w' := (Below.refl _ _).grown h2 hbase (fun k hk => (World.ownsRow.lt hown.1 k hk).1)
    have keep : ∀ {zs : List (Rw × Value)}, Acc W zs → Acc w' zs := fun {zs} hz x hx => by
      obtain ⟨hr, hty⟩ := hz x hx
      have hne : ∀ a n c, x.2 = .slice (some a) n c → w'.heap[a.block]? = W.heap[a.block]? := fun a n c e => by
        obtain ⟨cur, r, h3⟩ := hty a n c e
        refine h2.block _ (Array.getElem?_eq_some_iff.1 h3).1 (fun e2 => ?_)
        rcases hown.1.2 with ⟨e3, _⟩ | ⟨g, cp, cur2, e3, _, hg, _⟩
        · rw [e3] at e2; cases e2
        · rw [e3] at e2
          cases e2
          rw [h3] at hg
          injection hg with hg
          injection hg with _ h4
          exact absurd h4 (by decide)
      refine ⟨?_, fun a n c e => ?_⟩
      · obtain ⟨⟨ao, cap, hv, q1, q2, q3⟩, hs⟩ := hr
        refine ⟨⟨ao, cap, hv, q1, q2, fun hn => ?_⟩, hs⟩
        obtain ⟨b, off, e1, hb1, hc1⟩ := q3 hn
        refine ⟨b, off, e1, Nat.lt_of_lt_of_le hb1 h2.size, fun i hi => ?_⟩
        rw [← hc1 i hi]
        unfold World.cell?
        have := hne ⟨b, off, none⟩ _ _ (by rw [hv, e1])
        simp only at this
        simp only [this]
      · obtain ⟨cur, r, h3⟩ := hty a n c e
        exact ⟨cur, r, (hne a n c e).trans h3⟩
    refine ⟨⟨?_, (keep hown.2).app (keep hacc)⟩, hb, h2⟩
    rw [List.length_append, fr_app]
    exact h1
section
variable {W : World}
/-- append(v, s...), of rows, in a region that draws. -/
theorem wp_append_rows {op : Oper} {a : Act} {K : Act → World → Prop} {Q : Exit → Act → World → Prop} (s x : Operand) (ho : op.op = .call { callee := .builtin .append, args := #[s, x], argTypes := #[58, 58] })
    (base : Nat) (v : Value) (xs : List (Rw × Value)) (hs : a.eval s = v) (hown : OwnW W base v xs) (u : Value) (ys : List (Rw × Value)) (hx : a.eval x = u) (hu : RdW W u ys) (hl : (xs.length + ys.length) * 56 ≤ 140737488355328) (hbase : base ≤ W.heap.size)
    (h : ∀ v' w', OwnW w' base v' (xs ++ ys) → Below base W w' → K (a.put op.dst v') w') : op.wp Tryz.prog a W K Q := by
  obtain ⟨v', w', hrun, h1, h2, _⟩ := run_append_rows W op.type base v xs hown u ys hu hl hbase
  unfold Oper.wp execOp
  simp only [ho, resolve, invoke, builtin, Sem.run_bind, Sem.run_pure, Result.andThen_ok, List.map_toArray, List.map_cons, List.map_nil, hs, hx, hrun]
  exact h v' w' h1 h2
variable {ops : Array Oper} {rest : List Oper} {o : Oper} {a : Act} {Q : Exit → Act → World → Prop}
/-- append(v, s...), of rows: what else has turned. -/
theorem wpl_rowsG (hgd : o.guard = none) (s x : Operand) (ho : o.op = .call { callee := .builtin .append, args := #[s, x], argTypes := #[58, 58] })
    (base : Nat) (v : Value) (xs : List (Rw × Value)) (hs : a.eval s = v) (hown : OwnW W base v xs) (u : Value) (ys : List (Rw × Value)) (hx : a.eval x = u) (hu : RdW W u ys) (hl : (xs.length + ys.length) * 56 ≤ 140737488355328) (hbase : base ≤ W.heap.size)
    (h : ∀ v' w', OwnW w' base v' (xs ++ ys) → Below base W w' → (∀ (k : Nat) cur, W.heap[k]? = some (.cells cur 3 (0, 0)) → w'.heap[k]? = some (.cells cur 3 (0, 0))) → wpList Tryz.prog ops Q rest (a.put o.dst v') w') : wpList Tryz.prog ops Q (o :: rest) a W :=
  wpList_plain hgd fun _ hK => by
    obtain ⟨v', w', hrun, h1, h2, h3⟩ := run_append_rows W o.type base v xs hown u ys hu hl hbase
    unfold Oper.wp execOp
    simp only [ho, resolve, invoke, builtin, Sem.run_bind, Sem.run_pure, Result.andThen_ok, List.map_toArray, List.map_cons, List.map_nil, hs, hx, hrun]
    refine hK _ _ (h v' w' h1 h2 (fun k cur hk => (h3.block k (Array.getElem?_eq_some_iff.1 hk).1 (fun e => ?_)).trans hk))
    rcases hown.1.2 with ⟨e3, _⟩ | ⟨g, cp, cur2, e3, _, hg, _⟩
    · rw [e3] at e; cases e
    · rw [e3] at e
      cases e
      rw [hk] at hg
      injection hg with hg
      injection hg with _ h4
      exact absurd h4 (by decide)
end
end Go.Proofs.YtfdceljdhgbkcaaGreatDoor

/- slices.Concat of rows of bindings. -/
namespace Go.Proofs.YtfdceljdhgbkcaaGreatDoor
open Go.RowKit Go.Lib
/-- The slices of a row, as they are read. -/
def RowW (w : World) (B : Nat) (xs : List (Value × List (Rw × Value))) : Prop := B < w.heap.size ∧ ∀ i p, xs[i]? = some p → w.cell? ⟨B, i, none⟩ = some p.1 ∧ RdW w p.1 p.2
theorem RowW.ext {w w' : World} {B : Nat} {xs : List (Value × List (Rw × Value))} (h : RowW w B xs) (hb : Below w.heap.size w w') : RowW w' B xs :=
  ⟨Nat.lt_of_lt_of_le h.1 hb.size, fun i p hp => ⟨(hb.cell (p := ⟨B, i, none⟩) h.1).trans (h.2 i p hp).1, (h.2 i p hp).2.ext hb⟩⟩
def catW (xs : List (Value × List (Rw × Value))) : List (Rw × Value) := (xs.map Prod.snd).flatten
theorem catW_succ (xs : List (Value × List (Rw × Value))) (k : Nat) (p : Value × List (Rw × Value)) (h : xs[k]? = some p) : catW (xs.take (k + 1)) = catW (xs.take k) ++ p.2 := by
  obtain ⟨hk, rfl⟩ := List.getElem?_eq_some_iff.1 h
  unfold catW
  rw [List.take_succ_eq_append_getElem hk, List.map_append, List.flatten_append]
  simp
theorem catW_le (xs : List (Value × List (Rw × Value))) (k : Nat) : (catW (xs.take k)).length ≤ (catW xs).length := by
  have : catW xs = catW (xs.take k) ++ catW (xs.drop k) := by unfold catW; rw [← List.flatten_append, ← List.map_append, List.take_append_drop]
  rw [this, List.length_append]
  omega

set_option maxRecDepth 100000 in
set_option maxHeartbeats 2000000 in
theorem concatR_any (B : Nat) (xs : List (Value × List (Rw × Value))) (w : World) (h : RowW w B xs) (hx : xs.length ≤ 100) (h0 : 0 < (catW xs).length) (hl : (catW xs).length * 56 ≤ 140737488355328) :
    Calls Tryz.prog 67 #[.slice (some ⟨B, 0, none⟩) xs.length xs.length] w fun e w' => ∃ v, e = .returned v ∧ OwnW w' w.heap.size v (catW xs) ∧ Below w.heap.size w w' := by
  have H := hidIt h
  have hB := h.1
  clear h
  go_enter Tryz.func67, Tryz.ntmps67
  go_wp2_with fail
  go_loopw [3, 11] (fun s i wr => ∃ k : Nat, k ≤ xs.length ∧ i = .int .i64 k ∧ s = .int .i64 (catW (xs.take k)).length ∧ w = wr) (fun _ i _ => xs.length - (RowKit.intOf i).toNat)
  case atStart => exact ⟨0, Nat.zero_le _, rfl, rfl, rfl⟩
  case round =>
    obtain ⟨k, hk, rfl, rfl, rfl⟩ := hrel
    by_cases hlt : k < xs.length
    · obtain ⟨p, hp⟩ : ∃ p, xs[k]? = some p := ⟨_, List.getElem?_eq_getElem hlt⟩
      obtain ⟨c1, r1⟩ := H.out.2 k p hp
      obtain ⟨⟨ao, c, e1, e2a, e2b, _⟩, _⟩ := id r1
      rw [e1] at c1
      have hs := catW_succ xs k p hp
      have hle := catW_le xs (k + 1)
      rw [hs, List.length_append] at hle
      have HS := hidIt (show (catW (List.take (k + 1) xs)).length = (catW (List.take k xs)).length + p.2.length by rw [hs, List.length_append])
      generalize (catW (List.take k xs)).length = z at *
      generalize p.2.length = q at *
      generalize (catW xs).length = z2 at *
      have hi1 : (k : Int) < (xs.length : Int) := by omega
      have hw1 : IntKind.i64.wrap ((z : Int) + q) = (z : Int) + q := by rw [IntKind.wrap_i64]; omega
      have hn : ¬ ((z : Int) + q < 0) := by omega
      clear r1 e1 hs
      go_wp2_with fail
      go_roundw
      case rel => exact ⟨k + 1, by omega, by go_num, by rw [HS.out]; simp, trivial⟩
      case measure => simp [RowKit.intOf]; omega
    · have hkl : k = xs.length := by omega
      subst hkl
      clear hlt
      rw [List.take_length]
      go_wp2_with (go_at_call 82; refine (growR_any _ h0 hl _).mono ?_; rintro e w1 ⟨v1, rfl, own1, hb1⟩; have O1 := hidIt own1; have B1 := hidIt hb1; clear own1 hb1; (try dsimp only))
      go_loopw [6, 27] (fun s i wr => ∃ k : Nat, k ≤ xs.length ∧ i = .int .i64 k ∧ OwnW wr w.heap.size s (catW (xs.take k)) ∧ Below w.heap.size w wr) (fun _ i _ => xs.length - (RowKit.intOf i).toNat)
      case atStart => exact ⟨0, Nat.zero_le _, rfl, O1.out, B1.out⟩
      case round =>
        obtain ⟨k, hk, rfl, hown, hbw⟩ := hrel
        by_cases hlt : k < xs.length
        · obtain ⟨p, hp⟩ : ∃ p, xs[k]? = some p := ⟨_, List.getElem?_eq_getElem hlt⟩
          obtain ⟨c1, r1⟩ := (H.out.ext hbw).2 k p hp
          have hs := catW_succ xs k p hp
          have hle := catW_le xs (k + 1)
          rw [hs, List.length_append] at hle
          have HS := hidIt hs
          have HR := hidIt r1
          have HO := hidIt hown
          have HW := hidIt hbw
          have hi1 : (k : Int) < (xs.length : Int) := by omega
          have hsz := hbw.size
          clear hs r1 hown hbw
          go_wp2_with (at_builtin; refine wpl_rows rfl _ _ rfl w.heap.size _ _ rfl HO.out _ _ rfl HR.out (by omega) hsz ?_; intro v2 w2 own2 hb2; have O2 := hidIt own2; have B2 := hidIt hb2; clear own2 hb2)
          go_roundw
          case rel => exact ⟨k + 1, by omega, by go_num, by rw [HS.out]; exact O2.out, HW.out.trans (B2.out.mono (Nat.le_refl _))⟩
          case measure => simp [RowKit.intOf]; omega
        · have hkl : k = xs.length := by omega
          subst hkl
          clear hlt
          rw [List.take_length] at hown
          have HO := hidIt hown
          have HW := hidIt hbw
          clear hown hbw
          go_wp2_with fail
          go_ret
          exact ⟨_, rfl, HO.out, HW.out⟩

end Go.Proofs.YtfdceljdhgbkcaaGreatDoor
