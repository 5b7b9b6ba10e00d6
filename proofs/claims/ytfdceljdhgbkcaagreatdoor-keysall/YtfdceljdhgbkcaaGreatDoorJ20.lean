import Derived.Test.YtfdceljdhgbkcaaGreatDoorJ19
import Derived.Test.YtfdceljdhgbkcaaGreatDoorJ06
import Derived.Test.YtfdceljdhgbkcaaGreatDoorJ05
import Derived.Test.YtfdceljdhgbkcaaGreatDoorJ02
import Derived.Test.YtfdceljdhgbkcaaGreatDoorJ10
import Derived.Test.YtfdceljdhgbkcaaGreatDoorJ00
/- append of one int, which names its block; a row of ints that stays. -/
namespace Go.Proofs.YtfdceljdhgbkcaaGreatDoor
open Go.RowKit
section
variable {P : Program} (W : World)
theorem wp_int1 {op : Oper} {a : Act} {K : Act → World → Prop} {Q : Exit → Act → World → Prop} (s x : Operand) (t : TypeId) (ho : op.op = .call { callee := .builtin .append, args := #[s, x], argTypes := #[t, t] })
    (hinf : (P.info? 3).map (fun i => (i.zero, i.size, i.bytes)) = some (some (.int .i64 0), 1, 8)) (ht : P.underlying t = some (.slice 3))
    (v : Value) (zs : List Int) (hs : a.eval s = v) (hown : OwnI W 0 v zs) (y : Int) (ad : Addr) (c : Nat) (hx : a.eval x = .slice (some ad) 1 c) (hy : W.cell? ad = some (.int .i64 y)) (had : ad.add 0 = ad) (hl : zs.length < 17592186044416)
    (h : ∀ v' w', OwnI w' 0 v' (zs ++ [y]) → W.grownBy w' v.ownBlock → (v'.ownBlock = v.ownBlock ∨ v'.ownBlock = some W.heap.size) → K (a.put op.dst v') w') : op.wp P a W K Q := by
  obtain ⟨i0, hi, hz0, hz1, hz2⟩ := info_parts hinf
  obtain ⟨v', w', hr, h2, h3, h4⟩ := run_append_blk (P := P) W 0 t op.type 3 i0 (.int .i64 0) 1 8 ht hi hz0 hz1 hz2 rfl (by decide) v zs.length (zs.map (Value.int .i64)) hown ad 1 c [.int .i64 y] rfl (fun j u hj => by
    rcases j with _ | j
    · cases hj; rw [had]; exact hy
    · simp at hj) (fun u hu => by rw [List.mem_singleton.1 hu]; rfl) (by unfold maxLen; omega) (by omega) (Nat.zero_le _) (by decide)
  unfold Oper.wp execOp
  simp only [ho, resolve, invoke, builtin, Sem.run_bind, Sem.run_pure, Result.andThen_ok, List.map_toArray, List.map_cons, List.map_nil, hs, hx, hr]
  refine h v' w' ?_ h3 h4
  unfold OwnI
  rw [List.length_append, List.map_append]
  exact h2
theorem wpl_int1 {ops : Array Oper} {rest : List Oper} {o : Oper} {a : Act} {Q : Exit → Act → World → Prop} (hgd : o.guard = none) (s x : Operand) (t : TypeId) (ho : o.op = .call { callee := .builtin .append, args := #[s, x], argTypes := #[t, t] })
    (hinf : (P.info? 3).map (fun i => (i.zero, i.size, i.bytes)) = some (some (.int .i64 0), 1, 8)) (ht : P.underlying t = some (.slice 3))
    (v : Value) (zs : List Int) (hs : a.eval s = v) (hown : OwnI W 0 v zs) (y : Int) (ad : Addr) (c : Nat) (hx : a.eval x = .slice (some ad) 1 c) (hy : W.cell? ad = some (.int .i64 y)) (had : ad.add 0 = ad) (hl : zs.length < 17592186044416)
    (h : ∀ v' w', OwnI w' 0 v' (zs ++ [y]) → W.grownBy w' v.ownBlock → (v'.ownBlock = v.ownBlock ∨ v'.ownBlock = some W.heap.size) → wpList P ops Q rest (a.put o.dst v') w') : wpList P ops Q (o :: rest) a W :=
  wpList_plain hgd fun _ hK => wp_int1 W s x t ho hinf ht v zs hs hown y ad c hx hy had hl (fun v' w' h1 h2 h3 => hK _ _ (h v' w' h1 h2 h3))
end
theorem own_lit1 (w : World) (x : Int) (base : Nat) (hb : base ≤ w.heap.size) : OwnI (w.alloc (.cells #[.int .i64 x] 3)) base (.slice (some ⟨w.heap.size, 0, none⟩) 1 1) [x] :=
  ⟨rfl, .inr ⟨w.heap.size, 1, #[.int .i64 x], rfl, hb, heap_alloc_new _ _, Nat.le_refl _, by decide, rfl, rfl⟩⟩
theorem own_lit2 (w : World) (x y : Int) (base : Nat) (hb : base ≤ w.heap.size) : OwnI (w.alloc (.cells #[.int .i64 x, .int .i64 y] 3)) base (.slice (some ⟨w.heap.size, 0, none⟩) 2 2) [x, y] :=
  ⟨rfl, .inr ⟨w.heap.size, 2, #[.int .i64 x, .int .i64 y], rfl, hb, heap_alloc_new _ _, Nat.le_refl _, by decide, rfl, rfl⟩⟩
theorem lit_cell (w : World) (x : Value) (T : TypeId) : (w.alloc (.cells #[x] T)).cell? ⟨w.heap.size, 0, none⟩ = some x := by
  rw [cell_of_row _ _ 0 _ _ _ (heap_alloc_new _ _)]
  rfl
theorem rd_at {w : World} {ao : Option Addr} {c : Nat} {zs : List Int} (h : RdS w (.slice ao zs.length c) zs) {k : Nat} (hk : k < zs.length) : ∃ b o, ao = some ⟨b, o, none⟩ ∧ w.cell? ⟨b, o + k, none⟩ = some (.int .i64 (zs[k]?.getD 0)) := by
  obtain ⟨⟨ao', cap', e, g1, g2, g3⟩, _⟩ := h
  obtain ⟨b', off', e4, h1, h2⟩ := g3 (by intro e; rw [e] at hk; simp at hk)
  injection e with e1 e2 e3
  exact ⟨b', off', e1.trans e4, h2 k hk⟩
/-- The block that a row of ints lies in. -/
theorem OwnI.blk {w : World} {base : Nat} {v : Value} {zs : List Int} (h : OwnI w base v zs) {g : Nat} (hg : v.ownBlock = some g) : base ≤ g ∧ ∃ cur, w.heap[g]? = some (.cells cur 3 (0, 0)) := by
  rcases h.2 with ⟨rfl, _⟩ | ⟨g', cap, cur, rfl, hb, hg', _⟩
  · cases hg
  · have e : g' = g := by simpa [Value.ownBlock] using hg
    subst e
    exact ⟨hb, cur, hg'⟩
theorem own_ne {y : World} {b : Nat} {v : Value} {zs : List Int} {cs : Array Value} {T : TypeId} {r : Nat × Nat} (h : OwnI y 0 v zs) (hb : y.heap[b]? = some (.cells cs T r)) (hT : T ≠ 3) : v.ownBlock ≠ some b := by
  intro e
  obtain ⟨_, cur, hc⟩ := h.blk e
  rw [hc] at hb
  cases hb
  exact hT rfl
theorem OwnI.stay {w w' : World} {base : Nat} {v : Value} {zs : List Int} (h : OwnI w base v zs) (hs : ∀ g, v.ownBlock = some g → w'.heap[g]? = w.heap[g]?) : OwnI w' base v zs := by
  obtain ⟨h1, h2⟩ := h
  refine ⟨h1, ?_⟩
  rcases h2 with h2 | ⟨g, cap, cur, rfl, hb, hg, r⟩
  · exact .inl h2
  · exact .inr ⟨g, cap, cur, rfl, hb, (hs g rfl).trans hg, r⟩
theorem OwnI.lift {w : World} {base : Nat} {v : Value} {zs : List Int} (h : OwnI w 0 v zs) (hb : ∀ g, v.ownBlock = some g → base ≤ g) : OwnI w base v zs := by
  obtain ⟨h1, h2⟩ := h
  refine ⟨h1, ?_⟩
  rcases h2 with h2 | ⟨g, cap, cur, rfl, _, hg, r⟩
  · exact .inl h2
  · exact .inr ⟨g, cap, cur, rfl, hb g rfl, hg, r⟩
end Go.Proofs.YtfdceljdhgbkcaaGreatDoor

/- Rows of the document's tables in memory. -/
namespace Go.Proofs.YtfdceljdhgbkcaaGreatDoor
open Go.RowKit Go.Lib
/-- A row's cells: x.2 is the slice that reads as its keys. -/
def dcs (x : DRw × Value) : List Value := [x.2, .int .i64 x.1.v, .int .i64 x.1.m, .int .i64 x.1.a, .bool x.1.asks]
def fd (xs : List (DRw × Value)) : List Value := xs.flatMap dcs
theorem fd_cons (x : DRw × Value) (xs : List (DRw × Value)) : fd (x :: xs) = dcs x ++ fd xs := rfl
theorem fd_app (xs ys : List (DRw × Value)) : fd (xs ++ ys) = fd xs ++ fd ys := by simp [fd]
theorem fd_len (xs : List (DRw × Value)) : (fd xs).length = xs.length * 5 := by
  induction xs with
  | nil => rfl
  | cons x xs ih => rw [fd_cons, List.length_append, ih, List.length_cons]; show 5 + _ = _; omega
theorem fd_at (xs : List (DRw × Value)) : ∀ i x, xs[i]? = some x → ∀ r, r < 5 → (fd xs)[i * 5 + r]? = (dcs x)[r]? := by
  induction xs with
  | nil => intro i x h; simp at h
  | cons y xs ih =>
    intro i x h r hr
    rw [fd_cons]
    cases i with
    | zero => rw [List.getElem?_append_left (by show 0 * 5 + r < 5; omega)]; simp at h; subst h; simp
    | succ i =>
      rw [List.getElem?_append_right (by show 5 ≤ _; omega), show (i + 1) * 5 + r - (dcs y).length = i * 5 + r by show _ - 5 = _; omega]
      exact ih i x (by simpa using h) r hr
/-- The keys of all rows are read. -/
def AccD (w : World) (xs : List (DRw × Value)) : Prop := ∀ x ∈ xs, KI w x.2 x.1.ks
theorem AccD.ext {w w' : World} {xs : List (DRw × Value)} (h : AccD w xs) (hb : Below w.heap.size w w') : AccD w' xs := fun x hx => (h x hx).ext hb
theorem AccD.nil (w : World) : AccD w [] := fun x hx => by cases hx
theorem AccD.app {w : World} {xs ys : List (DRw × Value)} (h : AccD w xs) (k : AccD w ys) : AccD w (xs ++ ys) := fun x hx => by
  rcases List.mem_append.1 hx with hx | hx
  · exact h x hx
  · exact k x hx
theorem fd_one {w : World} (xs : List (DRw × Value)) (h : AccD w xs) : ∀ u ∈ fd xs, u.oneCell' = true := by
  intro u hu
  simp only [fd, List.mem_flatMap, dcs, List.mem_cons, List.not_mem_nil, or_false] at hu
  obtain ⟨x, hx, rfl | rfl | rfl | rfl | rfl⟩ := hu
  · rcases (h x hx).1.2 with e | ⟨a, n, c, e⟩ <;> rw [e] <;> rfl
  · rfl
  · rfl
  · rfl
  · rfl
/-- Rows of the call's own. -/
def OwnD (w : World) (base : Nat) (v : Value) (xs : List (DRw × Value)) : Prop := w.ownsRow base 71 5 v xs.length (fd xs) ∧ AccD w xs
/-- Rows that are read. -/
def RdD (w : World) (v : Value) (xs : List (DRw × Value)) : Prop :=
  (∃ ao cap, v = .slice ao xs.length cap ∧ xs.length ≤ cap ∧ cap ≤ 9223372036854775807 ∧ (xs ≠ [] → ∃ b off, ao = some ⟨b, off, none⟩ ∧ b < w.heap.size ∧ ∀ j u, (fd xs)[j]? = some u → w.cell? ⟨b, off + j, none⟩ = some u)) ∧ AccD w xs ∧ Sl v
theorem RdD.ext {w w' : World} {v : Value} {xs : List (DRw × Value)} (h : RdD w v xs) (hb : Below w.heap.size w w') : RdD w' v xs := by
  obtain ⟨⟨ao, cap, h1, h2, h3, h4⟩, h5, h6⟩ := h
  refine ⟨⟨ao, cap, h1, h2, h3, fun hn => ?_⟩, h5.ext hb, h6⟩
  obtain ⟨b, off, k1, k2, k3⟩ := h4 hn
  exact ⟨b, off, k1, Nat.lt_of_lt_of_le k2 hb.size, fun j u hj => (hb.cell (p := ⟨b, off + j, none⟩) k2).trans (k3 j u hj)⟩
theorem OwnD.rd {w : World} {base : Nat} {v : Value} {xs : List (DRw × Value)} (h : OwnD w base v xs) : RdD w v xs := by
  obtain ⟨⟨h1, h2⟩, h3⟩ := h
  rcases h2 with ⟨rfl, hn⟩ | ⟨g, cap, cur, rfl, hb, hg, hn, hc, hs, ht⟩
  · rw [List.length_eq_zero_iff] at hn
    subst hn
    exact ⟨⟨none, 0, rfl, Nat.le_refl _, by omega, fun h => absurd rfl h⟩, h3, .inl rfl⟩
  · refine ⟨⟨_, cap, rfl, hn, by unfold maxLen at hc; exact hc, fun _ => ⟨g, 0, rfl, (Array.getElem?_eq_some_iff.1 hg).1, fun j u hj => ?_⟩⟩, h3, .inr ⟨_, _, _, rfl⟩⟩
    rw [cell_of_row _ _ _ _ _ _ hg, Nat.zero_add]
    rw [← ht, List.getElem?_take] at hj
    split at hj
    · simpa using hj
    · cases hj
theorem OwnD.ext {w w' : World} {base : Nat} {v : Value} {xs : List (DRw × Value)} (h : OwnD w base v xs) (hb : Below w.heap.size w w') : OwnD w' base v xs := ⟨own_ext h.1 hb, h.2.ext hb⟩
theorem OwnD.nil (w : World) (base : Nat) : OwnD w base (.slice none 0 0) [] := ⟨⟨rfl, .inl ⟨rfl, rfl⟩⟩, AccD.nil w⟩
theorem OwnD.le {w : World} {base base' : Nat} {v : Value} {xs : List (DRw × Value)} (h : OwnD w base v xs) (hb : base' ≤ base) : OwnD w base' v xs := by
  obtain ⟨⟨h1, h2⟩, h3⟩ := h
  refine ⟨⟨h1, ?_⟩, h3⟩
  rcases h2 with h2 | ⟨g, cap, cur, hv, hg, r⟩
  · exact .inl h2
  · exact .inr ⟨g, cap, cur, hv, Nat.le_trans hb hg, r⟩
theorem OwnD.form {w : World} {base : Nat} {v : Value} {xs : List (DRw × Value)} (h : OwnD w base v xs) : ∃ ao n c, v = .slice ao n c := by
  obtain ⟨⟨ao, cap, h1, _⟩, _⟩ := h.rd
  exact ⟨_, _, _, h1⟩
/-- A list of rows that is written out. -/
theorem OwnD.lit {w : World} {xs : List (DRw × Value)} (cs : Array Value) (hc : cs = (fd xs).toArray) (h : AccD w xs) (hx : xs.length ≤ 1000) : OwnD (w.alloc (.cells cs 71)) w.heap.size (.slice (some ⟨w.heap.size, 0, none⟩) xs.length xs.length) xs := by
  refine ⟨⟨fd_len xs, .inr ⟨w.heap.size, xs.length, cs, rfl, Nat.le_refl _, heap_alloc_new _ _, Nat.le_refl _, by unfold maxLen; omega, by rw [hc]; simp [fd_len], ?_⟩⟩, h.ext (ext_alloc (Below.refl _ _) _)⟩
  rw [hc, ← fd_len]
  simp
theorem Tryz.info_drow : (Tryz.prog.info? 71).map (fun i => (i.zero, i.size, i.bytes)) = some (some (.agg #[.slice none 0 0, .int .i64 0, .int .i64 0, .int .i64 0, .bool false]), 5, 56) := by kernel_rfl
set_option maxRecDepth 100000 in
/-- append(v, s...), of rows: the run. -/
theorem run_append_drows (W : World) (ty : TypeId) (base : Nat) (v : Value) (xs : List (DRw × Value)) (hown : OwnD W base v xs) (u : Value) (ys : List (DRw × Value)) (hu : RdD W u ys) (hl : (xs.length + ys.length) * 56 ≤ 140737488355328) (hbase : base ≤ W.heap.size) (hy0 : 0 < ys.length) :
    ∃ v' w', (Builtin.append_ #[66, 66] ty #[v, u]).run Tryz.prog W = .ok v' w' ∧ OwnD w' base v' (xs ++ ys) ∧ Below base W w' ∧ W.grownBy w' v.ownBlock ∧ (v'.ownBlock = v.ownBlock ∨ v'.ownBlock = some W.heap.size) := by
  obtain ⟨i0, hi, hz0, hz1, hz2⟩ := info_parts Tryz.info_drow
  obtain ⟨⟨ao, cap, hv, r1, r2, r3⟩, hacc, hsl⟩ := hu
  rcases hsl with e | ⟨ad, n, c, e⟩
  · subst e
    have : ys = [] := by injection hv with _ h2 _; exact List.length_eq_zero_iff.1 h2.symm
    subst this
    exact ⟨v, W, run_append_owned_none (P := Tryz.prog) (w := W) base 66 ty 71 i0 5 Tryz.underlying66 hi v xs.length (fd xs) hown.1, by rw [List.append_nil]; exact hown, Below.refl _ _, ⟨rfl, rfl, rfl, Nat.le_refl _, fun _ _ _ => rfl⟩, .inl rfl⟩
  · subst e
    injection hv with e1 e2 e3
    subst e1 e2 e3
    obtain ⟨v', w', hrun, h1, h2, h4⟩ := run_append_blk (P := Tryz.prog) W base 66 ty 71 i0 (.agg #[.slice none 0 0, .int .i64 0, .int .i64 0, .int .i64 0, .bool false]) 5 56 Tryz.underlying66 hi hz0 hz1 hz2 rfl (by decide) v xs.length (fd xs) hown.1 ad ys.length c (fd ys) (fd_len ys) (fun j u hj => by
      have hne : ys ≠ [] := by intro e; subst e; simp [fd] at hj
      obtain ⟨b, off, e1, _, k3⟩ := r3 hne
      cases e1
      rw [Addr.add_lit]
      exact k3 j u hj) (fd_one ys hacc) (by unfold maxLen; omega) (by omega) hbase hy0
    refine ⟨v', w', hrun, ?_⟩
    have hb : Below base W w' := (Below.refl _ _).grown h2 hbase (fun k hk => (World.ownsRow.lt hown.1 k hk).1)
    have keep : ∀ {zs : List (DRw × Value)}, AccD W zs → AccD w' zs := fun {zs} hz x hx => by
      obtain ⟨hr, hty⟩ := hz x hx
      have hne : ∀ a n c, x.2 = .slice (some a) n c → w'.heap[a.block]? = W.heap[a.block]? := fun a n c e => by
        obtain ⟨cur, r, h3⟩ := hty a n c e
        refine h2.block _ (Array.getElem?_eq_some_iff.1 h3).1 (fun e2 => ?_)
        rcases hown.1.2 with ⟨e3, _⟩ | ⟨g, cp, cur2, e3, _, hg, _⟩
        · rw [e3] at e2; cases e2
        · rw [e3] at e2
          cases e2
          rw [h3] at hg
          injection hg with hg
          injection hg with _ h4
          exact absurd h4 (by decide)
      refine ⟨?_, fun a n c e => ?_⟩
      · obtain ⟨⟨ao, cap, hv, q1, q2, q3⟩, hs⟩ := hr
        refine ⟨⟨ao, cap, hv, q1, q2, fun hn => ?_⟩, hs⟩
        obtain ⟨b, off, e1, hb1, hc1⟩ := q3 hn
        refine ⟨b, off, e1, Nat.lt_of_lt_of_le hb1 h2.size, fun i hi => ?_⟩
        rw [← hc1 i hi]
        unfold World.cell?
        have := hne ⟨b, off, none⟩ _ _ (by rw [hv, e1])
        simp only at this
        simp only [this]
      · obtain ⟨cur, r, h3⟩ := hty a n c e
        exact ⟨cur, r, (hne a n c e).trans h3⟩
    refine ⟨⟨?_, (keep hown.2).app (keep hacc)⟩, hb, h2, h4⟩
    rw [List.length_append, fd_app]
    exact h1
theorem OwnD.blk {w : World} {base : Nat} {v : Value} {xs : List (DRw × Value)} (h : OwnD w base v xs) {k : Nat} (hk : v.ownBlock = some k) : base ≤ k ∧ k < w.heap.size := World.ownsRow.lt h.1 k hk
/-- A row of rows, one of them. -/
theorem OwnD.at {w : World} {base : Nat} {ao : Option Addr} {n cap : Nat} {xs : List (DRw × Value)} (h : OwnD w base (.slice ao n cap) xs) {p : Nat} (hp : p < xs.length) :
    n = xs.length ∧ n ≤ cap ∧ ∃ g, ao = some ⟨g, 0, none⟩ ∧ ∃ x, xs[p]? = some x ∧ KI w x.2 x.1.ks ∧ w.cell? ⟨g, p * 5, none⟩ = some x.2 ∧ w.cell? ⟨g, p * 5 + 1, none⟩ = some (.int .i64 x.1.v) ∧ w.cell? ⟨g, p * 5 + 2, none⟩ = some (.int .i64 x.1.m) ∧ w.cell? ⟨g, p * 5 + 3, none⟩ = some (.int .i64 x.1.a) ∧ w.cell? ⟨g, p * 5 + 4, none⟩ = some (.bool x.1.asks) := by
  obtain ⟨⟨ao', cap', e, r1, r2, r3⟩, hacc, _⟩ := h.rd
  injection e with e1 e2 e3
  have hne : xs ≠ [] := by intro e; subst e; simp at hp
  obtain ⟨b, off, e4, hb, hc⟩ := r3 hne
  have h0 : off = 0 := by
    rcases h.1.2 with ⟨e5, _⟩ | ⟨g, cp, cur, e5, _⟩
    · injection e5 with e6 _ _
      rw [← e1, e6] at e4
      cases e4
    · injection e5 with e6 _ _
      rw [← e1, e6] at e4
      cases e4
      rfl
  subst h0
  have hat := fd_at xs p xs[p] (List.getElem?_eq_getElem hp)
  have hcc : ∀ r u, r < 5 → (dcs xs[p])[r]? = some u → w.cell? ⟨b, p * 5 + r, none⟩ = some u := fun r u hr hu => by
    have := hc (p * 5 + r) u ((hat r hr).trans hu)
    rwa [Nat.zero_add] at this
  exact ⟨e2, by omega, b, e1.trans e4, xs[p], List.getElem?_eq_getElem hp, hacc _ (List.getElem_mem hp), hcc 0 _ (by omega) rfl, hcc 1 _ (by omega) rfl, hcc 2 _ (by omega) rfl, hcc 3 _ (by omega) rfl, hcc 4 _ (by omega) rfl⟩
/-- append(v, s...), of rows, in a region that draws: which block has turned. -/
theorem wp_append_drowsB {W : World} {op : Oper} {a : Act} {K : Act → World → Prop} {Q : Exit → Act → World → Prop} (s x : Operand) (ho : op.op = .call { callee := .builtin .append, args := #[s, x], argTypes := #[66, 66] })
    (base : Nat) (v : Value) (xs : List (DRw × Value)) (hs : a.eval s = v) (hown : OwnD W base v xs) (u : Value) (ys : List (DRw × Value)) (hx : a.eval x = u) (hu : RdD W u ys) (hl : (xs.length + ys.length) * 56 ≤ 140737488355328) (hbase : base ≤ W.heap.size) (hy0 : 0 < ys.length)
    (h : ∀ v' w', OwnD w' base v' (xs ++ ys) → Below base W w' → W.grownBy w' v.ownBlock → (v'.ownBlock = v.ownBlock ∨ v'.ownBlock = some W.heap.size) → K (a.put op.dst v') w') : op.wp Tryz.prog a W K Q := by
  obtain ⟨v', w', hrun, h1, h2, h3, h4⟩ := run_append_drows W op.type base v xs hown u ys hu hl hbase hy0
  unfold Oper.wp execOp
  simp only [ho, resolve, invoke, builtin, Sem.run_bind, Sem.run_pure, Result.andThen_ok, List.map_toArray, List.map_cons, List.map_nil, hs, hx, hrun]
  exact h v' w' h1 h2 h3 h4
/-- append(v, s...), of rows: which block has turned. -/
theorem wpl_drows {W : World} {ops : Array Oper} {rest : List Oper} {o : Oper} {a : Act} {Q : Exit → Act → World → Prop} (hgd : o.guard = none) (s x : Operand) (ho : o.op = .call { callee := .builtin .append, args := #[s, x], argTypes := #[66, 66] })
    (base : Nat) (v : Value) (xs : List (DRw × Value)) (hs : a.eval s = v) (hown : OwnD W base v xs) (u : Value) (ys : List (DRw × Value)) (hx : a.eval x = u) (hu : RdD W u ys) (hl : (xs.length + ys.length) * 56 ≤ 140737488355328) (hbase : base ≤ W.heap.size) (hy0 : 0 < ys.length)
    (h : ∀ v' w', OwnD w' base v' (xs ++ ys) → Below base W w' → W.grownBy w' v.ownBlock → (v'.ownBlock = v.ownBlock ∨ v'.ownBlock = some W.heap.size) → wpList Tryz.prog ops Q rest (a.put o.dst v') w') : wpList Tryz.prog ops Q (o :: rest) a W :=
  wpList_plain hgd fun _ hK => wp_append_drowsB s x ho base v xs hs hown u ys hx hu hl hbase hy0 (fun v' w' h1 h2 h3 h4 => hK _ _ (h v' w' h1 h2 h3 h4))
/-- One row more. -/
theorem drow_lit {w : World} (r : DRw) (v : Value) (h : KI w v r.ks) : RdD (w.alloc (.cells #[v, .int .i64 r.v, .int .i64 r.m, .int .i64 r.a, .bool r.asks] 71)) (.slice (some ⟨w.heap.size, 0, none⟩) 1 1) [(r, v)] :=
  (OwnD.lit (xs := [(r, v)]) #[v, .int .i64 r.v, .int .i64 r.m, .int .i64 r.a, .bool r.asks] rfl (fun q hq => by rw [List.mem_singleton.1 hq]; exact h) (by simp)).rd
/-- A text's keys. -/
def bys (t : ByteArray) : List Int := t.data.toList.map fun b => ((b.toNat : Nat) : Int)
theorem bys_len (t : ByteArray) : (bys t).length = t.size := by unfold bys; rw [List.length_map, Array.length_toList]; rfl
theorem bys_at (t : ByteArray) {j : Nat} (h : j < t.size) : (bys t).take (j + 1) = (bys t).take j ++ [(((t[j]'h).toNat : Nat) : Int)] := by
  have hl : j < (bys t).length := by rw [bys_len]; exact h
  have e : (bys t)[j]? = some (((t[j]'h).toNat : Nat) : Int) := by
    unfold bys
    rw [List.getElem?_map, List.getElem?_eq_getElem (by rw [Array.length_toList]; exact h), Array.getElem_toList]
    rfl
  rw [List.take_add_one, e]
  rfl
set_option maxRecDepth 100000 in
set_option maxHeartbeats 2000000 in
theorem ints_any (t : ByteArray) (w : World) (hts : t.size ≤ 100) : Calls Tryz.prog 57 #[.string t] w fun e w' => ∃ v, e = .returned v ∧ OwnI w' w.heap.size v (bys t) ∧ Below w.heap.size w w' := by
  have HLB := hidIt (bys_len t)
  go_enter Tryz.func57, Tryz.ntmps57
  go_wp2_with fail
  go_loopw [3, 4] (fun c i wr => ∃ (ao : Option Addr) (n cp j : Nat), j ≤ t.size ∧ c = .slice ao n cp ∧ i = .int .i64 j ∧ Hid (OwnI wr w.heap.size (.slice ao n cp) ((bys t).take j)) ∧ Hid (Below w.heap.size w wr)) (fun _ i _ => t.size - (RowKit.intOf i).toNat)
  case atStart => exact ⟨none, 0, 0, 0, Nat.zero_le _, rfl, rfl, by rw [List.take_zero]; exact OwnI.nil _ _, Below.refl _ _⟩
  case round =>
    obtain ⟨ao, n, cp, j, hj, rfl, rfl, HO, HB⟩ := hrel
    by_cases hlt : j < t.size
    · have hlt' : (j : Int) < (t.size : Int) := by omega
      have hwr : IntKind.i64.wrap (((t[j]'hlt).toNat : Nat) : Int) = (((t[j]'hlt).toNat : Nat) : Int) := by have := (t[j]'hlt).toNat_lt; rw [IntKind.wrap_i64]; omega
      have HN := hidIt (bys_at t hlt)
      have HTL : Hid (((bys t).take j).length = j) := by unfold Hid; rw [List.length_take, HLB.out]; omega
      go_wp2_with (at_builtin; refine wpl_ints rfl _ _ 38 rfl w.heap.size Tryz.info_i64 Tryz.underlying38 _ ((bys t).take j) rfl (HO.out.ext (ext_alloc (Below.refl _ _) _)) _ [(((t[j]'hlt).toNat : Nat) : Int)] rfl (own_lit1 _ _ _ HB.out.size).rds (by rw [HTL.out]; simp; omega) (Nat.le_trans HB.out.size (by simp)) ?_; intro v2 w2 own2 hb2; rw [← HN.out] at own2; obtain ⟨ao2, cu2, rfl, _⟩ := own2.rds.len; have HO2 := hidIt own2; have HBB := hidIt ((ext_alloc HB.out _).trans hb2); clear own2 hb2; (try dsimp only))
      go_roundw
      case rel => exact ⟨_, _, _, j + 1, by omega, rfl, by go_num, by unfold Hid; have := HO2.out; rw [List.length_take] at this; exact this, HBB.out⟩
      case measure => simp [RowKit.intOf]; omega
    · obtain rfl : j = t.size := by omega
      have hge : ¬ (t.size : Int) < (t.size : Int) := by omega
      go_wp2_with fail
      go_ret
      refine ⟨_, rfl, ?_, HB.out⟩
      have := HO.out
      rwa [List.take_of_length_le (by have := HLB.out; omega)] at this
set_option maxRecDepth 100000 in
set_option maxHeartbeats 2000000 in
theorem one_any (t : ByteArray) (vb mv : Int) (w : World) (hts : t.size ≤ 100) : Calls Tryz.prog 56 #[.string t, .int .i64 vb, .int .i64 mv] w fun e w' => ∃ v, e = .returned (.agg #[v, .int .i64 vb, .int .i64 mv, .int .i64 0, .bool false]) ∧ OwnI w' w.heap.size v (bys t) ∧ Below w.heap.size w w' := by
  obtain ⟨w0, hw0⟩ : ∃ w0, w0 = w.alloc (.cells #[.slice none 0 0, .int .i64 0, .int .i64 0, .int .i64 0, .bool false] 71) := ⟨_, rfl⟩
  have hb0 : Below w.heap.size w w0 := by rw [hw0]; exact ext_alloc (Below.refl _ _) _
  have HR0 : Hid (w0.heap[w.heap.size]? = some (.cells #[.slice none 0 0, .int .i64 0, .int .i64 0, .int .i64 0, .bool false] 71 (0, 0))) := by unfold Hid; rw [hw0]; exact heap_alloc_new _ _
  have HB0 := hidIt hb0
  have HI := hidIt (ints_any t w0 hts)
  clear hb0
  go_enter Tryz.func56, Tryz.ntmps56
  go_upto_region 1 with fail
  rw [← hw0]
  clear hw0
  go_wp2_with (go_at_call 57; refine HI.out.mono ?_; rintro e w1 ⟨v, rfl, own, hb⟩; obtain ⟨ao, cu, rfl, _⟩ := own.rds.len; have HO := hidIt own; have HB1 := hidIt hb; have HR1 := hidIt ((hb.block _ (Array.getElem?_eq_some_iff.1 HR0.out).1).trans HR0.out); clear own hb; obtain ⟨_, e0, e1, e2, e3, e4, ef⟩ := cells5 HR1.out; (try dsimp only))
  have HP := hidIt (put5 HR1.out (.slice ao (bys t).length cu) (.int .i64 vb) (.int .i64 mv) (.int .i64 0) (.bool false))
  have HLT := hidIt (Array.getElem?_eq_some_iff.1 HR0.out).1
  refine bodyPost_ret (v := .agg #[.slice ao (bys t).length cu, .int .i64 vb, .int .i64 mv, .int .i64 0, .bool false]) (by simp [results, Tryz.results56, go_sem, e0, e1, e2, e3, e4]) rfl ⟨_, rfl, (HO.out.stay (fun g hg => HP.out.2.block g (Array.getElem?_eq_some_iff.1 (HO.out.blk hg).2.choose_spec).1 (fun e => by cases e; have := (HO.out.blk hg).1; have := HLT.out; omega))).le (Nat.le_of_lt HLT.out), below_put (HB0.out.trans (HB1.out.mono HB0.out.size)) (Nat.le_trans HB0.out.size HB1.out.size) HP.out.2 (Nat.le_refl _)⟩
end Go.Proofs.YtfdceljdhgbkcaaGreatDoor
