import Derived.Test.YtfdceljdhgbkcaaDoorJ02
/- Rows of bindings in memory; slices.Grow and slices.Concat of them. -/
namespace Go.Proofs.YtfdceljdhgbkcaaDoor
open Go.RowKit Go.Lib

/-- Keys and what they are bound to. -/
structure Rw where
  b : Bd
  ks : List Int
/-- A row's cells: x.2 is the slice that reads as its keys. -/
def rcs (x : Rw × Value) : List Value := [.int .i64 x.1.b.v, .int .i64 x.1.b.m, .int .i64 x.1.b.a, .int .i64 x.1.b.t, x.2]
def fr (xs : List (Rw × Value)) : List Value := xs.flatMap rcs
theorem fr_cons (x : Rw × Value) (xs : List (Rw × Value)) : fr (x :: xs) = rcs x ++ fr xs := rfl
theorem fr_app (xs ys : List (Rw × Value)) : fr (xs ++ ys) = fr xs ++ fr ys := by simp [fr]
theorem fr_len (xs : List (Rw × Value)) : (fr xs).length = xs.length * 5 := by
  induction xs with
  | nil => rfl
  | cons x xs ih => rw [fr_cons, List.length_append, ih, List.length_cons]; show 5 + _ = _; omega
theorem fr_at (xs : List (Rw × Value)) : ∀ i x, xs[i]? = some x → ∀ r, r < 5 → (fr xs)[i * 5 + r]? = (rcs x)[r]? := by
  induction xs with
  | nil => intro i x h; simp at h
  | cons y xs ih =>
    intro i x h r hr
    rw [fr_cons]
    cases i with
    | zero => rw [List.getElem?_append_left (by show 0 * 5 + r < 5; omega)]; simp at h; subst h; simp
    | succ i =>
      rw [List.getElem?_append_right (by show 5 ≤ _; omega), show (i + 1) * 5 + r - (rcs y).length = i * 5 + r by show _ - 5 = _; omega]
      exact ih i x (by simpa using h) r hr
/-- Keys that are read, in a block of ints. -/
def KI (w : World) (v : Value) (ks : List Int) : Prop := RdS w v ks ∧ ∀ a n c, v = .slice (some a) n c → ∃ cur r, w.heap[a.block]? = some (.cells cur 3 r)
theorem KI.ext {w w' : World} {v : Value} {ks : List Int} (h : KI w v ks) (hb : Below w.heap.size w w') : KI w' v ks := by
  refine ⟨h.1.ext hb, fun a n c e => ?_⟩
  obtain ⟨cur, r, h1⟩ := h.2 a n c e
  exact ⟨cur, r, (hb.block _ (Array.getElem?_eq_some_iff.1 h1).1).trans h1⟩
/-- The keys of all rows are read. -/
def Acc (w : World) (xs : List (Rw × Value)) : Prop := ∀ x ∈ xs, KI w x.2 x.1.ks
theorem Acc.ext {w w' : World} {xs : List (Rw × Value)} (h : Acc w xs) (hb : Below w.heap.size w w') : Acc w' xs := fun x hx => (h x hx).ext hb
theorem Acc.nil (w : World) : Acc w [] := fun x hx => by cases hx
theorem Acc.app {w : World} {xs ys : List (Rw × Value)} (h : Acc w xs) (k : Acc w ys) : Acc w (xs ++ ys) := fun x hx => by
  rcases List.mem_append.1 hx with hx | hx
  · exact h x hx
  · exact k x hx
theorem fr_one {w : World} (xs : List (Rw × Value)) (h : Acc w xs) : ∀ u ∈ fr xs, u.oneCell' = true := by
  intro u hu
  simp only [fr, List.mem_flatMap, rcs, List.mem_cons, List.not_mem_nil, or_false] at hu
  obtain ⟨x, hx, rfl | rfl | rfl | rfl | rfl⟩ := hu
  · rfl
  · rfl
  · rfl
  · rfl
  · rcases (h x hx).1.2 with e | ⟨a, n, c, e⟩ <;> rw [e] <;> rfl
/-- Rows of the call's own. -/
def OwnW (w : World) (base : Nat) (v : Value) (xs : List (Rw × Value)) : Prop := w.ownsRow base 50 5 v xs.length (fr xs) ∧ Acc w xs
/-- Rows that are read. -/
def RdW (w : World) (v : Value) (xs : List (Rw × Value)) : Prop :=
  (∃ ao cap, v = .slice ao xs.length cap ∧ xs.length ≤ cap ∧ cap ≤ 9223372036854775807 ∧ (xs ≠ [] → ∃ b off, ao = some ⟨b, off, none⟩ ∧ b < w.heap.size ∧ ∀ j u, (fr xs)[j]? = some u → w.cell? ⟨b, off + j, none⟩ = some u)) ∧ Acc w xs ∧ Sl v
theorem RdW.ext {w w' : World} {v : Value} {xs : List (Rw × Value)} (h : RdW w v xs) (hb : Below w.heap.size w w') : RdW w' v xs := by
  obtain ⟨⟨ao, cap, h1, h2, h3, h4⟩, h5, h6⟩ := h
  refine ⟨⟨ao, cap, h1, h2, h3, fun hn => ?_⟩, h5.ext hb, h6⟩
  obtain ⟨b, off, k1, k2, k3⟩ := h4 hn
  exact ⟨b, off, k1, Nat.lt_of_lt_of_le k2 hb.size, fun j u hj => (hb.cell (p := ⟨b, off + j, none⟩) k2).trans (k3 j u hj)⟩
theorem OwnW.rd {w : World} {base : Nat} {v : Value} {xs : List (Rw × Value)} (h : OwnW w base v xs) : RdW w v xs := by
  obtain ⟨⟨h1, h2⟩, h3⟩ := h
  rcases h2 with ⟨rfl, hn⟩ | ⟨g, cap, cur, rfl, hb, hg, hn, hc, hs, ht⟩
  · rw [List.length_eq_zero_iff] at hn
    subst hn
    exact ⟨⟨none, 0, rfl, Nat.le_refl _, by omega, fun h => absurd rfl h⟩, h3, .inl rfl⟩
  · refine ⟨⟨_, cap, rfl, hn, by unfold maxLen at hc; exact hc, fun _ => ⟨g, 0, rfl, (Array.getElem?_eq_some_iff.1 hg).1, fun j u hj => ?_⟩⟩, h3, .inr ⟨_, _, _, rfl⟩⟩
    rw [cell_of_row _ _ _ _ _ _ hg, Nat.zero_add]
    rw [← ht, List.getElem?_take] at hj
    split at hj
    · simpa using hj
    · cases hj
theorem OwnW.ext {w w' : World} {base : Nat} {v : Value} {xs : List (Rw × Value)} (h : OwnW w base v xs) (hb : Below w.heap.size w w') : OwnW w' base v xs := ⟨own_ext h.1 hb, h.2.ext hb⟩
theorem OwnW.nil (w : World) (base : Nat) : OwnW w base (.slice none 0 0) [] := ⟨⟨rfl, .inl ⟨rfl, rfl⟩⟩, Acc.nil w⟩
theorem OwnW.le {w : World} {base base' : Nat} {v : Value} {xs : List (Rw × Value)} (h : OwnW w base v xs) (hb : base' ≤ base) : OwnW w base' v xs := by
  obtain ⟨⟨h1, h2⟩, h3⟩ := h
  refine ⟨⟨h1, ?_⟩, h3⟩
  rcases h2 with h2 | ⟨g, cap, cur, hv, hg, r⟩
  · exact .inl h2
  · exact .inr ⟨g, cap, cur, hv, Nat.le_trans hb hg, r⟩
theorem OwnW.form {w : World} {base : Nat} {v : Value} {xs : List (Rw × Value)} (h : OwnW w base v xs) : ∃ ao n c, v = .slice ao n c := by
  obtain ⟨⟨ao, cap, h1, _⟩, _⟩ := h.rd
  exact ⟨_, _, _, h1⟩
/-- A list of rows that is written out. -/
theorem OwnW.lit {w : World} {xs : List (Rw × Value)} (cs : Array Value) (hc : cs = (fr xs).toArray) (h : Acc w xs) (hx : xs.length ≤ 1000) : OwnW (w.alloc (.cells cs 50)) w.heap.size (.slice (some ⟨w.heap.size, 0, none⟩) xs.length xs.length) xs := by
  refine ⟨⟨fr_len xs, .inr ⟨w.heap.size, xs.length, cs, rfl, Nat.le_refl _, heap_alloc_new _ _, Nat.le_refl _, by unfold maxLen; omega, by rw [hc]; simp [fr_len], ?_⟩⟩, h.ext (ext_alloc (Below.refl _ _) _)⟩
  rw [hc, ← fr_len]
  simp
theorem Tryd.info_row : (Tryd.prog.info? 50).map (fun i => (i.zero, i.size, i.bytes)) = some (some (.agg #[.int .i64 0, .int .i64 0, .int .i64 0, .int .i64 0, .slice none 0 0]), 5, 56) := by kernel_rfl
section
variable {W : World} {ops : Array Oper} {rest : List Oper} {o : Oper} {a : Act} {Q : Exit → Act → World → Prop}
set_option maxRecDepth 100000 in
/-- append(v, s...), of rows. -/
theorem wpl_rows (hgd : o.guard = none) (s x : Operand) (ho : o.op = .call { callee := .builtin .append, args := #[s, x], argTypes := #[44, 44] })
    (base : Nat) (v : Value) (xs : List (Rw × Value)) (hs : a.eval s = v) (hown : OwnW W base v xs) (u : Value) (ys : List (Rw × Value)) (hx : a.eval x = u) (hu : RdW W u ys) (hl : (xs.length + ys.length) * 56 ≤ 140737488355328) (hbase : base ≤ W.heap.size)
    (h : ∀ v' w', OwnW w' base v' (xs ++ ys) → Below base W w' → wpList Tryd.prog ops Q rest (a.put o.dst v') w') : wpList Tryd.prog ops Q (o :: rest) a W := by
  obtain ⟨i0, hi, hz0, hz1, hz2⟩ := info_parts Tryd.info_row
  obtain ⟨⟨ao, cap, hv, r1, r2, r3⟩, hacc, hsl⟩ := hu
  rcases hsl with e | ⟨ad, n, c, e⟩
  · subst e
    have : ys = [] := by injection hv with _ h2 _; exact List.length_eq_zero_iff.1 h2.symm
    subst this
    refine wpList_append_own_none hgd s x 44 ho base 50 i0 5 Tryd.underlying44 hi v xs.length (fr xs) hs hown.1 hx ?_
    exact h v W (by rw [List.append_nil]; exact hown) (Below.refl _ _)
  · subst e
    injection hv with e1 e2 e3
    subst e1 e2 e3
    refine wpList_append_own W hgd s x 44 ho base 50 i0 (.agg #[.int .i64 0, .int .i64 0, .int .i64 0, .int .i64 0, .slice none 0 0]) 5 56 Tryd.underlying44 hi hz0 hz1 hz2 rfl (by decide) v xs.length (fr xs) hs hown.1 ad ys.length c (fr ys) hx (fr_len ys) (fun j u hj => ?_) (fr_one ys hacc) (by unfold maxLen; omega) (by omega) hbase ?_
    · have hne : ys ≠ [] := by intro e; subst e; simp [fr] at hj
      obtain ⟨b, off, e1, _, k3⟩ := r3 hne
      cases e1
      rw [Addr.add_lit]
      exact k3 j u hj
    intro v' w' h1 h2 _
    have hb : Below base W w' := (Below.refl _ _).grown h2 hbase (fun k hk => (World.ownsRow.lt hown.1 k hk).1)
    have keep : ∀ {zs : List (Rw × Value)}, Acc W zs → Acc w' zs := fun {zs} hz x hx => by
      obtain ⟨hr, hty⟩ := hz x hx
      have hne : ∀ a n c, x.2 = .slice (some a) n c → w'.heap[a.block]? = W.heap[a.block]? := fun a n c e => by
        obtain ⟨cur, r, h3⟩ := hty a n c e
        refine h2.block _ (Array.getElem?_eq_some_iff.1 h3).1 (fun e2 => ?_)
        rcases hown.1.2 with ⟨e3, _⟩ | ⟨g, cp, cur2, e3, _, hg, _⟩
        · rw [e3] at e2; cases e2
        · rw [e3] at e2
          cases e2
          rw [h3] at hg
          injection hg with hg
          injection hg with _ h4
          exact absurd h4 (by decide)
      refine ⟨?_, fun a n c e => ?_⟩
      · obtain ⟨⟨ao, cap, hv, q1, q2, q3⟩, hs⟩ := hr
        refine ⟨⟨ao, cap, hv, q1, q2, fun hn => ?_⟩, hs⟩
        obtain ⟨b, off, e1, hb1, hc1⟩ := q3 hn
        refine ⟨b, off, e1, Nat.lt_of_lt_of_le hb1 h2.size, fun i hi => ?_⟩
        rw [← hc1 i hi]
        unfold World.cell?
        have := hne ⟨b, off, none⟩ _ _ (by rw [hv, e1])
        simp only at this
        simp only [this]
      · obtain ⟨cur, r, h3⟩ := hty a n c e
        exact ⟨cur, r, (hne a n c e).trans h3⟩
    refine h v' w' ⟨?_, (keep hown.2).app (keep hacc)⟩ hb
    rw [List.length_append, fr_app]
    exact h1
end
set_option maxRecDepth 100000 in
set_option maxHeartbeats 1000000 in
theorem growR_any (n : Nat) (h0 : 0 < n) (hn : n * 56 ≤ 140737488355328) (w : World) :
    Calls Tryd.prog 72 #[.slice none 0 0, .int .i64 n] w fun e w' => ∃ v, e = .returned v ∧ OwnW w' w.heap.size v [] ∧ Below w.heap.size w w' := by
  obtain ⟨i0, hi, hz0, hz1, hz2⟩ := info_parts Tryd.info_row
  have hrz : ∀ ty, (Builtin.append_ #[44, 3] ty #[.slice none 0 0, .int .i64 n]).run Tryd.prog w = _ := fun ty => by
    have h := Lib.run_append_grow_zeros w 44 3 ty 50 i0 (.agg #[.int .i64 0, .int .i64 0, .int .i64 0, .int .i64 0, .slice none 0 0]) .i64 .i64 Tryd.underlying44 Tryd.underlying3 hi hz0 none 0 0 [] (run_firstCells_none w.drew i0.size 0 0 0) n h0 (by omega) (by omega) (by omega)
      (by rw [hz2]; omega) (by rw [hz2]; exact growslice_fits (by omega) (by omega))
    exact h
  simp only [Nat.zero_add] at hrz
  have hGn : n ≤ grownCap w n 0 50 := grownCap_ge w _ _ _
  have hG63 : grownCap w n 0 50 ≤ 9223372036854775807 := by
    have := grownCap_le_maxLen w n 0 50 (by unfold maxLen; omega)
    unfold maxLen at this
    omega
  generalize grownCap w n 0 50 = G at *
  go_enter Tryd.func72, Tryd.ntmps72
  go_wp2_with (at_builtin; refine Lib.wpList_append_run _ rfl _ _ _ _ rfl _ _ rfl rfl _ _ (hrz _) ?_)
  all_goals
    go_ret
    refine ⟨_, rfl, ⟨⟨rfl, .inr ⟨w.heap.size, G, _, rfl, Nat.le_refl _, heap_alloc_new w _, Nat.zero_le _, by unfold maxLen; omega, ?_, by simp [fr]⟩⟩, Acc.nil _⟩, ((Below.refl _ _).alloc (Nat.le_refl _) _).drew⟩
    simp [Builtin.zeroCells]
    omega
end Go.Proofs.YtfdceljdhgbkcaaDoor

/- slices.Concat of rows of bindings. -/
namespace Go.Proofs.YtfdceljdhgbkcaaDoor
open Go.RowKit Go.Lib
/-- The slices of a row, as they are read. -/
def RowW (w : World) (B : Nat) (xs : List (Value × List (Rw × Value))) : Prop := B < w.heap.size ∧ ∀ i p, xs[i]? = some p → w.cell? ⟨B, i, none⟩ = some p.1 ∧ RdW w p.1 p.2
theorem RowW.ext {w w' : World} {B : Nat} {xs : List (Value × List (Rw × Value))} (h : RowW w B xs) (hb : Below w.heap.size w w') : RowW w' B xs :=
  ⟨Nat.lt_of_lt_of_le h.1 hb.size, fun i p hp => ⟨(hb.cell (p := ⟨B, i, none⟩) h.1).trans (h.2 i p hp).1, (h.2 i p hp).2.ext hb⟩⟩
def catW (xs : List (Value × List (Rw × Value))) : List (Rw × Value) := (xs.map Prod.snd).flatten
theorem catW_succ (xs : List (Value × List (Rw × Value))) (k : Nat) (p : Value × List (Rw × Value)) (h : xs[k]? = some p) : catW (xs.take (k + 1)) = catW (xs.take k) ++ p.2 := by
  obtain ⟨hk, rfl⟩ := List.getElem?_eq_some_iff.1 h
  unfold catW
  rw [List.take_succ_eq_append_getElem hk, List.map_append, List.flatten_append]
  simp
theorem catW_le (xs : List (Value × List (Rw × Value))) (k : Nat) : (catW (xs.take k)).length ≤ (catW xs).length := by
  have : catW xs = catW (xs.take k) ++ catW (xs.drop k) := by unfold catW; rw [← List.flatten_append, ← List.map_append, List.take_append_drop]
  rw [this, List.length_append]
  omega

set_option maxRecDepth 100000 in
set_option maxHeartbeats 2000000 in
theorem concatR_any (B : Nat) (xs : List (Value × List (Rw × Value))) (w : World) (h : RowW w B xs) (hx : xs.length ≤ 100) (h0 : 0 < (catW xs).length) (hl : (catW xs).length * 56 ≤ 140737488355328) :
    Calls Tryd.prog 49 #[.slice (some ⟨B, 0, none⟩) xs.length xs.length] w fun e w' => ∃ v, e = .returned v ∧ OwnW w' w.heap.size v (catW xs) ∧ Below w.heap.size w w' := by
  have H := hidIt h
  have hB := h.1
  clear h
  go_enter Tryd.func49, Tryd.ntmps49
  go_wp2_with fail
  go_loopw [3, 11] (fun s i wr => ∃ k : Nat, k ≤ xs.length ∧ i = .int .i64 k ∧ s = .int .i64 (catW (xs.take k)).length ∧ w = wr) (fun _ i _ => xs.length - (RowKit.intOf i).toNat)
  case atStart => exact ⟨0, Nat.zero_le _, rfl, rfl, rfl⟩
  case round =>
    obtain ⟨k, hk, rfl, rfl, rfl⟩ := hrel
    by_cases hlt : k < xs.length
    · obtain ⟨p, hp⟩ : ∃ p, xs[k]? = some p := ⟨_, List.getElem?_eq_getElem hlt⟩
      obtain ⟨c1, r1⟩ := H.out.2 k p hp
      obtain ⟨⟨ao, c, e1, e2a, e2b, _⟩, _⟩ := id r1
      rw [e1] at c1
      have hs := catW_succ xs k p hp
      have hle := catW_le xs (k + 1)
      rw [hs, List.length_append] at hle
      have HS := hidIt (show (catW (List.take (k + 1) xs)).length = (catW (List.take k xs)).length + p.2.length by rw [hs, List.length_append])
      generalize (catW (List.take k xs)).length = z at *
      generalize p.2.length = q at *
      generalize (catW xs).length = z2 at *
      have hi1 : (k : Int) < (xs.length : Int) := by omega
      have hw1 : IntKind.i64.wrap ((z : Int) + q) = (z : Int) + q := by rw [IntKind.wrap_i64]; omega
      have hn : ¬ ((z : Int) + q < 0) := by omega
      clear r1 e1 hs
      go_wp2_with fail
      go_roundw
      case rel => exact ⟨k + 1, by omega, by go_num, by rw [HS.out]; simp, trivial⟩
      case measure => simp [RowKit.intOf]; omega
    · have hkl : k = xs.length := by omega
      subst hkl
      clear hlt
      rw [List.take_length]
      go_wp2_with (go_at_call 72; refine (growR_any _ h0 hl _).mono ?_; rintro e w1 ⟨v1, rfl, own1, hb1⟩; have O1 := hidIt own1; have B1 := hidIt hb1; clear own1 hb1; (try dsimp only))
      go_loopw [6, 27] (fun s i wr => ∃ k : Nat, k ≤ xs.length ∧ i = .int .i64 k ∧ OwnW wr w.heap.size s (catW (xs.take k)) ∧ Below w.heap.size w wr) (fun _ i _ => xs.length - (RowKit.intOf i).toNat)
      case atStart => exact ⟨0, Nat.zero_le _, rfl, O1.out, B1.out⟩
      case round =>
        obtain ⟨k, hk, rfl, hown, hbw⟩ := hrel
        by_cases hlt : k < xs.length
        · obtain ⟨p, hp⟩ : ∃ p, xs[k]? = some p := ⟨_, List.getElem?_eq_getElem hlt⟩
          obtain ⟨c1, r1⟩ := (H.out.ext hbw).2 k p hp
          have hs := catW_succ xs k p hp
          have hle := catW_le xs (k + 1)
          rw [hs, List.length_append] at hle
          have HS := hidIt hs
          have HR := hidIt r1
          have HO := hidIt hown
          have HW := hidIt hbw
          have hi1 : (k : Int) < (xs.length : Int) := by omega
          have hsz := hbw.size
          clear hs r1 hown hbw
          go_wp2_with (at_builtin; refine wpl_rows rfl _ _ rfl w.heap.size _ _ rfl HO.out _ _ rfl HR.out (by omega) hsz ?_; intro v2 w2 own2 hb2; have O2 := hidIt own2; have B2 := hidIt hb2; clear own2 hb2)
          go_roundw
          case rel => exact ⟨k + 1, by omega, by go_num, by rw [HS.out]; exact O2.out, HW.out.trans (B2.out.mono (Nat.le_refl _))⟩
          case measure => simp [RowKit.intOf]; omega
        · have hkl : k = xs.length := by omega
          subst hkl
          clear hlt
          rw [List.take_length] at hown
          have HO := hidIt hown
          have HW := hidIt hbw
          clear hown hbw
          go_wp2_with fail
          go_ret
          exact ⟨_, rfl, HO.out, HW.out⟩

end Go.Proofs.YtfdceljdhgbkcaaDoor

/- moves, does, takes, with, before: rows of bindings. -/
namespace Go.Proofs.YtfdceljdhgbkcaaDoor
open Go.RowKit
set_option maxRecDepth 100000 in
theorem moves_any (m : Int) (a : Option Addr) (n c : Nat) (w : World) :
    Calls Tryd.prog 73 #[.int .i64 m, .slice a n c] w fun e w' => e = .returned (.agg #[.int .i64 1, .int .i64 m, .int .i64 0, .int .i64 0, .slice a n c]) ∧ Below w.heap.size w w' := by
  obtain ⟨w0, hw0, k0, hb0⟩ : ∃ w0, w0 = w.alloc (.cells #[.int .i64 0, .int .i64 0, .int .i64 0, .int .i64 0, .slice none 0 0] 50) ∧ w0.heap[w.heap.size]? = some (.cells #[.int .i64 0, .int .i64 0, .int .i64 0, .int .i64 0, .slice none 0 0] 50 (0, 0)) ∧ Below w.heap.size w w0 := ⟨_, rfl, heap_alloc_new _ _, ext_alloc (Below.refl _ _) _⟩
  obtain ⟨_, q0, q1, q2, q3, q4, qf⟩ := cells5 k0
  go_enter Tryd.func73, Tryd.ntmps73
  go_upto_region 1 with fail
  rw [← hw0]
  clear hw0
  go_wp2
  refine bodyPost_ret (v := .agg #[.int .i64 1, .int .i64 m, .int .i64 0, .int .i64 0, .slice a n c]) (by simp [results, Tryd.results73, go_sem, q0, q1, q2, q3, q4]) rfl ⟨rfl, ?_⟩
  exact below_put hb0 hb0.size (put5 k0 _ _ _ _ _).2 (Nat.le_refl _)
set_option maxRecDepth 100000 in
theorem does_any (v : Int) (a : Option Addr) (n c : Nat) (w : World) :
    Calls Tryd.prog 75 #[.int .i64 v, .slice a n c] w fun e w' => e = .returned (.agg #[.int .i64 v, .int .i64 0, .int .i64 0, .int .i64 0, .slice a n c]) ∧ Below w.heap.size w w' := by
  obtain ⟨w0, hw0, k0, hb0⟩ : ∃ w0, w0 = w.alloc (.cells #[.int .i64 0, .int .i64 0, .int .i64 0, .int .i64 0, .slice none 0 0] 50) ∧ w0.heap[w.heap.size]? = some (.cells #[.int .i64 0, .int .i64 0, .int .i64 0, .int .i64 0, .slice none 0 0] 50 (0, 0)) ∧ Below w.heap.size w w0 := ⟨_, rfl, heap_alloc_new _ _, ext_alloc (Below.refl _ _) _⟩
  obtain ⟨_, q0, q1, q2, q3, q4, qf⟩ := cells5 k0
  go_enter Tryd.func75, Tryd.ntmps75
  go_upto_region 1 with fail
  rw [← hw0]
  clear hw0
  go_wp2
  refine bodyPost_ret (v := .agg #[.int .i64 v, .int .i64 0, .int .i64 0, .int .i64 0, .slice a n c]) (by simp [results, Tryd.results75, go_sem, q0, q1, q2, q3, q4]) rfl ⟨rfl, ?_⟩
  exact below_put hb0 hb0.size (put5 k0 _ _ _ _ _).2 (Nat.le_refl _)
set_option maxRecDepth 100000 in
theorem takes_any (v m : Int) (a : Option Addr) (n c : Nat) (w : World) :
    Calls Tryd.prog 76 #[.int .i64 v, .int .i64 m, .slice a n c] w fun e w' => e = .returned (.agg #[.int .i64 v, .int .i64 m, .int .i64 0, .int .i64 0, .slice a n c]) ∧ Below w.heap.size w w' := by
  obtain ⟨w0, hw0, k0, hb0⟩ : ∃ w0, w0 = w.alloc (.cells #[.int .i64 0, .int .i64 0, .int .i64 0, .int .i64 0, .slice none 0 0] 50) ∧ w0.heap[w.heap.size]? = some (.cells #[.int .i64 0, .int .i64 0, .int .i64 0, .int .i64 0, .slice none 0 0] 50 (0, 0)) ∧ Below w.heap.size w w0 := ⟨_, rfl, heap_alloc_new _ _, ext_alloc (Below.refl _ _) _⟩
  obtain ⟨_, q0, q1, q2, q3, q4, qf⟩ := cells5 k0
  go_enter Tryd.func76, Tryd.ntmps76
  go_upto_region 1 with fail
  rw [← hw0]
  clear hw0
  go_wp2
  refine bodyPost_ret (v := .agg #[.int .i64 v, .int .i64 m, .int .i64 0, .int .i64 0, .slice a n c]) (by simp [results, Tryd.results76, go_sem, q0, q1, q2, q3, q4]) rfl ⟨rfl, ?_⟩
  exact below_put hb0 hb0.size (put5 k0 _ _ _ _ _).2 (Nat.le_refl _)
set_option maxRecDepth 100000 in
theorem before_any (b0 b1 b2 b3 x : Int) (a : Option Addr) (n c : Nat) (w : World) :
    Calls Tryd.prog 74 #[.agg #[.int .i64 b0, .int .i64 b1, .int .i64 b2, .int .i64 b3, .slice a n c], .int .i64 x] w fun e w' => e = .returned (.agg #[.int .i64 b0, .int .i64 b1, .int .i64 b2, .int .i64 x, .slice a n c]) ∧ Below w.heap.size w w' := by
  obtain ⟨w0, hw0⟩ : ∃ w0, w0 = (w.alloc (.cells #[.int .i64 b0, .int .i64 b1, .int .i64 b2, .int .i64 b3, .slice a n c] 50)).alloc (.cells #[.int .i64 0, .int .i64 0, .int .i64 0, .int .i64 0, .slice none 0 0] 50) := ⟨_, rfl⟩
  have hb0 : Below w.heap.size w w0 := by rw [hw0]; exact ext_alloc (ext_alloc (Below.refl _ _) _) _
  have k0 : w0.heap[w.heap.size]? = some (.cells #[.int .i64 b0, .int .i64 b1, .int .i64 b2, .int .i64 b3, .slice a n c] 50 (0, 0)) := by rw [hw0]; exact ((MapKept.heap_alloc _ _).2 _ (by rw [World.size_alloc]; omega)).trans (heap_alloc_new _ _)
  have k1 : w0.heap[w.heap.size + 1]? = some (.cells #[.int .i64 0, .int .i64 0, .int .i64 0, .int .i64 0, .slice none 0 0] 50 (0, 0)) := by rw [hw0, ← World.size_alloc w (.cells #[.int .i64 b0, .int .i64 b1, .int .i64 b2, .int .i64 b3, .slice a n c] 50)]; exact heap_alloc_new _ _
  obtain ⟨h2, g2⟩ := set1 k0 3 (.int .i64 x)
  obtain ⟨_, p0, p1, p2, p3, p4, pf⟩ := cells5 k0
  obtain ⟨w1, hw1⟩ : ∃ w1, w1 = w0.setCell ⟨w.heap.size, 3, none⟩ (.int .i64 x) := ⟨_, rfl⟩
  rw [← hw1] at h2 g2
  have h2' : w1.heap[w.heap.size]? = some (.cells #[.int .i64 b0, .int .i64 b1, .int .i64 b2, .int .i64 x, .slice a n c] 50 (0, 0)) := h2
  have k1' : w1.heap[w.heap.size + 1]? = some (.cells #[.int .i64 0, .int .i64 0, .int .i64 0, .int .i64 0, .slice none 0 0] 50 (0, 0)) := (g2.block _ (Array.getElem?_eq_some_iff.1 k1).1 (by simp)).trans k1
  obtain ⟨_, s0, s1, s2, s3, s4, sf⟩ := cells5 h2'
  obtain ⟨_, q0, q1, q2, q3, q4, qf⟩ := cells5 k1'
  have hb1 : Below w.heap.size w w1 := below_put hb0 hb0.size g2 (Nat.le_refl _)
  have HF := hidIt (put5 k1' (.int .i64 b0) (.int .i64 b1) (.int .i64 b2) (.int .i64 x) (.slice a n c))
  have HW1 := hidIt hw1
  clear k0 k1 h2 h2' k1' g2 hb0 hw1
  go_enter Tryd.func74, Tryd.ntmps74
  go_upto_region 1 with fail
  rw [← hw0]
  clear hw0
  go_upto_region 2 with fail
  rw [← HW1.out]
  clear HW1 p0 p1 p2 p3 p4 pf
  go_wp2
  refine bodyPost_ret (v := .agg #[.int .i64 b0, .int .i64 b1, .int .i64 b2, .int .i64 x, .slice a n c]) (by simp [results, Tryd.results74, go_sem, q0, q1, q2, q3, q4]) rfl ⟨rfl, ?_⟩
  exact below_put hb1 hb1.size HF.out.2 (Nat.le_succ _)
set_option maxRecDepth 100000 in
theorem with_any (b0 b1 b2 b3 x : Int) (a : Option Addr) (n c : Nat) (w : World) :
    Calls Tryd.prog 77 #[.agg #[.int .i64 b0, .int .i64 b1, .int .i64 b2, .int .i64 b3, .slice a n c], .int .i64 x] w fun e w' => e = .returned (.agg #[.int .i64 b0, .int .i64 b1, .int .i64 x, .int .i64 b3, .slice a n c]) ∧ Below w.heap.size w w' := by
  obtain ⟨w0, hw0⟩ : ∃ w0, w0 = (w.alloc (.cells #[.int .i64 b0, .int .i64 b1, .int .i64 b2, .int .i64 b3, .slice a n c] 50)).alloc (.cells #[.int .i64 0, .int .i64 0, .int .i64 0, .int .i64 0, .slice none 0 0] 50) := ⟨_, rfl⟩
  have hb0 : Below w.heap.size w w0 := by rw [hw0]; exact ext_alloc (ext_alloc (Below.refl _ _) _) _
  have k0 : w0.heap[w.heap.size]? = some (.cells #[.int .i64 b0, .int .i64 b1, .int .i64 b2, .int .i64 b3, .slice a n c] 50 (0, 0)) := by rw [hw0]; exact ((MapKept.heap_alloc _ _).2 _ (by rw [World.size_alloc]; omega)).trans (heap_alloc_new _ _)
  have k1 : w0.heap[w.heap.size + 1]? = some (.cells #[.int .i64 0, .int .i64 0, .int .i64 0, .int .i64 0, .slice none 0 0] 50 (0, 0)) := by rw [hw0, ← World.size_alloc w (.cells #[.int .i64 b0, .int .i64 b1, .int .i64 b2, .int .i64 b3, .slice a n c] 50)]; exact heap_alloc_new _ _
  obtain ⟨h2, g2⟩ := set1 k0 2 (.int .i64 x)
  obtain ⟨_, p0, p1, p2, p3, p4, pf⟩ := cells5 k0
  obtain ⟨w1, hw1⟩ : ∃ w1, w1 = w0.setCell ⟨w.heap.size, 2, none⟩ (.int .i64 x) := ⟨_, rfl⟩
  rw [← hw1] at h2 g2
  have h2' : w1.heap[w.heap.size]? = some (.cells #[.int .i64 b0, .int .i64 b1, .int .i64 x, .int .i64 b3, .slice a n c] 50 (0, 0)) := h2
  have k1' : w1.heap[w.heap.size + 1]? = some (.cells #[.int .i64 0, .int .i64 0, .int .i64 0, .int .i64 0, .slice none 0 0] 50 (0, 0)) := (g2.block _ (Array.getElem?_eq_some_iff.1 k1).1 (by simp)).trans k1
  obtain ⟨_, s0, s1, s2, s3, s4, sf⟩ := cells5 h2'
  obtain ⟨_, q0, q1, q2, q3, q4, qf⟩ := cells5 k1'
  have hb1 : Below w.heap.size w w1 := below_put hb0 hb0.size g2 (Nat.le_refl _)
  have HF := hidIt (put5 k1' (.int .i64 b0) (.int .i64 b1) (.int .i64 x) (.int .i64 b3) (.slice a n c))
  have HW1 := hidIt hw1
  clear k0 k1 h2 h2' k1' g2 hb0 hw1
  go_enter Tryd.func77, Tryd.ntmps77
  go_upto_region 1 with fail
  rw [← hw0]
  clear hw0
  go_upto_region 2 with fail
  rw [← HW1.out]
  clear HW1 p0 p1 p2 p3 p4 pf
  go_wp2
  refine bodyPost_ret (v := .agg #[.int .i64 b0, .int .i64 b1, .int .i64 x, .int .i64 b3, .slice a n c]) (by simp [results, Tryd.results77, go_sem, q0, q1, q2, q3, q4]) rfl ⟨rfl, ?_⟩
  exact below_put hb1 hb1.size HF.out.2 (Nat.le_succ _)
/-- Blocks of ints that hold what was written out. -/
def AccB (w : World) (l : List (Nat × Array Value)) : Prop := ∀ p ∈ l, w.heap[p.1]? = some (.cells p.2 3 (0, 0))
theorem AccB.nil (w : World) : AccB w [] := fun p hp => by cases hp
theorem AccB.ext {w w' : World} {l : List (Nat × Array Value)} (h : AccB w l) (hb : Below w.heap.size w w') : AccB w' l := fun p hp => (hb.block _ (Array.getElem?_eq_some_iff.1 (h p hp)).1).trans (h p hp)
theorem AccB.push {w w' : World} {l : List (Nat × Array Value)} {cs : Array Value} (h : AccB w l) (hb : Below (w.alloc (.cells cs 3)).heap.size (w.alloc (.cells cs 3)) w') : AccB w' ((w.heap.size, cs) :: l) := by
  intro p hp
  rcases List.mem_cons.1 hp with rfl | hp
  · exact (hb.block _ (Array.getElem?_eq_some_iff.1 (heap_alloc_new w _)).1).trans (heap_alloc_new _ _)
  · exact (h.ext (ext_trans (ext_alloc (Below.refl _ _) _) hb)) p hp
theorem acc_of {w : World} {l : List (Nat × Array Value)} (h : AccB w l) (xs : List (Rw × Value)) (hs : ∀ p ∈ l, p.2.size ≤ 1000) (hz : xs.map (fun x => (x.2, x.1.ks.map (Value.int .i64))) = l.reverse.map (fun p => (Value.slice (some ⟨p.1, 0, none⟩) p.2.size p.2.size, p.2.toList))) : Acc w xs := by
  intro x hx
  have hm : (x.2, x.1.ks.map (Value.int .i64)) ∈ l.reverse.map (fun p => (Value.slice (some ⟨p.1, 0, none⟩) p.2.size p.2.size, p.2.toList)) := by rw [← hz]; exact List.mem_map.2 ⟨x, hx, rfl⟩
  obtain ⟨p, hp, e⟩ := List.mem_map.1 hm
  rw [List.mem_reverse] at hp
  injection e with e1 e2
  have hl : p.2.size = x.1.ks.length := by have := congrArg List.length e2; simpa using this
  have hg := h p hp
  have := hs p hp
  refine ⟨⟨⟨some ⟨p.1, 0, none⟩, p.2.size, by rw [← e1, hl], by omega, by unfold maxLen; omega, fun _ => ⟨p.1, 0, rfl, (Array.getElem?_eq_some_iff.1 hg).1, fun i hi => ?_⟩⟩, .inr ⟨_, _, _, e1.symm⟩⟩, fun a n c e => ?_⟩
  · rw [cell_of_row _ _ _ _ _ _ hg, Nat.zero_add]
    have : p.2.toList[i]? = (x.1.ks.map (Value.int .i64))[i]? := by rw [e2]
    rw [Array.getElem?_toList] at this
    rw [this]
    simp [hi]
  · rw [← e1] at e
    cases e
    exact ⟨_, _, hg⟩
end Go.Proofs.YtfdceljdhgbkcaaDoor
