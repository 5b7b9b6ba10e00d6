/- Rows of words of the call's own, and append onto them. -/
import Derived.Test.YtcdamhgblolofaaWMem
namespace Go.Proofs.Ytcdamhgblolofaa.W
open Go.RowKit

/-- A word's cell. -/
def flat (xs : List It) : List Value := xs.map Value.string
theorem flat_len (xs : List It) : (flat xs).length = xs.length * 1 := by simp [flat]
theorem flat_app (xs ys : List It) : flat (xs ++ ys) = flat xs ++ flat ys := by simp [flat]
theorem flat_one (xs : List It) : ∀ u ∈ flat xs, u.oneCell' = true := by
  intro u hu
  simp only [flat, List.mem_map] at hu
  obtain ⟨x, _, rfl⟩ := hu
  rfl
theorem flat_at (xs : List It) (i : Nat) (h : i < xs.length) : (flat xs)[i]? = some (.string (xs[i]?.getD (ByteArray.mk #[]))) := by
  simp [flat, List.getElem?_map, List.getElem?_eq_getElem h]

/-- The words xs, in a row of the call's own. -/
def OwnR (w : World) (base : Nat) (e : TypeId) (v : Value) (xs : List It) : Prop := w.ownsRow base e 1 v xs.length (flat xs)
theorem OwnR.rd {w : World} {base : Nat} {e : TypeId} {v : Value} {xs : List It} (h : OwnR w base e v xs) : RdR w v xs := by
  obtain ⟨h1, h2⟩ := h
  rcases h2 with ⟨rfl, hn⟩ | ⟨g, cap, cur, rfl, hb, hg, hn, hc, hs, ht⟩
  · rw [List.length_eq_zero_iff] at hn; subst hn; exact RdR.nil w
  · refine ⟨_, cap, rfl, hn, hc, (fun h => by cases h), fun _ => ⟨g, 0, rfl, (Array.getElem?_eq_some_iff.1 hg).1, fun i hi => ?_⟩⟩
    have h3 := flat_at xs i hi
    rw [← ht] at h3
    simp only [List.getElem?_take] at h3
    rw [if_pos (by omega)] at h3
    have h4 : w.cell? ⟨g, 0 + i, none⟩ = some (.string (xs[i]?.getD (ByteArray.mk #[]))) := by
      rw [cell_of_row w g (0 + i) cur e (0, 0) hg, Nat.zero_add]
      simpa using h3
    exact ⟨h4, h4⟩
theorem OwnR.ext {w w' : World} {base : Nat} {e : TypeId} {v : Value} {xs : List It} (h : OwnR w base e v xs) (hb : Below w.heap.size w w') : OwnR w' base e v xs :=
  World.ownsRow.kept (row := none) h ⟨hb.os, hb.tape, hb.output, hb.size, fun k hk _ => hb.block k hk⟩ (by cases v.ownBlock <;> simp)
theorem OwnR.le {w : World} {base base' : Nat} {e : TypeId} {v : Value} {xs : List It} (h : OwnR w base e v xs) (hb : base' ≤ base) : OwnR w base' e v xs := by
  obtain ⟨h1, h2⟩ := h
  refine ⟨h1, ?_⟩
  rcases h2 with h2 | ⟨g, cap, cur, hv, hg, r⟩
  · exact .inl h2
  · exact .inr ⟨g, cap, cur, hv, Nat.le_trans hb hg, r⟩
theorem OwnR.nil (w : World) (base : Nat) (e : TypeId) : OwnR w base e (.slice none 0 0) [] := World.ownsRow_nil _ _ _ _
theorem OwnR.below {w wr w' : World} {e : TypeId} {v : Value} {xs : List It} (hb : Below w.heap.size w wr) (hown : OwnR wr w.heap.size e v xs) (hg : wr.grownBy w' v.ownBlock) : Below w.heap.size w w' :=
  hb.grown hg (by have := hb.size; omega) (fun k hk => (World.ownsRow.lt hown k hk).1)
theorem OwnR.form1 {w : World} {base : Nat} {e : TypeId} {v : Value} {xs : List It} (h : OwnR w base e v xs) : ∃ ao cap, v = .slice ao xs.length cap := by
  obtain ⟨ao, cap, hv, _⟩ := h.rd
  exact ⟨ao, cap, hv⟩
theorem OwnR.form_pos1 {w : World} {base : Nat} {e : TypeId} {v : Value} {xs : List It} (h : OwnR w base e v xs) (hn : 0 < xs.length) : ∃ g cap, v = .slice (some ⟨g, 0, none⟩) xs.length cap := by
  rcases h.2 with ⟨_, h2⟩ | ⟨g, cap, cur, hv, hb, hg, _⟩
  · omega
  · exact ⟨g, cap, hv⟩
theorem OwnR.lit1 (w : World) (e : TypeId) (x : It) : OwnR (w.alloc (.cells #[.string x] e)) w.heap.size e (.slice (some ⟨w.heap.size, 0, none⟩) 1 1) [x] := by
  have h := World.ownsRow_lit (base := w.heap.size) (e := e) (size := 1) w #[.string x] 1 (Nat.le_refl _) (by simp [maxLen]) (by simp)
  simpa [OwnR, flat] using h
theorem RdR.cells {w : World} {b off : Nat} {ys : List It} (h : ∀ i, i < ys.length → w.cell? ⟨b, off + i, none⟩ = some (.string (ys[i]?.getD (ByteArray.mk #[])))) :
    ∀ j u, (flat ys)[j]? = some u → w.cell? ((⟨b, off, none⟩ : Addr).add j) = some u := by
  intro j u hj
  have hl : j < ys.length := by
    have := (List.getElem?_eq_some_iff.1 hj).1
    rw [flat_len, Nat.mul_one] at this
    exact this
  rw [Addr.add_lit, h j hl, ← hj, flat_at ys j hl]

section
variable {P : Program} {w : World}
/-- append(xs, ys...) onto a row of the call's own. -/
theorem wpList_append_runs {ops : Array Oper} {rest : List Oper} {o : Oper} {a : Act} {Q : Exit → Act → World → Prop} (hgd : o.guard = none) (s x : Operand) (t : TypeId)
    (ho : o.op = .call { callee := .builtin .append, args := #[s, x], argTypes := #[t, t] })
    (base : Nat) (e : TypeId) (hinf : (P.info? e).map (fun i => (i.zero, i.size, i.bytes)) = some (some (.agg #[.string (ByteArray.mk #[])]), 1, 16)) (ht : P.underlying t = some (.slice e))
    (v : Value) (xs : List It) (hs : a.eval s = v) (hown : OwnR w base e v xs) (v2 : Value) (ys : List It) (hx : a.eval x = v2) (hr : RdR w v2 ys)
    (hbytes : (xs.length + ys.length) * 16 ≤ 140737488355328) (hbase : base ≤ w.heap.size)
    (h : ∀ v' w', OwnR w' base e v' (xs ++ ys) → w.grownBy w' v.ownBlock → wpList P ops Q rest (a.put o.dst v') w') : wpList P ops Q (o :: rest) a w := by
  obtain ⟨i0, hi, hz0, hz1, hz2⟩ := info_parts hinf
  obtain ⟨ao, cap, rfl, h1, h2, h0, h3⟩ := hr
  by_cases hn : ys = []
  · subst hn
    match ao, h0 with
    | none, h0 =>
      have := h0 rfl
      subst this
      refine wpList_append_own_none hgd s x t ho base e i0 1 ht hi v _ _ hs hown hx ?_
      exact h v w (by rw [List.append_nil]; exact hown) ⟨rfl, rfl, rfl, Nat.le_refl _, fun _ _ _ => rfl⟩
    | some ad, _ =>
      refine wpList_append_own _ hgd s x t ho base e i0 _ 1 16 ht hi hz0 hz1 hz2 rfl (by decide) v _ _ hs hown ad 0 cap [] hx rfl (by simp) (by simp) (by unfold maxLen; simp at hbytes; omega) (by simpa using hbytes) hbase ?_
      intro v' w' hown' hg _
      refine h v' w' ?_ hg
      rw [List.append_nil] at hown' ⊢
      exact hown'
  · obtain ⟨b, off, rfl, hb, hc⟩ := h3 hn
    refine wpList_append_own _ hgd s x t ho base e i0 _ 1 16 ht hi hz0 hz1 hz2 rfl (by decide) v _ _ hs hown ⟨b, off, none⟩ ys.length cap (flat ys) hx (flat_len ys) (RdR.cells fun i hi => (hc i hi).1) (flat_one ys) (by unfold maxLen; omega) hbytes hbase ?_
    intro v' w' hown' hg _
    refine h v' w' ?_ hg
    unfold OwnR
    rw [List.length_append, flat_app]
    exact hown'
end
theorem Try.info_word : (Try.prog.info? 58).map (fun i => (i.zero, i.size, i.bytes)) = some (some (.agg #[.string (ByteArray.mk #[])]), 1, 16) := by kernel_rfl
/-- A word, laid new. -/
theorem RdR.lit1 (w : World) (e : TypeId) (x : It) : RdR (w.alloc (.cells #[.string x] e)) (.slice (some ⟨w.heap.size, 0, none⟩) 1 1) [x] := OwnR.rd (OwnR.lit1 w e x)
end Go.Proofs.Ytcdamhgblolofaa.W
