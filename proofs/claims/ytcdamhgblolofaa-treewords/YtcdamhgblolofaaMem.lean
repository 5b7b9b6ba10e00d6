/- Slices of runs that are read, rows of runs that are owned. -/
import Derived.Test.YtcdamhgblolofaaRows
import Derived.WalkKit
import Derived.WalkSpells
import Derived.WalkLawsBesides
import Derived.StillTactics
import Derived.Deep.QuietTactic
import Derived.BigQuiet
import Derived.Outline
import Derived.LoopTactic
import Derived.Deep.RegionWith
import Derived.Laws.AppendOwnNone
import Derived.Test.YtcdamhgblolofaaSums
namespace Go.Proofs.Ytcdamhgblolofaa
open Go.RowKit

/-- A fact out of the walks' sight. -/
def Hid (p : Prop) : Prop := p
theorem Hid.out {p : Prop} (h : Hid p) : p := h
theorem ret_int {k : IntKind} {a b : Int} (h : a = b) : Ending.returned (.int k a) = .returned (.int k b) := by rw [h]
theorem ret_bool {a b : Bool} (h : a = b) : Ending.returned (.bool a) = .returned (.bool b) := by rw [h]
theorem ext_trans {a b c : World} (h : Below a.heap.size a b) (k : Below b.heap.size b c) : Below a.heap.size a c := h.trans (k.mono h.size)
theorem ext_alloc {a b : World} (h : Below a.heap.size a b) (o : Obj) : Below a.heap.size a (b.alloc o) := h.alloc h.size o
theorem bcell {W w1 : World} (hb : Below W.heap.size W w1) : (∀ b o, b < W.heap.size → w1.cell? ⟨b, o, none⟩ = W.cell? ⟨b, o, none⟩) ∧ (∀ b o, b < W.heap.size → w1.frozen? ⟨b, o, none⟩ = W.frozen? ⟨b, o, none⟩) :=
  ⟨fun b o h => hb.cell (p := ⟨b, o, none⟩) h, fun b o h => hb.frozen (p := ⟨b, o, none⟩) h⟩

abbrev It := Int × Int
/-- A run as a value, its cells; a sum as a value. -/
def aR (x : It) : Value := .agg #[.int .i64 x.1, .int .i64 x.2]
def aS (s : Rs) : Value := .agg #[.int .i64 s.l, .int .i64 s.s, .int .i64 s.f, .int .i64 s.z]
def flat (xs : List It) : List Value := xs.flatMap fun x => [.int .i64 x.1, .int .i64 x.2]
theorem flat_nil : flat [] = [] := rfl
theorem flat_cons (x : It) (xs : List It) : flat (x :: xs) = .int .i64 x.1 :: .int .i64 x.2 :: flat xs := rfl
theorem flat_app (xs ys : List It) : flat (xs ++ ys) = flat xs ++ flat ys := by simp [flat]
theorem flat_len (xs : List It) : (flat xs).length = xs.length * 2 := by
  induction xs with
  | nil => rfl
  | cons x xs ih => rw [flat_cons]; simp [ih]; omega
theorem flat_one (xs : List It) : ∀ u ∈ flat xs, u.oneCell' = true := by
  intro u hu
  simp only [flat, List.mem_flatMap] at hu
  obtain ⟨x, _, hx⟩ := hu
  simp at hx
  rcases hx with rfl | rfl <;> rfl
theorem flat_at (xs : List It) : ∀ i, i < xs.length → (flat xs)[i * 2]? = some (.int .i64 (xs[i]?.getD (0, 0)).1) ∧ (flat xs)[i * 2 + 1]? = some (.int .i64 (xs[i]?.getD (0, 0)).2) := by
  induction xs with
  | nil => intro i h; simp at h
  | cons x xs ih =>
    intro i h
    rw [flat_cons]
    cases i with
    | zero => simp
    | succ i =>
      have := ih i (by simpa using h)
      rw [Nat.add_mul, Nat.one_mul]
      simpa using this

/-- The slice v reads as the runs xs. -/
def RdR (w : World) (v : Value) (xs : List It) : Prop :=
  ∃ ao cap, v = .slice ao xs.length cap ∧ xs.length ≤ cap ∧ cap ≤ maxLen ∧ (ao = none → cap = 0) ∧
    (xs ≠ [] → ∃ b off, ao = some ⟨b, off, none⟩ ∧ b < w.heap.size ∧ ∀ i, i < xs.length → w.cell? ⟨b, off + i * 2, none⟩ = some (.int .i64 (xs[i]?.getD (0, 0)).1) ∧ w.cell? ⟨b, off + i * 2 + 1, none⟩ = some (.int .i64 (xs[i]?.getD (0, 0)).2))

theorem RdR.ext {w w' : World} {v : Value} {xs : List It} (h : RdR w v xs) (hb : Below w.heap.size w w') : RdR w' v xs := by
  obtain ⟨ao, cap, hv, h1, h2, h0, h3⟩ := h
  refine ⟨ao, cap, hv, h1, h2, h0, fun hn => ?_⟩
  obtain ⟨b, off, ha, hlt, hc⟩ := h3 hn
  exact ⟨b, off, ha, Nat.lt_of_lt_of_le hlt hb.size, fun i hi => ⟨(hb.cell (p := ⟨b, off + i * 2, none⟩) hlt).trans (hc i hi).1, (hb.cell (p := ⟨b, off + i * 2 + 1, none⟩) hlt).trans (hc i hi).2⟩⟩
theorem RdR.nil (w : World) : RdR w (.slice none 0 0) [] := ⟨none, 0, rfl, Nat.le_refl _, by simp [maxLen], fun _ => rfl, fun h => absurd rfl h⟩
theorem RdR.len {w : World} {v : Value} {xs : List It} (h : RdR w v xs) : xs.length ≤ 9223372036854775807 := by
  obtain ⟨ao, cap, hv, h1, h2, _⟩ := h
  unfold maxLen at h2
  omega

/-- The runs xs, in a row of the call's own. -/
def OwnR (w : World) (base : Nat) (e : TypeId) (v : Value) (xs : List It) : Prop := w.ownsRow base e 2 v xs.length (flat xs)
theorem OwnR.rd {w : World} {base : Nat} {e : TypeId} {v : Value} {xs : List It} (h : OwnR w base e v xs) : RdR w v xs := by
  obtain ⟨h1, h2⟩ := h
  rcases h2 with ⟨rfl, hn⟩ | ⟨g, cap, cur, rfl, hb, hg, hn, hc, hs, ht⟩
  · rw [List.length_eq_zero_iff] at hn; subst hn; exact RdR.nil w
  · refine ⟨_, cap, rfl, hn, hc, (fun h => by cases h), fun _ => ⟨g, 0, rfl, (Array.getElem?_eq_some_iff.1 hg).1, fun i hi => ?_⟩⟩
    have h3 := flat_at xs i hi
    rw [← ht] at h3
    simp only [List.getElem?_take] at h3
    rw [if_pos (by omega), if_pos (by omega)] at h3
    rw [cell_of_row w g (0 + i * 2) cur e (0, 0) hg, cell_of_row w g (0 + i * 2 + 1) cur e (0, 0) hg]
    simpa using h3
theorem OwnR.ext {w w' : World} {base : Nat} {e : TypeId} {v : Value} {xs : List It} (h : OwnR w base e v xs) (hb : Below w.heap.size w w') : OwnR w' base e v xs :=
  World.ownsRow.kept (row := none) h ⟨hb.os, hb.tape, hb.output, hb.size, fun k hk _ => hb.block k hk⟩ (by cases v.ownBlock <;> simp)
theorem OwnR.le {w : World} {base base' : Nat} {e : TypeId} {v : Value} {xs : List It} (h : OwnR w base e v xs) (hb : base' ≤ base) : OwnR w base' e v xs := by
  obtain ⟨h1, h2⟩ := h
  refine ⟨h1, ?_⟩
  rcases h2 with h2 | ⟨g, cap, cur, hv, hg, r⟩
  · exact .inl h2
  · exact .inr ⟨g, cap, cur, hv, Nat.le_trans hb hg, r⟩
theorem OwnR.nil (w : World) (base : Nat) (e : TypeId) : OwnR w base e (.slice none 0 0) [] := World.ownsRow_nil _ _ _ _
theorem OwnR.below {w wr w' : World} {e : TypeId} {v : Value} {xs : List It} (hb : Below w.heap.size w wr) (hown : OwnR wr w.heap.size e v xs) (hg : wr.grownBy w' v.ownBlock) : Below w.heap.size w w' :=
  hb.grown hg (by have := hb.size; omega) (fun k hk => (World.ownsRow.lt hown k hk).1)

theorem RdR.cells {w : World} {b off : Nat} {ys : List It} (h : ∀ i, i < ys.length → w.cell? ⟨b, off + i * 2, none⟩ = some (.int .i64 (ys[i]?.getD (0, 0)).1) ∧ w.cell? ⟨b, off + i * 2 + 1, none⟩ = some (.int .i64 (ys[i]?.getD (0, 0)).2)) :
    ∀ j u, (flat ys)[j]? = some u → w.cell? ((⟨b, off, none⟩ : Addr).add j) = some u := by
  intro j u hj
  have hl : j < ys.length * 2 := by
    have := (List.getElem?_eq_some_iff.1 hj).1
    rw [flat_len] at this
    exact this
  have hi := h (j / 2) (by omega)
  have hf := flat_at ys (j / 2) (by omega)
  rw [Addr.add_lit]
  by_cases he : j % 2 = 0
  · have e : j = j / 2 * 2 := by omega
    have := hf.1
    rw [← e, hj] at this
    rw [← e] at hi
    rw [hi.1, this]
  · have e : j = j / 2 * 2 + 1 := by omega
    have := hf.2
    rw [← e, hj] at this
    rw [Nat.add_assoc, ← e] at hi
    rw [hi.2, this]

section
variable {P : Program} {w : World}
/-- append(xs, ys...) onto a row of the call's own. -/
theorem wpList_append_runs {ops : Array Oper} {rest : List Oper} {o : Oper} {a : Act} {Q : Exit → Act → World → Prop} (hgd : o.guard = none) (s x : Operand) (t : TypeId)
    (ho : o.op = .call { callee := .builtin .append, args := #[s, x], argTypes := #[t, t] })
    (base : Nat) (e : TypeId) (hinf : (P.info? e).map (fun i => (i.zero, i.size, i.bytes)) = some (some (.agg #[.int .i64 0, .int .i64 0]), 2, 16)) (ht : P.underlying t = some (.slice e))
    (v : Value) (xs : List It) (hs : a.eval s = v) (hown : OwnR w base e v xs) (v2 : Value) (ys : List It) (hx : a.eval x = v2) (hr : RdR w v2 ys)
    (hbytes : (xs.length + ys.length) * 16 ≤ 140737488355328) (hbase : base ≤ w.heap.size)
    (h : ∀ v' w', OwnR w' base e v' (xs ++ ys) → w.grownBy w' v.ownBlock → wpList P ops Q rest (a.put o.dst v') w') : wpList P ops Q (o :: rest) a w := by
  obtain ⟨i0, hi, hz0, hz1, hz2⟩ := info_parts hinf
  obtain ⟨ao, cap, rfl, h1, h2, h0, h3⟩ := hr
  by_cases hn : ys = []
  · subst hn
    match ao, h0 with
    | none, h0 =>
      have := h0 rfl
      subst this
      refine wpList_append_own_none hgd s x t ho base e i0 2 ht hi v _ _ hs hown hx ?_
      exact h v w (by rw [List.append_nil]; exact hown) ⟨rfl, rfl, rfl, Nat.le_refl _, fun _ _ _ => rfl⟩
    | some ad, _ =>
      refine wpList_append_own _ hgd s x t ho base e i0 _ 2 16 ht hi hz0 hz1 hz2 rfl (by decide) v _ _ hs hown ad 0 cap [] hx rfl (by simp) (by simp) (by unfold maxLen; simp at hbytes; omega) (by simpa using hbytes) hbase ?_
      intro v' w' hown' hg _
      refine h v' w' ?_ hg
      rw [List.append_nil] at hown' ⊢
      exact hown'
  · obtain ⟨b, off, rfl, hb, hc⟩ := h3 hn
    refine wpList_append_own _ hgd s x t ho base e i0 _ 2 16 ht hi hz0 hz1 hz2 rfl (by decide) v _ _ hs hown ⟨b, off, none⟩ ys.length cap (flat ys) hx (flat_len ys) (RdR.cells hc) (flat_one ys) (by unfold maxLen; omega) hbytes hbase ?_
    intro v' w' hown' hg _
    refine h v' w' ?_ hg
    unfold OwnR
    rw [List.length_append, flat_app]
    exact hown'
end
theorem Try.info_run : (Try.prog.info? 24).map (fun i => (i.zero, i.size, i.bytes)) = some (some (.agg #[.int .i64 0, .int .i64 0]), 2, 16) := by kernel_rfl
theorem Try.info_rrun : (Try.prog.info? 76).map (fun i => (i.zero, i.size, i.bytes)) = some (some (.agg #[.int .i64 0, .int .i64 0]), 2, 16) := by kernel_rfl
/-- A run, laid new. -/
theorem RdR.lit1 (w : World) (e : TypeId) (x : It) : RdR (w.alloc (.cells #[.int .i64 x.1, .int .i64 x.2] e)) (.slice (some ⟨w.heap.size, 0, none⟩) 1 1) [x] := by
  have h := World.ownsRow_lit (base := w.heap.size) (e := e) (size := 2) w #[.int .i64 x.1, .int .i64 x.2] 1 (Nat.le_refl _) (by simp [maxLen]) (by simp)
  exact OwnR.rd (base := w.heap.size) (e := e) (xs := [x]) (by simpa [OwnR, flat] using h)
end Go.Proofs.Ytcdamhgblolofaa
