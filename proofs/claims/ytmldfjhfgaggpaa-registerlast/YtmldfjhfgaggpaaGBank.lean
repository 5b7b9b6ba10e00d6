/- The bank in memory: a map of the registers that hold anything. -/
import Derived.Test.YtmldfjhfgaggpaaGApp
namespace Go.Proofs.Ytmldfjhfgaggpaa
open Go.RowKit
variable {F : Nat → Prop}

/-- A value that is held as it is. -/
def heldR (v : Value) : Option (DataW Value × List MemPlace) := some (.held v, [])
theorem law : Maps.Keyed Try.prog 3 := Maps.int_keyed Try.underlying3
def In64 (k : Int) : Prop := (Lit.int .i64 k).wf = true
theorem In64.of {k : Int} (h0 : -9223372036854775808 ≤ k) (h1 : k ≤ 9223372036854775807) : In64 k := WalkArith.wf_i64 (by omega)
theorem key_of {k : Int} (h : In64 k) : keyOf Try.prog 3 (.int .i64 k) = some (.int .i64 k) := Maps.keyOf_int_mk Try.underlying3 h
theorem RdS.other {w w' : World} {v : Value} {t : List Int} {q : Nat} (h : RdS w v t) (hg : w.grownBy w' (some q)) (hq : t ≠ [] → Off v q) : RdS w' v t := by
  obtain ⟨⟨ao, cap, hv, h1, h2, h3⟩, hs⟩ := h
  refine ⟨⟨ao, cap, hv, h1, h2, fun hn => ?_⟩, hs⟩
  obtain ⟨b, off, rfl, hb, hc⟩ := h3 hn
  refine ⟨b, off, rfl, Nat.lt_of_lt_of_le hb hg.size, fun i hi => ?_⟩
  have hne : b ≠ q := hq hn b off t.length cap hv
  have e := hg.block b hb (by simpa using hne)
  rw [← hc i hi]
  unfold World.cell?
  simp only [e]
theorem RdS.offmap {w : World} {v : Value} {t : List Int} {q : Nat} {es : Array MapEntry} {cl : Nat} (h : RdS w v t) (hm : w.heap[q]? = some (.map es cl)) (hn : t ≠ []) : Off v q := by
  intro g off n c e
  obtain ⟨b, off', c', hv, hb, _, _, hc⟩ := h.last hn
  rw [e] at hv
  cases hv
  intro hgq
  subst hgq
  have := hc 0 (List.length_pos_iff.2 hn)
  simp [World.cell?, hm] at this

/-- What a key's entry is: nothing, or a Reg that lies elsewhere. -/
def Ent (F : Nat → Prop) (w : World) (D : DataW Value) (k : Int) : Option Rg → Prop
  | none => Maps.has D (.int .i64 k) = false
  | some r => Maps.has D (.int .i64 k) = true ∧ ∃ a, D.atKey (.int .i64 k) .nil = .held (.agg #[.int .i64 r.k, .int .i64 r.t.length, .pointer a]) ∧ Hg F w (.pointer a) r.t ∧ r.t ≠ [] ∧ r.t.length ≤ 140000 ∧ (r.k = 0 ∨ r.k = 1)
/-- At block b lies a bank whose map is block bm, with at most N entries. -/
def Bk (F : Nat → Prop) (w : World) (b bm N : Nat) (m : Int → Option Rg) (p : Int) : Prop :=
  w.heap[b]? = some (.cells #[.map (some bm), .int .i64 p] 70 (0, 0)) ∧ In64 p ∧ (F b ∧ ∀ q, F q → q < w.heap.size) ∧ ∃ D, w.ownsMap Try.prog 3 heldR bm N D ∧ ∀ k, In64 k → Ent F w D k (m k)

theorem Bk.lt {w : World} {b bm N : Nat} {m : Int → Option Rg} {p : Int} (h : Bk F w b bm N m p) : b < w.heap.size ∧ bm < w.heap.size ∧ b ≠ bm := by
  obtain ⟨h1, _, _, D, hown, _⟩ := h
  refine ⟨(Array.getElem?_eq_some_iff.1 h1).1, hown.lt, fun e => ?_⟩
  subst e
  obtain ⟨es, cl, h2, _⟩ := hown
  rw [h1] at h2
  cases h2
theorem Bk.mono {w : World} {b bm N N' : Nat} {m : Int → Option Rg} {p : Int} (h : Bk F w b bm N m p) (hN : N ≤ N') : Bk F w b bm N' m p := by
  obtain ⟨h1, hip, hF, D, hown, he⟩ := h
  exact ⟨h1, hip, hF, D, hown.mono hN, he⟩
theorem Ent.ext {w w' : World} {D : DataW Value} {k : Int} {o : Option Rg} (h : Ent F w D k o) (hb : Below w.heap.size w w') : Ent F w' D k o := by
  cases o with
  | none => exact h
  | some r =>
    obtain ⟨h1, a, h2, h3, h4⟩ := h
    exact ⟨h1, a, h2, h3.ext hb, h4⟩
theorem Bk.ext {w w' : World} {b bm N : Nat} {m : Int → Option Rg} {p : Int} (h : Bk F w b bm N m p) (hb : Below w.heap.size w w') : Bk F w' b bm N m p := by
  have hl := h.lt
  obtain ⟨h1, hip, hF, D, hown, he⟩ := h
  exact ⟨(hb.block _ hl.1).trans h1, hip, ⟨hF.1, fun q hq => Nat.lt_of_lt_of_le (hF.2 q hq) hb.size⟩, D, hown.kept (row := none) ⟨hb.os, hb.tape, hb.output, hb.size, fun k hk _ => hb.block k hk⟩ (by simp), fun k hk => (he k hk).ext hb⟩
theorem Bk.cells {w : World} {b bm N : Nat} {m : Int → Option Rg} {p : Int} (h : Bk F w b bm N m p) : w.cell? ⟨b, 0, none⟩ = some (.map (some bm)) ∧ w.cell? ⟨b, 1, none⟩ = some (.int .i64 p) ∧ ∀ i, w.frozen? ⟨b, i, none⟩ = false := (cells2 h.1).2

/-- What a look-up shows. -/
def Shw (F : Nat → Prop) (w : World) (v : Value) : Option Rg → Prop
  | none => v = .agg #[.int .i64 0, .int .i64 0, .pointer none]
  | some r => ∃ a, v = .agg #[.int .i64 r.k, .int .i64 r.t.length, .pointer a] ∧ Hg F w (.pointer a) r.t ∧ r.t ≠ [] ∧ r.t.length ≤ 140000 ∧ (r.k = 0 ∨ r.k = 1)
theorem zero_reg (w : World) : (zeroValue 73).run Try.prog w = .ok (.agg #[.int .i64 0, .int .i64 0, .pointer none]) w := by kernel_rfl
theorem atKey_held {D : DataW Value} {k : Lit} {z : DataW Value} (h : Maps.has D k = true) (z' : DataW Value) : D.atKey k z = D.atKey k z' := by
  cases D <;> try (cases h; done)
  rename_i es
  obtain ⟨p, hp, hpk⟩ := List.any_eq_true.1 h
  have hs : (es.find? (fun p => p.1.sameKey k)).isSome = true := List.find?_isSome.2 ⟨p, hp, hpk⟩
  obtain ⟨x, hx⟩ := Option.isSome_iff_exists.1 hs
  simp [DataW.atKey, hx]
theorem Bk.look {w : World} {b bm N : Nat} {m : Int → Option Rg} {p : Int} (h : Bk F w b bm N m p) {k : Int} (hk : In64 k) :
    ∃ v, (∀ wq : World, wq.heap[bm]? = w.heap[bm]? → (Instr.lookup 68 (.map (some bm)) (.int .i64 k) true).run Try.prog wq = .ok (.tuple #[v, .bool (m k).isSome]) wq) ∧ Shw F w v (m k) := by
  obtain ⟨_, _, _, D, hown, he⟩ := h
  have hent := he k hk
  have hhas : Maps.has D (.int .i64 k) = (m k).isSome := by
    cases hm : m k with
    | none => rw [hm] at hent; exact hent
    | some r => rw [hm] at hent; exact hent.1
  obtain ⟨v, ps, _, hv⟩ := hown.look_ok law Try.underlying68 (zero_reg w) (zd := .held (.agg #[.int .i64 0, .int .i64 0, .pointer none])) (zp := []) rfl (key_of hk)
  refine ⟨v, fun wq heq => ?_, ?_⟩
  · have hown' : wq.ownsMap Try.prog 3 heldR bm N D := by
      obtain ⟨es, cl, h1, r⟩ := hown
      exact ⟨es, cl, heq.trans h1, r⟩
    obtain ⟨v', ps', hrun, hv'⟩ := hown'.look_ok law Try.underlying68 (zero_reg wq) (zd := .held (.agg #[.int .i64 0, .int .i64 0, .pointer none])) (zp := []) rfl (key_of hk)
    rw [hhas] at hrun
    have e1 : DataW.held v' = DataW.held v := by
      simp only [heldR, Option.some.injEq, Prod.mk.injEq] at hv hv'
      exact hv'.1.trans hv.1.symm
    cases e1
    exact hrun
  · simp only [heldR, Option.some.injEq, Prod.mk.injEq] at hv
    cases hm : m k with
    | none =>
      rw [hm] at hent
      rw [Maps.atKey_of_not_has hent] at hv
      exact (by cases hv.1; rfl)
    | some r =>
      rw [hm] at hent
      obtain ⟨h1, u, h2, h3⟩ := hent
      rw [atKey_held h1 .nil, h2] at hv
      exact ⟨u, by cases hv.1; rfl, h3⟩

def upd (m : Int → Option Rg) (k : Int) (o : Option Rg) : Int → Option Rg := fun j => if j = k then o else m j
theorem ky_ne {k j : Int} (h : j ≠ k) : (Lit.int .i64 j) ≠ .int .i64 k := fun e => by cases e; exact h rfl
theorem Ent.turn {w w' : World} {bm : Nat} {D : DataW Value} {k : Int} {o : Option Rg} {es : Array MapEntry} {cl : Nat} (h : Ent F w D k o) (hg : w.grownBy w' (some bm)) (hm : w.heap[bm]? = some (.map es cl)) : Ent F w' D k o := by
  cases o with
  | none => exact h
  | some r =>
    obtain ⟨h1, a, h2, h3, h4⟩ := h
    exact ⟨h1, a, h2, h3.other hg (.inr ⟨es, cl, hm⟩), h4⟩
/-- Another map, the same at this key. -/
theorem Ent.as {w : World} {D D' : DataW Value} {k : Int} {o : Option Rg} (h : Ent F w D k o) (h1 : Maps.has D' (.int .i64 k) = Maps.has D (.int .i64 k)) (h2 : D'.atKey (.int .i64 k) .nil = D.atKey (.int .i64 k) .nil) : Ent F w D' k o := by
  cases o with
  | none => exact h1.trans h
  | some r =>
    obtain ⟨a, u, c, d⟩ := h
    exact ⟨h1.trans a, u, h2.trans c, d⟩
theorem Bk.store {w : World} {b bm N : Nat} {m : Int → Option Rg} {p : Int} (h : Bk F w b bm N m p) {k : Int} (hk : In64 k) (hN : N < 9223372036854775807) {a : Option Addr} {r : Rg} (hs : Hg F w (.pointer a) r.t) (hn : r.t ≠ []) (hl : r.t.length ≤ 140000) (hrk : r.k = 0 ∨ r.k = 1) :
    ∃ w', (Instr.mapUpdate 68 (.map (some bm)) (.int .i64 k) (.agg #[.int .i64 r.k, .int .i64 r.t.length, .pointer a])).run Try.prog w = .ok () w' ∧ Bk F w' b bm (N + 1) (upd m k (some r)) p ∧ w.grownBy w' (some bm) := by
  have hlt := h.lt
  obtain ⟨h1, hip, hF, D, hown, he⟩ := h
  obtain ⟨w', hrun, hown', ht⟩ := hown.store (val := .agg #[.int .i64 r.k, .int .i64 r.t.length, .pointer a]) law Try.underlying68 (by unfold maxLen; omega) (key_of hk) (d := .held (.agg #[.int .i64 r.k, .int .i64 r.t.length, .pointer a])) (ps := []) rfl
  have hg := ht.grown
  obtain ⟨es, cl, _, _, hmap, _⟩ := id ht
  refine ⟨w', hrun, ⟨(hg.block b hlt.1 (by simpa using hlt.2.2)).trans h1, hip, ⟨hF.1, fun q hq => Nat.lt_of_lt_of_le (hF.2 q hq) hg.size⟩, _, hown', fun j hj => ?_⟩, hg⟩
  unfold upd
  by_cases hjk : j = k
  · subst hjk
    rw [if_pos rfl]
    exact ⟨Maps.has_put_same hown.isMap (law.key (key_of hk)) _, a, Maps.atKey_put_same hown.isMap (law.key (key_of hk)) _ _, hs.other hg (.inr ⟨es, cl, hmap⟩), hn, hl, hrk⟩
  · rw [if_neg hjk]
    exact ((he j hj).turn hg hmap).as (Maps.has_put_other (ky_ne hjk) _) (Maps.atKey_put_other (ky_ne hjk) _ _)
theorem Bk.drop {w : World} {b bm N : Nat} {m : Int → Option Rg} {p : Int} (h : Bk F w b bm N m p) {k : Int} (hk : In64 k) (ty : TypeId) :
    ∃ w', (Builtin.delete_ #[68, 3] ty #[.map (some bm), .int .i64 k]).run Try.prog w = .ok (.tuple #[]) w' ∧ Bk F w' b bm N (upd m k none) p ∧ w.grownBy w' (some bm) := by
  have hlt := h.lt
  obtain ⟨h1, hip, hF, D, hown, he⟩ := h
  obtain ⟨w', hrun, hown', ht⟩ := hown.drop law Try.underlying68 (key_of hk) ty
  have hg := ht.grown
  obtain ⟨es, cl, _, _, hmap, _⟩ := id ht
  refine ⟨w', hrun, ⟨(hg.block b hlt.1 (by simpa using hlt.2.2)).trans h1, hip, ⟨hF.1, fun q hq => Nat.lt_of_lt_of_le (hF.2 q hq) hg.size⟩, _, hown', fun j hj => ?_⟩, hg⟩
  unfold upd
  by_cases hjk : j = k
  · subst hjk
    rw [if_pos rfl]
    exact Maps.has_del_same
  · rw [if_neg hjk]
    exact ((he j hj).turn hg hmap).as (Maps.has_del_other (ky_ne hjk)) (Maps.atKey_del_other (ky_ne hjk) _)
theorem Bk.point {w : World} {b bm N : Nat} {m : Int → Option Rg} {p : Int} (h : Bk F w b bm N m p) {q : Int} (hq : In64 q) : Bk F (w.setCell ⟨b, 1, none⟩ (.int .i64 q)) b bm N m q ∧ w.grownBy (w.setCell ⟨b, 1, none⟩ (.int .i64 q)) (some b) := by
  have hlt := h.lt
  obtain ⟨h1, _, hF, D, hown, he⟩ := h
  obtain ⟨h2, hg⟩ := set1 h1 1 (.int .i64 q)
  refine ⟨⟨h2, hq, ⟨hF.1, fun q hq => Nat.lt_of_lt_of_le (hF.2 q hq) hg.size⟩, D, hown.setCell hlt.2.2.symm _, fun j hj => ?_⟩, hg⟩
  have := he j hj
  cases hm : m j with
  | none => rw [hm] at this; exact this
  | some r =>
    rw [hm] at this
    obtain ⟨a, u, c, d, e⟩ := this
    exact ⟨a, u, c, d.other hg (.inl hF.1), e⟩
/-- Nothing but the bank's two blocks has turned. -/
def Kb (b bm : Nat) : World → World → Prop := Kps (fun k => k = b ∨ k = bm)
theorem Kb.of_b {b bm : Nat} {w w' : World} (h : w.grownBy w' (some b)) : Kb b bm w w' := Kps.grown h (fun k e _ => .inl (by cases e; rfl))
theorem Kb.of_m {b bm : Nat} {w w' : World} (h : w.grownBy w' (some bm)) : Kb b bm w w' := Kps.grown h (fun k e _ => .inr (by cases e; rfl))
theorem Kb.of {b bm : Nat} {w w' : World} (h : Below w.heap.size w w') : Kb b bm w w' := Kps.of_below _ h
theorem Kb.trans {b bm : Nat} {w w' w'' : World} (h : Kb b bm w w') (k : Kb b bm w' w'') : Kb b bm w w'' := Kps.trans h k (fun _ _ e => e)
theorem Kb.refl (b bm : Nat) (w : World) : Kb b bm w w := Kps.refl _ _
theorem Kb.block {b bm : Nat} {w w' : World} (h : Kb b bm w w') {k : Nat} (hk : k < w.heap.size) (h1 : k ≠ b) (h2 : k ≠ bm) : w'.heap[k]? = w.heap[k]? := h.same k hk (fun e => by rcases e with e | e <;> contradiction)
theorem Kb.rds {b bm : Nat} {w w' : World} {v : Value} {t : List Int} {es : Array MapEntry} {cl : Nat} (h : RdS w v t) (k : Kb b bm w w') (ho : Off v b) (hm : w.heap[bm]? = some (.map es cl)) : RdS w' v t := by
  obtain ⟨⟨ao, cap, hv, h1, h2, h3⟩, hs⟩ := id h
  refine ⟨⟨ao, cap, hv, h1, h2, fun hn => ?_⟩, hs⟩
  obtain ⟨g, off, rfl, hb, hc⟩ := h3 hn
  refine ⟨g, off, rfl, Nat.lt_of_lt_of_le hb k.size, fun i hi => ?_⟩
  have e := k.block hb (ho g off _ _ hv) (h.offmap hm hn g off _ _ hv)
  rw [← hc i hi]
  unfold World.cell?
  simp only [e]
theorem Kb.hg {b bm : Nat} {w w' : World} {v : Value} {t : List Int} {es : Array MapEntry} {cl : Nat} (h : Hg F w v t) (k : Kb b bm w w') (hb : F b) (hm : w.heap[bm]? = some (.map es cl)) : Hg F w' v t := by
  obtain ⟨ps, h1, h2⟩ := h
  exact ⟨ps, Chn.stay k.size (fun g hlt hf hmp => k.block hlt (fun e => hf (e ▸ hb)) (fun e => hmp es cl (e ▸ hm))) (fun q h => .inl h) _ _ h1, h2⟩
/-- Other blocks that the texts avoid: new ones. -/
theorem Bk.avoid {F' : Nat → Prop} {w w' : World} {b bm N : Nat} {m : Int → Option Rg} {p : Int} (h : Bk F w b bm N m p) (hb : Below w.heap.size w w') (h1 : F' b) (h2 : ∀ q, F' q → q < w'.heap.size ∧ (F q ∨ w.heap.size ≤ q)) : Bk F' w' b bm N m p := by
  obtain ⟨a1, a2, a3, D, a4, a5⟩ := h.ext hb
  refine ⟨a1, a2, ⟨h1, fun q hq => (h2 q hq).1⟩, D, a4, fun k hk => ?_⟩
  obtain ⟨_, _, _, D0, c4, c5⟩ := id h
  have e := a5 k hk
  cases hm : m k with
  | none => rw [hm] at e; exact e
  | some r =>
    rw [hm] at e
    obtain ⟨e1, u, e2, e3, e4⟩ := e
    have hD : D = D0 := by
      obtain ⟨es, cl, x1, _, _, x2⟩ := a4
      obtain ⟨es', cl', y1, _, _, y2⟩ := c4
      rw [hb.block bm h.lt.2.1, y1] at x1
      cases x1
      rw [x2, y2]
    subst hD
    have f := c5 k hk
    rw [hm] at f
    obtain ⟨_, u', f2, f3, _⟩ := f
    rw [e2] at f2
    cases f2
    exact ⟨e1, u, e2, f3.avoid hb (fun q hq => (h2 q hq).2), e4⟩
/-- A row that the texts avoid has grown. -/
theorem Bk.grow {w w' : World} {b bm N : Nat} {m : Int → Option Rg} {p : Int} (h : Bk F w b bm N m p) {row : Option Nat} (hg : w.grownBy w' row) (hr : ∀ k, row = some k → F k ∧ k ≠ b ∧ k ≠ bm) : Bk F w' b bm N m p := by
  have hlt := h.lt
  obtain ⟨a1, a2, a3, D, a4, a5⟩ := h
  refine ⟨(hg.block b hlt.1 (fun e => (hr b e.symm).2.1 rfl)).trans a1, a2, ⟨a3.1, fun q hq => Nat.lt_of_lt_of_le (a3.2 q hq) hg.size⟩, D, a4.kept hg (fun e => (hr bm e.symm).2.2 rfl), fun k hk => ?_⟩
  have e := a5 k hk
  cases hm : m k with
  | none => rw [hm] at e; exact e
  | some r =>
    rw [hm] at e
    obtain ⟨e1, u, e2, e3, e4⟩ := e
    refine ⟨e1, u, e2, ?_, e4⟩
    cases row with
    | none => exact e3.ext ⟨hg.os, hg.tape, hg.output, hg.size, fun k hk => hg.block k hk (by simp)⟩
    | some q => exact e3.other hg (.inl (hr q rfl).1)
theorem Bk.fl {w : World} {b bm N : Nat} {m : Int → Option Rg} {p : Int} (h : Bk F w b bm N m p) : ∀ q, F q → q < w.heap.size := h.2.2.1.2
abbrev F1 (b : Nat) : Nat → Prop := fun q => q = b
end Go.Proofs.Ytmldfjhfgaggpaa
