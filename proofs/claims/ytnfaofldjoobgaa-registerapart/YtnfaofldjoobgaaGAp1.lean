/- RegisterApart: what lies in memory all through. -/
import Derived.Test.YtnfaofldjoobgaaGWhole
import Derived.Test.YtnfaofldjoobgaaGSame
import Derived.Test.YtnfaofldjoobgaaGBnk3
namespace Go.Proofs.Ytnfaofldjoobgaa
open Go.RowKit
variable {F F' : Nat → Prop}

/-- v's block is none of F's; is one of F's. -/
def NF (F : Nat → Prop) (v : Value) : Prop := ∀ k, v.ownBlock = some k → ¬ F k
def YF (F : Nat → Prop) (v : Value) : Prop := ∀ k, v.ownBlock = some k → F k
theorem own_kps {T : Nat → Prop} {w w' : World} {B size n : Nat} {e : TypeId} {v : Value} {xs : List Value} (h : w.ownsRow B e size v n xs) (k : Kps T w w') (hT : ∀ q, v.ownBlock = some q → ¬ T q) : w'.ownsRow B e size v n xs := by
  obtain ⟨h1, h2⟩ := h
  refine ⟨h1, ?_⟩
  rcases h2 with h2 | ⟨g, cap, cur, hv, hb, hg, r⟩
  · exact .inl h2
  · exact .inr ⟨g, cap, cur, hv, hb, (k.same g (Array.getElem?_eq_some_iff.1 hg).1 (hT g (by rw [hv]; rfl))).trans hg, r⟩
theorem own_cells {w : World} {B size n : Nat} {e : TypeId} {v : Value} {xs : List Value} (h : w.ownsRow B e size v n xs) {q : Nat} (hq : v.ownBlock = some q) : ∃ cs, w.heap[q]? = some (.cells cs e (0, 0)) := by
  rcases h.2 with ⟨rfl, _⟩ | ⟨g, cap, cur, rfl, hb, hg, r⟩
  · cases hq
  · cases hq; exact ⟨cur, hg⟩
/-- T's blocks are F's, or maps. -/
def Sub (F T : Nat → Prop) (w : World) : Prop := ∀ q, T q → q < w.heap.size → F q ∨ ∃ es cl, w.heap[q]? = some (.map es cl)
theorem own_nf {T : Nat → Prop} {w w' : World} {B size n : Nat} {e : TypeId} {v : Value} {xs : List Value} (h : w.ownsRow B e size v n xs) (k : Kps T w w') (hT : Sub F T w) (hn : NF F v) : w'.ownsRow B e size v n xs :=
  own_kps h k (fun q hq hTq => by
    obtain ⟨cs, hc⟩ := own_cells h hq
    rcases hT q hTq (Array.getElem?_eq_some_iff.1 hc).1 with hf | ⟨es, cl, hm⟩
    · exact hn q hq hf
    · rw [hc] at hm; cases hm)
/-- F' is F and new blocks. -/
structure Wid (F F' : Nat → Prop) (w w' : World) : Prop where
  up : ∀ q, F q → F' q
  dn : ∀ q, F' q → q < w'.heap.size ∧ (F q ∨ w.heap.size ≤ q)
theorem NF.wid {w w' : World} {B size n : Nat} {e : TypeId} {v : Value} {xs : List Value} (hn : NF F v) (h : w.ownsRow B e size v n xs) (hF : Wid F F' w w') : NF F' v := fun q hq hf => by
  rcases (hF.dn q hf).2 with h1 | h1
  · exact hn q hq h1
  · have := (World.ownsRow.lt h q hq).2; omega
theorem YF.wid {w w' : World} {v : Value} (hn : YF F v) (hF : Wid F F' w w') : YF F' v := fun q hq => hF.up q (hn q hq)
/-- What shown told, kept. -/
def Shn (F : Nat → Prop) (w : World) (B : Nat) (lv : Value) (gs : List Rg) (ev : Value) (es : List Int) : Prop := ∃ l : List (Rg × Value), l.map Prod.fst = gs ∧ w.ownsRow B 31 2 lv l.length (fl2 l) ∧ (∀ p ∈ l, OwnI w B p.2 p.1.t ∧ Av p.2 ev ∧ NF F p.2) ∧ NF F lv ∧ OwnI w B ev es ∧ NF F ev
theorem Shn.g {w : World} {B : Nat} {lv ev : Value} {gs : List Rg} {es : List Int} (h : Shn F w B lv gs ev es) : OwnG w B lv gs ev ∧ OwnI w B ev es := by
  obtain ⟨l, h1, h2, h3, _, h5, _⟩ := h
  exact ⟨⟨l, h1, h2, fun p hp => ⟨(h3 p hp).1, (h3 p hp).2.1⟩⟩, h5⟩
theorem NF.new {w : World} {base size n : Nat} {e : TypeId} {v : Value} {xs : List Value} (h : w.ownsRow base e size v n xs) (hF : ∀ k, F k → k < base) : NF F v := fun q hq hf => by
  have := (World.ownsRow.lt h q hq).1
  have := hF q hf
  omega
theorem own_le {w : World} {base base' size n : Nat} {e : TypeId} {v : Value} {xs : List Value} (h : w.ownsRow base e size v n xs) (hb : base' ≤ base) : w.ownsRow base' e size v n xs := by
  obtain ⟨h1, h2⟩ := h
  refine ⟨h1, ?_⟩
  rcases h2 with h2 | ⟨g, cap, cur, hv, hg, r⟩
  · exact .inl h2
  · exact .inr ⟨g, cap, cur, hv, Nat.le_trans hb hg, r⟩
theorem Shn.of {w : World} {B base : Nat} {lv ev : Value} {gs : List Rg} {es : List Int} (h1 : OwnG w base lv gs ev) (h2 : OwnI w base ev es) (hF : ∀ k, F k → k < base) (hB : B ≤ base) : Shn F w B lv gs ev es := by
  obtain ⟨l, a, b, c⟩ := h1
  exact ⟨l, a, own_le b hB, fun p hp => ⟨(c p hp).1.le hB, (c p hp).2, NF.new (c p hp).1 hF⟩, NF.new b hF, h2.le hB, NF.new h2 hF⟩
theorem Shn.move {T : Nat → Prop} {w w' : World} {B : Nat} {lv ev : Value} {gs : List Rg} {es : List Int} (h : Shn F w B lv gs ev es) (k : Kps T w w') (hT : Sub F T w) : Shn F w' B lv gs ev es := by
  obtain ⟨l, h1, h2, h3, h4, h5, h6⟩ := h
  exact ⟨l, h1, own_nf h2 k hT h4, fun p hp => ⟨own_nf (h3 p hp).1 k hT (h3 p hp).2.2, (h3 p hp).2⟩, h4, own_nf h5 k hT h6, h6⟩
theorem Shn.wid {w w' : World} {B : Nat} {lv ev : Value} {gs : List Rg} {es : List Int} (h : Shn F w B lv gs ev es) (hF : Wid F F' w w') : Shn F' w B lv gs ev es := by
  obtain ⟨l, h1, h2, h3, h4, h5, h6⟩ := h
  exact ⟨l, h1, h2, fun p hp => ⟨(h3 p hp).1, (h3 p hp).2.1, (h3 p hp).2.2.wid (h3 p hp).1 hF⟩, h4.wid h2 hF, h5, h6.wid h5 hF⟩
theorem Shn.less {w : World} {B : Nat} {lv ev : Value} {gs : List Rg} {es : List Int} (h : Shn F w B lv gs ev es) (hF : ∀ k, F' k → F k) : Shn F' w B lv gs ev es := by
  obtain ⟨l, h1, h2, h3, h4, h5, h6⟩ := h
  exact ⟨l, h1, h2, fun p hp => ⟨(h3 p hp).1, (h3 p hp).2.1, fun q hq hf => (h3 p hp).2.2 q hq (hF q hf)⟩, fun q hq hf => h4 q hq (hF q hf), h5, fun q hq hf => h6 q hq (hF q hf)⟩
theorem Bk.less {w : World} {b bm N : Nat} {m : Int → Option Rg} {p : Int} (h : Bk F w b bm N m p) (hb : F' b) (hF : ∀ k, F' k → F k) : Bk F' w b bm N m p := by
  obtain ⟨a1, a2, a3, D, a4, a5⟩ := h
  refine ⟨a1, a2, ⟨hb, fun q hq => a3.2 q (hF q hq)⟩, D, a4, fun k hk => ?_⟩
  have e := a5 k hk
  cases hm : m k with
  | none => rw [hm] at e; exact e
  | some r =>
    rw [hm] at e
    obtain ⟨e1, u, e2, e3, e4, e5⟩ := e
    exact ⟨e1, u, e2, e3, fun q hq => e4 q (hF q hq), e5⟩
theorem Bk.wid {w w' : World} {b bm N : Nat} {m : Int → Option Rg} {p : Int} (h : Bk F w b bm N m p) (hF : Wid F F' w w') (k : Below w.heap.size w w') : Bk F' w' b bm N m p :=
  h.avoid k (hF.up b h.2.2.1.1) hF.dn

/-- The ghosts. -/
structure Az where
  b : Nat
  bm : Nat
  c : Nat
  cm : Nat
  d : Nat
  dm : Nat
  N : Nat
  M : Nat
  s : Bs
  t : Bs
  lv : Value
  ev : Value
  lv2 : Value
  ev2 : Value
  g2 : List Rg
  e2 : List Int
  ss : List Sf
  us : List (Value × List Int)
  ls : List (Value × List Int)
  ib : List (Nat × Array Value × TypeId)
/-- What lies all through: three banks, what was shown, the lists of the shelf and of want, loose lists (in F, apart from one another), blocks that stay. -/
structure Co (B : Nat) (F : Nat → Prop) (w : World) (a : Az) : Prop where
  bb : Bk F w a.b a.bm a.N a.s.m a.s.p
  cc : Bk F w a.c a.cm a.M a.t.m a.t.p
  dd : Bk F w a.d a.dm a.N a.s.m a.s.p
  gb : Good a.s
  gc : Good a.t
  n1 : a.b ≠ a.c ∧ a.d ≠ a.c ∧ a.bm ≠ a.cm ∧ a.dm ≠ a.cm
  sh : Shn F w B a.lv (shG a.s.m a.s.p 132) a.ev (shE a.s.m a.s.p 132)
  s2 : Shn F w B a.lv2 a.g2 a.ev2 a.e2
  sl : ∀ x ∈ a.ss, OwnI w B x.1 (List.replicate x.2.1 x.2.2) ∧ NF F x.1 ∧ x.2.1 ≤ 1000000
  ui : ∀ x ∈ a.us, OwnI w B x.1 x.2 ∧ NF F x.1
  li : ∀ x ∈ a.ls, OwnI w B x.1 x.2 ∧ YF F x.1 ∧ x.2.length ≤ 140100
  lp : a.ls.Pairwise (fun x y => Av x.1 y.1)
  ib : ∀ x ∈ a.ib, w.heap[x.1]? = some (.cells x.2.1 x.2.2 (0, 0)) ∧ ¬ F x.1
  lo : B ≤ a.c ∧ B ≤ a.cm
  sz : B ≤ w.heap.size
section
variable {B : Nat} {w w' : World} {a : Az}
theorem Co.fl (h : Co B F w a) : ∀ k, F k → k < w.heap.size := h.bb.fl
/-- Blocks of F turn, none of the banks', none of the loose lists'. -/
theorem Co.move {T : Nat → Prop} (h : Co B F w a) (k : Kps T w w') (hT : Sub F T w) (hb : ∀ q, T q → q ≠ a.b ∧ q ≠ a.bm ∧ q ≠ a.c ∧ q ≠ a.cm ∧ q ≠ a.d ∧ q ≠ a.dm) (hl : ∀ x ∈ a.ls, ∀ q, x.1.ownBlock = some q → ¬ T q) : Co B F w' a := by
  refine ⟨h.bb.kps k (fun q hq hl => ⟨(hb q hq).1, (hb q hq).2.1, (hT q hq hl).symm⟩), h.cc.kps k (fun q hq hl => ⟨(hb q hq).2.2.1, (hb q hq).2.2.2.1, (hT q hq hl).symm⟩), h.dd.kps k (fun q hq hl => ⟨(hb q hq).2.2.2.2.1, (hb q hq).2.2.2.2.2, (hT q hq hl).symm⟩), h.gb, h.gc, h.n1, h.sh.move k hT, h.s2.move k hT, fun x hx => ⟨own_nf (h.sl x hx).1 k hT (h.sl x hx).2.1, (h.sl x hx).2⟩, fun x hx => ⟨own_nf (h.ui x hx).1 k hT (h.ui x hx).2, (h.ui x hx).2⟩, fun x hx => ⟨own_kps (h.li x hx).1 k (hl x hx), (h.li x hx).2⟩, h.lp, fun x hx => ⟨?_, (h.ib x hx).2⟩, h.lo, Nat.le_trans h.sz k.size⟩
  obtain ⟨h1, h2⟩ := h.ib x hx
  refine (k.same x.1 (Array.getElem?_eq_some_iff.1 h1).1 (fun hTx => ?_)).trans h1
  rcases hT x.1 hTx (Array.getElem?_eq_some_iff.1 h1).1 with hf | ⟨es, cl, hm⟩
  · exact h2 hf
  · rw [h1] at hm; cases hm
/-- New memory, and F has some of it. -/
theorem Co.wid (h : Co B F w a) (hF : Wid F F' w w') (k : Below w.heap.size w w') : Co B F' w' a := by
  refine ⟨h.bb.wid hF k, h.cc.wid hF k, h.dd.wid hF k, h.gb, h.gc, h.n1, ?_, ?_, fun x hx => ⟨(h.sl x hx).1.ext k, (h.sl x hx).2.1.wid (h.sl x hx).1 hF, (h.sl x hx).2.2⟩, fun x hx => ⟨(h.ui x hx).1.ext k, (h.ui x hx).2.wid (h.ui x hx).1 hF⟩, fun x hx => ⟨(h.li x hx).1.ext k, (h.li x hx).2.1.wid hF, (h.li x hx).2.2⟩, h.lp, fun x hx => ⟨(k.block x.1 (Array.getElem?_eq_some_iff.1 (h.ib x hx).1).1).trans (h.ib x hx).1, fun hf => ?_⟩, h.lo, Nat.le_trans h.sz k.size⟩
  · exact (h.sh.wid hF).move (T := fun _ => False) ⟨k.os, k.tape, k.output, k.size, fun q hq _ => k.block q hq⟩ (fun q hq => hq.elim)
  · exact (h.s2.wid hF).move (T := fun _ => False) ⟨k.os, k.tape, k.output, k.size, fun q hq _ => k.block q hq⟩ (fun q hq => hq.elim)
  · rcases (hF.dn x.1 hf).2 with h1 | h1
    · exact (h.ib x hx).2 h1
    · have := (Array.getElem?_eq_some_iff.1 (h.ib x hx).1).1; omega
theorem Wid.refl (hf : ∀ k, F k → k < w.heap.size) (hs : w.heap.size ≤ w'.heap.size) : Wid F F w w' := ⟨fun _ h => h, fun q hq => ⟨Nat.lt_of_lt_of_le (hf q hq) hs, .inl hq⟩⟩
theorem Co.ext (h : Co B F w a) (k : Below w.heap.size w w') : Co B F w' a := h.wid (Wid.refl h.fl k.size) k
end
end Go.Proofs.Ytnfaofldjoobgaa
