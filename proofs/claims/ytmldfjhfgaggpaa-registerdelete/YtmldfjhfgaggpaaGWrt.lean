/- The law's writes: what holds all through. -/
import Derived.Test.YtmldfjhfgaggpaaGBack
import Derived.Test.YtmldfjhfgaggpaaGBnk
namespace Go.Proofs.Ytmldfjhfgaggpaa
open Go.RowKit
variable {F : Nat → Prop}

/-- A step's five cells. -/
def stc (x : Sv) (v : Value) : Array Value := #[.int .i64 x.k, .int .i64 x.who, .int .i64 x.n, .int .i64 x.s, v]
/-- What holds all through writes. -/
structure Wr (B : Nat) (F : Nat → Prop) (N : Nat) (w : World) (g : Nat) (z : Ws) (pv : Value) (sb : Nat) (x : Sv) (v : Value) (lb : Nat) : Prop where
  wd : Wd B F N w g z pv
  st : w.heap[sb]? = some (.cells (stc x v) 47 (0, 0))
  ls : Lst w lb x.t
  rd : RdS w v x.t
  ol : x.t ≠ [] → Old B v
  fl : F lb
  sz : B ≤ w.heap.size
section
variable {B N : Nat} {w w' : World} {g : Nat} {z : Ws} {pv : Value} {sb : Nat} {x : Sv} {v : Value} {lb : Nat}
theorem Wr.drew (h : Wr B F N w g z pv sb x v lb) : Wr B F N w.drew g z pv sb x v lb :=
  ⟨h.wd.ext (Below.refl _ _).drew, h.st, h.ls, h.rd.ext (Below.refl _ _).drew, h.ol, h.fl, h.sz⟩
theorem Wr.bank (h : Wr B F N w g z pv sb x v lb) {i : Nat} (hi : i < 2) {N' : Nat} (hN : N ≤ N') {s' : Bs} (hb : Bk F w' (z.b i) (z.bm i) N' s'.m s'.p) (k : Kb (z.b i) (z.bm i) w w') (hs : Good s') : Wr B F N' w' g { z with s := setN z.s i s' } pv sb x v lb ∧ Below B w w' := by
  obtain ⟨⟨cs, hbi⟩, es, cl, hmi⟩ := (h.wd.bk i hi).typ
  have hlo := h.wd.lo.2 i hi
  have hB := k.low (B := B) hlo.1 hlo.2.1 h.sz
  obtain ⟨cur, l1, l2⟩ := h.ls
  refine ⟨⟨h.wd.bank hi hN hb k hs, ?_, ?_, h.rd.low h.ol hB, h.ol, h.fl, Nat.le_trans h.sz hB.size⟩, hB⟩
  · exact (k.same sb (Array.getElem?_eq_some_iff.1 h.st).1 (fun e => by
      rcases e with e | e
      · exact cells_ne h.st hbi (by decide) e
      · exact map_ne h.st hmi e)).trans h.st
  · refine ⟨cur, (k.same lb (Array.getElem?_eq_some_iff.1 l1).1 (fun e => by
      rcases e with e | e
      · exact cells_ne l1 hbi (by decide) e
      · exact map_ne l1 hmi e)).trans l1, l2⟩
theorem Wr.ref (h : Wr B F N w g z pv sb x v lb) {i : Nat} (hi : i < 2) {d' : Bs} (hb : Rb F w' (z.q i) d') (k : Kq (z.q i) w w') (hs : Good d') : Wr B F N w' g { z with d := setN z.d i d' } pv sb x v lb ∧ Below B w w' := by
  obtain ⟨cs, hqi⟩ := (h.wd.rb i hi).typ
  have hB := k.low (B := B) (h.wd.lo.2 i hi).2.2 h.sz
  obtain ⟨cur, l1, l2⟩ := h.ls
  refine ⟨⟨h.wd.ref hi hb k hs, ?_, ?_, h.rd.low h.ol hB, h.ol, h.fl, Nat.le_trans h.sz hB.size⟩, hB⟩
  · exact (k.same sb (Array.getElem?_eq_some_iff.1 h.st).1 (fun e => cells_ne h.st hqi (by decide) e)).trans h.st
  · exact ⟨cur, (k.same lb (Array.getElem?_eq_some_iff.1 l1).1 (fun e => cells_ne l1 hqi (by decide) e)).trans l1, l2⟩
theorem Wr.cells (h : Wr B F N w g z pv sb x v lb) {i : Nat} (hi : i < 2) : w.cell? ⟨g, i, none⟩ = some (.pointer (some ⟨z.b i, 0, none⟩)) ∧ w.cell? ⟨g, 2 + i, none⟩ = some (.pointer (some ⟨z.q i, 0, none⟩)) ∧ w.cell? ⟨sb, 0, none⟩ = some (.int .i64 x.k) ∧ w.cell? ⟨sb, 2, none⟩ = some (.int .i64 x.n) ∧ w.cell? ⟨sb, 3, none⟩ = some (.int .i64 x.s) ∧ w.cell? ⟨sb, 4, none⟩ = some v := by
  have hc := h.wd.cells
  exact ⟨hc.1 i hi, hc.2.1 i hi, (cellOf h.st 0).trans rfl, (cellOf h.st 2).trans rfl, (cellOf h.st 3).trans rfl, (cellOf h.st 4).trans rfl⟩
/-- The list is the caller's again. -/
theorem Wr.back (h : Wr B F N w g z pv sb x v lb) (hB : B ≤ lb) (hr : BkR w lb w') : Wd B F N w' g z pv ∧ Below B w w' := by
  obtain ⟨cs, cs', h1, h2, h3, h4⟩ := hr
  exact ⟨h.wd.row h.fl h1 h2 h3 h4, (Below.refl B w).grown h4 h.sz (fun k hk => by cases hk; exact hB)⟩
end
/-- Program and document hold the same. -/
def Syn (z : Ws) : Prop := ∀ i, i < 2 → z.s i = z.d i
theorem Syn.put {z : Ws} (h : Syn z) (i : Nat) (s' : Bs) : Syn { z with s := setN z.s i s', d := setN z.d i s' } := by
  intro j hj
  dsimp only
  by_cases e : j = i
  · subst e; rw [setN_same, setN_same]
  · rw [setN_other _ _ e, setN_other _ _ e]; exact h j hj
/-- What a step leaves. -/
def StR (B N : Nat) (w : World) (g : Nat) (e : Ending) (w' : World) : Prop := e = .returned (.bool true) ∧ Hid (∃ F z pv, Wd B F N w' g z pv ∧ Syn z ∧ Below B w w')
end Go.Proofs.Ytmldfjhfgaggpaa
