/- The document's bank in memory: one block of 128 registers, and what the unnamed one points to. -/
import Derived.Test.YtmldfjhfgaggpaaGRefJ
import Derived.Test.YtmldfjhfgaggpaaGTake
namespace Go.Proofs.Ytmldfjhfgaggpaa
open Go.RowKit
variable {F : Nat → Prop}

/-- What a register's two cells show. -/
def Hld (F : Nat → Prop) (w : World) (k : Int) (u : Value) (o : Option Rg) : Prop := (k = 0 ∨ k = 1) ∧ ∃ t, RdS w u t ∧ (t ≠ [] → ∀ q, F q → Off u q) ∧ t.length ≤ 140000 ∧ match o with
  | none => t = []
  | some r => k = r.k ∧ t = r.t
/-- At block q lies the document's bank. -/
def Rb (F : Nat → Prop) (w : World) (q : Nat) (s : Bs) : Prop := ∃ arr : Array Value, w.heap[q]? = some (.cells arr 97 (0, 0)) ∧ arr.size = 257 ∧ arr[256]? = some (.int .i64 s.p) ∧ (F q ∧ ∀ g, F g → g < w.heap.size) ∧
  ∀ n : Nat, n < 128 → ∃ k u, arr[n * 2]? = some (.int .i64 k) ∧ arr[n * 2 + 1]? = some u ∧ Hld F w k u (s.m (n : Int))
theorem cellOf {w : World} {q : Nat} {T : TypeId} {arr : Array Value} (h : w.heap[q]? = some (.cells arr T (0, 0))) (i : Nat) : w.cell? ⟨q, i, none⟩ = arr[i]? := by simp [World.cell?, h]
theorem frozOf {w : World} {q : Nat} {T : TypeId} {arr : Array Value} (h : w.heap[q]? = some (.cells arr T (0, 0))) (i : Nat) : w.frozen? ⟨q, i, none⟩ = false := by simp [World.frozen?, h]
theorem Hld.ext {w w' : World} {k : Int} {u : Value} {o : Option Rg} (h : Hld F w k u o) (hb : Below w.heap.size w w') : Hld F w' k u o := by
  obtain ⟨h0, t, h1, h2⟩ := h
  exact ⟨h0, t, h1.ext hb, h2⟩
theorem Hld.form {w : World} {k : Int} {u : Value} {o : Option Rg} (h : Hld F w k u o) : ∃ ao n c, u = .slice ao n c := by
  obtain ⟨_, t, h1, _⟩ := h
  obtain ⟨ao, c, e, _⟩ := h1.len
  exact ⟨ao, _, c, e⟩
theorem Rb.lt {w : World} {q : Nat} {s : Bs} (h : Rb F w q s) : q < w.heap.size := by
  obtain ⟨arr, h1, _⟩ := h
  exact (Array.getElem?_eq_some_iff.1 h1).1
theorem Rb.fq {w : World} {q : Nat} {s : Bs} (h : Rb F w q s) : F q := by
  obtain ⟨arr, _, _, _, h4, _⟩ := h
  exact h4.1
theorem Rb.fl {w : World} {q : Nat} {s : Bs} (h : Rb F w q s) : ∀ g, F g → g < w.heap.size := by
  obtain ⟨arr, _, _, _, h4, _⟩ := h
  exact h4.2
theorem Rb.ext {w w' : World} {q : Nat} {s : Bs} (h : Rb F w q s) (hb : Below w.heap.size w w') : Rb F w' q s := by
  have hl := h.lt
  obtain ⟨arr, h1, h2, h3, h4, h5⟩ := h
  refine ⟨arr, (hb.block q hl).trans h1, h2, h3, ⟨h4.1, fun g hg => Nat.lt_of_lt_of_le (h4.2 g hg) hb.size⟩, fun n hn => ?_⟩
  obtain ⟨k, u, a, b, c⟩ := h5 n hn
  exact ⟨k, u, a, b, c.ext hb⟩
/-- What is read of a register. -/
theorem Rb.at {w : World} {q : Nat} {s : Bs} (h : Rb F w q s) (n : Nat) (hn : n < 128) : ∃ k u, w.cell? ⟨q, n * 2, none⟩ = some (.int .i64 k) ∧ w.cell? ⟨q, n * 2 + 1, none⟩ = some u ∧ Hld F w k u (s.m (n : Int)) := by
  obtain ⟨arr, h1, h2, h3, h4, h5⟩ := h
  obtain ⟨k, u, a, b, c⟩ := h5 n hn
  exact ⟨k, u, (cellOf h1 _).trans a, (cellOf h1 _).trans b, c⟩
theorem Rb.to {w : World} {q : Nat} {s : Bs} (h : Rb F w q s) : w.cell? ⟨q, 256, none⟩ = some (.int .i64 s.p) := by
  obtain ⟨arr, h1, h2, h3, h4, h5⟩ := h
  exact (cellOf h1 _).trans h3
theorem Rb.froz {w : World} {q : Nat} {s : Bs} (h : Rb F w q s) (i : Nat) : w.frozen? ⟨q, i, none⟩ = false := by
  obtain ⟨arr, h1, _⟩ := h
  exact frozOf h1 i
theorem Hld.turn {w w' : World} {k : Int} {u : Value} {o : Option Rg} {q : Nat} (h : Hld F w k u o) (hg : w.grownBy w' (some q)) (hq : F q) : Hld F w' k u o := by
  obtain ⟨h0, t, h1, h2, h3⟩ := h
  exact ⟨h0, t, h1.other hg (fun hn => h2 hn q hq), h2, h3⟩
/-- A register is written. -/
theorem Rb.put {w : World} {q : Nat} {s : Bs} (h : Rb F w q s) (n : Nat) (hn : n < 128) (k : Int) (u : Value) (o : Option Rg) (hh : Hld F w k u o) :
    Rb F ((w.setCell ⟨q, n * 2, none⟩ (.int .i64 k)).setCell ⟨q, n * 2 + 1, none⟩ u) q ⟨upd s.m (n : Int) o, s.p⟩ ∧ w.grownBy ((w.setCell ⟨q, n * 2, none⟩ (.int .i64 k)).setCell ⟨q, n * 2 + 1, none⟩ u) (some q) := by
  obtain ⟨arr, h1, h2, h3, h4, h5⟩ := h
  obtain ⟨e1, g1⟩ := set1 h1 (n * 2) (.int .i64 k)
  obtain ⟨e2, g2⟩ := set1 e1 (n * 2 + 1) u
  have g := grown_trans g1 g2
  refine ⟨⟨_, e2, by simp [h2], ?_, ⟨h4.1, fun y hy => Nat.lt_of_lt_of_le (h4.2 y hy) g.size⟩, fun j hj => ?_⟩, g⟩
  · rw [Array.getElem?_setIfInBounds_ne (by omega), Array.getElem?_setIfInBounds_ne (by omega)]
    exact h3
  · by_cases e : j = n
    · subst e
      refine ⟨k, u, ?_, ?_, ?_⟩
      · rw [Array.getElem?_setIfInBounds_ne (by omega), Array.getElem?_setIfInBounds_self_of_lt (by omega)]
      · rw [Array.getElem?_setIfInBounds_self_of_lt (by simp [h2]; omega)]
      · have : upd s.m (j : Int) o (j : Int) = o := by simp [upd]
        dsimp only
        rw [this]
        exact hh.turn g h4.1
    · obtain ⟨k', u', a, b, c⟩ := h5 j hj
      refine ⟨k', u', ?_, ?_, ?_⟩
      · rw [Array.getElem?_setIfInBounds_ne (by omega), Array.getElem?_setIfInBounds_ne (by omega)]; exact a
      · rw [Array.getElem?_setIfInBounds_ne (by omega), Array.getElem?_setIfInBounds_ne (by omega)]; exact b
      · have : upd s.m (n : Int) o (j : Int) = s.m (j : Int) := by unfold upd; rw [if_neg (by omega)]
        dsimp only
        rw [this]
        exact c.turn g h4.1
/-- The unnamed register is turned. -/
theorem Rb.point {w : World} {q : Nat} {s : Bs} (h : Rb F w q s) (p : Int) : Rb F (w.setCell ⟨q, 256, none⟩ (.int .i64 p)) q ⟨s.m, p⟩ ∧ w.grownBy (w.setCell ⟨q, 256, none⟩ (.int .i64 p)) (some q) := by
  obtain ⟨arr, h1, h2, h3, h4, h5⟩ := h
  obtain ⟨e1, g⟩ := set1 h1 256 (.int .i64 p)
  refine ⟨⟨_, e1, by simp [h2], ?_, ⟨h4.1, fun y hy => Nat.lt_of_lt_of_le (h4.2 y hy) g.size⟩, fun j hj => ?_⟩, g⟩
  · rw [Array.getElem?_setIfInBounds_self_of_lt (by omega)]
  · obtain ⟨k', u', a, b, c⟩ := h5 j hj
    refine ⟨k', u', ?_, ?_, c.turn g h4.1⟩
    · rw [Array.getElem?_setIfInBounds_ne (by omega)]; exact a
    · rw [Array.getElem?_setIfInBounds_ne (by omega)]; exact b
/-- Another row, none of F's blocks but one that F tells, has turned. -/
theorem Rb.grow {w w' : World} {q : Nat} {s : Bs} (h : Rb F w q s) {row : Option Nat} (hg : w.grownBy w' row) (hr : ∀ k, row = some k → F k ∧ k ≠ q) : Rb F w' q s := by
  have hl := h.lt
  obtain ⟨arr, h1, h2, h3, h4, h5⟩ := h
  refine ⟨arr, (hg.block q hl (fun e => (hr q e.symm).2 rfl)).trans h1, h2, h3, ⟨h4.1, fun g hq => Nat.lt_of_lt_of_le (h4.2 g hq) hg.size⟩, fun n hn => ?_⟩
  obtain ⟨k, u, a, b, c⟩ := h5 n hn
  refine ⟨k, u, a, b, ?_⟩
  cases row with
  | none => exact c.ext ⟨hg.os, hg.tape, hg.output, hg.size, fun k hk => hg.block k hk (by simp)⟩
  | some g => exact c.turn hg (hr g rfl).1
/-- Nothing but block q has turned. -/
def Kq (q : Nat) : World → World → Prop := Kps (fun k => k = q)
theorem Kq.of {q : Nat} {w w' : World} (h : Below w.heap.size w w') : Kq q w w' := Kps.of_below _ h
theorem Kq.set {q : Nat} {w w' : World} (h : w.grownBy w' (some q)) : Kq q w w' := Kps.grown h (fun k e _ => by cases e; rfl)
theorem Kq.trans {q : Nat} {w w' w'' : World} (h : Kq q w w') (k : Kq q w' w'') : Kq q w w'' := Kps.trans h k (fun _ _ e => e)
end Go.Proofs.Ytmldfjhfgaggpaa
