import Derived.Test.YtmldfjhfgaggpaaJ00
import Derived.Test.YtmldfjhfgaggpaaJ08
import Derived.Test.YtmldfjhfgaggpaaJ06
import Derived.Test.YtmldfjhfgaggpaaJ09
/- The document's bank in memory: one block of 128 registers, and what the unnamed one points to. -/
namespace Go.Proofs.Ytmldfjhfgaggpaa
open Go.RowKit
variable {F : Nat → Prop}

/-- What a register's two cells show. -/
def Hld (F : Nat → Prop) (w : World) (k : Int) (u : Value) (o : Option Rg) : Prop := (k = 0 ∨ k = 1) ∧ ∃ t, RdS w u t ∧ (t ≠ [] → ∀ q, F q → Off u q) ∧ t.length ≤ 140000 ∧ match o with
  | none => t = []
  | some r => k = r.k ∧ t = r.t
/-- At block q lies the document's bank. -/
def Rb (F : Nat → Prop) (w : World) (q : Nat) (s : Bs) : Prop := ∃ arr : Array Value, w.heap[q]? = some (.cells arr 97 (0, 0)) ∧ arr.size = 257 ∧ arr[256]? = some (.int .i64 s.p) ∧ (F q ∧ ∀ g, F g → g < w.heap.size) ∧
  ∀ n : Nat, n < 128 → ∃ k u, arr[n * 2]? = some (.int .i64 k) ∧ arr[n * 2 + 1]? = some u ∧ Hld F w k u (s.m (n : Int))
theorem cellOf {w : World} {q : Nat} {T : TypeId} {arr : Array Value} (h : w.heap[q]? = some (.cells arr T (0, 0))) (i : Nat) : w.cell? ⟨q, i, none⟩ = arr[i]? := by simp [World.cell?, h]
theorem frozOf {w : World} {q : Nat} {T : TypeId} {arr : Array Value} (h : w.heap[q]? = some (.cells arr T (0, 0))) (i : Nat) : w.frozen? ⟨q, i, none⟩ = false := by simp [World.frozen?, h]
theorem Hld.ext {w w' : World} {k : Int} {u : Value} {o : Option Rg} (h : Hld F w k u o) (hb : Below w.heap.size w w') : Hld F w' k u o := by
  obtain ⟨h0, t, h1, h2⟩ := h
  exact ⟨h0, t, h1.ext hb, h2⟩
theorem Hld.form {w : World} {k : Int} {u : Value} {o : Option Rg} (h : Hld F w k u o) : ∃ ao n c, u = .slice ao n c := by
  obtain ⟨_, t, h1, _⟩ := h
  obtain ⟨ao, c, e, _⟩ := h1.len
  exact ⟨ao, _, c, e⟩
theorem Rb.lt {w : World} {q : Nat} {s : Bs} (h : Rb F w q s) : q < w.heap.size := by
  obtain ⟨arr, h1, _⟩ := h
  exact (Array.getElem?_eq_some_iff.1 h1).1
theorem Rb.fq {w : World} {q : Nat} {s : Bs} (h : Rb F w q s) : F q := by
  obtain ⟨arr, _, _, _, h4, _⟩ := h
  exact h4.1
theorem Rb.fl {w : World} {q : Nat} {s : Bs} (h : Rb F w q s) : ∀ g, F g → g < w.heap.size := by
  obtain ⟨arr, _, _, _, h4, _⟩ := h
  exact h4.2
theorem Rb.ext {w w' : World} {q : Nat} {s : Bs} (h : Rb F w q s) (hb : Below w.heap.size w w') : Rb F w' q s := by
  have hl := h.lt
  obtain ⟨arr, h1, h2, h3, h4, h5⟩ := h
  refine ⟨arr, (hb.block q hl).trans h1, h2, h3, ⟨h4.1, fun g hg => Nat.lt_of_lt_of_le (h4.2 g hg) hb.size⟩, fun n hn => ?_⟩
  obtain ⟨k, u, a, b, c⟩ := h5 n hn
  exact ⟨k, u, a, b, c.ext hb⟩
/-- What is read of a register. -/
theorem Rb.at {w : World} {q : Nat} {s : Bs} (h : Rb F w q s) (n : Nat) (hn : n < 128) : ∃ k u, w.cell? ⟨q, n * 2, none⟩ = some (.int .i64 k) ∧ w.cell? ⟨q, n * 2 + 1, none⟩ = some u ∧ Hld F w k u (s.m (n : Int)) := by
  obtain ⟨arr, h1, h2, h3, h4, h5⟩ := h
  obtain ⟨k, u, a, b, c⟩ := h5 n hn
  exact ⟨k, u, (cellOf h1 _).trans a, (cellOf h1 _).trans b, c⟩
theorem Rb.to {w : World} {q : Nat} {s : Bs} (h : Rb F w q s) : w.cell? ⟨q, 256, none⟩ = some (.int .i64 s.p) := by
  obtain ⟨arr, h1, h2, h3, h4, h5⟩ := h
  exact (cellOf h1 _).trans h3
theorem Rb.froz {w : World} {q : Nat} {s : Bs} (h : Rb F w q s) (i : Nat) : w.frozen? ⟨q, i, none⟩ = false := by
  obtain ⟨arr, h1, _⟩ := h
  exact frozOf h1 i
theorem Hld.turn {w w' : World} {k : Int} {u : Value} {o : Option Rg} {q : Nat} (h : Hld F w k u o) (hg : w.grownBy w' (some q)) (hq : F q) : Hld F w' k u o := by
  obtain ⟨h0, t, h1, h2, h3⟩ := h
  exact ⟨h0, t, h1.other hg (fun hn => h2 hn q hq), h2, h3⟩
/-- A register is written. -/
theorem Rb.put {w : World} {q : Nat} {s : Bs} (h : Rb F w q s) (n : Nat) (hn : n < 128) (k : Int) (u : Value) (o : Option Rg) (hh : Hld F w k u o) :
    Rb F ((w.setCell ⟨q, n * 2, none⟩ (.int .i64 k)).setCell ⟨q, n * 2 + 1, none⟩ u) q ⟨upd s.m (n : Int) o, s.p⟩ ∧ w.grownBy ((w.setCell ⟨q, n * 2, none⟩ (.int .i64 k)).setCell ⟨q, n * 2 + 1, none⟩ u) (some q) := by
  obtain ⟨arr, h1, h2, h3, h4, h5⟩ := h
  obtain ⟨e1, g1⟩ := set1 h1 (n * 2) (.int .i64 k)
  obtain ⟨e2, g2⟩ := set1 e1 (n * 2 + 1) u
  have g := grown_trans g1 g2
  refine ⟨⟨_, e2, by simp [h2], ?_, ⟨h4.1, fun y hy => Nat.lt_of_lt_of_le (h4.2 y hy) g.size⟩, fun j hj => ?_⟩, g⟩
  · rw [Array.getElem?_setIfInBounds_ne (by omega), Array.getElem?_setIfInBounds_ne (by omega)]
    exact h3
  · by_cases e : j = n
    · subst e
      refine ⟨k, u, ?_, ?_, ?_⟩
      · rw [Array.getElem?_setIfInBounds_ne (by omega), Array.getElem?_setIfInBounds_self_of_lt (by omega)]
      · rw [Array.getElem?_setIfInBounds_self_of_lt (by simp [h2]; omega)]
      · have : upd s.m (j : Int) o (j : Int) = o := by simp [upd]
        dsimp only
        rw [this]
        exact hh.turn g h4.1
    · obtain ⟨k', u', a, b, c⟩ := h5 j hj
      refine ⟨k', u', ?_, ?_, ?_⟩
      · rw [Array.getElem?_setIfInBounds_ne (by omega), Array.getElem?_setIfInBounds_ne (by omega)]; exact a
      · rw [Array.getElem?_setIfInBounds_ne (by omega), Array.getElem?_setIfInBounds_ne (by omega)]; exact b
      · have : upd s.m (n : Int) o (j : Int) = s.m (j : Int) := by unfold upd; rw [if_neg (by omega)]
        dsimp only
        rw [this]
        exact c.turn g h4.1
/-- The unnamed register is turned. -/
theorem Rb.point {w : World} {q : Nat} {s : Bs} (h : Rb F w q s) (p : Int) : Rb F (w.setCell ⟨q, 256, none⟩ (.int .i64 p)) q ⟨s.m, p⟩ ∧ w.grownBy (w.setCell ⟨q, 256, none⟩ (.int .i64 p)) (some q) := by
  obtain ⟨arr, h1, h2, h3, h4, h5⟩ := h
  obtain ⟨e1, g⟩ := set1 h1 256 (.int .i64 p)
  refine ⟨⟨_, e1, by simp [h2], ?_, ⟨h4.1, fun y hy => Nat.lt_of_lt_of_le (h4.2 y hy) g.size⟩, fun j hj => ?_⟩, g⟩
  · rw [Array.getElem?_setIfInBounds_self_of_lt (by omega)]
  · obtain ⟨k', u', a, b, c⟩ := h5 j hj
    refine ⟨k', u', ?_, ?_, c.turn g h4.1⟩
    · rw [Array.getElem?_setIfInBounds_ne (by omega)]; exact a
    · rw [Array.getElem?_setIfInBounds_ne (by omega)]; exact b
/-- Another row, none of F's blocks but one that F tells, has turned. -/
theorem Rb.grow {w w' : World} {q : Nat} {s : Bs} (h : Rb F w q s) {row : Option Nat} (hg : w.grownBy w' row) (hr : ∀ k, row = some k → F k ∧ k ≠ q) : Rb F w' q s := by
  have hl := h.lt
  obtain ⟨arr, h1, h2, h3, h4, h5⟩ := h
  refine ⟨arr, (hg.block q hl (fun e => (hr q e.symm).2 rfl)).trans h1, h2, h3, ⟨h4.1, fun g hq => Nat.lt_of_lt_of_le (h4.2 g hq) hg.size⟩, fun n hn => ?_⟩
  obtain ⟨k, u, a, b, c⟩ := h5 n hn
  refine ⟨k, u, a, b, ?_⟩
  cases row with
  | none => exact c.ext ⟨hg.os, hg.tape, hg.output, hg.size, fun k hk => hg.block k hk (by simp)⟩
  | some g => exact c.turn hg (hr g rfl).1
/-- Nothing but block q has turned. -/
def Kq (q : Nat) : World → World → Prop := Kps (fun k => k = q)
theorem Kq.of {q : Nat} {w w' : World} (h : Below w.heap.size w w') : Kq q w w' := Kps.of_below _ h
theorem Kq.set {q : Nat} {w w' : World} (h : w.grownBy w' (some q)) : Kq q w w' := Kps.grown h (fun k e _ => by cases e; rfl)
theorem Kq.trans {q : Nat} {w w' w'' : World} (h : Kq q w w') (k : Kq q w' w'') : Kq q w w'' := Kps.trans h k (fun _ _ e => e)
end Go.Proofs.Ytmldfjhfgaggpaa

/- Pure: banks as they may be; the document's way of taking is the code's. -/
namespace Go.Proofs.Ytmldfjhfgaggpaa
open Go.RowKit

/-- A Reg as a bank holds it. -/
structure GoodR (r : Rg) : Prop where
  ne : r.t ≠ []
  kd : r.k = 0 ∨ r.k = 1
  en : r.k = 1 → ends r.t = true
structure Good (s : Bs) : Prop where
  nm : ∀ k r, s.m k = some r → (0 ≤ k ∧ k < 128 ∧ grB k = false) ∧ GoodR r ∧ r.t.length ≤ 140000
  pt : 0 ≤ s.p ∧ s.p < 128 ∧ grB s.p = false
theorem Good.empty : Good ⟨fun _ => none, 0⟩ := ⟨fun k r h => by simp at h, by decide⟩
theorem ends_app (s t : List Int) (h : t ≠ []) : ends (s ++ t) = ends t := by
  unfold ends
  rw [List.getLast?_append]
  cases ht : t.getLast? with
  | none => exact absurd (List.getLast?_eq_none_iff.1 ht) h
  | some x => rfl
theorem ends_drop (t : List Int) (n : Nat) (h : n < t.length) : ends (t.drop n) = ends t := by
  conv => rhs; rw [← List.take_append_drop n t]
  rw [ends_app]
  intro e
  have := congrArg List.length e
  simp at this
  omega
theorem lbr_ends (t : List Int) (h : t ≠ []) : ends (lbr t) = ends t ∧ lbr t ≠ [] := by
  have hp := List.length_pos_iff.2 h
  unfold lbr
  split
  · rename_i hc
    exact ⟨ends_drop _ _ (by omega), by intro e; have := congrArg List.length e; simp at this; omega⟩
  · exact ⟨ends_drop _ _ (by omega), by intro e; have := congrArg List.length e; simp at this; omega⟩
theorem cls_good {k : Int} {t : List Int} (hk : k = 0 ∨ k = 1) (h : t ≠ [] ∨ k = 1) : GoodR ⟨k, cls k t⟩ := by
  refine ⟨?_, hk, fun e => ?_⟩
  · exact List.length_pos_iff.1 (cls_pos ⟨k, t⟩ h)
  · dsimp only at e ⊢
    subst e
    unfold cls
    cases he : ends t
    · simp only [Bool.not_false, Bool.and_true, beq_self_eq_true, if_true]
      rw [ends_app _ _ (by simp)]
      rfl
    · simp [he]
theorem apd_good {x y : Rg} (hx : GoodR x) (hy : GoodR y) : GoodR (apd x y) := by
  obtain ⟨x1, x2, x3⟩ := hx
  obtain ⟨y1, y2, y3⟩ := hy
  unfold apd
  split
  · rename_i hk
    refine ⟨by simp [y1], y2, fun e => ?_⟩
    dsimp only at e ⊢
    rw [ends_app _ _ y1]
    exact y3 e
  · rename_i hk
    split
    · rename_i hk1
      refine ⟨by simp [y1], .inr rfl, fun _ => ?_⟩
      dsimp only
      rw [ends_app _ _ (by simp [y1]), ends_app _ _ y1]
      exact y3 hk1
    · rename_i hk1
      have hx1 : x.k = 1 := by rcases x2 with h | h <;> rcases y2 with h' | h' <;> first | exact h | (exact absurd (h.trans h'.symm) hk) | (exact absurd h' hk1)
      have := lbr_ends x.t x1
      refine ⟨by simp [y1], .inr rfl, fun _ => ?_⟩
      dsimp only
      rw [ends_app _ _ (by simp [y1]), ends_app _ _ this.2, this.1]
      exact x3 hx1
theorem nxt_good {s : Bs} (hs : Good s) {n : Int} {r : Rg} (hk : r.k = 0 ∨ r.k = 1) (h : r.t ≠ [] ∨ r.k = 1) : GoodR (nxt s.m n r) := by
  have hc := cls_good hk h
  unfold nxt
  cases hm : s.m (sml n) with
  | none => exact hc
  | some o =>
    dsimp only
    split
    · exact apd_good (hs.nm _ _ hm).2.1 hc
    · exact hc
/-- The document's way: what a register would hold behind y. -/
def ow (m : Int → Option Rg) (n : Int) (y : Rg) : Rg := if grB n = true then (match m (sml n) with
  | none => y
  | some o => jnd o y) else y
theorem ow_nxt {s : Bs} (hs : Good s) {n : Int} {r : Rg} (hk : r.k = 0 ∨ r.k = 1) (h : r.t ≠ [] ∨ r.k = 1) : ow s.m n ⟨r.k, cls r.k r.t⟩ = nxt s.m n r := by
  have hc := cls_good hk h
  unfold ow nxt
  cases hm : s.m (sml n) with
  | none => simp
  | some o =>
    dsimp only
    split
    · have ho := (hs.nm _ _ hm).2.1
      exact jnd_apd _ _ ho.ne hc.ne ho.kd hc.kd ho.en hc.en
    · rfl
theorem nxt_len (m : Int → Option Rg) (n : Int) (r : Rg) : r.t.length ≤ (nxt m n r).t.length := by
  have h1 := (cls_len r.k r.t).1
  unfold nxt
  cases m (sml n) with
  | none => exact h1
  | some o =>
    dsimp only
    split
    · refine Nat.le_trans h1 ?_
      unfold apd
      split
      · simp
      · split <;> simp <;> omega
    · exact h1
theorem wrtn_fine (m : Int → Option Rg) (n : Int) (r : Rg) : wrtn m n r = if 140000 < (nxt m n r).t.length then none else some (nxt m n r) := by
  have := nxt_len m n r
  unfold wrtn
  by_cases h : 140000 < (nxt m n r).t.length
  · rw [if_pos (.inr h), if_pos h]
  · rw [if_neg (by omega), if_neg h]
theorem Good.put {s : Bs} (hs : Good s) {k : Int} (hk : 0 ≤ k ∧ k < 128 ∧ grB k = false) {r : Rg} (hr : GoodR r) (hl : r.t.length ≤ 140000) {p : Int} (hp : 0 ≤ p ∧ p < 128 ∧ grB p = false) : Good ⟨upd s.m k (some r), p⟩ := by
  refine ⟨fun j x h => ?_, hp⟩
  dsimp only [upd] at h
  split at h
  · rename_i e
    subst e
    cases h
    exact ⟨hk, hr, hl⟩
  · exact hs.nm j x h
theorem Good.cut {s : Bs} (hs : Good s) (k : Int) : Good ⟨upd s.m k none, s.p⟩ := by
  refine ⟨fun j x h => ?_, hs.pt⟩
  dsimp only [upd] at h
  split at h
  · cases h
  · exact hs.nm j x h
theorem Good.shift {s : Bs} (hs : Good s) {d : Int} (hd : 48 ≤ d) : Good ⟨rng s.m d, s.p⟩ := by
  refine ⟨fun j x h => ?_, hs.pt⟩
  dsimp only [rng] at h
  split at h
  · rename_i e
    refine ⟨⟨by omega, by omega, ?_⟩, (hs.nm _ x h).2⟩
    unfold grB
    simp
    omega
  · exact hs.nm j x h
theorem nm_range {n : Int} (h : nmB n = true) : 0 ≤ n ∧ n < 128 := by
  unfold nmB smB grB dgB unB rdB at h
  simp only [Bool.or_eq_true, Bool.and_eq_true, decide_eq_true_eq, beq_iff_eq] at h
  omega
theorem sml_range {n : Int} (h : 0 ≤ n ∧ n < 128) : 0 ≤ sml n ∧ sml n < 128 ∧ grB (sml n) = false := by
  unfold sml
  split
  · rename_i hg
    unfold grB at hg ⊢
    simp only [Bool.and_eq_true, decide_eq_true_eq] at hg
    refine ⟨by omega, by omega, ?_⟩
    simp
    omega
  · rename_i hg
    exact ⟨h.1, h.2, by simpa using hg⟩
theorem Good.take {s : Bs} (hs : Good s) {n : Int} (hn : 0 ≤ n ∧ n < 128) {r : Rg} (hk : r.k = 0 ∨ r.k = 1) : Good (takeB s n r).2 := by
  cases hz : (n == 95 || nil? r) with
  | true => rw [takeB_skip hz]; exact hs
  | false =>
    have hr : r.t ≠ [] ∨ r.k = 1 := by
      rw [Bool.or_eq_false_iff] at hz
      have := hz.2
      unfold nil? at this
      rcases hk with h | h
      · left
        intro e
        rw [h, e] at this
        simp at this
      · exact .inr h
    cases hw : wrtn s.m n r with
    | none => rw [takeB_none hz hw]; exact hs
    | some x =>
      rw [takeB_some hz hw]
      rw [wrtn_fine] at hw
      split at hw
      · cases hw
      · cases hw
        exact hs.put (sml_range hn) (nxt_good hs hk hr) (by omega) (sml_range hn)
theorem Good.ring {s : Bs} (hs : Good s) {r : Rg} (hk : r.k = 0 ∨ r.k = 1) (hr : r.t ≠ [] ∨ r.k = 1) : Good (ringB s r).2 := by
  unfold ringB
  cases hw : wrtn s.m 49 r with
  | none => exact hs
  | some x =>
    rw [wrtn_fine] at hw
    split at hw
    · cases hw
    · cases hw
      exact (hs.shift (d := 49) (by omega)).put (by decide) (nxt_good hs hk hr) (by omega) (by decide)
theorem refE_ok {n k : Int} (h : refE n k = 0) : nmB n = true ∧ rdB n = false ∧ (k = 0 ∨ k = 1) := by
  unfold refE at h
  split at h
  · rename_i h1
    split at h
    · omega
    · rename_i h2
      split at h
      · omega
      · rename_i h3
        refine ⟨h1, by simpa using h2, ?_⟩
        simp at h3
        omega
  · omega
theorem Good.yank {s : Bs} (hs : Good s) (n : Int) (r : Rg) : Good (yankB s n r).2 := by
  unfold yankB
  split
  · rename_i h
    obtain ⟨h1, _, h3⟩ := refE_ok h
    refine hs.take ?_ h3
    split
    · omega
    · exact nm_range h1
  · exact hs
theorem Good.delete {s : Bs} (hs : Good s) (n : Int) (r : Rg) : Good (deleteB s n r).2 := by
  unfold deleteB
  split
  · rename_i h
    obtain ⟨h1, _, h3⟩ := refE_ok h
    split
    · split
      · rename_i hq
        refine hs.ring h3 ?_
        rw [Bool.or_eq_true] at hq
        rcases hq with hq | hq
        · right; simpa using hq
        · left
          intro e
          rw [e] at hq
          simp at hq
      · exact hs.take (by omega) h3
    · exact hs.take (nm_range h1) h3
  · exact hs
theorem Good.set {s : Bs} (hs : Good s) (n : Int) (t : List Int) : Good (setB s n t).2 := by
  unfold setB
  split
  · exact hs
  · rename_i h1
    split
    · exact hs
    · split
      · split
        · exact hs
        · exact hs.cut n
      · rename_i h3
        have hn : nmB n = true := by
          simp only [Bool.or_eq_true, Bool.not_eq_true', not_or, Bool.not_eq_false, Bool.not_eq_true] at h1
          exact h1.1
        have ht : t ≠ [] := by
          intro e
          rw [e] at h3
          exact h3 rfl
        unfold writeB
        cases hw : wrtn s.m n ⟨0, t⟩ with
        | none => exact hs
        | some x =>
          rw [wrtn_fine] at hw
          split at hw
          · cases hw
          · cases hw
            exact hs.put (sml_range (nm_range hn)) (nxt_good hs (.inl rfl) (.inl ht)) (by omega) hs.pt
end Go.Proofs.Ytmldfjhfgaggpaa

/- The document's names. -/
namespace Go.Proofs.Ytmldfjhfgaggpaa
open Go.RowKit

set_option maxRecDepth 100000 in
theorem r_small_any (n : Int) (w : World) : Calls Try.prog 87 #[.int .i64 n] w fun e w' => e = .returned (.bool (smB n)) ∧ w = w' := by
  unfold smB
  by_cases h1 : n ≥ 97
  · by_cases h2 : n ≤ 122
    · go_enter Try.func87, Try.ntmps87
      go_wp2
      go_ret
      exact ⟨ret_bool (by simp; omega), rfl⟩
    · go_enter Try.func87, Try.ntmps87
      go_wp2
      go_ret
      exact ⟨ret_bool (by simp; omega), rfl⟩
  · go_enter Try.func87, Try.ntmps87
    go_wp2
    go_ret
    exact ⟨ret_bool (by simp; omega), rfl⟩
set_option maxRecDepth 100000 in
theorem r_great_any (n : Int) (w : World) : Calls Try.prog 68 #[.int .i64 n] w fun e w' => e = .returned (.bool (grB n)) ∧ w = w' := by
  unfold grB
  by_cases h1 : n ≥ 65
  · by_cases h2 : n ≤ 90
    · go_enter Try.func68, Try.ntmps68
      go_wp2
      go_ret
      exact ⟨ret_bool (by simp; omega), rfl⟩
    · go_enter Try.func68, Try.ntmps68
      go_wp2
      go_ret
      exact ⟨ret_bool (by simp; omega), rfl⟩
  · go_enter Try.func68, Try.ntmps68
    go_wp2
    go_ret
    exact ⟨ret_bool (by simp; omega), rfl⟩
set_option maxRecDepth 100000 in
theorem r_digit_any (n : Int) (w : World) : Calls Try.prog 88 #[.int .i64 n] w fun e w' => e = .returned (.bool (dgB n)) ∧ w = w' := by
  unfold dgB
  by_cases h1 : n ≥ 48
  · by_cases h2 : n ≤ 57
    · go_enter Try.func88, Try.ntmps88
      go_wp2
      go_ret
      exact ⟨ret_bool (by simp; omega), rfl⟩
    · go_enter Try.func88, Try.ntmps88
      go_wp2
      go_ret
      exact ⟨ret_bool (by simp; omega), rfl⟩
  · go_enter Try.func88, Try.ntmps88
    go_wp2
    go_ret
    exact ⟨ret_bool (by simp; omega), rfl⟩
set_option maxRecDepth 100000 in
theorem r_unnamed_any (n : Int) (w : World) : Calls Try.prog 67 #[.int .i64 n] w fun e w' => e = .returned (.bool (unB n)) ∧ w = w' := by
  unfold unB
  by_cases h0 : n = 0
  · subst h0
    go_enter Try.func67, Try.ntmps67
    go_wp2
    go_ret
    exact ⟨ret_bool (by simp), rfl⟩
  have b0 : (n == 0) = false := by simp [h0]
  by_cases h1 : n = 34
  · subst h1
    go_enter Try.func67, Try.ntmps67
    go_wp2
    go_ret
    exact ⟨ret_bool (by simp), rfl⟩
  have b1 : (n == 34) = false := by simp [h1]
  go_enter Try.func67, Try.ntmps67
  go_wp2
  go_ret
  exact ⟨ret_bool (by simp [b0, b1]), rfl⟩
set_option maxRecDepth 100000 in
theorem r_read_any (n : Int) (w : World) : Calls Try.prog 89 #[.int .i64 n] w fun e w' => e = .returned (.bool (rdB n)) ∧ w = w' := by
  unfold rdB
  by_cases h0 : n = 46
  · subst h0
    go_enter Try.func89, Try.ntmps89
    go_wp2
    go_ret
    exact ⟨ret_bool (by simp), rfl⟩
  have b0 : (n == 46) = false := by simp [h0]
  by_cases h1 : n = 58
  · subst h1
    go_enter Try.func89, Try.ntmps89
    go_wp2
    go_ret
    exact ⟨ret_bool (by simp), rfl⟩
  have b1 : (n == 58) = false := by simp [h1]
  by_cases h2 : n = 47
  · subst h2
    go_enter Try.func89, Try.ntmps89
    go_wp2
    go_ret
    exact ⟨ret_bool (by simp), rfl⟩
  have b2 : (n == 47) = false := by simp [h2]
  go_enter Try.func89, Try.ntmps89
  go_wp2
  go_ret
  exact ⟨ret_bool (by simp [b0, b1, b2]), rfl⟩
set_option maxRecDepth 100000 in
set_option maxHeartbeats 1000000 in
theorem r_Named_any (n : Int) (w : World) : Calls Try.prog 66 #[.int .i64 n] w fun e w' => e = .returned (.bool (nmB n)) ∧ w = w' := by
  have C0 := hidIt (r_small_any n w)
  have C1 := hidIt (r_great_any n w)
  have C2 := hidIt (r_digit_any n w)
  have C3 := hidIt (r_unnamed_any n w)
  have C4 := hidIt (r_read_any n w)
  cases x0 : smB n
  case true =>
    have hn : nmB n = true := by unfold nmB; simp [x0]
    rw [hn]
    clear hn
    go_enter Try.func66, Try.ntmps66
    go_wp2_with (first | (go_at_call 87; rw [x0] at C0; refine C0.out.mono ?_; rintro e w1 ⟨rfl, rfl⟩; (try dsimp only)))
    go_ret
    exact ⟨rfl, rfl⟩
  cases x1 : grB n
  case true =>
    have hn : nmB n = true := by unfold nmB; simp [x0, x1]
    rw [hn]
    clear hn
    go_enter Try.func66, Try.ntmps66
    go_wp2_with (first | (go_at_call 87; rw [x0] at C0; refine C0.out.mono ?_; rintro e w1 ⟨rfl, rfl⟩; (try dsimp only)) | (go_at_call 68; rw [x1] at C1; refine C1.out.mono ?_; rintro e w1 ⟨rfl, rfl⟩; (try dsimp only)))
    go_ret
    exact ⟨rfl, rfl⟩
  cases x2 : dgB n
  case true =>
    have hn : nmB n = true := by unfold nmB; simp [x0, x1, x2]
    rw [hn]
    clear hn
    go_enter Try.func66, Try.ntmps66
    go_wp2_with (first | (go_at_call 87; rw [x0] at C0; refine C0.out.mono ?_; rintro e w1 ⟨rfl, rfl⟩; (try dsimp only)) | (go_at_call 68; rw [x1] at C1; refine C1.out.mono ?_; rintro e w1 ⟨rfl, rfl⟩; (try dsimp only)) | (go_at_call 88; rw [x2] at C2; refine C2.out.mono ?_; rintro e w1 ⟨rfl, rfl⟩; (try dsimp only)))
    go_ret
    exact ⟨rfl, rfl⟩
  cases x3 : unB n
  case true =>
    have hn : nmB n = true := by unfold nmB; simp [x0, x1, x2, x3]
    rw [hn]
    clear hn
    go_enter Try.func66, Try.ntmps66
    go_wp2_with (first | (go_at_call 87; rw [x0] at C0; refine C0.out.mono ?_; rintro e w1 ⟨rfl, rfl⟩; (try dsimp only)) | (go_at_call 68; rw [x1] at C1; refine C1.out.mono ?_; rintro e w1 ⟨rfl, rfl⟩; (try dsimp only)) | (go_at_call 88; rw [x2] at C2; refine C2.out.mono ?_; rintro e w1 ⟨rfl, rfl⟩; (try dsimp only)) | (go_at_call 67; rw [x3] at C3; refine C3.out.mono ?_; rintro e w1 ⟨rfl, rfl⟩; (try dsimp only)))
    go_ret
    exact ⟨rfl, rfl⟩
  cases x4 : rdB n
  case true =>
    have hn : nmB n = true := by unfold nmB; simp [x0, x1, x2, x3, x4]
    rw [hn]
    clear hn
    go_enter Try.func66, Try.ntmps66
    go_wp2_with (first | (go_at_call 87; rw [x0] at C0; refine C0.out.mono ?_; rintro e w1 ⟨rfl, rfl⟩; (try dsimp only)) | (go_at_call 68; rw [x1] at C1; refine C1.out.mono ?_; rintro e w1 ⟨rfl, rfl⟩; (try dsimp only)) | (go_at_call 88; rw [x2] at C2; refine C2.out.mono ?_; rintro e w1 ⟨rfl, rfl⟩; (try dsimp only)) | (go_at_call 67; rw [x3] at C3; refine C3.out.mono ?_; rintro e w1 ⟨rfl, rfl⟩; (try dsimp only)) | (go_at_call 89; rw [x4] at C4; refine C4.out.mono ?_; rintro e w1 ⟨rfl, rfl⟩; (try dsimp only)))
    go_ret
    exact ⟨rfl, rfl⟩
  by_cases h0 : n = 45
  · have hn : nmB n = true := by unfold nmB; simp [h0]
    rw [hn]
    have b0 : (n == 45) = true := by simp [h0]
    clear h0 hn
    go_enter Try.func66, Try.ntmps66
    go_wp2_with (first | (go_at_call 87; rw [x0] at C0; refine C0.out.mono ?_; rintro e w1 ⟨rfl, rfl⟩; (try dsimp only)) | (go_at_call 68; rw [x1] at C1; refine C1.out.mono ?_; rintro e w1 ⟨rfl, rfl⟩; (try dsimp only)) | (go_at_call 88; rw [x2] at C2; refine C2.out.mono ?_; rintro e w1 ⟨rfl, rfl⟩; (try dsimp only)) | (go_at_call 67; rw [x3] at C3; refine C3.out.mono ?_; rintro e w1 ⟨rfl, rfl⟩; (try dsimp only)) | (go_at_call 89; rw [x4] at C4; refine C4.out.mono ?_; rintro e w1 ⟨rfl, rfl⟩; (try dsimp only)))
    go_ret
    exact ⟨ret_bool (by simp), rfl⟩
  have b0 : (n == 45) = false := by simp [h0]
  by_cases h1 : n = 95
  · have hn : nmB n = true := by unfold nmB; simp [h1]
    rw [hn]
    have b1 : (n == 95) = true := by simp [h1]
    clear h1 hn
    go_enter Try.func66, Try.ntmps66
    go_wp2_with (first | (go_at_call 87; rw [x0] at C0; refine C0.out.mono ?_; rintro e w1 ⟨rfl, rfl⟩; (try dsimp only)) | (go_at_call 68; rw [x1] at C1; refine C1.out.mono ?_; rintro e w1 ⟨rfl, rfl⟩; (try dsimp only)) | (go_at_call 88; rw [x2] at C2; refine C2.out.mono ?_; rintro e w1 ⟨rfl, rfl⟩; (try dsimp only)) | (go_at_call 67; rw [x3] at C3; refine C3.out.mono ?_; rintro e w1 ⟨rfl, rfl⟩; (try dsimp only)) | (go_at_call 89; rw [x4] at C4; refine C4.out.mono ?_; rintro e w1 ⟨rfl, rfl⟩; (try dsimp only)))
    go_ret
    exact ⟨ret_bool (by simp), rfl⟩
  have b1 : (n == 95) = false := by simp [h1]
  have hn : nmB n = false := by unfold nmB; simp [x0, x1, x2, x3, x4, b0, b1]
  rw [hn]
  clear hn
  go_enter Try.func66, Try.ntmps66
  go_wp2_with (first | (go_at_call 87; rw [x0] at C0; refine C0.out.mono ?_; rintro e w1 ⟨rfl, rfl⟩; (try dsimp only)) | (go_at_call 68; rw [x1] at C1; refine C1.out.mono ?_; rintro e w1 ⟨rfl, rfl⟩; (try dsimp only)) | (go_at_call 88; rw [x2] at C2; refine C2.out.mono ?_; rintro e w1 ⟨rfl, rfl⟩; (try dsimp only)) | (go_at_call 67; rw [x3] at C3; refine C3.out.mono ?_; rintro e w1 ⟨rfl, rfl⟩; (try dsimp only)) | (go_at_call 89; rw [x4] at C4; refine C4.out.mono ?_; rintro e w1 ⟨rfl, rfl⟩; (try dsimp only)))
  go_ret
  exact ⟨ret_bool (by simp), rfl⟩
set_option maxRecDepth 100000 in
theorem r_refuse_any (n k : Int) (w : World) : Calls Try.prog 83 #[.int .i64 n, .int .i64 k] w fun e w' => e = .returned (.int .i64 (refE n k)) ∧ w = w' := by
  have C := hidIt (r_Named_any n w)
  have D := hidIt (r_read_any n w)
  unfold refE
  cases x : nmB n
  · rw [if_neg (by simp)]
    go_enter Try.func83, Try.ntmps83
    go_wp2_with (first | (go_at_call 66; rw [x] at C; refine C.out.mono ?_; rintro e w1 ⟨rfl, rfl⟩; (try dsimp only)))
    go_ret
    exact ⟨rfl, rfl⟩
  rw [if_pos rfl]
  cases y : rdB n
  case true =>
    rw [if_pos rfl]
    go_enter Try.func83, Try.ntmps83
    go_wp2_with (first | (go_at_call 66; rw [x] at C; refine C.out.mono ?_; rintro e w1 ⟨rfl, rfl⟩; (try dsimp only)) | (go_at_call 89; rw [y] at D; refine D.out.mono ?_; rintro e w1 ⟨rfl, rfl⟩; (try dsimp only)))
    go_ret
    exact ⟨rfl, rfl⟩
  rw [if_neg (by simp)]
  by_cases h0 : k = 0
  · subst h0
    go_enter Try.func83, Try.ntmps83
    go_wp2_with (first | (go_at_call 66; rw [x] at C; refine C.out.mono ?_; rintro e w1 ⟨rfl, rfl⟩; (try dsimp only)) | (go_at_call 89; rw [y] at D; refine D.out.mono ?_; rintro e w1 ⟨rfl, rfl⟩; (try dsimp only)))
    go_ret
    exact ⟨rfl, rfl⟩
  by_cases h1 : k = 1
  · subst h1
    go_enter Try.func83, Try.ntmps83
    go_wp2_with (first | (go_at_call 66; rw [x] at C; refine C.out.mono ?_; rintro e w1 ⟨rfl, rfl⟩; (try dsimp only)) | (go_at_call 89; rw [y] at D; refine D.out.mono ?_; rintro e w1 ⟨rfl, rfl⟩; (try dsimp only)))
    go_ret
    exact ⟨rfl, rfl⟩
  have b0 : (k != 0) = true := by simp [h0]
  have b1 : (k != 1) = true := by simp [h1]
  rw [if_pos (by rw [b0, b1]; rfl)]
  go_enter Try.func83, Try.ntmps83
  go_wp2_with (first | (go_at_call 66; rw [x] at C; refine C.out.mono ?_; rintro e w1 ⟨rfl, rfl⟩; (try dsimp only)) | (go_at_call 89; rw [y] at D; refine D.out.mono ?_; rintro e w1 ⟨rfl, rfl⟩; (try dsimp only)))
  go_ret
  exact ⟨rfl, rfl⟩
end Go.Proofs.Ytmldfjhfgaggpaa

/- The document's own. -/
namespace Go.Proofs.Ytmldfjhfgaggpaa
open Go.RowKit
variable {F : Nat → Prop}

/-- What own answers: the register, what it would hold, and where that doesn't lie. -/
def OwR (F : Nat → Prop) (w : World) (n : Int) (x : Rg) (e : Ending) (w' : World) : Prop := ∃ v, e = .returned (.tuple #[.int .i64 n, .agg #[.int .i64 x.k, v]]) ∧ RdS w' v x.t ∧ (x.t ≠ [] → ∀ g, F g → Off v g) ∧ Below w.heap.size w w'
theorem ow_held {F : Nat → Prop} {w : World} {k : Int} {u : Value} {m : Int → Option Rg} {n : Int} (h : Hld F w k u (m (sml n))) (hg : grB n = true) (y : Rg) : (k = 0 ∨ k = 1) ∧ ∃ t, RdS w u t ∧ (t ≠ [] → ∀ q, F q → Off u q) ∧ t.length ≤ 140000 ∧ ow m n y = jnd ⟨k, t⟩ y := by
  obtain ⟨h0, t, h1, h2, h3, h4⟩ := h
  refine ⟨h0, t, h1, h2, h3, ?_⟩
  unfold ow
  rw [if_pos hg]
  cases hm : m (sml n) with
  | none =>
    rw [hm] at h4
    subst h4
    unfold jnd
    simp
  | some o =>
    rw [hm] at h4
    obtain ⟨rfl, rfl⟩ := h4
    rfl
set_option maxRecDepth 100000 in
set_option maxHeartbeats 4000000 in
theorem r_own_any (w : World) (q : Nat) (s : Bs) (n j : Int) (u : Value) (y : List Int) (hR : Rb F w q s) (hn : 0 ≤ n ∧ n < 128) (hu : RdS w u y) (ho : y ≠ [] → ∀ g, F g → Off u g) (hj : j = 0 ∨ j = 1) (hy : y.length * 8 ≤ 140737488355240) :
    Calls Try.prog 86 #[.pointer (some ⟨q, 0, none⟩), .int .i64 n, .agg #[.int .i64 j, u]] w (OwR F w (sml n) (ow s.m n ⟨j, y⟩)) := by
  obtain ⟨ao, c, rfl, _⟩ := hu.len
  obtain ⟨w1, hw1, k0, k1, hb1, hlt1⟩ := two_new w #[.int .i64 j, .slice ao y.length c] #[.int .i64 0, .slice none 0 0] 94 94
  obtain ⟨_, c0, c1, _⟩ := cells2 k0
  obtain ⟨_, d0, d1, fz⟩ := cells2 k1
  have GR := hidIt (r_great_any n w1)
  have HU := hidIt (hu.ext hb1)
  have HB1 := hidIt hb1
  have HZ := hidIt k1
  have HUO := hidIt (fun hn => hu.below (q := w.heap.size + 1) (by omega) hn)
  have HO := hidIt ho
  cases hg : grB n
  · have HW := hidIt (show ow s.m n ⟨j, y⟩ = ⟨j, y⟩ by unfold ow; rw [hg]; rfl)
    have HN := hidIt (show sml n = n by unfold sml; rw [hg]; rfl)
    rw [hg] at GR
    clear hR hn hj hy hu ho hb1 k0 k1 hlt1
    go_enter Try.func86, Try.ntmps86
    go_upto_region 1 with fail
    rw [← hw1]
    clear hw1
    go_upto_region 4 with (go_at_call 68; refine GR.out.mono ?_; rintro e y8 ⟨rfl, rfl⟩; (try dsimp only))
    go_region
    go_wp2_with fail
    refine bodyPost_ret (v := .tuple #[.int .i64 n, .agg #[.int .i64 j, .slice ao y.length c]]) (by simp [results, Try.results86, go_sem, d0, d1]) rfl ⟨_, by rw [HW.out, HN.out], ?_, ?_, ?_⟩
    · rw [HW.out]
      exact (RdS.other HU.out (put2 HZ.out _ _).2 HUO.out).ext (Below.refl _ _).drew
    · rw [HW.out]
      exact HO.out
    · exact (below_put HB1.out HB1.out.size (put2 HZ.out _ _).2 (by omega)).drew
  · have hg' : 65 ≤ n ∧ n ≤ 90 := by unfold grB at hg; simpa using hg
    obtain ⟨a, ha⟩ : ∃ a : Nat, (a : Int) = n + 32 := ⟨(n + 32).toNat, by omega⟩
    have HN := hidIt (show sml n = (a : Int) by unfold sml; rw [hg]; simpa using ha.symm)
    obtain ⟨k, v, r0', r1', hh⟩ := hR.at a (by omega)
    have r0 := (hb1.cell (p := ⟨q, a * 2, none⟩) hR.lt).trans r0'
    have r1 := (hb1.cell (p := ⟨q, a * 2 + 1, none⟩) hR.lt).trans r1'
    clear r0' r1'
    rw [← HN.out] at hh
    obtain ⟨hk, t, ht, hto, htl, how⟩ := ow_held hh hg ⟨j, y⟩
    obtain ⟨bo, d, rfl, _⟩ := ht.len
    have hwr : IntKind.i64.wrap (n + 32) = (a : Int) := by rw [IntKind.wrap_i64]; omega
    have hal : (a : Int) < 128 := by omega
    rw [hg] at GR
    have JN := hidIt (fun w' (hb : Below w1.heap.size w1 w') => r_joined_any k j _ _ t y w' ((ht.ext hb1).ext hb) (HU.out.ext hb) hk hj (by omega))
    have HOW := hidIt how
    have HTO := hidIt hto
    have HTB := hidIt (fun hn => ht.below (q := w.heap.size + 1) (by omega) hn)
    have HFL := hidIt hR.fl
    have HZ2 : Hid (∀ w', Below w1.heap.size w1 w' → w'.heap[w.heap.size + 1]? = some (.cells #[.int .i64 0, .slice none 0 0] 94 (0, 0))) := fun w' hb => (hb.block _ hlt1).trans k1
    have HLT := hidIt hlt1
    clear hR hn hj hy hu ho hb1 k0 k1 hlt1 ha hg' hh ht hto htl hk how
    go_enter Try.func86, Try.ntmps86
    go_upto_region 1 with fail
    rw [← hw1]
    clear hw1
    go_upto_region 3 with (go_at_call 68; refine GR.out.mono ?_; rintro e y8 ⟨rfl, rfl⟩; (try dsimp only))
    go_region_with (go_at_call 99; refine (JN.out _ (Below.refl _ _).drew).mono ?_; rintro e w2 ⟨v2, rfl, hr2, hb2, ho2⟩; obtain ⟨ra2, rc2, re2, _⟩ := hr2.len; subst re2; have R2 := hidIt hr2; have B2 := hidIt (ext_trans (Below.refl _ _).drew hb2); have O2 := hidIt ho2; clear hr2 hb2 ho2 d0 d1 fz c0 c1 r0 r1; obtain ⟨_, d0, d1, fz⟩ := cells2 (HZ2.out w2 B2.out); (try dsimp only))
    all_goals
      go_wp2_with fail
      refine bodyPost_ret (v := .tuple #[.int .i64 a, .agg #[.int .i64 (jnd ⟨k, t⟩ ⟨j, y⟩).k, .slice ra2 (jnd ⟨k, t⟩ ⟨j, y⟩).t.length rc2]]) (by simp [results, Try.results86, go_sem, d0, d1]) rfl ⟨_, by rw [HOW.out, HN.out], ?_, ?_, ?_⟩
      · rw [HOW.out]
        exact RdS.other R2.out (put2 (HZ2.out w2 B2.out) _ _).2 (fun hx => O2.out _ HLT.out HTB.out HUO.out hx)
      · rw [HOW.out]
        exact fun hx g hg => O2.out g (Nat.lt_of_lt_of_le (HFL.out g hg) HB1.out.size) (fun h => HTO.out h g hg) (fun h => HO.out h g hg) hx
      · exact below_put (ext_trans HB1.out B2.out) (ext_trans HB1.out B2.out).size (put2 (HZ2.out w2 B2.out) _ _).2 (by omega)
end Go.Proofs.Ytmldfjhfgaggpaa
