/- A bank is copied over the other one. -/
import Derived.Test.YtmldfjhfgaggpaaGWrt
namespace Go.Proofs.Ytmldfjhfgaggpaa
open Go.RowKit
variable {F : Nat → Prop}

theorem i64_and1 (n : Int) : bits .and .i64 n 1 = n % 2 := by
  have h3 : (BitVec.ofInt 64 1).toNat = 2 ^ 1 - 1 := by decide
  have key : (BitVec.ofInt 64 n &&& BitVec.ofInt 64 1).toNat = (n % ((2 ^ 64 : Nat) : Int)).toNat % 2 ^ 1 := by
    rw [BitVec.toNat_and, BitVec.toNat_ofInt, h3, Nat.and_two_pow_sub_one_eq_mod]
  show IntKind.i64.wrap ((BitVec.ofInt 64 n &&& BitVec.ofInt 64 1).toNat : Nat) = n % 2
  rw [key, IntKind.wrap_i64]
  omega
section
variable {B N : Nat} {w w2 : World} {g : Nat} {z : Ws} {pv : Value}
/-- Only the world's own block has turned, in a cell that is a pointer. -/
theorem Wd.cell (h : Wd B F N w g z pv) {z' : Ws} {j : Nat} {v : Value} (hblk : (#[.pointer (some ⟨z.b 0, 0, none⟩), .pointer (some ⟨z.b 1, 0, none⟩), .pointer (some ⟨z.q 0, 0, none⟩), .pointer (some ⟨z.q 1, 0, none⟩), pv] : Array Value).setIfInBounds j v = #[.pointer (some ⟨z'.b 0, 0, none⟩), .pointer (some ⟨z'.b 1, 0, none⟩), .pointer (some ⟨z'.q 0, 0, none⟩), .pointer (some ⟨z'.q 1, 0, none⟩), pv])
    (hb : ∀ i, i < 2 → Bk F w (z'.b i) (z'.bm i) N (z'.s i).m (z'.s i).p) (hr : ∀ i, i < 2 → Rb F w (z'.q i) (z'.d i)) (hgs : ∀ i, i < 2 → Good (z'.s i)) (hgd : ∀ i, i < 2 → Good (z'.d i)) (nb : z'.b 0 ≠ z'.b 1) (nm : z'.bm 0 ≠ z'.bm 1) (nq : z'.q 0 ≠ z'.q 1) (lo : ∀ i, i < 2 → B ≤ z'.b i ∧ B ≤ z'.bm i ∧ B ≤ z'.q i) :
    Wd B F N (w.setCell ⟨g, j, none⟩ v) g z' pv ∧ w.grownBy (w.setCell ⟨g, j, none⟩ v) (some g) := by
  obtain ⟨e, gr⟩ := set1 h.blk j v
  rw [hblk] at e
  have hk : Kps (fun x => x = g) w (w.setCell ⟨g, j, none⟩ v) := Kps.grown gr (fun x e _ => by cases e; rfl)
  refine ⟨⟨e, h.fg, fun i hi => ?_, fun i hi => ?_, hgs, hgd, ?_, nb, nm, nq, h.lo.1, lo⟩, gr⟩
  · obtain ⟨⟨cs', hbj⟩, es', cl', hmj⟩ := (hb i hi).typ
    refine (hb i hi).kps hk (fun x hx hlt => ?_)
    subst hx
    exact ⟨(cells_ne hbj h.blk (by decide)).symm, map_ne h.blk hmj, .inr h.fg⟩
  · obtain ⟨cs', hq⟩ := (hr i hi).typ
    refine (hr i hi).kps hk (fun x hx hlt => ?_)
    subst hx
    exact ⟨(cells_ne hq h.blk (by decide)).symm, .inr h.fg⟩
  · rcases h.pen with hp | ⟨pb, cur, hp, hf', hB, hc, hz'⟩
    · exact .inl hp
    · exact .inr ⟨pb, cur, hp, hf', hB, (hk.same pb (Array.getElem?_eq_some_iff.1 hc).1 (fun e => cells_ne hc h.blk (by decide) e)).trans hc, hz'⟩
theorem two_all {p : Nat → Prop} {i j : Nat} (hi : i < 2) (hj : j < 2) (hij : j ≠ i) (h1 : p i) (h2 : p j) : ∀ k, k < 2 → p k := fun k hk => by
  by_cases e : k = i
  · exact e ▸ h1
  · exact (show k = j by omega) ▸ h2
theorem two_apart {f : Nat → Nat} {i j x : Nat} (hi : i < 2) (hj : j < 2) (hij : j ≠ i) (h : f i ≠ x) : setN f j x 0 ≠ setN f j x 1 := by
  match i, j, hi, hj with
  | 0, 0, _, _ => exact absurd rfl hij
  | 1, 1, _, _ => exact absurd rfl hij
  | 0, 1, _, _ => rw [setN_other _ _ (by omega), setN_same]; exact h
  | 1, 0, _, _ => rw [setN_same, setN_other _ _ (by omega)]; exact h.symm
/-- The program's bank i is copied to j. -/
theorem Wd.pcopy (h : Wd B F N w g z pv) (hB : B ≤ w.heap.size) {i j : Nat} (hi : i < 2) (hj : j < 2) (hij : j ≠ i) {b2 bm2 : Nat} (hb : Below w.heap.size w w2) (l1 : w.heap.size ≤ b2) (l2 : w.heap.size ≤ bm2) (l3 : b2 < w2.heap.size)
    (hc : ∀ F' : Nat → Prop, F' b2 → (∀ q, F' q → q < w2.heap.size ∧ (F q ∨ w.heap.size ≤ q)) → Bk F' w2 b2 bm2 N (z.s i).m (z.s i).p) :
    Wd B (fun k => F k ∨ k = b2) N (w2.setCell ⟨g, j, none⟩ (.pointer (some ⟨b2, 0, none⟩))) g { z with b := setN z.b j b2, bm := setN z.bm j bm2, s := setN z.s j (z.s i) } pv ∧ w2.grownBy (w2.setCell ⟨g, j, none⟩ (.pointer (some ⟨b2, 0, none⟩))) (some g) := by
  have h2 := h.avoid hb (x := b2) l1 l3
  have hbk := hc (fun k => F k ∨ k = b2) (.inr rfl) (fun q hq => by
    rcases hq with hq | rfl
    · exact ⟨Nat.lt_of_lt_of_le (h.fl q hq) hb.size, .inl hq⟩
    · exact ⟨l3, .inr l1⟩)
  have hlt := (h.bk i hi).lt
  refine h2.cell ?_ ?_ h2.rb ?_ h2.gd (two_apart hi hj hij (by omega)) (two_apart hi hj hij (by omega)) h2.nq ?_
  · match j, hj with
    | 0, _ => rfl
    | 1, _ => rfl
  · refine two_all hi hj hij ?_ ?_
    · dsimp only
      rw [setN_other _ _ (Ne.symm hij), setN_other _ _ (Ne.symm hij), setN_other _ _ (Ne.symm hij)]
      exact h2.bk i hi
    · dsimp only
      rw [setN_same, setN_same, setN_same]
      exact hbk
  · refine two_all hi hj hij ?_ ?_
    · dsimp only
      rw [setN_other _ _ (Ne.symm hij)]
      exact h.gs i hi
    · dsimp only
      rw [setN_same]
      exact h.gs i hi
  · refine two_all hi hj hij ?_ ?_
    · dsimp only
      rw [setN_other _ _ (Ne.symm hij), setN_other _ _ (Ne.symm hij)]
      exact h.lo.2 i hi
    · dsimp only
      rw [setN_same, setN_same]
      exact ⟨by omega, by omega, (h.lo.2 j hj).2.2⟩
/-- The document's bank i is copied to j. -/
theorem Wd.rcopy (h : Wd B F N w g z pv) (hB : B ≤ w.heap.size) {i j : Nat} (hi : i < 2) (hj : j < 2) (hij : j ≠ i) {q2 : Nat} (hb : Below w.heap.size w w2) (l1 : w.heap.size ≤ q2) (l3 : q2 < w2.heap.size)
    (hc : ∀ F' : Nat → Prop, F' q2 → (∀ q, F' q → q < w2.heap.size ∧ (F q ∨ w.heap.size ≤ q)) → Rb F' w2 q2 (z.d i)) :
    Wd B (fun k => F k ∨ k = q2) N (w2.setCell ⟨g, 2 + j, none⟩ (.pointer (some ⟨q2, 0, none⟩))) g { z with q := setN z.q j q2, d := setN z.d j (z.d i) } pv ∧ w2.grownBy (w2.setCell ⟨g, 2 + j, none⟩ (.pointer (some ⟨q2, 0, none⟩))) (some g) := by
  have h2 := h.avoid hb (x := q2) l1 l3
  have hrb := hc (fun k => F k ∨ k = q2) (.inr rfl) (fun q hq => by
    rcases hq with hq | rfl
    · exact ⟨Nat.lt_of_lt_of_le (h.fl q hq) hb.size, .inl hq⟩
    · exact ⟨l3, .inr l1⟩)
  have hlt := (h.rb i hi).lt
  refine h2.cell ?_ h2.bk ?_ h2.gs ?_ h2.nb h2.nm (two_apart hi hj hij (by omega)) ?_
  · match j, hj with
    | 0, _ => rfl
    | 1, _ => rfl
  · refine two_all hi hj hij ?_ ?_
    · dsimp only
      rw [setN_other _ _ (Ne.symm hij), setN_other _ _ (Ne.symm hij)]
      exact h2.rb i hi
    · dsimp only
      rw [setN_same, setN_same]
      exact hrb
  · refine two_all hi hj hij ?_ ?_
    · dsimp only
      rw [setN_other _ _ (Ne.symm hij)]
      exact h.gd i hi
    · dsimp only
      rw [setN_same]
      exact h.gd i hi
  · refine two_all hi hj hij ?_ ?_
    · dsimp only
      rw [setN_other _ _ (Ne.symm hij)]
      exact h.lo.2 i hi
    · dsimp only
      rw [setN_same]
      exact ⟨(h.lo.2 j hj).1, (h.lo.2 j hj).2.1, by omega⟩
end
end Go.Proofs.Ytmldfjhfgaggpaa
