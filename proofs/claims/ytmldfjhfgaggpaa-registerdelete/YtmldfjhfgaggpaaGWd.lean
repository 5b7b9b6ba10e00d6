/- The law's world: two banks of the program, two of the document, the pen. -/
import Derived.Test.YtmldfjhfgaggpaaGRefC
import Derived.Test.YtmldfjhfgaggpaaGCopy
namespace Go.Proofs.Ytmldfjhfgaggpaa
open Go.RowKit
variable {F : Nat → Prop}

theorem RdS.kps {T : Nat → Prop} {w w' : World} {v : Value} {t : List Int} (h : RdS w v t) (k : Kps T w w') (ht : ∀ g, T g → g < w.heap.size → (∃ es cl, w.heap[g]? = some (.map es cl)) ∨ (t ≠ [] → Off v g)) : RdS w' v t := by
  have hm : ∀ g, (∃ es cl, w.heap[g]? = some (.map es cl)) → t ≠ [] → Off v g := fun g ⟨es, cl, e⟩ hn => h.offmap e hn
  obtain ⟨⟨ao, cap, hv, h1, h2, h3⟩, hs⟩ := h
  refine ⟨⟨ao, cap, hv, h1, h2, fun hn => ?_⟩, hs⟩
  obtain ⟨b, off, rfl, hb, hc⟩ := h3 hn
  refine ⟨b, off, rfl, Nat.lt_of_lt_of_le hb k.size, fun i hi => ?_⟩
  have e := k.same b hb (fun hT => by
    rcases ht b hT hb with hx | hx
    · exact hm b hx hn b off t.length cap hv rfl
    · exact hx hn b off t.length cap hv rfl)
  rw [← hc i hi]
  unfold World.cell?
  simp only [e]
theorem Bk.kps {T : Nat → Prop} {w w' : World} {b bm N : Nat} {m : Int → Option Rg} {p : Int} (h : Bk F w b bm N m p) (k : Kps T w w') (ht : ∀ g, T g → g < w.heap.size → g ≠ b ∧ g ≠ bm ∧ ((∃ es cl, w.heap[g]? = some (.map es cl)) ∨ F g)) : Bk F w' b bm N m p := by
  have hl := h.lt
  obtain ⟨a1, a2, a3, D, ⟨es, cl, x1, x2⟩, a5⟩ := h
  refine ⟨(k.same b hl.1 (fun hT => (ht b hT hl.1).1 rfl)).trans a1, a2, ⟨a3.1, fun q hq => Nat.lt_of_lt_of_le (a3.2 q hq) k.size⟩, D, ⟨es, cl, (k.same bm hl.2.1 (fun hT => (ht bm hT hl.2.1).2.1 rfl)).trans x1, x2⟩, fun j hj => ?_⟩
  have e := a5 j hj
  cases hm : m j with
  | none => rw [hm] at e; exact e
  | some r =>
    rw [hm] at e
    obtain ⟨e1, u, e2, ⟨ps, e3, e5⟩, e4⟩ := e
    exact ⟨e1, u, e2, ⟨ps, Chn.stay k.size (fun g hg hf hmp => k.same g hg (fun hT => by
      rcases (ht g hT hg).2.2 with ⟨es, cl, hx⟩ | hx
      · exact hmp es cl hx
      · exact hf hx)) (fun q h => .inl h) _ _ e3, e5⟩, e4⟩
theorem Rb.kps {T : Nat → Prop} {w w' : World} {q : Nat} {s : Bs} (h : Rb F w q s) (k : Kps T w w') (ht : ∀ g, T g → g < w.heap.size → g ≠ q ∧ ((∃ es cl, w.heap[g]? = some (.map es cl)) ∨ F g)) : Rb F w' q s := by
  have hl := h.lt
  obtain ⟨arr, h1, h2, h3, h4, h5⟩ := h
  refine ⟨arr, (k.same q hl (fun hT => (ht q hT hl).1 rfl)).trans h1, h2, h3, ⟨h4.1, fun g hq => Nat.lt_of_lt_of_le (h4.2 g hq) k.size⟩, fun n hn => ?_⟩
  obtain ⟨c, u, a, b, c0, t, c1, c2, c3⟩ := h5 n hn
  refine ⟨c, u, a, b, c0, t, c1.kps k (fun g hT hg => ?_), c2, c3⟩
  rcases (ht g hT hg).2 with hx | hx
  · exact .inl hx
  · exact .inr (fun hn => c2 hn g hx)
/-- More blocks that the texts avoid: new ones. -/
theorem Rb.avoid {F' : Nat → Prop} {w w' : World} {q : Nat} {s : Bs} (h : Rb F w q s) (hb : Below w.heap.size w w') (h1 : F' q) (h2 : ∀ g, F' g → g < w'.heap.size ∧ (F g ∨ w.heap.size ≤ g)) : Rb F' w' q s := by
  have hl := h.lt
  obtain ⟨arr, k1, k2, k3, k4, k5⟩ := h
  refine ⟨arr, (hb.block q hl).trans k1, k2, k3, ⟨h1, fun g hg => (h2 g hg).1⟩, fun n hn => ?_⟩
  obtain ⟨c, u, a, b, c0, t, c1, c2, c3⟩ := k5 n hn
  refine ⟨c, u, a, b, c0, t, c1.ext hb, fun hn g hg => ?_, c3⟩
  rcases (h2 g hg).2 with hf | hge
  · exact c2 hn g hf
  · exact c1.below hge hn

/-- What lies in the law's world. s: what the program's banks hold; d: what the document's do. -/
structure Ws where
  b : Nat → Nat
  bm : Nat → Nat
  q : Nat → Nat
  s : Nat → Bs
  d : Nat → Bs
def setN {α : Type} (f : Nat → α) (i : Nat) (x : α) : Nat → α := fun j => if j = i then x else f j
theorem setN_same {α : Type} (f : Nat → α) (i : Nat) (x : α) : setN f i x i = x := by simp [setN]
theorem setN_other {α : Type} (f : Nat → α) {i j : Nat} (x : α) (h : j ≠ i) : setN f i x j = f j := by simp [setN, h]
/-- At block g lies the law's world. -/
structure Wd (B : Nat) (F : Nat → Prop) (N : Nat) (w : World) (g : Nat) (z : Ws) (pv : Value) : Prop where
  blk : w.heap[g]? = some (.cells #[.pointer (some ⟨z.b 0, 0, none⟩), .pointer (some ⟨z.b 1, 0, none⟩), .pointer (some ⟨z.q 0, 0, none⟩), .pointer (some ⟨z.q 1, 0, none⟩), pv] 58 (0, 0))
  fg : F g
  bk : ∀ i, i < 2 → Bk F w (z.b i) (z.bm i) N (z.s i).m (z.s i).p
  rb : ∀ i, i < 2 → Rb F w (z.q i) (z.d i)
  gs : ∀ i, i < 2 → Good (z.s i)
  gd : ∀ i, i < 2 → Good (z.d i)
  pen : pv = .slice none 0 0 ∨ ∃ pb cur, pv = .slice (some ⟨pb, 0, none⟩) 300 300 ∧ F pb ∧ B ≤ pb ∧ w.heap[pb]? = some (.cells cur 3 (0, 0)) ∧ cur.size = 300
  nb : z.b 0 ≠ z.b 1
  nm : z.bm 0 ≠ z.bm 1
  nq : z.q 0 ≠ z.q 1
  lo : B ≤ g ∧ ∀ i, i < 2 → B ≤ z.b i ∧ B ≤ z.bm i ∧ B ≤ z.q i
section
variable {B N : Nat} {w w' : World} {g : Nat} {z : Ws} {pv : Value}
theorem Bk.typ {b bm : Nat} {m : Int → Option Rg} {p : Int} (h : Bk F w b bm N m p) : (∃ cs, w.heap[b]? = some (.cells cs 70 (0, 0))) ∧ ∃ es cl, w.heap[bm]? = some (.map es cl) := by
  obtain ⟨a1, _, _, D, ⟨es, cl, x1, _⟩, _⟩ := h
  exact ⟨⟨_, a1⟩, es, cl, x1⟩
theorem Rb.typ {q : Nat} {s : Bs} (h : Rb F w q s) : ∃ cs, w.heap[q]? = some (.cells cs 97 (0, 0)) := by
  obtain ⟨arr, h1, _⟩ := h
  exact ⟨arr, h1⟩
theorem cells_ne {a b : Nat} {cs ds : Array Value} {T U : TypeId} (h : w.heap[a]? = some (.cells cs T (0, 0))) (k : w.heap[b]? = some (.cells ds U (0, 0))) (hT : T ≠ U) : a ≠ b := by
  rintro rfl
  rw [h] at k
  cases k
  exact hT rfl
theorem map_ne {a b : Nat} {cs : Array Value} {T : TypeId} {es : Array MapEntry} {cl : Nat} (h : w.heap[a]? = some (.cells cs T (0, 0))) (k : w.heap[b]? = some (.map es cl)) : a ≠ b := by
  rintro rfl
  rw [h] at k
  cases k
theorem two_ne {f : Nat → Nat} (h : f 0 ≠ f 1) {i j : Nat} (hi : i < 2) (hj : j < 2) (hij : j ≠ i) : f j ≠ f i := by
  match i, j, hi, hj with
  | 0, 0, _, _ => exact absurd rfl hij
  | 0, 1, _, _ => exact h.symm
  | 1, 0, _, _ => exact h
  | 1, 1, _, _ => exact absurd rfl hij
/-- A bank of the program has been called. -/
theorem Wd.bank (h : Wd B F N w g z pv) {i : Nat} (hi : i < 2) {N' : Nat} (hN : N ≤ N') {s' : Bs} (hb : Bk F w' (z.b i) (z.bm i) N' s'.m s'.p) (k : Kb (z.b i) (z.bm i) w w') (hs : Good s') : Wd B F N' w' g { z with s := setN z.s i s' } pv := by
  obtain ⟨⟨cs, hbi⟩, es, cl, hmi⟩ := (h.bk i hi).typ
  have fb : F (z.b i) := (h.bk i hi).2.2.1.1
  have hT : ∀ k, (k = z.b i ∨ k = z.bm i) → k < w.heap.size → ((∃ es cl, w.heap[k]? = some (.map es cl)) ∨ F k) := fun k hk _ => by
    rcases hk with rfl | rfl
    · exact .inr fb
    · exact .inl ⟨_, _, hmi⟩
  refine ⟨?_, h.fg, fun j hj => ?_, fun j hj => ?_, fun j hj => ?_, h.gd, ?_, h.nb, h.nm, h.nq, h.lo⟩
  · exact (k.same g (Array.getElem?_eq_some_iff.1 h.blk).1 (fun e => by
      rcases e with e | e
      · exact cells_ne h.blk hbi (by decide) e
      · exact map_ne h.blk hmi e)).trans h.blk
  · dsimp only
    by_cases e : j = i
    · subst e; rw [setN_same]; exact hb
    · rw [setN_other _ _ e]
      obtain ⟨⟨cs', hbj⟩, es', cl', hmj⟩ := (h.bk j hj).typ
      refine ((h.bk j hj).mono hN).kps k (fun x hx hlt => ⟨?_, ?_, hT x hx hlt⟩)
      · rcases hx with rfl | rfl
        · exact (two_ne h.nb hi hj e).symm
        · exact (map_ne hbj hmi).symm
      · rcases hx with rfl | rfl
        · exact map_ne hbi hmj
        · exact (two_ne h.nm hi hj e).symm
  · obtain ⟨cs', hq⟩ := (h.rb j hj).typ
    refine (h.rb j hj).kps k (fun x hx hlt => ⟨?_, hT x hx hlt⟩)
    rcases hx with rfl | rfl
    · exact cells_ne hbi hq (by decide)
    · exact (map_ne hq hmi).symm
  · dsimp only
    by_cases e : j = i
    · subst e; rw [setN_same]; exact hs
    · rw [setN_other _ _ e]; exact h.gs j hj
  · rcases h.pen with hp | ⟨pb, cur, hp, hf, hB, hc, hz⟩
    · exact .inl hp
    · refine .inr ⟨pb, cur, hp, hf, hB, ?_, hz⟩
      exact (k.same pb (Array.getElem?_eq_some_iff.1 hc).1 (fun e => by
        rcases e with e | e
        · exact cells_ne hc hbi (by decide) e
        · exact map_ne hc hmi e)).trans hc
/-- A bank of the document has been called. -/
theorem Wd.ref (h : Wd B F N w g z pv) {i : Nat} (hi : i < 2) {d' : Bs} (hb : Rb F w' (z.q i) d') (k : Kq (z.q i) w w') (hs : Good d') : Wd B F N w' g { z with d := setN z.d i d' } pv := by
  obtain ⟨cs, hqi⟩ := (h.rb i hi).typ
  have fq : F (z.q i) := (h.rb i hi).fq
  refine ⟨?_, h.fg, fun j hj => ?_, fun j hj => ?_, h.gs, fun j hj => ?_, ?_, h.nb, h.nm, h.nq, h.lo⟩
  · exact (k.same g (Array.getElem?_eq_some_iff.1 h.blk).1 (fun e => cells_ne h.blk hqi (by decide) e)).trans h.blk
  · obtain ⟨⟨cs', hbj⟩, es', cl', hmj⟩ := (h.bk j hj).typ
    refine (h.bk j hj).kps k (fun x hx hlt => ?_)
    subst hx
    exact ⟨(cells_ne hbj hqi (by decide)).symm, map_ne hqi hmj, .inr fq⟩
  · dsimp only
    by_cases e : j = i
    · subst e; rw [setN_same]; exact hb
    · rw [setN_other _ _ e]
      refine (h.rb j hj).kps k (fun x hx hlt => ?_)
      subst hx
      exact ⟨(two_ne h.nq hi hj e).symm, .inr fq⟩
  · dsimp only
    by_cases e : j = i
    · subst e; rw [setN_same]; exact hs
    · rw [setN_other _ _ e]; exact h.gd j hj
  · rcases h.pen with hp | ⟨pb, cur, hp, hf, hB, hc, hz⟩
    · exact .inl hp
    · refine .inr ⟨pb, cur, hp, hf, hB, ?_, hz⟩
      exact (k.same pb (Array.getElem?_eq_some_iff.1 hc).1 (fun e => cells_ne hc hqi (by decide) e)).trans hc
/-- A row of ints that the texts avoid has turned; if it is the pen's, it is as long as it was. -/
theorem Wd.row (h : Wd B F N w g z pv) {lb : Nat} (hf : F lb) {cs cs' : Array Value} (h1 : w.heap[lb]? = some (.cells cs 3 (0, 0))) (h2 : w'.heap[lb]? = some (.cells cs' 3 (0, 0))) (hz : cs'.size = cs.size) (k : w.grownBy w' (some lb)) : Wd B F N w' g z pv := by
  have hk : Kps (fun x => x = lb) w w' := Kps.grown k (fun x e _ => by cases e; rfl)
  refine ⟨?_, h.fg, fun j hj => ?_, fun j hj => ?_, h.gs, h.gd, ?_, h.nb, h.nm, h.nq, h.lo⟩
  · exact (hk.same g (Array.getElem?_eq_some_iff.1 h.blk).1 (fun e => cells_ne h.blk h1 (by decide) e)).trans h.blk
  · obtain ⟨⟨cs', hbj⟩, es', cl', hmj⟩ := (h.bk j hj).typ
    refine (h.bk j hj).kps hk (fun x hx hlt => ?_)
    subst hx
    exact ⟨(cells_ne hbj h1 (by decide)).symm, map_ne h1 hmj, .inr hf⟩
  · obtain ⟨cs', hq⟩ := (h.rb j hj).typ
    refine (h.rb j hj).kps hk (fun x hx hlt => ?_)
    subst hx
    exact ⟨(cells_ne hq h1 (by decide)).symm, .inr hf⟩
  · rcases h.pen with hp | ⟨pb, cur, hp, hf', hB, hc, hz'⟩
    · exact .inl hp
    · by_cases e : pb = lb
      · subst e
        rw [h1] at hc
        cases hc
        exact .inr ⟨pb, cs', hp, hf', hB, h2, by omega⟩
      · exact .inr ⟨pb, cur, hp, hf', hB, (hk.same pb (Array.getElem?_eq_some_iff.1 hc).1 e).trans hc, hz'⟩
theorem Wd.fl (h : Wd B F N w g z pv) : ∀ k, F k → k < w.heap.size := (h.bk 0 (by omega)).fl
/-- New memory. -/
theorem Wd.ext (h : Wd B F N w g z pv) (hb : Below w.heap.size w w') : Wd B F N w' g z pv := by
  refine ⟨(hb.block g (Array.getElem?_eq_some_iff.1 h.blk).1).trans h.blk, h.fg, fun j hj => (h.bk j hj).ext hb, fun j hj => (h.rb j hj).ext hb, h.gs, h.gd, ?_, h.nb, h.nm, h.nq, h.lo⟩
  rcases h.pen with hp | ⟨pb, cur, hp, hf', hB, hc, hz'⟩
  · exact .inl hp
  · exact .inr ⟨pb, cur, hp, hf', hB, (hb.block pb (Array.getElem?_eq_some_iff.1 hc).1).trans hc, hz'⟩
/-- A new block that the texts avoid from here on. -/
theorem Wd.avoid (h : Wd B F N w g z pv) (hb : Below w.heap.size w w') {x : Nat} (hx : w.heap.size ≤ x) (hx2 : x < w'.heap.size) : Wd B (fun k => F k ∨ k = x) N w' g z pv := by
  have hfl : ∀ q, (F q ∨ q = x) → q < w'.heap.size ∧ (F q ∨ w.heap.size ≤ q) := fun q hq => by
    rcases hq with hq | rfl
    · exact ⟨Nat.lt_of_lt_of_le (h.fl q hq) hb.size, .inl hq⟩
    · exact ⟨hx2, .inr hx⟩
  refine ⟨(hb.block g (Array.getElem?_eq_some_iff.1 h.blk).1).trans h.blk, .inl h.fg, fun j hj => (h.bk j hj).avoid hb (.inl (h.bk j hj).2.2.1.1) hfl, fun j hj => (h.rb j hj).avoid hb (.inl (h.rb j hj).fq) hfl, h.gs, h.gd, ?_, h.nb, h.nm, h.nq, h.lo⟩
  rcases h.pen with hp | ⟨pb, cur, hp, hf', hB, hc, hz'⟩
  · exact .inl hp
  · exact .inr ⟨pb, cur, hp, .inl hf', hB, (hb.block pb (Array.getElem?_eq_some_iff.1 hc).1).trans hc, hz'⟩
/-- The pen is laid into the world. -/
theorem Wd.penned (h : Wd B F N w g z pv) {pb : Nat} {cur : Array Value} (hf : F pb) (hB : B ≤ pb) (hc : w.heap[pb]? = some (.cells cur 3 (0, 0))) (hz : cur.size = 300) : Wd B F N (w.setCell ⟨g, 4, none⟩ (.slice (some ⟨pb, 0, none⟩) 300 300)) g z (.slice (some ⟨pb, 0, none⟩) 300 300) ∧ w.grownBy (w.setCell ⟨g, 4, none⟩ (.slice (some ⟨pb, 0, none⟩) 300 300)) (some g) := by
  obtain ⟨e, gr⟩ := set1 h.blk 4 (.slice (some ⟨pb, 0, none⟩) 300 300)
  have hk : Kps (fun x => x = g) w (w.setCell ⟨g, 4, none⟩ (.slice (some ⟨pb, 0, none⟩) 300 300)) := Kps.grown gr (fun x e _ => by cases e; rfl)
  refine ⟨⟨e, h.fg, fun j hj => ?_, fun j hj => ?_, h.gs, h.gd, ?_, h.nb, h.nm, h.nq, h.lo⟩, gr⟩
  · obtain ⟨⟨cs', hbj⟩, es', cl', hmj⟩ := (h.bk j hj).typ
    refine (h.bk j hj).kps hk (fun x hx hlt => ?_)
    subst hx
    exact ⟨(cells_ne hbj h.blk (by decide)).symm, map_ne h.blk hmj, .inr h.fg⟩
  · obtain ⟨cs', hq⟩ := (h.rb j hj).typ
    refine (h.rb j hj).kps hk (fun x hx hlt => ?_)
    subst hx
    exact ⟨(cells_ne hq h.blk (by decide)).symm, .inr h.fg⟩
  · exact .inr ⟨pb, cur, rfl, hf, hB, (hk.same pb (Array.getElem?_eq_some_iff.1 hc).1 (fun e => cells_ne hc h.blk (by decide) e)).trans hc, hz⟩
/-- What is read of the world. -/
theorem Wd.cells (h : Wd B F N w g z pv) : (∀ i : Nat, i < 2 → w.cell? ⟨g, i, none⟩ = some (.pointer (some ⟨z.b i, 0, none⟩))) ∧ (∀ i : Nat, i < 2 → w.cell? ⟨g, 2 + i, none⟩ = some (.pointer (some ⟨z.q i, 0, none⟩))) ∧ w.cell? ⟨g, 4, none⟩ = some pv ∧ ∀ i, w.frozen? ⟨g, i, none⟩ = false := by
  refine ⟨fun i hi => ?_, fun i hi => ?_, ?_, fun i => frozOf h.blk i⟩
  · rw [cellOf h.blk]
    match i, hi with
    | 0, _ => rfl
    | 1, _ => rfl
  · rw [cellOf h.blk]
    match i, hi with
    | 0, _ => rfl
    | 1, _ => rfl
  · rw [cellOf h.blk]
    rfl
theorem Kb.low {b bm : Nat} (k : Kb b bm w w') (h1 : B ≤ b) (h2 : B ≤ bm) (hB : B ≤ w.heap.size) : Below B w w' := Kps.below k hB (fun x hx => by rcases hx with rfl | rfl <;> assumption)
theorem Kq.low {q : Nat} (k : Kq q w w') (h1 : B ≤ q) (hB : B ≤ w.heap.size) : Below B w w' := Kps.below k hB (fun x hx => by subst hx; exact h1)
end
end Go.Proofs.Ytmldfjhfgaggpaa
