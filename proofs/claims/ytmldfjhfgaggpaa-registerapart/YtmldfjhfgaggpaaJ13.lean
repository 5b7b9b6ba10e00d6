import Derived.Test.YtmldfjhfgaggpaaJ04
import Derived.Test.YtmldfjhfgaggpaaJ12
/- The law's world: two banks of the program, two of the document, the pen. -/
namespace Go.Proofs.Ytmldfjhfgaggpaa
open Go.RowKit
variable {F : Nat → Prop}

theorem RdS.kps {T : Nat → Prop} {w w' : World} {v : Value} {t : List Int} (h : RdS w v t) (k : Kps T w w') (ht : ∀ g, T g → g < w.heap.size → (∃ es cl, w.heap[g]? = some (.map es cl)) ∨ (t ≠ [] → Off v g)) : RdS w' v t := by
  have hm : ∀ g, (∃ es cl, w.heap[g]? = some (.map es cl)) → t ≠ [] → Off v g := fun g ⟨es, cl, e⟩ hn => h.offmap e hn
  obtain ⟨⟨ao, cap, hv, h1, h2, h3⟩, hs⟩ := h
  refine ⟨⟨ao, cap, hv, h1, h2, fun hn => ?_⟩, hs⟩
  obtain ⟨b, off, rfl, hb, hc⟩ := h3 hn
  refine ⟨b, off, rfl, Nat.lt_of_lt_of_le hb k.size, fun i hi => ?_⟩
  have e := k.same b hb (fun hT => by
    rcases ht b hT hb with hx | hx
    · exact hm b hx hn b off t.length cap hv rfl
    · exact hx hn b off t.length cap hv rfl)
  rw [← hc i hi]
  unfold World.cell?
  simp only [e]
theorem Bk.kps {T : Nat → Prop} {w w' : World} {b bm N : Nat} {m : Int → Option Rg} {p : Int} (h : Bk F w b bm N m p) (k : Kps T w w') (ht : ∀ g, T g → g < w.heap.size → g ≠ b ∧ g ≠ bm ∧ ((∃ es cl, w.heap[g]? = some (.map es cl)) ∨ F g)) : Bk F w' b bm N m p := by
  have hl := h.lt
  obtain ⟨a1, a2, a3, D, ⟨es, cl, x1, x2⟩, a5⟩ := h
  refine ⟨(k.same b hl.1 (fun hT => (ht b hT hl.1).1 rfl)).trans a1, a2, ⟨a3.1, fun q hq => Nat.lt_of_lt_of_le (a3.2 q hq) k.size⟩, D, ⟨es, cl, (k.same bm hl.2.1 (fun hT => (ht bm hT hl.2.1).2.1 rfl)).trans x1, x2⟩, fun j hj => ?_⟩
  have e := a5 j hj
  cases hm : m j with
  | none => rw [hm] at e; exact e
  | some r =>
    rw [hm] at e
    obtain ⟨e1, u, e2, ⟨ps, e3, e5⟩, e4⟩ := e
    exact ⟨e1, u, e2, ⟨ps, Chn.stay k.size (fun g hg hf hmp => k.same g hg (fun hT => by
      rcases (ht g hT hg).2.2 with ⟨es, cl, hx⟩ | hx
      · exact hmp es cl hx
      · exact hf hx)) (fun q h => .inl h) _ _ e3, e5⟩, e4⟩
theorem Rb.kps {T : Nat → Prop} {w w' : World} {q : Nat} {s : Bs} (h : Rb F w q s) (k : Kps T w w') (ht : ∀ g, T g → g < w.heap.size → g ≠ q ∧ ((∃ es cl, w.heap[g]? = some (.map es cl)) ∨ F g)) : Rb F w' q s := by
  have hl := h.lt
  obtain ⟨arr, h1, h2, h3, h4, h5⟩ := h
  refine ⟨arr, (k.same q hl (fun hT => (ht q hT hl).1 rfl)).trans h1, h2, h3, ⟨h4.1, fun g hq => Nat.lt_of_lt_of_le (h4.2 g hq) k.size⟩, fun n hn => ?_⟩
  obtain ⟨c, u, a, b, c0, t, c1, c2, c3⟩ := h5 n hn
  refine ⟨c, u, a, b, c0, t, c1.kps k (fun g hT hg => ?_), c2, c3⟩
  rcases (ht g hT hg).2 with hx | hx
  · exact .inl hx
  · exact .inr (fun hn => c2 hn g hx)
/-- More blocks that the texts avoid: new ones. -/
theorem Rb.avoid {F' : Nat → Prop} {w w' : World} {q : Nat} {s : Bs} (h : Rb F w q s) (hb : Below w.heap.size w w') (h1 : F' q) (h2 : ∀ g, F' g → g < w'.heap.size ∧ (F g ∨ w.heap.size ≤ g)) : Rb F' w' q s := by
  have hl := h.lt
  obtain ⟨arr, k1, k2, k3, k4, k5⟩ := h
  refine ⟨arr, (hb.block q hl).trans k1, k2, k3, ⟨h1, fun g hg => (h2 g hg).1⟩, fun n hn => ?_⟩
  obtain ⟨c, u, a, b, c0, t, c1, c2, c3⟩ := k5 n hn
  refine ⟨c, u, a, b, c0, t, c1.ext hb, fun hn g hg => ?_, c3⟩
  rcases (h2 g hg).2 with hf | hge
  · exact c2 hn g hf
  · exact c1.below hge hn

/-- What lies in the law's world. s: what the program's banks hold; d: what the document's do. -/
structure Ws where
  b : Nat → Nat
  bm : Nat → Nat
  q : Nat → Nat
  s : Nat → Bs
  d : Nat → Bs
def setN {α : Type} (f : Nat → α) (i : Nat) (x : α) : Nat → α := fun j => if j = i then x else f j
theorem setN_same {α : Type} (f : Nat → α) (i : Nat) (x : α) : setN f i x i = x := by simp [setN]
theorem setN_other {α : Type} (f : Nat → α) {i j : Nat} (x : α) (h : j ≠ i) : setN f i x j = f j := by simp [setN, h]
/-- At block g lies the law's world. -/
structure Wd (B : Nat) (F : Nat → Prop) (N : Nat) (w : World) (g : Nat) (z : Ws) (pv : Value) : Prop where
  blk : w.heap[g]? = some (.cells #[.pointer (some ⟨z.b 0, 0, none⟩), .pointer (some ⟨z.b 1, 0, none⟩), .pointer (some ⟨z.q 0, 0, none⟩), .pointer (some ⟨z.q 1, 0, none⟩), pv] 58 (0, 0))
  fg : F g
  bk : ∀ i, i < 2 → Bk F w (z.b i) (z.bm i) N (z.s i).m (z.s i).p
  rb : ∀ i, i < 2 → Rb F w (z.q i) (z.d i)
  gs : ∀ i, i < 2 → Good (z.s i)
  gd : ∀ i, i < 2 → Good (z.d i)
  pen : pv = .slice none 0 0 ∨ ∃ pb cur, pv = .slice (some ⟨pb, 0, none⟩) 300 300 ∧ F pb ∧ B ≤ pb ∧ w.heap[pb]? = some (.cells cur 3 (0, 0)) ∧ cur.size = 300
  nb : z.b 0 ≠ z.b 1
  nm : z.bm 0 ≠ z.bm 1
  nq : z.q 0 ≠ z.q 1
  lo : B ≤ g ∧ ∀ i, i < 2 → B ≤ z.b i ∧ B ≤ z.bm i ∧ B ≤ z.q i
section
variable {B N : Nat} {w w' : World} {g : Nat} {z : Ws} {pv : Value}
theorem Bk.typ {b bm : Nat} {m : Int → Option Rg} {p : Int} (h : Bk F w b bm N m p) : (∃ cs, w.heap[b]? = some (.cells cs 70 (0, 0))) ∧ ∃ es cl, w.heap[bm]? = some (.map es cl) := by
  obtain ⟨a1, _, _, D, ⟨es, cl, x1, _⟩, _⟩ := h
  exact ⟨⟨_, a1⟩, es, cl, x1⟩
theorem Rb.typ {q : Nat} {s : Bs} (h : Rb F w q s) : ∃ cs, w.heap[q]? = some (.cells cs 97 (0, 0)) := by
  obtain ⟨arr, h1, _⟩ := h
  exact ⟨arr, h1⟩
theorem cells_ne {a b : Nat} {cs ds : Array Value} {T U : TypeId} (h : w.heap[a]? = some (.cells cs T (0, 0))) (k : w.heap[b]? = some (.cells ds U (0, 0))) (hT : T ≠ U) : a ≠ b := by
  rintro rfl
  rw [h] at k
  cases k
  exact hT rfl
theorem map_ne {a b : Nat} {cs : Array Value} {T : TypeId} {es : Array MapEntry} {cl : Nat} (h : w.heap[a]? = some (.cells cs T (0, 0))) (k : w.heap[b]? = some (.map es cl)) : a ≠ b := by
  rintro rfl
  rw [h] at k
  cases k
theorem two_ne {f : Nat → Nat} (h : f 0 ≠ f 1) {i j : Nat} (hi : i < 2) (hj : j < 2) (hij : j ≠ i) : f j ≠ f i := by
  match i, j, hi, hj with
  | 0, 0, _, _ => exact absurd rfl hij
  | 0, 1, _, _ => exact h.symm
  | 1, 0, _, _ => exact h
  | 1, 1, _, _ => exact absurd rfl hij
/-- A bank of the program has been called. -/
theorem Wd.bank (h : Wd B F N w g z pv) {i : Nat} (hi : i < 2) {N' : Nat} (hN : N ≤ N') {s' : Bs} (hb : Bk F w' (z.b i) (z.bm i) N' s'.m s'.p) (k : Kb (z.b i) (z.bm i) w w') (hs : Good s') : Wd B F N' w' g { z with s := setN z.s i s' } pv := by
  obtain ⟨⟨cs, hbi⟩, es, cl, hmi⟩ := (h.bk i hi).typ
  have fb : F (z.b i) := (h.bk i hi).2.2.1.1
  have hT : ∀ k, (k = z.b i ∨ k = z.bm i) → k < w.heap.size → ((∃ es cl, w.heap[k]? = some (.map es cl)) ∨ F k) := fun k hk _ => by
    rcases hk with rfl | rfl
    · exact .inr fb
    · exact .inl ⟨_, _, hmi⟩
  refine ⟨?_, h.fg, fun j hj => ?_, fun j hj => ?_, fun j hj => ?_, h.gd, ?_, h.nb, h.nm, h.nq, h.lo⟩
  · exact (k.same g (Array.getElem?_eq_some_iff.1 h.blk).1 (fun e => by
      rcases e with e | e
      · exact cells_ne h.blk hbi (by decide) e
      · exact map_ne h.blk hmi e)).trans h.blk
  · dsimp only
    by_cases e : j = i
    · subst e; rw [setN_same]; exact hb
    · rw [setN_other _ _ e]
      obtain ⟨⟨cs', hbj⟩, es', cl', hmj⟩ := (h.bk j hj).typ
      refine ((h.bk j hj).mono hN).kps k (fun x hx hlt => ⟨?_, ?_, hT x hx hlt⟩)
      · rcases hx with rfl | rfl
        · exact (two_ne h.nb hi hj e).symm
        · exact (map_ne hbj hmi).symm
      · rcases hx with rfl | rfl
        · exact map_ne hbi hmj
        · exact (two_ne h.nm hi hj e).symm
  · obtain ⟨cs', hq⟩ := (h.rb j hj).typ
    refine (h.rb j hj).kps k (fun x hx hlt => ⟨?_, hT x hx hlt⟩)
    rcases hx with rfl | rfl
    · exact cells_ne hbi hq (by decide)
    · exact (map_ne hq hmi).symm
  · dsimp only
    by_cases e : j = i
    · subst e; rw [setN_same]; exact hs
    · rw [setN_other _ _ e]; exact h.gs j hj
  · rcases h.pen with hp | ⟨pb, cur, hp, hf, hB, hc, hz⟩
    · exact .inl hp
    · refine .inr ⟨pb, cur, hp, hf, hB, ?_, hz⟩
      exact (k.same pb (Array.getElem?_eq_some_iff.1 hc).1 (fun e => by
        rcases e with e | e
        · exact cells_ne hc hbi (by decide) e
        · exact map_ne hc hmi e)).trans hc
/-- A bank of the document has been called. -/
theorem Wd.ref (h : Wd B F N w g z pv) {i : Nat} (hi : i < 2) {d' : Bs} (hb : Rb F w' (z.q i) d') (k : Kq (z.q i) w w') (hs : Good d') : Wd B F N w' g { z with d := setN z.d i d' } pv := by
  obtain ⟨cs, hqi⟩ := (h.rb i hi).typ
  have fq : F (z.q i) := (h.rb i hi).fq
  refine ⟨?_, h.fg, fun j hj => ?_, fun j hj => ?_, h.gs, fun j hj => ?_, ?_, h.nb, h.nm, h.nq, h.lo⟩
  · exact (k.same g (Array.getElem?_eq_some_iff.1 h.blk).1 (fun e => cells_ne h.blk hqi (by decide) e)).trans h.blk
  · obtain ⟨⟨cs', hbj⟩, es', cl', hmj⟩ := (h.bk j hj).typ
    refine (h.bk j hj).kps k (fun x hx hlt => ?_)
    subst hx
    exact ⟨(cells_ne hbj hqi (by decide)).symm, map_ne hqi hmj, .inr fq⟩
  · dsimp only
    by_cases e : j = i
    · subst e; rw [setN_same]; exact hb
    · rw [setN_other _ _ e]
      refine (h.rb j hj).kps k (fun x hx hlt => ?_)
      subst hx
      exact ⟨(two_ne h.nq hi hj e).symm, .inr fq⟩
  · dsimp only
    by_cases e : j = i
    · subst e; rw [setN_same]; exact hs
    · rw [setN_other _ _ e]; exact h.gd j hj
  · rcases h.pen with hp | ⟨pb, cur, hp, hf, hB, hc, hz⟩
    · exact .inl hp
    · refine .inr ⟨pb, cur, hp, hf, hB, ?_, hz⟩
      exact (k.same pb (Array.getElem?_eq_some_iff.1 hc).1 (fun e => cells_ne hc hqi (by decide) e)).trans hc
/-- A row of ints that the texts avoid has turned; if it is the pen's, it is as long as it was. -/
theorem Wd.row (h : Wd B F N w g z pv) {lb : Nat} (hf : F lb) {cs cs' : Array Value} (h1 : w.heap[lb]? = some (.cells cs 3 (0, 0))) (h2 : w'.heap[lb]? = some (.cells cs' 3 (0, 0))) (hz : cs'.size = cs.size) (k : w.grownBy w' (some lb)) : Wd B F N w' g z pv := by
  have hk : Kps (fun x => x = lb) w w' := Kps.grown k (fun x e _ => by cases e; rfl)
  refine ⟨?_, h.fg, fun j hj => ?_, fun j hj => ?_, h.gs, h.gd, ?_, h.nb, h.nm, h.nq, h.lo⟩
  · exact (hk.same g (Array.getElem?_eq_some_iff.1 h.blk).1 (fun e => cells_ne h.blk h1 (by decide) e)).trans h.blk
  · obtain ⟨⟨cs', hbj⟩, es', cl', hmj⟩ := (h.bk j hj).typ
    refine (h.bk j hj).kps hk (fun x hx hlt => ?_)
    subst hx
    exact ⟨(cells_ne hbj h1 (by decide)).symm, map_ne h1 hmj, .inr hf⟩
  · obtain ⟨cs', hq⟩ := (h.rb j hj).typ
    refine (h.rb j hj).kps hk (fun x hx hlt => ?_)
    subst hx
    exact ⟨(cells_ne hq h1 (by decide)).symm, .inr hf⟩
  · rcases h.pen with hp | ⟨pb, cur, hp, hf', hB, hc, hz'⟩
    · exact .inl hp
    · by_cases e : pb = lb
      · subst e
        rw [h1] at hc
        cases hc
        exact .inr ⟨pb, cs', hp, hf', hB, h2, by omega⟩
      · exact .inr ⟨pb, cur, hp, hf', hB, (hk.same pb (Array.getElem?_eq_some_iff.1 hc).1 e).trans hc, hz'⟩
theorem Wd.fl (h : Wd B F N w g z pv) : ∀ k, F k → k < w.heap.size := (h.bk 0 (by omega)).fl
/-- New memory. -/
theorem Wd.ext (h : Wd B F N w g z pv) (hb : Below w.heap.size w w') : Wd B F N w' g z pv := by
  refine ⟨(hb.block g (Array.getElem?_eq_some_iff.1 h.blk).1).trans h.blk, h.fg, fun j hj => (h.bk j hj).ext hb, fun j hj => (h.rb j hj).ext hb, h.gs, h.gd, ?_, h.nb, h.nm, h.nq, h.lo⟩
  rcases h.pen with hp | ⟨pb, cur, hp, hf', hB, hc, hz'⟩
  · exact .inl hp
  · exact .inr ⟨pb, cur, hp, hf', hB, (hb.block pb (Array.getElem?_eq_some_iff.1 hc).1).trans hc, hz'⟩
/-- A new block that the texts avoid from here on. -/
theorem Wd.avoid (h : Wd B F N w g z pv) (hb : Below w.heap.size w w') {x : Nat} (hx : w.heap.size ≤ x) (hx2 : x < w'.heap.size) : Wd B (fun k => F k ∨ k = x) N w' g z pv := by
  have hfl : ∀ q, (F q ∨ q = x) → q < w'.heap.size ∧ (F q ∨ w.heap.size ≤ q) := fun q hq => by
    rcases hq with hq | rfl
    · exact ⟨Nat.lt_of_lt_of_le (h.fl q hq) hb.size, .inl hq⟩
    · exact ⟨hx2, .inr hx⟩
  refine ⟨(hb.block g (Array.getElem?_eq_some_iff.1 h.blk).1).trans h.blk, .inl h.fg, fun j hj => (h.bk j hj).avoid hb (.inl (h.bk j hj).2.2.1.1) hfl, fun j hj => (h.rb j hj).avoid hb (.inl (h.rb j hj).fq) hfl, h.gs, h.gd, ?_, h.nb, h.nm, h.nq, h.lo⟩
  rcases h.pen with hp | ⟨pb, cur, hp, hf', hB, hc, hz'⟩
  · exact .inl hp
  · exact .inr ⟨pb, cur, hp, .inl hf', hB, (hb.block pb (Array.getElem?_eq_some_iff.1 hc).1).trans hc, hz'⟩
/-- The pen is laid into the world. -/
theorem Wd.penned (h : Wd B F N w g z pv) {pb : Nat} {cur : Array Value} (hf : F pb) (hB : B ≤ pb) (hc : w.heap[pb]? = some (.cells cur 3 (0, 0))) (hz : cur.size = 300) : Wd B F N (w.setCell ⟨g, 4, none⟩ (.slice (some ⟨pb, 0, none⟩) 300 300)) g z (.slice (some ⟨pb, 0, none⟩) 300 300) ∧ w.grownBy (w.setCell ⟨g, 4, none⟩ (.slice (some ⟨pb, 0, none⟩) 300 300)) (some g) := by
  obtain ⟨e, gr⟩ := set1 h.blk 4 (.slice (some ⟨pb, 0, none⟩) 300 300)
  have hk : Kps (fun x => x = g) w (w.setCell ⟨g, 4, none⟩ (.slice (some ⟨pb, 0, none⟩) 300 300)) := Kps.grown gr (fun x e _ => by cases e; rfl)
  refine ⟨⟨e, h.fg, fun j hj => ?_, fun j hj => ?_, h.gs, h.gd, ?_, h.nb, h.nm, h.nq, h.lo⟩, gr⟩
  · obtain ⟨⟨cs', hbj⟩, es', cl', hmj⟩ := (h.bk j hj).typ
    refine (h.bk j hj).kps hk (fun x hx hlt => ?_)
    subst hx
    exact ⟨(cells_ne hbj h.blk (by decide)).symm, map_ne h.blk hmj, .inr h.fg⟩
  · obtain ⟨cs', hq⟩ := (h.rb j hj).typ
    refine (h.rb j hj).kps hk (fun x hx hlt => ?_)
    subst hx
    exact ⟨(cells_ne hq h.blk (by decide)).symm, .inr h.fg⟩
  · exact .inr ⟨pb, cur, rfl, hf, hB, (hk.same pb (Array.getElem?_eq_some_iff.1 hc).1 (fun e => cells_ne hc h.blk (by decide) e)).trans hc, hz⟩
/-- What is read of the world. -/
theorem Wd.cells (h : Wd B F N w g z pv) : (∀ i : Nat, i < 2 → w.cell? ⟨g, i, none⟩ = some (.pointer (some ⟨z.b i, 0, none⟩))) ∧ (∀ i : Nat, i < 2 → w.cell? ⟨g, 2 + i, none⟩ = some (.pointer (some ⟨z.q i, 0, none⟩))) ∧ w.cell? ⟨g, 4, none⟩ = some pv ∧ ∀ i, w.frozen? ⟨g, i, none⟩ = false := by
  refine ⟨fun i hi => ?_, fun i hi => ?_, ?_, fun i => frozOf h.blk i⟩
  · rw [cellOf h.blk]
    match i, hi with
    | 0, _ => rfl
    | 1, _ => rfl
  · rw [cellOf h.blk]
    match i, hi with
    | 0, _ => rfl
    | 1, _ => rfl
  · rw [cellOf h.blk]
    rfl
theorem Kb.low {b bm : Nat} (k : Kb b bm w w') (h1 : B ≤ b) (h2 : B ≤ bm) (hB : B ≤ w.heap.size) : Below B w w' := Kps.below k hB (fun x hx => by rcases hx with rfl | rfl <;> assumption)
theorem Kq.low {q : Nat} (k : Kq q w w') (h1 : B ≤ q) (hB : B ≤ w.heap.size) : Below B w w' := Kps.below k hB (fun x hx => by subst hx; exact h1)
end
end Go.Proofs.Ytmldfjhfgaggpaa

/- Lists that hold one mark alone: append of marks; the law's grown. -/
namespace Go.Proofs.Ytmldfjhfgaggpaa
open Go.RowKit

theorem rep_map (n : Nat) (m : Int) : (List.replicate n m).map (Value.int .i64) = List.replicate n (.int .i64 m) := by simp
theorem run_append_marks {P : Program} (w : World) (B : Nat) (t ty e : TypeId) (i : TypeInfo) (ht : P.underlying t = some (.slice e)) (hi : P.info? e = some i) (hz : i.zero = some (.int .i64 0)) (hsize : i.size = 1) (hby : i.bytes = 8) (he : e = 3)
    (m : Int) (n j : Nat) (v : Value) (hown : OwnI w B v (List.replicate n m)) (a : Addr) (c : Nat) (hsrc : ∀ k, k < j → w.cell? (a.add k) = some (.int .i64 m)) (hj : 0 < j) (hn : n + j ≤ 1000000) (hB : B ≤ w.heap.size) :
    ∃ v' w', (Builtin.append_ #[t, t] ty #[v, .slice (some a) j c]).run P w = .ok v' w' ∧ OwnI w' B v' (List.replicate (n + j) m) ∧ (∀ y k, OwnI w B y (List.replicate k m) → OwnI w' B y (List.replicate k m)) ∧ w.grownBy w' v.ownBlock ∧ (v'.ownBlock = v.ownBlock ∨ v'.ownBlock = some w.heap.size) := by
  subst he
  have hnews : ∀ q u, (List.replicate j (Value.int .i64 m))[q]? = some u → w.cell? (a.add q) = some u := fun q u hq => by
    have hql : q < j := by have := (List.getElem?_eq_some_iff.1 hq).1; simpa using this
    rw [hsrc q hql]
    rw [List.getElem?_replicate, if_pos hql] at hq
    exact hq
  have hone : ∀ u ∈ List.replicate j (Value.int .i64 m), u.oneCell' = true := fun u hu => by
    rw [List.eq_of_mem_replicate hu]; rfl
  have hown' : w.ownsRow B 3 1 v n (List.replicate n (.int .i64 m)) := by
    have := hown
    unfold OwnI at this
    rw [rep_map, List.length_replicate] at this
    exact this
  obtain ⟨v', w', hr, h2, h3, h4⟩ := run_append_blk (P := P) w B t ty 3 i (.int .i64 0) 1 8 ht hi hz hsize hby rfl (by decide) v n _ hown' a j c (List.replicate j (.int .i64 m)) (by simp) hnews hone (by unfold maxLen; omega) (by omega) hB (fun _ => hj)
  refine ⟨v', w', hr, ?_, ?_, h3, h4⟩
  · unfold OwnI
    rw [rep_map, List.length_replicate]
    rw [List.replicate_append_replicate] at h2
    exact h2
  · intro y k hy
    obtain ⟨y1, y2⟩ := hy
    refine ⟨y1, ?_⟩
    rcases y2 with y2 | ⟨g, cap, cur, hv, hg1, hg2, hg3, hg4, hg5, hg6⟩
    · exact .inl y2
    · by_cases hvb : v.ownBlock = some g
      · rcases hown'.2 with ⟨rfl, _⟩ | ⟨g', cap', cur', rfl, b1, b2, b3, b4, b5, b6⟩
        · cases hvb
        · have eg : g = g' := by cases hvb; rfl
          subst eg
          rw [hg2] at b2
          cases b2
          by_cases hroom : n + j ≤ cap'
          · have hr2 := run_append_room (P := P) w t ty 3 i ht hi g n cap' cur hg2 a j c (List.replicate j (.int .i64 m)) (by rw [hsize]; simp) hnews hone hroom (by rw [hsize]; simp; omega)
            rw [hsize, Nat.mul_one] at hr2
            rw [hr2] at hr
            cases hr
            refine .inr ⟨g, cap, _, hv, hg1, setRow_heap w g cur _ 3 _ hg2, hg3, hg4, ?_, ?_⟩
            · simp only [List.size_toArray, List.length_append, List.length_take, List.length_drop, Array.length_toList, List.length_replicate]
              omega
            · rw [rep_map, List.length_replicate] at *
              rw [Nat.mul_one] at *
              apply List.ext_getElem?
              intro q
              by_cases hq : q < k
              · rw [List.getElem?_take_of_lt hq, List.getElem?_replicate, if_pos hq]
                have hcq : cur.toList[q]? = some (.int .i64 m) := by
                  have := congrArg (fun l => l[q]?) hg6
                  simp only [List.getElem?_take_of_lt hq, List.getElem?_replicate, if_pos hq] at this
                  exact this
                have hql := (List.getElem?_eq_some_iff.1 hcq).1
                rw [List.getElem?_append]
                have hn' : min n cur.toList.length = n := by simp; omega
                by_cases q1 : q < n
                · rw [if_pos (by rw [List.length_append, List.length_take, hn']; omega), List.getElem?_append, if_pos (by rw [List.length_take, hn']; exact q1), List.getElem?_take_of_lt q1]
                  exact hcq
                · by_cases q2 : q < n + j
                  · rw [if_pos (by rw [List.length_append, List.length_take, hn', List.length_replicate]; exact q2), List.getElem?_append, if_neg (by rw [List.length_take, hn']; exact q1), List.getElem?_replicate, if_pos (by rw [List.length_take, hn']; omega)]
                  · rw [if_neg (by rw [List.length_append, List.length_take, hn', List.length_replicate]; exact q2), List.getElem?_drop]
                    rw [← hcq]
                    congr 1
                    rw [List.length_append, List.length_take, hn', List.length_replicate]
                    omega
              · rw [List.getElem?_take_eq_none (by omega), List.getElem?_eq_none (by simp; omega)]
          · have holds : ∀ j u, (List.replicate n (Value.int .i64 m))[j]? = some u → w.cell? ((⟨g, 0, none⟩ : Addr).add j) = some u := hown'.cells (g := g) rfl
            have hr2 := run_append_grow (P := P) w t ty 3 i (.int .i64 0) ht hi hz ⟨g, 0, none⟩ n cap' _ (by rw [hsize]; simp) holds a j c (List.replicate j (.int .i64 m)) (by rw [hsize]; simp) hnews (by omega) (by omega) (by rw [hby]; exact growslice_fits (by omega) (by omega))
            rw [hr2] at hr
            cases hr
            exact .inr ⟨g, cap, cur, hv, hg1, (heap_alloc_old w.drew _ (Array.getElem?_eq_some_iff.1 hg2).1).trans hg2, hg3, hg4, hg5, hg6⟩
      · exact .inr ⟨g, cap, cur, hv, hg1, (h3.block g (Array.getElem?_eq_some_iff.1 hg2).1 (fun e => hvb e.symm)).trans hg2, hg3, hg4, hg5, hg6⟩
section
variable {P : Program} {W : World} {ops : Array Oper} {rest : List Oper} {o : Oper} {a : Act} {Q : Exit → Act → World → Prop}
/-- append of marks. -/
theorem wpl_marks (hgd : o.guard = none) (s x : Operand) (t : TypeId) (ho : o.op = .call { callee := .builtin .append, args := #[s, x], argTypes := #[t, t] })
    (B : Nat) (hinf : (P.info? 3).map (fun i => (i.zero, i.size, i.bytes)) = some (some (.int .i64 0), 1, 8)) (ht : P.underlying t = some (.slice 3))
    (m : Int) (n j : Nat) (v : Value) (hs : a.eval s = v) (hown : OwnI W B v (List.replicate n m)) (sb c : Nat) (hx : a.eval x = .slice (some ⟨sb, 0, none⟩) j c) (hsrc : ∀ k, k < j → W.cell? ⟨sb, k, none⟩ = some (.int .i64 m)) (hj : 0 < j) (hn : n + j ≤ 1000000) (hB : B ≤ W.heap.size)
    (h : ∀ v' w', OwnI w' B v' (List.replicate (n + j) m) → (∀ y k, OwnI W B y (List.replicate k m) → OwnI w' B y (List.replicate k m)) → W.grownBy w' v.ownBlock → (v'.ownBlock = v.ownBlock ∨ v'.ownBlock = some W.heap.size) → wpList P ops Q rest (a.put o.dst v') w') : wpList P ops Q (o :: rest) a W := by
  obtain ⟨i0, hi, hz0, hz1, hz2⟩ := info_parts hinf
  obtain ⟨v', w', hrun, h1, h2, h3, h4⟩ := run_append_marks (P := P) W B t o.type 3 i0 ht hi hz0 hz1 hz2 rfl m n j v hown ⟨sb, 0, none⟩ c (fun k hk => by rw [Addr.add_lit, Nat.zero_add]; exact hsrc k hk) hj hn hB
  refine wpList_plain hgd fun K hK => ?_
  unfold Oper.wp execOp
  simp only [ho, resolve, invoke, builtin, Sem.run_bind, Sem.run_pure, Result.andThen_ok, List.map_toArray, List.map_cons, List.map_nil, hs, hx, hrun]
  exact hK _ _ (h v' w' h1 h2 h3 h4)
end
end Go.Proofs.Ytmldfjhfgaggpaa

/- The law's grown. -/
namespace Go.Proofs.Ytmldfjhfgaggpaa
open Go.RowKit

/-- An int of a row of the call's own is written. -/
theorem OwnI.set {w : World} {B g n c : Nat} {zs : List Int} (h : OwnI w B (.slice (some ⟨g, 0, none⟩) n c) zs) (j : Nat) (hj : j < zs.length) (x : Int) : OwnI (w.setCell ⟨g, j, none⟩ (.int .i64 x)) B (.slice (some ⟨g, 0, none⟩) n c) (zs.set j x) ∧ w.grownBy (w.setCell ⟨g, j, none⟩ (.int .i64 x)) (some g) ∧ (∃ y, w.cell? ⟨g, j, none⟩ = some (.int .i64 y)) ∧ w.frozen? ⟨g, j, none⟩ = false := by
  obtain ⟨h1, h2⟩ := h
  rcases h2 with ⟨h2, _⟩ | ⟨g', cap, cur, hv, hb, hg, k1, k2, k3, k4⟩
  · cases h2
  · cases hv
    obtain ⟨e, gr⟩ := set1 hg j (.int .i64 x)
    rw [Nat.mul_one] at k4 k3
    have hcur : cur[j]? = some (.int .i64 (zs[j]?.getD 0)) := by
      have := congrArg (fun l => l[j]?) k4
      simp only [List.getElem?_take_of_lt hj, List.getElem?_map, Array.getElem?_toList] at this
      rw [this]
      simp [hj]
    refine ⟨⟨by simp, .inr ⟨g, c, _, by simp, hb, e, by simpa using k1, k2, by simpa using k3, ?_⟩⟩, gr, ⟨_, (cellOf hg j).trans hcur⟩, frozOf hg j⟩
    rw [Nat.mul_one, List.length_set, Array.toList_setIfInBounds, List.map_set, ← k4, List.take_set]
theorem rep_all {zs : List Int} {n : Nat} {m : Int} (hl : zs.length = n) (h : ∀ k, k < n → zs[k]? = some m) : zs = List.replicate n m := by
  apply List.ext_getElem?
  intro k
  by_cases hk : k < n
  · rw [h k hk, List.getElem?_replicate, if_pos hk]
  · rw [List.getElem?_eq_none (by omega), List.getElem?_eq_none (by simp; omega)]
theorem one_cells (w : World) (m : Int) : ∀ k, k < 1 → (w.alloc (.cells #[.int .i64 m] 3)).cell? ⟨w.heap.size, k, none⟩ = some (.int .i64 m) := fun k hk => by
  rw [cellOf (heap_alloc_new w _)]
  match k, hk with
  | 0, _ => rfl
theorem two_cells (w : World) (m : Int) : ∀ k, k < 2 → (w.alloc (.cells #[.int .i64 m, .int .i64 m] 3)).cell? ⟨w.heap.size, k, none⟩ = some (.int .i64 m) := fun k hk => by
  rw [cellOf (heap_alloc_new w _)]
  match k, hk with
  | 0, _ => rfl
  | 1, _ => rfl
theorem three_cells (w : World) (m : Int) : ∀ k, k < 3 → (w.alloc (.cells #[.int .i64 m, .int .i64 m, .int .i64 m] 3)).cell? ⟨w.heap.size, k, none⟩ = some (.int .i64 m) := fun k hk => by
  rw [cellOf (heap_alloc_new w _)]
  match k, hk with
  | 0, _ => rfl
  | 1, _ => rfl
  | 2, _ => rfl
/-- Where a list lies: where v does, or in a new block. -/
def Near (w : World) (v y : Value) : Prop := ∀ k, y.ownBlock = some k → v.ownBlock = some k ∨ w.heap.size ≤ k
/-- What grown answers. -/
def GrR (B : Nat) (w : World) (v : Value) (n : Nat) (m : Int) (e : Ending) (w' : World) : Prop := ∃ rb a1 a2 a3, e = .returned (.slice (some ⟨rb, 0, none⟩) 4 4) ∧ w.heap.size ≤ rb ∧ w'.heap[rb]? = some (.cells #[v, a1, a2, a3] 29 (0, 0)) ∧ OwnI w' B v (List.replicate n m) ∧ OwnI w' B a1 (List.replicate (n + 1) m) ∧ OwnI w' B a2 (List.replicate (n + 2) m) ∧ OwnI w' B a3 (List.replicate (n + 103) m) ∧ Near w v a1 ∧ Near w v a2 ∧ Near w v a3 ∧ Kps (fun k => v.ownBlock = some k) w w'
theorem Near.trans {w w2 : World} {v x y : Value} (h : Near w v x) (hs : w.heap.size ≤ w2.heap.size) (k : y.ownBlock = x.ownBlock ∨ y.ownBlock = some w2.heap.size) : Near w v y := by
  intro q hq
  rcases k with k | k
  · exact h q (k ▸ hq)
  · rw [k] at hq
    cases hq
    exact .inr hs
theorem Near.self (w : World) (v : Value) : Near w v v := fun _ h => .inl h
/-- An append of marks leaves all but v's block and new ones. -/
theorem kps_near {w w2 w3 : World} {v x : Value} (k : Kps (fun k => v.ownBlock = some k) w w2) (h : Near w v x) (g : w2.grownBy w3 x.ownBlock) : Kps (fun k => v.ownBlock = some k) w w3 := by
  refine k.trans (Kps.grown (o := fun q => x.ownBlock = some q) g (fun q e _ => e)) (fun q hq e => ?_)
  rcases h q e with h | h
  · exact h
  · omega
set_option maxRecDepth 100000 in
set_option maxHeartbeats 4000000 in
theorem grown_any {B : Nat} (w : World) (v : Value) (zs : List Int) (m : Int) (hv : OwnI w B v zs) (hB : B ≤ w.heap.size) (hl : zs.length ≤ 200000) :
    Calls Try.prog 24 #[v, .int .i64 m] w (GrR B w v zs.length m) := by
  obtain ⟨ao, c, e, _⟩ := hv.rds.len
  obtain ⟨n, hn⟩ : ∃ n, n = zs.length := ⟨_, rfl⟩
  rw [← hn] at e
  subst e
  have HN := hidIt hn
  have hnb : (n : Int) ≤ 200000 := by omega
  have HB := hidIt hB
  have HV := hidIt hv
  rw [← hn]
  clear hv hB hl hn
  go_enter Try.func24, Try.ntmps24
  go_wp2_with fail
  go_loopw [5] (fun i wr => ∃ j : Nat, j ≤ n ∧ i = .int .i64 j ∧ Hid (∃ ys : List Int, ys.length = n ∧ OwnI wr B (.slice ao n c) ys ∧ (∀ k, k < j → ys[k]? = some m) ∧ w.grownBy wr (Value.slice ao n c).ownBlock)) (fun i _ => n - (RowKit.intOf i).toNat)
  case atStart => exact ⟨0, Nat.zero_le _, rfl, zs, HN.out.symm, HV.out, (fun k hk => by omega), ⟨rfl, rfl, rfl, Nat.le_refl _, fun _ _ _ => rfl⟩⟩
  case round =>
    obtain ⟨j, hj, rfl, hx⟩ := hrel
    obtain ⟨ys, y1, y2, y3, y4⟩ := hx.out
    by_cases hlt : (j : Int) < (n : Int)
    · obtain ⟨g, rfl⟩ : ∃ g, ao = some ⟨g, 0, none⟩ := by
        rcases y2.2 with ⟨e, _⟩ | ⟨g, cap, cur, e, _⟩
        · cases e; omega
        · cases e; exact ⟨g, rfl⟩
      obtain ⟨s1, s2, ⟨y, c1⟩, fr⟩ := y2.set j (by omega) m
      have S1 := hidIt s1
      have S2 := hidIt s2
      have Y1 := hidIt y1
      have Y3 := hidIt y3
      have Y4 := hidIt y4
      clear hx y1 y2 y3 y4 s1 s2
      go_wp2_with fail
      go_roundw
      case rel =>
        refine ⟨j + 1, by omega, by go_num, ys.set j m, by simp [Y1.out], S1.out, fun k hk => ?_, grown_trans Y4.out S2.out⟩
        by_cases e : k = j
        · subst e
          rw [List.getElem?_set_self (by rw [Y1.out]; omega)]
        · rw [List.getElem?_set_ne (Ne.symm e)]
          exact Y3.out k (by omega)
      case measure => simp [RowKit.intOf]; omega
    · have HO : Hid (OwnI wr B (.slice ao n c) (List.replicate n m)) := by
        have := rep_all y1 (fun k hk => y3 k (by omega))
        rw [this] at y2
        exact y2
      have HK : Hid (Kps (fun k => (Value.slice ao n c).ownBlock = some k) w wr) := Kps.grown y4 (fun k e _ => e)
      have HBW := hidIt (show B ≤ wr.heap.size by have := y4.size; have := HB.out; omega)
      clear hx y1 y2 y3 y4 hj HV
      go_upto_region 6 with (at_builtin; refine wpl_marks rfl _ _ 29 rfl B Try.info_i64 Try.underlying29 m n 3 _ rfl (HO.out.ext (ext_alloc (Below.refl _ _) _)) wr.heap.size 3 rfl (three_cells wr m) (by decide) (by omega) (by have := HBW.out; simp; omega) ?_; intro v2 w2 o2 p2 g2 n2; obtain ⟨a2, l2, c2, e2⟩ := o2.form; subst e2; have O2 := hidIt o2; have P2 := hidIt (p2 _ n (HO.out.ext (ext_alloc (Below.refl _ _) _))); have N2 := hidIt ((Near.self w (Value.slice ao n c)).trans (y := .slice a2 l2 c2) (by have := HK.out.size; simp; omega) n2); have K2 := hidIt (kps_near (HK.out.trans (Kps.of_below _ (ext_alloc (Below.refl _ _) _)) (fun _ _ h => h)) (Near.self _ _) g2); clear o2 p2 g2 n2)
      have HB2 := hidIt (show B ≤ w2.heap.size by have := K2.out.size; have := HB.out; omega)
      have HS2 := hidIt K2.out.size
      clear HO HK HBW hlt
      go_wp2_with fail
      go_loopw [6, 7] (fun f i wr => ∃ k : Nat, k ≤ 100 ∧ i = .int .i64 k ∧ Hid (OwnI wr B f (List.replicate (n + 3 + k) m) ∧ OwnI wr B (.slice ao n c) (List.replicate n m) ∧ Near w (.slice ao n c) f ∧ Kps (fun k => (Value.slice ao n c).ownBlock = some k) w wr)) (fun _ i _ => 100 - (RowKit.intOf i).toNat)
      case atStart => exact ⟨0, Nat.zero_le _, rfl, O2.out, P2.out, N2.out, K2.out⟩
      case round =>
        obtain ⟨k, hk, rfl, hx⟩ := hrel
        obtain ⟨x1, x2, x3, x4⟩ := hx.out
        obtain ⟨a3, l3, c3, rfl⟩ := x1.form
        have X1 := hidIt x1
        have X2 := hidIt x2
        have X3 := hidIt x3
        have X4 := hidIt x4
        have XB := hidIt (show B ≤ wr.heap.size by have := x4.size; have := HB.out; omega)
        clear hx x1 x2 x3 x4
        by_cases hlt : (k : Int) < 100
        · go_wp2_with (at_builtin; refine wpl_marks rfl _ _ 29 rfl B Try.info_i64 Try.underlying29 m (n + 3 + k) 1 _ rfl (X1.out.ext (ext_alloc (Below.refl _ _) _)) wr.heap.size 1 rfl (one_cells wr m) (by decide) (by omega) (by have := XB.out; simp; omega) ?_; intro v5 w5 o5 p5 g5 n5; obtain ⟨a5, l5, c5, e5⟩ := o5.form; subst e5; have O5 := hidIt o5; have P5 := hidIt (p5 _ n (X2.out.ext (ext_alloc (Below.refl _ _) _))); have N5 := hidIt (X3.out.trans (y := .slice a5 l5 c5) (by have := X4.out.size; simp; omega) n5); have K5 := hidIt (kps_near (X4.out.trans (Kps.of_below _ (ext_alloc (Below.refl _ _) _)) (fun _ _ h => h)) X3.out g5); clear o5 p5 g5 n5)
          go_roundw
          case rel => exact ⟨k + 1, by omega, by go_num, O5.out, P5.out, N5.out, K5.out⟩
          case measure => simp [RowKit.intOf]; omega
        · have hk1 : k = 100 := by omega
          subst hk1
          go_wp2_with (at_builtin; first
            | (refine wpl_marks rfl _ _ 29 rfl B Try.info_i64 Try.underlying29 m n 1 _ rfl (X2.out.ext (ext_alloc (Below.refl _ _) _)) wr.heap.size 1 rfl (one_cells wr m) (by decide) (by omega) (by have := XB.out; simp; omega) ?_; intro v5 w5 o5 p5 g5 n5; obtain ⟨a5, l5, c5, e5⟩ := o5.form; subst e5; have O5 := hidIt o5; have P5 := hidIt (p5 _ n (X2.out.ext (ext_alloc (Below.refl _ _) _))); have F5 := hidIt (p5 _ _ (X1.out.ext (ext_alloc (Below.refl _ _) _))); have N5 := hidIt ((Near.self w (Value.slice ao n c)).trans (y := .slice a5 l5 c5) (by have := X4.out.size; simp; omega) n5); have K5 := hidIt (kps_near (X4.out.trans (Kps.of_below _ (ext_alloc (Below.refl _ _) _)) (fun _ _ h => h)) (Near.self _ _) g5); have XB5 := hidIt (show B ≤ w5.heap.size by have := K5.out.size; have := HB.out; omega); clear o5 p5 g5 n5 XB)
            | (refine wpl_marks rfl _ _ 29 rfl B Try.info_i64 Try.underlying29 m n 2 _ rfl (P5.out.ext (ext_alloc (Below.refl _ _) _)) w5.heap.size 2 rfl (two_cells w5 m) (by decide) (by omega) (by have := XB5.out; simp; omega) ?_; intro v6 w6 o6 p6 g6 n6; obtain ⟨a6, l6, c6, e6⟩ := o6.form; subst e6; have O6 := hidIt o6; have P6 := hidIt (p6 _ n (P5.out.ext (ext_alloc (Below.refl _ _) _))); have F6 := hidIt (p6 _ _ (F5.out.ext (ext_alloc (Below.refl _ _) _))); have A6 := hidIt (p6 _ _ (O5.out.ext (ext_alloc (Below.refl _ _) _))); have N6 := hidIt ((Near.self w (Value.slice ao n c)).trans (y := .slice a6 l6 c6) (by have := K5.out.size; simp; omega) n6); have K6 := hidIt (kps_near (K5.out.trans (Kps.of_below _ (ext_alloc (Below.refl _ _) _)) (fun _ _ h => h)) (Near.self _ _) g6); clear o6 p6 g6 n6))
          go_ret
          have hb := ext_alloc (Below.refl w6.heap.size w6) (.cells #[.slice ao n c, .slice a5 l5 c5, .slice a6 l6 c6, .slice a3 l3 c3] 29)
          exact ⟨w6.heap.size, _, _, _, rfl, K6.out.size, heap_alloc_new _ _, P6.out.ext hb, A6.out.ext hb, O6.out.ext hb, F6.out.ext hb, N5.out, N6.out, X3.out, K6.out.trans (Kps.of_below _ hb) (fun _ _ h => h)⟩
end Go.Proofs.Ytmldfjhfgaggpaa

/- The law's whole. -/
namespace Go.Proofs.Ytmldfjhfgaggpaa
open Go.RowKit

/-- Lists of the shelf: where they lie, how long they are, their marks. -/
abbrev Sf := Value × Nat × Int
/-- A row of lists of the call's own. -/
def RowL (w : World) (B : Nat) (v : Value) (xs : List Value) : Prop := w.ownsRow B 29 1 v xs.length xs
theorem RowL.ext {w w' : World} {B : Nat} {v : Value} {xs : List Value} (h : RowL w B v xs) (hb : Below w.heap.size w w') : RowL w' B v xs := own_ext h hb
theorem RowL.at {w : World} {B : Nat} {v : Value} {xs : List Value} (h : RowL w B v xs) : ∃ ao c, v = .slice ao xs.length c ∧ xs.length ≤ 9223372036854775807 ∧ ∀ i u, xs[i]? = some u → ∃ g, ao = some ⟨g, 0, none⟩ ∧ w.cell? ⟨g, i, none⟩ = some u := by
  obtain ⟨h1, h2⟩ := h
  rcases h2 with ⟨rfl, h0⟩ | ⟨g, cap, cur, rfl, hb, hg, k1, k2, k3, k4⟩
  · rw [h0]
    have : xs = [] := List.length_eq_zero_iff.1 h0
    subst this
    exact ⟨none, 0, rfl, by simp, fun i u hu => by simp at hu⟩
  · refine ⟨some ⟨g, 0, none⟩, cap, rfl, by unfold maxLen at k2; omega, fun i u hu => ⟨g, rfl, ?_⟩⟩
    have hi := (List.getElem?_eq_some_iff.1 hu).1
    rw [cellOf hg, ← Array.getElem?_toList]
    have := congrArg (fun l => l[i]?) k4
    simp only [Nat.mul_one, List.getElem?_take_of_lt hi] at this
    rw [this, hu]
theorem OwnI.at {w : World} {B : Nat} {v : Value} {zs : List Int} (h : OwnI w B v zs) : ∃ ao c, v = .slice ao zs.length c ∧ ∀ i z, zs[i]? = some z → ∃ g, ao = some ⟨g, 0, none⟩ ∧ w.cell? ⟨g, i, none⟩ = some (.int .i64 z) := by
  obtain ⟨h1, h2⟩ := h
  rcases h2 with ⟨rfl, h0⟩ | ⟨g, cap, cur, rfl, hb, hg, k1, k2, k3, k4⟩
  · rw [h0]
    have : zs = [] := List.length_eq_zero_iff.1 h0
    subst this
    exact ⟨none, 0, rfl, fun i u hu => by simp at hu⟩
  · refine ⟨some ⟨g, 0, none⟩, cap, rfl, fun i u hu => ⟨g, rfl, ?_⟩⟩
    have hi := (List.getElem?_eq_some_iff.1 hu).1
    rw [cellOf hg, ← Array.getElem?_toList]
    have := congrArg (fun l => l[i]?) k4
    simp only [Nat.mul_one, List.getElem?_take_of_lt hi] at this
    rw [this, List.getElem?_map, hu]
    rfl
set_option maxRecDepth 100000 in
set_option maxHeartbeats 4000000 in
theorem whole_any {B : Nat} (w : World) (sv mv : Value) (ss : List Sf) (hs : RowL w B sv (ss.map (·.1))) (hl : ∀ x ∈ ss, OwnI w B x.1 (List.replicate x.2.1 x.2.2)) (hm : OwnI w B mv (ss.map (·.2.2))) (hb : ∀ x ∈ ss, x.2.1 ≤ 1000000) :
    Calls Try.prog 25 #[sv, mv] w fun e w' => e = .returned (.bool true) ∧ Below w.heap.size w w' := by
  have HS := hidIt hs
  have HL := hidIt hl
  have HM := hidIt hm
  have HBD := hidIt hb
  obtain ⟨sa, sc, rfl, hsn, _⟩ := hs.at
  obtain ⟨ma, mc, rfl, _⟩ := hm.at
  clear hs hl hm hb
  have hn1 : (ss.map (·.1)).length = ss.length := by simp
  have hn2 : (ss.map (·.2.2)).length = ss.length := by simp
  have hsn' : (ss.length : Int) ≤ 9223372036854775807 := by omega
  rw [hn1] at HS ⊢
  rw [hn2] at HM ⊢
  clear hn1 hn2 hsn
  go_enter Try.func25, Try.ntmps25
  go_wp2_with fail
  go_loopw [5] (fun i wr => ∃ j : Nat, j ≤ ss.length ∧ i = .int .i64 j ∧ Below w.heap.size w wr) (fun i _ => ss.length - (RowKit.intOf i).toNat)
  case atStart => exact ⟨0, Nat.zero_le _, rfl, Below.refl _ _⟩
  case round =>
    obtain ⟨i, hi, rfl, hbw⟩ := hrel
    have HBW := hidIt hbw
    clear hbw
    by_cases hlt : i < ss.length
    · have hi1 : (i : Int) < (ss.length : Int) := by omega
      obtain ⟨x, hx⟩ : ∃ x, ss[i]? = some x := ⟨_, List.getElem?_eq_getElem hlt⟩
      have hxm := List.mem_of_getElem? hx
      obtain ⟨a, c, ev, hc⟩ := (HL.out x hxm).at
      rw [List.length_replicate] at ev
      obtain ⟨sa', sc', e1, _, hc1⟩ := HS.out.at
      have ea : sa = sa' := by injection e1
      subst ea
      obtain ⟨g, rfl, s1⟩ := hc1 i x.1 (by rw [List.getElem?_map, hx]; rfl)
      obtain ⟨ma', mc', e2, hc2⟩ := HM.out.at
      have eb : ma = ma' := by injection e2
      subst eb
      obtain ⟨mg, rfl, m1⟩ := hc2 i x.2.2 (by rw [List.getElem?_map, hx]; rfl)
      rw [ev] at s1
      have hgl : g < w.heap.size := World.block_lt_of_cell? w ⟨g, i, none⟩ s1
      have hml : mg < w.heap.size := World.block_lt_of_cell? w ⟨mg, i, none⟩ m1
      have S1 := hidIt (fun w' (hb : Below w.heap.size w w') => (hb.cell (p := ⟨g, i, none⟩) hgl).trans s1)
      have M1 := hidIt (fun w' (hb : Below w.heap.size w w') => (hb.cell (p := ⟨mg, i, none⟩) hml).trans m1)
      have HC : Hid (∀ q : Nat, q < x.2.1 → ∃ gx, a = some ⟨gx, 0, none⟩ ∧ ∀ w', Below w.heap.size w w' → w'.cell? ⟨gx, q, none⟩ = some (.int .i64 x.2.2)) := fun q hq => by
        obtain ⟨gx, e, cx⟩ := hc q x.2.2 (by rw [List.getElem?_replicate, if_pos hq])
        exact ⟨gx, e, fun w' hb => (hb.cell (p := ⟨gx, q, none⟩) (World.block_lt_of_cell? w ⟨gx, q, none⟩ cx)).trans cx⟩
      have hxb := HBD.out x hxm
      generalize x.2.1 = n at *
      generalize x.2.2 = m at *
      clear hc hc1 hc2 hx hxm s1 m1 ev HS HL HM hgl hml
      go_wp2_with fail
      go_loopw [6] (fun q wr => ∃ k : Nat, k ≤ n ∧ q = .int .i64 k ∧ Below w.heap.size w wr) (fun q _ => n - (RowKit.intOf q).toNat)
      case atStart => exact ⟨0, Nat.zero_le _, rfl, HBW.out⟩
      case round =>
        obtain ⟨k, hk, rfl, hbk⟩ := hrel
        have HBK := hidIt hbk
        clear hbk
        have s1 := S1.out wr HBK.out
        have m1 := M1.out wr HBK.out
        by_cases hk2 : (k : Int) < (n : Int)
        · obtain ⟨gx, rfl, hcx⟩ := HC.out k (by omega)
          have x1 := hcx wr HBK.out
          clear hcx
          go_upto_region 7 with fail
          go_region
          all_goals
            go_wp2_with fail
            go_roundw
            case rel => exact ⟨k + 1, by omega, by go_num, HBK.out.drew⟩
            case measure => simp [RowKit.intOf]; omega
        · go_wp2_with fail
          go_roundw
          case rel => exact ⟨i + 1, by omega, by go_num, HBK.out⟩
          case measure => simp [RowKit.intOf]; omega
    · have hi1 : ¬ (i : Int) < (ss.length : Int) := by omega
      go_wp2_with fail
      go_ret
      exact ⟨rfl, HBW.out⟩
end Go.Proofs.Ytmldfjhfgaggpaa
