import Derived.Test.YtfdceljdhgbkcaaDoorJ00
import Derived.Test.YtfdceljdhgbkcaaDoorJ32
import Derived.Test.YtfdceljdhgbkcaaDoorJ30
import Derived.Test.YtfdceljdhgbkcaaDoorJ39
import Derived.ProofKit
import Derived.OpenShut
import Derived.ChangeOld
import Derived.SizedLaws
import Derived.Below
import Derived.Laws.Cover2
/- Pairs: a parser of the code's and one of the document's that are fed alike. -/
namespace Go.Proofs.YtfdceljdhgbkcaaDoor
open Go.RowKit
/-- What the code's parser says to a key is what the document's says. -/
theorem fdr_doc {p q : Ps} {mode key : Int} {c : Cm} {s : Int} (hd : DI p.sl p.ks p.t) (h : FdR p mode key q c s) : dFd (isl mode) p.sl p.ks key = ((c, s), q.ks) ∧ DI q.sl q.ks q.t := by
  unfold dFd
  rcases h with ⟨h1, rfl, rfl, rfl⟩ | ⟨h1, u, hu, h2⟩
  · rw [if_pos h1]
    exact ⟨rfl, DI.init _⟩
  · rw [if_neg h1]
    obtain ⟨ha, hb⟩ : (ahd p mode).ks = (if isl mode = p.sl then p.ks else []) ∧ DI (isl mode) (ahd p mode).ks (ahd p mode).t := by
      unfold ahd
      by_cases e : isl mode = p.sl
      · rw [if_pos e, if_pos e, e]
        exact ⟨rfl, hd⟩
      · rw [if_neg e, if_neg e]
        exact ⟨rfl, DI.init _⟩
    obtain ⟨k1, k2⟩ := feed_d hb hu
    rw [← ha, k2]
    rcases h2 with ⟨e, rfl⟩ | ⟨e, rfl⟩
    · rw [if_pos e]
      exact ⟨rfl, k1 e⟩
    · rw [if_neg e]
      exact ⟨rfl, DI.init _⟩
theorem PsM.keepG {w w' : World} {b : Nat} {pv : Value} {p : Ps} {o : Nat → Prop} (h : PsM w b pv p) (hk : Kps o w w') (ho : ∀ k, o k → k ≠ b ∧ pv.ownBlock ≠ some k ∧ ∃ c T r, w.heap[k]? = some (.cells c T r) ∧ T ≠ 138) : PsM w' b pv p := by
  refine ⟨h.1.turn hk (fun i _ e => ?_) (fun _ _ _ _ _ _ hp => (hk.same _ hp.lt (fun e => (ho b e).1 rfl)).trans hp), h.2.stay (fun g hg => ?_)⟩
  · obtain ⟨_, _, c, T, r, h1, h2⟩ := ho i e
    exact not_hv h1 h2
  · obtain ⟨_, cur, hc⟩ := h.2.blk hg
    exact hk.same g (Array.getElem?_eq_some_iff.1 hc).1 (fun e => (ho g e).2.1 hg)
theorem OwnI.keepG {w w' : World} {v : Value} {zs : List Int} {o : Nat → Prop} (h : OwnI w 0 v zs) (hk : Kps o w w') (ho : ∀ k, o k → v.ownBlock ≠ some k) : OwnI w' 0 v zs :=
  h.stay (fun g hg => by
    obtain ⟨_, cur, hc⟩ := h.blk hg
    exact hk.same g (Array.getElem?_eq_some_iff.1 hc).1 (fun e => ho g e hg))
theorem OwnI.lt {w : World} {base : Nat} {v : Value} {zs : List Int} (h : OwnI w base v zs) {g : Nat} (hg : v.ownBlock = some g) : g < w.heap.size := by
  obtain ⟨_, cur, hc⟩ := h.blk hg
  exact (Array.getElem?_eq_some_iff.1 hc).1
/-- The document's parser at block d, with its tables at e0, e1. -/
abbrev DpR (w : World) (d e0 e1 : Nat) (dv : Value) (sl : Bool) : Prop := w.heap[d]? = some (.cells #[.pointer (some ⟨e0, 0, none⟩), .pointer (some ⟨e1, 0, none⟩), dv, .bool sl] 74 (0, 0))
/-- A pair in the world w; wB: the world at the loop's beginning; o: the blocks of all parsers. -/
structure Pr (o : Nat → Prop) (wB w : World) (b : Nat) (pv : Value) (p : Ps) (d e0 e1 : Nat) (dv : Value) : Prop where
  pm : PsM w b pv p
  ok : p.Ok
  di : DI p.sl p.ks p.t
  dr : DpR w d e0 e1 dv p.sl
  ow : OwnI w 0 dv p.ks
  t0 : TbM wB e0 false
  t1 : TbM wB e1 true
  kp : Kps o wB w
  ot : Othr2 wB o
  ob : o b
  od : o d
  nb : ∀ k, pv.ownBlock = some k → wB.heap.size ≤ k
  nd : ∀ k, pv.ownBlock = some k → dv.ownBlock ≠ some k
/-- Behind the code's step, ahead of the document's. -/
structure Md (o : Nat → Prop) (wB w y : World) (b : Nat) (pv pw : Value) (p q : Ps) (d e0 e1 : Nat) (dv : Value) : Prop where
  pm : PsM y b pw q
  dr : DpR y d e0 e1 dv p.sl
  ow : OwnI y 0 dv p.ks
  t0 : TbM y e0 false
  t1 : TbM y e1 true
  kb : Kps o wB y
  kp : Kps (fun k => k = b ∨ k = d ∨ pv.ownBlock = some k) w y
  hn : ∀ k, pw.ownBlock = some k → pv.ownBlock = some k ∨ w.heap.size ≤ k
  nd : ∀ k, pw.ownBlock = some k → dv.ownBlock ≠ some k
  wy : w.heap.size ≤ y.heap.size
/-- What a step leaves. -/
def PlR (o : Nat → Prop) (wB w : World) (b : Nat) (pv : Value) (p : Ps) (d e0 e1 : Nat) (dv : Value) (w' : World) : Prop := ∃ pv' p' dv', Pr o wB w' b pv' p' d e0 e1 dv' ∧ p'.ks.length ≤ p.ks.length + 1 ∧ Kps (fun k => k = b ∨ k = d ∨ pv.ownBlock = some k) w w' ∧ (∀ k, pv'.ownBlock = some k → pv.ownBlock = some k ∨ w.heap.size ≤ k) ∧ (∀ k, dv'.ownBlock = some k → dv.ownBlock = some k ∨ w.heap.size ≤ k)
section
variable {o : Nat → Prop} {wB w y z : World} {b d e0 e1 : Nat} {pv pw dv : Value} {p q : Ps}
theorem Pr.ext (h : Pr o wB w b pv p d e0 e1 dv) (hb : Below w.heap.size w y) : Pr o wB y b pv p d e0 e1 dv :=
  ⟨h.pm.ext hb, h.ok, h.di, (hb.block _ (Array.getElem?_eq_some_iff.1 h.dr).1).trans h.dr, h.ow.ext hb, h.t0, h.t1, Kps.trans h.kp (Kps.of_below o hb) (fun _ _ e => e), h.ot, h.ob, h.od, h.nb, h.nd⟩
theorem Pr.mid (h : Pr o wB w b pv p d e0 e1 dv) (hp : PsM y b pw q) (hk : Kps (fun k => k = b ∨ pv.ownBlock = some k) w y) (hn : ∀ k, pw.ownBlock = some k → pv.ownBlock = some k ∨ w.heap.size ≤ k) : Md o wB w y b pv pw p q d e0 e1 dv := by
  obtain ⟨cs, hcs⟩ := psr_typ h.pm.1
  have hB : Kps o wB y := Kps.trans h.kp hk (fun i hi e => e.elim (fun e => e ▸ h.ob) (fun e => absurd (h.nb i e) (by omega)))
  refine ⟨hp, (hk.same d (Array.getElem?_eq_some_iff.1 h.dr).1 (fun e => ?_)).trans h.dr, h.ow.keepG hk (fun k e e2 => ?_), h.t0.keep hB h.ot, h.t1.keep hB h.ot, hB, hk.mono (fun i _ e => e.elim .inl (fun e => .inr (.inr e))), hn, fun k e e2 => ?_, hk.size⟩
  · rcases e with e | e
    · have := h.dr; unfold DpR at this
      rw [e, hcs] at this
      cases this
    · exact own_ne h.pm.2 h.dr (by decide) e
  · rcases e with rfl | e
    · exact own_ne h.ow hcs (by decide) e2
    · exact h.nd k e e2
  · rcases hn k e with e | e
    · exact h.nd k e e2
    · have := h.ow.lt e2
      omega
theorem Md.ext (h : Md o wB w y b pv pw p q d e0 e1 dv) (hb : Below y.heap.size y z) : Md o wB w z b pv pw p q d e0 e1 dv :=
  ⟨h.pm.ext hb, (hb.block _ (Array.getElem?_eq_some_iff.1 h.dr).1).trans h.dr, h.ow.ext hb, h.t0.ext hb, h.t1.ext hb, Kps.trans h.kb (Kps.of_below o hb) (fun _ _ e => e), Kps.trans h.kp (Kps.of_below _ hb) (fun _ _ e => e), h.hn, h.nd, Nat.le_trans h.wy hb.size⟩
/-- Behind the document's step. -/
theorem Md.fin (h : Md o wB w y b pv pw p q d e0 e1 dv) (h0 : Pr o wB w b pv p d e0 e1 dv) (hq : q.Ok) (hd : DI q.sl q.ks q.t) (hl : q.ks.length ≤ p.ks.length + 1) {dw : Value} (hr : DpR z d e0 e1 dw q.sl) (ho : OwnI z 0 dw q.ks) (hk : Kps (fun k => k = d) y z) (hn : ∀ k, dw.ownBlock = some k → y.heap.size ≤ k) : PlR o wB w b pv p d e0 e1 dv z := by
  obtain ⟨cs, hcs⟩ := psr_typ h.pm.1
  refine ⟨pw, q, dw, ⟨h.pm.keepG hk (fun k (e : k = d) => ?_), hq, hd, hr, ho, h0.t0, h0.t1, Kps.trans h.kb hk (fun i _ (e : i = d) => e ▸ h0.od), h0.ot, h0.ob, h0.od, fun k e => ?_, fun k e e2 => ?_⟩, hl, Kps.trans h.kp hk (fun i _ e => .inr (.inl e)), h.hn, fun k e => .inr (Nat.le_trans h.wy (hn k e))⟩
  · subst e
    refine ⟨fun e => ?_, own_ne h.pm.2 h.dr (by decide), _, _, _, h.dr, by decide⟩
    have := h.dr; unfold DpR at this
    rw [e, hcs] at this
    cases this
  · rcases h.hn k e with e | e
    · exact h0.nb k e
    · exact Nat.le_trans h0.kp.size e
  · have := h.pm.2.lt e
    have := hn k e2
    omega
/-- Another pair was played: this one stays. -/
theorem Pr.other {b2 d2 f0 f1 : Nat} {pv2 dv2 : Value} {p2 : Ps} (h : Pr o wB w b2 pv2 p2 d2 f0 f1 dv2) (h1 : Pr o wB w b pv p d e0 e1 dv) (hk : Kps (fun k => k = b ∨ k = d ∨ pv.ownBlock = some k) w y) (nb : b ≠ b2) (nd : d ≠ d2) (j : ∀ k, pv.ownBlock = some k → pv2.ownBlock ≠ some k ∧ dv2.ownBlock ≠ some k) : Pr o wB y b2 pv2 p2 d2 f0 f1 dv2 := by
  obtain ⟨cs, hcs⟩ := psr_typ h.pm.1
  obtain ⟨cs1, hcs1⟩ := psr_typ h1.pm.1
  refine ⟨h.pm.keepG hk (fun k e => ?_), h.ok, h.di, (hk.same d2 (Array.getElem?_eq_some_iff.1 h.dr).1 (fun e => ?_)).trans h.dr, h.ow.keepG hk (fun k e e2 => ?_), h.t0, h.t1, Kps.trans h.kp hk (fun i hi e => ?_), h.ot, h.ob, h.od, h.nb, h.nd⟩
  · rcases e with rfl | rfl | e
    · exact ⟨nb, own_ne h.pm.2 hcs1 (by decide), _, _, _, hcs1, by decide⟩
    · refine ⟨fun e => ?_, own_ne h.pm.2 h1.dr (by decide), _, _, _, h1.dr, by decide⟩
      have := h1.dr; unfold DpR at this
      rw [e, hcs] at this
      cases this
    · obtain ⟨_, cur, hc⟩ := h1.pm.2.blk e
      refine ⟨fun e2 => ?_, (j k e).1, _, _, _, hc, by decide⟩
      rw [e2, hcs] at hc
      cases hc
  · rcases e with e | e | e
    · have := h.dr; unfold DpR at this
      rw [e, hcs1] at this
      cases this
    · exact nd e.symm
    · exact own_ne h1.pm.2 h.dr (by decide) e
  · rcases e with rfl | rfl | e
    · exact own_ne h.ow hcs1 (by decide) e2
    · exact own_ne h.ow h1.dr (by decide) e2
    · exact (j k e).2 e2
  · rcases e with rfl | rfl | e
    · exact h1.ob
    · exact h1.od
    · exact absurd (h1.nb i e) (by omega)
end
/-- Two pairs beside one another. -/
structure Two (o : Nat → Prop) (wB w : World) (b1 : Nat) (pv1 : Value) (p1 : Ps) (d1 e0 e1 : Nat) (dv1 : Value) (b2 : Nat) (pv2 : Value) (p2 : Ps) (d2 f0 f1 : Nat) (dv2 : Value) : Prop where
  a : Pr o wB w b1 pv1 p1 d1 e0 e1 dv1
  b : Pr o wB w b2 pv2 p2 d2 f0 f1 dv2
  nb : b1 ≠ b2
  nd : d1 ≠ d2
  j1 : ∀ k, pv1.ownBlock = some k → pv2.ownBlock ≠ some k ∧ dv2.ownBlock ≠ some k
  j2 : ∀ k, pv2.ownBlock = some k → dv1.ownBlock ≠ some k
section
variable {o : Nat → Prop} {wB w y : World} {b1 d1 e0 e1 b2 d2 f0 f1 : Nat} {pv1 dv1 pv2 dv2 : Value} {p1 p2 : Ps}
theorem Two.swap (h : Two o wB w b1 pv1 p1 d1 e0 e1 dv1 b2 pv2 p2 d2 f0 f1 dv2) : Two o wB w b2 pv2 p2 d2 f0 f1 dv2 b1 pv1 p1 d1 e0 e1 dv1 :=
  ⟨h.b, h.a, h.nb.symm, h.nd.symm, fun k e => ⟨fun e2 => (h.j1 k e2).1 e, h.j2 k e⟩, fun k e => (h.j1 k e).2⟩
theorem Two.ext (h : Two o wB w b1 pv1 p1 d1 e0 e1 dv1 b2 pv2 p2 d2 f0 f1 dv2) (hb : Below w.heap.size w y) : Two o wB y b1 pv1 p1 d1 e0 e1 dv1 b2 pv2 p2 d2 f0 f1 dv2 :=
  ⟨h.a.ext hb, h.b.ext hb, h.nb, h.nd, h.j1, h.j2⟩
theorem Two.step (h : Two o wB w b1 pv1 p1 d1 e0 e1 dv1 b2 pv2 p2 d2 f0 f1 dv2) (hp : PlR o wB w b1 pv1 p1 d1 e0 e1 dv1 y) : ∃ pv p dv, Two o wB y b1 pv p d1 e0 e1 dv b2 pv2 p2 d2 f0 f1 dv2 ∧ p.ks.length ≤ p1.ks.length + 1 := by
  obtain ⟨pv, p, dv, k1, k2, k3, k4, k5⟩ := hp
  refine ⟨pv, p, dv, ⟨k1, h.b.other h.a k3 h.nb h.nd h.j1, h.nb, h.nd, fun k e => ?_, fun k e e2 => ?_⟩, k2⟩
  · rcases k4 k e with e | e
    · exact h.j1 k e
    · exact ⟨fun e2 => by have := h.b.pm.2.lt e2; omega, fun e2 => by have := h.b.ow.lt e2; omega⟩
  · rcases k5 k e2 with e3 | e3
    · exact h.j2 k e e3
    · have := h.b.pm.2.lt e
      omega
end
end Go.Proofs.YtfdceljdhgbkcaaDoor

/- What the rows' proofs share: a slice of integers that came in. -/
namespace Go.Proofs.YtfdceljdhgbkcaaDoor
open Go.ChangeShapes Go.WideShapes Go.ChangeAt Go.RowKit

theorem ownK : ownKnob Tryd.prog.godebug = none := by kernel_rfl
theorem laidOutK : laidOutB Tryd.prog = true := by kernel_rfl
theorem bytesK_i64 : Tryd.prog.bytesOf 3 = 8 := by kernel_rfl

/-- A slice of integers that came in: it reads as a list; each number fits its kind; its datum has as many elements. -/
theorem rd_of {H : Type} {enc : TypeId × Value → H} {W : World} {t e : TypeId} {k : IntKind} {a0 : Option Addr} {len0 cap0 : Nat} {d : DataW H} {p : List MemPlace}
    (ht : Tryd.prog.underlying t = some (.slice e)) (he : Tryd.prog.underlying e = some (.int k)) (hc : Tryd.prog.cellsOf e = 1)
    (h : DataW.Trod enc Tryd.prog W 0 (fun _ => true) true t (.slice a0 len0 cap0) d p) :
    ∃ zs, Rd k W (.slice a0 len0 cap0) zs ∧ (∀ n ∈ zs, (Lit.int k n).wf = true) ∧ (zs = [] ∨ ∃ el sp, d = .slice el sp ∧ el.length = zs.length) := by
  obtain ⟨fuel, hf⟩ := h
  rcases open_ints ht he hc hf with ⟨hcs, _⟩ | ⟨x, l, c, zs, hcs, _, hl, hm, hz, hx, hcell, hwz⟩
  · simp [Value.cells] at hcs
    obtain ⟨rfl, rfl, rfl⟩ := hcs
    exact ⟨[], ⟨none, 0, rfl, Nat.le_refl _, by simp [maxLen], fun h => absurd rfl h⟩, by simp, .inl rfl⟩
  · simp [Value.cells] at hcs
    obtain ⟨rfl, rfl, rfl⟩ := hcs
    simp at hz
    have hlen : (zs.take len0).length = len0 := by rw [List.length_take]; omega
    refine ⟨zs.take len0, ⟨some x, cap0, by rw [hlen], by omega, hm, fun hn => ?_⟩, fun n hn => hwz n (List.mem_of_mem_take hn), .inr ⟨_, _, (Prod.mk.inj hx).1, by simp [lits]⟩⟩
    have hpos : 0 < len0 := by
      rcases Nat.eq_zero_or_pos len0 with h | h
      · subst h; simp at hn
      · exact h
    obtain ⟨b, off, spot⟩ := x
    have hc0 := hcell 0 (by omega)
    have hspot : spot = none := by simpa [Addr.add] using World.cell?_spot hc0
    subst hspot
    refine ⟨b, off, rfl, World.block_lt_of_cell? W _ (by simpa [Addr.add] using hc0), fun i hi => ?_⟩
    rw [hlen] at hi
    have := hcell i (by omega)
    rw [Addr.add_lit] at this
    rw [this, List.getElem?_take, if_pos hi]
    simp [List.getD]

theorem sl_of {H : Type} {enc : TypeId × Value → H} {W : World} {a0 : Option Addr} {len0 cap0 : Nat} {d : DataW H} {p : List MemPlace} (h : DataW.Trod enc Tryd.prog W 0 (fun _ => true) true 25 (.slice a0 len0 cap0) d p) : Sl (.slice a0 len0 cap0) := by
  obtain ⟨fuel, hf⟩ := h
  rcases DataW.trod_slice Tryd.underlying25 hf with ⟨hcs, _⟩ | ⟨x, l, c, elems, rest, n, _, hcs, _⟩
  · simp [Value.cells] at hcs
    obtain ⟨rfl, rfl, rfl⟩ := hcs
    exact .inl rfl
  · simp [Value.cells] at hcs
    obtain ⟨rfl, rfl, rfl⟩ := hcs
    exact .inr ⟨_, _, _, rfl⟩
theorem in64_of {a : Int} (h : (Lit.int .i64 a).wf = true) : -9223372036854775808 ≤ a ∧ a ≤ 9223372036854775807 := by
  simp only [Lit.wf, Bool.and_eq_true, decide_eq_true_eq] at h
  have h1 : IntKind.i64.min = -9223372036854775808 := by decide
  have h2 : IntKind.i64.max = 9223372036854775807 := by decide
  rw [h1, h2] at h
  exact h

end Go.Proofs.YtfdceljdhgbkcaaDoor

/- Scripts of steps that came in; the law's fits. -/
namespace Go.Proofs.YtfdceljdhgbkcaaDoor
open Go.ChangeShapes Go.WideShapes Go.ChangeAt Go.RowKit
/-- A step of a script. -/
structure Ko where
  k : Int
  who : Int
  md : Int
  ky : Int
structure Ko.Ok (x : Ko) : Prop where
  k : In64 x.k
  who : In64 x.who
  md : In64 x.md
  ky : In64 x.ky
/-- What is read of its four cells. -/
structure KoC (w : World) (b o : Nat) (x : Ko) : Prop where
  c0 : w.cell? ⟨b, o, none⟩ = some (.int .i64 x.k)
  c1 : w.cell? ⟨b, o + 1, none⟩ = some (.int .i64 x.who)
  c2 : w.cell? ⟨b, o + 2, none⟩ = some (.int .i64 x.md)
  c3 : w.cell? ⟨b, o + 3, none⟩ = some (.int .i64 x.ky)
/-- The slice v holds the script xs. -/
def RdK (w : World) (v : Value) (xs : List Ko) : Prop := ∃ ao cap, v = .slice ao xs.length cap ∧ xs.length ≤ cap ∧ cap ≤ 9223372036854775807 ∧ xs.length ≤ 4398046511104 ∧ (∀ x ∈ xs, x.Ok) ∧ (xs ≠ [] → ∃ b off, ao = some ⟨b, off, none⟩ ∧ b < w.heap.size ∧ ∀ i x, xs[i]? = some x → KoC w b (off + i * 4) x)
theorem KoC.low {w w' : World} {n b o : Nat} {x : Ko} (h : KoC w b o x) (hl : b < n) (hb : Below n w w') : KoC w' b o x :=
  ⟨(hb.cell (p := ⟨b, _, none⟩) hl).trans h.c0, (hb.cell (p := ⟨b, _, none⟩) hl).trans h.c1, (hb.cell (p := ⟨b, _, none⟩) hl).trans h.c2, (hb.cell (p := ⟨b, _, none⟩) hl).trans h.c3⟩
theorem RdK.ext {w w' : World} {v : Value} {xs : List Ko} (h : RdK w v xs) (hb : Below w.heap.size w w') : RdK w' v xs := by
  obtain ⟨ao, cap, h1, h2, h3, h4, h5, h6⟩ := h
  refine ⟨ao, cap, h1, h2, h3, h4, h5, fun hn => ?_⟩
  obtain ⟨b, o, k1, k2, k3⟩ := h6 hn
  exact ⟨b, o, k1, Nat.lt_of_lt_of_le k2 hb.size, fun i x hx => (k3 i x hx).low k2 hb⟩
theorem bytesK_ko : Tryd.prog.bytesOf 40 = 32 := by kernel_rfl
theorem cKi : Tryd.prog.cellsOf 3 = 1 := by kernel_rfl
theorem cKo : Tryd.prog.cellsOf 40 = 4 := by kernel_rfl
abbrev koC (x : Ko) : List Value := [.int .i64 x.k, .int .i64 x.who, .int .i64 x.md, .int .i64 x.ky]
set_option maxRecDepth 100000 in
theorem ko_cells {H : Type} {enc : TypeId × Value → H} {w : World} {fuel : Nat} {cs : List Value} {x : DataW H × List MemPlace}
    (h : DataW.trod enc Tryd.prog w 0 (fun _ => true) true fuel 40 cs = some x) : ∃ o : Ko, cs = koC o ∧ o.Ok := by
  obtain ⟨xs, n, rfl, hx, hl, hxl, hall⟩ := DataW.trod_struct Tryd.underlying40 h
  match xs, hxl with
  | [x0, x1, x2, x3], _ =>
    obtain ⟨k0, e0, r0, w0⟩ := DataW.trod_int Tryd.underlying3 (hall 0 _ rfl)
    obtain ⟨k1, e1, r1, w1⟩ := DataW.trod_int Tryd.underlying3 (hall 1 _ rfl)
    obtain ⟨k2, e2, r2, w2⟩ := DataW.trod_int Tryd.underlying3 (hall 2 _ rfl)
    obtain ⟨k3, e3, r3, w3⟩ := DataW.trod_int Tryd.underlying3 (hall 3 _ rfl)
    have e0' : (cs.drop 0).take (Tryd.prog.cellsOf 3) = [.int .i64 k0] := e0
    have e1' : (cs.drop 1).take (Tryd.prog.cellsOf 3) = [.int .i64 k1] := e1
    have e2' : (cs.drop 2).take (Tryd.prog.cellsOf 3) = [.int .i64 k2] := e2
    have e3' : (cs.drop 3).take (Tryd.prog.cellsOf 3) = [.int .i64 k3] := e3
    rw [cKo] at hl
    rw [cKi] at e0' e1' e2' e3'
    match cs, hl with
    | [c0, c1, c2, c3], _ =>
      simp at e0' e1' e2' e3'
      subst e0'; subst e1'; subst e2'; subst e3'
      exact ⟨⟨k0, k1, k2, k3⟩, rfl, ⟨w0, w1, w2, w3⟩⟩
set_option maxRecDepth 100000 in
theorem script_of {H : Type} {enc : TypeId × Value → H} {W : World} {a0 : Option Addr} {len0 cap0 : Nat} {d : DataW H} {p : List MemPlace}
    (h : DataW.Trod enc Tryd.prog W 0 (fun _ => true) true 33 (.slice a0 len0 cap0) d p) (hw : ∀ n ∈ d.weights Tryd.prog 33, n ≤ reachBytes) :
    ∃ os, RdK W (.slice a0 len0 cap0) os := by
  obtain ⟨fuel, hf⟩ := h
  rcases DataW.trod_slice Tryd.underlying33 hf with ⟨hcs, _⟩ | ⟨x, l, c, elems, rest, n, _, hcs, hx, hb, hl, hm, hlen, hel, _, _⟩
  · simp [Value.cells] at hcs
    obtain ⟨rfl, rfl, rfl⟩ := hcs
    exact ⟨[], none, 0, rfl, Nat.le_refl _, by omega, by simp, (fun o ho => by cases ho), fun h => absurd rfl h⟩
  · simp [Value.cells] at hcs
    obtain ⟨rfl, rfl, rfl⟩ := hcs
    rw [cKo] at hel
    obtain ⟨rfl, _⟩ := Prod.mk.inj hx
    obtain ⟨b, off, spot⟩ := x
    have hbig : len0 ≤ 4398046511104 := by
      have := hw (((elems.map Prod.fst).length + (rest.map Prod.fst).length) * Tryd.prog.bytesOf 40) (by simp [DataW.weights, Tryd.underlying33])
      rw [bytesK_ko] at this
      simp only [reachBytes, List.length_map] at this
      omega
    have each : ∀ i, ∃ o : Ko, i < len0 → (∀ j v, (koC o)[j]? = some v → W.cell? (((⟨b, off, spot⟩ : Addr).add (i * 4)).add j) = some v) ∧ o.Ok := by
      intro i
      by_cases hi : i < len0
      · have hi' : i < elems.length := by omega
        have := hel i hi
        rw [List.getElem?_eq_getElem hi', Option.bind_eq_some_iff] at this
        obtain ⟨cs, hcs, hy⟩ := this
        obtain ⟨o, e, hr⟩ := ko_cells hy
        have hcell := (World.cells?_some hcs).2.2
        subst e
        refine ⟨o, fun _ => ⟨fun j v hj => (hcell j ?_).trans hj, hr⟩⟩
        have := (List.getElem?_eq_some_iff.1 hj).1
        simpa using this
      · exact ⟨⟨0, 0, 0, 0⟩, fun h => absurd h hi⟩
    obtain ⟨f, hf'⟩ := Classical.skolem.1 each
    have hlr : ((List.range len0).map f).length = len0 := by simp
    refine ⟨(List.range len0).map f, some ⟨b, off, spot⟩, cap0, by rw [hlr], by rw [hlr]; exact hl, by unfold maxLen at hm; exact hm, by rw [hlr]; exact hbig, fun o ho => ?_, fun hn => ?_⟩
    · rw [List.mem_map] at ho
      obtain ⟨i, hi, rfl⟩ := ho
      exact (hf' i (List.mem_range.1 hi)).2
    · have hpos : 0 < len0 := by rw [← hlr]; exact List.length_pos_iff.2 hn
      have h00 := (hf' 0 hpos).1 0 _ rfl
      have hs : spot = none := by simpa [Addr.add] using World.cell?_spot h00
      subst hs
      refine ⟨b, off, rfl, World.block_lt_of_cell? W _ (by simpa [Addr.add] using h00), fun i e hie => ?_⟩
      have hi : i < len0 := by have := (List.getElem?_eq_some_iff.1 hie).1; rwa [hlr] at this
      have e1 : e = f i := by rw [List.getElem?_map, List.getElem?_range hi] at hie; simpa using hie.symm
      subst e1
      obtain ⟨this, _⟩ := hf' i hi
      simp only [Addr.add_lit] at this
      exact ⟨this 0 _ rfl, this 1 _ rfl, this 2 _ rfl, this 3 _ rfl⟩
end Go.Proofs.YtfdceljdhgbkcaaDoor
