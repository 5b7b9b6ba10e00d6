/- One turn of the reading, by what the trie says. -/
import Derived.Test.YtdbmgjkgfmdmjaaDoorKNew
namespace Go.Proofs.YtdbmgjkgfmdmjaaDoor
open Go.RowKit
structure Stp where
  g : Bool
  t : Rdg
  c : Cm
  s : Int
def Stp.go (t : Rdg) : Stp := ⟨true, t, cmZ, 0⟩
def Stp.fin (t : Rdg) (c : Cm) (s : Int) : Stp := ⟨false, t, c, s⟩
def bd0 : Bd := ⟨0, 0, 0, 0⟩
/-- One turn of the reading, at keys that are left. -/
def rst (sl : Bool) (t : Rdg) (l : List Int) : Stp :=
  if gow t (l.headD 0) then .go (addD t (l.headD 0))
  else if l.headD 0 = 34 ∧ t.o = 0 then
    (if l.length = 1 then .fin t cmZ 0 else if l[1]?.getD 0 = 0 then .fin t cmZ 2 else .go (addR t (l[1]?.getD 0)))
  else match bgn (bLs sl t) l with
    | none => .fin t cmZ 0
    | some n =>
      if lkS (bLs sl t) (l.take (n + 1)) = 2 then .fin t cmZ 2
      else if ((lkV (bLs sl t) (l.take (n + 1))).getD bd0).t = 1 ∧ l.length = n + 1 then .fin t cmZ 0
      else if ((lkV (bLs sl t) (l.take (n + 1))).getD bd0).t = 2 then .go (addO t ((lkV (bLs sl t) (l.take (n + 1))).getD bd0).v (n + 1))
      else .fin (endN t) (rcm t ((lkV (bLs sl t) (l.take (n + 1))).getD bd0) (l.drop (n + 1))).1 (rcm t ((lkV (bLs sl t) (l.take (n + 1))).getD bd0) (l.drop (n + 1))).2
/-- The reading of all that is pending: so many turns at most. -/
def rdo (sl : Bool) (ks : List Int) : Nat → Rdg → Option (Rdg × Cm × Int)
  | 0, _ => none
  | f + 1, t => if t.k < ks.length then (if (rst sl t (ks.drop t.k.toNat)).g = true then rdo sl ks f (rst sl t (ks.drop t.k.toNat)).t else some ((rst sl t (ks.drop t.k.toNat)).t, (rst sl t (ks.drop t.k.toNat)).c, (rst sl t (ks.drop t.k.toNat)).s)) else some (t, cmZ, 0)
def Rdo (sl : Bool) (ks : List Int) (t t' : Rdg) (c : Cm) (s : Int) : Prop := ∃ f, rdo sl ks f t = some (t', c, s)
theorem Rdo.over {sl : Bool} {ks : List Int} {t : Rdg} (h : ¬ t.k < ks.length) : Rdo sl ks t t cmZ 0 := ⟨1, by rw [rdo, if_neg h]⟩
theorem Rdo.more {sl : Bool} {ks : List Int} {t t' t'' : Rdg} {c : Cm} {s : Int} (h : t.k < ks.length) (e : rst sl t (ks.drop t.k.toNat) = .go t') (r : Rdo sl ks t' t'' c s) : Rdo sl ks t t'' c s := by
  obtain ⟨f, hf⟩ := r
  exact ⟨f + 1, by rw [rdo, if_pos h, e]; exact hf⟩
theorem Rdo.done {sl : Bool} {ks : List Int} {t t' : Rdg} {c : Cm} {s : Int} (h : t.k < ks.length) (e : rst sl t (ks.drop t.k.toNat) = .fin t' c s) : Rdo sl ks t t' c s := ⟨1, by rw [rdo, if_pos h, e]; rfl⟩
/-- What comes of it is one thing. -/
theorem rdo_more {sl : Bool} {ks : List Int} {r : Rdg × Cm × Int} : ∀ (f g : Nat) (t : Rdg), rdo sl ks f t = some r → f ≤ g → rdo sl ks g t = some r
  | 0, _, _, h, _ => by cases h
  | f + 1, 0, _, _, hg => absurd hg (by omega)
  | f + 1, g + 1, t, h, hg => by
    rw [rdo] at h ⊢
    split at h
    · rename_i h1
      rw [if_pos h1]
      split at h
      · rename_i h2
        rw [if_pos h2]
        exact rdo_more f g _ h (by omega)
      · rename_i h2
        rw [if_neg h2]
        exact h
    · rename_i h1
      rw [if_neg h1]
      exact h
theorem Rdo.det {sl : Bool} {ks : List Int} {t t1 t2 : Rdg} {c1 c2 : Cm} {s1 s2 : Int} (h : Rdo sl ks t t1 c1 s1) (g : Rdo sl ks t t2 c2 s2) : t1 = t2 ∧ c1 = c2 ∧ s1 = s2 := by
  obtain ⟨f, hf⟩ := h
  obtain ⟨e, he⟩ := g
  have a := rdo_more f (f + e) t hf (by omega)
  have b := rdo_more e (f + e) t he (by omega)
  rw [a] at b
  injection b with b
  injection b with b1 b2
  injection b2 with b2 b3
  exact ⟨b1, b2, b3⟩
theorem vlB_getD (o : Option Bd) : vlB o = .agg #[.int .i64 (o.getD bd0).v, .int .i64 (o.getD bd0).m, .int .i64 (o.getD bd0).a, .int .i64 (o.getD bd0).t] := by
  cases o <;> rfl
theorem Rdg.Ok.addD {t : Rdg} (h : t.Ok) (x : Int) (hx0 : 48 ≤ x) (hk : t.k < 1152921504606846976) : (addD t x).Ok := by
  obtain ⟨k0, k1, c0, c1, n0, n1⟩ := h
  refine ⟨by show 0 ≤ t.k + 1; omega, by show t.k + 1 ≤ _; omega, c0, c1, ?_, ?_⟩
  · show 0 ≤ min (t.n * 10 + x - 48) 9999
    omega
  · show min (t.n * 10 + x - 48) 9999 ≤ 9999
    omega
theorem Rdg.Ok.addR {t : Rdg} (h : t.Ok) (x : Int) (hk : t.k < 1152921504606846976) : (addR t x).Ok := by
  obtain ⟨k0, k1, c0, c1, n0, n1⟩ := h.endN
  have e : (Go.Proofs.YtdbmgjkgfmdmjaaDoor.endN t).k = t.k := rfl
  exact ⟨by show 0 ≤ t.k + 2; omega, by show t.k + 2 ≤ _; omega, c0, c1, n0, n1⟩
theorem Rdg.Ok.addO {t : Rdg} (h : t.Ok) (v n : Int) (hn0 : 0 ≤ n) (hn : n ≤ 1152921504606846976) (hk : t.k < 1152921504606846976) : (addO t v n).Ok := by
  obtain ⟨k0, k1, c0, c1, n0, n1⟩ := h.endN
  have e : (Go.Proofs.YtdbmgjkgfmdmjaaDoor.endN t).k = t.k := rfl
  exact ⟨by show 0 ≤ t.k + n; omega, by show t.k + n ≤ _; omega, c0, c1, n0, n1⟩
/-- A rest of what is read. -/
theorem RdS.rest {w : World} {b off n c : Nat} {zs : List Int} (h : RdS w (.slice (some ⟨b, off, none⟩) n c) zs) (k : Nat) (hk : k < zs.length) : RdS w (.slice (some ⟨b, off + k, none⟩) (n - k) (c - k)) (zs.drop k) := by
  obtain ⟨⟨ao', cap', e, g1, g2, g3⟩, _⟩ := h
  obtain ⟨b', off', e4, h1, h2⟩ := g3 (by intro e; rw [e] at hk; simp at hk)
  injection e with e1 e2 e3
  rw [e4] at e1
  cases e1
  subst e2
  subst e3
  refine ⟨⟨_, c - k, by rw [List.length_drop], by rw [List.length_drop]; omega, by omega, fun hn => ⟨b, off + k, rfl, h1, fun i hi => ?_⟩⟩, .inr ⟨_, _, _, rfl⟩⟩
  rw [List.length_drop] at hi
  rw [Nat.add_assoc, h2 (k + i) (by omega), List.getElem?_drop]
/-- What stands when a command is laid into its block. -/
theorem ron_fin {w wz : World} {b : Nat} {sl : Bool} {pv : Value} {u : Rdg} {v0 v1 v2 v3 v4 : Value} (hbl : b < w.heap.size) (hps : Psr wz b sl pv u) (hk : Kps (fun k => k = b) w wz) (hr : wz.heap[w.heap.size]? = some (.cells #[v0, v1, v2, v3, v4] 23 (0, 0))) (x0 x1 x2 x3 x4 : Value) :
    Psr (((((wz.setCell ⟨w.heap.size, 0, none⟩ x0).setCell ⟨w.heap.size, 1, none⟩ x1).setCell ⟨w.heap.size, 2, none⟩ x2).setCell ⟨w.heap.size, 3, none⟩ x3).setCell ⟨w.heap.size, 4, none⟩ x4) b sl pv u ∧ Kps (fun k => k = b) w (((((wz.setCell ⟨w.heap.size, 0, none⟩ x0).setCell ⟨w.heap.size, 1, none⟩ x1).setCell ⟨w.heap.size, 2, none⟩ x2).setCell ⟨w.heap.size, 3, none⟩ x3).setCell ⟨w.heap.size, 4, none⟩ x4) ∧ (((((wz.setCell ⟨w.heap.size, 0, none⟩ x0).setCell ⟨w.heap.size, 1, none⟩ x1).setCell ⟨w.heap.size, 2, none⟩ x2).setCell ⟨w.heap.size, 3, none⟩ x3).setCell ⟨w.heap.size, 4, none⟩ x4).heap[w.heap.size]? = some (.cells #[x0, x1, x2, x3, x4] 23 (0, 0)) := by
  obtain ⟨g0, g⟩ := put5 hr x0 x1 x2 x3 x4
  generalize ((((wz.setCell ⟨w.heap.size, 0, none⟩ x0).setCell ⟨w.heap.size, 1, none⟩ x1).setCell ⟨w.heap.size, 2, none⟩ x2).setCell ⟨w.heap.size, 3, none⟩ x3).setCell ⟨w.heap.size, 4, none⟩ x4 = wq at *
  have hg : Kps (fun k => k = w.heap.size) wz wq := Kps.grown g (fun k e _ => (Option.some.inj e).symm)
  refine ⟨hps.turn hg (fun i _ e => by subst e; exact not_hv hr (by decide)) (fun _ _ _ _ _ _ hp => (g.block _ hp.lt (by simp; omega)).trans hp), Kps.trans hk hg (fun i hi (e : i = _) => absurd e (by omega)), g0⟩
theorem psr_kps {w w' : World} {b : Nat} {m0 s0 m1 s1 m2 s2 pv : Value} {sl : Bool} {t t' : Rdg} (hp : PB w b m0 s0 m1 s1 m2 s2 (.bool sl) pv t) (tr : Tr1 w (fil tNor) m0 s0 ∧ Tr1 w (fil tSln) m1 s1 ∧ Tr1 w (fil tTar) m2 s2) (hk : Kps (fun k => k = b) w w') (hp' : PB w' b m0 s0 m1 s1 m2 s2 (.bool sl) pv t') : Psr w' b sl pv t' :=
  ⟨m0, s0, m1, s1, m2, s2, hp', tr.1.kps hk hp, tr.2.1.kps hk hp, tr.2.2.kps hk hp⟩
theorem gow_dig {u : Rdg} {x : Int} (h : gow u x = true) : 48 ≤ x ∧ x ≤ 57 := by
  unfold gow at h
  simp only [Bool.or_eq_true, Bool.and_eq_true, decide_eq_true_eq, beq_iff_eq] at h
  omega
def bX (L : List (List Int × Bd)) (l : List Int) : Bd := ((bgn L l).bind fun n => lkV L (l.take (n + 1))).getD bd0
def bB (L : List (List Int × Bd)) (l : List Int) : List Int := (bgn L l).elim [] fun n => l.drop (n + 1)
def bS (L : List (List Int × Bd)) (l : List Int) : Int := (bgn L l).elim 0 fun n => lkS L (l.take (n + 1))
/-- What the trie that is asked says. -/
theorem asked_any {wv yb : World} {b off : Nat} {L : List (List Int × Bd)} {sl : Bool} {pv : Value} {u : Rdg} (hr : BnR wv yb b off L sl pv u) (l : Value) (lf : List Int) (hk : RdS yb l lf) (h64 : ∀ k ∈ lf, In64 k) :
    Calls Tryd.prog 54 #[.pointer (some ⟨b, off, none⟩), l] yb fun e y => ∃ ao c, e = .returned (.tuple #[.agg #[.int .i64 (bX L lf).v, .int .i64 (bX L lf).m, .int .i64 (bX L lf).a, .int .i64 (bX L lf).t], .slice ao (bB L lf).length c, .int .i64 (bS L lf)]) ∧ (∀ z, RdS z l lf → RdS z (.slice ao (bB L lf).length c) (bB L lf)) ∧ Below yb.heap.size yb y := by
  obtain ⟨_, _, cs, own, ns, vs, m, s, h1, h2, h3, h4, h5, h6⟩ := hr
  refine (begun_any b off _ cs yb m s own 1000 ns vs L l lf h1 h2 h3 h4 h5 (by omega) hk h64).mono ?_
  rintro e y ⟨⟨uv, rfl, hu⟩, hb⟩
  obtain ⟨ao, c, he, _⟩ := (hu yb hk).len
  subst he
  refine ⟨ao, c, ?_, hu, hb⟩
  rw [vlB_getD]
  rfl
theorem bgn_spec {L : List (List Int × Bd)} {l : List Int} {n : Nat} (h : bgn L l = some n) : n < l.length ∧ lkS L (l.take (n + 1)) ≠ 0 := by
  unfold bgn at h
  refine ⟨List.mem_range.1 (List.mem_of_find?_eq_some h), ?_⟩
  have h1 := List.find?_some h
  simpa using h1
theorem rst_ask {sl : Bool} {t : Rdg} {l : List Int} (hg : ¬ gow t (l.headD 0) = true) (hq : ¬ (l.headD 0 = 34 ∧ t.o = 0)) :
    rst sl t l = if bS (bLs sl t) l = 2 then .fin t cmZ 2
      else if bS (bLs sl t) l = 0 ∨ ((bX (bLs sl t) l).t = 1 ∧ (bB (bLs sl t) l).length = 0) then .fin t cmZ 0
      else if (bX (bLs sl t) l).t = 2 then .go (addO t (bX (bLs sl t) l).v ((l.length : Int) - (bB (bLs sl t) l).length))
      else .fin (endN t) (rcm t (bX (bLs sl t) l) (bB (bLs sl t) l)).1 (rcm t (bX (bLs sl t) l) (bB (bLs sl t) l)).2 := by
  unfold rst
  rw [if_neg hg, if_neg hq]
  generalize bLs sl t = L
  cases hb : bgn L l with
  | none =>
    have hS : bS L l = 0 := by unfold bS; rw [hb]; rfl
    rw [hS, if_neg (by omega), if_pos (.inl rfl)]
  | some n =>
    obtain ⟨hn, hne⟩ := bgn_spec hb
    have hS : bS L l = lkS L (l.take (n + 1)) := by unfold bS; rw [hb]; rfl
    have hX : bX L l = (lkV L (l.take (n + 1))).getD bd0 := by unfold bX; rw [hb]; rfl
    have hB : bB L l = l.drop (n + 1) := by unfold bB; rw [hb]; rfl
    have hl : (l.drop (n + 1)).length = l.length - (n + 1) := List.length_drop
    rw [hS, hX, hB, hl]
    dsimp only
    generalize (lkV L (l.take (n + 1))).getD bd0 = x
    by_cases h2 : lkS L (l.take (n + 1)) = 2
    · rw [if_pos h2, if_pos h2]
    · rw [if_neg h2, if_neg h2]
      by_cases h1 : x.t = 1 ∧ l.length = n + 1
      · rw [if_pos h1, if_pos (show lkS L (l.take (n + 1)) = 0 ∨ x.t = 1 ∧ l.length - (n + 1) = 0 from .inr ⟨h1.1, by omega⟩)]
      · have hno : ¬ (lkS L (l.take (n + 1)) = 0 ∨ x.t = 1 ∧ l.length - (n + 1) = 0) := by
          rintro (e | ⟨e1, e2⟩)
          · exact hne e
          · exact h1 ⟨e1, by omega⟩
        rw [if_neg h1, if_neg hno]
        have he : (l.length : Int) - ((l.length - (n + 1) : Nat) : Int) = (n : Int) + 1 := by omega
        rw [he]
theorem bB_lt {L : List (List Int × Bd)} {l : List Int} (h : bS L l ≠ 0) : (bB L l).length < l.length := by
  unfold bS at h
  unfold bB
  cases hb : bgn L l with
  | none => rw [hb] at h; exact absurd rfl h
  | some n =>
    obtain ⟨hn, _⟩ := bgn_spec hb
    show (l.drop (n + 1)).length < l.length
    rw [List.length_drop]
    omega
end Go.Proofs.YtdbmgjkgfmdmjaaDoor
