import Derived.Test.YtfdceljdhgbkcaaGreatDoorJ32
import Derived.Test.YtfdceljdhgbkcaaGreatDoorJ30
import Derived.Test.YtfdceljdhgbkcaaGreatDoorJ39
/- Pairs: a parser of the code's and one of the document's that are fed alike. -/
namespace Go.Proofs.YtfdceljdhgbkcaaGreatDoor
open Go.RowKit
/-- What the code's parser says to a key is what the document's says. -/
theorem fdr_doc {p q : Ps} {mode key : Int} {c : Cm} {s : Int} (hd : DI p.sl p.ks p.t) (h : FdR p mode key q c s) : dFd (isl mode) p.sl p.ks key = ((c, s), q.ks) ∧ DI q.sl q.ks q.t := by
  unfold dFd
  rcases h with ⟨h1, rfl, rfl, rfl⟩ | ⟨h1, u, hu, h2⟩
  · rw [if_pos h1]
    exact ⟨rfl, DI.init _⟩
  · rw [if_neg h1]
    obtain ⟨ha, hb⟩ : (ahd p mode).ks = (if isl mode = p.sl then p.ks else []) ∧ DI (isl mode) (ahd p mode).ks (ahd p mode).t := by
      unfold ahd
      by_cases e : isl mode = p.sl
      · rw [if_pos e, if_pos e, e]
        exact ⟨rfl, hd⟩
      · rw [if_neg e, if_neg e]
        exact ⟨rfl, DI.init _⟩
    obtain ⟨k1, k2⟩ := feed_d hb hu
    rw [← ha, k2]
    rcases h2 with ⟨e, rfl⟩ | ⟨e, rfl⟩
    · rw [if_pos e]
      exact ⟨rfl, k1 e⟩
    · rw [if_neg e]
      exact ⟨rfl, DI.init _⟩
theorem fdr_ne {p q : Ps} {mode key : Int} {c : Cm} {s : Int} (h : FdR p mode key q c s) (hn : (27 : Int) ∉ p.ks) : (27 : Int) ∉ q.ks := by
  rcases h with ⟨_, rfl, _⟩ | ⟨hk, u, _, ⟨_, rfl⟩ | ⟨_, rfl⟩⟩
  · exact fun h => by cases h
  · intro h
    rcases List.mem_append.1 h with h | h
    · unfold ahd at h
      split at h
      · exact hn h
      · cases h
    · exact hk (List.mem_singleton.1 h).symm
  · exact fun h => by cases h
theorem PsM.keepG {w w' : World} {b : Nat} {pv : Value} {p : Ps} {o : Nat → Prop} (h : PsM w b pv p) (hk : Kps o w w') (ho : ∀ k, o k → k ≠ b ∧ pv.ownBlock ≠ some k ∧ ∃ c T r, w.heap[k]? = some (.cells c T r) ∧ T ≠ 125) : PsM w' b pv p := by
  refine ⟨h.1.turn hk (fun i _ e => ?_) (fun _ _ _ _ _ _ hp => (hk.same _ hp.lt (fun e => (ho b e).1 rfl)).trans hp), h.2.stay (fun g hg => ?_)⟩
  · obtain ⟨_, _, c, T, r, h1, h2⟩ := ho i e
    exact not_hv h1 h2
  · obtain ⟨_, cur, hc⟩ := h.2.blk hg
    exact hk.same g (Array.getElem?_eq_some_iff.1 hc).1 (fun e => (ho g e).2.1 hg)
theorem OwnI.keepG {w w' : World} {v : Value} {zs : List Int} {o : Nat → Prop} (h : OwnI w 0 v zs) (hk : Kps o w w') (ho : ∀ k, o k → v.ownBlock ≠ some k) : OwnI w' 0 v zs :=
  h.stay (fun g hg => by
    obtain ⟨_, cur, hc⟩ := h.blk hg
    exact hk.same g (Array.getElem?_eq_some_iff.1 hc).1 (fun e => ho g e hg))
theorem OwnI.lt {w : World} {base : Nat} {v : Value} {zs : List Int} (h : OwnI w base v zs) {g : Nat} (hg : v.ownBlock = some g) : g < w.heap.size := by
  obtain ⟨_, cur, hc⟩ := h.blk hg
  exact (Array.getElem?_eq_some_iff.1 hc).1
/-- The document's parser at block d, with its tables at e0, e1. -/
abbrev DpR (w : World) (d e0 e1 : Nat) (dv : Value) (sl : Bool) : Prop := w.heap[d]? = some (.cells #[.pointer (some ⟨e0, 0, none⟩), .pointer (some ⟨e1, 0, none⟩), dv, .bool sl] 40 (0, 0))
/-- A pair in the world w; wB: the world at the loop's beginning; o: the blocks of all parsers. -/
structure Pr (o : Nat → Prop) (wB w : World) (b : Nat) (pv : Value) (p : Ps) (d e0 e1 : Nat) (dv : Value) : Prop where
  pm : PsM w b pv p
  ok : p.Ok
  ne : (27 : Int) ∉ p.ks
  di : DI p.sl p.ks p.t
  dr : DpR w d e0 e1 dv p.sl
  ow : OwnI w 0 dv p.ks
  t0 : TbM wB e0 false
  t1 : TbM wB e1 true
  kp : Kps o wB w
  ot : Othr2 wB o
  ob : o b
  od : o d
  nb : ∀ k, pv.ownBlock = some k → wB.heap.size ≤ k
  nd : ∀ k, pv.ownBlock = some k → dv.ownBlock ≠ some k
/-- Behind the code's step, ahead of the document's. -/
structure Md (o : Nat → Prop) (wB w y : World) (b : Nat) (pv pw : Value) (p q : Ps) (d e0 e1 : Nat) (dv : Value) : Prop where
  pm : PsM y b pw q
  dr : DpR y d e0 e1 dv p.sl
  ow : OwnI y 0 dv p.ks
  t0 : TbM y e0 false
  t1 : TbM y e1 true
  kb : Kps o wB y
  kp : Kps (fun k => k = b ∨ k = d ∨ pv.ownBlock = some k) w y
  hn : ∀ k, pw.ownBlock = some k → pv.ownBlock = some k ∨ w.heap.size ≤ k
  nd : ∀ k, pw.ownBlock = some k → dv.ownBlock ≠ some k
  wy : w.heap.size ≤ y.heap.size
/-- What a step leaves. -/
def PlR (o : Nat → Prop) (wB w : World) (b : Nat) (pv : Value) (p : Ps) (d e0 e1 : Nat) (dv : Value) (w' : World) : Prop := ∃ pv' p' dv', Pr o wB w' b pv' p' d e0 e1 dv' ∧ p'.ks.length ≤ p.ks.length + 1 ∧ Kps (fun k => k = b ∨ k = d ∨ pv.ownBlock = some k) w w' ∧ (∀ k, pv'.ownBlock = some k → pv.ownBlock = some k ∨ w.heap.size ≤ k) ∧ (∀ k, dv'.ownBlock = some k → dv.ownBlock = some k ∨ w.heap.size ≤ k)
section
variable {o : Nat → Prop} {wB w y z : World} {b d e0 e1 : Nat} {pv pw dv : Value} {p q : Ps}
theorem Pr.ext (h : Pr o wB w b pv p d e0 e1 dv) (hb : Below w.heap.size w y) : Pr o wB y b pv p d e0 e1 dv :=
  ⟨h.pm.ext hb, h.ok, h.ne, h.di, (hb.block _ (Array.getElem?_eq_some_iff.1 h.dr).1).trans h.dr, h.ow.ext hb, h.t0, h.t1, Kps.trans h.kp (Kps.of_below o hb) (fun _ _ e => e), h.ot, h.ob, h.od, h.nb, h.nd⟩
theorem Pr.mid (h : Pr o wB w b pv p d e0 e1 dv) (hp : PsM y b pw q) (hk : Kps (fun k => k = b ∨ pv.ownBlock = some k) w y) (hn : ∀ k, pw.ownBlock = some k → pv.ownBlock = some k ∨ w.heap.size ≤ k) : Md o wB w y b pv pw p q d e0 e1 dv := by
  obtain ⟨cs, hcs⟩ := psr_typ h.pm.1
  have hB : Kps o wB y := Kps.trans h.kp hk (fun i hi e => e.elim (fun e => e ▸ h.ob) (fun e => absurd (h.nb i e) (by omega)))
  refine ⟨hp, (hk.same d (Array.getElem?_eq_some_iff.1 h.dr).1 (fun e => ?_)).trans h.dr, h.ow.keepG hk (fun k e e2 => ?_), h.t0.keep hB h.ot, h.t1.keep hB h.ot, hB, hk.mono (fun i _ e => e.elim .inl (fun e => .inr (.inr e))), hn, fun k e e2 => ?_, hk.size⟩
  · rcases e with e | e
    · have := h.dr; unfold DpR at this
      rw [e, hcs] at this
      cases this
    · exact own_ne h.pm.2 h.dr (by decide) e
  · rcases e with rfl | e
    · exact own_ne h.ow hcs (by decide) e2
    · exact h.nd k e e2
  · rcases hn k e with e | e
    · exact h.nd k e e2
    · have := h.ow.lt e2
      omega
theorem Md.ext (h : Md o wB w y b pv pw p q d e0 e1 dv) (hb : Below y.heap.size y z) : Md o wB w z b pv pw p q d e0 e1 dv :=
  ⟨h.pm.ext hb, (hb.block _ (Array.getElem?_eq_some_iff.1 h.dr).1).trans h.dr, h.ow.ext hb, h.t0.ext hb, h.t1.ext hb, Kps.trans h.kb (Kps.of_below o hb) (fun _ _ e => e), Kps.trans h.kp (Kps.of_below _ hb) (fun _ _ e => e), h.hn, h.nd, Nat.le_trans h.wy hb.size⟩
/-- Behind the document's step. -/
theorem Md.fin (h : Md o wB w y b pv pw p q d e0 e1 dv) (h0 : Pr o wB w b pv p d e0 e1 dv) (hq : q.Ok) (hne : (27 : Int) ∉ q.ks) (hd : DI q.sl q.ks q.t) (hl : q.ks.length ≤ p.ks.length + 1) {dw : Value} (hr : DpR z d e0 e1 dw q.sl) (ho : OwnI z 0 dw q.ks) (hk : Kps (fun k => k = d) y z) (hn : ∀ k, dw.ownBlock = some k → y.heap.size ≤ k) : PlR o wB w b pv p d e0 e1 dv z := by
  obtain ⟨cs, hcs⟩ := psr_typ h.pm.1
  refine ⟨pw, q, dw, ⟨h.pm.keepG hk (fun k (e : k = d) => ?_), hq, hne, hd, hr, ho, h0.t0, h0.t1, Kps.trans h.kb hk (fun i _ (e : i = d) => e ▸ h0.od), h0.ot, h0.ob, h0.od, fun k e => ?_, fun k e e2 => ?_⟩, hl, Kps.trans h.kp hk (fun i _ e => .inr (.inl e)), h.hn, fun k e => .inr (Nat.le_trans h.wy (hn k e))⟩
  · subst e
    refine ⟨fun e => ?_, own_ne h.pm.2 h.dr (by decide), _, _, _, h.dr, by decide⟩
    have := h.dr; unfold DpR at this
    rw [e, hcs] at this
    cases this
  · rcases h.hn k e with e | e
    · exact h0.nb k e
    · exact Nat.le_trans h0.kp.size e
  · have := h.pm.2.lt e
    have := hn k e2
    omega
/-- Another pair was played: this one stays. -/
theorem Pr.other {b2 d2 f0 f1 : Nat} {pv2 dv2 : Value} {p2 : Ps} (h : Pr o wB w b2 pv2 p2 d2 f0 f1 dv2) (h1 : Pr o wB w b pv p d e0 e1 dv) (hk : Kps (fun k => k = b ∨ k = d ∨ pv.ownBlock = some k) w y) (nb : b ≠ b2) (nd : d ≠ d2) (j : ∀ k, pv.ownBlock = some k → pv2.ownBlock ≠ some k ∧ dv2.ownBlock ≠ some k) : Pr o wB y b2 pv2 p2 d2 f0 f1 dv2 := by
  obtain ⟨cs, hcs⟩ := psr_typ h.pm.1
  obtain ⟨cs1, hcs1⟩ := psr_typ h1.pm.1
  refine ⟨h.pm.keepG hk (fun k e => ?_), h.ok, h.ne, h.di, (hk.same d2 (Array.getElem?_eq_some_iff.1 h.dr).1 (fun e => ?_)).trans h.dr, h.ow.keepG hk (fun k e e2 => ?_), h.t0, h.t1, Kps.trans h.kp hk (fun i hi e => ?_), h.ot, h.ob, h.od, h.nb, h.nd⟩
  · rcases e with rfl | rfl | e
    · exact ⟨nb, own_ne h.pm.2 hcs1 (by decide), _, _, _, hcs1, by decide⟩
    · refine ⟨fun e => ?_, own_ne h.pm.2 h1.dr (by decide), _, _, _, h1.dr, by decide⟩
      have := h1.dr; unfold DpR at this
      rw [e, hcs] at this
      cases this
    · obtain ⟨_, cur, hc⟩ := h1.pm.2.blk e
      refine ⟨fun e2 => ?_, (j k e).1, _, _, _, hc, by decide⟩
      rw [e2, hcs] at hc
      cases hc
  · rcases e with e | e | e
    · have := h.dr; unfold DpR at this
      rw [e, hcs1] at this
      cases this
    · exact nd e.symm
    · exact own_ne h1.pm.2 h.dr (by decide) e
  · rcases e with rfl | rfl | e
    · exact own_ne h.ow hcs1 (by decide) e2
    · exact own_ne h.ow h1.dr (by decide) e2
    · exact (j k e).2 e2
  · rcases e with rfl | rfl | e
    · exact h1.ob
    · exact h1.od
    · exact absurd (h1.nb i e) (by omega)
end
/-- Two pairs beside one another. -/
structure Two (o : Nat → Prop) (wB w : World) (b1 : Nat) (pv1 : Value) (p1 : Ps) (d1 e0 e1 : Nat) (dv1 : Value) (b2 : Nat) (pv2 : Value) (p2 : Ps) (d2 f0 f1 : Nat) (dv2 : Value) : Prop where
  a : Pr o wB w b1 pv1 p1 d1 e0 e1 dv1
  b : Pr o wB w b2 pv2 p2 d2 f0 f1 dv2
  nb : b1 ≠ b2
  nd : d1 ≠ d2
  j1 : ∀ k, pv1.ownBlock = some k → pv2.ownBlock ≠ some k ∧ dv2.ownBlock ≠ some k
  j2 : ∀ k, pv2.ownBlock = some k → dv1.ownBlock ≠ some k
section
variable {o : Nat → Prop} {wB w y : World} {b1 d1 e0 e1 b2 d2 f0 f1 : Nat} {pv1 dv1 pv2 dv2 : Value} {p1 p2 : Ps}
theorem Two.swap (h : Two o wB w b1 pv1 p1 d1 e0 e1 dv1 b2 pv2 p2 d2 f0 f1 dv2) : Two o wB w b2 pv2 p2 d2 f0 f1 dv2 b1 pv1 p1 d1 e0 e1 dv1 :=
  ⟨h.b, h.a, h.nb.symm, h.nd.symm, fun k e => ⟨fun e2 => (h.j1 k e2).1 e, h.j2 k e⟩, fun k e => (h.j1 k e).2⟩
theorem Two.ext (h : Two o wB w b1 pv1 p1 d1 e0 e1 dv1 b2 pv2 p2 d2 f0 f1 dv2) (hb : Below w.heap.size w y) : Two o wB y b1 pv1 p1 d1 e0 e1 dv1 b2 pv2 p2 d2 f0 f1 dv2 :=
  ⟨h.a.ext hb, h.b.ext hb, h.nb, h.nd, h.j1, h.j2⟩
theorem Two.step (h : Two o wB w b1 pv1 p1 d1 e0 e1 dv1 b2 pv2 p2 d2 f0 f1 dv2) (hp : PlR o wB w b1 pv1 p1 d1 e0 e1 dv1 y) : ∃ pv p dv, Two o wB y b1 pv p d1 e0 e1 dv b2 pv2 p2 d2 f0 f1 dv2 ∧ p.ks.length ≤ p1.ks.length + 1 := by
  obtain ⟨pv, p, dv, k1, k2, k3, k4, k5⟩ := hp
  refine ⟨pv, p, dv, ⟨k1, h.b.other h.a k3 h.nb h.nd h.j1, h.nb, h.nd, fun k e => ?_, fun k e e2 => ?_⟩, k2⟩
  · rcases k4 k e with e | e
    · exact h.j1 k e
    · exact ⟨fun e2 => by have := h.b.pm.2.lt e2; omega, fun e2 => by have := h.b.ow.lt e2; omega⟩
  · rcases k5 k e2 with e3 | e3
    · exact h.j2 k e e3
    · have := h.b.pm.2.lt e
      omega
end
end Go.Proofs.YtfdceljdhgbkcaaGreatDoor

/- Keys behind what was said: what a code's reading ends is nothing to the document with more keys behind it; so what the document reads is fed. -/
namespace Go.Proofs.YtfdceljdhgbkcaaGreatDoor
theorem far_app {K l z : List Int} (h : ¬ (K <+: l ∨ l <+: K)) : ¬ (K <+: l ++ z ∨ l ++ z <+: K) := by
  rintro (h1 | h1)
  · exact h (pre_two h1 (List.prefix_append l z))
  · exact h (.inr ((List.prefix_append l z).trans h1))
theorem mts_over {r : DRw} {l : List Int} (h : r.ks.length + (if r.asks = true then 1 else 0) < l.length) : dMts r l = (2, 0) := by
  unfold dMts
  rw [if_neg (fun e => by omega), if_neg (fun e => by rcases e with e | e <;> omega)]
theorem asks_len {y : DRw} {b : Bd} {tl : List Int} {x : Int} (e : rbd y = b) (h : (b.t = 0 ∧ tl = []) ∨ (b.t = 1 ∧ tl = [x])) : (if y.asks = true then 1 else 0) = tl.length := by
  have := congrArg Bd.t e
  unfold rbd at this
  simp only at this
  by_cases ha : y.asks = true
  · rw [if_pos ha] at this ⊢
    rcases h with ⟨h, _⟩ | ⟨_, h⟩
    · rw [h] at this; cases this
    · rw [h]; rfl
  · rw [if_neg ha] at this ⊢
    rcases h with ⟨_, h⟩ | ⟨h, _⟩
    · rw [h]; rfl
    · rw [h] at this; cases this
section
variable {sl : Bool} {r c x : Int} {K tl z : List Int} {b : Bd}
theorem row_over (hm : (K, b) ∈ tbL sl) (h : (b.t = 0 ∧ tl = []) ∨ (b.t = 1 ∧ tl = [x])) (hz : z ≠ []) : dRow sl (K ++ tl ++ z) r c = (cmZ, 2) := by
  have T := tab_sl sl
  have hzl : 0 < z.length := List.length_pos_iff.2 hz
  have near : ∀ {k : List Int} {b' : Bd}, (k, b') ∈ tbL sl → (k <+: K ++ tl ++ z ∨ K ++ tl ++ z <+: k) → k = K ∧ b' = b := fun hk hp => near_is hm hk (by rwa [List.append_assoc] at hp)
  unfold dRow
  dsimp only
  rw [dAmg_bad (dRws sl) 2 (fun y hy => ?_), if_neg (by decide)]
  · refine dOpr_far _ _ (fun o ho hp => ?_)
    obtain ⟨_, e2⟩ := near (T.o o ho) hp
    rw [← e2] at h
    rcases h with ⟨h, _⟩ | ⟨h, _⟩ <;> cases h
  · by_cases hp : y.ks <+: K ++ tl ++ z ∨ K ++ tl ++ z <+: y.ks
    · obtain ⟨e1, e2⟩ := near (T.d y hy) hp
      refine mts_over ?_
      rw [e1, asks_len e2 h]
      simp only [List.length_append]
      omega
    · exact mts_far hp
theorem tl_over {o : DRw} (ho : o ∈ dOps) (hm : (K, b) ∈ fil tTar) (h : (b.t = 0 ∧ tl = []) ∨ (b.t = 1 ∧ tl = [x])) (hz : z ≠ []) : dAmg r c (K ++ tl ++ z) 2 (dTls o) = (cmZ, 2) := by
  have hzl : 0 < z.length := List.length_pos_iff.2 hz
  refine dAmg_bad _ _ (fun y hy => ?_)
  by_cases hp : y.ks <+: K ++ tl ++ z ∨ K ++ tl ++ z <+: y.ks
  · obtain ⟨b', hb', e⟩ := (tgt_of ho).d y hy
    obtain ⟨e1, rfl⟩ := near_t hm hb' (by rwa [List.append_assoc] at hp)
    have h' : ((rbd y).t = 0 ∧ tl = []) ∨ ((rbd y).t = 1 ∧ tl = [x]) := by rw [bhd_t e]; exact h
    refine mts_over ?_
    rw [e1, asks_len rfl h']
    simp only [List.length_append]
    omega
  · exact mts_far hp
end
theorem feed_over {sl : Bool} {ks : List Int} {t : Rdg} {x : Int} (h : DI sl ks t) : ∃ u c s, Rdo sl (ks ++ [x]) t u c s ∧ (s ≠ 0 → ∀ z, z ≠ [] → dRds sl (ks ++ [x] ++ z) = (cmZ, 2)) := by
  obtain ⟨k0, k1, rk, op, con, w⟩ := h
  have hlen : (ks ++ [x]).length = ks.length + 1 := by simp
  have hlt : t.k < (ks ++ [x]).length := by omega
  have hdr : (ks ++ [x]).drop t.k.toNat = ks.drop t.k.toNat ++ [x] := List.drop_append_of_le_length (by omega)
  have htk : (ks ++ [x]).take t.k.toNat = ks.take t.k.toNat := List.take_append_of_le_length (by omega)
  have hcl : (ks.take t.k.toNat).length = t.k.toNat := by rw [List.length_take]; omega
  have hall : ks.take t.k.toNat ++ ks.drop t.k.toNat = ks := List.take_append_drop _ _
  have hstay : rst sl t (ks.drop t.k.toNat ++ [x]) = .fin t cmZ 0 → ∃ u c s, Rdo sl (ks ++ [x]) t u c s ∧ (s ≠ 0 → ∀ z, z ≠ [] → dRds sl (ks ++ [x] ++ z) = (cmZ, 2)) := by
    intro e
    exact ⟨t, cmZ, 0, Rdo.done hlt (by rw [hdr]; exact e), fun h => absurd rfl h⟩
  have hgo : ∀ t' : Rdg, rst sl t (ks.drop t.k.toNat ++ [x]) = .go t' → t'.k = (ks ++ [x]).length → ∃ u c s, Rdo sl (ks ++ [x]) t u c s ∧ (s ≠ 0 → ∀ z, z ≠ [] → dRds sl (ks ++ [x] ++ z) = (cmZ, 2)) := by
    intro t' e hk
    exact ⟨t', cmZ, 0, Rdo.more hlt (by rw [hdr]; exact e) (Rdo.over (by omega)), fun h => absurd rfl h⟩
  have hfin : ∀ (t' : Rdg) (c' : Cm) (s' : Int), rst sl t (ks.drop t.k.toNat ++ [x]) = .fin t' c' s' → (∀ z, z ≠ [] → dCt sl t (ks.drop t.k.toNat ++ [x] ++ z) = (cmZ, 2)) → ∃ u c s, Rdo sl (ks ++ [x]) t u c s ∧ (s ≠ 0 → ∀ z, z ≠ [] → dRds sl (ks ++ [x] ++ z) = (cmZ, 2)) := by
    intro t' c' s' e hl
    refine ⟨t', c', s', Rdo.done hlt (by rw [hdr]; exact e), fun _ z hz => ?_⟩
    rw [dRds_eq, ← hl z hz, ← con]
    congr 1
    rw [← List.append_assoc, ← List.append_assoc, hall]
  clear con htk hdr
  generalize hcs : ks.take t.k.toNat = cs at *
  generalize hlf : ks.drop t.k.toNat = lf at *
  have hkl : t.k = cs.length := by omega
  have hE : ks ++ [x] = cs ++ (lf ++ [x]) := by rw [← hall, List.append_assoc]
  have hkn : (ks ++ [x]).length = cs.length + (lf.length + 1) := by rw [hE]; simp
  have hhd : lf ≠ [] → (lf ++ [x]).headD 0 = lf.headD 0 := fun h => head_app h _
  have hw : lf ≠ [] → ¬ gow t (lf.headD 0) = true ∧ ((lf.headD 0 = 34 ∧ t.o = 0 ∧ lf.length = 1) ∨ (¬ (lf.headD 0 = 34 ∧ t.o = 0) ∧ (bgn (bLs sl t) lf = none ∨ ∃ n b, bgn (bLs sl t) lf = some n ∧ (lf, b) ∈ bLs sl t ∧ b.t = 1 ∧ lf.length = n + 1))) := by
    intro hne
    rcases w with w | w
    · exact absurd w hne
    · exact wait_ways w
  have hlx : lf ++ [x] ≠ [] := by simp
  have hOp : t.o ≠ 0 → dOpOf t.o ∈ dOps ∧ (dOpOf t.o).v = t.o := fun ho => by
    obtain ⟨o, hm, e⟩ := op.resolve_left ho
    rw [← e, (op_is hm).1]
    exact ⟨hm, rfl⟩
  -- what is said where neither a number nor a register goes on
  have hrow : ¬ gow t ((lf ++ [x]).headD 0) = true → ¬ ((lf ++ [x]).headD 0 = 34 ∧ t.o = 0) → ∀ z, dCt sl t (lf ++ [x] ++ z) = if t.o = 0 then dRow sl (lf ++ [x] ++ z) t.r (endN t).c else dAmg t.r (endN t).c (lf ++ [x] ++ z) 2 (dTls (dOpOf t.o)) := by
    intro g q z
    rw [← head_app hlx z] at g q
    by_cases ho : t.o = 0
    · rw [if_pos ho]
      exact ct_row rk ho (by simp) g (fun e => q ⟨e, ho⟩)
    · rw [if_neg ho]
      exact ct_tail rk ho g
  rcases rst_why sl t (lf ++ [x]) with ⟨g, e⟩ | ⟨g, h1, h2, ⟨e0, e⟩ | ⟨e0, e1, e⟩ | ⟨e0, e1, e⟩⟩ | ⟨g, h1, ⟨hb, e⟩ | ⟨n, hb, h2, e⟩ | ⟨n, b, hb, hm, ⟨b1, bl, e⟩ | ⟨b2, e⟩ | ⟨b2, b1, e⟩⟩⟩
  · -- a digit
    have hn : lf = [] := by
      by_cases hn : lf = []
      · exact hn
      · rw [hhd hn] at g
        exact absurd g (hw hn).1
    subst hn
    have g : gow t x = true := g
    exact hgo _ e (by show t.k + 1 = _; rw [hkn]; simp only [List.length_nil]; omega)
  · have hn : lf = [] := by
      simp only [List.length_append, List.length_cons, List.length_nil] at e0
      exact List.length_eq_zero_iff.1 (by omega)
    subst hn
    have hx : x = 34 := h1
    subst hx
    exact hstay e
  · have hne : lf ≠ [] := fun h => e0 (by rw [h]; rfl)
    rw [hhd hne] at h1
    obtain ⟨_, ⟨q1, q2, q3⟩ | ⟨q, _⟩⟩ := hw hne
    · obtain ⟨y, rfl⟩ := List.length_eq_one_iff.1 q3
      have hy : y = 34 := q1
      subst hy
      have e1 : x = 0 := e1
      subst e1
      exact hfin _ _ _ e (fun z _ => ct_zero rk h2 z)
    · exact absurd ⟨h1, h2⟩ q
  · -- a register's name
    have hne : lf ≠ [] := fun h => e0 (by rw [h]; rfl)
    rw [hhd hne] at h1
    obtain ⟨_, ⟨q1, q2, q3⟩ | ⟨q, _⟩⟩ := hw hne
    · obtain ⟨y, rfl⟩ := List.length_eq_one_iff.1 q3
      have hy : y = 34 := q1
      subst hy
      have e1 : x ≠ 0 := e1
      exact hgo _ e (by show t.k + 2 = _; rw [hkn]; simp only [List.length_cons, List.length_nil]; omega)
    · exact absurd ⟨h1, h2⟩ q
  · -- more keys are wanted
    exact hstay e
  · refine hfin _ _ _ e (fun z _ => ?_)
    rw [hrow g h1 z]
    by_cases ho : t.o = 0
    · rw [if_pos ho]
      rw [bls_0 ho] at hb h2
      exact row_far (fun _ _ hm => far_app (bgn_bad hb h2 hm ((free_sl sl).ok _ _ hm).ne))
    · rw [if_neg ho]
      rw [bls_1 ho] at hb h2
      exact dAmg_bad _ _ (fun y hy => mts_far (by
        obtain ⟨b', hb', _⟩ := (tgt_of (hOp ho).1).d y hy
        exact far_app (bgn_bad hb h2 hb' (free_t.ok _ _ hb').ne)))
  · -- an argument is wanted
    exact hstay e
  · -- an operator
    have hw' : lf = [] ∨ (bgn (bLs sl t) lf = none ∨ ∃ m b', bgn (bLs sl t) lf = some m ∧ (lf, b') ∈ bLs sl t ∧ b'.t = 1 ∧ lf.length = m + 1) := by
      by_cases hne : lf = []
      · exact .inl hne
      · rcases hw hne with ⟨_, ⟨q1, q2, _⟩ | ⟨_, q⟩⟩
        · rw [hhd hne] at h1
          exact absurd ⟨q1, q2⟩ h1
        · exact .inr q
    rcases row_ends hw' hb hm with ⟨r1, r2⟩ | ⟨_, _, r3⟩
    · have ho : t.o = 0 := by
        by_cases ho : t.o = 0
        · exact ho
        · rcases (tt_mem ho r2).2 with h | h <;> rw [h] at b2 <;> exact absurd b2 (by decide)
      exact hgo _ e (by show t.k + ((n : Int) + 1) = _; rw [hkn]; simp only [List.length_append, List.length_cons, List.length_nil] at r1; omega)
    · rw [b2] at r3; exact absurd r3 (by decide)
  · -- a row
    have hw' : lf = [] ∨ (bgn (bLs sl t) lf = none ∨ ∃ m b', bgn (bLs sl t) lf = some m ∧ (lf, b') ∈ bLs sl t ∧ b'.t = 1 ∧ lf.length = m + 1) := by
      by_cases hne : lf = []
      · exact .inl hne
      · rcases hw hne with ⟨_, ⟨q1, q2, _⟩ | ⟨_, q⟩⟩
        · rw [hhd hne] at h1
          exact absurd ⟨q1, q2⟩ h1
        · exact .inr q
    refine hfin _ _ _ e (fun z hz => ?_)
    obtain ⟨K, tl, hK, hmm, hbt⟩ : ∃ K tl, lf ++ [x] = K ++ tl ∧ (K, b) ∈ bLs sl t ∧ ((b.t = 0 ∧ tl = []) ∨ (b.t = 1 ∧ tl = [x])) := by
      rcases row_ends hw' hb hm with ⟨r1, r2⟩ | ⟨r1, r2, r3⟩
      · refine ⟨lf ++ [x], [], by simp, r2, .inl ⟨?_, rfl⟩⟩
        rcases (bls_ok r2).kin with h | h | h
        · exact h
        · exact absurd ⟨h, r1.symm⟩ b1
        · exact absurd h.1 b2
      · exact ⟨lf, [x], rfl, r2, .inr ⟨r3, rfl⟩⟩
    rw [hrow g h1 z, hK]
    by_cases ho : t.o = 0
    · rw [if_pos ho]
      rw [bls_0 ho] at hmm
      exact row_over hmm hbt hz
    · rw [if_neg ho]
      rw [bls_1 ho] at hmm
      exact tl_over (hOp ho).1 hmm hbt hz
/-- What is fed and done reads as that command. -/
theorem fed_reads {mode : Int} {c : Cm} : ∀ (xs : List Int) {p : Ps}, DI (isl mode) (ahd p mode).ks (ahd p mode).t → FedR mode p xs c 1 → dRds (isl mode) ((ahd p mode).ks ++ xs) = (c, 1)
  | [], _, _, h => absurd h.2 (by decide)
  | x :: xs, p, hp, h => by
    rw [FedR] at h
    split at h
    · rename_i hx
      subst hx
      obtain ⟨q, ⟨_, _, _, e⟩ | ⟨_, u, hu, _⟩⟩ := h
      · exact absurd e (by decide)
      · exact (feed_d hp hu).2
    · obtain ⟨q, c1, s1, h1, ⟨rfl, h2⟩ | ⟨_, _, e⟩⟩ := h
      · obtain ⟨_, _, _, e⟩ | ⟨_, u, hu, ⟨_, rfl⟩ | ⟨e, _⟩⟩ := h1
        · exact absurd e (by decide)
        · have hq : ahd (⟨isl mode, (ahd p mode).ks ++ [x], u⟩ : Ps) mode = ⟨isl mode, (ahd p mode).ks ++ [x], u⟩ := by
            unfold ahd
            rw [if_pos rfl]
          have := fed_reads (p := ⟨isl mode, (ahd p mode).ks ++ [x], u⟩) xs (by rw [hq]; exact (feed_d hp hu).1 rfl) h2
          rw [hq] at this
          simp only [List.append_assoc, List.cons_append, List.nil_append] at this
          exact this
        · exact absurd rfl e
      · exact absurd e (by decide)
/-- What reads as a command is fed so, and no key ahead of the last one ends it. -/
theorem reads_fed {mode : Int} {c : Cm} : ∀ (xs : List Int) {p : Ps}, xs ≠ [] → (∀ k ∈ xs, k ≠ 27) → DI (isl mode) (ahd p mode).ks (ahd p mode).t → dRds (isl mode) ((ahd p mode).ks ++ xs) = (c, 1) → FedR mode p xs c 1
  | [], _, h, _, _, _ => absurd rfl h
  | x :: xs, p, _, h27, hp, h => by
    obtain ⟨u, c1, s1, hu, hov⟩ := feed_over (x := x) hp
    obtain ⟨k1, k2⟩ := feed_d hp hu
    have hx : x ≠ 27 := h27 x (by simp)
    rw [FedR]
    split
    · rename_i e
      subst e
      rw [k2] at h
      injection h with e1 e2
      subst e1 e2
      exact ⟨_, .inr ⟨hx, u, hu, .inr ⟨by decide, rfl⟩⟩⟩
    · rename_i hxs
      have happ : (ahd p mode).ks ++ x :: xs = (ahd p mode).ks ++ [x] ++ xs := by simp
      rw [happ] at h
      by_cases hs : s1 = 0
      · subst hs
        obtain ⟨q, hqe⟩ : ∃ q : Ps, q = ⟨isl mode, (ahd p mode).ks ++ [x], u⟩ := ⟨_, rfl⟩
        have hq : ahd q mode = q := by
          unfold ahd
          rw [hqe, if_pos rfl]
        refine ⟨q, c1, 0, .inr ⟨hx, u, hu, .inl ⟨rfl, hqe⟩⟩, .inl ⟨rfl, reads_fed xs hxs (fun k hk => h27 k (by simp [hk])) ?_ ?_⟩⟩
        · rw [hq, hqe]; exact k1 rfl
        · rw [hq, hqe]; exact h
      · rw [hov hs xs hxs] at h
        injection h with _ e
        exact absurd e (by decide)
end Go.Proofs.YtfdceljdhgbkcaaGreatDoor
