/- RegisterApart: the rows; all of it together. -/
import Derived.Test.YtnfaofldjoobgaaGAp2
namespace Go.Proofs.Ytnfaofldjoobgaa
open Go.RowKit
variable {F F' : Nat → Prop}

/-- The four rows: shelf, marks, quiet, want; and what they hold. -/
structure Rz where
  sv : Value
  mv : Value
  qv : Value
  uv : Value
  sx : List Value
  mx : List Int
  qx : List Value
  ux : List Value
structure Rw (B : Nat) (F : Nat → Prop) (w : World) (r : Rz) (ls : List (Value × List Int)) : Prop where
  so : RowL w B r.sv r.sx
  mo : OwnI w B r.mv r.mx
  qo : RowL w B r.qv r.qx
  uo : RowL w B r.uv r.ux
  sy : YF F r.sv
  my : YF F r.mv
  qy : YF F r.qv
  uy : YF F r.uv
  av : Av r.sv r.qv ∧ Av r.sv r.uv ∧ Av r.qv r.uv
  lm : ∀ x ∈ ls, Av x.1 r.mv
structure Ap (B : Nat) (F : Nat → Prop) (w : World) (a : Az) (r : Rz) : Prop where
  co : Co B F w a
  rw : Rw B F w r a.ls
section
variable {B : Nat} {w w' : World} {a : Az} {r : Rz}
theorem av_gw {B' size n : Nat} {e : TypeId} {v v' y : Value} {ys : List Value} (g : Gw w w' v v') (h : w.ownsRow B' e size y n ys) (ha : Av y v) : Av y v' := fun q hq hv => by
  rcases g with ⟨e1, _⟩ | ⟨e1, _⟩
  · exact ha q hq (e1 ▸ hv)
  · rw [e1] at hv
    cases hv
    have := (World.ownsRow.lt h _ hq).2
    omega
theorem Rw.ext {ls : List (Value × List Int)} (h : Rw B F w r ls) (k : Below w.heap.size w w') (hF : ∀ q, F q → F' q) : Rw B F' w' r ls :=
  ⟨h.so.ext k, h.mo.ext k, h.qo.ext k, h.uo.ext k, fun q hq => hF q (h.sy q hq), fun q hq => hF q (h.my q hq), fun q hq => hF q (h.qy q hq), fun q hq => hF q (h.uy q hq), h.av, h.lm⟩
theorem Ap.ext (h : Ap B F w a r) (k : Below w.heap.size w w') : Ap B F w' a r := ⟨h.co.ext k, h.rw.ext k (fun _ h => h)⟩
theorem Ap.pushQ (h : Ap B F w a r) {v' : Value} {news : List Value} (g : Gw w w' r.qv v') (ho : RowL w' B v' (r.qx ++ news)) : Ap B (Fx F v') w' a { r with qv := v', qx := r.qx ++ news } := by
  have hm := av_typ h.rw.mo h.rw.qo (by decide)
  refine ⟨h.co.push g h.rw.qy h.rw.qo ho (by decide) (fun x hx => av_typ (h.co.li x hx).1 h.rw.qo (by decide)), own_gw g h.rw.so h.rw.av.1, own_gw g h.rw.mo hm, ho, own_gw g h.rw.uo h.rw.av.2.2.symm, fun q hq => .inl (h.rw.sy q hq), fun q hq => .inl (h.rw.my q hq), fun q hq => .inr hq, fun q hq => .inl (h.rw.uy q hq), ⟨av_gw g h.rw.so h.rw.av.1, h.rw.av.2.1, (av_gw g h.rw.uo h.rw.av.2.2.symm).symm⟩, h.rw.lm⟩
theorem Ap.pushU (h : Ap B F w a r) {v' : Value} {news : List Value} (g : Gw w w' r.uv v') (ho : RowL w' B v' (r.ux ++ news)) : Ap B (Fx F v') w' a { r with uv := v', ux := r.ux ++ news } := by
  have hm := av_typ h.rw.mo h.rw.uo (by decide)
  refine ⟨h.co.push g h.rw.uy h.rw.uo ho (by decide) (fun x hx => av_typ (h.co.li x hx).1 h.rw.uo (by decide)), own_gw g h.rw.so h.rw.av.2.1, own_gw g h.rw.mo hm, own_gw g h.rw.qo h.rw.av.2.2, ho, fun q hq => .inl (h.rw.sy q hq), fun q hq => .inl (h.rw.my q hq), fun q hq => .inl (h.rw.qy q hq), fun q hq => .inr hq, ⟨h.rw.av.1, av_gw g h.rw.so h.rw.av.2.1, av_gw g h.rw.qo h.rw.av.2.2⟩, h.rw.lm⟩
theorem Ap.pushS (h : Ap B F w a r) {v' : Value} {news : List Value} (g : Gw w w' r.sv v') (ho : RowL w' B v' (r.sx ++ news)) : Ap B (Fx F v') w' a { r with sv := v', sx := r.sx ++ news } := by
  have hm := av_typ h.rw.mo h.rw.so (by decide)
  refine ⟨h.co.push g h.rw.sy h.rw.so ho (by decide) (fun x hx => av_typ (h.co.li x hx).1 h.rw.so (by decide)), ho, own_gw g h.rw.mo hm, own_gw g h.rw.qo h.rw.av.1.symm, own_gw g h.rw.uo h.rw.av.2.1.symm, fun q hq => .inr hq, fun q hq => .inl (h.rw.my q hq), fun q hq => .inl (h.rw.qy q hq), fun q hq => .inl (h.rw.uy q hq), ⟨(av_gw g h.rw.qo h.rw.av.1.symm).symm, (av_gw g h.rw.uo h.rw.av.2.1.symm).symm, h.rw.av.2.2⟩, h.rw.lm⟩
theorem Ap.pushM (h : Ap B F w a r) {v' : Value} {news : List Int} (g : Gw w w' r.mv v') (ho : OwnI w' B v' (r.mx ++ news)) : Ap B (Fx F v') w' a { r with mv := v', mx := r.mx ++ news } := by
  have hs := av_typ h.rw.so h.rw.mo (by decide)
  have hq := av_typ h.rw.qo h.rw.mo (by decide)
  have hu := av_typ h.rw.uo h.rw.mo (by decide)
  refine ⟨h.co.push g h.rw.my h.rw.mo ho (by decide) h.rw.lm, own_gw g h.rw.so hs, ho, own_gw g h.rw.qo hq, own_gw g h.rw.uo hu, fun q hq => .inl (h.rw.sy q hq), fun q hq => .inr hq, fun q hq => .inl (h.rw.qy q hq), fun q hq => .inl (h.rw.uy q hq), h.rw.av, fun x hx => av_gw g (h.co.li x hx).1 (h.rw.lm x hx)⟩
theorem Ap.loose (h : Ap B F w a r) (hb : Below w.heap.size w w') {v : Value} {z : List Int} (ho : OwnI w' w.heap.size v z) (hz : z.length ≤ 140100) : Ap B (Fx F v) w' { a with ls := a.ls ++ [(v, z)] } r := by
  have h2 := h.rw.ext (F' := Fx F v) hb (fun _ h => .inl h)
  refine ⟨h.co.loose hb ho hz, h2.so, h2.mo, h2.qo, h2.uo, h2.sy, h2.my, h2.qy, h2.uy, h2.av, fun x hx => ?_⟩
  rcases List.mem_append.1 hx with hx | hx
  · exact h.rw.lm x hx
  · simp at hx
    subst hx
    intro q hq hm
    have := (World.ownsRow.lt ho q hq).1
    have := (World.ownsRow.lt h.rw.mo q hm).2
    omega
theorem Ap.want (h : Ap B F w a r) (hb : Below w.heap.size w w') {v : Value} {z : List Int} (ho : OwnI w' w.heap.size v z) : Ap B F w' { a with us := a.us ++ [(v, z)] } r := ⟨h.co.want hb ho, h.rw.ext hb (fun _ h => h)⟩
theorem Ap.seen (h : Ap B F w a r) (hb : Below w.heap.size w w') {l ev : Value} {gs : List Rg} {es : List Int} (h1 : OwnG w' w.heap.size l gs ev) (h2 : OwnI w' w.heap.size ev es) : Ap B F w' { a with lv2 := l, ev2 := ev, g2 := gs, e2 := es } r := ⟨h.co.seen hb h1 h2, h.rw.ext hb (fun _ h => h)⟩
theorem Ap.keep (h : Ap B F w a r) (hb : Below w.heap.size w w') {g : Nat} {cs : Array Value} {T : TypeId} (hg : w.heap.size ≤ g) (hc : w'.heap[g]? = some (.cells cs T (0, 0))) : Ap B F w' { a with ib := (g, cs, T) :: a.ib } r := ⟨h.co.keep hb hg hc, h.rw.ext hb (fun _ h => h)⟩
theorem Ap.called (h : Ap B F w a r) {M' : Nat} {t' : Bs} (hb : Bk F w' a.c a.cm M' t'.m t'.p) (k : Kb a.c a.cm w w') (ht : Good t') : Ap B F w' { a with t := t', M := M' } r ∧ Below B w w' := by
  obtain ⟨h1, h2⟩ := h.co.called hb k ht
  obtain ⟨⟨c3, b3⟩, m3, l3, b4⟩ := h.co.cc.typ
  have ne : ∀ {B' size n : Nat} {e : TypeId} {v : Value} {xs : List Value}, w.ownsRow B' e size v n xs → e ≠ 70 → ∀ q, v.ownBlock = some q → ¬ (q = a.c ∨ q = a.cm) := fun ho he q hq hTq => by
    obtain ⟨cs, hc⟩ := own_cells ho hq
    rcases hTq with e | e
    · exact cells_ne hc b3 he e
    · exact map_ne hc b4 e
  exact ⟨⟨h1, own_kps h.rw.so k (ne h.rw.so (by decide)), own_kps h.rw.mo k (ne h.rw.mo (by decide)), own_kps h.rw.qo k (ne h.rw.qo (by decide)), own_kps h.rw.uo k (ne h.rw.uo (by decide)), h.rw.sy, h.rw.my, h.rw.qy, h.rw.uy, h.rw.av, h.rw.lm⟩, h2⟩
/-- A loose list has been written over and grown: it is loose no longer. -/
theorem Ap.grown (h : Ap B F w a r) {v : Value} {z : List Int} {pre post : List (Value × List Int)} (hls : a.ls = pre ++ (v, z) :: post) {n : Nat} {m : Int} (hn : n + 103 ≤ 1000000) {a1 a2 a3 : Value} (o0 : OwnI w' B v (List.replicate n m)) (o1 : OwnI w' B a1 (List.replicate (n + 1) m)) (o2 : OwnI w' B a2 (List.replicate (n + 2) m)) (o3 : OwnI w' B a3 (List.replicate (n + 103) m)) (m1 : Near w v a1) (m2 : Near w v a2) (m3 : Near w v a3) (k : Kps (fun q => v.ownBlock = some q) w w') :
    Ap B (fun q => F q ∧ v.ownBlock ≠ some q) w' { a with ls := pre ++ post, ss := a.ss ++ [(v, n, m), (a1, n + 1, m), (a2, n + 2, m), (a3, n + 103, m)] } r := by
  have hmem : (v, z) ∈ a.ls := by rw [hls]; simp
  obtain ⟨ov, yv, _⟩ := h.co.li _ hmem
  have hsub : ∀ x ∈ pre ++ post, x ∈ a.ls ∧ Av x.1 v := fun x hx => by
    have hp := h.co.lp
    rw [hls] at hp
    rw [List.pairwise_append] at hp
    obtain ⟨_, h2, h3⟩ := hp
    rw [List.pairwise_cons] at h2
    rcases List.mem_append.1 hx with hx | hx
    · exact ⟨by rw [hls]; simp [hx], h3 x hx (v, z) (by simp)⟩
    · exact ⟨by rw [hls]; simp [hx], (h2.1 x hx).symm⟩
  have hlp : (pre ++ post).Pairwise (fun x y => Av x.1 y.1) := by
    have hp := h.co.lp
    rw [hls] at hp
    refine hp.sublist ?_
    exact List.Sublist.append (List.Sublist.refl _) (List.sublist_cons_self _ _)
  have c0 : Co B F w { a with ls := pre ++ post } := ⟨h.co.bb, h.co.cc, h.co.dd, h.co.gb, h.co.gc, h.co.n1, h.co.sh, h.co.s2, h.co.sl, h.co.ui, fun x hx => h.co.li x (hsub x hx).1, hlp, h.co.ib, h.co.lo, h.co.sz⟩
  obtain ⟨⟨c1, b1⟩, q1, l1, b2⟩ := h.co.bb.typ
  obtain ⟨⟨c3, b3⟩, q3, l3, b4⟩ := h.co.cc.typ
  obtain ⟨⟨c5, b5⟩, q5, l5, b6⟩ := h.co.dd.typ
  have nb : ∀ q, v.ownBlock = some q → q ≠ a.b ∧ q ≠ a.bm ∧ q ≠ a.c ∧ q ≠ a.cm ∧ q ≠ a.d ∧ q ≠ a.dm := fun q hq => by
    obtain ⟨cs, hc⟩ := own_cells ov hq
    exact ⟨cells_ne hc b1 (by decide), map_ne hc b2, cells_ne hc b3 (by decide), map_ne hc b4, cells_ne hc b5 (by decide), map_ne hc b6⟩
  have c1' := c0.move k (fun q hq _ => .inl (yv q hq)) nb (fun x hx q hxq hq => (hsub x hx).2 q hxq hq)
  have hF : ∀ q, (F q ∧ v.ownBlock ≠ some q) → F q := fun q h => h.1
  have nf0 : NF (fun q => F q ∧ v.ownBlock ≠ some q) v := fun q hq hf => hf.2 hq
  have nfn : ∀ y, Near w v y → NF (fun q => F q ∧ v.ownBlock ≠ some q) y := fun y hy q hq hf => by
    rcases hy q hq with h1 | h1
    · exact hf.2 h1
    · have := h.co.fl q hf.1; omega
  have yf : ∀ {y : Value}, YF F y → Av y v → YF (fun q => F q ∧ v.ownBlock ≠ some q) y := fun hy ha q hq => ⟨hy q hq, ha q hq⟩
  have ts := av_typ h.rw.so ov (by decide)
  have tq := av_typ h.rw.qo ov (by decide)
  have tu := av_typ h.rw.uo ov (by decide)
  have tm := (h.rw.lm _ hmem).symm
  refine ⟨⟨c1'.bb.less ⟨c1'.bb.2.2.1.1, fun e => (nb _ e).1 rfl⟩ hF, c1'.cc.less ⟨c1'.cc.2.2.1.1, fun e => (nb _ e).2.2.1 rfl⟩ hF, c1'.dd.less ⟨c1'.dd.2.2.1.1, fun e => (nb _ e).2.2.2.2.1 rfl⟩ hF, c1'.gb, c1'.gc, c1'.n1, c1'.sh.less hF, c1'.s2.less hF, fun x hx => ?_, fun x hx => ⟨(c1'.ui x hx).1, fun q hq hf => (c1'.ui x hx).2 q hq hf.1⟩, fun x hx => ⟨(c1'.li x hx).1, yf (c1'.li x hx).2.1 (hsub x hx).2, (c1'.li x hx).2.2⟩, hlp, fun x hx => ⟨(c1'.ib x hx).1, fun hf => (c1'.ib x hx).2 hf.1⟩, c1'.lo, c1'.sz⟩, ⟨own_kps h.rw.so k (fun q hq e => ts q hq e), own_kps h.rw.mo k (fun q hq e => tm q hq e), own_kps h.rw.qo k (fun q hq e => tq q hq e), own_kps h.rw.uo k (fun q hq e => tu q hq e), yf h.rw.sy ts, yf h.rw.my tm, yf h.rw.qy tq, yf h.rw.uy tu, h.rw.av, fun x hx => h.rw.lm x (hsub x hx).1⟩⟩
  rcases List.mem_append.1 hx with hx | hx
  · exact ⟨(c1'.sl x hx).1, fun q hq hf => (c1'.sl x hx).2.1 q hq hf.1, (c1'.sl x hx).2.2⟩
  · simp only [List.mem_cons, List.not_mem_nil, or_false] at hx
    rcases hx with rfl | rfl | rfl | rfl
    · exact ⟨o0, nf0, by dsimp only; omega⟩
    · exact ⟨o1, nfn _ m1, by dsimp only; omega⟩
    · exact ⟨o2, nfn _ m2, by dsimp only; omega⟩
    · exact ⟨o3, nfn _ m3, hn⟩
end
end Go.Proofs.Ytnfaofldjoobgaa
