import Derived.Test.YtmldfjhfgaggpaaJ13
import Derived.Test.YtmldfjhfgaggpaaJ17
import Derived.Laws.CopyOwn
import Derived.OwnWalk
import Derived.Deep.CutRange
import Derived.Laws.Cover3
/- RegisterApart: how what lies there moves on. -/
namespace Go.Proofs.Ytmldfjhfgaggpaa
open Go.RowKit
variable {F F' : Nat → Prop}

theorem info_sl2 : (Try.prog.info? 29).map (fun i => (i.zero, i.size, i.bytes)) = some (some (.slice none 0 0), 1, 24) := by kernel_rfl
/-- A row has grown: in its place, or into a new block. -/
def Gw (w w' : World) (v v' : Value) : Prop := (v'.ownBlock = v.ownBlock ∧ w.grownBy w' v.ownBlock) ∨ (v'.ownBlock = some w.heap.size ∧ Below w.heap.size w w')
theorem run_append_gw {P : Program} (w : World) (base : Nat) (t ty e : TypeId) (i : TypeInfo) (z : Value) (bytes : Nat) (ht : P.underlying t = some (.slice e)) (hi : P.info? e = some i) (hz : i.zero = some z)
    (hsize : i.size = 1) (hby : i.bytes = bytes) (hzs : z.cells.size = 1)
    (v : Value) (n : Nat) (xs : List Value) (hown : w.ownsRow base e 1 v n xs)
    (a : Addr) (m c : Nat) (news : List Value) (hl : news.length = m) (hnews : ∀ j u, news[j]? = some u → w.cell? (a.add j) = some u) (h1 : ∀ u ∈ news, u.oneCell' = true)
    (h63 : n + m ≤ maxLen) (hbytes : (n + m) * bytes ≤ 140737488355328) (hbase : base ≤ w.heap.size) (hm : 0 < m) :
    ∃ v' w', (Builtin.append_ #[t, t] ty #[v, .slice (some a) m c]).run P w = .ok v' w' ∧ w'.ownsRow base e 1 v' (n + m) (xs ++ news) ∧ Gw w w' v v' := by
  obtain ⟨v', w', hr, h2, h3, _⟩ := run_append_own (P := P) w base t ty e i z 1 bytes ht hi hz hsize hby hzs (by decide) v n xs hown a m c news (by omega) hnews h1 h63 hbytes hbase
  refine ⟨v', w', hr, h2, ?_⟩
  subst hby
  have hsmall : n + m ≤ 9223372036854775807 := by simp only [maxLen] at h63; omega
  have hbl : ∀ o, Below w.heap.size w (w.drew.alloc o) := fun o => (Below.refl _ _).drew.alloc (Nat.le_refl _) o
  rcases hown.2 with ⟨rfl, rfl⟩ | ⟨g, cap, cur, rfl, hbg, hg, hnc, hcm, hcs, htake⟩
  · have h := run_append_nil (P := P) w t ty e i z ht hi hz a m c news (by rw [hsize]; omega) hnews hm (by omega) (by simp only [Nat.zero_add] at hbytes; omega)
    rw [h] at hr
    cases hr
    exact .inr ⟨rfl, hbl _⟩
  · by_cases hroom : n + m ≤ cap
    · have hfit : n * i.size + news.length ≤ cur.size := by rw [hsize, hl, hcs]; omega
      have h := run_append_room (P := P) w t ty e i ht hi g n cap cur hg a m c news (by rw [hsize]; omega) hnews h1 hroom hfit
      rw [h] at hr
      cases hr
      exact .inl ⟨rfl, h3⟩
    · have holds : ∀ j u, xs[j]? = some u → w.cell? ((⟨g, 0, none⟩ : Addr).add j) = some u := hown.cells (g := g) rfl
      have h := run_append_grow (P := P) w t ty e i z ht hi hz ⟨g, 0, none⟩ n cap xs (by have := hown.1; rw [hsize]; omega) holds a m c news (by rw [hsize]; omega) hnews (by omega) (by omega) (growslice_fits (by omega) hbytes)
      rw [h] at hr
      cases hr
      exact .inr ⟨rfl, hbl _⟩
section
variable {W : World} {ops : Array Oper} {rest : List Oper} {o : Oper} {a : Act} {Q : Exit → Act → World → Prop}
/-- append of lists onto a row of lists. -/
theorem wpl_rowL (hgd : o.guard = none) (s x : Operand) (ho : o.op = .call { callee := .builtin .append, args := #[s, x], argTypes := #[23, 23] })
    (B : Nat) (v : Value) (xs news : List Value) (hs : a.eval s = v) (hown : RowL W B v xs) (g m c : Nat) (hx : a.eval x = .slice (some ⟨g, 0, none⟩) m c) (hg : W.heap[g]? = some (.cells news.toArray 29 (0, 0))) (hm : news.length = m) (h1 : ∀ u ∈ news, ∃ ao n c, u = .slice ao n c) (h0 : 0 < m) (hl : xs.length + m ≤ 1000000) (hB : B ≤ W.heap.size)
    (h : ∀ v' w', RowL w' B v' (xs ++ news) → Gw W w' v v' → wpList Try.prog ops Q rest (a.put o.dst v') w') : wpList Try.prog ops Q (o :: rest) a W := by
  obtain ⟨i0, hi, hz0, hz1, hz2⟩ := info_parts info_sl2
  obtain ⟨v', w', hrun, k1, k2⟩ := run_append_gw (P := Try.prog) W B 23 o.type 29 i0 (.slice none 0 0) 24 Try.underlying23 hi hz0 hz1 hz2 rfl v xs.length xs hown ⟨g, 0, none⟩ m c news hm (fun j u hj => by
    rw [Addr.add_lit, Nat.zero_add, cellOf hg, List.getElem?_toArray]; exact hj) (fun u hu => by obtain ⟨ao, n, c, rfl⟩ := h1 u hu; rfl) (by unfold maxLen; omega) (by omega) hB h0
  refine wpList_plain hgd fun K hK => ?_
  unfold Oper.wp execOp
  simp only [ho, resolve, invoke, builtin, Sem.run_bind, Sem.run_pure, Result.andThen_ok, List.map_toArray, List.map_cons, List.map_nil, hs, hx, hrun]
  refine hK _ _ (h v' w' ?_ k2)
  unfold RowL
  rw [List.length_append, hm]
  exact k1
/-- append of marks onto the row of marks. -/
theorem wpl_rowM (hgd : o.guard = none) (s x : Operand) (ho : o.op = .call { callee := .builtin .append, args := #[s, x], argTypes := #[29, 29] })
    (B : Nat) (v : Value) (xs news : List Int) (hs : a.eval s = v) (hown : OwnI W B v xs) (g m c : Nat) (hx : a.eval x = .slice (some ⟨g, 0, none⟩) m c) (hg : W.heap[g]? = some (.cells (news.map (Value.int .i64)).toArray 3 (0, 0))) (hm : news.length = m) (h0 : 0 < m) (hl : xs.length + m ≤ 1000000) (hB : B ≤ W.heap.size)
    (h : ∀ v' w', OwnI w' B v' (xs ++ news) → Gw W w' v v' → wpList Try.prog ops Q rest (a.put o.dst v') w') : wpList Try.prog ops Q (o :: rest) a W := by
  obtain ⟨i0, hi, hz0, hz1, hz2⟩ := info_parts Try.info_i64
  obtain ⟨v', w', hrun, k1, k2⟩ := run_append_gw (P := Try.prog) W B 29 o.type 3 i0 (.int .i64 0) 8 Try.underlying29 hi hz0 hz1 hz2 rfl v xs.length (xs.map (Value.int .i64)) hown ⟨g, 0, none⟩ m c (news.map (Value.int .i64)) (by simpa using hm) (fun j u hj => by
    rw [Addr.add_lit, Nat.zero_add, cellOf hg, List.getElem?_toArray]; exact hj) (one_all _ _) (by unfold maxLen; omega) (by omega) hB h0
  refine wpList_plain hgd fun K hK => ?_
  unfold Oper.wp execOp
  simp only [ho, resolve, invoke, builtin, Sem.run_bind, Sem.run_pure, Result.andThen_ok, List.map_toArray, List.map_cons, List.map_nil, hs, hx, hrun]
  refine hK _ _ (h v' w' ?_ k2)
  unfold OwnI
  rw [List.length_append, hm, List.map_append]
  exact k1
end
def Fx (F : Nat → Prop) (v : Value) : Nat → Prop := fun k => F k ∨ v.ownBlock = some k
theorem Av.symm {p e : Value} (h : Av p e) : Av e p := fun k hk hp => h k hp hk
section
variable {B : Nat} {w w' : World} {a : Az}
/-- A row that lies elsewhere stays. -/
theorem own_gw {B' size' n' : Nat} {e' : TypeId} {v v' y : Value} {ys : List Value} (g : Gw w w' v v') (h : w.ownsRow B' e' size' y n' ys) (ha : Av y v) : w'.ownsRow B' e' size' y n' ys := by
  rcases g with ⟨_, g⟩ | ⟨_, g⟩
  · exact own_kps h (Kps.grown (o := fun q => v.ownBlock = some q) g (fun q e _ => e)) (fun q hq => ha q hq)
  · exact own_ext h g
theorem av_typ {B1 B2 s1 s2 n1 n2 : Nat} {e1 e2 : TypeId} {v y : Value} {xs ys : List Value} (h : w.ownsRow B1 e1 s1 v n1 xs) (k : w.ownsRow B2 e2 s2 y n2 ys) (hne : e1 ≠ e2) : Av v y := fun q hq hy => by
  obtain ⟨cs, h1⟩ := own_cells h hq
  obtain ⟨ds, h2⟩ := own_cells k hy
  exact cells_ne h1 h2 hne rfl
theorem Gw.wid {v v' : Value} {B' size n' : Nat} {e : TypeId} {ys : List Value} (g : Gw w w' v v') (hy : YF F v) (hf : ∀ k, F k → k < w.heap.size) (h : w'.ownsRow B' e size v' n' ys) : Wid F (Fx F v') w w' := by
  refine ⟨fun q h => .inl h, fun q hq => ?_⟩
  have hsz : w.heap.size ≤ w'.heap.size := by
    rcases g with ⟨_, g⟩ | ⟨_, g⟩
    · exact g.size
    · exact g.size
  rcases hq with hq | hq
  · exact ⟨Nat.lt_of_lt_of_le (hf q hq) hsz, .inl hq⟩
  · refine ⟨(World.ownsRow.lt h q hq).2, ?_⟩
    rcases g with ⟨e, _⟩ | ⟨e, _⟩
    · exact .inl (hy q (e ▸ hq))
    · rw [e] at hq; cases hq; exact .inr (Nat.le_refl _)
/-- A row that is none of the banks' and of the loose lists' has grown. -/
theorem Co.push {B' n n' : Nat} {e : TypeId} {v v' : Value} {xs ys : List Value} (h : Co B F w a) (g : Gw w w' v v') (hy : YF F v) (hown : w.ownsRow B' e 1 v n xs) (hown' : w'.ownsRow B' e 1 v' n' ys) (he : e ≠ 70) (hl : ∀ x ∈ a.ls, Av x.1 v) : Co B (Fx F v') w' a := by
  have hw := g.wid hy h.fl hown'
  rcases g with ⟨e1, g⟩ | ⟨e1, g⟩
  · have hF : Fx F v' = F := funext fun k => propext ⟨fun hk => by
      rcases hk with hk | hk
      · exact hk
      · exact hy k (e1 ▸ hk), .inl⟩
    rw [hF]
    refine h.move (T := fun q => v.ownBlock = some q) (Kps.grown g (fun q e _ => e)) (fun q hq _ => .inl (hy q hq)) (fun q hq => ?_) (fun x hx q hxq hq => hl x hx q hxq hq)
    obtain ⟨cs, hc⟩ := own_cells hown hq
    obtain ⟨⟨c1, b1⟩, m1, l1, b2⟩ := h.bb.typ
    obtain ⟨⟨c3, b3⟩, m3, l3, b4⟩ := h.cc.typ
    obtain ⟨⟨c5, b5⟩, m5, l5, b6⟩ := h.dd.typ
    exact ⟨cells_ne hc b1 he, map_ne hc b2, cells_ne hc b3 he, map_ne hc b4, cells_ne hc b5 he, map_ne hc b6⟩
  · exact h.wid hw g
/-- A new list that may be written later. -/
theorem Co.loose (h : Co B F w a) (hb : Below w.heap.size w w') {v : Value} {z : List Int} (ho : OwnI w' w.heap.size v z) (hz : z.length ≤ 140100) : Co B (Fx F v) w' { a with ls := a.ls ++ [(v, z)] } := by
  have hw : Wid F (Fx F v) w w' := ⟨fun q h => .inl h, fun q hq => by
    rcases hq with hq | hq
    · exact ⟨Nat.lt_of_lt_of_le (h.fl q hq) hb.size, .inl hq⟩
    · exact ⟨(World.ownsRow.lt ho q hq).2, .inr (World.ownsRow.lt ho q hq).1⟩⟩
  have h2 := h.wid hw hb
  refine ⟨h2.bb, h2.cc, h2.dd, h2.gb, h2.gc, h2.n1, h2.sh, h2.s2, h2.sl, h2.ui, fun x hx => ?_, ?_, h2.ib, h2.lo, h2.sz⟩
  · rcases List.mem_append.1 hx with hx | hx
    · exact h2.li x hx
    · simp at hx; subst hx; exact ⟨ho.le h.sz, fun q hq => .inr hq, hz⟩
  · refine List.pairwise_append.2 ⟨h2.lp, by simp, fun x hx y hy => ?_⟩
    simp at hy
    subst hy
    intro q hq hv
    have := (World.ownsRow.lt (h.li x hx).1 q hq).2
    have := (World.ownsRow.lt ho q hv).1
    omega
/-- A list of want. -/
theorem Co.want (h : Co B F w a) (hb : Below w.heap.size w w') {v : Value} {z : List Int} (ho : OwnI w' w.heap.size v z) : Co B F w' { a with us := a.us ++ [(v, z)] } := by
  have h2 := h.ext hb
  refine ⟨h2.bb, h2.cc, h2.dd, h2.gb, h2.gc, h2.n1, h2.sh, h2.s2, h2.sl, fun x hx => ?_, h2.li, h2.lp, h2.ib, h2.lo, h2.sz⟩
  rcases List.mem_append.1 hx with hx | hx
  · exact h2.ui x hx
  · simp at hx; subst hx; exact ⟨ho.le h.sz, NF.new ho h.fl⟩
/-- What shown has told of c. -/
theorem Co.seen (h : Co B F w a) (hb : Below w.heap.size w w') {l ev : Value} {gs : List Rg} {es : List Int} (h1 : OwnG w' w.heap.size l gs ev) (h2 : OwnI w' w.heap.size ev es) : Co B F w' { a with lv2 := l, ev2 := ev, g2 := gs, e2 := es } := by
  have h3 := h.ext hb
  exact ⟨h3.bb, h3.cc, h3.dd, h3.gb, h3.gc, h3.n1, h3.sh, Shn.of h1 h2 h.fl h.sz, h3.sl, h3.ui, h3.li, h3.lp, h3.ib, h3.lo, h3.sz⟩
/-- A new block that stays. -/
theorem Co.keep (h : Co B F w a) (hb : Below w.heap.size w w') {g : Nat} {cs : Array Value} {T : TypeId} (hg : w.heap.size ≤ g) (hc : w'.heap[g]? = some (.cells cs T (0, 0))) : Co B F w' { a with ib := (g, cs, T) :: a.ib } := by
  have h3 := h.ext hb
  refine ⟨h3.bb, h3.cc, h3.dd, h3.gb, h3.gc, h3.n1, h3.sh, h3.s2, h3.sl, h3.ui, h3.li, h3.lp, fun x hx => ?_, h3.lo, h3.sz⟩
  rcases List.mem_cons.1 hx with rfl | hx
  · exact ⟨hc, fun hf => by have := h.fl g hf; omega⟩
  · exact h3.ib x hx
/-- c has been called. -/
theorem Co.called (h : Co B F w a) {M' : Nat} {t' : Bs} (hb : Bk F w' a.c a.cm M' t'.m t'.p) (k : Kb a.c a.cm w w') (ht : Good t') : Co B F w' { a with t := t', M := M' } ∧ Below B w w' := by
  obtain ⟨⟨c1, b1⟩, m1, l1, b2⟩ := h.bb.typ
  obtain ⟨⟨c3, b3⟩, m3, l3, b4⟩ := h.cc.typ
  obtain ⟨⟨c5, b5⟩, m5, l5, b6⟩ := h.dd.typ
  have hT : Sub F (fun q => q = a.c ∨ q = a.cm) w := fun q hq _ => by
    rcases hq with rfl | rfl
    · exact .inl h.cc.2.2.1.1
    · exact .inr ⟨_, _, b4⟩
  have hk : Kps (fun q => q = a.c ∨ q = a.cm) w w' := k
  refine ⟨⟨h.bb.kps hk (fun q hq hl => ⟨?_, ?_, (hT q hq hl).symm⟩), hb, h.dd.kps hk (fun q hq hl => ⟨?_, ?_, (hT q hq hl).symm⟩), h.gb, ht, h.n1, h.sh.move hk hT, h.s2.move hk hT, fun x hx => ⟨own_nf (h.sl x hx).1 hk hT (h.sl x hx).2.1, (h.sl x hx).2⟩, fun x hx => ⟨own_nf (h.ui x hx).1 hk hT (h.ui x hx).2, (h.ui x hx).2⟩, fun x hx => ⟨own_kps (h.li x hx).1 hk (fun q hq hTq => ?_), (h.li x hx).2⟩, h.lp, fun x hx => ⟨?_, (h.ib x hx).2⟩, h.lo, Nat.le_trans h.sz k.size⟩, Kb.low k h.lo.1 h.lo.2 h.sz⟩
  · rcases hq with rfl | rfl
    · exact Ne.symm h.n1.1
    · exact (map_ne b1 b4).symm
  · rcases hq with rfl | rfl
    · exact map_ne b3 b2
    · exact Ne.symm h.n1.2.2.1
  · rcases hq with rfl | rfl
    · exact Ne.symm h.n1.2.1
    · exact (map_ne b5 b4).symm
  · rcases hq with rfl | rfl
    · exact map_ne b3 b6
    · exact Ne.symm h.n1.2.2.2
  · obtain ⟨cs, hc⟩ := own_cells (h.li x hx).1 hq
    rcases hTq with e | e
    · exact cells_ne hc b3 (by decide) e
    · exact map_ne hc b4 e
  · obtain ⟨g1, g2⟩ := h.ib x hx
    refine (hk.same x.1 (Array.getElem?_eq_some_iff.1 g1).1 (fun hTx => ?_)).trans g1
    rcases hT x.1 hTx (Array.getElem?_eq_some_iff.1 g1).1 with hf | ⟨es, cl, hm⟩
    · exact g2 hf
    · rw [g1] at hm; cases hm
end
end Go.Proofs.Ytmldfjhfgaggpaa

/- RegisterApart: the rows; all of it together. -/
namespace Go.Proofs.Ytmldfjhfgaggpaa
open Go.RowKit
variable {F F' : Nat → Prop}

/-- The four rows: shelf, marks, quiet, want; and what they hold. -/
structure Rz where
  sv : Value
  mv : Value
  qv : Value
  uv : Value
  sx : List Value
  mx : List Int
  qx : List Value
  ux : List Value
structure Rw (B : Nat) (F : Nat → Prop) (w : World) (r : Rz) (ls : List (Value × List Int)) : Prop where
  so : RowL w B r.sv r.sx
  mo : OwnI w B r.mv r.mx
  qo : RowL w B r.qv r.qx
  uo : RowL w B r.uv r.ux
  sy : YF F r.sv
  my : YF F r.mv
  qy : YF F r.qv
  uy : YF F r.uv
  av : Av r.sv r.qv ∧ Av r.sv r.uv ∧ Av r.qv r.uv
  lm : ∀ x ∈ ls, Av x.1 r.mv
structure Ap (B : Nat) (F : Nat → Prop) (w : World) (a : Az) (r : Rz) : Prop where
  co : Co B F w a
  rw : Rw B F w r a.ls
section
variable {B : Nat} {w w' : World} {a : Az} {r : Rz}
theorem av_gw {B' size n : Nat} {e : TypeId} {v v' y : Value} {ys : List Value} (g : Gw w w' v v') (h : w.ownsRow B' e size y n ys) (ha : Av y v) : Av y v' := fun q hq hv => by
  rcases g with ⟨e1, _⟩ | ⟨e1, _⟩
  · exact ha q hq (e1 ▸ hv)
  · rw [e1] at hv
    cases hv
    have := (World.ownsRow.lt h _ hq).2
    omega
theorem Rw.ext {ls : List (Value × List Int)} (h : Rw B F w r ls) (k : Below w.heap.size w w') (hF : ∀ q, F q → F' q) : Rw B F' w' r ls :=
  ⟨h.so.ext k, h.mo.ext k, h.qo.ext k, h.uo.ext k, fun q hq => hF q (h.sy q hq), fun q hq => hF q (h.my q hq), fun q hq => hF q (h.qy q hq), fun q hq => hF q (h.uy q hq), h.av, h.lm⟩
theorem Ap.ext (h : Ap B F w a r) (k : Below w.heap.size w w') : Ap B F w' a r := ⟨h.co.ext k, h.rw.ext k (fun _ h => h)⟩
theorem Ap.pushQ (h : Ap B F w a r) {v' : Value} {news : List Value} (g : Gw w w' r.qv v') (ho : RowL w' B v' (r.qx ++ news)) : Ap B (Fx F v') w' a { r with qv := v', qx := r.qx ++ news } := by
  have hm := av_typ h.rw.mo h.rw.qo (by decide)
  refine ⟨h.co.push g h.rw.qy h.rw.qo ho (by decide) (fun x hx => av_typ (h.co.li x hx).1 h.rw.qo (by decide)), own_gw g h.rw.so h.rw.av.1, own_gw g h.rw.mo hm, ho, own_gw g h.rw.uo h.rw.av.2.2.symm, fun q hq => .inl (h.rw.sy q hq), fun q hq => .inl (h.rw.my q hq), fun q hq => .inr hq, fun q hq => .inl (h.rw.uy q hq), ⟨av_gw g h.rw.so h.rw.av.1, h.rw.av.2.1, (av_gw g h.rw.uo h.rw.av.2.2.symm).symm⟩, h.rw.lm⟩
theorem Ap.pushU (h : Ap B F w a r) {v' : Value} {news : List Value} (g : Gw w w' r.uv v') (ho : RowL w' B v' (r.ux ++ news)) : Ap B (Fx F v') w' a { r with uv := v', ux := r.ux ++ news } := by
  have hm := av_typ h.rw.mo h.rw.uo (by decide)
  refine ⟨h.co.push g h.rw.uy h.rw.uo ho (by decide) (fun x hx => av_typ (h.co.li x hx).1 h.rw.uo (by decide)), own_gw g h.rw.so h.rw.av.2.1, own_gw g h.rw.mo hm, own_gw g h.rw.qo h.rw.av.2.2, ho, fun q hq => .inl (h.rw.sy q hq), fun q hq => .inl (h.rw.my q hq), fun q hq => .inl (h.rw.qy q hq), fun q hq => .inr hq, ⟨h.rw.av.1, av_gw g h.rw.so h.rw.av.2.1, av_gw g h.rw.qo h.rw.av.2.2⟩, h.rw.lm⟩
theorem Ap.pushS (h : Ap B F w a r) {v' : Value} {news : List Value} (g : Gw w w' r.sv v') (ho : RowL w' B v' (r.sx ++ news)) : Ap B (Fx F v') w' a { r with sv := v', sx := r.sx ++ news } := by
  have hm := av_typ h.rw.mo h.rw.so (by decide)
  refine ⟨h.co.push g h.rw.sy h.rw.so ho (by decide) (fun x hx => av_typ (h.co.li x hx).1 h.rw.so (by decide)), ho, own_gw g h.rw.mo hm, own_gw g h.rw.qo h.rw.av.1.symm, own_gw g h.rw.uo h.rw.av.2.1.symm, fun q hq => .inr hq, fun q hq => .inl (h.rw.my q hq), fun q hq => .inl (h.rw.qy q hq), fun q hq => .inl (h.rw.uy q hq), ⟨(av_gw g h.rw.qo h.rw.av.1.symm).symm, (av_gw g h.rw.uo h.rw.av.2.1.symm).symm, h.rw.av.2.2⟩, h.rw.lm⟩
theorem Ap.pushM (h : Ap B F w a r) {v' : Value} {news : List Int} (g : Gw w w' r.mv v') (ho : OwnI w' B v' (r.mx ++ news)) : Ap B (Fx F v') w' a { r with mv := v', mx := r.mx ++ news } := by
  have hs := av_typ h.rw.so h.rw.mo (by decide)
  have hq := av_typ h.rw.qo h.rw.mo (by decide)
  have hu := av_typ h.rw.uo h.rw.mo (by decide)
  refine ⟨h.co.push g h.rw.my h.rw.mo ho (by decide) h.rw.lm, own_gw g h.rw.so hs, ho, own_gw g h.rw.qo hq, own_gw g h.rw.uo hu, fun q hq => .inl (h.rw.sy q hq), fun q hq => .inr hq, fun q hq => .inl (h.rw.qy q hq), fun q hq => .inl (h.rw.uy q hq), h.rw.av, fun x hx => av_gw g (h.co.li x hx).1 (h.rw.lm x hx)⟩
theorem Ap.loose (h : Ap B F w a r) (hb : Below w.heap.size w w') {v : Value} {z : List Int} (ho : OwnI w' w.heap.size v z) (hz : z.length ≤ 140100) : Ap B (Fx F v) w' { a with ls := a.ls ++ [(v, z)] } r := by
  have h2 := h.rw.ext (F' := Fx F v) hb (fun _ h => .inl h)
  refine ⟨h.co.loose hb ho hz, h2.so, h2.mo, h2.qo, h2.uo, h2.sy, h2.my, h2.qy, h2.uy, h2.av, fun x hx => ?_⟩
  rcases List.mem_append.1 hx with hx | hx
  · exact h.rw.lm x hx
  · simp at hx
    subst hx
    intro q hq hm
    have := (World.ownsRow.lt ho q hq).1
    have := (World.ownsRow.lt h.rw.mo q hm).2
    omega
theorem Ap.want (h : Ap B F w a r) (hb : Below w.heap.size w w') {v : Value} {z : List Int} (ho : OwnI w' w.heap.size v z) : Ap B F w' { a with us := a.us ++ [(v, z)] } r := ⟨h.co.want hb ho, h.rw.ext hb (fun _ h => h)⟩
theorem Ap.seen (h : Ap B F w a r) (hb : Below w.heap.size w w') {l ev : Value} {gs : List Rg} {es : List Int} (h1 : OwnG w' w.heap.size l gs ev) (h2 : OwnI w' w.heap.size ev es) : Ap B F w' { a with lv2 := l, ev2 := ev, g2 := gs, e2 := es } r := ⟨h.co.seen hb h1 h2, h.rw.ext hb (fun _ h => h)⟩
theorem Ap.keep (h : Ap B F w a r) (hb : Below w.heap.size w w') {g : Nat} {cs : Array Value} {T : TypeId} (hg : w.heap.size ≤ g) (hc : w'.heap[g]? = some (.cells cs T (0, 0))) : Ap B F w' { a with ib := (g, cs, T) :: a.ib } r := ⟨h.co.keep hb hg hc, h.rw.ext hb (fun _ h => h)⟩
theorem Ap.called (h : Ap B F w a r) {M' : Nat} {t' : Bs} (hb : Bk F w' a.c a.cm M' t'.m t'.p) (k : Kb a.c a.cm w w') (ht : Good t') : Ap B F w' { a with t := t', M := M' } r ∧ Below B w w' := by
  obtain ⟨h1, h2⟩ := h.co.called hb k ht
  obtain ⟨⟨c3, b3⟩, m3, l3, b4⟩ := h.co.cc.typ
  have ne : ∀ {B' size n : Nat} {e : TypeId} {v : Value} {xs : List Value}, w.ownsRow B' e size v n xs → e ≠ 70 → ∀ q, v.ownBlock = some q → ¬ (q = a.c ∨ q = a.cm) := fun ho he q hq hTq => by
    obtain ⟨cs, hc⟩ := own_cells ho hq
    rcases hTq with e | e
    · exact cells_ne hc b3 he e
    · exact map_ne hc b4 e
  exact ⟨⟨h1, own_kps h.rw.so k (ne h.rw.so (by decide)), own_kps h.rw.mo k (ne h.rw.mo (by decide)), own_kps h.rw.qo k (ne h.rw.qo (by decide)), own_kps h.rw.uo k (ne h.rw.uo (by decide)), h.rw.sy, h.rw.my, h.rw.qy, h.rw.uy, h.rw.av, h.rw.lm⟩, h2⟩
/-- A loose list has been written over and grown: it is loose no longer. -/
theorem Ap.grown (h : Ap B F w a r) {v : Value} {z : List Int} {pre post : List (Value × List Int)} (hls : a.ls = pre ++ (v, z) :: post) {n : Nat} {m : Int} (hn : n + 103 ≤ 1000000) {a1 a2 a3 : Value} (o0 : OwnI w' B v (List.replicate n m)) (o1 : OwnI w' B a1 (List.replicate (n + 1) m)) (o2 : OwnI w' B a2 (List.replicate (n + 2) m)) (o3 : OwnI w' B a3 (List.replicate (n + 103) m)) (m1 : Near w v a1) (m2 : Near w v a2) (m3 : Near w v a3) (k : Kps (fun q => v.ownBlock = some q) w w') :
    Ap B (fun q => F q ∧ v.ownBlock ≠ some q) w' { a with ls := pre ++ post, ss := a.ss ++ [(v, n, m), (a1, n + 1, m), (a2, n + 2, m), (a3, n + 103, m)] } r := by
  have hmem : (v, z) ∈ a.ls := by rw [hls]; simp
  obtain ⟨ov, yv, _⟩ := h.co.li _ hmem
  have hsub : ∀ x ∈ pre ++ post, x ∈ a.ls ∧ Av x.1 v := fun x hx => by
    have hp := h.co.lp
    rw [hls] at hp
    rw [List.pairwise_append] at hp
    obtain ⟨_, h2, h3⟩ := hp
    rw [List.pairwise_cons] at h2
    rcases List.mem_append.1 hx with hx | hx
    · exact ⟨by rw [hls]; simp [hx], h3 x hx (v, z) (by simp)⟩
    · exact ⟨by rw [hls]; simp [hx], (h2.1 x hx).symm⟩
  have hlp : (pre ++ post).Pairwise (fun x y => Av x.1 y.1) := by
    have hp := h.co.lp
    rw [hls] at hp
    refine hp.sublist ?_
    exact List.Sublist.append (List.Sublist.refl _) (List.sublist_cons_self _ _)
  have c0 : Co B F w { a with ls := pre ++ post } := ⟨h.co.bb, h.co.cc, h.co.dd, h.co.gb, h.co.gc, h.co.n1, h.co.sh, h.co.s2, h.co.sl, h.co.ui, fun x hx => h.co.li x (hsub x hx).1, hlp, h.co.ib, h.co.lo, h.co.sz⟩
  obtain ⟨⟨c1, b1⟩, q1, l1, b2⟩ := h.co.bb.typ
  obtain ⟨⟨c3, b3⟩, q3, l3, b4⟩ := h.co.cc.typ
  obtain ⟨⟨c5, b5⟩, q5, l5, b6⟩ := h.co.dd.typ
  have nb : ∀ q, v.ownBlock = some q → q ≠ a.b ∧ q ≠ a.bm ∧ q ≠ a.c ∧ q ≠ a.cm ∧ q ≠ a.d ∧ q ≠ a.dm := fun q hq => by
    obtain ⟨cs, hc⟩ := own_cells ov hq
    exact ⟨cells_ne hc b1 (by decide), map_ne hc b2, cells_ne hc b3 (by decide), map_ne hc b4, cells_ne hc b5 (by decide), map_ne hc b6⟩
  have c1' := c0.move k (fun q hq _ => .inl (yv q hq)) nb (fun x hx q hxq hq => (hsub x hx).2 q hxq hq)
  have hF : ∀ q, (F q ∧ v.ownBlock ≠ some q) → F q := fun q h => h.1
  have nf0 : NF (fun q => F q ∧ v.ownBlock ≠ some q) v := fun q hq hf => hf.2 hq
  have nfn : ∀ y, Near w v y → NF (fun q => F q ∧ v.ownBlock ≠ some q) y := fun y hy q hq hf => by
    rcases hy q hq with h1 | h1
    · exact hf.2 h1
    · have := h.co.fl q hf.1; omega
  have yf : ∀ {y : Value}, YF F y → Av y v → YF (fun q => F q ∧ v.ownBlock ≠ some q) y := fun hy ha q hq => ⟨hy q hq, ha q hq⟩
  have ts := av_typ h.rw.so ov (by decide)
  have tq := av_typ h.rw.qo ov (by decide)
  have tu := av_typ h.rw.uo ov (by decide)
  have tm := (h.rw.lm _ hmem).symm
  refine ⟨⟨c1'.bb.less ⟨c1'.bb.2.2.1.1, fun e => (nb _ e).1 rfl⟩ hF, c1'.cc.less ⟨c1'.cc.2.2.1.1, fun e => (nb _ e).2.2.1 rfl⟩ hF, c1'.dd.less ⟨c1'.dd.2.2.1.1, fun e => (nb _ e).2.2.2.2.1 rfl⟩ hF, c1'.gb, c1'.gc, c1'.n1, c1'.sh.less hF, c1'.s2.less hF, fun x hx => ?_, fun x hx => ⟨(c1'.ui x hx).1, fun q hq hf => (c1'.ui x hx).2 q hq hf.1⟩, fun x hx => ⟨(c1'.li x hx).1, yf (c1'.li x hx).2.1 (hsub x hx).2, (c1'.li x hx).2.2⟩, hlp, fun x hx => ⟨(c1'.ib x hx).1, fun hf => (c1'.ib x hx).2 hf.1⟩, c1'.lo, c1'.sz⟩, ⟨own_kps h.rw.so k (fun q hq e => ts q hq e), own_kps h.rw.mo k (fun q hq e => tm q hq e), own_kps h.rw.qo k (fun q hq e => tq q hq e), own_kps h.rw.uo k (fun q hq e => tu q hq e), yf h.rw.sy ts, yf h.rw.my tm, yf h.rw.qy tq, yf h.rw.uy tu, h.rw.av, fun x hx => h.rw.lm x (hsub x hx).1⟩⟩
  rcases List.mem_append.1 hx with hx | hx
  · exact ⟨(c1'.sl x hx).1, fun q hq hf => (c1'.sl x hx).2.1 q hq hf.1, (c1'.sl x hx).2.2⟩
  · simp only [List.mem_cons, List.not_mem_nil, or_false] at hx
    rcases hx with rfl | rfl | rfl | rfl
    · exact ⟨o0, nf0, by dsimp only; omega⟩
    · exact ⟨o1, nfn _ m1, by dsimp only; omega⟩
    · exact ⟨o2, nfn _ m2, by dsimp only; omega⟩
    · exact ⟨o3, nfn _ m3, hn⟩
end
end Go.Proofs.Ytmldfjhfgaggpaa

/- The law's handed. -/
namespace Go.Proofs.Ytmldfjhfgaggpaa
open Go.RowKit
variable {F : Nat → Prop}

/-- A list that is handed in: its atoms, and marks behind them. -/
def mk (t : List Int) (j : Nat) : Int := if j < t.length then t[j]?.getD 0 else 771 + (j : Int)
def Lst (w : World) (lb : Nat) (t : List Int) : Prop := ∃ cur : Array Value, w.heap[lb]? = some (.cells cur 3 (0, 0)) ∧ t.length + 100 ≤ cur.size ∧ ∀ j, j < t.length + 100 → cur[j]? = some (.int .i64 (mk t j))
/-- What a slice of a text's lies in is older than B. -/
def Old (B : Nat) (v : Value) : Prop := ∀ g off n c, v = .slice (some ⟨g, off, none⟩) n c → g < B
theorem Old.off {B : Nat} {v : Value} (h : Old B v) {x : Nat} (hx : B ≤ x) : Off v x := fun g off n c e => by have := h g off n c e; omega
theorem RdS.old {w : World} {v : Value} {t : List Int} (h : RdS w v t) (hn : t ≠ []) : Old w.heap.size v := fun g off n c e => by
  obtain ⟨g', off', c', fv, fb, _⟩ := h.last hn
  rw [e] at fv
  cases fv
  exact fb
theorem RdS.low {w w' : World} {B : Nat} {v : Value} {t : List Int} (h : RdS w v t) (ho : t ≠ [] → Old B v) (hb : Below B w w') : RdS w' v t := by
  obtain ⟨⟨ao, cap, hv, h1, h2, h3⟩, hs⟩ := h
  refine ⟨⟨ao, cap, hv, h1, h2, fun hn => ?_⟩, hs⟩
  obtain ⟨b, off, rfl, hbl, hc⟩ := h3 hn
  refine ⟨b, off, rfl, Nat.lt_of_lt_of_le hbl hb.size, fun i hi => ?_⟩
  have e := hb.block b (ho hn b off t.length cap hv)
  rw [← hc i hi]
  unfold World.cell?
  simp only [e]
section
variable {P : Program} {W : World} {ops : Array Oper} {rest : List Oper} {o : Oper} {a : Act} {Q : Exit → Act → World → Prop}
/-- copy of ints into a row. -/
theorem wpl_copyI (hgd : o.guard = none) (d s : Operand) (T : TypeId) (ho : o.op = .call { callee := .builtin .copy, args := #[d, s], argTypes := #[T, T] })
    (hinf : (P.info? 3).map (·.size) = some 1) (ht : P.underlying T = some (.slice 3)) (g n c : Nat) (hd : a.eval d = .slice (some ⟨g, 0, none⟩) n c) (u : Value) (t : List Int) (hs : a.eval s = u) (hu : RdS W u t) (hn : t.length ≤ n)
    (cur : Array Value) (hg : W.heap[g]? = some (.cells cur 3 (0, 0))) (hz : t.length ≤ cur.size)
    (h : ∀ w' (cur' : Array Value), w'.heap[g]? = some (.cells cur' 3 (0, 0)) → cur'.size = cur.size → (∀ j, j < t.length → cur'[j]? = some (.int .i64 (t[j]?.getD 0))) → W.grownBy w' (some g) → wpList P ops Q rest (a.put o.dst (goInt t.length)) w') : wpList P ops Q (o :: rest) a W := by
  by_cases hne : t = []
  · subst hne
    obtain ⟨ao, c', rfl, _⟩ := hu.len
    refine wpList_copy_nothing hgd d s T T ho 3 ht hinf _ _ _ _ _ _ hd hs (by simp) ?_
    exact h W cur hg rfl (fun j hj => by simp at hj) ⟨rfl, rfl, rfl, Nat.le_refl _, fun _ _ _ => rfl⟩
  · obtain ⟨b, off, c', rfl, _, _, _, hc⟩ := hu.last hne
    refine wpList_copy_own hgd d s T T ho 3 ht hinf g 0 n c ⟨b, off, none⟩ t.length c' hd hs cur 3 hg (t.map (Value.int .i64)) (by rw [List.length_map]; exact (Nat.min_eq_left hn).symm) (fun j v hj => ?_) (by simpa using hz) (one_all _ _) ?_
    · rw [Addr.add_lit]
      have hjl : j < t.length := by have := (List.getElem?_eq_some_iff.1 hj).1; simpa using this
      rw [hc j hjl]
      rw [List.getElem?_map] at hj
      obtain ⟨x, hx, rfl⟩ := Option.map_eq_some_iff.1 hj
      rw [hx]
      rfl
    · rw [List.length_map]
      refine h _ _ (setRow_heap W g _ _ _ _ hg) ?_ (fun j hj => ?_) ⟨rfl, rfl, rfl, by simp [World.setRow], fun k _ hk => setRow_other W g k _ (by intro e; subst e; exact hk rfl)⟩
      · simp; omega
      · rw [List.getElem?_toArray, List.take_zero, List.nil_append, List.getElem?_append_left (by simpa using hj)]
        simp [hj]
end
theorem mk_low (t : List Int) {j : Nat} (h : j < t.length) : mk t j = t[j]?.getD 0 := by unfold mk; rw [if_pos h]
theorem mk_high (t : List Int) {j : Nat} (h : t.length ≤ j) : mk t j = 771 + (j : Int) := by unfold mk; rw [if_neg (by omega)]
theorem row_new {w : World} {base x n : Nat} {xs : List Value} (h : w.ownsRow base 3 1 (.slice (some ⟨x, 0, none⟩) n n) n xs) : ∃ cur : Array Value, w.heap[x]? = some (.cells cur 3 (0, 0)) ∧ cur.size = n := by
  rcases h.2 with ⟨h, _⟩ | ⟨g', cap, cur, h, _, hb, _, _, hs, _⟩
  · cases h
  · cases h; exact ⟨cur, hb, by omega⟩
theorem eql_nil (w : World) (a : Option Addr) (l c : Nat) : (binOp .eql 29 (.slice a l c) (.slice none 0 0)).run Try.prog w = .ok (.bool a.isNone) w := by
  unfold binOp
  simp [run_equal_slice_nil w 29 3 a l c Try.underlying29]
/-- What handed answers. -/
def HnR (F0 : Nat → Prop) (B N : Nat) (w : World) (g : Nat) (z : Ws) (v : Value) (t : List Int) (e : Ending) (w' : World) : Prop := ∃ lb pv F, e = .returned (.slice (some ⟨lb, 0, none⟩) (t.length + 100) (t.length + 100)) ∧ Wd B F N w' g z pv ∧ F lb ∧ B ≤ lb ∧ Lst w' lb t ∧ RdS w' v t ∧ Below B w w' ∧ Kps F0 w w'
set_option maxRecDepth 100000 in
set_option maxHeartbeats 4000000 in
theorem handed_any {B N : Nat} (w : World) (g : Nat) (z : Ws) (pv : Value) (v : Value) (t : List Int) (hW : Wd B F N w g z pv) (hB : B ≤ w.heap.size) (hv : RdS w v t) (ho : t ≠ [] → Old B v) (hl : t.length * 8 ≤ 140737488351232) :
    Calls Try.prog 61 #[.pointer (some ⟨g, 0, none⟩), v] w (HnR F B N w g z v t) := by
  obtain ⟨i0, hi, hz0, hz1, hz2⟩ := info_parts Try.info_i64
  obtain ⟨ao, c, rfl, _⟩ := hv.len
  obtain ⟨n, hn⟩ : ∃ n : Nat, n = t.length + 100 := ⟨_, rfl⟩
  have hwr : IntKind.i64.wrap ((t.length : Int) + 100) = (n : Int) := by rw [IntKind.wrap_i64]; omega
  have HN := hidIt hn
  have HL := hidIt hl
  have HWD := hidIt hW
  have HV := hidIt hv
  have HO := hidIt ho
  have HB := hidIt hB
  clear hn hl hW hv ho hB
  go_enter Try.func61, Try.ntmps61
  go_upto_if 14 with (at_make; refine wpList_make_full _ rfl _ _ 29 rfl w.heap.size 3 i0 (.int .i64 0) 1 Try.underlying29 hi hz0 hz1 _ _ _ _ n rfl rfl rfl rfl (by have := HN.out; have := HL.out; rw [hz2]; omega) (by have := HN.out; have := HL.out; unfold maxLen; omega) (Nat.le_refl _) ?_; intro w1 hrow1 hg1)
  have HB1 := hidIt (show Below w.heap.size w w1 from ⟨hg1.os, hg1.tape, hg1.output, hg1.size, fun k hk => hg1.block k hk (by simp)⟩)
  have HR1 : Hid (∃ cur : Array Value, w1.heap[w.heap.size]? = some (.cells cur 3 (0, 0)) ∧ n ≤ cur.size) := by
    rcases hrow1.2 with ⟨h, _⟩ | ⟨g', cap, cur, h, _, hb, _, _, hs, _⟩
    · cases h
    · cases h; exact ⟨cur, hb, by omega⟩
  clear hrow1 hg1
  have hcell := (HWD.out.ext HB1.out).cells
  obtain ⟨_, _, hp4, hfz⟩ := hcell
  have hq := fun w a l c => eql_nil w a l c
  have HBB := hidIt (show Below B w w1 from HB1.out.mono HB.out)
  go_cut [6] from 14 to 30 (fun v6 wF => ∃ lb : Nat, v6 = .slice (some ⟨lb, 0, none⟩) n n ∧ Hid (∃ pv' F', Wd B F' N wF g z pv' ∧ F' lb ∧ B ≤ lb ∧ (∃ cur : Array Value, wF.heap[lb]? = some (.cells cur 3 (0, 0)) ∧ n ≤ cur.size) ∧ RdS wF (.slice ao t.length c) t ∧ Below B w wF ∧ Kps F w wF ∧ (F lb ∨ w.heap.size ≤ lb)))
  case first =>
    by_cases h3 : (n : Int) ≤ 300
    · rcases HWD.out.pen with rfl | ⟨pb, cur, rfl, hfp, hBp, hc, hz⟩
      · go_wp2_with (at_make; refine wpList_make_full _ rfl _ _ 29 rfl w1.heap.size 3 i0 (.int .i64 0) 1 Try.underlying29 hi hz0 hz1 _ _ _ _ 300 rfl rfl rfl rfl (by rw [hz2]; omega) (by unfold maxLen; omega) (Nat.le_refl _) ?_; intro w2 hrow2 hg2; have HB2 := hidIt (show Below w1.heap.size w1 w2 from ⟨hg2.os, hg2.tape, hg2.output, hg2.size, fun k hk => hg2.block k hk (by simp)⟩); obtain ⟨cur2, hc2, hz2'⟩ := row_new hrow2; have HC2 := hidIt hc2; have HZ2 := hidIt hz2'; have HW2 := hidIt ((HWD.out.ext HB1.out).avoid HB2.out (x := w1.heap.size) (Nat.le_refl _) (Array.getElem?_eq_some_iff.1 hc2).1); clear hrow2 hg2 hc2 hz2' hp4 hfz; obtain ⟨_, _, hp4, hfz⟩ := HW2.out.cells)
        go_meet
        case rel =>
          have hp := HW2.out.penned (.inr rfl) (by have := HB.out; have := HB1.out.size; omega) HC2.out HZ2.out
          have hg4 : B ≤ g := HWD.out.lo.1
          refine ⟨_, rfl, _, _, hp.1, .inr rfl, by have := HB.out; have := HB1.out.size; omega, ⟨cur2, ?_, by have := HZ2.out; omega⟩, ?_, ?_, ?_, .inr HB1.out.size⟩
          · exact (hp.2.block _ (Array.getElem?_eq_some_iff.1 HC2.out).1 (by simp; exact cells_ne HC2.out HW2.out.blk (by decide))).trans HC2.out
          · exact ((HV.out.ext HB1.out).ext HB2.out).other hp.2 (fun hn => (HO.out hn).off hg4)
          · exact (HBB.out.trans (HB2.out.mono (by have := HB.out; have := HB1.out.size; omega))).grown hp.2 (by have := HB.out; have := HB1.out.size; have := HB2.out.size; omega) (fun k hk => by cases hk; exact hg4)
          · exact (Kps.of_below F (ext_trans HB1.out HB2.out)).trans (Kps.grown (o := F) hp.2 (fun k hk _ => by cases hk; exact HWD.out.fg)) (fun _ _ h => h)
      · go_wp2_with fail
        go_meet
        case rel => exact ⟨pb, rfl, _, F, (HWD.out.ext HB1.out), hfp, hBp, ⟨cur, (HB1.out.block pb (Array.getElem?_eq_some_iff.1 hc).1).trans hc, by omega⟩, HV.out.ext HB1.out, HBB.out, Kps.of_below F HB1.out, .inl hfp⟩
    · go_wp2_with fail
      go_meet
      case rel => exact ⟨w.heap.size, rfl, pv, _, HWD.out.avoid HB1.out (Nat.le_refl _) (by obtain ⟨cur, h, _⟩ := HR1.out; exact (Array.getElem?_eq_some_iff.1 h).1), .inr rfl, HB.out, HR1.out, HV.out.ext HB1.out, HBB.out, Kps.of_below F HB1.out, .inr (Nat.le_refl _)⟩
  obtain ⟨lb, rfl, hcut2⟩ := hcut
  obtain ⟨pv', F', hw', hf', hB', ⟨cur, hc, hz⟩, hr', hbl', hkp', hlw'⟩ := hcut2.out
  have HKP := hidIt hkp'
  have HLW := hidIt hlw'
  have hnb : (n : Int) ≤ 100000000000000000 := by have := HN.out; have := HL.out; omega
  have HNN := hidIt (show t.length ≤ n ∧ t.length + 100 = n by have := HN.out; omega)
  have HW3 := hidIt hw'
  have HF := hidIt hf'
  have HBL := hidIt hB'
  have HC := hidIt hc
  have HZ := hidIt hz
  have HR3 := hidIt hr'
  have HB3 := hidIt hbl'
  have hsz : Hid ((Try.prog.info? 3).map (·.size) = some 1) := by unfold Hid; rw [hi]; simp [hz1]
  clear hcut2 hp4 hfz hw' hf' hB' hc hz hr' hbl' hkp' hlw' HR1 HB1 HBB hq hi hz0 hz1 hz2
  go_wp2_with (refine wpl_copyI rfl _ _ 29 rfl hsz.out Try.underlying29 lb n n rfl _ t rfl HR3.out HNN.out.1 cur HC.out (by have := HZ.out; have := HNN.out; omega) ?_; intro w5 cur5 h5 hz5 hcp hg5; have H5 := hidIt h5; have HZ5 := hidIt hz5; have HCP := hidIt hcp; have HG5 := hidIt hg5; clear h5 hz5 hcp hg5)
  go_loopw [7] (fun i wr => ∃ j : Nat, t.length ≤ j ∧ j ≤ n ∧ i = .int .i64 j ∧ Hid (∃ cu : Array Value, wr.heap[lb]? = some (.cells cu 3 (0, 0)) ∧ cu.size = cur.size ∧ (∀ k, k < j → cu[k]? = some (.int .i64 (mk t k))) ∧ wc.grownBy wr (some lb))) (fun i _ => n - (RowKit.intOf i).toNat)
  case atStart => exact ⟨t.length, Nat.le_refl _, HNN.out.1, rfl, cur5, H5.out, HZ5.out, fun k hk => by rw [HCP.out k hk, mk_low t hk], HG5.out⟩
  case round =>
    obtain ⟨j, hj0, hj, rfl, hcu⟩ := hrel
    have HCU := hidIt hcu.out
    clear hcu
    by_cases hlt : (j : Int) < (n : Int)
    · obtain ⟨cu, k1, k2, k3, k4⟩ := HCU.out
      have hj2 : j < cu.size := by have := HZ.out; omega
      obtain ⟨x, hx⟩ : ∃ x, cu[j]? = some x := ⟨_, Array.getElem?_eq_getElem hj2⟩
      have c1 : wr.cell? ⟨lb, j, none⟩ = some x := (cellOf k1 j).trans hx
      have fr := frozOf k1 j
      have hw7 : IntKind.i64.wrap (771 + (j : Int)) = 771 + (j : Int) := by have := HNN.out; have := HL.out; rw [IntKind.wrap_i64]; omega
      have HS := hidIt (set1 k1 j (.int .i64 (771 + (j : Int))))
      have K1 := hidIt k1
      have K2 := hidIt k2
      have K3 := hidIt k3
      have K4 := hidIt k4
      have HX := hidIt hj2
      clear k1 k2 k3 k4 hx hj2 HCU
      go_wp2_with fail
      go_roundw
      case rel =>
        refine ⟨j + 1, by omega, by omega, by go_num, _, HS.out.1, by simp [K2.out], fun k hk => ?_, grown_trans K4.out HS.out.2⟩
        by_cases e : k = j
        · subst e
          rw [Array.getElem?_setIfInBounds_self_of_lt HX.out, mk_high t hj0]
        · rw [Array.getElem?_setIfInBounds_ne (by omega)]
          exact K3.out k (by omega)
      case measure => simp [RowKit.intOf]; omega
    · have hje : j = n := by omega
      subst hje
      go_wp2_with fail
      go_ret
      obtain ⟨cu, k1, k2, k3, k4⟩ := HCU.out
      have hn := HN.out
      refine ⟨lb, pv', F', by rw [← hn]; rfl, HW3.out.row HF.out HC.out k1 k2 k4, HF.out, HBL.out, ⟨cu, k1, by have := HZ.out; omega, fun k hk => k3 k (by omega)⟩, HR3.out.other k4 (fun hx => (HO.out hx).off HBL.out), ?_, ?_⟩
      · exact HB3.out.grown k4 (by have := HB.out; have := HB3.out.size; omega) (fun k hk => by cases hk; exact HBL.out)
      · refine HKP.out.trans (Kps.grown (o := fun k => k = lb) k4 (fun k hk _ => by cases hk; rfl)) (fun k hk e => ?_)
        subst e
        rcases HLW.out with h | h
        · exact h
        · omega
end Go.Proofs.Ytmldfjhfgaggpaa
