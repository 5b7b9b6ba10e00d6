/- RegisterApart: how what lies there moves on. -/
import Derived.Test.YtnfaofldjoobgaaGAp1
namespace Go.Proofs.Ytnfaofldjoobgaa
open Go.RowKit
variable {F F' : Nat → Prop}

theorem info_sl2 : (Try.prog.info? 29).map (fun i => (i.zero, i.size, i.bytes)) = some (some (.slice none 0 0), 1, 24) := by kernel_rfl
/-- A row has grown: in its place, or into a new block. -/
def Gw (w w' : World) (v v' : Value) : Prop := (v'.ownBlock = v.ownBlock ∧ w.grownBy w' v.ownBlock) ∨ (v'.ownBlock = some w.heap.size ∧ Below w.heap.size w w')
theorem run_append_gw {P : Program} (w : World) (base : Nat) (t ty e : TypeId) (i : TypeInfo) (z : Value) (bytes : Nat) (ht : P.underlying t = some (.slice e)) (hi : P.info? e = some i) (hz : i.zero = some z)
    (hsize : i.size = 1) (hby : i.bytes = bytes) (hzs : z.cells.size = 1)
    (v : Value) (n : Nat) (xs : List Value) (hown : w.ownsRow base e 1 v n xs)
    (a : Addr) (m c : Nat) (news : List Value) (hl : news.length = m) (hnews : ∀ j u, news[j]? = some u → w.cell? (a.add j) = some u) (h1 : ∀ u ∈ news, u.oneCell' = true)
    (h63 : n + m ≤ maxLen) (hbytes : (n + m) * bytes ≤ 140737488355328) (hbase : base ≤ w.heap.size) (hm : 0 < m) :
    ∃ v' w', (Builtin.append_ #[t, t] ty #[v, .slice (some a) m c]).run P w = .ok v' w' ∧ w'.ownsRow base e 1 v' (n + m) (xs ++ news) ∧ Gw w w' v v' := by
  obtain ⟨v', w', hr, h2, h3, _⟩ := run_append_own (P := P) w base t ty e i z 1 bytes ht hi hz hsize hby hzs (by decide) v n xs hown a m c news (by omega) hnews h1 h63 hbytes hbase
  refine ⟨v', w', hr, h2, ?_⟩
  subst hby
  have hsmall : n + m ≤ 9223372036854775807 := by simp only [maxLen] at h63; omega
  have hbl : ∀ o, Below w.heap.size w (w.drew.alloc o) := fun o => (Below.refl _ _).drew.alloc (Nat.le_refl _) o
  rcases hown.2 with ⟨rfl, rfl⟩ | ⟨g, cap, cur, rfl, hbg, hg, hnc, hcm, hcs, htake⟩
  · have h := run_append_nil (P := P) w t ty e i z ht hi hz a m c news (by rw [hsize]; omega) hnews hm (by omega) (by simp only [Nat.zero_add] at hbytes; omega)
    rw [h] at hr
    cases hr
    exact .inr ⟨rfl, hbl _⟩
  · by_cases hroom : n + m ≤ cap
    · have hfit : n * i.size + news.length ≤ cur.size := by rw [hsize, hl, hcs]; omega
      have h := run_append_room (P := P) w t ty e i ht hi g n cap cur hg a m c news (by rw [hsize]; omega) hnews h1 hroom hfit
      rw [h] at hr
      cases hr
      exact .inl ⟨rfl, h3⟩
    · have holds : ∀ j u, xs[j]? = some u → w.cell? ((⟨g, 0, none⟩ : Addr).add j) = some u := hown.cells (g := g) rfl
      have h := run_append_grow (P := P) w t ty e i z ht hi hz ⟨g, 0, none⟩ n cap xs (by have := hown.1; rw [hsize]; omega) holds a m c news (by rw [hsize]; omega) hnews (by omega) (by omega) (growslice_fits (by omega) hbytes)
      rw [h] at hr
      cases hr
      exact .inr ⟨rfl, hbl _⟩
section
variable {W : World} {ops : Array Oper} {rest : List Oper} {o : Oper} {a : Act} {Q : Exit → Act → World → Prop}
/-- append of lists onto a row of lists. -/
theorem wpl_rowL (hgd : o.guard = none) (s x : Operand) (ho : o.op = .call { callee := .builtin .append, args := #[s, x], argTypes := #[23, 23] })
    (B : Nat) (v : Value) (xs news : List Value) (hs : a.eval s = v) (hown : RowL W B v xs) (g m c : Nat) (hx : a.eval x = .slice (some ⟨g, 0, none⟩) m c) (hg : W.heap[g]? = some (.cells news.toArray 29 (0, 0))) (hm : news.length = m) (h1 : ∀ u ∈ news, ∃ ao n c, u = .slice ao n c) (h0 : 0 < m) (hl : xs.length + m ≤ 1000000) (hB : B ≤ W.heap.size)
    (h : ∀ v' w', RowL w' B v' (xs ++ news) → Gw W w' v v' → wpList Try.prog ops Q rest (a.put o.dst v') w') : wpList Try.prog ops Q (o :: rest) a W := by
  obtain ⟨i0, hi, hz0, hz1, hz2⟩ := info_parts info_sl2
  obtain ⟨v', w', hrun, k1, k2⟩ := run_append_gw (P := Try.prog) W B 23 o.type 29 i0 (.slice none 0 0) 24 Try.underlying23 hi hz0 hz1 hz2 rfl v xs.length xs hown ⟨g, 0, none⟩ m c news hm (fun j u hj => by
    rw [Addr.add_lit, Nat.zero_add, cellOf hg, List.getElem?_toArray]; exact hj) (fun u hu => by obtain ⟨ao, n, c, rfl⟩ := h1 u hu; rfl) (by unfold maxLen; omega) (by omega) hB h0
  refine wpList_plain hgd fun K hK => ?_
  unfold Oper.wp execOp
  simp only [ho, resolve, invoke, builtin, Sem.run_bind, Sem.run_pure, Result.andThen_ok, List.map_toArray, List.map_cons, List.map_nil, hs, hx, hrun]
  refine hK _ _ (h v' w' ?_ k2)
  unfold RowL
  rw [List.length_append, hm]
  exact k1
/-- append of marks onto the row of marks. -/
theorem wpl_rowM (hgd : o.guard = none) (s x : Operand) (ho : o.op = .call { callee := .builtin .append, args := #[s, x], argTypes := #[29, 29] })
    (B : Nat) (v : Value) (xs news : List Int) (hs : a.eval s = v) (hown : OwnI W B v xs) (g m c : Nat) (hx : a.eval x = .slice (some ⟨g, 0, none⟩) m c) (hg : W.heap[g]? = some (.cells (news.map (Value.int .i64)).toArray 3 (0, 0))) (hm : news.length = m) (h0 : 0 < m) (hl : xs.length + m ≤ 1000000) (hB : B ≤ W.heap.size)
    (h : ∀ v' w', OwnI w' B v' (xs ++ news) → Gw W w' v v' → wpList Try.prog ops Q rest (a.put o.dst v') w') : wpList Try.prog ops Q (o :: rest) a W := by
  obtain ⟨i0, hi, hz0, hz1, hz2⟩ := info_parts Try.info_i64
  obtain ⟨v', w', hrun, k1, k2⟩ := run_append_gw (P := Try.prog) W B 29 o.type 3 i0 (.int .i64 0) 8 Try.underlying29 hi hz0 hz1 hz2 rfl v xs.length (xs.map (Value.int .i64)) hown ⟨g, 0, none⟩ m c (news.map (Value.int .i64)) (by simpa using hm) (fun j u hj => by
    rw [Addr.add_lit, Nat.zero_add, cellOf hg, List.getElem?_toArray]; exact hj) (one_all _ _) (by unfold maxLen; omega) (by omega) hB h0
  refine wpList_plain hgd fun K hK => ?_
  unfold Oper.wp execOp
  simp only [ho, resolve, invoke, builtin, Sem.run_bind, Sem.run_pure, Result.andThen_ok, List.map_toArray, List.map_cons, List.map_nil, hs, hx, hrun]
  refine hK _ _ (h v' w' ?_ k2)
  unfold OwnI
  rw [List.length_append, hm, List.map_append]
  exact k1
end
def Fx (F : Nat → Prop) (v : Value) : Nat → Prop := fun k => F k ∨ v.ownBlock = some k
theorem Av.symm {p e : Value} (h : Av p e) : Av e p := fun k hk hp => h k hp hk
section
variable {B : Nat} {w w' : World} {a : Az}
/-- A row that lies elsewhere stays. -/
theorem own_gw {B' size' n' : Nat} {e' : TypeId} {v v' y : Value} {ys : List Value} (g : Gw w w' v v') (h : w.ownsRow B' e' size' y n' ys) (ha : Av y v) : w'.ownsRow B' e' size' y n' ys := by
  rcases g with ⟨_, g⟩ | ⟨_, g⟩
  · exact own_kps h (Kps.grown (o := fun q => v.ownBlock = some q) g (fun q e _ => e)) (fun q hq => ha q hq)
  · exact own_ext h g
theorem av_typ {B1 B2 s1 s2 n1 n2 : Nat} {e1 e2 : TypeId} {v y : Value} {xs ys : List Value} (h : w.ownsRow B1 e1 s1 v n1 xs) (k : w.ownsRow B2 e2 s2 y n2 ys) (hne : e1 ≠ e2) : Av v y := fun q hq hy => by
  obtain ⟨cs, h1⟩ := own_cells h hq
  obtain ⟨ds, h2⟩ := own_cells k hy
  exact cells_ne h1 h2 hne rfl
theorem Gw.wid {v v' : Value} {B' size n' : Nat} {e : TypeId} {ys : List Value} (g : Gw w w' v v') (hy : YF F v) (hf : ∀ k, F k → k < w.heap.size) (h : w'.ownsRow B' e size v' n' ys) : Wid F (Fx F v') w w' := by
  refine ⟨fun q h => .inl h, fun q hq => ?_⟩
  have hsz : w.heap.size ≤ w'.heap.size := by
    rcases g with ⟨_, g⟩ | ⟨_, g⟩
    · exact g.size
    · exact g.size
  rcases hq with hq | hq
  · exact ⟨Nat.lt_of_lt_of_le (hf q hq) hsz, .inl hq⟩
  · refine ⟨(World.ownsRow.lt h q hq).2, ?_⟩
    rcases g with ⟨e, _⟩ | ⟨e, _⟩
    · exact .inl (hy q (e ▸ hq))
    · rw [e] at hq; cases hq; exact .inr (Nat.le_refl _)
/-- A row that is none of the banks' and of the loose lists' has grown. -/
theorem Co.push {B' n n' : Nat} {e : TypeId} {v v' : Value} {xs ys : List Value} (h : Co B F w a) (g : Gw w w' v v') (hy : YF F v) (hown : w.ownsRow B' e 1 v n xs) (hown' : w'.ownsRow B' e 1 v' n' ys) (he : e ≠ 70) (hl : ∀ x ∈ a.ls, Av x.1 v) : Co B (Fx F v') w' a := by
  have hw := g.wid hy h.fl hown'
  rcases g with ⟨e1, g⟩ | ⟨e1, g⟩
  · have hF : Fx F v' = F := funext fun k => propext ⟨fun hk => by
      rcases hk with hk | hk
      · exact hk
      · exact hy k (e1 ▸ hk), .inl⟩
    rw [hF]
    refine h.move (T := fun q => v.ownBlock = some q) (Kps.grown g (fun q e _ => e)) (fun q hq _ => .inl (hy q hq)) (fun q hq => ?_) (fun x hx q hxq hq => hl x hx q hxq hq)
    obtain ⟨cs, hc⟩ := own_cells hown hq
    obtain ⟨⟨c1, b1⟩, m1, l1, b2⟩ := h.bb.typ
    obtain ⟨⟨c3, b3⟩, m3, l3, b4⟩ := h.cc.typ
    obtain ⟨⟨c5, b5⟩, m5, l5, b6⟩ := h.dd.typ
    exact ⟨cells_ne hc b1 he, map_ne hc b2, cells_ne hc b3 he, map_ne hc b4, cells_ne hc b5 he, map_ne hc b6⟩
  · exact h.wid hw g
/-- A new list that may be written later. -/
theorem Co.loose (h : Co B F w a) (hb : Below w.heap.size w w') {v : Value} {z : List Int} (ho : OwnI w' w.heap.size v z) (hz : z.length ≤ 140100) : Co B (Fx F v) w' { a with ls := a.ls ++ [(v, z)] } := by
  have hw : Wid F (Fx F v) w w' := ⟨fun q h => .inl h, fun q hq => by
    rcases hq with hq | hq
    · exact ⟨Nat.lt_of_lt_of_le (h.fl q hq) hb.size, .inl hq⟩
    · exact ⟨(World.ownsRow.lt ho q hq).2, .inr (World.ownsRow.lt ho q hq).1⟩⟩
  have h2 := h.wid hw hb
  refine ⟨h2.bb, h2.cc, h2.dd, h2.gb, h2.gc, h2.n1, h2.sh, h2.s2, h2.sl, h2.ui, fun x hx => ?_, ?_, h2.ib, h2.lo, h2.sz⟩
  · rcases List.mem_append.1 hx with hx | hx
    · exact h2.li x hx
    · simp at hx; subst hx; exact ⟨ho.le h.sz, fun q hq => .inr hq, hz⟩
  · refine List.pairwise_append.2 ⟨h2.lp, by simp, fun x hx y hy => ?_⟩
    simp at hy
    subst hy
    intro q hq hv
    have := (World.ownsRow.lt (h.li x hx).1 q hq).2
    have := (World.ownsRow.lt ho q hv).1
    omega
/-- A list of want. -/
theorem Co.want (h : Co B F w a) (hb : Below w.heap.size w w') {v : Value} {z : List Int} (ho : OwnI w' w.heap.size v z) : Co B F w' { a with us := a.us ++ [(v, z)] } := by
  have h2 := h.ext hb
  refine ⟨h2.bb, h2.cc, h2.dd, h2.gb, h2.gc, h2.n1, h2.sh, h2.s2, h2.sl, fun x hx => ?_, h2.li, h2.lp, h2.ib, h2.lo, h2.sz⟩
  rcases List.mem_append.1 hx with hx | hx
  · exact h2.ui x hx
  · simp at hx; subst hx; exact ⟨ho.le h.sz, NF.new ho h.fl⟩
/-- What shown has told of c. -/
theorem Co.seen (h : Co B F w a) (hb : Below w.heap.size w w') {l ev : Value} {gs : List Rg} {es : List Int} (h1 : OwnG w' w.heap.size l gs ev) (h2 : OwnI w' w.heap.size ev es) : Co B F w' { a with lv2 := l, ev2 := ev, g2 := gs, e2 := es } := by
  have h3 := h.ext hb
  exact ⟨h3.bb, h3.cc, h3.dd, h3.gb, h3.gc, h3.n1, h3.sh, Shn.of h1 h2 h.fl h.sz, h3.sl, h3.ui, h3.li, h3.lp, h3.ib, h3.lo, h3.sz⟩
/-- A new block that stays. -/
theorem Co.keep (h : Co B F w a) (hb : Below w.heap.size w w') {g : Nat} {cs : Array Value} {T : TypeId} (hg : w.heap.size ≤ g) (hc : w'.heap[g]? = some (.cells cs T (0, 0))) : Co B F w' { a with ib := (g, cs, T) :: a.ib } := by
  have h3 := h.ext hb
  refine ⟨h3.bb, h3.cc, h3.dd, h3.gb, h3.gc, h3.n1, h3.sh, h3.s2, h3.sl, h3.ui, h3.li, h3.lp, fun x hx => ?_, h3.lo, h3.sz⟩
  rcases List.mem_cons.1 hx with rfl | hx
  · exact ⟨hc, fun hf => by have := h.fl g hf; omega⟩
  · exact h3.ib x hx
/-- c has been called. -/
theorem Co.called (h : Co B F w a) {M' : Nat} {t' : Bs} (hb : Bk F w' a.c a.cm M' t'.m t'.p) (k : Kb a.c a.cm w w') (ht : Good t') : Co B F w' { a with t := t', M := M' } ∧ Below B w w' := by
  obtain ⟨⟨c1, b1⟩, m1, l1, b2⟩ := h.bb.typ
  obtain ⟨⟨c3, b3⟩, m3, l3, b4⟩ := h.cc.typ
  obtain ⟨⟨c5, b5⟩, m5, l5, b6⟩ := h.dd.typ
  have hT : Sub F (fun q => q = a.c ∨ q = a.cm) w := fun q hq _ => by
    rcases hq with rfl | rfl
    · exact .inl h.cc.2.2.1.1
    · exact .inr ⟨_, _, b4⟩
  have hk : Kps (fun q => q = a.c ∨ q = a.cm) w w' := k
  refine ⟨⟨h.bb.kps hk (fun q hq hl => ⟨?_, ?_, (hT q hq hl).symm⟩), hb, h.dd.kps hk (fun q hq hl => ⟨?_, ?_, (hT q hq hl).symm⟩), h.gb, ht, h.n1, h.sh.move hk hT, h.s2.move hk hT, fun x hx => ⟨own_nf (h.sl x hx).1 hk hT (h.sl x hx).2.1, (h.sl x hx).2⟩, fun x hx => ⟨own_nf (h.ui x hx).1 hk hT (h.ui x hx).2, (h.ui x hx).2⟩, fun x hx => ⟨own_kps (h.li x hx).1 hk (fun q hq hTq => ?_), (h.li x hx).2⟩, h.lp, fun x hx => ⟨?_, (h.ib x hx).2⟩, h.lo, Nat.le_trans h.sz k.size⟩, Kb.low k h.lo.1 h.lo.2 h.sz⟩
  · rcases hq with rfl | rfl
    · exact Ne.symm h.n1.1
    · exact (map_ne b1 b4).symm
  · rcases hq with rfl | rfl
    · exact map_ne b3 b2
    · exact Ne.symm h.n1.2.2.1
  · rcases hq with rfl | rfl
    · exact Ne.symm h.n1.2.1
    · exact (map_ne b5 b4).symm
  · rcases hq with rfl | rfl
    · exact map_ne b3 b6
    · exact Ne.symm h.n1.2.2.2
  · obtain ⟨cs, hc⟩ := own_cells (h.li x hx).1 hq
    rcases hTq with e | e
    · exact cells_ne hc b3 (by decide) e
    · exact map_ne hc b4 e
  · obtain ⟨g1, g2⟩ := h.ib x hx
    refine (hk.same x.1 (Array.getElem?_eq_some_iff.1 g1).1 (fun hTx => ?_)).trans g1
    rcases hT x.1 hTx (Array.getElem?_eq_some_iff.1 g1).1 with hf | ⟨es, cl, hm⟩
    · exact g2 hf
    · rw [g1] at hm; cases hm
end
end Go.Proofs.Ytnfaofldjoobgaa
