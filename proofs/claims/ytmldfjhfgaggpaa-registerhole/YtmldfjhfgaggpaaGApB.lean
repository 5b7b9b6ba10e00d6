/- append onto a slice of the call's own: where the result lies: in the old block, or in the newest one. -/
import Derived.Test.YtmldfjhfgaggpaaGBank
namespace Go.Proofs.Ytmldfjhfgaggpaa
open Go.RowKit
section
variable {P : Program} (w : World)

theorem run_append_blk (base : Nat) (t ty e : TypeId) (i : TypeInfo) (z : Value) (size bytes : Nat) (ht : P.underlying t = some (.slice e)) (hi : P.info? e = some i) (hz : i.zero = some z)
    (hsize : i.size = size) (hby : i.bytes = bytes) (hzs : z.cells.size = size) (hsz : 0 < size)
    (v : Value) (n : Nat) (xs : List Value) (hown : w.ownsRow base e size v n xs)
    (a : Addr) (m c : Nat) (news : List Value) (hl : news.length = m * size) (hnews : ∀ j u, news[j]? = some u → w.cell? (a.add j) = some u) (h1 : ∀ u ∈ news, u.oneCell' = true)
    (h63 : n + m ≤ maxLen) (hbytes : (n + m) * bytes ≤ 140737488355328) (hbase : base ≤ w.heap.size) (hm : v = .slice none 0 0 → 0 < m) :
    ∃ v' w', (Builtin.append_ #[t, t] ty #[v, .slice (some a) m c]).run P w = .ok v' w' ∧ w'.ownsRow base e size v' (n + m) (xs ++ news) ∧ w.grownBy w' v.ownBlock ∧
      (v'.ownBlock = v.ownBlock ∨ v'.ownBlock = some w.heap.size) := by
  obtain ⟨v', w', hr, h2, h3, _⟩ := run_append_own (P := P) w base t ty e i z size bytes ht hi hz hsize hby hzs hsz v n xs hown a m c news hl hnews h1 h63 hbytes hbase
  refine ⟨v', w', hr, h2, h3, ?_⟩
  subst hsize
  subst hby
  have hsmall : n + m ≤ 9223372036854775807 := by simp only [maxLen] at h63; omega
  rcases hown.2 with ⟨rfl, rfl⟩ | ⟨g, cap, cur, rfl, hbg, hg, hnc, hcm, hcs, htake⟩
  · have h := run_append_nil (P := P) w t ty e i z ht hi hz a m c news hl hnews (hm rfl) (by omega) (by simp only [Nat.zero_add] at hbytes; omega)
    rw [h] at hr
    cases hr
    exact .inr rfl
  · by_cases hroom : n + m ≤ cap
    · have hfit : n * i.size + news.length ≤ cur.size := by rw [hl, hcs, ← Nat.add_mul]; exact Nat.mul_le_mul_right _ hroom
      have h := run_append_room (P := P) w t ty e i ht hi g n cap cur hg a m c news hl hnews h1 hroom hfit
      rw [h] at hr
      cases hr
      exact .inl rfl
    · have holds : ∀ j u, xs[j]? = some u → w.cell? ((⟨g, 0, none⟩ : Addr).add j) = some u := hown.cells (g := g) rfl
      have h := run_append_grow (P := P) w t ty e i z ht hi hz ⟨g, 0, none⟩ n cap xs hown.1 holds a m c news hl hnews (by omega) (by omega) (growslice_fits (by omega) hbytes)
      rw [h] at hr
      cases hr
      exact .inr rfl

theorem wpList_append_blk {ops : Array Oper} {rest : List Oper} {o : Oper} {a : Act} {Q : Exit → Act → World → Prop} (hgd : o.guard = none) (s x : Operand) (t : TypeId)
    (ho : o.op = .call { callee := .builtin .append, args := #[s, x], argTypes := #[t, t] })
    (base : Nat) (e : TypeId) (i : TypeInfo) (z : Value) (size bytes : Nat) (ht : P.underlying t = some (.slice e)) (hi : P.info? e = some i) (hz : i.zero = some z)
    (hsize : i.size = size) (hby : i.bytes = bytes) (hzs : z.cells.size = size) (hsz : 0 < size)
    (v : Value) (n : Nat) (xs : List Value) (hs : a.eval s = v) (hown : w.ownsRow base e size v n xs)
    (ad : Addr) (m c : Nat) (news : List Value) (hx : a.eval x = .slice (some ad) m c) (hl : news.length = m * size) (hnews : ∀ j u, news[j]? = some u → w.cell? (ad.add j) = some u) (h1 : ∀ u ∈ news, u.oneCell' = true)
    (h63 : n + m ≤ maxLen) (hbytes : (n + m) * bytes ≤ 140737488355328) (hbase : base ≤ w.heap.size) (hm : v = .slice none 0 0 → 0 < m)
    (h : ∀ v' w', w'.ownsRow base e size v' (n + m) (xs ++ news) → w.grownBy w' v.ownBlock → (v'.ownBlock = v.ownBlock ∨ v'.ownBlock = some w.heap.size) → wpList P ops Q rest (a.put o.dst v') w') : wpList P ops Q (o :: rest) a w :=
  wpList_plain hgd fun K hK => by
    obtain ⟨v', w', hr, h2, h3, h4⟩ := run_append_blk (P := P) w base t o.type e i z size bytes ht hi hz hsize hby hzs hsz v n xs hown ad m c news hl hnews h1 h63 hbytes hbase hm
    unfold Oper.wp execOp
    simp only [ho, resolve, invoke, builtin, Sem.run_bind, Sem.run_pure, Result.andThen_ok, List.map_toArray, List.map_cons, List.map_nil, hs, hx, hr]
    exact hK _ _ (h v' w' h2 h3 h4)
end
/-- The blocks that a bank's texts avoid: its own, and a row's. -/
def FL (b : Nat) (l : Value) : Nat → Prop := fun q => q = b ∨ l.ownBlock = some q
theorem Bk.grow2 {F F' : Nat → Prop} {w w' : World} {b bm N : Nat} {m : Int → Option Rg} {p : Int} (h : Bk F w b bm N m p) {row : Option Nat} (hg : w.grownBy w' row) (hr : ∀ k, row = some k → F k ∧ k ≠ b ∧ k ≠ bm) (h1 : F' b) (h2 : ∀ q, F' q → q < w'.heap.size ∧ (F q ∨ w.heap.size ≤ q)) : Bk F' w' b bm N m p := by
  obtain ⟨b1, b2, b3, D', b4, b5⟩ := h.grow hg hr
  obtain ⟨_, _, _, D, a4, a5⟩ := id h
  have hD : D' = D := by
    obtain ⟨es, cl, x1, _, _, x2⟩ := b4
    obtain ⟨es', cl', y1, _, _, y2⟩ := a4
    rw [hg.block bm h.lt.2.1 (fun e => (hr bm e.symm).2.2 rfl), y1] at x1
    cases x1
    rw [x2, y2]
  subst hD
  refine ⟨b1, b2, ⟨h1, fun q hq => (h2 q hq).1⟩, D', b4, fun k hk => ?_⟩
  have e := b5 k hk
  have f := a5 k hk
  cases hm : m k with
  | none => rw [hm] at e; exact e
  | some r =>
    rw [hm] at e f
    obtain ⟨e1, u, e2, _, e4⟩ := e
    obtain ⟨_, u', f2, ⟨ps, f3, f4⟩, _⟩ := f
    rw [e2] at f2
    cases f2
    exact ⟨e1, u, e2, ⟨ps, Chn.stay hg.size (fun g hlt hf _ => hg.block g hlt (fun e => hf (hr g e.symm).1)) (fun q hq => (h2 q hq).2) _ _ f3, f4⟩, e4⟩
/-- A row of the call's own has grown by append. -/
theorem Bk.push {w w' : World} {base e size n n' b bm N : Nat} {xs xs' : List Value} {m : Int → Option Rg} {p : Int} {v v' : Value} (h : Bk (FL b v) w b bm N m p) (hown : w.ownsRow base e size v n xs) (hown' : w'.ownsRow base e size v' n' xs') (he : e ≠ 70) (hg : w.grownBy w' v.ownBlock) (hv : v'.ownBlock = v.ownBlock ∨ v'.ownBlock = some w.heap.size) : Bk (FL b v') w' b bm N m p := by
  have hne : ∀ k, v.ownBlock = some k → k ≠ b ∧ k ≠ bm := fun k hk => by
    rcases hown.2 with ⟨rfl, _⟩ | ⟨g, cap, cur, rfl, _, hgg, _⟩
    · cases hk
    · cases hk
      refine ⟨fun e1 => ?_, fun e1 => ?_⟩
      · subst e1
        rw [h.1] at hgg
        cases hgg
        exact he rfl
      · subst e1
        obtain ⟨_, _, _, _, ⟨_, _, hm, _⟩, _⟩ := h
        rw [hm] at hgg
        cases hgg
  refine h.grow2 hg (fun k hk => ⟨.inr hk, hne k hk⟩) (.inl rfl) (fun q hq => ?_)
  rcases hq with rfl | hq
  · exact ⟨Nat.lt_of_lt_of_le h.lt.1 hg.size, .inl (.inl rfl)⟩
  · refine ⟨(World.ownsRow.lt hown' q hq).2, ?_⟩
    rcases hv with hv | hv
    · exact .inl (.inr (hv ▸ hq))
    · rw [hv] at hq
      cases hq
      exact .inr (Nat.le_refl _)
end Go.Proofs.Ytmldfjhfgaggpaa
