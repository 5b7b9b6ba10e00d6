/- A step is counted: the plan is looked up, and what was found is taken out of it. -/
import Derived.Test.YtaoaihjiieandaaDMeet
namespace Go.Proofs.Ytaoaihjiieandaa
open Go.RowKit

theorem zero_fault (w : World) : (zeroValue 62).run Try.prog w = .ok (.agg #[.int .i64 0, .int .i64 0, .int .i64 0, .int .i64 0, .slice none 0 0]) w := by kernel_rfl
theorem atKey_held {D : DataW Value} {k : Lit} {z : DataW Value} (h : Maps.has D k = true) (z' : DataW Value) : D.atKey k z = D.atKey k z' := by
  cases D <;> try (cases h; done)
  rename_i es
  obtain ⟨p, hp, hpk⟩ := List.any_eq_true.1 h
  have hs : (es.find? (fun p => p.1.sameKey k)).isSome = true := List.find?_isSome.2 ⟨p, hp, hpk⟩
  obtain ⟨x, hx⟩ := Option.isSome_iff_exists.1 hs
  simp [DataW.atKey, hx]
theorem PlanM.look {F : Nat → Prop} {w : World} {mp : Option Nat} {N : Nat} {pl : Int → Option Ft} (h : PlanM F w mp N pl) {k : Int} (hk : In64 k) :
    ∃ v, (Instr.lookup 86 (.map mp) (.int .i64 k) false).run Try.prog w = .ok v w ∧ FtV F w (pl k) v := by
  cases mp with
  | none =>
    refine ⟨_, ?_, by rw [h k]; exact rfl⟩
    kernel_rfl
  | some b =>
    obtain ⟨D, hown, he⟩ := h
    have hent := he k hk
    obtain ⟨v, ps, hrun, hv⟩ := World.ownsMap.lookup hown lawI Try.underlying86 (zero_fault w) (zd := .held (.agg #[.int .i64 0, .int .i64 0, .int .i64 0, .int .i64 0, .slice none 0 0])) (zp := []) rfl (key_of hk)
    refine ⟨v, hrun, ?_⟩
    simp only [heldR, Option.some.injEq, Prod.mk.injEq] at hv
    cases hp : pl k with
    | none =>
      rw [hp] at hent
      have h2 : Maps.has D (.int .i64 k) = false := hent
      rw [Maps.atKey_of_not_has h2] at hv
      cases hv.1
      rfl
    | some f =>
      rw [hp] at hent
      obtain ⟨h1, h2, h3, u, h4, h5, h6⟩ := hent
      rw [atKey_held h1 .nil, h4] at hv
      cases hv.1
      exact ⟨k, u, rfl, h2, h3, h5, h6⟩
theorem PlanM.drop {F : Nat → Prop} {w : World} {mp : Option Nat} {N : Nat} {pl : Int → Option Ft} (h : PlanM F w mp N pl) {k : Int} (hk : In64 k) (ty : TypeId) :
    ∃ w', (Builtin.delete_ #[86, 3] ty #[.map mp, .int .i64 k]).run Try.prog w = .ok (.tuple #[]) w' ∧ PlanM F w' mp N (fun j => if j = k then none else pl j) ∧ w.grownBy w' mp := by
  cases mp with
  | none => exact ⟨w, by kernel_rfl, fun j => by by_cases e : j = k <;> simp [e, h j], ⟨rfl, rfl, rfl, Nat.le_refl _, fun _ _ _ => rfl⟩⟩
  | some b =>
    obtain ⟨D, hown, he⟩ := h
    obtain ⟨w', hrun, hown', ht⟩ := World.ownsMap.drop hown lawI Try.underlying86 (key_of hk) ty
    have hg := ht.grown
    obtain ⟨es, cl, hm, _⟩ := hown
    refine ⟨w', hrun, ⟨_, hown', fun j hj => ?_⟩, hg⟩
    by_cases e : j = k
    · subst e
      dsimp only
      rw [if_pos rfl]
      exact Maps.has_del_same
    · dsimp only
      rw [if_neg e]
      have hent := (he j hj).same (w' := w') (F' := F) (fun g cur hc hn => ⟨hg.block g (Array.getElem?_eq_some_iff.1 hc).1 (by simpa using ne_obj hc hm (by simp)), hn⟩)
      have hne : (Lit.int .i64 j) ≠ .int .i64 k := fun e2 => by cases e2; exact e rfl
      cases hp : pl j with
      | none => rw [hp] at hent; exact (Maps.has_del_other hne).trans hent
      | some f =>
        rw [hp] at hent
        obtain ⟨h1, h2, h3, u, h4, h5, h6⟩ := hent
        exact ⟨(Maps.has_del_other hne).trans h1, h2, h3, u, (Maps.atKey_del_other hne _).trans h4, h5, h6⟩
theorem FtV.ext {F : Nat → Prop} {w w' : World} {o : Option Ft} {v : Value} (h : FtV F w o v) (hs : ∀ (g : Nat) (cur : Array Value), w.heap[g]? = some (.cells cur 3 (0, 0)) → w'.heap[g]? = w.heap[g]?) : FtV F w' o v := by
  cases o with
  | none => exact h
  | some f =>
    obtain ⟨st, u, h1, h2, h3, h4, h5⟩ := h
    exact ⟨st, u, h1, h2, h3, own_same h4 (fun g hg => by obtain ⟨cur, hc⟩ := own_int h4 hg; exact hs g cur hc), h5⟩
theorem FtV.form {F : Nat → Prop} {w : World} {o : Option Ft} {v : Value} (h : FtV F w o v) : ∃ a b c d x y z, v = .agg #[.int .i64 a, .int .i64 b, .int .i64 c, .int .i64 d, .slice x y z] := by
  cases o with
  | none => cases h; exact ⟨_, _, _, _, _, _, _, rfl⟩
  | some f =>
    obtain ⟨st, u, rfl, _, _, h4, _⟩ := h
    obtain ⟨x, y, z, rfl⟩ := form_own h4
    exact ⟨_, _, _, _, _, _, _, rfl⟩
theorem Dx.tick {F : Nat → Prop} {M : Nat} {w : World} {d : Nat} {D : Dk} {ms ml : Nat} {mp : Option Nat} {va : Value} {fq : Nat → Nat} {fv : Nat → Value} (h : Dx F M w d D ms ml mp va fq fv) (hM : M + 1 ≤ 1099511627776) :
    ∃ w2 a b c e x y z, w.setCell ⟨d, 6, none⟩ (.int .i64 ((D.st : Int) + 1)) = w2 ∧ w2.heap.size = w.heap.size ∧ (w2.cell? ⟨d, 6, none⟩ = some (.int .i64 ((D.st : Int) + 1)) ∧ w2.cell? ⟨d, 5, none⟩ = some (.map mp)) ∧ w.grownBy w2 (some d) ∧
      FtV F w2 (D.pl ((D.st + 1 : Nat) : Int)) (.agg #[.int .i64 a, .int .i64 b, .int .i64 c, .int .i64 e, .slice x y z]) ∧
      (Instr.lookup 86 (.map mp) (.int .i64 ((D.st : Int) + 1)) false).run Try.prog w2 = .ok (.agg #[.int .i64 a, .int .i64 b, .int .i64 c, .int .i64 e, .slice x y z]) w2 ∧
      ∀ w3, Below w2.heap.size w2 w3 → ∃ w4, (Builtin.delete_ #[86, 3] 0 #[.map mp, .int .i64 ((D.st : Int) + 1)]).run Try.prog w3 = .ok (.tuple #[]) w4 ∧ Dsk F (M + 1) w4 d D.tick ∧ Kd F w w4 ∧ FtV F w4 (D.pl ((D.st + 1 : Nat) : Int)) (.agg #[.int .i64 a, .int .i64 b, .int .i64 c, .int .i64 e, .slice x y z]) ∧ (∀ (k : Nat) (cs : Array Value) (T : TypeId), w3.heap[k]? = some (.cells cs T (0, 0)) → w4.heap[k]? = some (.cells cs T (0, 0))) ∧ w3.heap.size ≤ w4.heap.size := by
  obtain ⟨h1, h2, h3, h4⟩ := h
  have hst := h3.lst
  have hin : In64 ((D.st : Int) + 1) := In64.of (by omega) (by omega)
  have hcast : ((D.st + 1 : Nat) : Int) = (D.st : Int) + 1 := by omega
  obtain ⟨s2, g2⟩ := set1 h1 6 (.int .i64 ((D.st : Int) + 1))
  have r2 := h2.own h1 g2
  have hk2 : Kd F w (w.setCell ⟨d, 6, none⟩ (.int .i64 ((D.st : Int) + 1))) := Kd.of_own h1 (by decide) h2.fd g2
  have hsz : (w.setCell ⟨d, 6, none⟩ (.int .i64 ((D.st : Int) + 1))).heap.size = w.heap.size := by simp
  generalize hw2 : w.setCell ⟨d, 6, none⟩ (.int .i64 ((D.st : Int) + 1)) = w2 at *
  obtain ⟨v, hrun, hv⟩ := r2.hp.look hin
  obtain ⟨a, b, c, e, x, y, z, rfl⟩ := hv.form
  rw [hcast]
  refine ⟨w2, a, b, c, e, x, y, z, rfl, hsz, ⟨by simp [World.cell?, s2], by simp [World.cell?, s2]⟩, g2, hv, hrun, fun w3 hb3 => ?_⟩
  have hdl : d < w2.heap.size := (Array.getElem?_eq_some_iff.1 s2).1
  have r3 := r2.ext hdl hb3
  obtain ⟨w4, hrun4, hp4, g4⟩ := r3.hp.drop hin 0
  have keep : ∀ (k : Nat) (cs : Array Value) (T : TypeId), w3.heap[k]? = some (.cells cs T (0, 0)) → w4.heap[k]? = some (.cells cs T (0, 0)) := fun k cs T hc => by
    rw [g4.block k (Array.getElem?_eq_some_iff.1 hc).1 (fun e => by
      have hpp := r3.hp
      rw [← e] at hpp
      obtain ⟨es, cl, hm⟩ := hpp.heap
      exact ne_obj hc hm (by simp) rfl), hc]
  have d3 := (hb3.block d hdl).trans s2
  have kd4 : Kd F w3 w4 := Kps.grown g4 (fun k e _ => by
    have hpp := r3.hp
    rw [e] at hpp
    obtain ⟨es, cl, hm⟩ := hpp.heap
    exact ⟨r3.fp k e, .inl ⟨es, cl, hm⟩⟩)
  refine ⟨w4, hrun4, ?_, hk2.trans ((Kd.of hb3).trans kd4), ?_, keep, g4.size⟩
  · have mapk : ∀ (k : Nat) (es : Array MapEntry) (cl : Nat), w3.heap[k]? = some (.map es cl) → mp ≠ some k → w4.heap[k]? = some (.map es cl) := fun k es cl hm hn => (g4.block k (Array.getElem?_eq_some_iff.1 hm).1 (fun e => hn e.symm)).trans hm
    have rw4 : ∀ {T : TypeId} {size n : Nat} {v : Value} {xs : List Value}, w3.ownsRow 0 T size v n xs → ∀ g, v.ownBlock = some g → w4.heap[g]? = w3.heap[g]? := fun hr g hg => by
      obtain ⟨cur, hc⟩ := own_lt hr hg
      exact (keep g _ _ hc).trans hc.symm
    refine Dx.dsk (ms := ms) (ml := ml) (mp := mp) (va := va) (fq := fq) (fv := fv) ⟨?_, ?_, h3.tick, hM⟩
    · rw [keep d _ _ d3]
      simp [Dk.tick]
    · refine Rst.monoN (N := M) ?_ (Nat.le_succ M)
      exact { r3 with
        hs := r3.hs.same (by obtain ⟨es, cl, hm⟩ := r3.hs.heap; exact (mapk _ _ _ hm r3.pe.1).trans hm.symm)
        hl := r3.hl.same (by obtain ⟨es, cl, hm⟩ := r3.hl.heap; exact (mapk _ _ _ hm r3.pe.2).trans hm.symm)
        ha := own_same r3.ha (rw4 r3.ha)
        hp := by
          have e : D.tick.pl = fun j => if j = (D.st : Int) + 1 then none else D.pl j := by funext j; simp [Dk.tick]
          rw [e]
          exact hp4
        hf := fun i f hi => (r3.hf i f hi).same ((keep _ _ _ (r3.hf i f hi).1).trans (r3.hf i f hi).1.symm) (rw4 (r3.hf i f hi).2)
        fw := fun q hq => Nat.lt_of_lt_of_le (r3.fw q hq) g4.size }
  · refine hv.ext (fun g cur hc => ?_)
    have h3 := (hb3.block g (Array.getElem?_eq_some_iff.1 hc).1).trans hc
    exact (keep g _ _ h3).trans hc.symm
end Go.Proofs.Ytaoaihjiieandaa
