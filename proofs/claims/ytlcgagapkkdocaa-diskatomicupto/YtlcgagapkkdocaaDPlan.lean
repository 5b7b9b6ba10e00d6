/- Plan: what it needs. -/
import Derived.Test.YtlcgagapkkdocaaDScr
namespace Go.Proofs.Ytlcgagapkkdocaa
open Go.RowKit

def Fa.ft (x : Fa) : Ft := ⟨x.kd, x.pt, ⟨x.cn, x.bs.take 16⟩⟩
/-- A fault is planned, where it may be. -/
def plAdd (p : Int → Option Ft) (x : Fa) : Int → Option Ft := if (p x.st).isSome = true ∨ x.st < 1 ∨ x.kd < 1 ∨ 5 < x.kd then p else fun k => if k = x.st then some x.ft else p k
def plOf (l : List Fa) : Int → Option Ft := l.foldl plAdd (fun _ => none)
def Dk.plan (D : Dk) (p : Int → Option Ft) : Dk := { D with pl := p, st := 0 }
theorem plOf_take {l : List Fa} {k : Nat} {x : Fa} (h : l[k]? = some x) : plOf (l.take (k + 1)) = plAdd (plOf (l.take k)) x := by
  unfold plOf
  rw [List.take_add_one, h]
  simp
theorem Wf.plan {N : Nat} {D : Dk} (h : Wf N D) (p : Int → Option Ft) : Wf N (D.plan p) := ⟨h.sp, h.fi, h.dir, h.ac, h.see, h.lfi, h.lac, Nat.zero_le _⟩
theorem Rd.same {k : IntKind} {w w' : World} {v : Value} {zs : List Int} (h : Rd k w v zs) (hl : w.heap.size ≤ w'.heap.size) (hs : ∀ g, v.ownBlock = some g → w'.heap[g]? = w.heap[g]?) : Rd k w' v zs := by
  obtain ⟨ao, cap, rfl, h1, h2, h3⟩ := h
  refine ⟨ao, cap, rfl, h1, h2, fun hn => ?_⟩
  obtain ⟨b, off, rfl, h4, h5⟩ := h3 hn
  refine ⟨b, off, rfl, Nat.lt_of_lt_of_le h4 hl, fun i hi => ?_⟩
  rw [← h5 i hi]
  exact World.cell?_of_block (hs b rfl)
/-- The faults' memory is the caller's. -/
def InF (F : Nat → Prop) (v : Value) (fs : List Fa) : Prop := (∀ g, v.ownBlock = some g → F g) ∧ ∀ x ∈ fs, ∀ g, x.bv.ownBlock = some g → F g
theorem RdF.kps {F : Nat → Prop} {w w' : World} {v : Value} {fs : List Fa} (h : RdF w v fs) (hF : InF F v fs) (k : Kps (fun q => ¬ F q) w w') (hlt : ∀ q, F q → q < w.heap.size) : RdF w' v fs := by
  have hs : ∀ g, F g → w'.heap[g]? = w.heap[g]? := fun g hg => k.same g (hlt g hg) (fun e => e hg)
  obtain ⟨ao, cap, rfl, h1, h2, h3, h4⟩ := h
  refine ⟨ao, cap, rfl, h1, h2, h3, fun hn => ?_⟩
  obtain ⟨b, off, rfl, h5, h6⟩ := h4 hn
  refine ⟨b, off, rfl, Nat.lt_of_lt_of_le h5 k.size, fun i x hx => ?_⟩
  have hc := h6 i x hx
  have e : ∀ j, w'.cell? ⟨b, j, none⟩ = w.cell? ⟨b, j, none⟩ := fun j => World.cell?_of_block (hs b (hF.1 b rfl))
  exact ⟨(e _).trans hc.c0, (e _).trans hc.c1, (e _).trans hc.c2, (e _).trans hc.c3, (e _).trans hc.c4, ⟨hc.rd.1.same k.size (fun g hg => hs g (hF.2 x (List.mem_of_getElem? hx) g hg)), hc.rd.2⟩⟩
set_option maxRecDepth 100000 in
set_option maxHeartbeats 2000000 in
theorem cloneI_any (v : Value) (zs : List Int) (w : World) (h : RdS w v zs) (hl : zs.length * 8 ≤ 140737488355328) :
    Calls Try.prog 39 #[v] w fun e w' => ∃ v', e = .returned v' ∧ OwnI w' w.heap.size v' zs ∧ Below w.heap.size w w' := by
  rcases h.2 with rfl | ⟨ad, n, c, rfl⟩
  · obtain ⟨⟨ao, cap, hv, _⟩, _⟩ := h
    have : zs.length = 0 := by injection hv with _ h2 _; omega
    have hz := List.length_eq_zero_iff.1 this
    subst hz
    clear hl this hv
    have he := Lib.run_eql_slice_nil (P := Try.prog) w 25 3 none 0 0 0 0 Try.underlying25
    go_enter Try.func39, Try.ntmps39
    go_wp2_with fail
    go_ret
    exact ⟨_, rfl, ⟨rfl, .inl ⟨rfl, rfl⟩⟩, Below.refl _ _⟩
  have H := hidIt h
  have he := Lib.run_eql_slice_nil (P := Try.prog) w 25 3 (some ad) n c 0 0 Try.underlying25
  clear h
  go_enter Try.func39, Try.ntmps39
  go_wp2_with (at_builtin; refine wpl_ints rfl _ _ 25 rfl w.heap.size Try.info_i64 Try.underlying25 _ [] rfl ⟨rfl, .inr ⟨w.heap.size, 0, #[], rfl, Nat.le_refl _, heap_alloc_new _ _, Nat.le_refl _, by simp [maxLen], rfl, rfl⟩⟩ _ zs rfl (H.out.ext (ext_alloc (Below.refl _ _) _)) (by simpa using hl) (by simp) ?_; intro v2 w2 own2 hb2; have O2 := hidIt own2; have B2 := hidIt hb2; clear own2 hb2)
  go_ret
  exact ⟨_, rfl, O2.out, ((Below.refl _ _).alloc (Nat.le_refl _) _).trans B2.out⟩
theorem PlanM.look2 {F : Nat → Prop} {w : World} {b : Nat} {N : Nat} {pl : Int → Option Ft} (h : PlanM F w (some b) N pl) {k : Int} (hk : In64 k) :
    ∃ a1 a2 a3 a4 x y z, ∀ wq : World, wq.heap[b]? = w.heap[b]? → (Instr.lookup 86 (.map (some b)) (.int .i64 k) true).run Try.prog wq = .ok (.tuple #[.agg #[.int .i64 a1, .int .i64 a2, .int .i64 a3, .int .i64 a4, .slice x y z], .bool (pl k).isSome]) wq := by
  obtain ⟨D, hown, he⟩ := h
  have hent := he k hk
  have hhas : Maps.has D (.int .i64 k) = (pl k).isSome := by
    cases hm : pl k with
    | none => rw [hm] at hent; exact hent
    | some r => rw [hm] at hent; exact hent.1
  obtain ⟨v, ps, _, hv⟩ := hown.look_ok lawI Try.underlying86 (zero_fault w) (zd := .held (.agg #[.int .i64 0, .int .i64 0, .int .i64 0, .int .i64 0, .slice none 0 0])) (zp := []) rfl (key_of hk)
  obtain ⟨a1, a2, a3, a4, x, y, z, rfl⟩ : ∃ a1 a2 a3 a4 x y z, v = .agg #[.int .i64 a1, .int .i64 a2, .int .i64 a3, .int .i64 a4, .slice x y z] := by
    simp only [heldR, Option.some.injEq, Prod.mk.injEq] at hv
    cases hm : pl k with
    | none =>
      rw [hm] at hent
      rw [Maps.atKey_of_not_has hent] at hv
      exact ⟨_, _, _, _, _, _, _, by cases hv.1; rfl⟩
    | some r =>
      rw [hm] at hent
      obtain ⟨h1, _, _, u, h4, h5, _⟩ := hent
      obtain ⟨ux, uy, uz, rfl⟩ := form_own h5
      rw [atKey_held h1 .nil, h4] at hv
      exact ⟨_, _, _, _, _, _, _, by cases hv.1; rfl⟩
  refine ⟨a1, a2, a3, a4, x, y, z, fun wq heq => ?_⟩
  have hown' : wq.ownsMap Try.prog 3 heldR b N D := by
    obtain ⟨es, cl, h1, r⟩ := hown
    exact ⟨es, cl, heq.trans h1, r⟩
  obtain ⟨v', ps', hrun, hv'⟩ := hown'.look_ok lawI Try.underlying86 (zero_fault wq) (zd := .held (.agg #[.int .i64 0, .int .i64 0, .int .i64 0, .int .i64 0, .slice none 0 0])) (zp := []) rfl (key_of hk)
  rw [hhas] at hrun
  have e1 : DataW.held v' = DataW.held (.agg #[.int .i64 a1, .int .i64 a2, .int .i64 a3, .int .i64 a4, .slice x y z]) := by
    simp only [heldR, Option.some.injEq, Prod.mk.injEq] at hv hv'
    exact hv'.1.trans hv.1.symm
  cases e1
  exact hrun
theorem PlanM.put {F : Nat → Prop} {w : World} {b : Nat} {N : Nat} {pl : Int → Option Ft} (h : PlanM F w (some b) N pl) {k : Int} (hk : In64 k) (hN : N < 9223372036854775807) {f : Ft} {u : Value} (h1 : 1 ≤ f.kd ∧ f.kd ≤ 5 ∧ In64 f.pt ∧ In64 f.cut.nm) (h2 : ∀ x ∈ f.cut.bs, In64 x) (h3 : OwnI w 0 u f.cut.bs) (h4 : ∀ g, u.ownBlock = some g → ¬ F g) :
    ∃ w', (Instr.mapUpdate 86 (.map (some b)) (.int .i64 k) (.agg #[.int .i64 k, .int .i64 f.kd, .int .i64 f.pt, .int .i64 f.cut.nm, u])).run Try.prog w = .ok () w' ∧ PlanM F w' (some b) (N + 1) (fun j => if j = k then some f else pl j) ∧ w.grownBy w' (some b) := by
  obtain ⟨D, hown, he⟩ := h
  obtain ⟨w', hrun, hown', hg⟩ := World.ownsMap.update (val := .agg #[.int .i64 k, .int .i64 f.kd, .int .i64 f.pt, .int .i64 f.cut.nm, u]) hown lawI Try.underlying86 (by unfold maxLen; omega) (key_of hk) (d := .held (.agg #[.int .i64 k, .int .i64 f.kd, .int .i64 f.pt, .int .i64 f.cut.nm, u])) (ps := []) rfl
  have hisM := hown.isMap
  obtain ⟨es, cl, hm, _⟩ := hown
  have hsame : ∀ (g : Nat) (cur : Array Value), w.heap[g]? = some (.cells cur 3 (0, 0)) → w'.heap[g]? = w.heap[g]? := fun g cur hc => hg.block g (Array.getElem?_eq_some_iff.1 hc).1 (by simpa using ne_obj hc hm (by simp))
  refine ⟨w', hrun, ⟨_, hown', fun j hj => ?_⟩, hg⟩
  by_cases e : j = k
  · subst e
    dsimp only
    rw [if_pos rfl]
    exact ⟨Maps.has_put_same hisM (lawI.key (key_of hk)) _, h1, h2, u, Maps.atKey_put_same hisM (lawI.key (key_of hk)) _ _, own_same h3 (fun g hg => by obtain ⟨cur, hc⟩ := own_lt h3 hg; exact hsame g cur hc), h4⟩
  · dsimp only
    rw [if_neg e]
    have hent := (he j hj).same (w' := w') (F' := F) (fun g cur hc hn => ⟨hsame g cur hc, hn⟩)
    have hne : (Lit.int .i64 j) ≠ .int .i64 k := fun e2 => by cases e2; exact e rfl
    cases hp : pl j with
    | none => rw [hp] at hent; exact (Maps.has_put_other hne _).trans hent
    | some f =>
      rw [hp] at hent
      obtain ⟨h1, h2, h3, u, h4, h5, h6⟩ := hent
      exact ⟨(Maps.has_put_other hne _).trans h1, h2, h3, u, (Maps.atKey_put_other hne _ _).trans h4, h5, h6⟩
section
variable {F : Nat → Prop} {N : Nat} {w w' : World} {d : Nat} {D : Dk} {ms ml : Nat} {mp : Option Nat} {va : Value} {fq : Nat → Nat} {fv : Nat → Value}
/-- The plan's map alone has turned. -/
theorem Dx.replan {b M : Nat} {p q : Int → Option Ft} (h : Dx F N w d (D.plan p) ms ml (some b) va fq fv) (hM : N ≤ M) (hM2 : M ≤ 1099511627776) (hg : w.grownBy w' (some b)) (hp : PlanM F w' (some b) M q) : Dx F M w' d (D.plan q) ms ml (some b) va fq fv ∧ Kd F w w' := by
  obtain ⟨h1, h2, h3, h4⟩ := h
  obtain ⟨es, cl, hmap⟩ := h2.hp.heap
  have keep : ∀ (k : Nat) (cs : Array Value) (T : TypeId), w.heap[k]? = some (.cells cs T (0, 0)) → w'.heap[k]? = some (.cells cs T (0, 0)) := fun k cs T hc => by
    rw [hg.block k (Array.getElem?_eq_some_iff.1 hc).1 (by simpa using ne_obj hc hmap (by simp)), hc]
  have mapk : ∀ (k : Nat) (es : Array MapEntry) (cl : Nat), w.heap[k]? = some (.map es cl) → some b ≠ some k → w'.heap[k]? = some (.map es cl) := fun k es cl hm hn => (hg.block k (Array.getElem?_eq_some_iff.1 hm).1 (fun e => hn e.symm)).trans hm
  have rw4 : ∀ {T : TypeId} {size n : Nat} {v : Value} {xs : List Value}, w.ownsRow 0 T size v n xs → ∀ g, v.ownBlock = some g → w'.heap[g]? = w.heap[g]? := fun hr g hgg => by
    obtain ⟨cur, hc⟩ := own_lt hr hgg
    exact (keep g _ _ hc).trans hc.symm
  have kd : Kd F w w' := Kps.grown hg (fun k e _ => by cases e; exact ⟨h2.fp b rfl, .inl ⟨es, cl, hmap⟩⟩)
  refine ⟨⟨(keep d _ _ h1), ?_, (h3.plan q).mono hM, hM2⟩, kd⟩
  exact { (h2.monoN hM) with
    hs := h2.hs.same (by obtain ⟨es, cl, hm⟩ := h2.hs.heap; exact (mapk _ _ _ hm h2.pe.1).trans hm.symm)
    hl := h2.hl.same (by obtain ⟨es, cl, hm⟩ := h2.hl.heap; exact (mapk _ _ _ hm h2.pe.2).trans hm.symm)
    ha := own_same h2.ha (rw4 h2.ha)
    hp := hp
    hf := fun i f hi => (h2.hf i f hi).same ((keep _ _ _ (h2.hf i f hi).1).trans (h2.hf i f hi).1.symm) (rw4 (h2.hf i f hi).2)
    fw := fun q hq => Nat.lt_of_lt_of_le (h2.fw q hq) hg.size }
/-- A new plan, with nothing in it yet. -/
theorem Dx.plan0 (h : Dx F N w d D ms ml mp va fq fv) : ∃ w1 w2 w3, w.setCell ⟨d, 6, none⟩ (.int .i64 0) = w1 ∧ (Instr.makeMap 86 none).run Try.prog w1 = .ok (.map (some w.heap.size)) w2 ∧ w2.setCell ⟨d, 5, none⟩ (.map (some w.heap.size)) = w3 ∧ w2.cell? ⟨d, 5, none⟩ = some (.map mp) ∧ w2.frozen? ⟨d, 5, none⟩ = false ∧ Dx F N w3 d (D.plan (fun _ => none)) ms ml (some w.heap.size) va fq fv ∧ Kd F w w3 := by
  obtain ⟨h1, h2, h3, h4⟩ := h
  obtain ⟨s1, g1⟩ := set1 h1 6 (.int .i64 0)
  have r1 := h2.own h1 g1
  have k1 : Kd F w (w.setCell ⟨d, 6, none⟩ (.int .i64 0)) := Kd.of_own h1 (by decide) h2.fd g1
  have z1 : (w.setCell ⟨d, 6, none⟩ (.int .i64 0)).heap.size = w.heap.size := by simp
  generalize w.setCell ⟨d, 6, none⟩ (.int .i64 0) = w1 at *
  have hb : Below w1.heap.size w1 (w1.alloc (.map #[] 0)) := ext_alloc (Below.refl _ _) _
  have hdl := (Array.getElem?_eq_some_iff.1 s1).1
  have r2 := r1.ext hdl hb
  have s2 := (hb.block d hdl).trans s1
  have hmade := World.ownsMap_made w1 Try.prog 3 heldR
  have hrun : (Instr.makeMap 86 none).run Try.prog w1 = .ok (.map (some w1.heap.size)) (w1.alloc (.map #[] 0)) := by kernel_rfl
  rw [z1] at hmade hrun
  generalize w1.alloc (.map #[] 0) = w2 at *
  obtain ⟨s3, g3⟩ := set1 s2 5 (.map (some w.heap.size))
  have r3 := r2.own s2 g3
  have k3 : Kd F w2 (w2.setCell ⟨d, 5, none⟩ (.map (some w.heap.size))) := Kd.of_own s2 (by decide) h2.fd g3
  have hne : w.heap.size ≠ d := by rw [← z1]; omega
  refine ⟨w1, w2, _, rfl, hrun, rfl, ?_, frozen_of_row _ _ _ _ _ s2, ⟨?_, ?_, h3.plan _, h4⟩, k1.trans ((Kd.of hb).trans k3)⟩
  · simp [World.cell?, s2]
  · rw [s3]
    simp [Dk.plan]
  · exact { r3 with
      hp := ⟨.map [], (hmade.kept g3 (by simpa using hne)).mono (Nat.zero_le N), fun k _ => rfl⟩
      pe := ⟨by have := r1.hs.lt; intro e; cases e; omega, by have := r1.hl.lt; intro e; cases e; omega⟩
      fp := fun b e => by cases e; intro hq; have := h2.fw _ hq; omega }
end
end Go.Proofs.Ytlcgagapkkdocaa
