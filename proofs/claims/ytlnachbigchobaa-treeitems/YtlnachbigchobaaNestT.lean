/- A script that came in. -/
import Derived.Test.YtlnachbigchobaaLawKit
namespace Go.Proofs.Ytlnachbigchobaa
open Go.ChangeShapes Go.WideShapes Go.ChangeAt Go.RowKit

theorem cSl : Try.prog.cellsOf 22 = 1 := by kernel_rfl
theorem cOp : Try.prog.cellsOf 95 = 7 := by kernel_rfl
theorem bytesK_op : Try.prog.bytesOf 95 = 72 := by kernel_rfl

theorem weights_elem {H : Type} {P : Program} {e : TypeId} : ∀ {l : List (DataW H)} {d : DataW H}, d ∈ l → ∀ n ∈ d.weights P e, n ∈ DataW.weightsAll P e l
  | x :: l, d, h, n, hn => by
    simp only [DataW.weightsAll, List.mem_append]
    rcases List.mem_cons.1 h with rfl | h
    · exact Or.inl hn
    · exact Or.inr (weights_elem h n hn)
theorem weights_slice {H : Type} {P : Program} {t e : TypeId} {el sp : List (DataW H)} {d : DataW H} (hu : P.underlying t = some (.slice e)) (h : d ∈ el) : ∀ n ∈ d.weights P e, n ∈ (DataW.slice el sp).weights P t := by
  intro n hn
  simp only [DataW.weights, hu, List.mem_cons, List.mem_append]
  exact Or.inr (Or.inl (weights_elem h n hn))
theorem weights_part {H : Type} {P : Program} {t : TypeId} {fs : Array Field} {parts : List (DataW H)} {d : DataW H} (hu : P.underlying t = some (.struct fs)) {j : Nat} {f : Field} (hf : fs[j]? = some f) (hd : parts[j]? = some d) : ∀ n ∈ d.weights P f.type, n ∈ (DataW.agg parts).weights P t := by
  intro n hn
  simp only [DataW.weights, hu]
  exact DataW.weights_mem_each (j := j) (by simp [hf]) hd n hn

/-- One inner list: what is read of its one cell. -/
theorem inner_of {H : Type} {enc : TypeId × Value → H} {W : World} {fuel : Nat} {c : Value} {d : DataW H} {p : List MemPlace}
    (h : DataW.trod enc Try.prog W 0 (fun _ => true) true fuel 22 [c] = some (d, p)) :
    ∃ ao cap zs, c = .slice ao zs.length cap ∧ RdR W (.slice ao zs.length cap) zs ∧ (zs = [] ∨ ∃ el sp, d = .slice el sp ∧ el.length = zs.length) := by
  have hs : ∃ ao len cap, c = .slice ao len cap := by
    rcases DataW.trod_slice Try.underlying22 h with ⟨hcs, _⟩ | ⟨x, l, k, elems, rest, n, _, hcs, _⟩
    · exact ⟨none, 0, 0, by simpa using hcs⟩
    · exact ⟨some x, l, k, by simpa using hcs⟩
  obtain ⟨ao, len, cap, rfl⟩ := hs
  obtain ⟨zs, hr, hd⟩ := rdR_of (enc := enc) (d := d) (p := p) ⟨fuel, by simpa [Value.cells] using h⟩
  obtain ⟨ao', cap', hv, r1, r2, r3⟩ := id hr
  simp only [Value.slice.injEq] at hv
  obtain ⟨rfl, rfl, rfl⟩ := hv
  exact ⟨ao, cap, zs, rfl, hr, hd⟩
theorem inner_bound {H : Type} {zs : List It} {d : DataW H} (hd : zs = [] ∨ ∃ el sp, d = DataW.slice el sp ∧ el.length = zs.length) (hw : ∀ n ∈ d.weights Try.prog 22, n ≤ reachBytes) : zs.length * 16 ≤ 140737488351232 := by
  rcases hd with rfl | ⟨el, sp, rfl, hel⟩
  · simp
  · have := hw ((el.length + sp.length) * Try.prog.bytesOf 24) (by simp [DataW.weights, Try.underlying22])
    rw [bytesK_run] at this
    simp only [reachBytes] at this
    omega

/-- A step, and what is read of its seven cells. -/
structure Sp where
  kind : Int
  who : Int
  fr : Int
  to : Int
  k : Int
  n : Int
  ai : Option Addr
  ci : Nat
  zs : List It
structure OpAt (w : World) (f : Nat → Option Value) (o : Sp) : Prop where
  c0 : f 0 = some (.int .i64 o.kind)
  c1 : f 1 = some (.int .i64 o.who)
  c2 : f 2 = some (.int .i64 o.fr)
  c3 : f 3 = some (.int .i64 o.to)
  c4 : f 4 = some (.int .i64 o.k)
  c5 : f 5 = some (.int .i64 o.n)
  c6 : f 6 = some (.slice o.ai o.zs.length o.ci)
  rd : RdR w (.slice o.ai o.zs.length o.ci) o.zs
  hz : o.zs.length * 16 ≤ 140737488351232
  hn : o.n ≤ 9223372036854775807

set_option maxRecDepth 100000 in
theorem op_cells {H : Type} {enc : TypeId × Value → H} {w : World} {fuel : Nat} {cs : List Value} {d : DataW H} {p : List MemPlace}
    (h : DataW.trod enc Try.prog w 0 (fun _ => true) true fuel 95 cs = some (d, p)) (hw : ∀ n ∈ d.weights Try.prog 95, n ≤ reachBytes) :
    ∃ o : Sp, OpAt w (fun i => cs[i]?) o := by
  obtain ⟨xs, n, rfl, hx, hl, hxl, hall⟩ := DataW.trod_struct Try.underlying95 h
  match xs, hxl with
  | [x0, x1, x2, x3, x4, x5, x6], _ =>
    obtain ⟨k0, e0, r0, w0⟩ := DataW.trod_int Try.underlying3 (hall 0 _ rfl)
    obtain ⟨k1, e1, r1, w1⟩ := DataW.trod_int Try.underlying3 (hall 1 _ rfl)
    obtain ⟨k2, e2, r2, w2⟩ := DataW.trod_int Try.underlying3 (hall 2 _ rfl)
    obtain ⟨k3, e3, r3, w3⟩ := DataW.trod_int Try.underlying3 (hall 3 _ rfl)
    obtain ⟨k4, e4, r4, w4⟩ := DataW.trod_int Try.underlying3 (hall 4 _ rfl)
    obtain ⟨k5, e5, r5, w5⟩ := DataW.trod_int Try.underlying3 (hall 5 _ rfl)
    have h6 := hall 6 _ rfl
    have e0' : (cs.drop 0).take (Try.prog.cellsOf 3) = [.int .i64 k0] := e0
    have e1' : (cs.drop 1).take (Try.prog.cellsOf 3) = [.int .i64 k1] := e1
    have e2' : (cs.drop 2).take (Try.prog.cellsOf 3) = [.int .i64 k2] := e2
    have e3' : (cs.drop 3).take (Try.prog.cellsOf 3) = [.int .i64 k3] := e3
    have e4' : (cs.drop 4).take (Try.prog.cellsOf 3) = [.int .i64 k4] := e4
    have e5' : (cs.drop 5).take (Try.prog.cellsOf 3) = [.int .i64 k5] := e5
    have h6' : DataW.trod enc Try.prog w 0 (fun _ => true) true n 22 ((cs.drop 6).take (Try.prog.cellsOf 22)) = some x6 := h6
    rw [cOp] at hl
    rw [cInt] at e0' e1' e2' e3' e4' e5'
    rw [cSl] at h6'
    match cs, hl with
    | [c0, c1, c2, c3, c4, c5, c6], _ =>
      simp at e0' e1' e2' e3' e4' e5'
      subst e0'; subst e1'; subst e2'; subst e3'; subst e4'; subst e5'
      simp only [List.drop_succ_cons, List.drop_zero, List.take_succ_cons, List.take_zero] at h6'
      obtain ⟨ai, ci, zs, rfl, hr, hd⟩ := inner_of (d := x6.1) (p := x6.2) h6'
      refine ⟨⟨k0, k1, k2, k3, k4, k5, ai, ci, zs⟩, rfl, rfl, rfl, rfl, rfl, rfl, rfl, hr, inner_bound hd ?_, ?_⟩
      · intro m hm
        refine hw m ?_
        obtain ⟨rfl, _⟩ := Prod.mk.inj hx
        exact weights_part (t := 95) (j := 6) Try.underlying95 rfl (d := x6.1) rfl m hm
      · exact (bounds_i64 w5).2

/-- The slice v holds the steps. -/
def RdO (w : World) (v : Value) (os : List Sp) : Prop :=
  ∃ ao cap, v = .slice ao os.length cap ∧ os.length ≤ cap ∧ cap ≤ maxLen ∧ os.length * 72 ≤ 140737488351232 ∧ (0 < os.length → ∃ b off, ao = some ⟨b, off, none⟩ ∧ b < w.heap.size ∧ ∀ i o, os[i]? = some o → OpAt w (fun j => w.cell? ⟨b, off + i * 7 + j, none⟩) o)

set_option maxRecDepth 100000 in
theorem ops_of {H : Type} {enc : TypeId × Value → H} {W : World} {a0 : Option Addr} {len0 cap0 : Nat} {d : DataW H} {p : List MemPlace}
    (h : DataW.Trod enc Try.prog W 0 (fun _ => true) true 72 (.slice a0 len0 cap0) d p) (hw : ∀ n ∈ d.weights Try.prog 72, n ≤ reachBytes) :
    ∃ os, RdO W (.slice a0 len0 cap0) os := by
  obtain ⟨fuel, hf⟩ := h
  rcases DataW.trod_slice Try.underlying72 hf with ⟨hcs, _⟩ | ⟨x, l, c, elems, rest, n, _, hcs, hx, hb, hl, hm, hlen, hel, _, _⟩
  · simp [Value.cells] at hcs
    obtain ⟨rfl, rfl, rfl⟩ := hcs
    exact ⟨[], none, 0, rfl, Nat.le_refl _, by simp [maxLen], by simp, fun h => by simp at h⟩
  · simp [Value.cells] at hcs
    obtain ⟨rfl, rfl, rfl⟩ := hcs
    rw [cOp] at hel
    obtain ⟨rfl, _⟩ := Prod.mk.inj hx
    obtain ⟨b, off, spot⟩ := x
    have each : ∀ i, ∃ o : Sp, i < len0 → OpAt W (fun j => W.cell? (((⟨b, off, spot⟩ : Addr).add (i * 7)).add j)) o := by
      intro i
      by_cases hi : i < len0
      · have hi' : i < elems.length := by omega
        have := hel i hi
        rw [List.getElem?_eq_getElem hi', Option.bind_eq_some_iff] at this
        obtain ⟨cs, hcs, hy⟩ := this
        obtain ⟨o, ho⟩ := op_cells (d := elems[i].1) (p := elems[i].2) hy (fun m hm => hw m (weights_slice Try.underlying72 (List.mem_map.2 ⟨elems[i], List.getElem_mem hi', rfl⟩) m hm))
        have hcell := (World.cells?_some hcs).2.2
        refine ⟨o, fun _ => ?_⟩
        exact ⟨(hcell 0 (by omega)).trans ho.c0, (hcell 1 (by omega)).trans ho.c1, (hcell 2 (by omega)).trans ho.c2, (hcell 3 (by omega)).trans ho.c3, (hcell 4 (by omega)).trans ho.c4, (hcell 5 (by omega)).trans ho.c5, (hcell 6 (by omega)).trans ho.c6, ho.rd, ho.hz, ho.hn⟩
      · exact ⟨⟨0, 0, 0, 0, 0, 0, none, 0, []⟩, fun h => absurd h hi⟩
    obtain ⟨f, hf'⟩ := Classical.skolem.1 each
    refine ⟨(List.range len0).map f, some ⟨b, off, spot⟩, cap0, by simp, by simpa using hl, hm, ?_, fun hn => ?_⟩
    · have := hw _ (by simp only [DataW.weights, Try.underlying72, List.mem_cons]; exact Or.inl rfl)
      rw [bytesK_op] at this
      simp only [reachBytes, List.length_map, List.length_range] at this ⊢
      omega
    simp only [List.length_map, List.length_range] at hn
    have hs : spot = none := by simpa [Addr.add] using World.cell?_spot (hf' 0 hn).c0
    subst hs
    refine ⟨b, off, rfl, World.block_lt_of_cell? W _ (by simpa [Addr.add] using (hf' 0 hn).c0), fun i o hio => ?_⟩
    have hi : i < len0 := by have := (List.getElem?_eq_some_iff.1 hio).1; simpa using this
    have e : o = f i := by rw [List.getElem?_map, List.getElem?_range hi] at hio; simpa using hio.symm
    subst e
    have := hf' i hi
    simp only [Addr.add_lit] at this
    exact this
end Go.Proofs.Ytlnachbigchobaa
