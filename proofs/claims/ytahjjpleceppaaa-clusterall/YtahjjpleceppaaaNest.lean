/- Slices of slices, and of calls, that came in. -/
import Derived.Test.YtahjjpleceppaaaLawKit
namespace Go.Proofs.Ytahjjpleceppaaa
open Go.ChangeShapes Go.WideShapes Go.ChangeAt Go.RowKit

theorem cSl : Try.prog.cellsOf 22 = 1 := by kernel_rfl
theorem cInt : Try.prog.cellsOf 3 = 1 := by kernel_rfl
theorem cOp : Try.prog.cellsOf 46 = 3 := by kernel_rfl
theorem bytesK_op : Try.prog.bytesOf 46 = 40 := by kernel_rfl
theorem bytesK_sl : Try.prog.bytesOf 22 = 24 := by kernel_rfl

theorem weights_elem {H : Type} {P : Program} {e : TypeId} : ∀ {l : List (DataW H)} {d : DataW H}, d ∈ l → ∀ n ∈ d.weights P e, n ∈ DataW.weightsAll P e l
  | x :: l, d, h, n, hn => by
    simp only [DataW.weightsAll, List.mem_append]
    rcases List.mem_cons.1 h with rfl | h
    · exact Or.inl hn
    · exact Or.inr (weights_elem h n hn)
theorem weights_slice {H : Type} {P : Program} {t e : TypeId} {el sp : List (DataW H)} {d : DataW H} (hu : P.underlying t = some (.slice e)) (h : d ∈ el) : ∀ n ∈ d.weights P e, n ∈ (DataW.slice el sp).weights P t := by
  intro n hn
  simp only [DataW.weights, hu, List.mem_cons, List.mem_append]
  exact Or.inr (Or.inl (weights_elem h n hn))
theorem weights_part {H : Type} {P : Program} {t : TypeId} {fs : Array Field} {parts : List (DataW H)} {d : DataW H} (hu : P.underlying t = some (.struct fs)) {j : Nat} {f : Field} (hf : fs[j]? = some f) (hd : parts[j]? = some d) : ∀ n ∈ d.weights P f.type, n ∈ (DataW.agg parts).weights P t := by
  intro n hn
  simp only [DataW.weights, hu]
  exact DataW.weights_mem_each (j := j) (by simp [hf]) hd n hn

/-- One inner list: what is read of its one cell. -/
theorem inner_of {H : Type} {enc : TypeId × Value → H} {W : World} {fuel : Nat} {c : Value} {d : DataW H} {p : List MemPlace}
    (h : DataW.trod enc Try.prog W 0 (fun _ => true) true fuel 22 [c] = some (d, p)) :
    ∃ ao cap zs, c = .slice ao zs.length cap ∧ Rd .i64 W (.slice ao zs.length cap) zs ∧ (zs = [] ∨ ∃ el sp, d = .slice el sp ∧ el.length = zs.length) := by
  have hs : ∃ ao len cap, c = .slice ao len cap := by
    rcases DataW.trod_slice Try.underlying22 h with ⟨hcs, _⟩ | ⟨x, l, k, elems, rest, n, _, hcs, _⟩
    · exact ⟨none, 0, 0, by simpa using hcs⟩
    · exact ⟨some x, l, k, by simpa using hcs⟩
  obtain ⟨ao, len, cap, rfl⟩ := hs
  obtain ⟨zs, hr, _, hd⟩ := rd_of (enc := enc) (d := d) (p := p) Try.underlying22 Try.underlying3 (by kernel_rfl) ⟨fuel, by simpa [Value.cells] using h⟩
  obtain ⟨ao', cap', hv, r1, r2, r3⟩ := id hr
  simp only [Value.slice.injEq] at hv
  obtain ⟨rfl, rfl, rfl⟩ := hv
  exact ⟨ao, cap, zs, rfl, hr, hd⟩
theorem inner_bound {H : Type} {zs : List Int} {d : DataW H} (hd : zs = [] ∨ ∃ el sp, d = DataW.slice el sp ∧ el.length = zs.length) (hw : ∀ n ∈ d.weights Try.prog 22, n ≤ reachBytes) : zs.length * 8 ≤ 140737488351232 := by
  rcases hd with rfl | ⟨el, sp, rfl, hel⟩
  · simp
  · have := hw ((el.length + sp.length) * Try.prog.bytesOf 3) (by simp [DataW.weights, Try.underlying22])
    rw [bytesK_i64] at this
    simp only [reachBytes] at this
    omega

/-- The slice v holds n calls. -/
def RdO (w : World) (v : Value) (n : Nat) : Prop :=
  ∃ ao cap, v = .slice ao n cap ∧ n ≤ cap ∧ cap ≤ maxLen ∧ (0 < n → ∃ b off, ao = some ⟨b, off, none⟩ ∧ b < w.heap.size ∧ ∀ i, i < n → ∃ kind at' ai ci zs,
    w.cell? ⟨b, off + i * 3, none⟩ = some (.int .i64 kind) ∧ w.cell? ⟨b, off + i * 3 + 1, none⟩ = some (.int .i64 at') ∧ w.cell? ⟨b, off + i * 3 + 2, none⟩ = some (.slice ai zs.length ci) ∧ Rd .i64 w (.slice ai zs.length ci) zs ∧ zs.length * 8 ≤ 140737488351232)

theorem op_cells {H : Type} {enc : TypeId × Value → H} {w : World} {fuel : Nat} {cs : List Value} {d : DataW H} {p : List MemPlace}
    (h : DataW.trod enc Try.prog w 0 (fun _ => true) true fuel 46 cs = some (d, p)) (hw : ∀ n ∈ d.weights Try.prog 46, n ≤ reachBytes) :
    ∃ kind at' ai ci zs, cs[0]? = some (.int .i64 kind) ∧ cs[1]? = some (.int .i64 at') ∧ cs[2]? = some (.slice ai zs.length ci) ∧ Rd .i64 w (.slice ai zs.length ci) zs ∧ zs.length * 8 ≤ 140737488351232 := by
  obtain ⟨xs, n, rfl, hx, hl, hxl, hall⟩ := DataW.trod_struct Try.underlying46 h
  match xs, hxl with
  | [x0, x1, x2], _ =>
    have h0 := hall 0 _ rfl
    have h1 := hall 1 _ rfl
    have h2 := hall 2 _ rfl
    obtain ⟨k0, e0, r0, w0⟩ := DataW.trod_int Try.underlying3 h0
    obtain ⟨k1, e1, r1, w1⟩ := DataW.trod_int Try.underlying3 h1
    have e0' : (cs.drop 0).take (Try.prog.cellsOf 3) = [.int .i64 k0] := e0
    have e1' : (cs.drop 1).take (Try.prog.cellsOf 3) = [.int .i64 k1] := e1
    have h2' : DataW.trod enc Try.prog w 0 (fun _ => true) true n 22 ((cs.drop 2).take (Try.prog.cellsOf 22)) = some x2 := h2
    rw [cOp] at hl
    rw [cInt] at e0' e1'
    rw [cSl] at h2'
    match cs, hl with
    | [c0, c1, c2], _ =>
      simp at e0' e1'
      subst e0'; subst e1'
      simp only [List.drop_succ_cons, List.drop_zero, List.take_succ_cons, List.take_zero] at h2'
      obtain ⟨ai, ci, zs, rfl, hr, hd⟩ := inner_of (d := x2.1) (p := x2.2) h2'
      refine ⟨k0, k1, ai, ci, zs, rfl, rfl, rfl, hr, inner_bound hd ?_⟩
      intro m hm
      refine hw m ?_
      obtain ⟨rfl, _⟩ := Prod.mk.inj hx
      exact weights_part (t := 46) (j := 2) Try.underlying46 rfl (d := x2.1) rfl m hm

theorem ops_of {H : Type} {enc : TypeId × Value → H} {W : World} {a0 : Option Addr} {len0 cap0 : Nat} {d : DataW H} {p : List MemPlace}
    (h : DataW.Trod enc Try.prog W 0 (fun _ => true) true 43 (.slice a0 len0 cap0) d p) (hw : ∀ n ∈ d.weights Try.prog 43, n ≤ reachBytes) :
    RdO W (.slice a0 len0 cap0) len0 := by
  obtain ⟨fuel, hf⟩ := h
  rcases DataW.trod_slice Try.underlying43 hf with ⟨hcs, _⟩ | ⟨x, l, c, elems, rest, n, _, hcs, hx, hb, hl, hm, hlen, hel, _, _⟩
  · simp [Value.cells] at hcs
    obtain ⟨rfl, rfl, rfl⟩ := hcs
    exact ⟨none, 0, rfl, Nat.le_refl _, by simp [maxLen], fun h => by omega⟩
  · simp [Value.cells] at hcs
    obtain ⟨rfl, rfl, rfl⟩ := hcs
    rw [cOp] at hel
    obtain ⟨rfl, _⟩ := Prod.mk.inj hx
    obtain ⟨b, off, spot⟩ := x
    have each : ∀ i, i < len0 → ∃ kind at' ai ci zs, W.cell? ((⟨b, off, spot⟩ : Addr).add (i * 3)) = some (.int .i64 kind) ∧ W.cell? (((⟨b, off, spot⟩ : Addr).add (i * 3)).add 1) = some (.int .i64 at') ∧ W.cell? (((⟨b, off, spot⟩ : Addr).add (i * 3)).add 2) = some (.slice ai zs.length ci) ∧ Rd .i64 W (.slice ai zs.length ci) zs ∧ zs.length * 8 ≤ 140737488351232 := by
      intro i hi
      have hi' : i < elems.length := by omega
      have := hel i hi
      rw [List.getElem?_eq_getElem hi', Option.bind_eq_some_iff] at this
      obtain ⟨cs, hcs, hy⟩ := this
      obtain ⟨kind, at', ai, ci, zs, e0, e1, e2, hr, hz⟩ := op_cells (d := elems[i].1) (p := elems[i].2) hy (fun m hm => hw m (weights_slice Try.underlying43 (List.mem_map.2 ⟨elems[i], List.getElem_mem hi', rfl⟩) m hm))
      have hcell := (World.cells?_some hcs).2.2
      refine ⟨kind, at', ai, ci, zs, ?_, ?_, ?_, hr, hz⟩
      · have := hcell 0 (by omega)
        rw [e0] at this
        simpa [Addr.add] using this
      · have := hcell 1 (by omega)
        rw [e1] at this
        exact this
      · have := hcell 2 (by omega)
        rw [e2] at this
        exact this
    refine ⟨some ⟨b, off, spot⟩, cap0, rfl, hl, hm, fun hpos => ?_⟩
    have hs : spot = none := by
      obtain ⟨_, _, _, _, _, h1, _⟩ := each 0 hpos
      simpa [Addr.add] using World.cell?_spot h1
    subst hs
    obtain ⟨_, _, _, _, _, h1, _⟩ := each 0 hpos
    refine ⟨b, off, rfl, World.block_lt_of_cell? W _ (by simpa [Addr.add] using h1), fun i hi => ?_⟩
    obtain ⟨kind, at', ai, ci, zs, e0, e1, e2, hr, hz⟩ := each i hi
    rw [Addr.add_lit] at e0 e1 e2
    rw [Addr.add_lit] at e1 e2
    exact ⟨kind, at', ai, ci, zs, e0, e1, e2, hr, hz⟩

/-- The slice v holds n lists. -/
def RdL (w : World) (v : Value) (zss : List (List Int)) : Prop :=
  ∃ ao cap, v = .slice ao zss.length cap ∧ zss.length ≤ cap ∧ cap ≤ maxLen ∧ (0 < zss.length → ∃ b off, ao = some ⟨b, off, none⟩ ∧ b < w.heap.size ∧ ∀ i, i < zss.length → ∃ ai ci,
    w.cell? ⟨b, off + i, none⟩ = some (.slice ai (zss[i]?.getD []).length ci) ∧ Rd .i64 w (.slice ai (zss[i]?.getD []).length ci) (zss[i]?.getD []))

theorem lists_of {H : Type} {enc : TypeId × Value → H} {W : World} {a0 : Option Addr} {len0 cap0 : Nat} {d : DataW H} {p : List MemPlace}
    (h : DataW.Trod enc Try.prog W 0 (fun _ => true) true 29 (.slice a0 len0 cap0) d p) :
    ∃ zss, RdL W (.slice a0 len0 cap0) zss ∧ (zss = [] ∨ ∃ el sp, d = DataW.slice el sp ∧ el.length = zss.length ∧ ∀ i, i < zss.length → ∃ x, el[i]? = some x ∧ (zss[i]?.getD [] = [] ∨ ∃ e' s', x = DataW.slice e' s' ∧ e'.length = (zss[i]?.getD []).length)) := by
  obtain ⟨fuel, hf⟩ := h
  rcases DataW.trod_slice Try.underlying29 hf with ⟨hcs, _⟩ | ⟨x, l, c, elems, rest, n, _, hcs, hx, hb, hl, hm, hlen, hel, _, _⟩
  · simp [Value.cells] at hcs
    obtain ⟨rfl, rfl, rfl⟩ := hcs
    exact ⟨[], ⟨none, 0, rfl, Nat.le_refl _, by simp [maxLen], fun h => by simp at h⟩, .inl rfl⟩
  · simp [Value.cells] at hcs
    obtain ⟨rfl, rfl, rfl⟩ := hcs
    rw [cSl] at hel
    obtain ⟨rfl, _⟩ := Prod.mk.inj hx
    obtain ⟨b, off, spot⟩ := x
    have each : ∀ i, i < len0 → ∃ zs, (∃ ai ci, W.cell? ((⟨b, off, spot⟩ : Addr).add (i * 1)) = some (.slice ai zs.length ci) ∧ Rd .i64 W (.slice ai zs.length ci) zs) ∧ ∃ x, (elems.map (·.1))[i]? = some x ∧ (zs = [] ∨ ∃ e' s', x = DataW.slice e' s' ∧ e'.length = zs.length) := by
      intro i hi
      have hi' : i < elems.length := by omega
      have := hel i hi
      rw [List.getElem?_eq_getElem hi', Option.bind_eq_some_iff] at this
      obtain ⟨cs, hcs, hy⟩ := this
      have hcl := (World.cells?_some hcs).2.1
      have hcell := (World.cells?_some hcs).2.2 0 (by omega)
      match cs, hcl with
      | [c], _ =>
        obtain ⟨ai, ci, zs, rfl, hr, hd⟩ := inner_of (d := elems[i].1) (p := elems[i].2) hy
        refine ⟨zs, ⟨ai, ci, by simpa [Addr.add] using hcell, hr⟩, elems[i].1, by simp [hi'], hd⟩
    obtain ⟨f, hf'⟩ : ∃ f : Nat → List Int, ∀ i, i < len0 → (∃ ai ci, W.cell? ((⟨b, off, spot⟩ : Addr).add (i * 1)) = some (.slice ai (f i).length ci) ∧ Rd .i64 W (.slice ai (f i).length ci) (f i)) ∧ ∃ x, (elems.map (·.1))[i]? = some x ∧ (f i = [] ∨ ∃ e' s', x = DataW.slice e' s' ∧ e'.length = (f i).length) := by
      refine ⟨fun i => if h : i < len0 then Classical.choose (each i h) else [], fun i hi => ?_⟩
      have := Classical.choose_spec (each i hi)
      simp only [dif_pos hi]
      exact this
    have hl' : ((List.range len0).map f).length = len0 := by simp
    have hg : ∀ i, i < len0 → ((List.range len0).map f)[i]?.getD [] = f i := fun i hi => by rw [List.getElem?_map, List.getElem?_range hi]; rfl
    refine ⟨(List.range len0).map f, ⟨some ⟨b, off, spot⟩, cap0, by rw [hl'], by rw [hl']; exact hl, hm, fun hpos => ?_⟩, .inr ⟨_, _, rfl, by rw [hl']; simp [hlen], fun i hi => ?_⟩⟩
    · rw [hl'] at hpos
      have hs : spot = none := by
        obtain ⟨⟨ai, ci, h1, _⟩, _⟩ := hf' 0 hpos
        simpa [Addr.add] using World.cell?_spot h1
      subst hs
      obtain ⟨⟨ai, ci, h1, _⟩, _⟩ := hf' 0 hpos
      refine ⟨b, off, rfl, World.block_lt_of_cell? W _ (by simpa [Addr.add] using h1), fun i hi => ?_⟩
      rw [hl'] at hi
      obtain ⟨⟨ai, ci, h1, h2⟩, _⟩ := hf' i hi
      rw [hg i hi]
      rw [Addr.add_lit, Nat.mul_one] at h1
      exact ⟨ai, ci, h1, h2⟩
    · rw [hl'] at hi
      rw [hg i hi]
      exact (hf' i hi).2
end Go.Proofs.Ytahjjpleceppaaa
