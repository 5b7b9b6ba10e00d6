/- What came in: steps, lists, lists of lists. -/
import Derived.Test.YtmldfjhfgaggpaaGBnk
import Derived.ProofKit
import Derived.OpenShut
import Derived.ChangeOld
import Derived.SizedLaws
import Derived.Below
namespace Go.Proofs.Ytmldfjhfgaggpaa
open Go.ChangeShapes Go.WideShapes Go.ChangeAt Go.RowKit

theorem ownK : ownKnob Try.prog.godebug = none := by kernel_rfl
theorem laidOutK : laidOutB Try.prog = true := by kernel_rfl
theorem bytesK_i64 : Try.prog.bytesOf 3 = 8 := by kernel_rfl
theorem bytesK_sl : Try.prog.bytesOf 29 = 24 := by kernel_rfl
theorem bytesK_st : Try.prog.bytesOf 47 = 56 := by kernel_rfl
theorem cSl : Try.prog.cellsOf 29 = 1 := by kernel_rfl
theorem cIn : Try.prog.cellsOf 3 = 1 := by kernel_rfl
theorem cSt : Try.prog.cellsOf 47 = 5 := by kernel_rfl

/-- A slice of ints that came in. -/
theorem rd_of {H : Type} {enc : TypeId × Value → H} {W : World} {a0 : Option Addr} {len0 cap0 : Nat} {d : DataW H} {p : List MemPlace}
    (h : DataW.Trod enc Try.prog W 0 (fun _ => true) true 29 (.slice a0 len0 cap0) d p) :
    ∃ zs, RdS W (.slice a0 len0 cap0) zs ∧ (zs = [] ∨ ∃ el sp, d = .slice el sp ∧ el.length = zs.length) := by
  obtain ⟨fuel, hf⟩ := h
  rcases open_ints Try.underlying29 Try.underlying3 cIn hf with ⟨hcs, _⟩ | ⟨x, l, c, zs, hcs, _, hl, hm, hz, hx, hcell, hwz⟩
  · simp [Value.cells] at hcs
    obtain ⟨rfl, rfl, rfl⟩ := hcs
    exact ⟨[], rds_nil W, .inl rfl⟩
  · simp [Value.cells] at hcs
    obtain ⟨rfl, rfl, rfl⟩ := hcs
    simp at hz
    have hlen : (zs.take len0).length = len0 := by rw [List.length_take]; omega
    refine ⟨zs.take len0, ⟨⟨some x, cap0, by rw [hlen], by omega, hm, fun hn => ?_⟩, .inr ⟨_, _, _, rfl⟩⟩, .inr ⟨_, _, (Prod.mk.inj hx).1, by simp [lits]⟩⟩
    have hpos : 0 < len0 := by
      rcases Nat.eq_zero_or_pos len0 with h | h
      · subst h; simp at hn
      · exact h
    obtain ⟨b, off, spot⟩ := x
    have hc0 := hcell 0 (by omega)
    have hspot : spot = none := by simpa [Addr.add] using World.cell?_spot hc0
    subst hspot
    refine ⟨b, off, rfl, World.block_lt_of_cell? W _ (by simpa [Addr.add] using hc0), fun i hi => ?_⟩
    rw [hlen] at hi
    have := hcell i (by omega)
    rw [Addr.add_lit] at this
    rw [this, List.getElem?_take, if_pos hi]
    simp [List.getD]
theorem weights_elem {H : Type} {P : Program} {e : TypeId} : ∀ {l : List (DataW H)} {d : DataW H}, d ∈ l → ∀ n ∈ d.weights P e, n ∈ DataW.weightsAll P e l
  | x :: l, d, h, n, hn => by
    simp only [DataW.weightsAll, List.mem_append]
    rcases List.mem_cons.1 h with rfl | h
    · exact Or.inl hn
    · exact Or.inr (weights_elem h n hn)
theorem weights_slice {H : Type} {P : Program} {t e : TypeId} {el sp : List (DataW H)} {d : DataW H} (hu : P.underlying t = some (.slice e)) (h : d ∈ el) : ∀ n ∈ d.weights P e, n ∈ (DataW.slice el sp).weights P t := by
  intro n hn
  simp only [DataW.weights, hu, List.mem_cons, List.mem_append]
  exact Or.inr (Or.inl (weights_elem h n hn))
theorem weights_part {H : Type} {P : Program} {t : TypeId} {fs : Array Field} {parts : List (DataW H)} {d : DataW H} (hu : P.underlying t = some (.struct fs)) {j : Nat} {f : Field} (hf : fs[j]? = some f) (hd : parts[j]? = some d) : ∀ n ∈ d.weights P f.type, n ∈ (DataW.agg parts).weights P t := by
  intro n hn
  simp only [DataW.weights, hu]
  exact DataW.weights_mem_each (j := j) (by simp [hf]) hd n hn
theorem inner_of {H : Type} {enc : TypeId × Value → H} {W : World} {fuel : Nat} {c : Value} {d : DataW H} {p : List MemPlace}
    (h : DataW.trod enc Try.prog W 0 (fun _ => true) true fuel 29 [c] = some (d, p)) :
    ∃ zs, RdS W c zs ∧ (zs = [] ∨ ∃ el sp, d = .slice el sp ∧ el.length = zs.length) := by
  have hs : ∃ ao len cap, c = .slice ao len cap := by
    rcases DataW.trod_slice Try.underlying29 h with ⟨hcs, _⟩ | ⟨x, l, k, elems, rest, n, _, hcs, _⟩
    · exact ⟨none, 0, 0, by simpa using hcs⟩
    · exact ⟨some x, l, k, by simpa using hcs⟩
  obtain ⟨ao, len, cap, rfl⟩ := hs
  exact rd_of (enc := enc) (d := d) (p := p) ⟨fuel, by simpa [Value.cells] using h⟩
theorem inner_bound {H : Type} {zs : List Int} {d : DataW H} (hd : zs = [] ∨ ∃ el sp, d = DataW.slice el sp ∧ el.length = zs.length) (hw : ∀ n ∈ d.weights Try.prog 29, n ≤ reachBytes) : zs.length * 8 ≤ 140737488351232 := by
  rcases hd with rfl | ⟨el, sp, rfl, hel⟩
  · simp
  · have := hw ((el.length + sp.length) * Try.prog.bytesOf 3) (by simp [DataW.weights, Try.underlying29])
    rw [bytesK_i64] at this
    simp only [reachBytes] at this
    omega
/-- A step, and what is read of its five cells. -/
structure StAt (w : World) (f : Nat → Option Value) (o : Sv) : Prop where
  c0 : f 0 = some (.int .i64 o.k)
  c1 : f 1 = some (.int .i64 o.who)
  c2 : f 2 = some (.int .i64 o.n)
  c3 : f 3 = some (.int .i64 o.s)
  c4 : ∃ pv, f 4 = some pv ∧ RdS w pv o.t
  ok : o.Ok
set_option maxRecDepth 100000 in
theorem st_cells {H : Type} {enc : TypeId × Value → H} {w : World} {fuel : Nat} {cs : List Value} {d : DataW H} {p : List MemPlace}
    (h : DataW.trod enc Try.prog w 0 (fun _ => true) true fuel 47 cs = some (d, p)) (hw : ∀ n ∈ d.weights Try.prog 47, n ≤ reachBytes) :
    ∃ o : Sv, StAt w (fun i => cs[i]?) o := by
  obtain ⟨xs, n, rfl, hx, hl, hxl, hall⟩ := DataW.trod_struct Try.underlying47 h
  match xs, hxl with
  | [x0, x1, x2, x3, x4], _ =>
    obtain ⟨k0, e0, r0, w0⟩ := DataW.trod_int Try.underlying3 (hall 0 _ rfl)
    obtain ⟨k1, e1, r1, w1⟩ := DataW.trod_int Try.underlying3 (hall 1 _ rfl)
    obtain ⟨k2, e2, r2, w2⟩ := DataW.trod_int Try.underlying3 (hall 2 _ rfl)
    obtain ⟨k3, e3, r3, w3⟩ := DataW.trod_int Try.underlying3 (hall 3 _ rfl)
    have h4 := hall 4 _ rfl
    have e0' : (cs.drop 0).take (Try.prog.cellsOf 3) = [.int .i64 k0] := e0
    have e1' : (cs.drop 1).take (Try.prog.cellsOf 3) = [.int .i64 k1] := e1
    have e2' : (cs.drop 2).take (Try.prog.cellsOf 3) = [.int .i64 k2] := e2
    have e3' : (cs.drop 3).take (Try.prog.cellsOf 3) = [.int .i64 k3] := e3
    have h4' : DataW.trod enc Try.prog w 0 (fun _ => true) true n 29 ((cs.drop 4).take (Try.prog.cellsOf 29)) = some x4 := h4
    rw [cSt] at hl
    rw [cIn] at e0' e1' e2' e3'
    rw [cSl] at h4'
    match cs, hl with
    | [c0, c1, c2, c3, c4], _ =>
      simp at e0' e1' e2' e3'
      subst e0'; subst e1'; subst e2'; subst e3'
      simp only [List.drop_succ_cons, List.drop_zero, List.take_succ_cons, List.take_zero] at h4'
      obtain ⟨zs, hr, hd⟩ := inner_of (d := x4.1) (p := x4.2) h4'
      refine ⟨⟨k0, k1, k2, k3, zs⟩, rfl, rfl, rfl, rfl, ⟨_, rfl, hr⟩, ⟨w2, inner_bound hd ?_⟩⟩
      intro m hm
      refine hw m ?_
      obtain ⟨rfl, _⟩ := Prod.mk.inj hx
      exact weights_part (t := 47) (j := 4) Try.underlying47 rfl (d := x4.1) rfl m hm
set_option maxRecDepth 100000 in
theorem steps_of {H : Type} {enc : TypeId × Value → H} {W : World} {a0 : Option Addr} {len0 cap0 : Nat} {d : DataW H} {p : List MemPlace}
    (h : DataW.Trod enc Try.prog W 0 (fun _ => true) true 22 (.slice a0 len0 cap0) d p) (hw : ∀ n ∈ d.weights Try.prog 22, n ≤ reachBytes) :
    ∃ os, RdT W (.slice a0 len0 cap0) os := by
  obtain ⟨fuel, hf⟩ := h
  rcases DataW.trod_slice Try.underlying22 hf with ⟨hcs, _⟩ | ⟨x, l, c, elems, rest, n, _, hcs, hx, hb, hl, hm, hlen, hel, _, _⟩
  · simp [Value.cells] at hcs
    obtain ⟨rfl, rfl, rfl⟩ := hcs
    exact ⟨[], none, 0, rfl, Nat.le_refl _, by omega, by simp, (fun o ho => by cases ho), fun h => absurd rfl h⟩
  · simp [Value.cells] at hcs
    obtain ⟨rfl, rfl, rfl⟩ := hcs
    rw [cSt] at hel
    obtain ⟨rfl, _⟩ := Prod.mk.inj hx
    obtain ⟨b, off, spot⟩ := x
    have hbig : len0 ≤ 140737488351232 := by
      have := hw (((elems.map Prod.fst).length + (rest.map Prod.fst).length) * Try.prog.bytesOf 47) (by simp [DataW.weights, Try.underlying22])
      rw [bytesK_st] at this
      simp only [reachBytes, List.length_map] at this
      omega
    have each : ∀ i, ∃ o : Sv, i < len0 → StAt W (fun j => W.cell? (((⟨b, off, spot⟩ : Addr).add (i * 5)).add j)) o := by
      intro i
      by_cases hi : i < len0
      · have hi' : i < elems.length := by omega
        have := hel i hi
        rw [List.getElem?_eq_getElem hi', Option.bind_eq_some_iff] at this
        obtain ⟨cs, hcs, hy⟩ := this
        obtain ⟨o, ho⟩ := st_cells (d := elems[i].1) (p := elems[i].2) hy (fun m hm => hw m (weights_slice Try.underlying22 (List.mem_map.2 ⟨elems[i], List.getElem_mem hi', rfl⟩) m hm))
        have hcell := (World.cells?_some hcs).2.2
        obtain ⟨pv, h1, h2⟩ := ho.c4
        exact ⟨o, fun _ => ⟨(hcell 0 (by omega)).trans ho.c0, (hcell 1 (by omega)).trans ho.c1, (hcell 2 (by omega)).trans ho.c2, (hcell 3 (by omega)).trans ho.c3, ⟨pv, (hcell 4 (by omega)).trans h1, h2⟩, ho.ok⟩⟩
      · exact ⟨⟨0, 0, 0, 0, []⟩, fun h => absurd h hi⟩
    obtain ⟨f, hf'⟩ := Classical.skolem.1 each
    have hlr : ((List.range len0).map f).length = len0 := by simp
    refine ⟨(List.range len0).map f, some ⟨b, off, spot⟩, cap0, by rw [hlr], by rw [hlr]; exact hl, by unfold maxLen at hm; exact hm, by rw [hlr]; exact hbig, fun o ho => ?_, fun hn => ?_⟩
    · rw [List.mem_map] at ho
      obtain ⟨i, hi, rfl⟩ := ho
      exact (hf' i (List.mem_range.1 hi)).ok
    · have hpos : 0 < len0 := by rw [← hlr]; exact List.length_pos_iff.2 hn
      have hs : spot = none := by simpa [Addr.add] using World.cell?_spot (hf' 0 hpos).c0
      subst hs
      refine ⟨b, off, rfl, World.block_lt_of_cell? W _ (by simpa [Addr.add] using (hf' 0 hpos).c0), fun i e hie => ?_⟩
      have hi : i < len0 := by have := (List.getElem?_eq_some_iff.1 hie).1; rwa [hlr] at this
      have e1 : e = f i := by rw [List.getElem?_map, List.getElem?_range hi] at hie; simpa using hie.symm
      subst e1
      have := hf' i hi
      simp only [Addr.add_lit] at this
      exact ⟨this.c0, this.c1, this.c2, this.c3, this.c4⟩
/-- The slice v holds the lists ls. -/
def RdL (w : World) (v : Value) (ls : List (List Int)) : Prop := ∃ ao cap, v = .slice ao ls.length cap ∧ ls.length ≤ cap ∧ cap ≤ 9223372036854775807 ∧ (∀ x ∈ ls, x.length * 8 ≤ 140737488351232) ∧ (ls ≠ [] → ∃ b off, ao = some ⟨b, off, none⟩ ∧ b < w.heap.size ∧ ∀ i x, ls[i]? = some x → ∃ pv, w.cell? ⟨b, off + i, none⟩ = some pv ∧ RdS w pv x)
theorem RdL.ext {w w' : World} {v : Value} {ls : List (List Int)} (h : RdL w v ls) (hb : Below w.heap.size w w') : RdL w' v ls := by
  obtain ⟨ao, cap, h1, h2, h3, h4, h5⟩ := h
  refine ⟨ao, cap, h1, h2, h3, h4, fun hn => ?_⟩
  obtain ⟨b, o, k1, k2, k3⟩ := h5 hn
  refine ⟨b, o, k1, Nat.lt_of_lt_of_le k2 hb.size, fun i x hx => ?_⟩
  obtain ⟨pv, c, d⟩ := k3 i x hx
  exact ⟨pv, (hb.cell (p := ⟨b, _, none⟩) k2).trans c, d.ext hb⟩
set_option maxRecDepth 100000 in
theorem lists_of {H : Type} {enc : TypeId × Value → H} {W : World} {a0 : Option Addr} {len0 cap0 : Nat} {d : DataW H} {p : List MemPlace}
    (h : DataW.Trod enc Try.prog W 0 (fun _ => true) true 23 (.slice a0 len0 cap0) d p) (hw : ∀ n ∈ d.weights Try.prog 23, n ≤ reachBytes) :
    ∃ ls, RdL W (.slice a0 len0 cap0) ls := by
  obtain ⟨fuel, hf⟩ := h
  rcases DataW.trod_slice Try.underlying23 hf with ⟨hcs, _⟩ | ⟨x, l, c, elems, rest, n, _, hcs, hx, hb, hl, hm, hlen, hel, _, _⟩
  · simp [Value.cells] at hcs
    obtain ⟨rfl, rfl, rfl⟩ := hcs
    exact ⟨[], none, 0, rfl, Nat.le_refl _, by omega, (fun o ho => by cases ho), fun h => absurd rfl h⟩
  · simp [Value.cells] at hcs
    obtain ⟨rfl, rfl, rfl⟩ := hcs
    rw [cSl] at hel
    obtain ⟨rfl, _⟩ := Prod.mk.inj hx
    obtain ⟨b, off, spot⟩ := x
    have each : ∀ i, ∃ o : List Int, i < len0 → (∃ pv, W.cell? ((⟨b, off, spot⟩ : Addr).add i) = some pv ∧ RdS W pv o) ∧ o.length * 8 ≤ 140737488351232 := by
      intro i
      by_cases hi : i < len0
      · have hi' : i < elems.length := by omega
        have := hel i hi
        rw [List.getElem?_eq_getElem hi', Option.bind_eq_some_iff] at this
        obtain ⟨cs, hcs, hy⟩ := this
        have hcell := (World.cells?_some hcs).2.2
        have hlc : cs.length = 1 := by have := (World.cells?_some hcs).2.1; simpa using this
        match cs, hlc with
        | [c0], _ =>
          obtain ⟨zs, hr, hd⟩ := inner_of (d := elems[i].1) (p := elems[i].2) hy
          refine ⟨zs, fun _ => ⟨⟨c0, ?_, hr⟩, inner_bound hd (fun m hm => hw m (weights_slice Try.underlying23 (List.mem_map.2 ⟨elems[i], List.getElem_mem hi', rfl⟩) m hm))⟩⟩
          have := hcell 0 (by omega)
          simpa [Addr.add] using this
      · exact ⟨[], fun h => absurd h hi⟩
    obtain ⟨f, hf'⟩ := Classical.skolem.1 each
    have hlr : ((List.range len0).map f).length = len0 := by simp
    refine ⟨(List.range len0).map f, some ⟨b, off, spot⟩, cap0, by rw [hlr], by rw [hlr]; exact hl, by unfold maxLen at hm; exact hm, fun o ho => ?_, fun hn => ?_⟩
    · rw [List.mem_map] at ho
      obtain ⟨i, hi, rfl⟩ := ho
      exact (hf' i (List.mem_range.1 hi)).2
    · have hpos : 0 < len0 := by rw [← hlr]; exact List.length_pos_iff.2 hn
      obtain ⟨⟨pv0, hp0, _⟩, _⟩ := hf' 0 hpos
      have hs : spot = none := by simpa [Addr.add] using World.cell?_spot hp0
      subst hs
      refine ⟨b, off, rfl, World.block_lt_of_cell? W _ (by simpa [Addr.add] using hp0), fun i e hie => ?_⟩
      have hi : i < len0 := by have := (List.getElem?_eq_some_iff.1 hie).1; rwa [hlr] at this
      have e1 : e = f i := by rw [List.getElem?_map, List.getElem?_range hi] at hie; simpa using hie.symm
      subst e1
      obtain ⟨⟨pv, h1, h2⟩, _⟩ := hf' i hi
      rw [Addr.add_lit] at h1
      exact ⟨pv, h1, h2⟩
end Go.Proofs.Ytmldfjhfgaggpaa
