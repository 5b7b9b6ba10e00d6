/- A script that came in, up to the bound. -/
import Derived.Test.YtmfbobibpebfnaaSLaw
import Derived.Test.YtmfbobibpebfnaaBulk
namespace Go.Proofs.Ytmfbobibpebfnaa
open Go.ChangeShapes Go.WideShapes Go.ChangeAt Go.RowKit

theorem cBy : Try.prog.cellsOf 24 = 1 := by kernel_rfl
theorem cIn : Try.prog.cellsOf 3 = 1 := by kernel_rfl
theorem cOp : Try.prog.cellsOf 26 = 3 := by kernel_rfl
theorem bulk_agg {H : Type} {parts : List (DataW H)} {d : DataW H} (h : d ∈ parts) : Rows.uptoBulk d ≤ Rows.uptoBulk (DataW.agg parts) := by
  have := bulk_part h
  simp only [Rows.uptoBulk]
  omega
theorem bulk_el {H : Type} {el sp : List (DataW H)} : el.length ≤ Rows.uptoBulk (DataW.slice el sp) := by
  have := bulk_length el
  simp only [Rows.uptoBulk]
  omega
theorem sl_bulk {H : Type} : ∀ (l : List (DataW H)) (f : Nat → Stp), (∀ i (hi : i < l.length), (f i).d.length ≤ Rows.uptoBulk l[i]) → sl ((List.range l.length).map f) ≤ Rows.uptoBulkAll l
  | [], _, _ => by simp [sl]
  | x :: l, f, h => by
    have h0 := h 0 (by simp)
    have ih := sl_bulk l (fun i => f (i + 1)) (fun i hi => by have := h (i + 1) (by simpa using hi); simpa using this)
    rw [List.length_cons, List.range_succ_eq_map, List.map_cons, List.map_map]
    have e : sl (f 0 :: (List.range l.length).map (f ∘ Nat.succ)) = (f 0).d.length + sl ((List.range l.length).map fun i => f (i + 1)) := by simp [sl, Function.comp_def]
    rw [e]
    simp only [Rows.uptoBulkAll]
    simp only [List.getElem_cons_zero] at h0
    omega
/-- One inner list of bytes: what is read of its one cell. -/
theorem inner_of {H : Type} {enc : TypeId × Value → H} {W : World} {fuel : Nat} {c : Value} {d : DataW H} {p : List MemPlace}
    (h : DataW.trod enc Try.prog W 0 (fun _ => true) true fuel 24 [c] = some (d, p)) :
    ∃ ao cap zs, c = .slice ao zs.length cap ∧ Rd .u8 W (.slice ao zs.length cap) zs ∧ Byt zs ∧ zs.length ≤ Rows.uptoBulk d := by
  have hs : ∃ ao len cap, c = .slice ao len cap := by
    rcases DataW.trod_slice Try.underlying24 h with ⟨hcs, _⟩ | ⟨x, l, k, elems, rest, n, _, hcs, _⟩
    · exact ⟨none, 0, 0, by simpa using hcs⟩
    · exact ⟨some x, l, k, by simpa using hcs⟩
  obtain ⟨ao, len, cap, rfl⟩ := hs
  obtain ⟨zs, hr, hw, hd⟩ := rd_of (enc := enc) (d := d) (p := p) Try.underlying24 Try.underlying5 (by kernel_rfl) ⟨fuel, by simpa [Value.cells] using h⟩
  obtain ⟨ao', cap', hv, r1, r2, r3⟩ := id hr
  simp only [Value.slice.injEq] at hv
  obtain ⟨rfl, rfl, rfl⟩ := hv
  refine ⟨ao, cap, zs, rfl, hr, byt_of hw, ?_⟩
  rcases hd with rfl | ⟨el, sp, rfl, hel⟩
  · simp
  · rw [← hel]; exact bulk_el
/-- A step, and what is read of its three cells. -/
structure OpAt (w : World) (f : Nat → Option Value) (o : Stp) : Prop where
  c0 : f 0 = some (.int .i64 o.kind)
  c1 : f 1 = some (.int .i64 o.who)
  c2 : f 2 = some (.slice o.ai o.d.length o.ci)
  rd : Rd .u8 w (.slice o.ai o.d.length o.ci) o.d
  bt : Byt o.d
set_option maxRecDepth 100000 in
theorem op_cells {H : Type} {enc : TypeId × Value → H} {w : World} {fuel : Nat} {cs : List Value} {d : DataW H} {p : List MemPlace}
    (h : DataW.trod enc Try.prog w 0 (fun _ => true) true fuel 26 cs = some (d, p)) :
    ∃ o : Stp, OpAt w (fun i => cs[i]?) o ∧ o.d.length ≤ Rows.uptoBulk d := by
  obtain ⟨xs, n, rfl, hx, hl, hxl, hall⟩ := DataW.trod_struct Try.underlying26 h
  match xs, hxl with
  | [x0, x1, x2], _ =>
    obtain ⟨k0, e0, r0, w0⟩ := DataW.trod_int Try.underlying3 (hall 0 _ rfl)
    obtain ⟨k1, e1, r1, w1⟩ := DataW.trod_int Try.underlying3 (hall 1 _ rfl)
    have h2 := hall 2 _ rfl
    have e0' : (cs.drop 0).take (Try.prog.cellsOf 3) = [.int .i64 k0] := e0
    have e1' : (cs.drop 1).take (Try.prog.cellsOf 3) = [.int .i64 k1] := e1
    have h2' : DataW.trod enc Try.prog w 0 (fun _ => true) true n 24 ((cs.drop 2).take (Try.prog.cellsOf 24)) = some x2 := h2
    rw [cOp] at hl
    rw [cIn] at e0' e1'
    rw [cBy] at h2'
    match cs, hl with
    | [c0, c1, c2], _ =>
      simp at e0' e1'
      subst e0'; subst e1'
      simp only [List.drop_succ_cons, List.drop_zero, List.take_succ_cons, List.take_zero] at h2'
      obtain ⟨ai, ci, zs, rfl, hr, hb, hd⟩ := inner_of (d := x2.1) (p := x2.2) h2'
      refine ⟨⟨k0, k1, ai, ci, zs⟩, ⟨rfl, rfl, rfl, hr, hb⟩, ?_⟩
      obtain ⟨rfl, _⟩ := Prod.mk.inj hx
      exact Nat.le_trans hd (bulk_agg (d := x2.1) (by simp))
set_option maxRecDepth 100000 in
theorem ops_of {H : Type} {enc : TypeId × Value → H} {W : World} {a0 : Option Addr} {len0 cap0 : Nat} {d : DataW H} {p : List MemPlace}
    (h : DataW.Trod enc Try.prog W 0 (fun _ => true) true 22 (.slice a0 len0 cap0) d p) (hw : Rows.uptoBulk d ≤ 1048576) :
    ∃ os, RdO W (.slice a0 len0 cap0) os ∧ (∀ o ∈ os, Byt o.d ∧ o.d.length ≤ 1048576) ∧ sl os ≤ 1048576 ∧ os.length ≤ 1048576 := by
  obtain ⟨fuel, hf⟩ := h
  rcases DataW.trod_slice Try.underlying22 hf with ⟨hcs, _⟩ | ⟨x, l, c, elems, rest, n, _, hcs, hx, hb, hl, hm, hlen, hel, _, _⟩
  · simp [Value.cells] at hcs
    obtain ⟨rfl, rfl, rfl⟩ := hcs
    exact ⟨[], ⟨none, 0, rfl, fun h => by simp at h⟩, (fun o h => by cases h), by simp [sl], by simp⟩
  · simp [Value.cells] at hcs
    obtain ⟨rfl, rfl, rfl⟩ := hcs
    rw [cOp] at hel
    obtain ⟨rfl, _⟩ := Prod.mk.inj hx
    obtain ⟨b, off, spot⟩ := x
    have each : ∀ i, ∃ o : Stp, i < len0 → OpAt W (fun j => W.cell? (((⟨b, off, spot⟩ : Addr).add (i * 3)).add j)) o ∧ ∀ (hi : i < (elems.map (·.1)).length), o.d.length ≤ Rows.uptoBulk (elems.map (·.1))[i] := by
      intro i
      by_cases hi : i < len0
      · have hi' : i < elems.length := by omega
        have := hel i hi
        rw [List.getElem?_eq_getElem hi', Option.bind_eq_some_iff] at this
        obtain ⟨cs, hcs, hy⟩ := this
        obtain ⟨o, ho, hbk⟩ := op_cells (d := elems[i].1) (p := elems[i].2) hy
        have hcell := (World.cells?_some hcs).2.2
        refine ⟨o, fun _ => ⟨⟨(hcell 0 (by omega)).trans ho.c0, (hcell 1 (by omega)).trans ho.c1, (hcell 2 (by omega)).trans ho.c2, ho.rd, ho.bt⟩, fun _ => ?_⟩⟩
        rw [List.getElem_map]
        exact hbk
      · exact ⟨⟨0, 0, none, 0, []⟩, fun h => absurd h hi⟩
    obtain ⟨f, hf'⟩ := Classical.skolem.1 each
    have hle : (elems.map (·.1)).length = len0 := by rw [List.length_map]; omega
    have hlr : ((List.range len0).map f).length = len0 := by simp
    have hbe : ∀ i (hi : i < (elems.map (·.1)).length), (f i).d.length ≤ Rows.uptoBulk (elems.map (·.1))[i] := fun i hi => (hf' i (by omega)).2 hi
    have hsl := sl_bulk (elems.map (·.1)) f hbe
    rw [hle] at hsl
    have hall : Rows.uptoBulkAll (elems.map (·.1)) ≤ 1048576 := by simp only [Rows.uptoBulk] at hw; omega
    have hsm : ∀ i, i < len0 → (f i).d.length ≤ 1048576 := fun i hi => Nat.le_trans (hbe i (by omega)) (Nat.le_trans (bulk_part (List.getElem_mem _)) hall)
    refine ⟨(List.range len0).map f, ⟨some ⟨b, off, spot⟩, cap0, by rw [hlr], fun hn => ?_⟩, fun o ho => ?_, Nat.le_trans hsl hall, ?_⟩
    · rw [hlr] at hn
      have hs : spot = none := by simpa [Addr.add] using World.cell?_spot (hf' 0 hn).1.c0
      subst hs
      refine ⟨b, off, rfl, fun i o hio => ?_⟩
      have hi : i < len0 := by have := (List.getElem?_eq_some_iff.1 hio).1; rwa [hlr] at this
      have e1 : o = f i := by rw [List.getElem?_map, List.getElem?_range hi] at hio; simpa using hio.symm
      subst e1
      have := (hf' i hi).1
      simp only [Addr.add_lit] at this
      exact ⟨this.c0, this.c1, this.c2, this.rd⟩
    · rw [List.mem_map] at ho
      obtain ⟨i, hi, rfl⟩ := ho
      exact ⟨(hf' i (List.mem_range.1 hi)).1.bt, hsm i (List.mem_range.1 hi)⟩
    · have := bulk_length (elems.map (·.1))
      rw [hlr]
      omega
end Go.Proofs.Ytmfbobibpebfnaa
