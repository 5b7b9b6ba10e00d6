import Derived.Test.YtmfbobibpebfnaaGreatJ24
import Derived.Test.YtmfbobibpebfnaaGreatJ01
import Derived.ProofKit
import Derived.OpenShut
import Derived.ChangeOld
import Derived.SizedLaws
import Derived.Below
import Derived.JoinedCond
/- What the rows' proofs share: a slice of integers that came in. -/
namespace Go.Proofs.YtmfbobibpebfnaaGreat
open Go.ChangeShapes Go.WideShapes Go.ChangeAt Go.RowKit

theorem ownK : ownKnob Tryz.prog.godebug = none := by kernel_rfl
theorem laidOutK : laidOutB Tryz.prog = true := by kernel_rfl
theorem bytesK_u8 : Tryz.prog.bytesOf 5 = 1 := by kernel_rfl
theorem bytesK_i64 : Tryz.prog.bytesOf 3 = 8 := by kernel_rfl

/-- A slice of integers that came in: it reads as a list; each number fits its kind; its datum has as many elements. -/
theorem rd_of {H : Type} {enc : TypeId × Value → H} {W : World} {t e : TypeId} {k : IntKind} {a0 : Option Addr} {len0 cap0 : Nat} {d : DataW H} {p : List MemPlace}
    (ht : Tryz.prog.underlying t = some (.slice e)) (he : Tryz.prog.underlying e = some (.int k)) (hc : Tryz.prog.cellsOf e = 1)
    (h : DataW.Trod enc Tryz.prog W 0 (fun _ => true) true t (.slice a0 len0 cap0) d p) :
    ∃ zs, Rd k W (.slice a0 len0 cap0) zs ∧ (∀ n ∈ zs, (Lit.int k n).wf = true) ∧ (zs = [] ∨ ∃ el sp, d = .slice el sp ∧ el.length = zs.length) := by
  obtain ⟨fuel, hf⟩ := h
  rcases open_ints ht he hc hf with ⟨hcs, _⟩ | ⟨x, l, c, zs, hcs, _, hl, hm, hz, hx, hcell, hwz⟩
  · simp [Value.cells] at hcs
    obtain ⟨rfl, rfl, rfl⟩ := hcs
    exact ⟨[], ⟨none, 0, rfl, Nat.le_refl _, by simp [maxLen], fun h => absurd rfl h⟩, by simp, .inl rfl⟩
  · simp [Value.cells] at hcs
    obtain ⟨rfl, rfl, rfl⟩ := hcs
    simp at hz
    have hlen : (zs.take len0).length = len0 := by rw [List.length_take]; omega
    refine ⟨zs.take len0, ⟨some x, cap0, by rw [hlen], by omega, hm, fun hn => ?_⟩, fun n hn => hwz n (List.mem_of_mem_take hn), .inr ⟨_, _, (Prod.mk.inj hx).1, by simp [lits]⟩⟩
    have hpos : 0 < len0 := by
      rcases Nat.eq_zero_or_pos len0 with h | h
      · subst h; simp at hn
      · exact h
    obtain ⟨b, off, spot⟩ := x
    have hc0 := hcell 0 (by omega)
    have hspot : spot = none := by simpa [Addr.add] using World.cell?_spot hc0
    subst hspot
    refine ⟨b, off, rfl, World.block_lt_of_cell? W _ (by simpa [Addr.add] using hc0), fun i hi => ?_⟩
    rw [hlen] at hi
    have := hcell i (by omega)
    rw [Addr.add_lit] at this
    rw [this, List.getElem?_take, if_pos hi]
    simp [List.getD]

theorem byt_of {zs : List Int} (h : ∀ n ∈ zs, (Lit.int .u8 n).wf = true) : Byt zs := by
  intro z hz
  have := bounds_u8 (h z hz)
  omega
end Go.Proofs.YtmfbobibpebfnaaGreat

/- What the bound of an Upto row gives: so many elements at the most. -/
namespace Go.Proofs.YtmfbobibpebfnaaGreat
open Go.ChangeShapes Go.WideShapes Go.ChangeAt Go.RowKit

theorem bulk_one {H : Type} (d : DataW H) : 1 ≤ Rows.uptoBulk d := by
  cases d with
  | lit l => cases l <;> simp [Rows.uptoBulk]
  | nil => simp [Rows.uptoBulk]
  | ptr d => simp [Rows.uptoBulk]
  | slice elems spare => simp [Rows.uptoBulk]
  | agg parts => simp [Rows.uptoBulk]
  | iface t d => simp [Rows.uptoBulk]
  | map entries => simp [Rows.uptoBulk]
  | held h => simp [Rows.uptoBulk]
theorem bulk_part {H : Type} {d : DataW H} {l : List (DataW H)} (h : d ∈ l) : Rows.uptoBulk d ≤ Rows.uptoBulkAll l := by
  induction l with
  | nil => cases h
  | cons x r ih =>
    simp only [Rows.uptoBulkAll]
    cases List.mem_cons.1 h with
    | inl e => subst e; omega
    | inr e => have := ih e; omega
theorem bulk_length {H : Type} (l : List (DataW H)) : l.length ≤ Rows.uptoBulkAll l := by
  induction l with
  | nil => simp
  | cons x r ih => have := bulk_one x; simp only [Rows.uptoBulkAll, List.length_cons]; omega
theorem bulk_bound {H : Type} {l : List (DataW H)} (hk : Rows.uptoSmall H l = true) : Rows.uptoBulkAll l ≤ 1048576 := of_decide_eq_true hk
theorem bulk_slice {H : Type} {l el sp : List (DataW H)} (hk : Rows.uptoSmall H l = true) (h : DataW.slice el sp ∈ l) : el.length ≤ 1048576 := by
  have h1 := bulk_bound hk
  have h2 := bulk_part h
  have h3 := bulk_length el
  simp only [Rows.uptoBulk] at h2
  omega
end Go.Proofs.YtmfbobibpebfnaaGreat

/- Calls that came in, up to the bound. -/
namespace Go.Proofs.YtmfbobibpebfnaaGreat
open Go.ChangeShapes Go.WideShapes Go.ChangeAt Go.RowKit

theorem cBy : Tryz.prog.cellsOf 35 = 1 := by kernel_rfl
theorem cLi : Tryz.prog.cellsOf 36 = 1 := by kernel_rfl
theorem cIn : Tryz.prog.cellsOf 3 = 1 := by kernel_rfl
theorem cOp : Tryz.prog.cellsOf 38 = 6 := by kernel_rfl
theorem bulk_agg {H : Type} {parts : List (DataW H)} {d : DataW H} (h : d ∈ parts) : Rows.uptoBulk d ≤ Rows.uptoBulk (DataW.agg parts) := by
  have := bulk_part h
  simp only [Rows.uptoBulk]
  omega
theorem bulk_el {H : Type} {el sp : List (DataW H)} : el.length ≤ Rows.uptoBulk (DataW.slice el sp) := by
  have := bulk_length el
  simp only [Rows.uptoBulk]
  omega
theorem sl_bulk {H : Type} : ∀ (l : List (DataW H)) (f : Nat → Cst), (∀ i (hi : i < l.length), (f i).d.length ≤ Rows.uptoBulk l[i]) → sl ((List.range l.length).map f) ≤ Rows.uptoBulkAll l
  | [], _, _ => by simp [sl]
  | x :: l, f, h => by
    have h0 := h 0 (by simp)
    have ih := sl_bulk l (fun i => f (i + 1)) (fun i hi => by have := h (i + 1) (by simpa using hi); simpa using this)
    rw [List.length_cons, List.range_succ_eq_map, List.map_cons, List.map_map]
    have e : sl (f 0 :: (List.range l.length).map (f ∘ Nat.succ)) = (f 0).d.length + sl ((List.range l.length).map fun i => f (i + 1)) := by simp [sl, Function.comp_def]
    rw [e]
    simp only [Rows.uptoBulkAll]
    simp only [List.getElem_cons_zero] at h0
    omega
/-- One inner list of bytes: what is read of its one cell. -/
theorem inner_of {H : Type} {enc : TypeId × Value → H} {W : World} {fuel : Nat} {c : Value} {d : DataW H} {p : List MemPlace}
    (h : DataW.trod enc Tryz.prog W 0 (fun _ => true) true fuel 35 [c] = some (d, p)) :
    ∃ ao cap zs, c = .slice ao zs.length cap ∧ Rd .u8 W (.slice ao zs.length cap) zs ∧ Byt zs ∧ zs.length ≤ Rows.uptoBulk d := by
  have hs : ∃ ao len cap, c = .slice ao len cap := by
    rcases DataW.trod_slice Tryz.underlying35 h with ⟨hcs, _⟩ | ⟨x, l, k, elems, rest, n, _, hcs, _⟩
    · exact ⟨none, 0, 0, by simpa using hcs⟩
    · exact ⟨some x, l, k, by simpa using hcs⟩
  obtain ⟨ao, len, cap, rfl⟩ := hs
  obtain ⟨zs, hr, hw, hd⟩ := rd_of (enc := enc) (d := d) (p := p) Tryz.underlying35 Tryz.underlying5 (by kernel_rfl) ⟨fuel, by simpa [Value.cells] using h⟩
  obtain ⟨ao', cap', hv, r1, r2, r3⟩ := id hr
  simp only [Value.slice.injEq] at hv
  obtain ⟨rfl, rfl, rfl⟩ := hv
  refine ⟨ao, cap, zs, rfl, hr, byt_of hw, ?_⟩
  rcases hd with rfl | ⟨el, sp, rfl, hel⟩
  · simp
  · rw [← hel]; exact bulk_el
/-- One inner list of ints: what is read of its one cell. -/
theorem inner_li {H : Type} {enc : TypeId × Value → H} {W : World} {fuel : Nat} {c : Value} {d : DataW H} {p : List MemPlace}
    (h : DataW.trod enc Tryz.prog W 0 (fun _ => true) true fuel 36 [c] = some (d, p)) :
    ∃ ao cap zs, c = .slice ao zs.length cap ∧ Rd .i64 W (.slice ao zs.length cap) zs ∧ zs.length ≤ Rows.uptoBulk d := by
  have hs : ∃ ao len cap, c = .slice ao len cap := by
    rcases DataW.trod_slice Tryz.underlying36 h with ⟨hcs, _⟩ | ⟨x, l, k, elems, rest, n, _, hcs, _⟩
    · exact ⟨none, 0, 0, by simpa using hcs⟩
    · exact ⟨some x, l, k, by simpa using hcs⟩
  obtain ⟨ao, len, cap, rfl⟩ := hs
  obtain ⟨zs, hr, hw, hd⟩ := rd_of (enc := enc) (d := d) (p := p) Tryz.underlying36 Tryz.underlying3 (by kernel_rfl) ⟨fuel, by simpa [Value.cells] using h⟩
  obtain ⟨ao', cap', hv, r1, r2, r3⟩ := id hr
  simp only [Value.slice.injEq] at hv
  obtain ⟨rfl, rfl, rfl⟩ := hv
  refine ⟨ao, cap, zs, rfl, hr, ?_⟩
  rcases hd with rfl | ⟨el, sp, rfl, hel⟩
  · simp
  · rw [← hel]; exact bulk_el
/-- A call, and what is read of its six cells. -/
structure OpAt (w : World) (f : Nat → Option Value) (o : Cst) : Prop where
  c0 : f 0 = some (.int .i64 o.kind)
  c1 : f 1 = some (.int .i64 o.who)
  c2 : f 2 = some (.int .i64 o.en)
  c3 : f 3 = some (.int .i64 o.nn)
  c4 : f 4 = some (.slice o.ai o.d.length o.ci)
  c5 : f 5 = some (.slice o.li o.l.length o.lc)
  rd : Rd .u8 w (.slice o.ai o.d.length o.ci) o.d
  rl : Rd .i64 w (.slice o.li o.l.length o.lc) o.l
  bt : Byt o.d
set_option maxRecDepth 100000 in
theorem op_cells {H : Type} {enc : TypeId × Value → H} {w : World} {fuel : Nat} {cs : List Value} {d : DataW H} {p : List MemPlace}
    (h : DataW.trod enc Tryz.prog w 0 (fun _ => true) true fuel 38 cs = some (d, p)) :
    ∃ o : Cst, OpAt w (fun i => cs[i]?) o ∧ o.d.length ≤ Rows.uptoBulk d ∧ o.l.length ≤ Rows.uptoBulk d := by
  obtain ⟨xs, n, rfl, hx, hl, hxl, hall⟩ := DataW.trod_struct Tryz.underlying38 h
  match xs, hxl with
  | [x0, x1, x2, x3, x4, x5], _ =>
    obtain ⟨k0, e0, r0, w0⟩ := DataW.trod_int Tryz.underlying3 (hall 0 _ rfl)
    obtain ⟨k1, e1, r1, w1⟩ := DataW.trod_int Tryz.underlying3 (hall 1 _ rfl)
    obtain ⟨k2, e2, r2, w2⟩ := DataW.trod_int Tryz.underlying3 (hall 2 _ rfl)
    obtain ⟨k3, e3, r3, w3⟩ := DataW.trod_int Tryz.underlying3 (hall 3 _ rfl)
    have h4 := hall 4 _ rfl
    have h5 := hall 5 _ rfl
    have e0' : (cs.drop 0).take (Tryz.prog.cellsOf 3) = [.int .i64 k0] := e0
    have e1' : (cs.drop 1).take (Tryz.prog.cellsOf 3) = [.int .i64 k1] := e1
    have e2' : (cs.drop 2).take (Tryz.prog.cellsOf 3) = [.int .i64 k2] := e2
    have e3' : (cs.drop 3).take (Tryz.prog.cellsOf 3) = [.int .i64 k3] := e3
    have h4' : DataW.trod enc Tryz.prog w 0 (fun _ => true) true n 35 ((cs.drop 4).take (Tryz.prog.cellsOf 35)) = some x4 := h4
    have h5' : DataW.trod enc Tryz.prog w 0 (fun _ => true) true n 36 ((cs.drop 5).take (Tryz.prog.cellsOf 36)) = some x5 := h5
    rw [cOp] at hl
    rw [cIn] at e0' e1' e2' e3'
    rw [cBy] at h4'
    rw [cLi] at h5'
    match cs, hl with
    | [c0, c1, c2, c3, c4, c5], _ =>
      simp at e0' e1' e2' e3'
      subst e0'; subst e1'; subst e2'; subst e3'
      simp only [List.drop_succ_cons, List.drop_zero, List.take_succ_cons, List.take_zero] at h4' h5'
      obtain ⟨ai, ci, zs, rfl, hr, hb, hd⟩ := inner_of (d := x4.1) (p := x4.2) h4'
      obtain ⟨li, lc, ls, rfl, hrl, hdl⟩ := inner_li (d := x5.1) (p := x5.2) h5'
      refine ⟨⟨k0, k1, k2, k3, ai, ci, zs, li, lc, ls⟩, ⟨rfl, rfl, rfl, rfl, rfl, rfl, hr, hrl, hb⟩, ?_, ?_⟩
      · obtain ⟨rfl, _⟩ := Prod.mk.inj hx
        exact Nat.le_trans hd (bulk_agg (d := x4.1) (by simp))
      · obtain ⟨rfl, _⟩ := Prod.mk.inj hx
        exact Nat.le_trans hdl (bulk_agg (d := x5.1) (by simp))
set_option maxRecDepth 100000 in
theorem ops_of {H : Type} {enc : TypeId × Value → H} {W : World} {a0 : Option Addr} {len0 cap0 : Nat} {d : DataW H} {p : List MemPlace}
    (h : DataW.Trod enc Tryz.prog W 0 (fun _ => true) true 22 (.slice a0 len0 cap0) d p) (hw : Rows.uptoBulk d ≤ 1048576) :
    ∃ os, RdC W (.slice a0 len0 cap0) os ∧ (∀ o ∈ os, Byt o.d ∧ o.d.length ≤ 1048576 ∧ o.l.length ≤ 1048576) ∧ sl os ≤ 1048576 ∧ os.length ≤ 1048576 := by
  obtain ⟨fuel, hf⟩ := h
  rcases DataW.trod_slice Tryz.underlying22 hf with ⟨hcs, _⟩ | ⟨x, l, c, elems, rest, n, _, hcs, hx, hb, hl, hm, hlen, hel, _, _⟩
  · simp [Value.cells] at hcs
    obtain ⟨rfl, rfl, rfl⟩ := hcs
    exact ⟨[], ⟨none, 0, rfl, fun h => by simp at h⟩, (fun o h => by cases h), by simp [sl], by simp⟩
  · simp [Value.cells] at hcs
    obtain ⟨rfl, rfl, rfl⟩ := hcs
    rw [cOp] at hel
    obtain ⟨rfl, _⟩ := Prod.mk.inj hx
    obtain ⟨b, off, spot⟩ := x
    have each : ∀ i, ∃ o : Cst, i < len0 → OpAt W (fun j => W.cell? (((⟨b, off, spot⟩ : Addr).add (i * 6)).add j)) o ∧ ∀ (hi : i < (elems.map (·.1)).length), o.d.length ≤ Rows.uptoBulk (elems.map (·.1))[i] ∧ o.l.length ≤ Rows.uptoBulk (elems.map (·.1))[i] := by
      intro i
      by_cases hi : i < len0
      · have hi' : i < elems.length := by omega
        have := hel i hi
        rw [List.getElem?_eq_getElem hi', Option.bind_eq_some_iff] at this
        obtain ⟨cs, hcs, hy⟩ := this
        obtain ⟨o, ho, hbk⟩ := op_cells (d := elems[i].1) (p := elems[i].2) hy
        have hcell := (World.cells?_some hcs).2.2
        refine ⟨o, fun _ => ⟨⟨(hcell 0 (by omega)).trans ho.c0, (hcell 1 (by omega)).trans ho.c1, (hcell 2 (by omega)).trans ho.c2, (hcell 3 (by omega)).trans ho.c3, (hcell 4 (by omega)).trans ho.c4, (hcell 5 (by omega)).trans ho.c5, ho.rd, ho.rl, ho.bt⟩, fun _ => ?_⟩⟩
        rw [List.getElem_map]
        exact hbk
      · exact ⟨⟨0, 0, 0, 0, none, 0, [], none, 0, []⟩, fun h => absurd h hi⟩
    obtain ⟨f, hf'⟩ := Classical.skolem.1 each
    have hle : (elems.map (·.1)).length = len0 := by rw [List.length_map]; omega
    have hlr : ((List.range len0).map f).length = len0 := by simp
    have hbe : ∀ i (hi : i < (elems.map (·.1)).length), (f i).d.length ≤ Rows.uptoBulk (elems.map (·.1))[i] := fun i hi => ((hf' i (by omega)).2 hi).1
    have hbl : ∀ i (hi : i < (elems.map (·.1)).length), (f i).l.length ≤ Rows.uptoBulk (elems.map (·.1))[i] := fun i hi => ((hf' i (by omega)).2 hi).2
    have hsl := sl_bulk (elems.map (·.1)) f hbe
    rw [hle] at hsl
    have hall : Rows.uptoBulkAll (elems.map (·.1)) ≤ 1048576 := by simp only [Rows.uptoBulk] at hw; omega
    have hsm : ∀ i, i < len0 → (f i).d.length ≤ 1048576 := fun i hi => Nat.le_trans (hbe i (by omega)) (Nat.le_trans (bulk_part (List.getElem_mem _)) hall)
    have hsml : ∀ i, i < len0 → (f i).l.length ≤ 1048576 := fun i hi => Nat.le_trans (hbl i (by omega)) (Nat.le_trans (bulk_part (List.getElem_mem _)) hall)
    refine ⟨(List.range len0).map f, ⟨some ⟨b, off, spot⟩, cap0, by rw [hlr], fun hn => ?_⟩, fun o ho => ?_, Nat.le_trans hsl hall, ?_⟩
    · rw [hlr] at hn
      have hs : spot = none := by simpa [Addr.add] using World.cell?_spot (hf' 0 hn).1.c0
      subst hs
      refine ⟨b, off, rfl, fun i o hio => ?_⟩
      have hi : i < len0 := by have := (List.getElem?_eq_some_iff.1 hio).1; rwa [hlr] at this
      have e1 : o = f i := by rw [List.getElem?_map, List.getElem?_range hi] at hio; simpa using hio.symm
      subst e1
      have := (hf' i hi).1
      simp only [Addr.add_lit] at this
      exact ⟨⟨this.c0, this.c1, this.c2, this.c3, this.c4, this.c5⟩, this.rd, this.rl⟩
    · rw [List.mem_map] at ho
      obtain ⟨i, hi, rfl⟩ := ho
      exact ⟨(hf' i (List.mem_range.1 hi)).1.bt, hsm i (List.mem_range.1 hi), hsml i (List.mem_range.1 hi)⟩
    · have := bulk_length (elems.map (·.1))
      rw [hlr]
      omega
end Go.Proofs.YtmfbobibpebfnaaGreat

/- CodecAll: the row, up to the bound. -/
namespace Go.Proofs.YtmfbobibpebfnaaGreat
open Go.ChangeShapes Go.WideShapes Go.ChangeAt Go.RowKit

set_option maxRecDepth 100000 in
theorem codecAll_contract (H : Type) (enc : TypeId × Value → H) (W : World) (base : Nat) (args : Array Value) (ds gs : List (DataW H)) (before : List MemPlace)
    (hval : ∀ (j : Nat) t v, Tryz.f3.params[j]? = some t → args[j]? = some v → Value.okWide Tryz.prog W .any base t v)
    (hW : DataW.Whole enc Tryz.prog Tryz.f3.params.toList Rows.codecAllSpec.vars false W args.toList ds gs before) (hk : Rows.uptoSmall H (ds ++ gs) = true) :
    Calls Tryz.prog 3 args W fun e W' => ∃ v, e = .returned v ∧ Rows.codecAllSpec.post enc Tryz.prog Tryz.f3 false true false false W args v W' := by
  have hW' := hW
  obtain ⟨p, q, hA0, hV, rfl, hfz, hnd⟩ := hW
  have hA : DataW.TrodAll enc Tryz.prog W 0 (fun _ => true) true Tryz.f3.params.toList args.toList ds p := hA0
  rw [Tryz.params3] at hA hval
  obtain ⟨v0, vs0, d0, ds0, p0, q0, hargs, rfl, rfl, h0, r0⟩ := trodAll_cons hA
  obtain ⟨v1, vs1, d1, ds1, p1, q1, rfl, rfl, rfl, h1, r1⟩ := trodAll_cons r0
  obtain ⟨v2, vs2, d2, ds2, p2, q2, rfl, rfl, rfl, h2, r2⟩ := trodAll_cons r1
  obtain ⟨rfl, rfl, rfl⟩ := trodAll_nil r2
  obtain rfl : args = #[v0, v1, v2] := by cases args; simp_all
  obtain ⟨rfl, rfl⟩ := trodVars_none hV
  obtain ⟨a0, rfl, rfl, rfl, w0⟩ := open_int Tryz.underlying3 (hval 0 3 v0 rfl rfl) h0
  obtain ⟨a1, rfl, rfl, rfl, w1⟩ := open_int Tryz.underlying3 (hval 1 3 v1 rfl rfl) h1
  obtain ⟨a2, len2, cap2, rfl⟩ := okWide_slice Tryz.underlying22 (hval 2 22 v2 rfl rfl)
  have k2 := h2
  have lt2 : ∀ x ∈ p2, x.block < W.heap.size := by obtain ⟨m, hm⟩ := k2; exact DataW.trod_lt m _ _ _ hm
  obtain ⟨os, hr2, hb2, hs2, hl2⟩ := ops_of h2 (Nat.le_trans (bulk_part (by simp)) (bulk_bound hk))
  clear hA0
  refine (law_all a0 a1 _ os W hr2 hb2 hs2 hl2).mono fun e W' ⟨he, bel⟩ => ?_
  subst he
  exact ⟨_, rfl, _, _, _, [], _, [], hW', trodAll_mk1 (shut_bool Tryz.underlying4 _), (trodAll_cons_mk (shut_int Tryz.underlying3 w0) (trodAll_cons_mk (shut_int Tryz.underlying3 w1) (trodAll_cons_mk (Below.trod laidOutK (by kernel_rfl) (of_decide_eq_true (by kernel_rfl)) k2 bel lt2) trodAll_mk0))), rfl, bel.frame _, fun h => by cases h⟩

set_option maxRecDepth 100000 in
theorem codecAll_lifted (os : Os) (started : os.Started) (H : Type) (enc : TypeId × Value → H) (F0 : Stop.Interp) :
    ReturnsInHanded {} Tryz.checked os 3 .any ((Rows.OpenSpec.upto Rows.codecAllSpec).pre6 enc Tryz.prog Tryz.f3 Rows.codecAllUptoRow.domain false) (((Rows.OpenSpec.upto Rows.codecAllSpec).at F0).post enc Tryz.prog Tryz.f3 false true false false) := by
  refine returnsInHanded_of_cond (C := Tryz.checked) (s := Rows.OpenSpec.upto Rows.codecAllSpec) (k := Rows.uptoSmall) rfl ownK started (by kernel_rfl) Tryz.func3
    (OpenSpec.witness (enc := enc) (C := Tryz.checked) (s := Rows.OpenSpec.upto Rows.codecAllSpec) (k := Rows.uptoSmall) rfl false ⟨#[], #[.int .i64 0, .int .i64 0, .slice none 0 0], []⟩ 8 (by kernel_rfl) (by kernel_rfl) (by kernel_rfl)
      (x := ([.lit (.int .i64 0), .lit (.int .i64 0), .nil], [], [])) (by kernel_rfl) rfl (by kernel_rfl)) ?_
  intro W base args ds gs before hval hW _ hk _
  exact codecAll_contract H enc W base args ds gs before hval hW hk

theorem codecAll_upto : Rows.CodecAllUptoSaid :=
  OpenClaim.holds_of_cond 3 Tryz.f3 rfl rfl rfl rfl rfl rfl rfl ⟨rfl, rfl, rfl, rfl, rfl⟩ rfl rfl rfl rfl rfl (by kernel_rfl) Tryz.func3 (by kernel_rfl)
    (of_decide_eq_true (by kernel_rfl)) (by unfold Func.isWrapper; first | (rw [if_pos (by decide +kernel)]; kernel_rfl) | (rw [if_neg (by decide +kernel)]; exact ⟨rfl, rfl⟩))
    (fun os started H enc _ F0 => codecAll_lifted os started H enc F0)
end Go.Proofs.YtmfbobibpebfnaaGreat
