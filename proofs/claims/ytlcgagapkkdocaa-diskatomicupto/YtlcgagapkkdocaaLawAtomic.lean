/- DiskAtomic: the row, up to the bound. -/
import Derived.Test.YtlcgagapkkdocaaDAtom
import Derived.Test.YtlcgagapkkdocaaDNest
import Derived.Test.YtlcgagapkkdocaaDCrash
import Derived.JoinedCond
namespace Go.Proofs.Ytlcgagapkkdocaa
open Go.ChangeShapes Go.WideShapes Go.ChangeAt Go.RowKit

theorem bulk_one {H : Type} (d : DataW H) : 1 ≤ Rows.uptoBulk d := by
  cases d with
  | lit l => cases l <;> simp [Rows.uptoBulk]
  | nil => simp [Rows.uptoBulk]
  | ptr d => simp [Rows.uptoBulk]
  | slice elems spare => simp [Rows.uptoBulk]
  | agg parts => simp [Rows.uptoBulk]
  | iface t d => simp [Rows.uptoBulk]
  | map entries => simp [Rows.uptoBulk]
  | held h => simp [Rows.uptoBulk]
theorem bulk_part {H : Type} {d : DataW H} {l : List (DataW H)} (h : d ∈ l) : Rows.uptoBulk d ≤ Rows.uptoBulkAll l := by
  induction l with
  | nil => cases h
  | cons x r ih =>
    simp only [Rows.uptoBulkAll]
    cases List.mem_cons.1 h with
    | inl e => subst e; omega
    | inr e => have := ih e; omega
theorem bulk_length {H : Type} (l : List (DataW H)) : l.length ≤ Rows.uptoBulkAll l := by
  induction l with
  | nil => simp
  | cons x r ih => have := bulk_one x; simp only [Rows.uptoBulkAll, List.length_cons]; omega
theorem bulk_bound {H : Type} {l : List (DataW H)} (hk : Rows.uptoSmall H l = true) : Rows.uptoBulkAll l ≤ 1048576 := of_decide_eq_true hk
theorem bulk_agg {H : Type} {d : DataW H} {l : List (DataW H)} (h : d ∈ l) : Rows.uptoBulk d ≤ Rows.uptoBulk (DataW.agg l) := by
  have := bulk_part h
  simp only [Rows.uptoBulk]
  omega
theorem bulk_elem {H : Type} {d : DataW H} {l sp : List (DataW H)} (h : d ∈ l) : Rows.uptoBulk d ≤ Rows.uptoBulk (DataW.slice l sp) := by
  have := bulk_part h
  simp only [Rows.uptoBulk]
  omega
theorem bulk_len {H : Type} (l sp : List (DataW H)) : l.length ≤ Rows.uptoBulk (DataW.slice l sp) := by
  have := bulk_length l
  simp only [Rows.uptoBulk]
  omega
theorem inner_intU {H : Type} {enc : TypeId × Value → H} {W : World} {fuel : Nat} {c : Value} {x : DataW H × List MemPlace}
    (h : DataW.trod enc Try.prog W 0 (fun _ => true) true fuel 25 [c] = some x) (hw : Rows.uptoBulk x.1 ≤ 1048576) :
    ∃ zs, RdS W c zs ∧ (∀ z ∈ zs, In64 z) ∧ zs.length * 8 ≤ 140737488351232 := by
  obtain ⟨ao, len, cap, rfl⟩ := slc_of Try.underlying25 h
  obtain ⟨zs, h1, h2, h3⟩ := rdk_of (enc := enc) (d := x.1) (p := x.2) Try.underlying25 Try.underlying3 cIn ⟨fuel, by simpa [Value.cells] using h⟩
  refine ⟨zs, h1, h2, ?_⟩
  rcases h3 with rfl | ⟨el, sp, hx, hel⟩
  · simp
  · rw [hx] at hw
    have := bulk_len el sp
    omega
theorem inner_u8U {H : Type} {enc : TypeId × Value → H} {W : World} {fuel : Nat} {c : Value} {x : DataW H × List MemPlace}
    (h : DataW.trod enc Try.prog W 0 (fun _ => true) true fuel 22 [c] = some x) (hw : Rows.uptoBulk x.1 ≤ 1048576) :
    ∃ zs, RdU W c zs ∧ (∀ z ∈ zs, 0 ≤ z ∧ z < 256) ∧ zs.length ≤ 1048576 := by
  obtain ⟨ao, len, cap, rfl⟩ := slc_of Try.underlying22 h
  obtain ⟨zs, h1, h2, h3⟩ := rdk_of (enc := enc) (d := x.1) (p := x.2) Try.underlying22 Try.underlying5 cU8 ⟨fuel, by simpa [Value.cells] using h⟩
  refine ⟨zs, h1, fun z hz => by have := bounds_u8 (h2 z hz); omega, ?_⟩
  rcases h3 with rfl | ⟨el, sp, hx, hel⟩
  · simp
  · rw [hx] at hw
    have := bulk_len el sp
    omega
set_option maxRecDepth 100000 in
theorem cut_cellsU {H : Type} {enc : TypeId × Value → H} {w : World} {fuel : Nat} {cs : List Value} {x : DataW H × List MemPlace}
    (h : DataW.trod enc Try.prog w 0 (fun _ => true) true fuel 27 cs = some x) (hw : Rows.uptoBulk x.1 ≤ 1048576) :
    ∃ (n : Int) (v : Value) (zs : List Int), cs = [.int .i64 n, v] ∧ RdS w v zs ∧ In64 n ∧ (∀ z ∈ zs, In64 z) ∧ zs.length * 8 ≤ 140737488351232 := by
  obtain ⟨xs, n, rfl, hx, hl, hxl, hall⟩ := DataW.trod_struct Try.underlying27 h
  match xs, hxl with
  | [x0, x1], _ =>
    obtain ⟨k0, e0, r0, w0⟩ := DataW.trod_int Try.underlying3 (hall 0 _ rfl)
    have h1 := hall 1 _ rfl
    have e0' : (cs.drop 0).take (Try.prog.cellsOf 3) = [.int .i64 k0] := e0
    have h1' : DataW.trod enc Try.prog w 0 (fun _ => true) true n 25 ((cs.drop 1).take (Try.prog.cellsOf 25)) = some x1 := h1
    rw [cCut] at hl
    rw [cIn] at e0'
    rw [cSlI] at h1'
    match cs, hl with
    | [c0, c1], _ =>
      simp at e0'
      subst e0'
      simp only [List.drop_succ_cons, List.drop_zero, List.take_succ_cons, List.take_zero] at h1'
      obtain ⟨zs, hr, h2, h3⟩ := inner_intU h1' (by rw [hx] at hw; exact Nat.le_trans (bulk_agg (by simp)) hw)
      exact ⟨k0, c1, zs, rfl, hr, w0, h2, h3⟩
set_option maxRecDepth 100000 in
theorem fa_cellsU {H : Type} {enc : TypeId × Value → H} {w : World} {fuel : Nat} {cs : List Value} {x : DataW H × List MemPlace}
    (h : DataW.trod enc Try.prog w 0 (fun _ => true) true fuel 62 cs = some x) (hw : Rows.uptoBulk x.1 ≤ 1048576) :
    ∃ o : Fa, cs = [.int .i64 o.st, .int .i64 o.kd, .int .i64 o.pt, .int .i64 o.cn, o.bv] ∧ RdS w o.bv o.bs ∧ o.Ok := by
  obtain ⟨xs, n, rfl, hx, hl, hxl, hall⟩ := DataW.trod_struct Try.underlying62 h
  match xs, hxl with
  | [x0, x1, x2, x3], _ =>
    obtain ⟨k0, e0, r0, w0⟩ := DataW.trod_int Try.underlying3 (hall 0 _ rfl)
    obtain ⟨k1, e1, r1, w1⟩ := DataW.trod_int Try.underlying3 (hall 1 _ rfl)
    obtain ⟨k2, e2, r2, w2⟩ := DataW.trod_int Try.underlying3 (hall 2 _ rfl)
    have h3 := hall 3 _ rfl
    have e0' : (cs.drop 0).take (Try.prog.cellsOf 3) = [.int .i64 k0] := e0
    have e1' : (cs.drop 1).take (Try.prog.cellsOf 3) = [.int .i64 k1] := e1
    have e2' : (cs.drop 2).take (Try.prog.cellsOf 3) = [.int .i64 k2] := e2
    have h3' : DataW.trod enc Try.prog w 0 (fun _ => true) true n 27 ((cs.drop 3).take (Try.prog.cellsOf 27)) = some x3 := h3
    obtain ⟨m, v, zs, e3, hr, i1, i2, i3⟩ := cut_cellsU h3' (by rw [hx] at hw; exact Nat.le_trans (bulk_agg (by simp)) hw)
    rw [cFa] at hl
    rw [cIn] at e0' e1' e2'
    rw [cCut] at e3
    match cs, hl with
    | [c0, c1, c2, c3, c4], _ =>
      simp at e0' e1' e2' e3
      subst e0'; subst e1'; subst e2'
      obtain ⟨rfl, rfl⟩ := e3
      exact ⟨⟨k0, k1, k2, m, c4, zs⟩, rfl, hr, ⟨w0, w1, w2, i1, i2, i3⟩⟩
set_option maxRecDepth 100000 in
theorem faults_ofU {H : Type} {enc : TypeId × Value → H} {W : World} {fuel : Nat} {c : Value} {x : DataW H × List MemPlace}
    (h : DataW.trod enc Try.prog W 0 (fun _ => true) true fuel 24 [c] = some x) (hw : Rows.uptoBulk x.1 ≤ 1048576) :
    ∃ os, RdF W c os ∧ os.length ≤ 1048576 := by
  obtain ⟨a0, len0, cap0, rfl⟩ := slc_of Try.underlying24 h
  rcases DataW.trod_slice Try.underlying24 h with ⟨hcs, _⟩ | ⟨y, l, c, elems, rest, n, _, hcs, hx, hb, hl, hm, hlen, hel, _, _⟩
  · simp at hcs
    obtain ⟨rfl, rfl, rfl⟩ := hcs
    exact ⟨[], ⟨none, 0, rfl, Nat.le_refl _, by omega, (fun o ho => by cases ho), fun h => absurd rfl h⟩, by simp⟩
  · simp at hcs
    obtain ⟨rfl, rfl, rfl⟩ := hcs
    rw [cFa] at hel
    rw [hx] at hw
    obtain ⟨b, off, spot⟩ := y
    have hbig : len0 ≤ 1048576 := by
      have := Nat.le_trans (bulk_len _ _) hw
      simp only [List.length_map] at this
      omega
    have each : ∀ i, ∃ o : Fa, i < len0 → (∀ j v, ([.int .i64 o.st, .int .i64 o.kd, .int .i64 o.pt, .int .i64 o.cn, o.bv] : List Value)[j]? = some v → W.cell? (((⟨b, off, spot⟩ : Addr).add (i * 5)).add j) = some v) ∧ RdS W o.bv o.bs ∧ o.Ok := by
      intro i
      by_cases hi : i < len0
      · have hi' : i < elems.length := by omega
        have := hel i hi
        rw [List.getElem?_eq_getElem hi', Option.bind_eq_some_iff] at this
        obtain ⟨cs, hcs, hy⟩ := this
        obtain ⟨o, e, hr, ho⟩ := fa_cellsU hy (Nat.le_trans (bulk_elem (List.mem_map.2 ⟨elems[i], List.getElem_mem hi', rfl⟩)) hw)
        have hcell := (World.cells?_some hcs).2.2
        subst e
        refine ⟨o, fun _ => ⟨fun j v hj => (hcell j ?_).trans hj, hr, ho⟩⟩
        have := (List.getElem?_eq_some_iff.1 hj).1
        simpa using this
      · exact ⟨⟨0, 0, 0, 0, .slice none 0 0, []⟩, fun h => absurd h hi⟩
    obtain ⟨f, hf'⟩ := Classical.skolem.1 each
    have hlr : ((List.range len0).map f).length = len0 := by simp
    refine ⟨(List.range len0).map f, ⟨some ⟨b, off, spot⟩, cap0, by rw [hlr], by rw [hlr]; exact hl, by unfold maxLen at hm; exact hm, fun o ho => ?_, fun hn => ?_⟩, by rw [hlr]; exact hbig⟩
    · rw [List.mem_map] at ho
      obtain ⟨i, hi, rfl⟩ := ho
      exact (hf' i (List.mem_range.1 hi)).2.2
    · have hpos : 0 < len0 := by rw [← hlr]; exact List.length_pos_iff.2 hn
      have h00 := (hf' 0 hpos).1 0 _ rfl
      have hs : spot = none := by simpa [Addr.add] using World.cell?_spot h00
      subst hs
      refine ⟨b, off, rfl, World.block_lt_of_cell? W _ (by simpa [Addr.add] using h00), fun i e hie => ?_⟩
      have hi : i < len0 := by have := (List.getElem?_eq_some_iff.1 hie).1; rwa [hlr] at this
      have e1 : e = f i := by rw [List.getElem?_map, List.getElem?_range hi] at hie; simpa using hie.symm
      subst e1
      have := (hf' i hi).1
      simp only [Addr.add_lit] at this
      exact ⟨this 0 _ rfl, this 1 _ rfl, this 2 _ rfl, this 3 _ rfl, this 4 _ rfl, (hf' i hi).2.1⟩
set_option maxRecDepth 100000 in
theorem cutT_ofU {H : Type} {enc : TypeId × Value → H} {W : World} {base : Nat} {v : Value} {d : DataW H} {p : List MemPlace} (hok : Value.okWide Try.prog W .any base 27 v)
    (h : DataW.Trod enc Try.prog W 0 (fun _ => true) true 27 v d p) (hw : Rows.uptoBulk d ≤ 1048576) :
    ∃ (n : Int) (a : Option Addr) (c : Nat) (zs : List Int), v = .agg #[.int .i64 n, .slice a zs.length c] ∧ RdS W (.slice a zs.length c) zs ∧ In64 n ∧ ∀ z ∈ zs, In64 z := by
  obtain ⟨fuel, hf⟩ := h
  obtain ⟨n, u, zs, e, h1, h2, h3, _⟩ := cut_cellsU hf hw
  obtain ⟨a, c, rfl⟩ : ∃ a c, u = .slice a zs.length c := by obtain ⟨⟨ao, cap, e, _⟩, _⟩ := h1; exact ⟨_, _, e⟩
  refine ⟨n, a, c, zs, ?_, h1, h2, h3⟩
  simp only [Value.okWide, Try.underlying27] at hok
  obtain ⟨xs, rfl, _⟩ := hok
  have : xs.toList = [.int .i64 n, .slice a zs.length c] := by simpa [Value.cells] using e
  congr 1
  exact Array.toList_inj.1 (by simpa using this)
theorem cSlL : Try.prog.cellsOf 22 = 1 := by kernel_rfl
set_option maxRecDepth 100000 in
theorem lists_ofU {H : Type} {enc : TypeId × Value → H} {W : World} {fuel : Nat} {c : Value} {x : DataW H × List MemPlace}
    (h : DataW.trod enc Try.prog W 0 (fun _ => true) true fuel 23 [c] = some x) (hw : Rows.uptoBulk x.1 ≤ 1048576) :
    ∃ ps, RdPs (fun q => q < W.heap.size) W c ps ∧ ps.length ≤ 1048576 ∧ ∀ b ∈ ps, b.length ≤ 1048576 := by
  obtain ⟨a0, len0, cap0, rfl⟩ := slc_of Try.underlying23 h
  rcases DataW.trod_slice Try.underlying23 h with ⟨hcs, _⟩ | ⟨y, l, c, elems, rest, n, _, hcs, hx, hb, hl, hm, hlen, hel, _, _⟩
  · simp at hcs
    obtain ⟨rfl, rfl, rfl⟩ := hcs
    exact ⟨[], ⟨none, 0, rfl, Nat.le_refl _, by omega, (fun o ho => by cases ho), fun h => absurd rfl h⟩, by simp, by simp⟩
  · simp at hcs
    obtain ⟨rfl, rfl, rfl⟩ := hcs
    rw [cSlL] at hel
    rw [hx] at hw
    obtain ⟨b, off, spot⟩ := y
    have hbig : len0 ≤ 1048576 := by
      have := Nat.le_trans (bulk_len _ _) hw
      simp only [List.length_map] at this
      omega
    have each : ∀ i, ∃ o : List Int, i < len0 → (∃ pa pc, W.cell? ((⟨b, off, spot⟩ : Addr).add i) = some (.slice pa o.length pc) ∧ RdU W (.slice pa o.length pc) o ∧ (o ≠ [] → ∀ g, (Value.slice pa o.length pc).ownBlock = some g → g < W.heap.size)) ∧ (∀ z ∈ o, 0 ≤ z ∧ z < 256) ∧ o.length ≤ 1048576 := by
      intro i
      by_cases hi : i < len0
      · have hi' : i < elems.length := by omega
        have := hel i hi
        rw [List.getElem?_eq_getElem hi', Option.bind_eq_some_iff] at this
        obtain ⟨cs, hcs, hy⟩ := this
        have hcell := (World.cells?_some hcs).2.2
        have hlc : cs.length = 1 := by have := (World.cells?_some hcs).2.1; simpa using this
        match cs, hlc with
        | [c0], _ =>
          obtain ⟨zs, hr, h2, h3⟩ := inner_u8U hy (Nat.le_trans (bulk_elem (List.mem_map.2 ⟨elems[i], List.getElem_mem hi', rfl⟩)) hw)
          obtain ⟨pa, pc, rfl⟩ := hr.form
          refine ⟨zs, fun _ => ⟨⟨pa, pc, ?_, hr, fun hn g hg => ?_⟩, h2, h3⟩⟩
          · have := hcell 0 (by omega)
            simpa [Addr.add] using this
          · obtain ⟨⟨ao, cap, e, _, _, h5⟩, _⟩ := hr
            cases e
            obtain ⟨b1, o1, rfl, hlt, _⟩ := h5 hn
            cases hg
            exact hlt
      · exact ⟨[], fun h => absurd h hi⟩
    obtain ⟨f, hf'⟩ := Classical.skolem.1 each
    have hlr : ((List.range len0).map f).length = len0 := by simp
    refine ⟨(List.range len0).map f, ⟨some ⟨b, off, spot⟩, cap0, by rw [hlr], by rw [hlr]; exact hl, by unfold maxLen at hm; exact hm, fun o ho => ?_, fun hn => ?_⟩, by rw [hlr]; exact hbig, fun o ho => ?_⟩
    · rw [List.mem_map] at ho
      obtain ⟨i, hi, rfl⟩ := ho
      exact (hf' i (List.mem_range.1 hi)).2.1
    · have hpos : 0 < len0 := by rw [← hlr]; exact List.length_pos_iff.2 hn
      obtain ⟨⟨pa0, pc0, hp0, _⟩, _⟩ := hf' 0 hpos
      have hs : spot = none := by simpa [Addr.add] using World.cell?_spot hp0
      subst hs
      refine ⟨b, off, rfl, World.block_lt_of_cell? W _ (by simpa [Addr.add] using hp0), fun i e hie => ?_⟩
      have hi : i < len0 := by have := (List.getElem?_eq_some_iff.1 hie).1; rwa [hlr] at this
      have e1 : e = f i := by rw [List.getElem?_map, List.getElem?_range hi] at hie; simpa using hie.symm
      subst e1
      obtain ⟨⟨pa, pc, h1, h2⟩, _⟩ := hf' i hi
      rw [Addr.add_lit] at h1
      exact ⟨pa, pc, h1, h2⟩
    · rw [List.mem_map] at ho
      obtain ⟨i, hi, rfl⟩ := ho
      exact (hf' i (List.mem_range.1 hi)).2.2
set_option maxRecDepth 100000 in
theorem diskAtomic_contract (H : Type) (enc : TypeId × Value → H) (W : World) (base : Nat) (args : Array Value) (ds gs : List (DataW H)) (before : List MemPlace)
    (hval : ∀ (j : Nat) t v, Try.f3.params[j]? = some t → args[j]? = some v → Value.okWide Try.prog W .any base t v)
    (hW : DataW.Whole enc Try.prog Try.f3.params.toList Rows.diskAtomicSpec.vars false W args.toList ds gs before) (hk : Rows.uptoSmall H (ds ++ gs) = true) :
    Calls Try.prog 3 args W fun e W' => ∃ v, e = .returned v ∧ Rows.diskAtomicSpec.post enc Try.prog Try.f3 false true false false W args v W' := by
  have hW' := hW
  obtain ⟨p, q, hA0, hV, rfl, hfz, hnd⟩ := hW
  have hA : DataW.TrodAll enc Try.prog W 0 (fun _ => true) true Try.f3.params.toList args.toList ds p := hA0
  rw [Try.params3] at hA hval
  obtain ⟨v0, vs0, d0, ds0, p0, q0, hargs, rfl, rfl, h0, r0⟩ := trodAll_cons hA
  obtain ⟨v1, vs1, d1, ds1, p1, q1, rfl, rfl, rfl, h1, r1⟩ := trodAll_cons r0
  obtain ⟨v2, vs2, d2, ds2, p2, q2, rfl, rfl, rfl, h2, r2⟩ := trodAll_cons r1
  obtain ⟨v3, vs3, d3, ds3, p3, q3, rfl, rfl, rfl, h3, r3⟩ := trodAll_cons r2
  obtain ⟨rfl, rfl, rfl⟩ := trodAll_nil r3
  obtain rfl : args = #[v0, v1, v2, v3] := by cases args; simp_all
  obtain ⟨rfl, rfl⟩ := trodVars_none hV
  have hbb := bulk_bound hk
  have hb0 : Rows.uptoBulk d0 ≤ 1048576 := Nat.le_trans (bulk_part (by simp)) hbb
  have hb1 : Rows.uptoBulk d1 ≤ 1048576 := Nat.le_trans (bulk_part (by simp)) hbb
  have hb2 : Rows.uptoBulk d2 ≤ 1048576 := Nat.le_trans (bulk_part (by simp)) hbb
  have hb3 : Rows.uptoBulk d3 ≤ 1048576 := Nat.le_trans (bulk_part (by simp)) hbb
  obtain ⟨a0, len0, cap0, rfl⟩ := okWide_slice Try.underlying22 (hval 0 22 v0 rfl rfl)
  obtain ⟨a1, len1, cap1, rfl⟩ := okWide_slice Try.underlying23 (hval 1 23 v1 rfl rfl)
  obtain ⟨a2, len2, cap2, rfl⟩ := okWide_slice Try.underlying24 (hval 2 24 v2 rfl rfl)
  have ok3 := hval 3 27 v3 rfl rfl
  have k0 := h0
  have k1 := h1
  have k2 := h2
  have k3 := h3
  have lt0 : ∀ x ∈ p0, x.block < W.heap.size := by obtain ⟨m, hm⟩ := k0; exact DataW.trod_lt m _ _ _ hm
  have lt1 : ∀ x ∈ p1, x.block < W.heap.size := by obtain ⟨m, hm⟩ := k1; exact DataW.trod_lt m _ _ _ hm
  have lt2 : ∀ x ∈ p2, x.block < W.heap.size := by obtain ⟨m, hm⟩ := k2; exact DataW.trod_lt m _ _ _ hm
  have lt3 : ∀ x ∈ p3, x.block < W.heap.size := by obtain ⟨m, hm⟩ := k3; exact DataW.trod_lt m _ _ _ hm
  obtain ⟨z0, hr0, hy0, hl0⟩ : ∃ zs, RdU W (.slice a0 len0 cap0) zs ∧ (∀ z ∈ zs, 0 ≤ z ∧ z < 256) ∧ zs.length ≤ 1048576 := by
    obtain ⟨m, hm⟩ := h0
    exact inner_u8U (fuel := m) (x := (d0, p0)) (by simpa [Value.cells] using hm) hb0
  obtain ⟨z1, hr1, hl1, hm1⟩ : ∃ ps, RdPs (fun q => q < W.heap.size) W (.slice a1 len1 cap1) ps ∧ ps.length ≤ 1048576 ∧ ∀ b ∈ ps, b.length ≤ 1048576 := by
    obtain ⟨m, hm⟩ := h1
    exact lists_ofU (fuel := m) (x := (d1, p1)) (by simpa [Value.cells] using hm) hb1
  obtain ⟨z2, hr2, hl2⟩ : ∃ os, RdF W (.slice a2 len2 cap2) os ∧ os.length ≤ 1048576 := by
    obtain ⟨m, hm⟩ := h2
    exact faults_ofU (fuel := m) (x := (d2, p2)) (by simpa [Value.cells] using hm) hb2
  obtain ⟨cn3, ca3, cc3, z3, rfl, hr3, hn3, hz3⟩ := cutT_ofU ok3 h3 hb3
  clear hA0
  refine (latom_any crash_any _ z0 _ z1 _ z2 cn3 ca3 cc3 z3 W hr0 hy0 hl0 hr1 hl1 hm1 hr2 hl2 hr3 hn3 hz3).mono fun e W' ⟨he, bel⟩ => ?_
  subst he
  exact ⟨_, rfl, _, _, _, [], _, [], hW', trodAll_mk1 (shut_bool Try.underlying4 _), (trodAll_cons_mk (Below.trod laidOutK (by kernel_rfl) (of_decide_eq_true (by kernel_rfl)) k0 bel lt0) (trodAll_cons_mk (Below.trod laidOutK (by kernel_rfl) (of_decide_eq_true (by kernel_rfl)) k1 bel lt1) (trodAll_cons_mk (Below.trod laidOutK (by kernel_rfl) (of_decide_eq_true (by kernel_rfl)) k2 bel lt2) (trodAll_cons_mk (Below.trod laidOutK (by kernel_rfl) (of_decide_eq_true (by kernel_rfl)) k3 bel lt3) trodAll_mk0)))), rfl, bel.frame _, fun h => by cases h⟩

set_option maxRecDepth 100000 in
theorem diskAtomic_lifted (os : Os) (started : os.Started) (H : Type) (enc : TypeId × Value → H) (F0 : Stop.Interp) :
    ReturnsInHanded {} Try.checked os 3 .any ((Rows.OpenSpec.upto Rows.diskAtomicSpec).pre6 enc Try.prog Try.f3 Rows.diskAtomicUptoRow.domain false) (((Rows.OpenSpec.upto Rows.diskAtomicSpec).at F0).post enc Try.prog Try.f3 false true false false) := by
  refine returnsInHanded_of_cond (C := Try.checked) (s := Rows.OpenSpec.upto Rows.diskAtomicSpec) (k := Rows.uptoSmall) rfl ownK started (by kernel_rfl) Try.func3
    (OpenSpec.witness (enc := enc) (C := Try.checked) (s := Rows.OpenSpec.upto Rows.diskAtomicSpec) (k := Rows.uptoSmall) rfl false ⟨#[], #[.slice none 0 0, .slice none 0 0, .slice none 0 0, .agg #[.int .i64 0, .slice none 0 0]], []⟩ 8 (by kernel_rfl) (by kernel_rfl) (by kernel_rfl)
      (x := ([.nil, .nil, .nil, .agg [.lit (.int .i64 0), .nil]], [], [])) (by kernel_rfl) rfl (by kernel_rfl)) ?_
  intro W base args ds gs before hval hW _ hk _
  exact diskAtomic_contract H enc W base args ds gs before hval hW hk

theorem diskAtomic_upto : Rows.DiskAtomicUptoSaid :=
  OpenClaim.holds_of_cond 3 Try.f3 rfl rfl rfl rfl rfl rfl rfl ⟨rfl, rfl, rfl, rfl, rfl⟩ rfl rfl rfl rfl rfl (by kernel_rfl) Try.func3 (by kernel_rfl)
    (of_decide_eq_true (by kernel_rfl)) (by unfold Func.isWrapper; first | (rw [if_pos (by decide +kernel)]; kernel_rfl) | (rw [if_neg (by decide +kernel)]; exact ⟨rfl, rfl⟩))
    (fun os started H enc _ F0 => diskAtomic_lifted os started H enc F0)
end Go.Proofs.Ytlcgagapkkdocaa
