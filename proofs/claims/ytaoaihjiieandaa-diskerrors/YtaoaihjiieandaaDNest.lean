/- What came in: a script, faults, a cut. -/
import Derived.Test.YtaoaihjiieandaaDScr
import Derived.ProofKit
import Derived.OpenShut
import Derived.ChangeOld
import Derived.SizedLaws
import Derived.Below
namespace Go.Proofs.Ytaoaihjiieandaa
open Go.ChangeShapes Go.WideShapes Go.ChangeAt Go.RowKit

theorem ownK : ownKnob Try.prog.godebug = none := by kernel_rfl
theorem laidOutK : laidOutB Try.prog = true := by kernel_rfl
theorem bytesK_u8 : Try.prog.bytesOf 5 = 1 := by kernel_rfl
theorem bytesK_i64 : Try.prog.bytesOf 3 = 8 := by kernel_rfl
theorem bytesK_fa : Try.prog.bytesOf 62 = 56 := by kernel_rfl
theorem bytesK_op : Try.prog.bytesOf 48 = 128 := by kernel_rfl
theorem cU8 : Try.prog.cellsOf 5 = 1 := by kernel_rfl
theorem cIn : Try.prog.cellsOf 3 = 1 := by kernel_rfl
theorem cStr : Try.prog.cellsOf 9 = 1 := by kernel_rfl
theorem cSlI : Try.prog.cellsOf 25 = 1 := by kernel_rfl
theorem cSlU : Try.prog.cellsOf 22 = 1 := by kernel_rfl
theorem cSlF : Try.prog.cellsOf 24 = 1 := by kernel_rfl
theorem cCut : Try.prog.cellsOf 27 = 2 := by kernel_rfl
theorem cFa : Try.prog.cellsOf 62 = 5 := by kernel_rfl
theorem cOp : Try.prog.cellsOf 48 = 8 := by kernel_rfl

/-- A slice of integers that came in. -/
theorem rdk_of {H : Type} {enc : TypeId × Value → H} {W : World} {t e : TypeId} {k : IntKind} {a0 : Option Addr} {len0 cap0 : Nat} {d : DataW H} {p : List MemPlace}
    (ht : Try.prog.underlying t = some (.slice e)) (he : Try.prog.underlying e = some (.int k)) (hc : Try.prog.cellsOf e = 1)
    (h : DataW.Trod enc Try.prog W 0 (fun _ => true) true t (.slice a0 len0 cap0) d p) :
    ∃ zs, (Rd k W (.slice a0 len0 cap0) zs ∧ Sl (.slice a0 len0 cap0)) ∧ (∀ n ∈ zs, (Lit.int k n).wf = true) ∧ (zs = [] ∨ ∃ el sp, d = .slice el sp ∧ el.length = zs.length) := by
  obtain ⟨fuel, hf⟩ := h
  rcases open_ints ht he hc hf with ⟨hcs, _⟩ | ⟨x, l, c, zs, hcs, _, hl, hm, hz, hx, hcell, hwz⟩
  · simp [Value.cells] at hcs
    obtain ⟨rfl, rfl, rfl⟩ := hcs
    exact ⟨[], ⟨⟨none, 0, rfl, Nat.le_refl _, by simp [maxLen], fun h => absurd rfl h⟩, .inl rfl⟩, by simp, .inl rfl⟩
  · simp [Value.cells] at hcs
    obtain ⟨rfl, rfl, rfl⟩ := hcs
    simp at hz
    have hlen : (zs.take len0).length = len0 := by rw [List.length_take]; omega
    refine ⟨zs.take len0, ⟨⟨some x, cap0, by rw [hlen], by omega, hm, fun hn => ?_⟩, .inr ⟨_, _, _, rfl⟩⟩, fun n hn => hwz n (List.mem_of_mem_take hn), .inr ⟨_, _, (Prod.mk.inj hx).1, by simp [lits]⟩⟩
    have hpos : 0 < len0 := by
      rcases Nat.eq_zero_or_pos len0 with h | h
      · subst h; simp at hn
      · exact h
    obtain ⟨b, off, spot⟩ := x
    have hc0 := hcell 0 (by omega)
    have hspot : spot = none := by simpa [Addr.add] using World.cell?_spot hc0
    subst hspot
    refine ⟨b, off, rfl, World.block_lt_of_cell? W _ (by simpa [Addr.add] using hc0), fun i hi => ?_⟩
    rw [hlen] at hi
    have := hcell i (by omega)
    rw [Addr.add_lit] at this
    rw [this, List.getElem?_take, if_pos hi]
    simp [List.getD]
theorem weights_elem {H : Type} {P : Program} {e : TypeId} : ∀ {l : List (DataW H)} {d : DataW H}, d ∈ l → ∀ n ∈ d.weights P e, n ∈ DataW.weightsAll P e l
  | x :: l, d, h, n, hn => by
    simp only [DataW.weightsAll, List.mem_append]
    rcases List.mem_cons.1 h with rfl | h
    · exact Or.inl hn
    · exact Or.inr (weights_elem h n hn)
theorem weights_slice {H : Type} {P : Program} {t e : TypeId} {el sp : List (DataW H)} {d : DataW H} (hu : P.underlying t = some (.slice e)) (h : d ∈ el) : ∀ n ∈ d.weights P e, n ∈ (DataW.slice el sp).weights P t := by
  intro n hn
  simp only [DataW.weights, hu, List.mem_cons, List.mem_append]
  exact Or.inr (Or.inl (weights_elem h n hn))
theorem weights_part {H : Type} {P : Program} {t : TypeId} {fs : Array Field} {parts : List (DataW H)} {d : DataW H} (hu : P.underlying t = some (.struct fs)) {j : Nat} {f : Field} (hf : fs[j]? = some f) (hd : parts[j]? = some d) : ∀ n ∈ d.weights P f.type, n ∈ (DataW.agg parts).weights P t := by
  intro n hn
  simp only [DataW.weights, hu]
  exact DataW.weights_mem_each (j := j) (by simp [hf]) hd n hn
theorem slc_of {H : Type} {enc : TypeId × Value → H} {W : World} {fuel : Nat} {t e : TypeId} (hu : Try.prog.underlying t = some (.slice e)) {c : Value} {x : DataW H × List MemPlace}
    (h : DataW.trod enc Try.prog W 0 (fun _ => true) true fuel t [c] = some x) : ∃ ao len cap, c = .slice ao len cap := by
  rcases DataW.trod_slice hu h with ⟨hcs, _⟩ | ⟨x, l, k, elems, rest, n, _, hcs, _⟩
  · exact ⟨none, 0, 0, by simpa using hcs⟩
  · exact ⟨some x, l, k, by simpa using hcs⟩
theorem inner_int {H : Type} {enc : TypeId × Value → H} {W : World} {fuel : Nat} {c : Value} {x : DataW H × List MemPlace}
    (h : DataW.trod enc Try.prog W 0 (fun _ => true) true fuel 25 [c] = some x) (hw : ∀ n ∈ x.1.weights Try.prog 25, n ≤ reachBytes) :
    ∃ zs, RdS W c zs ∧ (∀ z ∈ zs, In64 z) ∧ zs.length * 8 ≤ 140737488351232 := by
  obtain ⟨ao, len, cap, rfl⟩ := slc_of Try.underlying25 h
  obtain ⟨zs, h1, h2, h3⟩ := rdk_of (enc := enc) (d := x.1) (p := x.2) Try.underlying25 Try.underlying3 cIn ⟨fuel, by simpa [Value.cells] using h⟩
  refine ⟨zs, h1, h2, ?_⟩
  rcases h3 with rfl | ⟨el, sp, hx, hel⟩
  · simp
  · rw [hx] at hw
    have := hw ((el.length + sp.length) * Try.prog.bytesOf 3) (by simp [DataW.weights, Try.underlying25])
    rw [bytesK_i64] at this
    simp only [reachBytes] at this
    omega
theorem inner_u8 {H : Type} {enc : TypeId × Value → H} {W : World} {fuel : Nat} {c : Value} {x : DataW H × List MemPlace}
    (h : DataW.trod enc Try.prog W 0 (fun _ => true) true fuel 22 [c] = some x) (hw : ∀ n ∈ x.1.weights Try.prog 22, n ≤ reachBytes) :
    ∃ zs, RdU W c zs ∧ (∀ z ∈ zs, 0 ≤ z ∧ z < 256) ∧ zs.length ≤ 140737488351232 := by
  obtain ⟨ao, len, cap, rfl⟩ := slc_of Try.underlying22 h
  obtain ⟨zs, h1, h2, h3⟩ := rdk_of (enc := enc) (d := x.1) (p := x.2) Try.underlying22 Try.underlying5 cU8 ⟨fuel, by simpa [Value.cells] using h⟩
  refine ⟨zs, h1, fun z hz => by have := bounds_u8 (h2 z hz); omega, ?_⟩
  rcases h3 with rfl | ⟨el, sp, hx, hel⟩
  · simp
  · rw [hx] at hw
    have := hw ((el.length + sp.length) * Try.prog.bytesOf 5) (by simp [DataW.weights, Try.underlying22])
    rw [bytesK_u8] at this
    simp only [reachBytes] at this
    omega
set_option maxRecDepth 100000 in
/-- A cut that came in: two cells. -/
theorem cut_cells {H : Type} {enc : TypeId × Value → H} {w : World} {fuel : Nat} {cs : List Value} {x : DataW H × List MemPlace}
    (h : DataW.trod enc Try.prog w 0 (fun _ => true) true fuel 27 cs = some x) (hw : ∀ n ∈ x.1.weights Try.prog 27, n ≤ reachBytes) :
    ∃ (n : Int) (v : Value) (zs : List Int), cs = [.int .i64 n, v] ∧ RdS w v zs ∧ In64 n ∧ (∀ z ∈ zs, In64 z) ∧ zs.length * 8 ≤ 140737488351232 := by
  obtain ⟨xs, n, rfl, hx, hl, hxl, hall⟩ := DataW.trod_struct Try.underlying27 h
  match xs, hxl with
  | [x0, x1], _ =>
    obtain ⟨k0, e0, r0, w0⟩ := DataW.trod_int Try.underlying3 (hall 0 _ rfl)
    have h1 := hall 1 _ rfl
    have e0' : (cs.drop 0).take (Try.prog.cellsOf 3) = [.int .i64 k0] := e0
    have h1' : DataW.trod enc Try.prog w 0 (fun _ => true) true n 25 ((cs.drop 1).take (Try.prog.cellsOf 25)) = some x1 := h1
    rw [cCut] at hl
    rw [cIn] at e0'
    rw [cSlI] at h1'
    match cs, hl with
    | [c0, c1], _ =>
      simp at e0'
      subst e0'
      simp only [List.drop_succ_cons, List.drop_zero, List.take_succ_cons, List.take_zero] at h1'
      obtain ⟨zs, hr, h2, h3⟩ := inner_int h1' (fun m hm => hw m (by
        rw [hx]
        exact weights_part (t := 27) (j := 1) Try.underlying27 rfl (d := x1.1) rfl m hm))
      exact ⟨k0, c1, zs, rfl, hr, w0, h2, h3⟩
set_option maxRecDepth 100000 in
theorem fa_cells {H : Type} {enc : TypeId × Value → H} {w : World} {fuel : Nat} {cs : List Value} {x : DataW H × List MemPlace}
    (h : DataW.trod enc Try.prog w 0 (fun _ => true) true fuel 62 cs = some x) (hw : ∀ n ∈ x.1.weights Try.prog 62, n ≤ reachBytes) :
    ∃ o : Fa, cs = [.int .i64 o.st, .int .i64 o.kd, .int .i64 o.pt, .int .i64 o.cn, o.bv] ∧ RdS w o.bv o.bs ∧ o.Ok := by
  obtain ⟨xs, n, rfl, hx, hl, hxl, hall⟩ := DataW.trod_struct Try.underlying62 h
  match xs, hxl with
  | [x0, x1, x2, x3], _ =>
    obtain ⟨k0, e0, r0, w0⟩ := DataW.trod_int Try.underlying3 (hall 0 _ rfl)
    obtain ⟨k1, e1, r1, w1⟩ := DataW.trod_int Try.underlying3 (hall 1 _ rfl)
    obtain ⟨k2, e2, r2, w2⟩ := DataW.trod_int Try.underlying3 (hall 2 _ rfl)
    have h3 := hall 3 _ rfl
    have e0' : (cs.drop 0).take (Try.prog.cellsOf 3) = [.int .i64 k0] := e0
    have e1' : (cs.drop 1).take (Try.prog.cellsOf 3) = [.int .i64 k1] := e1
    have e2' : (cs.drop 2).take (Try.prog.cellsOf 3) = [.int .i64 k2] := e2
    have h3' : DataW.trod enc Try.prog w 0 (fun _ => true) true n 27 ((cs.drop 3).take (Try.prog.cellsOf 27)) = some x3 := h3
    obtain ⟨m, v, zs, e3, hr, i1, i2, i3⟩ := cut_cells h3' (fun m hm => hw m (by
        rw [hx]
        exact weights_part (t := 62) (j := 3) Try.underlying62 rfl (d := x3.1) rfl m hm))
    rw [cFa] at hl
    rw [cIn] at e0' e1' e2'
    rw [cCut] at e3
    match cs, hl with
    | [c0, c1, c2, c3, c4], _ =>
      simp at e0' e1' e2' e3
      subst e0'; subst e1'; subst e2'
      obtain ⟨rfl, rfl⟩ := e3
      exact ⟨⟨k0, k1, k2, m, c4, zs⟩, rfl, hr, ⟨w0, w1, w2, i1, i2, i3⟩⟩
set_option maxRecDepth 100000 in
theorem faults_of {H : Type} {enc : TypeId × Value → H} {W : World} {fuel : Nat} {c : Value} {x : DataW H × List MemPlace}
    (h : DataW.trod enc Try.prog W 0 (fun _ => true) true fuel 24 [c] = some x) (hw : ∀ n ∈ x.1.weights Try.prog 24, n ≤ reachBytes) :
    ∃ os, RdF W c os ∧ os.length ≤ 140737488351232 := by
  obtain ⟨a0, len0, cap0, rfl⟩ := slc_of Try.underlying24 h
  rcases DataW.trod_slice Try.underlying24 h with ⟨hcs, _⟩ | ⟨y, l, c, elems, rest, n, _, hcs, hx, hb, hl, hm, hlen, hel, _, _⟩
  · simp at hcs
    obtain ⟨rfl, rfl, rfl⟩ := hcs
    exact ⟨[], ⟨none, 0, rfl, Nat.le_refl _, by omega, (fun o ho => by cases ho), fun h => absurd rfl h⟩, by simp⟩
  · simp at hcs
    obtain ⟨rfl, rfl, rfl⟩ := hcs
    rw [cFa] at hel
    rw [hx] at hw
    obtain ⟨b, off, spot⟩ := y
    have hbig : len0 ≤ 140737488351232 := by
      have := hw (((elems.map Prod.fst).length + (rest.map Prod.fst).length) * Try.prog.bytesOf 62) (by simp [DataW.weights, Try.underlying24])
      rw [bytesK_fa] at this
      simp only [reachBytes, List.length_map] at this
      omega
    have each : ∀ i, ∃ o : Fa, i < len0 → (∀ j v, ([.int .i64 o.st, .int .i64 o.kd, .int .i64 o.pt, .int .i64 o.cn, o.bv] : List Value)[j]? = some v → W.cell? (((⟨b, off, spot⟩ : Addr).add (i * 5)).add j) = some v) ∧ RdS W o.bv o.bs ∧ o.Ok := by
      intro i
      by_cases hi : i < len0
      · have hi' : i < elems.length := by omega
        have := hel i hi
        rw [List.getElem?_eq_getElem hi', Option.bind_eq_some_iff] at this
        obtain ⟨cs, hcs, hy⟩ := this
        obtain ⟨o, e, hr, ho⟩ := fa_cells hy (fun m hm => hw m (weights_slice Try.underlying24 (List.mem_map.2 ⟨elems[i], List.getElem_mem hi', rfl⟩) m hm))
        have hcell := (World.cells?_some hcs).2.2
        subst e
        refine ⟨o, fun _ => ⟨fun j v hj => (hcell j ?_).trans hj, hr, ho⟩⟩
        have := (List.getElem?_eq_some_iff.1 hj).1
        simpa using this
      · exact ⟨⟨0, 0, 0, 0, .slice none 0 0, []⟩, fun h => absurd h hi⟩
    obtain ⟨f, hf'⟩ := Classical.skolem.1 each
    have hlr : ((List.range len0).map f).length = len0 := by simp
    refine ⟨(List.range len0).map f, ⟨some ⟨b, off, spot⟩, cap0, by rw [hlr], by rw [hlr]; exact hl, by unfold maxLen at hm; exact hm, fun o ho => ?_, fun hn => ?_⟩, by rw [hlr]; exact hbig⟩
    · rw [List.mem_map] at ho
      obtain ⟨i, hi, rfl⟩ := ho
      exact (hf' i (List.mem_range.1 hi)).2.2
    · have hpos : 0 < len0 := by rw [← hlr]; exact List.length_pos_iff.2 hn
      have h00 := (hf' 0 hpos).1 0 _ rfl
      have hs : spot = none := by simpa [Addr.add] using World.cell?_spot h00
      subst hs
      refine ⟨b, off, rfl, World.block_lt_of_cell? W _ (by simpa [Addr.add] using h00), fun i e hie => ?_⟩
      have hi : i < len0 := by have := (List.getElem?_eq_some_iff.1 hie).1; rwa [hlr] at this
      have e1 : e = f i := by rw [List.getElem?_map, List.getElem?_range hi] at hie; simpa using hie.symm
      subst e1
      have := (hf' i hi).1
      simp only [Addr.add_lit] at this
      exact ⟨this 0 _ rfl, this 1 _ rfl, this 2 _ rfl, this 3 _ rfl, this 4 _ rfl, (hf' i hi).2.1⟩
/-- A step's eight cells. -/
abbrev opC (x : So) : List Value := [.int .i64 x.k, .int .i64 x.who, sv x.nm, sv x.tn, x.bv, .slice x.fa x.fn x.fc, .int .i64 x.cn, .slice x.ca x.cl x.cc]
set_option maxRecDepth 100000 in
theorem op_cells {H : Type} {enc : TypeId × Value → H} {w : World} {fuel : Nat} {cs : List Value} {x : DataW H × List MemPlace}
    (h : DataW.trod enc Try.prog w 0 (fun _ => true) true fuel 48 cs = some x) (hw : ∀ n ∈ x.1.weights Try.prog 48, n ≤ reachBytes) :
    ∃ o : So, cs = opC o ∧ RdU w o.bv o.b ∧ RdF w (.slice o.fa o.fn o.fc) o.fs ∧ RdS w (.slice o.ca o.cl o.cc) o.cb ∧ o.Ok := by
  obtain ⟨xs, n, rfl, hx, hl, hxl, hall⟩ := DataW.trod_struct Try.underlying48 h
  match xs, hxl with
  | [x0, x1, x2, x3, x4, x5, x6], _ =>
    rw [hx] at hw
    obtain ⟨k0, e0, r0, w0⟩ := DataW.trod_int Try.underlying3 (hall 0 _ rfl)
    obtain ⟨k1, e1, r1, w1⟩ := DataW.trod_int Try.underlying3 (hall 1 _ rfl)
    obtain ⟨s2, e2, r2, w2⟩ := DataW.trod_string Try.underlying9 (hall 2 _ rfl)
    obtain ⟨s3, e3, r3, w3⟩ := DataW.trod_string Try.underlying9 (hall 3 _ rfl)
    have e0' : (cs.drop 0).take (Try.prog.cellsOf 3) = [.int .i64 k0] := e0
    have e1' : (cs.drop 1).take (Try.prog.cellsOf 3) = [.int .i64 k1] := e1
    have e2' : (cs.drop 2).take (Try.prog.cellsOf 9) = [.string s2] := e2
    have e3' : (cs.drop 3).take (Try.prog.cellsOf 9) = [.string s3] := e3
    have h4 : DataW.trod enc Try.prog w 0 (fun _ => true) true n 22 ((cs.drop 4).take (Try.prog.cellsOf 22)) = some x4 := hall 4 _ rfl
    have h5 : DataW.trod enc Try.prog w 0 (fun _ => true) true n 24 ((cs.drop 5).take (Try.prog.cellsOf 24)) = some x5 := hall 5 _ rfl
    have h6 : DataW.trod enc Try.prog w 0 (fun _ => true) true n 27 ((cs.drop 6).take (Try.prog.cellsOf 27)) = some x6 := hall 6 _ rfl
    obtain ⟨m, v6, zs, e6, hr, i1, i2, i3⟩ := cut_cells h6 (fun m hm => hw m (weights_part (t := 48) (j := 6) Try.underlying48 rfl (d := x6.1) rfl m hm))
    have hs2 : s2.data.toList.length ≤ 140737488351232 := by
      have := hw s2.data.toList.length (weights_part (t := 48) (j := 2) Try.underlying48 rfl (d := x2.1) rfl _ (by rw [r2]; simp [DataW.weights]))
      simpa [reachBytes] using this
    have hs3 : s3.data.toList.length ≤ 140737488351232 := by
      have := hw s3.data.toList.length (weights_part (t := 48) (j := 3) Try.underlying48 rfl (d := x3.1) rfl _ (by rw [r3]; simp [DataW.weights]))
      simpa [reachBytes] using this
    rw [cOp] at hl
    rw [cIn] at e0' e1'
    rw [cStr] at e2' e3'
    rw [cCut] at e6
    rw [cSlU] at h4
    rw [cSlF] at h5
    match cs, hl with
    | [c0, c1, c2, c3, c4, c5, c6, c7], _ =>
      simp only [List.drop_succ_cons, List.drop_zero, List.take_succ_cons, List.take_zero] at e0' e1' e2' e3' e6 h4 h5
      obtain ⟨ys, h41, h42, h43⟩ := inner_u8 h4 (fun m hm => hw m (weights_part (t := 48) (j := 4) Try.underlying48 rfl (d := x4.1) rfl m hm))
      obtain ⟨fa, fn, fc, rfl⟩ := slc_of Try.underlying24 h5
      obtain ⟨os, h51, h52⟩ := faults_of h5 (fun m hm => hw m (weights_part (t := 48) (j := 5) Try.underlying48 rfl (d := x5.1) rfl m hm))
      have hfn : fn = os.length := by obtain ⟨_, _, e, _⟩ := h51; injection e
      injection e0' with e0'
      injection e1' with e1'
      injection e2' with e2'
      injection e3' with e3'
      injection e6 with e6 e7
      injection e7 with e7
      subst e0'; subst e1'; subst e2'; subst e3'; subst e6; subst e7
      obtain ⟨ca, cl, cc, rfl⟩ : ∃ ca cl cc, c7 = .slice ca cl cc := by obtain ⟨⟨ao, cap, e, _⟩, _⟩ := hr; exact ⟨_, _, _, e⟩
      have hcl : cl = zs.length := by obtain ⟨⟨_, _, e, _⟩, _⟩ := hr; injection e
      exact ⟨⟨k0, k1, s2.data.toList, s3.data.toList, ys, c4, fa, fn, fc, m, ca, cl, cc, os, zs⟩, by unfold opC; rw [sv_of, sv_of], h41, h51, hr, ⟨hs2, hs3, h43, by show fn ≤ _; omega, by show cl ≤ _; omega, h42, i1, i2⟩⟩
set_option maxRecDepth 100000 in
theorem script_of {H : Type} {enc : TypeId × Value → H} {W : World} {a0 : Option Addr} {len0 cap0 : Nat} {d : DataW H} {p : List MemPlace}
    (h : DataW.Trod enc Try.prog W 0 (fun _ => true) true 43 (.slice a0 len0 cap0) d p) (hw : ∀ n ∈ d.weights Try.prog 43, n ≤ reachBytes) :
    ∃ os, RdO W (.slice a0 len0 cap0) os := by
  obtain ⟨fuel, hf⟩ := h
  rcases DataW.trod_slice Try.underlying43 hf with ⟨hcs, _⟩ | ⟨x, l, c, elems, rest, n, _, hcs, hx, hb, hl, hm, hlen, hel, _, _⟩
  · simp [Value.cells] at hcs
    obtain ⟨rfl, rfl, rfl⟩ := hcs
    exact ⟨[], none, 0, rfl, Nat.le_refl _, by omega, by simp, (fun o ho => by cases ho), fun h => absurd rfl h⟩
  · simp [Value.cells] at hcs
    obtain ⟨rfl, rfl, rfl⟩ := hcs
    rw [cOp] at hel
    obtain ⟨rfl, _⟩ := Prod.mk.inj hx
    obtain ⟨b, off, spot⟩ := x
    have hbig : len0 ≤ 140737488351232 := by
      have := hw (((elems.map Prod.fst).length + (rest.map Prod.fst).length) * Try.prog.bytesOf 48) (by simp [DataW.weights, Try.underlying43])
      rw [bytesK_op] at this
      simp only [reachBytes, List.length_map] at this
      omega
    have each : ∀ i, ∃ o : So, i < len0 → (∀ j v, (opC o)[j]? = some v → W.cell? (((⟨b, off, spot⟩ : Addr).add (i * 8)).add j) = some v) ∧ RdU W o.bv o.b ∧ RdF W (.slice o.fa o.fn o.fc) o.fs ∧ RdS W (.slice o.ca o.cl o.cc) o.cb ∧ o.Ok := by
      intro i
      by_cases hi : i < len0
      · have hi' : i < elems.length := by omega
        have := hel i hi
        rw [List.getElem?_eq_getElem hi', Option.bind_eq_some_iff] at this
        obtain ⟨cs, hcs, hy⟩ := this
        obtain ⟨o, e, hr⟩ := op_cells hy (fun m hm => hw m (weights_slice Try.underlying43 (List.mem_map.2 ⟨elems[i], List.getElem_mem hi', rfl⟩) m hm))
        have hcell := (World.cells?_some hcs).2.2
        subst e
        refine ⟨o, fun _ => ⟨fun j v hj => (hcell j ?_).trans hj, hr⟩⟩
        have := (List.getElem?_eq_some_iff.1 hj).1
        simpa using this
      · exact ⟨⟨0, 0, [], [], [], .slice none 0 0, none, 0, 0, 0, none, 0, 0, [], []⟩, fun h => absurd h hi⟩
    obtain ⟨f, hf'⟩ := Classical.skolem.1 each
    have hlr : ((List.range len0).map f).length = len0 := by simp
    refine ⟨(List.range len0).map f, some ⟨b, off, spot⟩, cap0, by rw [hlr], by rw [hlr]; exact hl, by unfold maxLen at hm; exact hm, by rw [hlr]; exact hbig, fun o ho => ?_, fun hn => ?_⟩
    · rw [List.mem_map] at ho
      obtain ⟨i, hi, rfl⟩ := ho
      exact (hf' i (List.mem_range.1 hi)).2.2.2.2
    · have hpos : 0 < len0 := by rw [← hlr]; exact List.length_pos_iff.2 hn
      have h00 := (hf' 0 hpos).1 0 _ rfl
      have hs : spot = none := by simpa [Addr.add] using World.cell?_spot h00
      subst hs
      refine ⟨b, off, rfl, World.block_lt_of_cell? W _ (by simpa [Addr.add] using h00), fun i e hie => ?_⟩
      have hi : i < len0 := by have := (List.getElem?_eq_some_iff.1 hie).1; rwa [hlr] at this
      have e1 : e = f i := by rw [List.getElem?_map, List.getElem?_range hi] at hie; simpa using hie.symm
      subst e1
      obtain ⟨this, h1, h2, h3, _⟩ := hf' i hi
      simp only [Addr.add_lit] at this
      exact ⟨this 0 _ rfl, this 1 _ rfl, this 2 _ rfl, this 3 _ rfl, this 4 _ rfl, this 5 _ rfl, this 6 _ rfl, this 7 _ rfl, h1, h2, h3⟩
set_option maxRecDepth 100000 in
/-- A cut that is handed in. -/
theorem cutT_of {H : Type} {enc : TypeId × Value → H} {W : World} {base : Nat} {v : Value} {d : DataW H} {p : List MemPlace} (hok : Value.okWide Try.prog W .any base 27 v)
    (h : DataW.Trod enc Try.prog W 0 (fun _ => true) true 27 v d p) (hw : ∀ n ∈ d.weights Try.prog 27, n ≤ reachBytes) :
    ∃ (n : Int) (a : Option Addr) (c : Nat) (zs : List Int), v = .agg #[.int .i64 n, .slice a zs.length c] ∧ RdS W (.slice a zs.length c) zs ∧ In64 n ∧ ∀ z ∈ zs, In64 z := by
  obtain ⟨fuel, hf⟩ := h
  obtain ⟨n, u, zs, e, h1, h2, h3, _⟩ := cut_cells hf hw
  obtain ⟨a, c, rfl⟩ : ∃ a c, u = .slice a zs.length c := by obtain ⟨⟨ao, cap, e, _⟩, _⟩ := h1; exact ⟨_, _, e⟩
  refine ⟨n, a, c, zs, ?_, h1, h2, h3⟩
  simp only [Value.okWide, Try.underlying27] at hok
  obtain ⟨xs, rfl, _⟩ := hok
  have : xs.toList = [.int .i64 n, .slice a zs.length c] := by simpa [Value.cells] using e
  congr 1
  exact Array.toList_inj.1 (by simpa using this)
end Go.Proofs.Ytaoaihjiieandaa
