/- Asks that came in. -/
import Derived.Test.YtcmglbgnpiociabLawKit
import Derived.Test.YtcmglbgnpiociabVWhole
import Derived.Laws.Cover2
namespace Go.Proofs.Ytcmglbgnpiociab
open Go.ChangeShapes Go.WideShapes Go.ChangeAt Go.RowKit

theorem cSl : Try.prog.cellsOf 27 = 1 := by kernel_rfl
theorem cInt : Try.prog.cellsOf 3 = 1 := by kernel_rfl
theorem cAk : Try.prog.cellsOf 29 = 7 := by kernel_rfl
theorem cFl : Try.prog.cellsOf 26 = 1 := by kernel_rfl

theorem weights_elem {H : Type} {P : Program} {e : TypeId} : ∀ {l : List (DataW H)} {d : DataW H}, d ∈ l → ∀ n ∈ d.weights P e, n ∈ DataW.weightsAll P e l
  | x :: l, d, h, n, hn => by
    simp only [DataW.weightsAll, List.mem_append]
    rcases List.mem_cons.1 h with rfl | h
    · exact Or.inl hn
    · exact Or.inr (weights_elem h n hn)
theorem weights_slice {H : Type} {P : Program} {t e : TypeId} {el sp : List (DataW H)} {d : DataW H} (hu : P.underlying t = some (.slice e)) (h : d ∈ el) : ∀ n ∈ d.weights P e, n ∈ (DataW.slice el sp).weights P t := by
  intro n hn
  simp only [DataW.weights, hu, List.mem_cons, List.mem_append]
  exact Or.inr (Or.inl (weights_elem h n hn))
theorem weights_part {H : Type} {P : Program} {t : TypeId} {fs : Array Field} {parts : List (DataW H)} {d : DataW H} (hu : P.underlying t = some (.struct fs)) {j : Nat} {f : Field} (hf : fs[j]? = some f) (hd : parts[j]? = some d) : ∀ n ∈ d.weights P f.type, n ∈ (DataW.agg parts).weights P t := by
  intro n hn
  simp only [DataW.weights, hu]
  exact DataW.weights_mem_each (j := j) (by simp [hf]) hd n hn

/-- One inner list: what is read of its one cell. -/
theorem inner_of {H : Type} {enc : TypeId × Value → H} {W : World} {fuel : Nat} {c : Value} {d : DataW H} {p : List MemPlace}
    (h : DataW.trod enc Try.prog W 0 (fun _ => true) true fuel 27 [c] = some (d, p)) :
    ∃ ao cap zs, c = .slice ao zs.length cap ∧ Rd .i64 W (.slice ao zs.length cap) zs ∧ (zs = [] ∨ ∃ el sp, d = .slice el sp ∧ el.length = zs.length) ∧ Sl (.slice ao zs.length cap) := by
  have hs : ∃ ao len cap, c = .slice ao len cap ∧ Sl (.slice ao len cap) := by
    rcases DataW.trod_slice Try.underlying27 h with ⟨hcs, _⟩ | ⟨x, l, k, elems, rest, n, _, hcs, _⟩
    · exact ⟨none, 0, 0, by simpa using hcs, .inl rfl⟩
    · exact ⟨some x, l, k, by simpa using hcs, .inr ⟨_, _, _, rfl⟩⟩
  obtain ⟨ao, len, cap, rfl, hsl⟩ := hs
  obtain ⟨zs, hr, _, hd⟩ := rd_of (enc := enc) (d := d) (p := p) Try.underlying27 Try.underlying3 (by kernel_rfl) ⟨fuel, by simpa [Value.cells] using h⟩
  obtain ⟨ao', cap', hv, r1, r2, r3⟩ := id hr
  simp only [Value.slice.injEq] at hv
  obtain ⟨rfl, rfl, rfl⟩ := hv
  exact ⟨ao, cap, zs, rfl, hr, hd, hsl⟩
theorem inner_bound {H : Type} {zs : List Int} {d : DataW H} (hd : zs = [] ∨ ∃ el sp, d = DataW.slice el sp ∧ el.length = zs.length) (hw : ∀ n ∈ d.weights Try.prog 27, n ≤ reachBytes) : zs.length * 8 ≤ 140737488351232 := by
  rcases hd with rfl | ⟨el, sp, rfl, hel⟩
  · simp
  · have := hw ((el.length + sp.length) * Try.prog.bytesOf 3) (by simp [DataW.weights, Try.underlying27])
    rw [bytesK_i64] at this
    simp only [reachBytes] at this
    omega


theorem trod_float {H : Type} {enc : TypeId × Value → H} {w : World} {fuel : Nat} {cs : List Value} {x : DataW H × List MemPlace} {k : FloatKind} {t : TypeId} (ht : Try.prog.underlying t = some (.float k)) (h : DataW.trod enc Try.prog w 0 (fun _ => true) true fuel t cs = some x) : ∃ n, cs = [.float k n] ∧ x = (.lit (.float k n), []) ∧ (Lit.float k n).wf = true := by
  cases fuel with
  | zero => simp [DataW.trod] at h
  | succ n =>
    unfold DataW.trod at h
    rw [ht] at h
    split at h <;> simp_all

/-- The seven cells of an ask. -/
def CAk (w : World) (b o : Nat) (q : Ak) : Prop := ∀ j c, q.cs[j]? = some c → w.cell? ⟨b, o + j, none⟩ = some c

theorem ak_cells {H : Type} {enc : TypeId × Value → H} {w : World} {fuel : Nat} {cs : List Value} {d : DataW H} {p : List MemPlace}
    (h : DataW.trod enc Try.prog w 0 (fun _ => true) true fuel 29 cs = some (d, p)) (hw : ∀ n ∈ d.weights Try.prog 29, n ≤ reachBytes) :
    ∃ q : Ak, cs = q.cs.toList ∧ q.Ok w ∧ (Lit.float .f64 q.x).wf = true := by
  obtain ⟨xs, n, rfl, hx, hl, hxl, hall⟩ := DataW.trod_struct Try.underlying29 h
  match xs, hxl with
  | [x0, x1, x2, x3, x4, x5, x6], _ =>
    have h0 := hall 0 _ rfl
    have h1 := hall 1 _ rfl
    have h2 := hall 2 _ rfl
    have h3 := hall 3 _ rfl
    have h4 := hall 4 _ rfl
    have h5 := hall 5 _ rfl
    have h6 := hall 6 _ rfl
    obtain ⟨k0, e0, r0, w0⟩ := DataW.trod_int Try.underlying3 h0
    obtain ⟨k1, e1, r1, w1⟩ := DataW.trod_int Try.underlying3 h1
    obtain ⟨k2, e2, r2, w2⟩ := DataW.trod_int Try.underlying3 h2
    obtain ⟨k3, e3, r3, w3⟩ := DataW.trod_int Try.underlying3 h3
    obtain ⟨k4, e4, r4, w4⟩ := DataW.trod_int Try.underlying3 h4
    obtain ⟨k5, e5, r5, w5⟩ := trod_float Try.underlying26 h5
    have e0' : (cs.drop 0).take (Try.prog.cellsOf 3) = [.int .i64 k0] := e0
    have e1' : (cs.drop 1).take (Try.prog.cellsOf 3) = [.int .i64 k1] := e1
    have e2' : (cs.drop 2).take (Try.prog.cellsOf 3) = [.int .i64 k2] := e2
    have e3' : (cs.drop 3).take (Try.prog.cellsOf 3) = [.int .i64 k3] := e3
    have e4' : (cs.drop 4).take (Try.prog.cellsOf 3) = [.int .i64 k4] := e4
    have e5' : (cs.drop 5).take (Try.prog.cellsOf 26) = [.float .f64 k5] := e5
    have h6' : DataW.trod enc Try.prog w 0 (fun _ => true) true n 27 ((cs.drop 6).take (Try.prog.cellsOf 27)) = some x6 := h6
    rw [cAk] at hl
    rw [cInt] at e0' e1' e2' e3' e4'
    rw [cFl] at e5'
    rw [cSl] at h6'
    match cs, hl with
    | [c0, c1, c2, c3, c4, c5, c6], _ =>
      simp at e0' e1' e2' e3' e4' e5'
      subst e0'; subst e1'; subst e2'; subst e3'; subst e4'; subst e5'
      simp only [List.drop_succ_cons, List.drop_zero, List.take_succ_cons, List.take_zero] at h6'
      obtain ⟨ai, ci, zs, rfl, hr, hd, hsl⟩ := inner_of (d := x6.1) (p := x6.2) h6'
      refine ⟨⟨k0, k1, k2, k3, k4, k5, _, zs⟩, rfl, ⟨(in64_of w2).1, hr, inner_bound hd ?_, hsl⟩, w5⟩
      intro m hm
      refine hw m ?_
      obtain ⟨rfl, _⟩ := Prod.mk.inj hx
      exact weights_part (t := 29) (j := 6) Try.underlying29 rfl (d := x6.1) rfl m hm

/-- The slice v holds n asks. -/
def RdA (w : World) (v : Value) (n : Nat) : Prop :=
  ∃ ao cap, v = .slice ao n cap ∧ n ≤ cap ∧ cap ≤ maxLen ∧ (0 < n → ∃ b off, ao = some ⟨b, off, none⟩ ∧ b < w.heap.size ∧ ∀ i, i < n → ∃ q : Ak, CAk w b (off + i * 7) q ∧ q.Ok w ∧ (Lit.float .f64 q.x).wf = true)

theorem asks_of {H : Type} {enc : TypeId × Value → H} {W : World} {a0 : Option Addr} {len0 cap0 : Nat} {d : DataW H} {p : List MemPlace}
    (h : DataW.Trod enc Try.prog W 0 (fun _ => true) true 22 (.slice a0 len0 cap0) d p) (hw : ∀ n ∈ d.weights Try.prog 22, n ≤ reachBytes) :
    RdA W (.slice a0 len0 cap0) len0 := by
  obtain ⟨fuel, hf⟩ := h
  rcases DataW.trod_slice Try.underlying22 hf with ⟨hcs, _⟩ | ⟨x, l, c, elems, rest, n, _, hcs, hx, hb, hl, hm, hlen, hel, _, _⟩
  · simp [Value.cells] at hcs
    obtain ⟨rfl, rfl, rfl⟩ := hcs
    exact ⟨none, 0, rfl, Nat.le_refl _, by simp [maxLen], fun h => by omega⟩
  · simp [Value.cells] at hcs
    obtain ⟨rfl, rfl, rfl⟩ := hcs
    rw [cAk] at hel
    obtain ⟨rfl, _⟩ := Prod.mk.inj hx
    obtain ⟨b, off, spot⟩ := x
    have each : ∀ i, i < len0 → ∃ q : Ak, (∀ j c, q.cs[j]? = some c → W.cell? (((⟨b, off, spot⟩ : Addr).add (i * 7)).add j) = some c) ∧ q.Ok W ∧ (Lit.float .f64 q.x).wf = true := by
      intro i hi
      have hi' : i < elems.length := by omega
      have := hel i hi
      rw [List.getElem?_eq_getElem hi', Option.bind_eq_some_iff] at this
      obtain ⟨cs, hcs, hy⟩ := this
      obtain ⟨q, rfl, hq, hx⟩ := ak_cells (d := elems[i].1) (p := elems[i].2) hy (fun m hm => hw m (weights_slice Try.underlying22 (List.mem_map.2 ⟨elems[i], List.getElem_mem hi', rfl⟩) m hm))
      have hcell := (World.cells?_some hcs).2.2
      refine ⟨q, fun j c hj => ?_, hq, hx⟩
      have hj7 : j < 7 := by
        have := (Array.getElem?_eq_some_iff.1 hj).1
        simpa [Ak.cs] using this
      have := hcell j hj7
      rw [Array.getElem?_toList] at this
      exact this.trans hj
    refine ⟨some ⟨b, off, spot⟩, cap0, rfl, hl, hm, fun hpos => ?_⟩
    have hs : spot = none := by
      obtain ⟨q, h1, _⟩ := each 0 hpos
      simpa [Addr.add] using World.cell?_spot (h1 0 _ rfl)
    subst hs
    obtain ⟨q0, h1, _⟩ := each 0 hpos
    refine ⟨b, off, rfl, World.block_lt_of_cell? W _ (by simpa [Addr.add] using h1 0 _ rfl), fun i hi => ?_⟩
    obtain ⟨q, hc, hr, hx⟩ := each i hi
    refine ⟨q, fun j c hj => ?_, hr, hx⟩
    have := hc j c hj
    rw [Addr.add_lit, Addr.add_lit] at this
    exact this
end Go.Proofs.Ytcmglbgnpiociab
