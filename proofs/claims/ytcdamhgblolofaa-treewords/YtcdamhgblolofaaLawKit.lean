/- What the rows' proofs share: a slice of runs that came in. -/
import Derived.Test.YtcdamhgblolofaaMem
import Derived.ProofKit
import Derived.OpenShut
import Derived.ChangeOld
import Derived.SizedLaws
import Derived.Below
namespace Go.Proofs.Ytcdamhgblolofaa
open Go.ChangeShapes Go.WideShapes Go.ChangeAt Go.RowKit

theorem ownK : ownKnob Try.prog.godebug = none := by kernel_rfl
theorem laidOutK : laidOutB Try.prog = true := by kernel_rfl
theorem bytesK_i64 : Try.prog.bytesOf 3 = 8 := by kernel_rfl
theorem bytesK_run : Try.prog.bytesOf 24 = 16 := by kernel_rfl
theorem cInt : Try.prog.cellsOf 3 = 1 := by kernel_rfl
theorem cRun : Try.prog.cellsOf 24 = 2 := by kernel_rfl

set_option maxRecDepth 100000 in
theorem run_cells {H : Type} {enc : TypeId × Value → H} {w : World} {fuel : Nat} {cs : List Value} {d : DataW H} {p : List MemPlace}
    (h : DataW.trod enc Try.prog w 0 (fun _ => true) true fuel 24 cs = some (d, p)) : ∃ x : It, cs[0]? = some (.int .i64 x.1) ∧ cs[1]? = some (.int .i64 x.2) := by
  obtain ⟨xs, n, rfl, hx, hl, hxl, hall⟩ := DataW.trod_struct Try.underlying24 h
  match xs, hxl with
  | [x0, x1], _ =>
    have h0 := hall 0 _ rfl
    have h1 := hall 1 _ rfl
    obtain ⟨k0, e0, r0, w0⟩ := DataW.trod_int Try.underlying3 h0
    obtain ⟨k1, e1, r1, w1⟩ := DataW.trod_int Try.underlying3 h1
    have e0' : (cs.drop 0).take (Try.prog.cellsOf 3) = [.int .i64 k0] := e0
    have e1' : (cs.drop 1).take (Try.prog.cellsOf 3) = [.int .i64 k1] := e1
    rw [cRun] at hl
    rw [cInt] at e0' e1'
    match cs, hl with
    | [c0, c1], _ =>
      simp at e0' e1'
      subst e0'; subst e1'
      exact ⟨(k0, k1), rfl, rfl⟩
theorem rdR_of {H : Type} {enc : TypeId × Value → H} {W : World} {a0 : Option Addr} {len0 cap0 : Nat} {d : DataW H} {p : List MemPlace}
    (h : DataW.Trod enc Try.prog W 0 (fun _ => true) true 22 (.slice a0 len0 cap0) d p) :
    ∃ xs, RdR W (.slice a0 len0 cap0) xs ∧ (xs = [] ∨ ∃ el sp, d = .slice el sp ∧ el.length = xs.length) := by
  obtain ⟨fuel, hf⟩ := h
  rcases DataW.trod_slice Try.underlying22 hf with ⟨hcs, _⟩ | ⟨x, l, c, elems, rest, n, _, hcs, hx, hb, hl, hm, hlen, hel, _, _⟩
  · simp [Value.cells] at hcs
    obtain ⟨rfl, rfl, rfl⟩ := hcs
    exact ⟨[], RdR.nil W, .inl rfl⟩
  · simp [Value.cells] at hcs
    obtain ⟨rfl, rfl, rfl⟩ := hcs
    rw [cRun] at hel
    obtain ⟨rfl, _⟩ := Prod.mk.inj hx
    obtain ⟨b, off, spot⟩ := x
    have each : ∀ i, ∃ x : It, i < len0 → W.cell? ((⟨b, off, spot⟩ : Addr).add (i * 2)) = some (.int .i64 x.1) ∧ W.cell? (((⟨b, off, spot⟩ : Addr).add (i * 2)).add 1) = some (.int .i64 x.2) := by
      intro i
      by_cases hi : i < len0
      · have hi' : i < elems.length := by omega
        have := hel i hi
        rw [List.getElem?_eq_getElem hi', Option.bind_eq_some_iff] at this
        obtain ⟨cs, hcs, hy⟩ := this
        obtain ⟨x, e0, e1⟩ := run_cells (d := elems[i].1) (p := elems[i].2) hy
        have hcell := (World.cells?_some hcs).2.2
        refine ⟨x, fun _ => ⟨?_, ?_⟩⟩
        · have := hcell 0 (by omega)
          rw [e0] at this
          simpa [Addr.add] using this
        · have := hcell 1 (by omega)
          rw [e1] at this
          exact this
      · exact ⟨(0, 0), fun h => absurd h hi⟩
    obtain ⟨f, hf'⟩ := Classical.skolem.1 each
    refine ⟨(List.range len0).map f, ⟨some ⟨b, off, spot⟩, cap0, by simp, by simpa using hl, hm, (fun h => by cases h), fun hn => ?_⟩, .inr ⟨_, _, rfl, by simp; omega⟩⟩
    have hpos : 0 < len0 := by
      rcases Nat.eq_zero_or_pos len0 with h | h
      · subst h; simp at hn
      · exact h
    have hs : spot = none := by simpa [Addr.add] using World.cell?_spot (hf' 0 hpos).1
    subst hs
    refine ⟨b, off, rfl, World.block_lt_of_cell? W _ (by simpa [Addr.add] using (hf' 0 hpos).1), fun i hi => ?_⟩
    simp only [List.length_map, List.length_range] at hi
    have := hf' i hi
    rw [Addr.add_lit, Addr.add_lit] at this
    simpa [hi] using this
end Go.Proofs.Ytcdamhgblolofaa
