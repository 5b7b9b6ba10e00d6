/- A slice of asks that came in. -/
import Derived.Test.YtlignhpbmbdoeaaDoorLawKit
import Derived.Test.YtlignhpbmbdoeaaDoorLaid
namespace Go.Proofs.YtlignhpbmbdoeaaDoor
open Go.ChangeShapes Go.WideShapes Go.ChangeAt Go.RowKit

theorem cAsk : Tryd.prog.cellsOf 29 = 2 := by kernel_rfl
theorem bytesK_ask : Tryd.prog.bytesOf 29 = 16 := by kernel_rfl

/-- The slice v reads as these pairs. -/
def RdA (w : World) (v : Value) (zs : List (Int × Int)) : Prop :=
  ∃ ao cap, v = .slice ao zs.length cap ∧ zs.length ≤ cap ∧ cap ≤ maxLen ∧
    (zs ≠ [] → ∃ b off, ao = some ⟨b, off, none⟩ ∧ b < w.heap.size ∧ ∀ i, i < zs.length → w.cell? ⟨b, off + i * 2, none⟩ = some (.int .i64 (zs[i]?.getD (0, 0)).1) ∧ w.cell? ⟨b, off + i * 2 + 1, none⟩ = some (.int .i64 (zs[i]?.getD (0, 0)).2))

theorem ask_cells {H : Type} {enc : TypeId × Value → H} {w : World} {sp : Nat → Bool} {held : Bool} {fuel : Nat} {cs : List Value} {x : DataW H × List MemPlace}
    (h : DataW.trod enc Tryd.prog w 0 sp held fuel 29 cs = some x) : ∃ a b, cs[0]? = some (.int .i64 a) ∧ cs[1]? = some (.int .i64 b) ∧ (Lit.int .i64 a).wf = true ∧ (Lit.int .i64 b).wf = true := by
  obtain ⟨xs, n, rfl, hx, hl, hxl, hall⟩ := DataW.trod_struct Tryd.underlying29 h
  match xs, hxl with
  | [x0, x1], _ =>
    have h0 := hall 0 _ rfl
    have h1 := hall 1 _ rfl
    obtain ⟨k0, e0, r0, w0⟩ := DataW.trod_int Tryd.underlying3 h0
    obtain ⟨k1, e1, r1, w1⟩ := DataW.trod_int Tryd.underlying3 h1
    have e0' : (cs.drop 0).take (Tryd.prog.cellsOf 3) = [.int .i64 k0] := e0
    have e1' : (cs.drop 1).take (Tryd.prog.cellsOf 3) = [.int .i64 k1] := e1
    rw [c3] at e0' e1'
    have f0 := congrArg (·[0]?) e0'
    have f1 := congrArg (·[0]?) e1'
    simp only [List.getElem?_take, List.getElem?_drop] at f0 f1
    exact ⟨k0, k1, by simpa using f0, by simpa using f1, w0, w1⟩

/-- The numbers of a pair's two cells. -/
def askOf (w : World) (b off i : Nat) : Int × Int :=
  (match w.cell? ⟨b, off + i * 2, none⟩ with | some (.int _ a) => a | _ => 0, match w.cell? ⟨b, off + i * 2 + 1, none⟩ with | some (.int _ a) => a | _ => 0)

theorem asks_of {H : Type} {enc : TypeId × Value → H} {W : World} {a0 : Option Addr} {len0 cap0 : Nat} {d : DataW H} {p : List MemPlace}
    (h : DataW.Trod enc Tryd.prog W 0 (fun _ => true) true 26 (.slice a0 len0 cap0) d p) :
    ∃ zs, RdA W (.slice a0 len0 cap0) zs ∧ (∀ z ∈ zs, -9223372036854775808 ≤ z.2 ∧ z.2 ≤ 9223372036854775807) ∧ (zs = [] ∨ ∃ el sp, d = .slice el sp ∧ el.length = zs.length) := by
  obtain ⟨fuel, hf⟩ := h
  rcases DataW.trod_slice Tryd.underlying26 hf with ⟨hcs, _⟩ | ⟨x, l, c, elems, rest, n, _, hcs, hx, hb, hl, hm, hlen, hel, _, _⟩
  · simp [Value.cells] at hcs
    obtain ⟨rfl, rfl, rfl⟩ := hcs
    exact ⟨[], ⟨none, 0, rfl, Nat.le_refl _, by simp [maxLen], fun h => absurd rfl h⟩, by simp, .inl rfl⟩
  · simp [Value.cells] at hcs
    obtain ⟨rfl, rfl, rfl⟩ := hcs
    rw [cAsk] at hel
    obtain ⟨b, off, spot⟩ := x
    have each : ∀ i, i < len0 → ∃ a c, W.cell? ((⟨b, off, spot⟩ : Addr).add (i * 2)) = some (.int .i64 a) ∧ W.cell? (((⟨b, off, spot⟩ : Addr).add (i * 2)).add 1) = some (.int .i64 c) ∧ (Lit.int .i64 c).wf = true := by
      intro i hi
      have hi' : i < elems.length := by omega
      have := hel i hi
      rw [List.getElem?_eq_getElem hi', Option.bind_eq_some_iff] at this
      obtain ⟨cs, hcs, hy⟩ := this
      obtain ⟨a, c, e0, e1, _, w1⟩ := ask_cells hy
      have hcell := (World.cells?_some hcs).2.2
      refine ⟨a, c, ?_, ?_, w1⟩
      · have := hcell 0 (by omega)
        rw [e0] at this
        simpa [Addr.add] using this
      · have := hcell 1 (by omega)
        rw [e1] at this
        exact this
    have hspot : 0 < len0 → spot = none := by
      intro h0
      obtain ⟨a, c, h1, _⟩ := each 0 h0
      simpa [Addr.add] using World.cell?_spot h1
    have hlen' : ((List.range len0).map (askOf W b off)).length = len0 := by simp
    refine ⟨(List.range len0).map (askOf W b off), ⟨some ⟨b, off, spot⟩, cap0, by rw [hlen'], by rw [hlen']; exact hl, hm, fun hn => ?_⟩, ?_, .inr ⟨_, _, (Prod.mk.inj hx).1, by rw [hlen']; simp [hlen]⟩⟩
    · have hpos : 0 < len0 := by
        rcases Nat.eq_zero_or_pos len0 with h | h
        · subst h; simp at hn
        · exact h
      have hs := hspot hpos
      subst hs
      obtain ⟨a, c, h1, _⟩ := each 0 hpos
      refine ⟨b, off, rfl, World.block_lt_of_cell? W _ (by simpa [Addr.add] using h1), fun i hi => ?_⟩
      rw [hlen'] at hi
      obtain ⟨a, c, h1, h2, _⟩ := each i hi
      rw [Addr.add_lit] at h1 h2
      rw [Addr.add_lit] at h2
      have hz : ((List.range len0).map (askOf W b off))[i]? = some (a, c) := by
        rw [List.getElem?_map, List.getElem?_range hi]
        simp only [Option.map_some, askOf, h1, h2]
      rw [hz]
      exact ⟨h1, h2⟩
    · intro z hz
      obtain ⟨i, hi, rfl⟩ := List.mem_map.1 hz
      have hi' : i < len0 := by simpa using hi
      have hs := hspot (by omega)
      subst hs
      obtain ⟨a, c, h1, h2, hw⟩ := each i hi'
      rw [Addr.add_lit] at h2
      rw [Addr.add_lit] at h2
      have := bounds_i64 hw
      simp only [askOf, h2]
      omega
end Go.Proofs.YtlignhpbmbdoeaaDoor
