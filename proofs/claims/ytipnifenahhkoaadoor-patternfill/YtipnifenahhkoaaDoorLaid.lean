/- What the listed variables hold: from the row's condition to the two tables. -/
import Derived.Test.YtipnifenahhkoaaDoorCase
import Derived.Test.YtipnifenahhkoaaDoorLawKit
import Derived.Test.YtipnifenahhkoaaDoorTie
import Derived.Lib.LaidTab
import Derived.LaidMore
import Derived.Stop.Joined
import Derived.OpenShut
import Derived.ProofKit
import Derived.LaidLaws
import Derived.ChangeArms
namespace Go.Proofs.YtipnifenahhkoaaDoor
open Go.ChangeShapes Go.WideShapes Go.ChangeAt Go.RowKit

def laidV : List (String × DataW Unit) := [("copyist/glyph.distances", Rows.laid_copyist_glyph_distances), ("copyist/glyph.oneWay", Rows.laid_copyist_glyph_oneWay)]

theorem gOne : Tryd.prog.globalNamed "copyist/glyph.oneWay" = some 0 := by kernel_rfl
theorem gDist : Tryd.prog.globalNamed "copyist/glyph.distances" = some 1 := by kernel_rfl
theorem tOne : (Tryd.prog.globals[0]?).map (·.type) = some 67 := by kernel_rfl
theorem tDist : (Tryd.prog.globals[1]?).map (·.type) = some 72 := by kernel_rfl
theorem c3 : Tryd.prog.cellsOf 3 = 1 := by kernel_rfl
theorem c4 : Tryd.prog.cellsOf 4 = 1 := by kernel_rfl
theorem c66 : Tryd.prog.cellsOf 66 = 3 := by kernel_rfl
theorem c72 : Tryd.prog.cellsOf 72 = 14 := by kernel_rfl

theorem entry_cells {w : World} {sp : Nat → Bool} {held : Bool} {fuel : Nat} {cs : List Value} {p : List MemPlace} {a t : Int} {b : Bool}
    (h : DataW.trod (fun _ => ()) Tryd.prog w 0 sp held fuel 66 cs = some (.agg [.lit (.int .i64 a), .lit (.int .i64 t), .lit (.bool b)], p)) : cs[0]? = some (.int .i64 a) ∧ cs[1]? = some (.int .i64 t) ∧ cs[2]? = some (.bool b) := by
  obtain ⟨xs, n, rfl, hx, hl, hxl, hall⟩ := DataW.trod_struct Tryd.underlying66 h
  have hx1 := (Prod.mk.inj hx).1
  match xs, hxl with
  | [x0, x1, x2], _ =>
    simp only [List.map_cons, List.map_nil, DataW.agg.injEq, List.cons.injEq] at hx1
    have h0 := hall 0 _ rfl
    have h1 := hall 1 _ rfl
    have h2 := hall 2 _ rfl
    obtain ⟨k0, e0, r0, _⟩ := DataW.trod_int Tryd.underlying3 h0
    obtain ⟨k1, e1, r1, _⟩ := DataW.trod_int Tryd.underlying3 h1
    obtain ⟨k2, e2, r2⟩ := DataW.trod_bool Tryd.underlying4 h2
    have e0' : (cs.drop 0).take (Tryd.prog.cellsOf 3) = [.int .i64 k0] := e0
    have e1' : (cs.drop 1).take (Tryd.prog.cellsOf 3) = [.int .i64 k1] := e1
    have e2' : (cs.drop 2).take (Tryd.prog.cellsOf 4) = [.bool k2] := e2
    rw [c3] at e0' e1'
    rw [c4] at e2'
    rw [r0, r1, r2] at hx1
    simp only [DataW.lit.injEq, Lit.int.injEq, Lit.bool.injEq, true_and, and_true] at hx1
    obtain ⟨rfl, rfl, rfl⟩ := hx1
    have f0 := congrArg (·[0]?) e0'
    have f1 := congrArg (·[0]?) e1'
    have f2 := congrArg (·[0]?) e2'
    simp only [List.getElem?_take, List.getElem?_drop] at f0 f1 f2
    exact ⟨by simpa using f0, by simpa using f1, by simpa using f2⟩

/-- What the condition gives the walks. -/
theorem of_laid {W : World} (h : laidMetH Tryd.prog laidV W) : Tabs W := by
  rw [MakeChecks.laidMetH_plain _ _ _ (by kernel_rfl)] at h
  have hD := Lib.tabIs_of_head (P := Tryd.prog) (W := W) (k := .i64) (zs := Gx.dist) (rest := [("copyist/glyph.oneWay", Rows.laid_copyist_glyph_oneWay)]) gDist tDist Tryd.underlying72 Tryd.underlying3 c3 c72 h
  obtain ⟨ps, ⟨g0, t0, cs0, f0, p0, q0, hg0, ht0, hv0, hd0, ⟨g1, t1, cs1, f1, p1, q1, hg1, ht1, hv1, hd1, _, _⟩, _⟩, _, _⟩ := h
  obtain rfl := Option.some.inj (gOne.symm.trans hg1)
  obtain rfl := Option.some.inj (tOne.symm.trans ht1)
  have hdist : ∀ i, i < 14 → W.cell? ⟨1, i, none⟩ = some (.int .i64 (Gx.ds i)) := fun i hi => hD.cell gDist i hi
  refine ⟨World.block_lt_of_cell? W _ (hdist 0 (by omega)), fun i hi => ?_, hdist⟩
  obtain ⟨xs, m1, rfl, hx1, hlen, hn, hel⟩ := DataW.trod_array Tryd.underlying67 hd1
  have he := hel i hi
  rw [c66] at he
  have hx := (Prod.mk.inj hx1).1
  have hxi : (xs.map (·.1))[i]? = some (.agg [.lit (.int .i64 (Gx.ow i).1), .lit (.int .i64 (Gx.ow i).2.1), .lit (.bool (Gx.ow i).2.2)]) := by
    have hds : xs.map (·.1) = Gx.oneWay.map fun e => (.agg [.lit (.int .i64 e.1), .lit (.int .i64 e.2.1), .lit (.bool e.2.2)] : DataW Unit) := (DataW.agg.inj hx).symm
    rw [hds, List.getElem?_map]
    have : Gx.oneWay[i]? = some (Gx.ow i) := by
      have h9 : i < Gx.oneWay.length := hi
      unfold Gx.ow
      rw [List.getD_eq_getElem?_getD, List.getElem?_eq_getElem h9]
      rfl
    rw [this]
    rfl
  rw [List.getElem?_map] at hxi
  obtain ⟨x, hx', hxe⟩ := Option.map_eq_some_iff.1 hxi
  rw [hx'] at he
  obtain ⟨d, pl⟩ := x
  simp only at hxe
  subst hxe
  obtain ⟨e0, e1, e2⟩ := entry_cells he
  simp only [List.getElem?_take, List.getElem?_drop] at e0 e1 e2
  refine ⟨?_, ?_, ?_⟩
  · rw [World.var?_cell gOne hv1 (i * 3), ← Array.getElem?_toList]
    simpa using e0
  · rw [World.var?_cell gOne hv1 (i * 3 + 1), ← Array.getElem?_toList]
    simpa using e1
  · rw [World.var?_cell gOne hv1 (i * 3 + 2), ← Array.getElem?_toList]
    simpa using e2

/-- The door's own heap meets the condition. -/
theorem door_met (os : Os) (args : Array Value) : laidMetH Tryd.prog laidV ((World.doorLaid Tryd.prog 400 os).forCall (fun _ _ => 0) ⟨#[], args, []⟩).memory :=
  laidMetH_of_parts3 (fuel := 8) (laidMet_of_run' 8 (by kernel_rfl) (by kernel_rfl)) (by kernel_rfl) (by kernel_rfl)

theorem i64s_of {zs : List Int} (h : ∀ n ∈ zs, (Lit.int .i64 n).wf = true) : ∀ z ∈ zs, -9223372036854775808 ≤ z ∧ z ≤ 9223372036854775807 := by
  intro z hz
  have := bounds_i64 (h z hz)
  omega
end Go.Proofs.YtipnifenahhkoaaDoor
