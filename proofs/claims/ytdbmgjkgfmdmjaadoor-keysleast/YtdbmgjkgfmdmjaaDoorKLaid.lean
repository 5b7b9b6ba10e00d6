/- What the listed variables hold: from the row's condition to the table of powers. -/
import Derived.Test.YtdbmgjkgfmdmjaaDoorKItoa
import Derived.Test.YtdbmgjkgfmdmjaaDoorLawKit
import Derived.Test.YtdbmgjkgfmdmjaaDoorKBnd
import Derived.Test.YtdbmgjkgfmdmjaaDoorTie
import Derived.Lib.LaidTab
import Derived.LaidMore
import Derived.Stop.Joined
import Derived.Stop.LaidErr
import Derived.OpenShut
import Derived.ProofKit
import Derived.LaidLaws
import Derived.ChangeArms
namespace Go.Proofs.YtdbmgjkgfmdmjaaDoor
open Go.ChangeShapes Go.WideShapes Go.ChangeAt Go.RowKit
/- A command that came in. -/
theorem array5 {α : Type} {cs : Array α} (h : cs.size = 5) : ∃ c0 c1 c2 c3 c4, cs = #[c0, c1, c2, c3, c4] := by
  obtain ⟨l⟩ := cs
  match l, h with
  | [c0, c1, c2, c3, c4], _ => exact ⟨c0, c1, c2, c3, c4, rfl⟩
theorem c5K : Tryd.prog.cellsOf 23 = 5 := by kernel_rfl
theorem c3K : Tryd.prog.cellsOf 3 = 1 := by kernel_rfl
set_option maxRecDepth 100000 in
theorem cmd_of {H : Type} {enc : TypeId × Value → H} {W : World} {base : Nat} {v : Value} {d : DataW H} {p : List MemPlace} (hv : Value.okWide Tryd.prog W .any base 23 v) (h : DataW.Trod enc Tryd.prog W 0 (fun _ => true) true 23 v d p) :
    ∃ c : Cm, v = cmV c ∧ In64 c.r ∧ In64 c.c ∧ In64 c.v ∧ In64 c.m ∧ In64 c.a := by
  obtain ⟨cs, rfl, hsz⟩ := okWide_struct Tryd.underlying23 hv
  obtain ⟨c0, c1, c2, c3, c4, rfl⟩ := array5 (hsz.trans c5K)
  obtain ⟨fuel, hf⟩ := h
  obtain ⟨xs, n, _, _, _, hlen, hall⟩ := DataW.trod_struct Tryd.underlying23 hf
  obtain ⟨x0, x1, x2, x3, x4, hx⟩ := array5 (cs := xs.toArray) (by simpa using hlen)
  obtain rfl : xs = [x0, x1, x2, x3, x4] := by simpa using congrArg Array.toList hx
  have g0 := hall 0 _ rfl
  have g1 := hall 1 _ rfl
  have g2 := hall 2 _ rfl
  have g3 := hall 3 _ rfl
  have g4 := hall 4 _ rfl
  obtain ⟨k0, e0, _, w0⟩ := DataW.trod_int Tryd.underlying3 g0
  obtain ⟨k1, e1, _, w1⟩ := DataW.trod_int Tryd.underlying3 g1
  obtain ⟨k2, e2, _, w2⟩ := DataW.trod_int Tryd.underlying3 g2
  obtain ⟨k3, e3, _, w3⟩ := DataW.trod_int Tryd.underlying3 g3
  obtain ⟨k4, e4, _, w4⟩ := DataW.trod_int Tryd.underlying3 g4
  have e0' : ([c0, c1, c2, c3, c4].drop 0).take (Tryd.prog.cellsOf 3) = [.int .i64 k0] := e0
  rw [c3K] at e0'
  have f0 : [c0] = [.int .i64 k0] := e0'
  have e1' : ([c0, c1, c2, c3, c4].drop 1).take (Tryd.prog.cellsOf 3) = [.int .i64 k1] := e1
  rw [c3K] at e1'
  have f1 : [c1] = [.int .i64 k1] := e1'
  have e2' : ([c0, c1, c2, c3, c4].drop 2).take (Tryd.prog.cellsOf 3) = [.int .i64 k2] := e2
  rw [c3K] at e2'
  have f2 : [c2] = [.int .i64 k2] := e2'
  have e3' : ([c0, c1, c2, c3, c4].drop 3).take (Tryd.prog.cellsOf 3) = [.int .i64 k3] := e3
  rw [c3K] at e3'
  have f3 : [c3] = [.int .i64 k3] := e3'
  have e4' : ([c0, c1, c2, c3, c4].drop 4).take (Tryd.prog.cellsOf 3) = [.int .i64 k4] := e4
  rw [c3K] at e4'
  have f4 : [c4] = [.int .i64 k4] := e4'
  cases f0
  cases f1
  cases f2
  cases f3
  cases f4
  exact ⟨⟨k0, k1, k2, k3, k4⟩, rfl, w0, w1, w2, w3, w4⟩
def laidL : List (String × DataW Unit) := [("math/bits.deBruijn32tab", Rows.laid_math_bits_deBruijn32tab), ("math/bits.deBruijn64tab", Rows.laid_math_bits_deBruijn64tab), ("internal/strconv.uint64pow10", Rows.laid_internal_strconv_uint64pow10)]
theorem gPow : Tryd.prog.globalNamed "internal/strconv.uint64pow10" = some 0 := by kernel_rfl
theorem tPow : (Tryd.prog.globals[0]?).map (·.type) = some 157 := by kernel_rfl
theorem dPow : (Rows.laid_internal_strconv_uint64pow10 : DataW Unit) = Lib.tabData .u64 Lib.pow10Tab := by kernel_rfl
/-- What the condition gives the walks. -/
theorem of_laid {W : World} (h : laidMetH Tryd.prog laidL W) : Tb W := by
  rw [MakeChecks.laidMetH_plain _ _ _ (by kernel_rfl)] at h
  have h2 := h.tail.tail
  rw [dPow] at h2
  exact Lib.tabIs_of_head gPow tPow Tryd.underlying157 Tryd.underlying149 (by kernel_rfl) (by kernel_rfl) h2
theorem door_met (os : Os) (args : Array Value) : laidMetH Tryd.prog laidL ((World.doorLaid Tryd.prog 400 os).forCall (fun _ _ => 0) ⟨#[], args, []⟩).memory :=
  laidMetH_of_parts3 (fuel := 8) (laidMet_of_run' 8 (by kernel_rfl) (by kernel_rfl)) (by kernel_rfl) (by kernel_rfl)
end Go.Proofs.YtdbmgjkgfmdmjaaDoor
