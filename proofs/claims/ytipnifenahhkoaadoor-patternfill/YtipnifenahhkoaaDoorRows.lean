/-
  NARROWER THAN 'FOR EVERY INPUT', by the rows' own cells (each row's printed sentence says how): PatternFill: laid.
  DERIVED. THE GIVEN ROWS OF THIS SEAT. 1 by the template 'for every input the law returns true; each argument reads behind the call as it read before'; 0 by the template 'total and deterministic' (their statements: YtipnifenahhkoaaDoorTotals.lean).
  GIVEN WITH THE SEED: the statements are not yours to turn. If you find one false, say at which input.
  Laid BY PROGRAM, IN A SANDBOX (cutbox-rows.mjs): the forced cells as the released guide's own fill.sh prints them over the translation c488be878d8fa98d… (all of the seat's roots in one cut). By AI agents, Wed Nov 11 2026. No macro, syntax, notation, axiom, sorry.
-/
import Derived.Test.YtipnifenahhkoaaDoorChecked
import GoSem.Claim
import GoSem.ClaimJoined
import GoSem.ClaimMapViews
import Derived.JoinedTies
import Derived.KernelRfl
namespace Go.Proofs.YtipnifenahhkoaaDoor
/- THE CELL 'sum', in the pinned program and in every row, IS THE sha256 OF THE DUMP (.gsa) THAT YtipnifenahhkoaaDoorProg.lean LOADS. Nothing in Lean hashes anything: it is a label: what it is worth is what the hold of that sum in a sandbox is worth. -/
noncomputable def Tryd.pinned : Pinned := { name := "ytipnifenahhkoaadoor", sum := "c488be878d8fa98d5668eefdb130bbb7c50e597d4a41b05953cdb94c2836bce7", checked := Tryd.checked }
namespace Rows
def none {H : Type} : Left H := { results := [], args := [] }

/- WHAT THE LISTED PACKAGE-LEVEL VARIABLES READ AS WHEN THE CALL BEGINS. Each datum BY PROGRAM (the guide's laid-datum.mjs) off the statement by which the dump's own 'gosem.cut.vars' lays the variable. In a bare row this is a premise. The card (YtipnifenahhkoaaDoorCards.lean) ties it to the program's text. -/
def laid_copyist_glyph_distances {H : Type} : DataW H := .agg [.lit (.int .i64 1), .lit (.int .i64 (-121)), .lit (.int .i64 8), .lit (.int .i64 15), .lit (.int .i64 16), .lit (.int .i64 26), .lit (.int .i64 32), .lit (.int .i64 37), .lit (.int .i64 38), .lit (.int .i64 40), .lit (.int .i64 48), .lit (.int .i64 63), .lit (.int .i64 64), .lit (.int .i64 80)]
def laid_copyist_glyph_oneWay {H : Type} : DataW H := .agg [.agg [.lit (.int .i64 181), .lit (.int .i64 924), .lit (.bool false)], .agg [.lit (.int .i64 304), .lit (.int .i64 105), .lit (.bool true)], .agg [.lit (.int .i64 305), .lit (.int .i64 73), .lit (.bool false)], .agg [.lit (.int .i64 383), .lit (.int .i64 83), .lit (.bool false)], .agg [.lit (.int .i64 962), .lit (.int .i64 931), .lit (.bool false)], .agg [.lit (.int .i64 7838), .lit (.int .i64 223), .lit (.bool true)], .agg [.lit (.int .i64 8486), .lit (.int .i64 969), .lit (.bool true)], .agg [.lit (.int .i64 8490), .lit (.int .i64 107), .lit (.bool true)], .agg [.lit (.int .i64 8491), .lit (.int .i64 229), .lit (.bool true)]]

/-- 'copyistlaw10.PatternFill': WHATEVER THE INPUT: true; the input reads as it did. -/
def patternFillSpec : ChangeSpec := { name := "patternFill", fn := fun _ => fun
  | [d1, d2, d3] => { results := [.lit (.bool true)], args := [d1, d2, d3] }
  | _ => none }
def patternFillRow : OpenClaim := { program := "ytipnifenahhkoaadoor", sum := "c488be878d8fa98d5668eefdb130bbb7c50e597d4a41b05953cdb94c2836bce7", func := "copyist/copyistlaw10.PatternFill", spec := "patternFill", unfollowed := true, recurses := true, named := ["copyist/glyph.oneWay", "copyist/glyph.distances"], apart := false, laid := [("copyist/glyph.distances", laid_copyist_glyph_distances), ("copyist/glyph.oneWay", laid_copyist_glyph_oneWay)] }
def PatternFillSaid : Prop := patternFillRow.holds Tryd.pinned (OpenSpec.ofChange patternFillSpec)

/-- ITS FALSE NEIGHBOUR: 'it returns false'. Refute it at one input. -/
def patternFillWrong : ChangeSpec := { name := "patternFill", fn := fun _ => fun
  | [d1, d2, d3] => { results := [.lit (.bool false)], args := [d1, d2, d3] }
  | _ => none }
def PatternFillWrongFalsely : Prop := patternFillRow.holds Tryd.pinned (OpenSpec.ofChange patternFillWrong)

/- THE SECOND FORM. 'bulk': how many values and letters a reading holds, each counted each time it is reached (what is shared counts as often as it is met; a slice's spare places count too). A statement '..UptoSaid' is the law's where the arguments, and the package variables that the reading takes, are together of bulk at most 1048576: NARROWER than '..Said'. Prove '..Said' where nothing that the law and all that it calls make is longer than what came in: it says more and counts as full. Else prove '..UptoSaid'. A law counts once. -/
mutual
def uptoBulk {H : Type} : DataW H → Nat
  | .lit (.string bytes) => bytes.length + 1
  | .lit _ => 1
  | .nil => 1
  | .ptr d => uptoBulk d + 1
  | .slice elems spare => uptoBulkAll elems + uptoBulkAll spare + 1
  | .agg parts => uptoBulkAll parts + 1
  | .iface _ d => uptoBulk d + 1
  | .map entries => uptoBulkEntries entries + 1
  | .held _ => 1
def uptoBulkAll {H : Type} : List (DataW H) → Nat
  | [] => 0
  | d :: r => uptoBulk d + uptoBulkAll r
def uptoBulkEntries {H : Type} : List (Lit × DataW H) → Nat
  | [] => 0
  | x :: r => uptoBulkEntry x + uptoBulkEntries r
def uptoBulkEntry {H : Type} : Lit × DataW H → Nat
  | (.string bytes, d) => bytes.length + uptoBulk d + 1
  | (_, d) => uptoBulk d + 1
 end
def uptoSmall : (H : Type) → List (DataW H) → Bool := fun _ ds => decide (uptoBulkAll ds ≤ 1048576)
def OpenSpec.upto (s : _root_.Go.ChangeSpec) : _root_.Go.OpenSpec := { _root_.Go.OpenSpec.ofChange s with cond := some uptoSmall }

/-- 'copyistlaw10.PatternFill', WHERE WHAT IT READS IS OF BULK AT MOST 1048576: true; the input reads as it did. -/
def patternFillUptoRow : OpenClaim := { program := "ytipnifenahhkoaadoor", sum := "c488be878d8fa98d5668eefdb130bbb7c50e597d4a41b05953cdb94c2836bce7", func := "copyist/copyistlaw10.PatternFill", spec := "patternFill", unfollowed := true, recurses := true, named := ["copyist/glyph.oneWay", "copyist/glyph.distances"], apart := false, laid := [("copyist/glyph.distances", laid_copyist_glyph_distances), ("copyist/glyph.oneWay", laid_copyist_glyph_oneWay)], narrowed := true }
def PatternFillUptoSaid : Prop := patternFillUptoRow.holds Tryd.pinned (OpenSpec.upto patternFillSpec)

end Rows
end Go.Proofs.YtipnifenahhkoaaDoor
