/-
  NARROWER THAN 'FOR EVERY INPUT', by the rows' own cells (each row's printed sentence says how): GlyphFold: laid · GlyphAll: laid · GlyphClass: laid · GlyphConjunct: laid · GlyphWord: laid · GlyphCase: laid · GlyphWidth: laid.
  DERIVED. THE GIVEN ROWS OF THIS SEAT. 7 by the template 'for every input the law returns true; each argument reads behind the call as it read before'; 0 by the template 'total and deterministic' (their statements: YtlignhpbmbdoeaaDoorTotals.lean).
  GIVEN WITH THE SEED: the statements are not yours to turn. If you find one false, say at which input.
  Laid BY PROGRAM, IN A SANDBOX (cutbox-rows.mjs): the forced cells as the released guide's own fill.sh prints them over the translation 0b91a2c27a14d6ec… (all of the seat's roots in one cut). By AI agents, Wed Nov 11 2026. No macro, syntax, notation, axiom, sorry.
-/
import Derived.Test.YtlignhpbmbdoeaaDoorChecked
import GoSem.Claim
import GoSem.ClaimJoined
import GoSem.ClaimMapViews
import Derived.JoinedTies
import Derived.KernelRfl
namespace Go.Proofs.YtlignhpbmbdoeaaDoor
/- THE CELL 'sum', in the pinned program and in every row, IS THE sha256 OF THE DUMP (.gsa) THAT YtlignhpbmbdoeaaDoorProg.lean LOADS. Nothing in Lean hashes anything: it is a label: what it is worth is what the hold of that sum in a sandbox is worth. -/
noncomputable def Tryd.pinned : Pinned := { name := "ytlignhpbmbdoeaadoor", sum := "0b91a2c27a14d6ec30f3d572f433fc7fe385278285794ae8b9d2ac9a69875eb4", checked := Tryd.checked }
namespace Rows
def none {H : Type} : Left H := { results := [], args := [] }

/- WHAT THE LISTED PACKAGE-LEVEL VARIABLES READ AS WHEN THE CALL BEGINS. Each datum BY PROGRAM (the guide's laid-datum.mjs) off the statement by which the dump's own 'gosem.cut.vars' lays the variable. In a bare row this is a premise. The card (YtlignhpbmbdoeaaDoorCards.lean) ties it to the program's text. -/
def laid_copyist_glyph_distances {H : Type} : DataW H := .agg [.lit (.int .i64 1), .lit (.int .i64 (-121)), .lit (.int .i64 8), .lit (.int .i64 15), .lit (.int .i64 16), .lit (.int .i64 26), .lit (.int .i64 32), .lit (.int .i64 37), .lit (.int .i64 38), .lit (.int .i64 40), .lit (.int .i64 48), .lit (.int .i64 63), .lit (.int .i64 64), .lit (.int .i64 80)]
def laid_copyist_glyph_oneWay {H : Type} : DataW H := .agg [.agg [.lit (.int .i64 181), .lit (.int .i64 924), .lit (.bool false)], .agg [.lit (.int .i64 304), .lit (.int .i64 105), .lit (.bool true)], .agg [.lit (.int .i64 305), .lit (.int .i64 73), .lit (.bool false)], .agg [.lit (.int .i64 383), .lit (.int .i64 83), .lit (.bool false)], .agg [.lit (.int .i64 962), .lit (.int .i64 931), .lit (.bool false)], .agg [.lit (.int .i64 7838), .lit (.int .i64 223), .lit (.bool true)], .agg [.lit (.int .i64 8486), .lit (.int .i64 969), .lit (.bool true)], .agg [.lit (.int .i64 8490), .lit (.int .i64 107), .lit (.bool true)], .agg [.lit (.int .i64 8491), .lit (.int .i64 229), .lit (.bool true)]]

/-- 'copyistlaw2.GlyphFold': WHATEVER THE INPUT: true; the input reads as it did. -/
def glyphFoldSpec : ChangeSpec := { name := "glyphFold", fn := fun _ => fun
  | [d] => { results := [.lit (.bool true)], args := [d] }
  | _ => none }
def glyphFoldRow : OpenClaim := { program := "ytlignhpbmbdoeaadoor", sum := "0b91a2c27a14d6ec30f3d572f433fc7fe385278285794ae8b9d2ac9a69875eb4", func := "copyist/copyistlaw2.GlyphFold", spec := "glyphFold", named := ["copyist/glyph.oneWay", "copyist/glyph.distances"], apart := false, laid := [("copyist/glyph.distances", laid_copyist_glyph_distances), ("copyist/glyph.oneWay", laid_copyist_glyph_oneWay)] }
def GlyphFoldSaid : Prop := glyphFoldRow.holds Tryd.pinned (OpenSpec.ofChange glyphFoldSpec)

/-- ITS FALSE NEIGHBOUR: 'it returns false'. Refute it at one input. -/
def glyphFoldWrong : ChangeSpec := { name := "glyphFold", fn := fun _ => fun
  | [d] => { results := [.lit (.bool false)], args := [d] }
  | _ => none }
def GlyphFoldWrongFalsely : Prop := glyphFoldRow.holds Tryd.pinned (OpenSpec.ofChange glyphFoldWrong)

/-- 'copyistlaw2.GlyphAll': WHATEVER THE INPUT: true; the input reads as it did. -/
def glyphAllSpec : ChangeSpec := { name := "glyphAll", fn := fun _ => fun
  | [d] => { results := [.lit (.bool true)], args := [d] }
  | _ => none }
def glyphAllRow : OpenClaim := { program := "ytlignhpbmbdoeaadoor", sum := "0b91a2c27a14d6ec30f3d572f433fc7fe385278285794ae8b9d2ac9a69875eb4", func := "copyist/copyistlaw2.GlyphAll", spec := "glyphAll", named := ["copyist/glyph.oneWay", "copyist/glyph.distances"], apart := false, laid := [("copyist/glyph.distances", laid_copyist_glyph_distances), ("copyist/glyph.oneWay", laid_copyist_glyph_oneWay)] }
def GlyphAllSaid : Prop := glyphAllRow.holds Tryd.pinned (OpenSpec.ofChange glyphAllSpec)

/-- ITS FALSE NEIGHBOUR: 'it returns false'. Refute it at one input. -/
def glyphAllWrong : ChangeSpec := { name := "glyphAll", fn := fun _ => fun
  | [d] => { results := [.lit (.bool false)], args := [d] }
  | _ => none }
def GlyphAllWrongFalsely : Prop := glyphAllRow.holds Tryd.pinned (OpenSpec.ofChange glyphAllWrong)

/-- 'copyistlaw2.GlyphClass': WHATEVER THE INPUT: true; the input reads as it did. -/
def glyphClassSpec : ChangeSpec := { name := "glyphClass", fn := fun _ => fun
  | [d] => { results := [.lit (.bool true)], args := [d] }
  | _ => none }
def glyphClassRow : OpenClaim := { program := "ytlignhpbmbdoeaadoor", sum := "0b91a2c27a14d6ec30f3d572f433fc7fe385278285794ae8b9d2ac9a69875eb4", func := "copyist/copyistlaw2.GlyphClass", spec := "glyphClass", named := ["copyist/glyph.oneWay", "copyist/glyph.distances"], apart := false, laid := [("copyist/glyph.distances", laid_copyist_glyph_distances), ("copyist/glyph.oneWay", laid_copyist_glyph_oneWay)] }
def GlyphClassSaid : Prop := glyphClassRow.holds Tryd.pinned (OpenSpec.ofChange glyphClassSpec)

/-- ITS FALSE NEIGHBOUR: 'it returns false'. Refute it at one input. -/
def glyphClassWrong : ChangeSpec := { name := "glyphClass", fn := fun _ => fun
  | [d] => { results := [.lit (.bool false)], args := [d] }
  | _ => none }
def GlyphClassWrongFalsely : Prop := glyphClassRow.holds Tryd.pinned (OpenSpec.ofChange glyphClassWrong)

/-- 'copyistlaw2.GlyphConjunct': WHATEVER THE INPUT: true; the input reads as it did. -/
def glyphConjunctSpec : ChangeSpec := { name := "glyphConjunct", fn := fun _ => fun
  | [d] => { results := [.lit (.bool true)], args := [d] }
  | _ => none }
def glyphConjunctRow : OpenClaim := { program := "ytlignhpbmbdoeaadoor", sum := "0b91a2c27a14d6ec30f3d572f433fc7fe385278285794ae8b9d2ac9a69875eb4", func := "copyist/copyistlaw2.GlyphConjunct", spec := "glyphConjunct", named := ["copyist/glyph.oneWay", "copyist/glyph.distances"], apart := false, laid := [("copyist/glyph.distances", laid_copyist_glyph_distances), ("copyist/glyph.oneWay", laid_copyist_glyph_oneWay)] }
def GlyphConjunctSaid : Prop := glyphConjunctRow.holds Tryd.pinned (OpenSpec.ofChange glyphConjunctSpec)

/-- ITS FALSE NEIGHBOUR: 'it returns false'. Refute it at one input. -/
def glyphConjunctWrong : ChangeSpec := { name := "glyphConjunct", fn := fun _ => fun
  | [d] => { results := [.lit (.bool false)], args := [d] }
  | _ => none }
def GlyphConjunctWrongFalsely : Prop := glyphConjunctRow.holds Tryd.pinned (OpenSpec.ofChange glyphConjunctWrong)

/-- 'copyistlaw2.GlyphWord': WHATEVER THE INPUT: true; the input reads as it did. -/
def glyphWordSpec : ChangeSpec := { name := "glyphWord", fn := fun _ => fun
  | [d] => { results := [.lit (.bool true)], args := [d] }
  | _ => none }
def glyphWordRow : OpenClaim := { program := "ytlignhpbmbdoeaadoor", sum := "0b91a2c27a14d6ec30f3d572f433fc7fe385278285794ae8b9d2ac9a69875eb4", func := "copyist/copyistlaw2.GlyphWord", spec := "glyphWord", named := ["copyist/glyph.oneWay", "copyist/glyph.distances"], apart := false, laid := [("copyist/glyph.distances", laid_copyist_glyph_distances), ("copyist/glyph.oneWay", laid_copyist_glyph_oneWay)] }
def GlyphWordSaid : Prop := glyphWordRow.holds Tryd.pinned (OpenSpec.ofChange glyphWordSpec)

/-- ITS FALSE NEIGHBOUR: 'it returns false'. Refute it at one input. -/
def glyphWordWrong : ChangeSpec := { name := "glyphWord", fn := fun _ => fun
  | [d] => { results := [.lit (.bool false)], args := [d] }
  | _ => none }
def GlyphWordWrongFalsely : Prop := glyphWordRow.holds Tryd.pinned (OpenSpec.ofChange glyphWordWrong)

/-- 'copyistlaw2.GlyphCase': WHATEVER THE INPUT: true; the input reads as it did. -/
def glyphCaseSpec : ChangeSpec := { name := "glyphCase", fn := fun _ => fun
  | [d] => { results := [.lit (.bool true)], args := [d] }
  | _ => none }
def glyphCaseRow : OpenClaim := { program := "ytlignhpbmbdoeaadoor", sum := "0b91a2c27a14d6ec30f3d572f433fc7fe385278285794ae8b9d2ac9a69875eb4", func := "copyist/copyistlaw2.GlyphCase", spec := "glyphCase", named := ["copyist/glyph.oneWay", "copyist/glyph.distances"], apart := false, laid := [("copyist/glyph.distances", laid_copyist_glyph_distances), ("copyist/glyph.oneWay", laid_copyist_glyph_oneWay)] }
def GlyphCaseSaid : Prop := glyphCaseRow.holds Tryd.pinned (OpenSpec.ofChange glyphCaseSpec)

/-- ITS FALSE NEIGHBOUR: 'it returns false'. Refute it at one input. -/
def glyphCaseWrong : ChangeSpec := { name := "glyphCase", fn := fun _ => fun
  | [d] => { results := [.lit (.bool false)], args := [d] }
  | _ => none }
def GlyphCaseWrongFalsely : Prop := glyphCaseRow.holds Tryd.pinned (OpenSpec.ofChange glyphCaseWrong)

/-- 'copyistlaw2.GlyphWidth': WHATEVER THE INPUT: true; the input reads as it did. -/
def glyphWidthSpec : ChangeSpec := { name := "glyphWidth", fn := fun _ => fun
  | [d] => { results := [.lit (.bool true)], args := [d] }
  | _ => none }
def glyphWidthRow : OpenClaim := { program := "ytlignhpbmbdoeaadoor", sum := "0b91a2c27a14d6ec30f3d572f433fc7fe385278285794ae8b9d2ac9a69875eb4", func := "copyist/copyistlaw2.GlyphWidth", spec := "glyphWidth", named := ["copyist/glyph.oneWay", "copyist/glyph.distances"], apart := false, laid := [("copyist/glyph.distances", laid_copyist_glyph_distances), ("copyist/glyph.oneWay", laid_copyist_glyph_oneWay)] }
def GlyphWidthSaid : Prop := glyphWidthRow.holds Tryd.pinned (OpenSpec.ofChange glyphWidthSpec)

/-- ITS FALSE NEIGHBOUR: 'it returns false'. Refute it at one input. -/
def glyphWidthWrong : ChangeSpec := { name := "glyphWidth", fn := fun _ => fun
  | [d] => { results := [.lit (.bool false)], args := [d] }
  | _ => none }
def GlyphWidthWrongFalsely : Prop := glyphWidthRow.holds Tryd.pinned (OpenSpec.ofChange glyphWidthWrong)

/- THE SECOND FORM. 'bulk': how many values and letters a reading holds, each counted each time it is reached (what is shared counts as often as it is met; a slice's spare places count too). A statement '..UptoSaid' is the law's where the arguments, and the package variables that the reading takes, are together of bulk at most 1048576: NARROWER than '..Said'. Prove '..Said' where nothing that the law and all that it calls make is longer than what came in: it says more and counts as full. Else prove '..UptoSaid'. A law counts once. -/
mutual
def uptoBulk {H : Type} : DataW H → Nat
  | .lit (.string bytes) => bytes.length + 1
  | .lit _ => 1
  | .nil => 1
  | .ptr d => uptoBulk d + 1
  | .slice elems spare => uptoBulkAll elems + uptoBulkAll spare + 1
  | .agg parts => uptoBulkAll parts + 1
  | .iface _ d => uptoBulk d + 1
  | .map entries => uptoBulkEntries entries + 1
  | .held _ => 1
def uptoBulkAll {H : Type} : List (DataW H) → Nat
  | [] => 0
  | d :: r => uptoBulk d + uptoBulkAll r
def uptoBulkEntries {H : Type} : List (Lit × DataW H) → Nat
  | [] => 0
  | x :: r => uptoBulkEntry x + uptoBulkEntries r
def uptoBulkEntry {H : Type} : Lit × DataW H → Nat
  | (.string bytes, d) => bytes.length + uptoBulk d + 1
  | (_, d) => uptoBulk d + 1
 end
def uptoSmall : (H : Type) → List (DataW H) → Bool := fun _ ds => decide (uptoBulkAll ds ≤ 1048576)
def OpenSpec.upto (s : _root_.Go.ChangeSpec) : _root_.Go.OpenSpec := { _root_.Go.OpenSpec.ofChange s with cond := some uptoSmall }

/-- 'copyistlaw2.GlyphFold', WHERE WHAT IT READS IS OF BULK AT MOST 1048576: true; the input reads as it did. -/
def glyphFoldUptoRow : OpenClaim := { program := "ytlignhpbmbdoeaadoor", sum := "0b91a2c27a14d6ec30f3d572f433fc7fe385278285794ae8b9d2ac9a69875eb4", func := "copyist/copyistlaw2.GlyphFold", spec := "glyphFold", named := ["copyist/glyph.oneWay", "copyist/glyph.distances"], apart := false, laid := [("copyist/glyph.distances", laid_copyist_glyph_distances), ("copyist/glyph.oneWay", laid_copyist_glyph_oneWay)], narrowed := true }
def GlyphFoldUptoSaid : Prop := glyphFoldUptoRow.holds Tryd.pinned (OpenSpec.upto glyphFoldSpec)

/-- 'copyistlaw2.GlyphAll', WHERE WHAT IT READS IS OF BULK AT MOST 1048576: true; the input reads as it did. -/
def glyphAllUptoRow : OpenClaim := { program := "ytlignhpbmbdoeaadoor", sum := "0b91a2c27a14d6ec30f3d572f433fc7fe385278285794ae8b9d2ac9a69875eb4", func := "copyist/copyistlaw2.GlyphAll", spec := "glyphAll", named := ["copyist/glyph.oneWay", "copyist/glyph.distances"], apart := false, laid := [("copyist/glyph.distances", laid_copyist_glyph_distances), ("copyist/glyph.oneWay", laid_copyist_glyph_oneWay)], narrowed := true }
def GlyphAllUptoSaid : Prop := glyphAllUptoRow.holds Tryd.pinned (OpenSpec.upto glyphAllSpec)

/-- 'copyistlaw2.GlyphClass', WHERE WHAT IT READS IS OF BULK AT MOST 1048576: true; the input reads as it did. -/
def glyphClassUptoRow : OpenClaim := { program := "ytlignhpbmbdoeaadoor", sum := "0b91a2c27a14d6ec30f3d572f433fc7fe385278285794ae8b9d2ac9a69875eb4", func := "copyist/copyistlaw2.GlyphClass", spec := "glyphClass", named := ["copyist/glyph.oneWay", "copyist/glyph.distances"], apart := false, laid := [("copyist/glyph.distances", laid_copyist_glyph_distances), ("copyist/glyph.oneWay", laid_copyist_glyph_oneWay)], narrowed := true }
def GlyphClassUptoSaid : Prop := glyphClassUptoRow.holds Tryd.pinned (OpenSpec.upto glyphClassSpec)

/-- 'copyistlaw2.GlyphConjunct', WHERE WHAT IT READS IS OF BULK AT MOST 1048576: true; the input reads as it did. -/
def glyphConjunctUptoRow : OpenClaim := { program := "ytlignhpbmbdoeaadoor", sum := "0b91a2c27a14d6ec30f3d572f433fc7fe385278285794ae8b9d2ac9a69875eb4", func := "copyist/copyistlaw2.GlyphConjunct", spec := "glyphConjunct", named := ["copyist/glyph.oneWay", "copyist/glyph.distances"], apart := false, laid := [("copyist/glyph.distances", laid_copyist_glyph_distances), ("copyist/glyph.oneWay", laid_copyist_glyph_oneWay)], narrowed := true }
def GlyphConjunctUptoSaid : Prop := glyphConjunctUptoRow.holds Tryd.pinned (OpenSpec.upto glyphConjunctSpec)

/-- 'copyistlaw2.GlyphWord', WHERE WHAT IT READS IS OF BULK AT MOST 1048576: true; the input reads as it did. -/
def glyphWordUptoRow : OpenClaim := { program := "ytlignhpbmbdoeaadoor", sum := "0b91a2c27a14d6ec30f3d572f433fc7fe385278285794ae8b9d2ac9a69875eb4", func := "copyist/copyistlaw2.GlyphWord", spec := "glyphWord", named := ["copyist/glyph.oneWay", "copyist/glyph.distances"], apart := false, laid := [("copyist/glyph.distances", laid_copyist_glyph_distances), ("copyist/glyph.oneWay", laid_copyist_glyph_oneWay)], narrowed := true }
def GlyphWordUptoSaid : Prop := glyphWordUptoRow.holds Tryd.pinned (OpenSpec.upto glyphWordSpec)

/-- 'copyistlaw2.GlyphCase', WHERE WHAT IT READS IS OF BULK AT MOST 1048576: true; the input reads as it did. -/
def glyphCaseUptoRow : OpenClaim := { program := "ytlignhpbmbdoeaadoor", sum := "0b91a2c27a14d6ec30f3d572f433fc7fe385278285794ae8b9d2ac9a69875eb4", func := "copyist/copyistlaw2.GlyphCase", spec := "glyphCase", named := ["copyist/glyph.oneWay", "copyist/glyph.distances"], apart := false, laid := [("copyist/glyph.distances", laid_copyist_glyph_distances), ("copyist/glyph.oneWay", laid_copyist_glyph_oneWay)], narrowed := true }
def GlyphCaseUptoSaid : Prop := glyphCaseUptoRow.holds Tryd.pinned (OpenSpec.upto glyphCaseSpec)

/-- 'copyistlaw2.GlyphWidth', WHERE WHAT IT READS IS OF BULK AT MOST 1048576: true; the input reads as it did. -/
def glyphWidthUptoRow : OpenClaim := { program := "ytlignhpbmbdoeaadoor", sum := "0b91a2c27a14d6ec30f3d572f433fc7fe385278285794ae8b9d2ac9a69875eb4", func := "copyist/copyistlaw2.GlyphWidth", spec := "glyphWidth", named := ["copyist/glyph.oneWay", "copyist/glyph.distances"], apart := false, laid := [("copyist/glyph.distances", laid_copyist_glyph_distances), ("copyist/glyph.oneWay", laid_copyist_glyph_oneWay)], narrowed := true }
def GlyphWidthUptoSaid : Prop := glyphWidthUptoRow.holds Tryd.pinned (OpenSpec.upto glyphWidthSpec)

end Rows
end Go.Proofs.YtlignhpbmbdoeaaDoor
