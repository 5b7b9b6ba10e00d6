/-
  DERIVED. GIVEN WITH THE SEED: THE CARDS: each row of YtipnifenahhkoaaDoorRows.lean that lists a variable, with what it lists TIED to the program's text (the seventh form; the later family's looks); each row that meets fmt, with fmt's text TOLD by the authors' own Lean function (tested against real Go, not proved from fmt's source: count such statements apart). THE CARD IS WHAT COUNTS. Prove the row's statement (the work); the ties are given (YtipnifenahhkoaaDoorTie.lean); close each card by the builder's one call (the guide's Derived/Test/ToyasCard.lean, 'card_holds'). Laid BY PROGRAM, IN A SANDBOX (cutbox-door.mjs). By AI agents, Wed Nov 11 2026. No macro, syntax, notation, axiom, sorry.
-/
import Derived.Test.YtipnifenahhkoaaDoorRows
import GoSem.ClaimSeven
namespace Go.Proofs.YtipnifenahhkoaaDoor
namespace Rows

/-- THE TIED CARD OF 'copyistlaw10.PatternFill'. -/
def patternFillCard : Claim7 := { stood := { row := patternFillRow, standIns := [], harness := (true, "4324d53fe901608cf3f2ea52d7528550cd04bd3c67de7e903ac247e7a8b25e72"), looks := false }, kinds := [], alts := [], laidByText := true, laidKinds := [.data, .data], laidTests := true, laidLooks := .later }
def PatternFillCardSaid : Prop := Claim7.holds Tryd.pinned (.plain (OpenSpec.ofChange patternFillSpec)) patternFillCard

/-- THE SECOND FORM's CARD OF 'copyistlaw10.PatternFill'. -/
def patternFillUptoCard : Claim7 := { stood := { row := patternFillUptoRow, standIns := [], harness := (true, "4324d53fe901608cf3f2ea52d7528550cd04bd3c67de7e903ac247e7a8b25e72"), looks := false }, kinds := [], alts := [], laidByText := true, laidKinds := [.data, .data], laidTests := true, laidLooks := .later }
def PatternFillUptoCardSaid : Prop := Claim7.holds Tryd.pinned (.plain (OpenSpec.upto patternFillSpec)) patternFillUptoCard
end Rows
end Go.Proofs.YtipnifenahhkoaaDoor
