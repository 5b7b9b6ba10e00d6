/-
  DERIVED. GIVEN WITH THE SEED: THE CARDS: each row of YtfdceljdhgbkcaaGreatDoorRows.lean that lists a variable, with what it lists TIED to the program's text (the seventh form; the later family's looks); each row that meets fmt, with fmt's text TOLD by the authors' own Lean function (tested against real Go, not proved from fmt's source: count such statements apart). THE CARD IS WHAT COUNTS. Prove the row's statement (the work); the ties are given (YtfdceljdhgbkcaaGreatDoorTie.lean); close each card by the builder's one call (the guide's Derived/Test/ToyasCard.lean, 'card_holds'). Laid BY PROGRAM, IN A SANDBOX (cutbox-door.mjs). By AI agents, Wed Nov 11 2026. No macro, syntax, notation, axiom, sorry.
-/
import Derived.Test.YtfdceljdhgbkcaaGreatDoorRows
import GoSem.ClaimSeven
namespace Go.Proofs.YtfdceljdhgbkcaaGreatDoor
namespace Rows

/-- THE TIED CARD OF 'copyistlaw13.KeysAll'. -/
def keysAllCard : Claim7 := { stood := { row := keysAllRow, standIns := [], harness := (true, "19b512e045c1dffa9168877faa6f41cc81366fae4053d0981a88e9fdc0537c43"), looks := false }, kinds := [], alts := [], laidByText := true, laidKinds := [.data, .data, .data], laidTests := true, laidLooks := .later }
def KeysAllCardSaid : Prop := Claim7.holds Tryz.pinned (.plain (OpenSpec.ofChange keysAllSpec)) keysAllCard

/-- THE SECOND FORM's CARD OF 'copyistlaw13.KeysAll'. -/
def keysAllUptoCard : Claim7 := { stood := { row := keysAllUptoRow, standIns := [], harness := (true, "19b512e045c1dffa9168877faa6f41cc81366fae4053d0981a88e9fdc0537c43"), looks := false }, kinds := [], alts := [], laidByText := true, laidKinds := [.data, .data, .data], laidTests := true, laidLooks := .later }
def KeysAllUptoCardSaid : Prop := Claim7.holds Tryz.pinned (.plain (OpenSpec.upto keysAllSpec)) keysAllUptoCard
end Rows
end Go.Proofs.YtfdceljdhgbkcaaGreatDoor
