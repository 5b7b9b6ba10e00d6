/-
  DERIVED. GIVEN WITH THE SEED: THE CARDS: each row of YtdbmgjkgfmdmjaaDoorRows.lean that lists a variable, with what it lists TIED to the program's text (the seventh form; the later family's looks); each row that meets fmt, with fmt's text TOLD by the authors' own Lean function (tested against real Go, not proved from fmt's source: count such statements apart). THE CARD IS WHAT COUNTS. Prove the row's statement (the work); the ties are given (YtdbmgjkgfmdmjaaDoorTie.lean); close each card by the builder's one call (the guide's Derived/Test/ToyasCard.lean, 'card_holds'). Laid BY PROGRAM, IN A SANDBOX (cutbox-door.mjs). By AI agents, Wed Nov 11 2026. No macro, syntax, notation, axiom, sorry.
-/
import Derived.Test.YtdbmgjkgfmdmjaaDoorRows
import GoSem.ClaimSeven
namespace Go.Proofs.YtdbmgjkgfmdmjaaDoor
namespace Rows

/-- THE TIED CARD OF 'copyistlaw13.KeysBack'. -/
def keysBackCard : Claim7 := { stood := { row := keysBackRow, standIns := [], harness := (true, "2024a3273a5292ceec1debf60ea32e63d06124607d17e3d234dac5d4a224c01a"), looks := false }, kinds := [], alts := [], laidByText := true, laidKinds := [.data, .data, .data], laidTests := true, laidLooks := .later }
def KeysBackCardSaid : Prop := Claim7.holds Tryd.pinned (.plain (OpenSpec.ofChange keysBackSpec)) keysBackCard

/-- THE TIED CARD OF 'copyistlaw13.KeysLeast'. -/
def keysLeastCard : Claim7 := { stood := { row := keysLeastRow, standIns := [], harness := (true, "2024a3273a5292ceec1debf60ea32e63d06124607d17e3d234dac5d4a224c01a"), looks := false }, kinds := [], alts := [], laidByText := true, laidKinds := [.data, .data, .data], laidTests := true, laidLooks := .later }
def KeysLeastCardSaid : Prop := Claim7.holds Tryd.pinned (.plain (OpenSpec.ofChange keysLeastSpec)) keysLeastCard

/-- THE TIED CARD OF 'copyistlaw13.KeysUnbound'. -/
def keysUnboundCard : Claim7 := { stood := { row := keysUnboundRow, standIns := [], harness := (true, "2024a3273a5292ceec1debf60ea32e63d06124607d17e3d234dac5d4a224c01a"), looks := false }, kinds := [], alts := [], laidByText := true, laidKinds := [.data, .data, .data], laidTests := true, laidLooks := .later }
def KeysUnboundCardSaid : Prop := Claim7.holds Tryd.pinned (.plain (OpenSpec.ofChange keysUnboundSpec)) keysUnboundCard

/-- THE TIED CARD OF 'copyistlaw13.KeysFresh'. -/
def keysFreshCard : Claim7 := { stood := { row := keysFreshRow, standIns := [], harness := (true, "2024a3273a5292ceec1debf60ea32e63d06124607d17e3d234dac5d4a224c01a"), looks := false }, kinds := [], alts := [], laidByText := true, laidKinds := [.data, .data, .data], laidTests := true, laidLooks := .later }
def KeysFreshCardSaid : Prop := Claim7.holds Tryd.pinned (.plain (OpenSpec.ofChange keysFreshSpec)) keysFreshCard

/-- THE TIED CARD OF 'copyistlaw13.KeysSpell'. -/
def keysSpellCard : Claim7 := { stood := { row := keysSpellRow, standIns := [], harness := (true, "2024a3273a5292ceec1debf60ea32e63d06124607d17e3d234dac5d4a224c01a"), looks := false }, kinds := [], alts := [], laidByText := true, laidKinds := [.data, .data, .data], laidTests := true, laidLooks := .later }
def KeysSpellCardSaid : Prop := Claim7.holds Tryd.pinned (.plain (OpenSpec.ofChange keysSpellSpec)) keysSpellCard

/-- THE TIED CARD OF 'copyistlaw13.KeysFeed'. -/
def keysFeedCard : Claim7 := { stood := { row := keysFeedRow, standIns := [], harness := (true, "2024a3273a5292ceec1debf60ea32e63d06124607d17e3d234dac5d4a224c01a"), looks := false }, kinds := [], alts := [], laidByText := true, laidKinds := [.data, .data, .data], laidTests := true, laidLooks := .later }
def KeysFeedCardSaid : Prop := Claim7.holds Tryd.pinned (.plain (OpenSpec.ofChange keysFeedSpec)) keysFeedCard

/-- THE SECOND FORM's CARD OF 'copyistlaw13.KeysBack'. -/
def keysBackUptoCard : Claim7 := { stood := { row := keysBackUptoRow, standIns := [], harness := (true, "2024a3273a5292ceec1debf60ea32e63d06124607d17e3d234dac5d4a224c01a"), looks := false }, kinds := [], alts := [], laidByText := true, laidKinds := [.data, .data, .data], laidTests := true, laidLooks := .later }
def KeysBackUptoCardSaid : Prop := Claim7.holds Tryd.pinned (.plain (OpenSpec.upto keysBackSpec)) keysBackUptoCard

/-- THE SECOND FORM's CARD OF 'copyistlaw13.KeysLeast'. -/
def keysLeastUptoCard : Claim7 := { stood := { row := keysLeastUptoRow, standIns := [], harness := (true, "2024a3273a5292ceec1debf60ea32e63d06124607d17e3d234dac5d4a224c01a"), looks := false }, kinds := [], alts := [], laidByText := true, laidKinds := [.data, .data, .data], laidTests := true, laidLooks := .later }
def KeysLeastUptoCardSaid : Prop := Claim7.holds Tryd.pinned (.plain (OpenSpec.upto keysLeastSpec)) keysLeastUptoCard

/-- THE SECOND FORM's CARD OF 'copyistlaw13.KeysUnbound'. -/
def keysUnboundUptoCard : Claim7 := { stood := { row := keysUnboundUptoRow, standIns := [], harness := (true, "2024a3273a5292ceec1debf60ea32e63d06124607d17e3d234dac5d4a224c01a"), looks := false }, kinds := [], alts := [], laidByText := true, laidKinds := [.data, .data, .data], laidTests := true, laidLooks := .later }
def KeysUnboundUptoCardSaid : Prop := Claim7.holds Tryd.pinned (.plain (OpenSpec.upto keysUnboundSpec)) keysUnboundUptoCard

/-- THE SECOND FORM's CARD OF 'copyistlaw13.KeysFresh'. -/
def keysFreshUptoCard : Claim7 := { stood := { row := keysFreshUptoRow, standIns := [], harness := (true, "2024a3273a5292ceec1debf60ea32e63d06124607d17e3d234dac5d4a224c01a"), looks := false }, kinds := [], alts := [], laidByText := true, laidKinds := [.data, .data, .data], laidTests := true, laidLooks := .later }
def KeysFreshUptoCardSaid : Prop := Claim7.holds Tryd.pinned (.plain (OpenSpec.upto keysFreshSpec)) keysFreshUptoCard

/-- THE SECOND FORM's CARD OF 'copyistlaw13.KeysSpell'. -/
def keysSpellUptoCard : Claim7 := { stood := { row := keysSpellUptoRow, standIns := [], harness := (true, "2024a3273a5292ceec1debf60ea32e63d06124607d17e3d234dac5d4a224c01a"), looks := false }, kinds := [], alts := [], laidByText := true, laidKinds := [.data, .data, .data], laidTests := true, laidLooks := .later }
def KeysSpellUptoCardSaid : Prop := Claim7.holds Tryd.pinned (.plain (OpenSpec.upto keysSpellSpec)) keysSpellUptoCard

/-- THE SECOND FORM's CARD OF 'copyistlaw13.KeysFeed'. -/
def keysFeedUptoCard : Claim7 := { stood := { row := keysFeedUptoRow, standIns := [], harness := (true, "2024a3273a5292ceec1debf60ea32e63d06124607d17e3d234dac5d4a224c01a"), looks := false }, kinds := [], alts := [], laidByText := true, laidKinds := [.data, .data, .data], laidTests := true, laidLooks := .later }
def KeysFeedUptoCardSaid : Prop := Claim7.holds Tryd.pinned (.plain (OpenSpec.upto keysFeedSpec)) keysFeedUptoCard
end Rows
end Go.Proofs.YtdbmgjkgfmdmjaaDoor
