/-
  DERIVED. GIVEN WITH THE SEED: THE CARDS: each row of YtfdceljdhgbkcaaDoorRows.lean that lists a variable, with what it lists TIED to the program's text (the seventh form; the later family's looks); each row that meets fmt, with fmt's text TOLD by the authors' own Lean function (tested against real Go, not proved from fmt's source: count such statements apart). THE CARD IS WHAT COUNTS. Prove the row's statement (the work); the ties are given (YtfdceljdhgbkcaaDoorTie.lean); close each card by the builder's one call (the guide's Derived/Test/ToyasCard.lean, 'card_holds'). Laid BY PROGRAM, IN A SANDBOX (cutbox-door.mjs). By AI agents, Wed Nov 11 2026. No macro, syntax, notation, axiom, sorry.
-/
import Derived.Test.YtfdceljdhgbkcaaDoorRows
import GoSem.ClaimSeven
namespace Go.Proofs.YtfdceljdhgbkcaaDoor
namespace Rows

/-- THE TIED CARD OF 'copyistlaw13.KeysSpell'. -/
def keysSpellCard : Claim7 := { stood := { row := keysSpellRow, standIns := [], harness := (true, "740a7adf525998c9efe95a2dc5105d48ba62a5e00482862950baac93c2bdc554"), looks := false }, kinds := [], alts := [], laidByText := true, laidKinds := [.data, .data, .data], laidTests := true, laidLooks := .later }
def KeysSpellCardSaid : Prop := Claim7.holds Tryd.pinned (.plain (OpenSpec.ofChange keysSpellSpec)) keysSpellCard

/-- THE TIED CARD OF 'copyistlaw13.KeysFeed'. -/
def keysFeedCard : Claim7 := { stood := { row := keysFeedRow, standIns := [], harness := (true, "740a7adf525998c9efe95a2dc5105d48ba62a5e00482862950baac93c2bdc554"), looks := false }, kinds := [], alts := [], laidByText := true, laidKinds := [.data, .data, .data], laidTests := true, laidLooks := .later }
def KeysFeedCardSaid : Prop := Claim7.holds Tryd.pinned (.plain (OpenSpec.ofChange keysFeedSpec)) keysFeedCard

/-- THE SECOND FORM's CARD OF 'copyistlaw13.KeysSpell'. -/
def keysSpellUptoCard : Claim7 := { stood := { row := keysSpellUptoRow, standIns := [], harness := (true, "740a7adf525998c9efe95a2dc5105d48ba62a5e00482862950baac93c2bdc554"), looks := false }, kinds := [], alts := [], laidByText := true, laidKinds := [.data, .data, .data], laidTests := true, laidLooks := .later }
def KeysSpellUptoCardSaid : Prop := Claim7.holds Tryd.pinned (.plain (OpenSpec.upto keysSpellSpec)) keysSpellUptoCard

/-- THE SECOND FORM's CARD OF 'copyistlaw13.KeysFeed'. -/
def keysFeedUptoCard : Claim7 := { stood := { row := keysFeedUptoRow, standIns := [], harness := (true, "740a7adf525998c9efe95a2dc5105d48ba62a5e00482862950baac93c2bdc554"), looks := false }, kinds := [], alts := [], laidByText := true, laidKinds := [.data, .data, .data], laidTests := true, laidLooks := .later }
def KeysFeedUptoCardSaid : Prop := Claim7.holds Tryd.pinned (.plain (OpenSpec.upto keysFeedSpec)) keysFeedUptoCard
end Rows
end Go.Proofs.YtfdceljdhgbkcaaDoor
