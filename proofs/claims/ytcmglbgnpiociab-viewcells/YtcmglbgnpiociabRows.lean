/-
  No cell of these rows narrows 'for every input' (looked for: loops, veiled, ifaces, maps, wideKeys, modest, calm, conditions, laid).
  DERIVED. THE GIVEN ROWS OF THIS SEAT. 4 by the template 'for every input the law returns true; each argument reads behind the call as it read before'; 0 by the template 'total and deterministic' (their statements: YtcmglbgnpiociabTotals.lean).
  GIVEN WITH THE SEED: the statements are not yours to turn. If you find one false, say at which input.
  Laid BY PROGRAM, IN A SANDBOX (cutbox-rows.mjs): the forced cells as the released guide's own fill.sh prints them over the translation 1fa311e26a95eedc… (all of the seat's roots in one cut). By AI agents, Wed Nov 11 2026. No macro, syntax, notation, axiom, sorry.
-/
import Derived.Test.YtcmglbgnpiociabChecked
import GoSem.Claim
import GoSem.ClaimJoined
import GoSem.ClaimMapViews
import Derived.JoinedTies
import Derived.KernelRfl
namespace Go.Proofs.Ytcmglbgnpiociab
/- THE CELL 'sum', in the pinned program and in every row, IS THE sha256 OF THE DUMP (.gsa) THAT YtcmglbgnpiociabProg.lean LOADS. Nothing in Lean hashes anything: it is a label: what it is worth is what the hold of that sum in a sandbox is worth. -/
noncomputable def Try.pinned : Pinned := { name := "ytcmglbgnpiociab", sum := "1fa311e26a95eedcff87266607c0c2c99e1e88c99be3f0d1b00c7c2fc36cd795", checked := Try.checked }
namespace Rows
def none {H : Type} : Left H := { results := [], args := [] }

/-- 'copyistlaw14.ViewLines': WHATEVER THE INPUT: true; the input reads as it did. -/
def viewLinesSpec : ChangeSpec := { name := "viewLines", fn := fun _ => fun
  | [d] => { results := [.lit (.bool true)], args := [d] }
  | _ => none }
def viewLinesRow : OpenClaim := { program := "ytcmglbgnpiociab", sum := "1fa311e26a95eedcff87266607c0c2c99e1e88c99be3f0d1b00c7c2fc36cd795", func := "copyist/copyistlaw14.ViewLines", spec := "viewLines", unfollowed := true, recurses := true, apart := false }
def ViewLinesSaid : Prop := viewLinesRow.holds Try.pinned (OpenSpec.ofChange viewLinesSpec)

/-- ITS FALSE NEIGHBOUR: 'it returns false'. Refute it at one input. -/
def viewLinesWrong : ChangeSpec := { name := "viewLines", fn := fun _ => fun
  | [d] => { results := [.lit (.bool false)], args := [d] }
  | _ => none }
def ViewLinesWrongFalsely : Prop := viewLinesRow.holds Try.pinned (OpenSpec.ofChange viewLinesWrong)

/-- 'copyistlaw14.ViewShares': WHATEVER THE INPUT: true; the input reads as it did. -/
def viewSharesSpec : ChangeSpec := { name := "viewShares", fn := fun _ => fun
  | [d] => { results := [.lit (.bool true)], args := [d] }
  | _ => none }
def viewSharesRow : OpenClaim := { program := "ytcmglbgnpiociab", sum := "1fa311e26a95eedcff87266607c0c2c99e1e88c99be3f0d1b00c7c2fc36cd795", func := "copyist/copyistlaw14.ViewShares", spec := "viewShares", unfollowed := true, recurses := true, apart := false }
def ViewSharesSaid : Prop := viewSharesRow.holds Try.pinned (OpenSpec.ofChange viewSharesSpec)

/-- ITS FALSE NEIGHBOUR: 'it returns false'. Refute it at one input. -/
def viewSharesWrong : ChangeSpec := { name := "viewShares", fn := fun _ => fun
  | [d] => { results := [.lit (.bool false)], args := [d] }
  | _ => none }
def ViewSharesWrongFalsely : Prop := viewSharesRow.holds Try.pinned (OpenSpec.ofChange viewSharesWrong)

/-- 'copyistlaw14.ViewCells': WHATEVER THE INPUT: true; the input reads as it did. -/
def viewCellsSpec : ChangeSpec := { name := "viewCells", fn := fun _ => fun
  | [d] => { results := [.lit (.bool true)], args := [d] }
  | _ => none }
def viewCellsRow : OpenClaim := { program := "ytcmglbgnpiociab", sum := "1fa311e26a95eedcff87266607c0c2c99e1e88c99be3f0d1b00c7c2fc36cd795", func := "copyist/copyistlaw14.ViewCells", spec := "viewCells", unfollowed := true, recurses := true, apart := false }
def ViewCellsSaid : Prop := viewCellsRow.holds Try.pinned (OpenSpec.ofChange viewCellsSpec)

/-- ITS FALSE NEIGHBOUR: 'it returns false'. Refute it at one input. -/
def viewCellsWrong : ChangeSpec := { name := "viewCells", fn := fun _ => fun
  | [d] => { results := [.lit (.bool false)], args := [d] }
  | _ => none }
def ViewCellsWrongFalsely : Prop := viewCellsRow.holds Try.pinned (OpenSpec.ofChange viewCellsWrong)

/-- 'copyistlaw14.ViewAll': WHATEVER THE INPUT: true; the input reads as it did. -/
def viewAllSpec : ChangeSpec := { name := "viewAll", fn := fun _ => fun
  | [d] => { results := [.lit (.bool true)], args := [d] }
  | _ => none }
def viewAllRow : OpenClaim := { program := "ytcmglbgnpiociab", sum := "1fa311e26a95eedcff87266607c0c2c99e1e88c99be3f0d1b00c7c2fc36cd795", func := "copyist/copyistlaw14.ViewAll", spec := "viewAll", unfollowed := true, recurses := true, apart := false }
def ViewAllSaid : Prop := viewAllRow.holds Try.pinned (OpenSpec.ofChange viewAllSpec)

/-- ITS FALSE NEIGHBOUR: 'it returns false'. Refute it at one input. -/
def viewAllWrong : ChangeSpec := { name := "viewAll", fn := fun _ => fun
  | [d] => { results := [.lit (.bool false)], args := [d] }
  | _ => none }
def ViewAllWrongFalsely : Prop := viewAllRow.holds Try.pinned (OpenSpec.ofChange viewAllWrong)

/- THE SECOND FORM. 'bulk': how many values and letters a reading holds, each counted each time it is reached (what is shared counts as often as it is met; a slice's spare places count too). A statement '..UptoSaid' is the law's where the arguments, and the package variables that the reading takes, are together of bulk at most 1048576: NARROWER than '..Said'. Prove '..Said' where nothing that the law and all that it calls make is longer than what came in: it says more and counts as full. Else prove '..UptoSaid'. A law counts once. -/
mutual
def uptoBulk {H : Type} : DataW H → Nat
  | .lit (.string bytes) => bytes.length + 1
  | .lit _ => 1
  | .nil => 1
  | .ptr d => uptoBulk d + 1
  | .slice elems spare => uptoBulkAll elems + uptoBulkAll spare + 1
  | .agg parts => uptoBulkAll parts + 1
  | .iface _ d => uptoBulk d + 1
  | .map entries => uptoBulkEntries entries + 1
  | .held _ => 1
def uptoBulkAll {H : Type} : List (DataW H) → Nat
  | [] => 0
  | d :: r => uptoBulk d + uptoBulkAll r
def uptoBulkEntries {H : Type} : List (Lit × DataW H) → Nat
  | [] => 0
  | x :: r => uptoBulkEntry x + uptoBulkEntries r
def uptoBulkEntry {H : Type} : Lit × DataW H → Nat
  | (.string bytes, d) => bytes.length + uptoBulk d + 1
  | (_, d) => uptoBulk d + 1
 end
def uptoSmall : (H : Type) → List (DataW H) → Bool := fun _ ds => decide (uptoBulkAll ds ≤ 1048576)
def OpenSpec.upto (s : _root_.Go.ChangeSpec) : _root_.Go.OpenSpec := { _root_.Go.OpenSpec.ofChange s with cond := some uptoSmall }

/-- 'copyistlaw14.ViewLines', WHERE WHAT IT READS IS OF BULK AT MOST 1048576: true; the input reads as it did. -/
def viewLinesUptoRow : OpenClaim := { program := "ytcmglbgnpiociab", sum := "1fa311e26a95eedcff87266607c0c2c99e1e88c99be3f0d1b00c7c2fc36cd795", func := "copyist/copyistlaw14.ViewLines", spec := "viewLines", unfollowed := true, recurses := true, apart := false, narrowed := true }
def ViewLinesUptoSaid : Prop := viewLinesUptoRow.holds Try.pinned (OpenSpec.upto viewLinesSpec)

/-- 'copyistlaw14.ViewShares', WHERE WHAT IT READS IS OF BULK AT MOST 1048576: true; the input reads as it did. -/
def viewSharesUptoRow : OpenClaim := { program := "ytcmglbgnpiociab", sum := "1fa311e26a95eedcff87266607c0c2c99e1e88c99be3f0d1b00c7c2fc36cd795", func := "copyist/copyistlaw14.ViewShares", spec := "viewShares", unfollowed := true, recurses := true, apart := false, narrowed := true }
def ViewSharesUptoSaid : Prop := viewSharesUptoRow.holds Try.pinned (OpenSpec.upto viewSharesSpec)

/-- 'copyistlaw14.ViewCells', WHERE WHAT IT READS IS OF BULK AT MOST 1048576: true; the input reads as it did. -/
def viewCellsUptoRow : OpenClaim := { program := "ytcmglbgnpiociab", sum := "1fa311e26a95eedcff87266607c0c2c99e1e88c99be3f0d1b00c7c2fc36cd795", func := "copyist/copyistlaw14.ViewCells", spec := "viewCells", unfollowed := true, recurses := true, apart := false, narrowed := true }
def ViewCellsUptoSaid : Prop := viewCellsUptoRow.holds Try.pinned (OpenSpec.upto viewCellsSpec)

/-- 'copyistlaw14.ViewAll', WHERE WHAT IT READS IS OF BULK AT MOST 1048576: true; the input reads as it did. -/
def viewAllUptoRow : OpenClaim := { program := "ytcmglbgnpiociab", sum := "1fa311e26a95eedcff87266607c0c2c99e1e88c99be3f0d1b00c7c2fc36cd795", func := "copyist/copyistlaw14.ViewAll", spec := "viewAll", unfollowed := true, recurses := true, apart := false, narrowed := true }
def ViewAllUptoSaid : Prop := viewAllUptoRow.holds Try.pinned (OpenSpec.upto viewAllSpec)

end Rows
end Go.Proofs.Ytcmglbgnpiociab
