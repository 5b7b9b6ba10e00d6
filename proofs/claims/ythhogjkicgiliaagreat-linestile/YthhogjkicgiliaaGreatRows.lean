/-
  No cell of these rows narrows 'for every input' (looked for: loops, veiled, ifaces, maps, wideKeys, modest, calm, conditions, laid).
  DERIVED. THE GIVEN ROWS OF THIS SEAT. 5 by the template 'for every input the law returns true; each argument reads behind the call as it read before'; 0 by the template 'total and deterministic' (their statements: YthhogjkicgiliaaGreatTotals.lean).
  GIVEN WITH THE SEED: the statements are not yours to turn. If you find one false, say at which input.
  Laid BY PROGRAM, IN A SANDBOX (cutbox-rows.mjs): the forced cells as the released guide's own fill.sh prints them over the translation ab3728e0b9f29f7f… (all of the seat's roots in one cut). By AI agents, Wed Nov 11 2026. No macro, syntax, notation, axiom, sorry.
-/
import Derived.Test.YthhogjkicgiliaaGreatChecked
import GoSem.Claim
import GoSem.ClaimJoined
import GoSem.ClaimMapViews
import Derived.JoinedTies
import Derived.KernelRfl
namespace Go.Proofs.YthhogjkicgiliaaGreat
/- THE CELL 'sum', in the pinned program and in every row, IS THE sha256 OF THE DUMP (.gsa) THAT YthhogjkicgiliaaGreatProg.lean LOADS. Nothing in Lean hashes anything: it is a label: what it is worth is what the hold of that sum in a sandbox is worth. -/
noncomputable def Tryz.pinned : Pinned := { name := "ythhogjkicgiliaagreat", sum := "ab3728e0b9f29f7f58fcb3a2b8b1b972a5f44093dde3895e614da45f38b2238c", checked := Tryz.checked }
namespace Rows
def none {H : Type} : Left H := { results := [], args := [] }

/-- 'copyistlaw6.LinesKept': WHATEVER THE INPUT: true; the input reads as it did. -/
def linesKeptSpec : ChangeSpec := { name := "linesKept", fn := fun _ => fun
  | [d1, d2] => { results := [.lit (.bool true)], args := [d1, d2] }
  | _ => none }
def linesKeptRow : OpenClaim := { program := "ythhogjkicgiliaagreat", sum := "ab3728e0b9f29f7f58fcb3a2b8b1b972a5f44093dde3895e614da45f38b2238c", func := "copyist/copyistlaw6.LinesKept", spec := "linesKept", unfollowed := true, recurses := true, apart := false }
def LinesKeptSaid : Prop := linesKeptRow.holds Tryz.pinned (OpenSpec.ofChange linesKeptSpec)

/-- ITS FALSE NEIGHBOUR: 'it returns false'. Refute it at one input. -/
def linesKeptWrong : ChangeSpec := { name := "linesKept", fn := fun _ => fun
  | [d1, d2] => { results := [.lit (.bool false)], args := [d1, d2] }
  | _ => none }
def LinesKeptWrongFalsely : Prop := linesKeptRow.holds Tryz.pinned (OpenSpec.ofChange linesKeptWrong)

/-- 'copyistlaw6.LinesGrow': WHATEVER THE INPUT: true; the input reads as it did. -/
def linesGrowSpec : ChangeSpec := { name := "linesGrow", fn := fun _ => fun
  | [d1, d2, d3, d4] => { results := [.lit (.bool true)], args := [d1, d2, d3, d4] }
  | _ => none }
def linesGrowRow : OpenClaim := { program := "ythhogjkicgiliaagreat", sum := "ab3728e0b9f29f7f58fcb3a2b8b1b972a5f44093dde3895e614da45f38b2238c", func := "copyist/copyistlaw6.LinesGrow", spec := "linesGrow", unfollowed := true, recurses := true, apart := false }
def LinesGrowSaid : Prop := linesGrowRow.holds Tryz.pinned (OpenSpec.ofChange linesGrowSpec)

/-- ITS FALSE NEIGHBOUR: 'it returns false'. Refute it at one input. -/
def linesGrowWrong : ChangeSpec := { name := "linesGrow", fn := fun _ => fun
  | [d1, d2, d3, d4] => { results := [.lit (.bool false)], args := [d1, d2, d3, d4] }
  | _ => none }
def LinesGrowWrongFalsely : Prop := linesGrowRow.holds Tryz.pinned (OpenSpec.ofChange linesGrowWrong)

/-- 'copyistlaw6.LinesDeleted': WHATEVER THE INPUT: true; the input reads as it did. -/
def linesDeletedSpec : ChangeSpec := { name := "linesDeleted", fn := fun _ => fun
  | [d1, d2, d3] => { results := [.lit (.bool true)], args := [d1, d2, d3] }
  | _ => none }
def linesDeletedRow : OpenClaim := { program := "ythhogjkicgiliaagreat", sum := "ab3728e0b9f29f7f58fcb3a2b8b1b972a5f44093dde3895e614da45f38b2238c", func := "copyist/copyistlaw6.LinesDeleted", spec := "linesDeleted", unfollowed := true, recurses := true, apart := false }
def LinesDeletedSaid : Prop := linesDeletedRow.holds Tryz.pinned (OpenSpec.ofChange linesDeletedSpec)

/-- ITS FALSE NEIGHBOUR: 'it returns false'. Refute it at one input. -/
def linesDeletedWrong : ChangeSpec := { name := "linesDeleted", fn := fun _ => fun
  | [d1, d2, d3] => { results := [.lit (.bool false)], args := [d1, d2, d3] }
  | _ => none }
def LinesDeletedWrongFalsely : Prop := linesDeletedRow.holds Tryz.pinned (OpenSpec.ofChange linesDeletedWrong)

/-- 'copyistlaw6.LinesTile': WHATEVER THE INPUT: true; the input reads as it did. -/
def linesTileSpec : ChangeSpec := { name := "linesTile", fn := fun _ => fun
  | [d1, d2] => { results := [.lit (.bool true)], args := [d1, d2] }
  | _ => none }
def linesTileRow : OpenClaim := { program := "ythhogjkicgiliaagreat", sum := "ab3728e0b9f29f7f58fcb3a2b8b1b972a5f44093dde3895e614da45f38b2238c", func := "copyist/copyistlaw6.LinesTile", spec := "linesTile", unfollowed := true, recurses := true, apart := false }
def LinesTileSaid : Prop := linesTileRow.holds Tryz.pinned (OpenSpec.ofChange linesTileSpec)

/-- ITS FALSE NEIGHBOUR: 'it returns false'. Refute it at one input. -/
def linesTileWrong : ChangeSpec := { name := "linesTile", fn := fun _ => fun
  | [d1, d2] => { results := [.lit (.bool false)], args := [d1, d2] }
  | _ => none }
def LinesTileWrongFalsely : Prop := linesTileRow.holds Tryz.pinned (OpenSpec.ofChange linesTileWrong)

/-- 'copyistlaw6.LinesTyped': WHATEVER THE INPUT: true; the input reads as it did. -/
def linesTypedSpec : ChangeSpec := { name := "linesTyped", fn := fun _ => fun
  | [d1, d2, d3] => { results := [.lit (.bool true)], args := [d1, d2, d3] }
  | _ => none }
def linesTypedRow : OpenClaim := { program := "ythhogjkicgiliaagreat", sum := "ab3728e0b9f29f7f58fcb3a2b8b1b972a5f44093dde3895e614da45f38b2238c", func := "copyist/copyistlaw6.LinesTyped", spec := "linesTyped", unfollowed := true, recurses := true, apart := false }
def LinesTypedSaid : Prop := linesTypedRow.holds Tryz.pinned (OpenSpec.ofChange linesTypedSpec)

/-- ITS FALSE NEIGHBOUR: 'it returns false'. Refute it at one input. -/
def linesTypedWrong : ChangeSpec := { name := "linesTyped", fn := fun _ => fun
  | [d1, d2, d3] => { results := [.lit (.bool false)], args := [d1, d2, d3] }
  | _ => none }
def LinesTypedWrongFalsely : Prop := linesTypedRow.holds Tryz.pinned (OpenSpec.ofChange linesTypedWrong)

/- THE SECOND FORM. 'bulk': how many values and letters a reading holds, each counted each time it is reached (what is shared counts as often as it is met; a slice's spare places count too). A statement '..UptoSaid' is the law's where the arguments, and the package variables that the reading takes, are together of bulk at most 1048576: NARROWER than '..Said'. Prove '..Said' where nothing that the law and all that it calls make is longer than what came in: it says more and counts as full. Else prove '..UptoSaid'. A law counts once. -/
mutual
def uptoBulk {H : Type} : DataW H → Nat
  | .lit (.string bytes) => bytes.length + 1
  | .lit _ => 1
  | .nil => 1
  | .ptr d => uptoBulk d + 1
  | .slice elems spare => uptoBulkAll elems + uptoBulkAll spare + 1
  | .agg parts => uptoBulkAll parts + 1
  | .iface _ d => uptoBulk d + 1
  | .map entries => uptoBulkEntries entries + 1
  | .held _ => 1
def uptoBulkAll {H : Type} : List (DataW H) → Nat
  | [] => 0
  | d :: r => uptoBulk d + uptoBulkAll r
def uptoBulkEntries {H : Type} : List (Lit × DataW H) → Nat
  | [] => 0
  | x :: r => uptoBulkEntry x + uptoBulkEntries r
def uptoBulkEntry {H : Type} : Lit × DataW H → Nat
  | (.string bytes, d) => bytes.length + uptoBulk d + 1
  | (_, d) => uptoBulk d + 1
 end
def uptoSmall : (H : Type) → List (DataW H) → Bool := fun _ ds => decide (uptoBulkAll ds ≤ 1048576)
def OpenSpec.upto (s : _root_.Go.ChangeSpec) : _root_.Go.OpenSpec := { _root_.Go.OpenSpec.ofChange s with cond := some uptoSmall }

/-- 'copyistlaw6.LinesKept', WHERE WHAT IT READS IS OF BULK AT MOST 1048576: true; the input reads as it did. -/
def linesKeptUptoRow : OpenClaim := { program := "ythhogjkicgiliaagreat", sum := "ab3728e0b9f29f7f58fcb3a2b8b1b972a5f44093dde3895e614da45f38b2238c", func := "copyist/copyistlaw6.LinesKept", spec := "linesKept", unfollowed := true, recurses := true, apart := false, narrowed := true }
def LinesKeptUptoSaid : Prop := linesKeptUptoRow.holds Tryz.pinned (OpenSpec.upto linesKeptSpec)

/-- 'copyistlaw6.LinesGrow', WHERE WHAT IT READS IS OF BULK AT MOST 1048576: true; the input reads as it did. -/
def linesGrowUptoRow : OpenClaim := { program := "ythhogjkicgiliaagreat", sum := "ab3728e0b9f29f7f58fcb3a2b8b1b972a5f44093dde3895e614da45f38b2238c", func := "copyist/copyistlaw6.LinesGrow", spec := "linesGrow", unfollowed := true, recurses := true, apart := false, narrowed := true }
def LinesGrowUptoSaid : Prop := linesGrowUptoRow.holds Tryz.pinned (OpenSpec.upto linesGrowSpec)

/-- 'copyistlaw6.LinesDeleted', WHERE WHAT IT READS IS OF BULK AT MOST 1048576: true; the input reads as it did. -/
def linesDeletedUptoRow : OpenClaim := { program := "ythhogjkicgiliaagreat", sum := "ab3728e0b9f29f7f58fcb3a2b8b1b972a5f44093dde3895e614da45f38b2238c", func := "copyist/copyistlaw6.LinesDeleted", spec := "linesDeleted", unfollowed := true, recurses := true, apart := false, narrowed := true }
def LinesDeletedUptoSaid : Prop := linesDeletedUptoRow.holds Tryz.pinned (OpenSpec.upto linesDeletedSpec)

/-- 'copyistlaw6.LinesTile', WHERE WHAT IT READS IS OF BULK AT MOST 1048576: true; the input reads as it did. -/
def linesTileUptoRow : OpenClaim := { program := "ythhogjkicgiliaagreat", sum := "ab3728e0b9f29f7f58fcb3a2b8b1b972a5f44093dde3895e614da45f38b2238c", func := "copyist/copyistlaw6.LinesTile", spec := "linesTile", unfollowed := true, recurses := true, apart := false, narrowed := true }
def LinesTileUptoSaid : Prop := linesTileUptoRow.holds Tryz.pinned (OpenSpec.upto linesTileSpec)

/-- 'copyistlaw6.LinesTyped', WHERE WHAT IT READS IS OF BULK AT MOST 1048576: true; the input reads as it did. -/
def linesTypedUptoRow : OpenClaim := { program := "ythhogjkicgiliaagreat", sum := "ab3728e0b9f29f7f58fcb3a2b8b1b972a5f44093dde3895e614da45f38b2238c", func := "copyist/copyistlaw6.LinesTyped", spec := "linesTyped", unfollowed := true, recurses := true, apart := false, narrowed := true }
def LinesTypedUptoSaid : Prop := linesTypedUptoRow.holds Tryz.pinned (OpenSpec.upto linesTypedSpec)

end Rows
end Go.Proofs.YthhogjkicgiliaaGreat
