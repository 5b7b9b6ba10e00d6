/-
  No cell of these rows narrows 'for every input' (looked for: loops, veiled, ifaces, maps, wideKeys, modest, calm, conditions, laid).
  DERIVED. THE GIVEN ROWS OF THIS SEAT. 15 by the template 'for every input the law returns true; each argument reads behind the call as it read before'; 0 by the template 'total and deterministic' (their statements: YtjomfbegghgbdaaGreatTotals.lean).
  GIVEN WITH THE SEED: the statements are not yours to turn. If you find one false, say at which input.
  Laid BY PROGRAM, IN A SANDBOX (cutbox-rows.mjs): the forced cells as the released guide's own fill.sh prints them over the translation 91ffbd66ee90a246… (all of the seat's roots in one cut). By AI agents, Wed Nov 11 2026. No macro, syntax, notation, axiom, sorry.
-/
import Derived.Test.YtjomfbegghgbdaaGreatChecked
import GoSem.Claim
import GoSem.ClaimJoined
import GoSem.ClaimMapViews
import Derived.JoinedTies
import Derived.KernelRfl
namespace Go.Proofs.YtjomfbegghgbdaaGreat
/- THE CELL 'sum', in the pinned program and in every row, IS THE sha256 OF THE DUMP (.gsa) THAT YtjomfbegghgbdaaGreatProg.lean LOADS. Nothing in Lean hashes anything: it is a label: what it is worth is what the hold of that sum in a sandbox is worth. -/
noncomputable def Tryz.pinned : Pinned := { name := "ytjomfbegghgbdaagreat", sum := "91ffbd66ee90a246539db35989a2e30a6cdf195478853ff4280777d78c521123", checked := Tryz.checked }
namespace Rows
def none {H : Type} : Left H := { results := [], args := [] }

/-- 'copyistlaw6.LinesKept': WHATEVER THE INPUT: true; the input reads as it did. -/
def linesKeptSpec : ChangeSpec := { name := "linesKept", fn := fun _ => fun
  | [d1, d2] => { results := [.lit (.bool true)], args := [d1, d2] }
  | _ => none }
def linesKeptRow : OpenClaim := { program := "ytjomfbegghgbdaagreat", sum := "91ffbd66ee90a246539db35989a2e30a6cdf195478853ff4280777d78c521123", func := "copyist/copyistlaw6.LinesKept", spec := "linesKept", unfollowed := true, recurses := true, apart := false }
def LinesKeptSaid : Prop := linesKeptRow.holds Tryz.pinned (OpenSpec.ofChange linesKeptSpec)

/-- ITS FALSE NEIGHBOUR: 'it returns false'. Refute it at one input. -/
def linesKeptWrong : ChangeSpec := { name := "linesKept", fn := fun _ => fun
  | [d1, d2] => { results := [.lit (.bool false)], args := [d1, d2] }
  | _ => none }
def LinesKeptWrongFalsely : Prop := linesKeptRow.holds Tryz.pinned (OpenSpec.ofChange linesKeptWrong)

/-- 'copyistlaw6.LinesSeam': WHATEVER THE INPUT: true; the input reads as it did. -/
def linesSeamSpec : ChangeSpec := { name := "linesSeam", fn := fun _ => fun
  | [d1, d2] => { results := [.lit (.bool true)], args := [d1, d2] }
  | _ => none }
def linesSeamRow : OpenClaim := { program := "ytjomfbegghgbdaagreat", sum := "91ffbd66ee90a246539db35989a2e30a6cdf195478853ff4280777d78c521123", func := "copyist/copyistlaw6.LinesSeam", spec := "linesSeam", unfollowed := true, recurses := true, apart := false }
def LinesSeamSaid : Prop := linesSeamRow.holds Tryz.pinned (OpenSpec.ofChange linesSeamSpec)

/-- ITS FALSE NEIGHBOUR: 'it returns false'. Refute it at one input. -/
def linesSeamWrong : ChangeSpec := { name := "linesSeam", fn := fun _ => fun
  | [d1, d2] => { results := [.lit (.bool false)], args := [d1, d2] }
  | _ => none }
def LinesSeamWrongFalsely : Prop := linesSeamRow.holds Tryz.pinned (OpenSpec.ofChange linesSeamWrong)

/-- 'copyistlaw6.LinesGrow': WHATEVER THE INPUT: true; the input reads as it did. -/
def linesGrowSpec : ChangeSpec := { name := "linesGrow", fn := fun _ => fun
  | [d1, d2, d3, d4] => { results := [.lit (.bool true)], args := [d1, d2, d3, d4] }
  | _ => none }
def linesGrowRow : OpenClaim := { program := "ytjomfbegghgbdaagreat", sum := "91ffbd66ee90a246539db35989a2e30a6cdf195478853ff4280777d78c521123", func := "copyist/copyistlaw6.LinesGrow", spec := "linesGrow", unfollowed := true, recurses := true, apart := false }
def LinesGrowSaid : Prop := linesGrowRow.holds Tryz.pinned (OpenSpec.ofChange linesGrowSpec)

/-- ITS FALSE NEIGHBOUR: 'it returns false'. Refute it at one input. -/
def linesGrowWrong : ChangeSpec := { name := "linesGrow", fn := fun _ => fun
  | [d1, d2, d3, d4] => { results := [.lit (.bool false)], args := [d1, d2, d3, d4] }
  | _ => none }
def LinesGrowWrongFalsely : Prop := linesGrowRow.holds Tryz.pinned (OpenSpec.ofChange linesGrowWrong)

/-- 'copyistlaw6.LinesDeleted': WHATEVER THE INPUT: true; the input reads as it did. -/
def linesDeletedSpec : ChangeSpec := { name := "linesDeleted", fn := fun _ => fun
  | [d1, d2, d3] => { results := [.lit (.bool true)], args := [d1, d2, d3] }
  | _ => none }
def linesDeletedRow : OpenClaim := { program := "ytjomfbegghgbdaagreat", sum := "91ffbd66ee90a246539db35989a2e30a6cdf195478853ff4280777d78c521123", func := "copyist/copyistlaw6.LinesDeleted", spec := "linesDeleted", unfollowed := true, recurses := true, apart := false }
def LinesDeletedSaid : Prop := linesDeletedRow.holds Tryz.pinned (OpenSpec.ofChange linesDeletedSpec)

/-- ITS FALSE NEIGHBOUR: 'it returns false'. Refute it at one input. -/
def linesDeletedWrong : ChangeSpec := { name := "linesDeleted", fn := fun _ => fun
  | [d1, d2, d3] => { results := [.lit (.bool false)], args := [d1, d2, d3] }
  | _ => none }
def LinesDeletedWrongFalsely : Prop := linesDeletedRow.holds Tryz.pinned (OpenSpec.ofChange linesDeletedWrong)

/-- 'copyistlaw6.LinesLater': WHATEVER THE INPUT: true; the input reads as it did. -/
def linesLaterSpec : ChangeSpec := { name := "linesLater", fn := fun _ => fun
  | [d1, d2] => { results := [.lit (.bool true)], args := [d1, d2] }
  | _ => none }
def linesLaterRow : OpenClaim := { program := "ytjomfbegghgbdaagreat", sum := "91ffbd66ee90a246539db35989a2e30a6cdf195478853ff4280777d78c521123", func := "copyist/copyistlaw6.LinesLater", spec := "linesLater", unfollowed := true, recurses := true, apart := false }
def LinesLaterSaid : Prop := linesLaterRow.holds Tryz.pinned (OpenSpec.ofChange linesLaterSpec)

/-- ITS FALSE NEIGHBOUR: 'it returns false'. Refute it at one input. -/
def linesLaterWrong : ChangeSpec := { name := "linesLater", fn := fun _ => fun
  | [d1, d2] => { results := [.lit (.bool false)], args := [d1, d2] }
  | _ => none }
def LinesLaterWrongFalsely : Prop := linesLaterRow.holds Tryz.pinned (OpenSpec.ofChange linesLaterWrong)

/-- 'copyistlaw6.LinesTile': WHATEVER THE INPUT: true; the input reads as it did. -/
def linesTileSpec : ChangeSpec := { name := "linesTile", fn := fun _ => fun
  | [d1, d2] => { results := [.lit (.bool true)], args := [d1, d2] }
  | _ => none }
def linesTileRow : OpenClaim := { program := "ytjomfbegghgbdaagreat", sum := "91ffbd66ee90a246539db35989a2e30a6cdf195478853ff4280777d78c521123", func := "copyist/copyistlaw6.LinesTile", spec := "linesTile", unfollowed := true, recurses := true, apart := false }
def LinesTileSaid : Prop := linesTileRow.holds Tryz.pinned (OpenSpec.ofChange linesTileSpec)

/-- ITS FALSE NEIGHBOUR: 'it returns false'. Refute it at one input. -/
def linesTileWrong : ChangeSpec := { name := "linesTile", fn := fun _ => fun
  | [d1, d2] => { results := [.lit (.bool false)], args := [d1, d2] }
  | _ => none }
def LinesTileWrongFalsely : Prop := linesTileRow.holds Tryz.pinned (OpenSpec.ofChange linesTileWrong)

/-- 'copyistlaw6.LinesTurned': WHATEVER THE INPUT: true; the input reads as it did. -/
def linesTurnedSpec : ChangeSpec := { name := "linesTurned", fn := fun _ => fun
  | [d1, d2, d3] => { results := [.lit (.bool true)], args := [d1, d2, d3] }
  | _ => none }
def linesTurnedRow : OpenClaim := { program := "ytjomfbegghgbdaagreat", sum := "91ffbd66ee90a246539db35989a2e30a6cdf195478853ff4280777d78c521123", func := "copyist/copyistlaw6.LinesTurned", spec := "linesTurned", unfollowed := true, recurses := true, apart := false }
def LinesTurnedSaid : Prop := linesTurnedRow.holds Tryz.pinned (OpenSpec.ofChange linesTurnedSpec)

/-- ITS FALSE NEIGHBOUR: 'it returns false'. Refute it at one input. -/
def linesTurnedWrong : ChangeSpec := { name := "linesTurned", fn := fun _ => fun
  | [d1, d2, d3] => { results := [.lit (.bool false)], args := [d1, d2, d3] }
  | _ => none }
def LinesTurnedWrongFalsely : Prop := linesTurnedRow.holds Tryz.pinned (OpenSpec.ofChange linesTurnedWrong)

/-- 'copyistlaw6.LinesCounts': WHATEVER THE INPUT: true; the input reads as it did. -/
def linesCountsSpec : ChangeSpec := { name := "linesCounts", fn := fun _ => fun
  | [d1, d2, d3] => { results := [.lit (.bool true)], args := [d1, d2, d3] }
  | _ => none }
def linesCountsRow : OpenClaim := { program := "ytjomfbegghgbdaagreat", sum := "91ffbd66ee90a246539db35989a2e30a6cdf195478853ff4280777d78c521123", func := "copyist/copyistlaw6.LinesCounts", spec := "linesCounts", unfollowed := true, recurses := true, apart := false }
def LinesCountsSaid : Prop := linesCountsRow.holds Tryz.pinned (OpenSpec.ofChange linesCountsSpec)

/-- ITS FALSE NEIGHBOUR: 'it returns false'. Refute it at one input. -/
def linesCountsWrong : ChangeSpec := { name := "linesCounts", fn := fun _ => fun
  | [d1, d2, d3] => { results := [.lit (.bool false)], args := [d1, d2, d3] }
  | _ => none }
def LinesCountsWrongFalsely : Prop := linesCountsRow.holds Tryz.pinned (OpenSpec.ofChange linesCountsWrong)

/-- 'copyistlaw6.LinesAt': WHATEVER THE INPUT: true; the input reads as it did. -/
def linesAtSpec : ChangeSpec := { name := "linesAt", fn := fun _ => fun
  | [d1, d2, d3] => { results := [.lit (.bool true)], args := [d1, d2, d3] }
  | _ => none }
def linesAtRow : OpenClaim := { program := "ytjomfbegghgbdaagreat", sum := "91ffbd66ee90a246539db35989a2e30a6cdf195478853ff4280777d78c521123", func := "copyist/copyistlaw6.LinesAt", spec := "linesAt", unfollowed := true, recurses := true, apart := false }
def LinesAtSaid : Prop := linesAtRow.holds Tryz.pinned (OpenSpec.ofChange linesAtSpec)

/-- ITS FALSE NEIGHBOUR: 'it returns false'. Refute it at one input. -/
def linesAtWrong : ChangeSpec := { name := "linesAt", fn := fun _ => fun
  | [d1, d2, d3] => { results := [.lit (.bool false)], args := [d1, d2, d3] }
  | _ => none }
def LinesAtWrongFalsely : Prop := linesAtRow.holds Tryz.pinned (OpenSpec.ofChange linesAtWrong)

/-- 'copyistlaw6.LinesOf': WHATEVER THE INPUT: true; the input reads as it did. -/
def linesOfSpec : ChangeSpec := { name := "linesOf", fn := fun _ => fun
  | [d1, d2, d3] => { results := [.lit (.bool true)], args := [d1, d2, d3] }
  | _ => none }
def linesOfRow : OpenClaim := { program := "ytjomfbegghgbdaagreat", sum := "91ffbd66ee90a246539db35989a2e30a6cdf195478853ff4280777d78c521123", func := "copyist/copyistlaw6.LinesOf", spec := "linesOf", unfollowed := true, recurses := true, apart := false }
def LinesOfSaid : Prop := linesOfRow.holds Tryz.pinned (OpenSpec.ofChange linesOfSpec)

/-- ITS FALSE NEIGHBOUR: 'it returns false'. Refute it at one input. -/
def linesOfWrong : ChangeSpec := { name := "linesOf", fn := fun _ => fun
  | [d1, d2, d3] => { results := [.lit (.bool false)], args := [d1, d2, d3] }
  | _ => none }
def LinesOfWrongFalsely : Prop := linesOfRow.holds Tryz.pinned (OpenSpec.ofChange linesOfWrong)

/-- 'copyistlaw6.LinesKinds': WHATEVER THE INPUT: true; the input reads as it did. -/
def linesKindsSpec : ChangeSpec := { name := "linesKinds", fn := fun _ => fun
  | [d1, d2, d3] => { results := [.lit (.bool true)], args := [d1, d2, d3] }
  | _ => none }
def linesKindsRow : OpenClaim := { program := "ytjomfbegghgbdaagreat", sum := "91ffbd66ee90a246539db35989a2e30a6cdf195478853ff4280777d78c521123", func := "copyist/copyistlaw6.LinesKinds", spec := "linesKinds", unfollowed := true, recurses := true, apart := false }
def LinesKindsSaid : Prop := linesKindsRow.holds Tryz.pinned (OpenSpec.ofChange linesKindsSpec)

/-- ITS FALSE NEIGHBOUR: 'it returns false'. Refute it at one input. -/
def linesKindsWrong : ChangeSpec := { name := "linesKinds", fn := fun _ => fun
  | [d1, d2, d3] => { results := [.lit (.bool false)], args := [d1, d2, d3] }
  | _ => none }
def LinesKindsWrongFalsely : Prop := linesKindsRow.holds Tryz.pinned (OpenSpec.ofChange linesKindsWrong)

/-- 'copyistlaw6.LinesGone': WHATEVER THE INPUT: true; the input reads as it did. -/
def linesGoneSpec : ChangeSpec := { name := "linesGone", fn := fun _ => fun
  | [d1, d2, d3] => { results := [.lit (.bool true)], args := [d1, d2, d3] }
  | _ => none }
def linesGoneRow : OpenClaim := { program := "ytjomfbegghgbdaagreat", sum := "91ffbd66ee90a246539db35989a2e30a6cdf195478853ff4280777d78c521123", func := "copyist/copyistlaw6.LinesGone", spec := "linesGone", unfollowed := true, recurses := true, apart := false }
def LinesGoneSaid : Prop := linesGoneRow.holds Tryz.pinned (OpenSpec.ofChange linesGoneSpec)

/-- ITS FALSE NEIGHBOUR: 'it returns false'. Refute it at one input. -/
def linesGoneWrong : ChangeSpec := { name := "linesGone", fn := fun _ => fun
  | [d1, d2, d3] => { results := [.lit (.bool false)], args := [d1, d2, d3] }
  | _ => none }
def LinesGoneWrongFalsely : Prop := linesGoneRow.holds Tryz.pinned (OpenSpec.ofChange linesGoneWrong)

/-- 'copyistlaw6.LinesTyped': WHATEVER THE INPUT: true; the input reads as it did. -/
def linesTypedSpec : ChangeSpec := { name := "linesTyped", fn := fun _ => fun
  | [d1, d2, d3] => { results := [.lit (.bool true)], args := [d1, d2, d3] }
  | _ => none }
def linesTypedRow : OpenClaim := { program := "ytjomfbegghgbdaagreat", sum := "91ffbd66ee90a246539db35989a2e30a6cdf195478853ff4280777d78c521123", func := "copyist/copyistlaw6.LinesTyped", spec := "linesTyped", unfollowed := true, recurses := true, apart := false }
def LinesTypedSaid : Prop := linesTypedRow.holds Tryz.pinned (OpenSpec.ofChange linesTypedSpec)

/-- ITS FALSE NEIGHBOUR: 'it returns false'. Refute it at one input. -/
def linesTypedWrong : ChangeSpec := { name := "linesTyped", fn := fun _ => fun
  | [d1, d2, d3] => { results := [.lit (.bool false)], args := [d1, d2, d3] }
  | _ => none }
def LinesTypedWrongFalsely : Prop := linesTypedRow.holds Tryz.pinned (OpenSpec.ofChange linesTypedWrong)

/-- 'copyistlaw6.LinesWhole': WHATEVER THE INPUT: true; the input reads as it did. -/
def linesWholeSpec : ChangeSpec := { name := "linesWhole", fn := fun _ => fun
  | [d1, d2, d3] => { results := [.lit (.bool true)], args := [d1, d2, d3] }
  | _ => none }
def linesWholeRow : OpenClaim := { program := "ytjomfbegghgbdaagreat", sum := "91ffbd66ee90a246539db35989a2e30a6cdf195478853ff4280777d78c521123", func := "copyist/copyistlaw6.LinesWhole", spec := "linesWhole", unfollowed := true, recurses := true, apart := false }
def LinesWholeSaid : Prop := linesWholeRow.holds Tryz.pinned (OpenSpec.ofChange linesWholeSpec)

/-- ITS FALSE NEIGHBOUR: 'it returns false'. Refute it at one input. -/
def linesWholeWrong : ChangeSpec := { name := "linesWhole", fn := fun _ => fun
  | [d1, d2, d3] => { results := [.lit (.bool false)], args := [d1, d2, d3] }
  | _ => none }
def LinesWholeWrongFalsely : Prop := linesWholeRow.holds Tryz.pinned (OpenSpec.ofChange linesWholeWrong)

/-- 'copyistlaw6.LinesScript': WHATEVER THE INPUT: true; the input reads as it did. -/
def linesScriptSpec : ChangeSpec := { name := "linesScript", fn := fun _ => fun
  | [d1, d2, d3] => { results := [.lit (.bool true)], args := [d1, d2, d3] }
  | _ => none }
def linesScriptRow : OpenClaim := { program := "ytjomfbegghgbdaagreat", sum := "91ffbd66ee90a246539db35989a2e30a6cdf195478853ff4280777d78c521123", func := "copyist/copyistlaw6.LinesScript", spec := "linesScript", unfollowed := true, recurses := true, apart := false }
def LinesScriptSaid : Prop := linesScriptRow.holds Tryz.pinned (OpenSpec.ofChange linesScriptSpec)

/-- ITS FALSE NEIGHBOUR: 'it returns false'. Refute it at one input. -/
def linesScriptWrong : ChangeSpec := { name := "linesScript", fn := fun _ => fun
  | [d1, d2, d3] => { results := [.lit (.bool false)], args := [d1, d2, d3] }
  | _ => none }
def LinesScriptWrongFalsely : Prop := linesScriptRow.holds Tryz.pinned (OpenSpec.ofChange linesScriptWrong)

/- THE SECOND FORM. 'bulk': how many values and letters a reading holds, each counted each time it is reached (what is shared counts as often as it is met; a slice's spare places count too). A statement '..UptoSaid' is the law's where the arguments, and the package variables that the reading takes, are together of bulk at most 1048576: NARROWER than '..Said'. Prove '..Said' where nothing that the law and all that it calls make is longer than what came in: it says more and counts as full. Else prove '..UptoSaid'. A law counts once. -/
mutual
def uptoBulk {H : Type} : DataW H → Nat
  | .lit (.string bytes) => bytes.length + 1
  | .lit _ => 1
  | .nil => 1
  | .ptr d => uptoBulk d + 1
  | .slice elems spare => uptoBulkAll elems + uptoBulkAll spare + 1
  | .agg parts => uptoBulkAll parts + 1
  | .iface _ d => uptoBulk d + 1
  | .map entries => uptoBulkEntries entries + 1
  | .held _ => 1
def uptoBulkAll {H : Type} : List (DataW H) → Nat
  | [] => 0
  | d :: r => uptoBulk d + uptoBulkAll r
def uptoBulkEntries {H : Type} : List (Lit × DataW H) → Nat
  | [] => 0
  | x :: r => uptoBulkEntry x + uptoBulkEntries r
def uptoBulkEntry {H : Type} : Lit × DataW H → Nat
  | (.string bytes, d) => bytes.length + uptoBulk d + 1
  | (_, d) => uptoBulk d + 1
 end
def uptoSmall : (H : Type) → List (DataW H) → Bool := fun _ ds => decide (uptoBulkAll ds ≤ 1048576)
def OpenSpec.upto (s : _root_.Go.ChangeSpec) : _root_.Go.OpenSpec := { _root_.Go.OpenSpec.ofChange s with cond := some uptoSmall }

/-- 'copyistlaw6.LinesKept', WHERE WHAT IT READS IS OF BULK AT MOST 1048576: true; the input reads as it did. -/
def linesKeptUptoRow : OpenClaim := { program := "ytjomfbegghgbdaagreat", sum := "91ffbd66ee90a246539db35989a2e30a6cdf195478853ff4280777d78c521123", func := "copyist/copyistlaw6.LinesKept", spec := "linesKept", unfollowed := true, recurses := true, apart := false, narrowed := true }
def LinesKeptUptoSaid : Prop := linesKeptUptoRow.holds Tryz.pinned (OpenSpec.upto linesKeptSpec)

/-- 'copyistlaw6.LinesSeam', WHERE WHAT IT READS IS OF BULK AT MOST 1048576: true; the input reads as it did. -/
def linesSeamUptoRow : OpenClaim := { program := "ytjomfbegghgbdaagreat", sum := "91ffbd66ee90a246539db35989a2e30a6cdf195478853ff4280777d78c521123", func := "copyist/copyistlaw6.LinesSeam", spec := "linesSeam", unfollowed := true, recurses := true, apart := false, narrowed := true }
def LinesSeamUptoSaid : Prop := linesSeamUptoRow.holds Tryz.pinned (OpenSpec.upto linesSeamSpec)

/-- 'copyistlaw6.LinesGrow', WHERE WHAT IT READS IS OF BULK AT MOST 1048576: true; the input reads as it did. -/
def linesGrowUptoRow : OpenClaim := { program := "ytjomfbegghgbdaagreat", sum := "91ffbd66ee90a246539db35989a2e30a6cdf195478853ff4280777d78c521123", func := "copyist/copyistlaw6.LinesGrow", spec := "linesGrow", unfollowed := true, recurses := true, apart := false, narrowed := true }
def LinesGrowUptoSaid : Prop := linesGrowUptoRow.holds Tryz.pinned (OpenSpec.upto linesGrowSpec)

/-- 'copyistlaw6.LinesDeleted', WHERE WHAT IT READS IS OF BULK AT MOST 1048576: true; the input reads as it did. -/
def linesDeletedUptoRow : OpenClaim := { program := "ytjomfbegghgbdaagreat", sum := "91ffbd66ee90a246539db35989a2e30a6cdf195478853ff4280777d78c521123", func := "copyist/copyistlaw6.LinesDeleted", spec := "linesDeleted", unfollowed := true, recurses := true, apart := false, narrowed := true }
def LinesDeletedUptoSaid : Prop := linesDeletedUptoRow.holds Tryz.pinned (OpenSpec.upto linesDeletedSpec)

/-- 'copyistlaw6.LinesLater', WHERE WHAT IT READS IS OF BULK AT MOST 1048576: true; the input reads as it did. -/
def linesLaterUptoRow : OpenClaim := { program := "ytjomfbegghgbdaagreat", sum := "91ffbd66ee90a246539db35989a2e30a6cdf195478853ff4280777d78c521123", func := "copyist/copyistlaw6.LinesLater", spec := "linesLater", unfollowed := true, recurses := true, apart := false, narrowed := true }
def LinesLaterUptoSaid : Prop := linesLaterUptoRow.holds Tryz.pinned (OpenSpec.upto linesLaterSpec)

/-- 'copyistlaw6.LinesTile', WHERE WHAT IT READS IS OF BULK AT MOST 1048576: true; the input reads as it did. -/
def linesTileUptoRow : OpenClaim := { program := "ytjomfbegghgbdaagreat", sum := "91ffbd66ee90a246539db35989a2e30a6cdf195478853ff4280777d78c521123", func := "copyist/copyistlaw6.LinesTile", spec := "linesTile", unfollowed := true, recurses := true, apart := false, narrowed := true }
def LinesTileUptoSaid : Prop := linesTileUptoRow.holds Tryz.pinned (OpenSpec.upto linesTileSpec)

/-- 'copyistlaw6.LinesTurned', WHERE WHAT IT READS IS OF BULK AT MOST 1048576: true; the input reads as it did. -/
def linesTurnedUptoRow : OpenClaim := { program := "ytjomfbegghgbdaagreat", sum := "91ffbd66ee90a246539db35989a2e30a6cdf195478853ff4280777d78c521123", func := "copyist/copyistlaw6.LinesTurned", spec := "linesTurned", unfollowed := true, recurses := true, apart := false, narrowed := true }
def LinesTurnedUptoSaid : Prop := linesTurnedUptoRow.holds Tryz.pinned (OpenSpec.upto linesTurnedSpec)

/-- 'copyistlaw6.LinesCounts', WHERE WHAT IT READS IS OF BULK AT MOST 1048576: true; the input reads as it did. -/
def linesCountsUptoRow : OpenClaim := { program := "ytjomfbegghgbdaagreat", sum := "91ffbd66ee90a246539db35989a2e30a6cdf195478853ff4280777d78c521123", func := "copyist/copyistlaw6.LinesCounts", spec := "linesCounts", unfollowed := true, recurses := true, apart := false, narrowed := true }
def LinesCountsUptoSaid : Prop := linesCountsUptoRow.holds Tryz.pinned (OpenSpec.upto linesCountsSpec)

/-- 'copyistlaw6.LinesAt', WHERE WHAT IT READS IS OF BULK AT MOST 1048576: true; the input reads as it did. -/
def linesAtUptoRow : OpenClaim := { program := "ytjomfbegghgbdaagreat", sum := "91ffbd66ee90a246539db35989a2e30a6cdf195478853ff4280777d78c521123", func := "copyist/copyistlaw6.LinesAt", spec := "linesAt", unfollowed := true, recurses := true, apart := false, narrowed := true }
def LinesAtUptoSaid : Prop := linesAtUptoRow.holds Tryz.pinned (OpenSpec.upto linesAtSpec)

/-- 'copyistlaw6.LinesOf', WHERE WHAT IT READS IS OF BULK AT MOST 1048576: true; the input reads as it did. -/
def linesOfUptoRow : OpenClaim := { program := "ytjomfbegghgbdaagreat", sum := "91ffbd66ee90a246539db35989a2e30a6cdf195478853ff4280777d78c521123", func := "copyist/copyistlaw6.LinesOf", spec := "linesOf", unfollowed := true, recurses := true, apart := false, narrowed := true }
def LinesOfUptoSaid : Prop := linesOfUptoRow.holds Tryz.pinned (OpenSpec.upto linesOfSpec)

/-- 'copyistlaw6.LinesKinds', WHERE WHAT IT READS IS OF BULK AT MOST 1048576: true; the input reads as it did. -/
def linesKindsUptoRow : OpenClaim := { program := "ytjomfbegghgbdaagreat", sum := "91ffbd66ee90a246539db35989a2e30a6cdf195478853ff4280777d78c521123", func := "copyist/copyistlaw6.LinesKinds", spec := "linesKinds", unfollowed := true, recurses := true, apart := false, narrowed := true }
def LinesKindsUptoSaid : Prop := linesKindsUptoRow.holds Tryz.pinned (OpenSpec.upto linesKindsSpec)

/-- 'copyistlaw6.LinesGone', WHERE WHAT IT READS IS OF BULK AT MOST 1048576: true; the input reads as it did. -/
def linesGoneUptoRow : OpenClaim := { program := "ytjomfbegghgbdaagreat", sum := "91ffbd66ee90a246539db35989a2e30a6cdf195478853ff4280777d78c521123", func := "copyist/copyistlaw6.LinesGone", spec := "linesGone", unfollowed := true, recurses := true, apart := false, narrowed := true }
def LinesGoneUptoSaid : Prop := linesGoneUptoRow.holds Tryz.pinned (OpenSpec.upto linesGoneSpec)

/-- 'copyistlaw6.LinesTyped', WHERE WHAT IT READS IS OF BULK AT MOST 1048576: true; the input reads as it did. -/
def linesTypedUptoRow : OpenClaim := { program := "ytjomfbegghgbdaagreat", sum := "91ffbd66ee90a246539db35989a2e30a6cdf195478853ff4280777d78c521123", func := "copyist/copyistlaw6.LinesTyped", spec := "linesTyped", unfollowed := true, recurses := true, apart := false, narrowed := true }
def LinesTypedUptoSaid : Prop := linesTypedUptoRow.holds Tryz.pinned (OpenSpec.upto linesTypedSpec)

/-- 'copyistlaw6.LinesWhole', WHERE WHAT IT READS IS OF BULK AT MOST 1048576: true; the input reads as it did. -/
def linesWholeUptoRow : OpenClaim := { program := "ytjomfbegghgbdaagreat", sum := "91ffbd66ee90a246539db35989a2e30a6cdf195478853ff4280777d78c521123", func := "copyist/copyistlaw6.LinesWhole", spec := "linesWhole", unfollowed := true, recurses := true, apart := false, narrowed := true }
def LinesWholeUptoSaid : Prop := linesWholeUptoRow.holds Tryz.pinned (OpenSpec.upto linesWholeSpec)

/-- 'copyistlaw6.LinesScript', WHERE WHAT IT READS IS OF BULK AT MOST 1048576: true; the input reads as it did. -/
def linesScriptUptoRow : OpenClaim := { program := "ytjomfbegghgbdaagreat", sum := "91ffbd66ee90a246539db35989a2e30a6cdf195478853ff4280777d78c521123", func := "copyist/copyistlaw6.LinesScript", spec := "linesScript", unfollowed := true, recurses := true, apart := false, narrowed := true }
def LinesScriptUptoSaid : Prop := linesScriptUptoRow.holds Tryz.pinned (OpenSpec.upto linesScriptSpec)

end Rows
end Go.Proofs.YtjomfbegghgbdaaGreat
