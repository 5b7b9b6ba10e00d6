/- The table motions. -/
import Derived.Test.YtdbmgjkgfmdmjaaDoorKRw1
namespace Go.Proofs.YtdbmgjkgfmdmjaaDoor
open Go.RowKit
/-- The rows of a table, with the blocks of their keys. -/
def xsOf (T : List Rw) (l : List (Nat × Array Value)) : List (Rw × Value) := (T.zip l.reverse).map fun x => (x.1, .slice (some ⟨x.2.1, 0, none⟩) x.2.2.size x.2.2.size)
/-- A list of many rows, written out. -/
theorem wpl_lit {d : Nat} {W : World} {ops : Array Oper} {rest : List Oper} {o : Oper} {a : Act} {Q : Exit → Act → World → Prop} {l : List (Nat × Array Value)} (_ : o.dst = some d) (hgd : o.guard = none) (_ : AccB W l) (T : List Rw) (n : Nat)
    (hr : (execOp a.eval o).run Tryd.prog W = .ok (.value (.slice (some ⟨W.heap.size, 0, none⟩) n n)) (W.alloc (.cells (fr (xsOf T l)).toArray 58)))
    (h : wpList Tryd.prog ops Q rest (a.put o.dst (.slice (some ⟨W.heap.size, 0, none⟩) n n)) (W.alloc (.cells (fr (xsOf T l)).toArray 58))) : wpList Tryd.prog ops Q (o :: rest) a W :=
  wpList_plain hgd fun K hK => by unfold Oper.wp; rw [hr]; exact hK _ _ h
def tMot : List Rw := [
  ⟨⟨1, 1, 0, 0⟩, [104]⟩, ⟨⟨1, 1, 0, 0⟩, [8]⟩, ⟨⟨1, 2, 0, 0⟩, [108]⟩, ⟨⟨1, 2, 0, 0⟩, [32]⟩, ⟨⟨1, 3, 0, 0⟩, [48]⟩, ⟨⟨1, 4, 0, 0⟩, [94]⟩, ⟨⟨1, 5, 0, 0⟩, [36]⟩, ⟨⟨1, 6, 0, 0⟩, [124]⟩, ⟨⟨1, 11, 0, 0⟩, [106]⟩, ⟨⟨1, 12, 0, 0⟩, [107]⟩, ⟨⟨1, 13, 0, 0⟩, [43]⟩, ⟨⟨1, 13, 0, 0⟩, [13]⟩, ⟨⟨1, 14, 0, 0⟩, [45]⟩, ⟨⟨1, 15, 0, 0⟩, [95]⟩, ⟨⟨1, 16, 0, 0⟩, [71]⟩, ⟨⟨1, 17, 0, 0⟩, [103, 103]⟩, ⟨⟨1, 21, 0, 0⟩, [119]⟩, ⟨⟨1, 25, 0, 0⟩, [87]⟩, ⟨⟨1, 22, 0, 0⟩, [98]⟩, ⟨⟨1, 26, 0, 0⟩, [66]⟩, ⟨⟨1, 23, 0, 0⟩, [101]⟩, ⟨⟨1, 27, 0, 0⟩, [69]⟩, ⟨⟨1, 24, 0, 0⟩, [103, 101]⟩, ⟨⟨1, 28, 0, 0⟩, [103, 69]⟩, ⟨⟨1, 31, 0, 0⟩, [125]⟩, ⟨⟨1, 32, 0, 0⟩, [123]⟩, ⟨⟨1, 41, 0, 0⟩, [59]⟩, ⟨⟨1, 42, 0, 0⟩, [44]⟩, ⟨⟨1, 43, 0, 0⟩, [47]⟩, ⟨⟨1, 44, 0, 0⟩, [63]⟩, ⟨⟨1, 45, 0, 0⟩, [110]⟩, ⟨⟨1, 46, 0, 0⟩, [78]⟩, ⟨⟨1, 47, 0, 0⟩, [42]⟩, ⟨⟨1, 48, 0, 0⟩, [35]⟩, ⟨⟨1, 51, 0, 0⟩, [72]⟩, ⟨⟨1, 52, 0, 0⟩, [77]⟩, ⟨⟨1, 53, 0, 0⟩, [76]⟩, ⟨⟨1, 33, 0, 0⟩, [37]⟩, ⟨⟨1, 7, 0, 1⟩, [102]⟩, ⟨⟨1, 8, 0, 1⟩, [70]⟩, ⟨⟨1, 9, 0, 1⟩, [116]⟩, ⟨⟨1, 10, 0, 1⟩, [84]⟩, ⟨⟨1, 49, 0, 1⟩, [96]⟩, ⟨⟨1, 50, 0, 1⟩, [39]⟩]
set_option maxRecDepth 100000 in
set_option maxHeartbeats 4000000 in
theorem motions_any (w : World) : Calls Tryd.prog 64 #[] w fun e w' => ∃ v xs, e = .returned v ∧ OwnW w' w.heap.size v xs ∧ Hid (xs.map Prod.fst = tMot) ∧ Below w.heap.size w w' := by
  have HA := hidIt (AccB.nil w)
  have HB := hidIt (Below.refl w.heap.size w)
  go_enter Tryd.func64, Tryd.ntmps64
  go_wp2_with (first | (go_at_call 83; refine (moves_any _ _ _ _ _).mono ?_; rintro e y ⟨rfl, hb⟩; (try dsimp only); replace HA := hidIt (HA.out.push hb); replace HB := hidIt (ext_trans (ext_alloc HB.out _) hb); clear hb) | (go_at_call 85; refine (does_any _ _ _ _ _).mono ?_; rintro e y ⟨rfl, hb⟩; (try dsimp only); replace HA := hidIt (HA.out.push hb); replace HB := hidIt (ext_trans (ext_alloc HB.out _) hb); clear hb) | (go_at_call 86; refine (takes_any _ _ _ _ _ _).mono ?_; rintro e y ⟨rfl, hb⟩; (try dsimp only); replace HA := hidIt (HA.out.push hb); replace HB := hidIt (ext_trans (ext_alloc HB.out _) hb); clear hb) | (go_at_call 84; refine (before_any _ _ _ _ _ _ _ _ _).mono ?_; rintro e y ⟨rfl, hb⟩; (try dsimp only); replace HA := hidIt (HA.out.ext hb); replace HB := hidIt (ext_trans HB.out hb); clear hb) | (refine wpl_lit (d := 95) rfl rfl HA.out tMot 44 (by kernel_rfl) ?_))
  go_ret
  refine ⟨_, xsOf tMot _, rfl, (OwnW.lit _ rfl (acc_of HA.out _ (by simp) (by kernel_rfl)) (by show 44 ≤ 1000; omega)).le HB.out.size, by unfold Hid; kernel_rfl, ext_alloc HB.out _⟩
end Go.Proofs.YtdbmgjkgfmdmjaaDoor
