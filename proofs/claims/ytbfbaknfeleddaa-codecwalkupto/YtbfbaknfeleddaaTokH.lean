/- Next and Prev: of the code. -/
import Derived.Test.YtbfbaknfeleddaaDecode2
import Derived.Test.YtbfbaknfeleddaaDec5
namespace Go.Proofs.Ytbfbaknfeleddaa
open Go.RowKit

theorem m_last1 (w : World) : (method 239 99 (.agg #[]) "copyist/codec.last").run Try.prog w = .ok (114, .agg #[]) w := by kernel_rfl
theorem m_last2 (k : Int) (w : World) : (method 239 101 (.agg #[.int .i64 k]) "copyist/codec.last").run Try.prog w = .ok (124, .agg #[.int .i64 k]) w := by kernel_rfl
theorem m_last4 (w : World) : (method 239 102 (.agg #[]) "copyist/codec.last").run Try.prog w = .ok (136, .agg #[]) w := by kernel_rfl
theorem n_first1 (w : World) : (nilAhead 239 99 (.agg #[]) "copyist/codec.first").run Try.prog w = .ok (some false) w := by kernel_rfl
theorem n_first2 (k : Int) (w : World) : (nilAhead 239 101 (.agg #[.int .i64 k]) "copyist/codec.first").run Try.prog w = .ok (some false) w := by kernel_rfl
theorem n_first4 (w : World) : (nilAhead 239 102 (.agg #[]) "copyist/codec.first").run Try.prog w = .ok (some false) w := by kernel_rfl
theorem n_last1 (w : World) : (nilAhead 239 99 (.agg #[]) "copyist/codec.last").run Try.prog w = .ok (some false) w := by kernel_rfl
theorem n_last2 (k : Int) (w : World) : (nilAhead 239 101 (.agg #[.int .i64 k]) "copyist/codec.last").run Try.prog w = .ok (some false) w := by kernel_rfl
theorem n_last4 (w : World) : (nilAhead 239 102 (.agg #[]) "copyist/codec.last").run Try.prog w = .ok (some false) w := by kernel_rfl

def Cx.nx (enc : Int) (zs : List Int) (a : Int) : Int × Int := if Cx.known enc = true ∧ 0 ≤ a ∧ a < zs.length then Cx.fst enc (zs.drop a.toNat) else (0, 0)
def Cx.pv (enc : Int) (zs : List Int) (a : Int) : Int × Int := if Cx.known enc = true ∧ 0 < a ∧ a ≤ zs.length then Cx.lst enc (zs.take a.toNat) else (0, 0)

theorem lst1_any (v : Value) (zs : List Int) (w : World) (h : Rd .u8 w v zs) (hb : Byt zs) (hn : zs ≠ []) :
    Calls Try.prog 114 #[.agg #[], v] w fun e w' => e = .returned (.tuple #[.int .i64 (Cx.lst 1 zs).1, .int .i64 (Cx.lst 1 zs).2]) ∧ Below w.heap.size w w' := by
  rw [show Cx.lst 1 zs = Cx.lst8 zs by unfold Cx.lst; rw [if_pos rfl]]
  exact last8_any v zs w h hb hn
theorem lst2_any (v : Value) (zs : List Int) (w : World) (h : Rd .u8 w v zs) (hb : Byt zs) (hn : zs ≠ []) :
    Calls Try.prog 124 #[.agg #[.int .i64 0], v] w fun e w' => e = .returned (.tuple #[.int .i64 (Cx.lst 2 zs).1, .int .i64 (Cx.lst 2 zs).2]) ∧ Below w.heap.size w w' := by
  rw [show Cx.lst 2 zs = Cx.lst16 0 zs by unfold Cx.lst; rw [if_neg (by decide), if_pos rfl]]
  exact last16_any 0 v zs w h hb (.inl rfl) hn
theorem lst3_any (v : Value) (zs : List Int) (w : World) (h : Rd .u8 w v zs) (hb : Byt zs) (hn : zs ≠ []) :
    Calls Try.prog 124 #[.agg #[.int .i64 1], v] w fun e w' => e = .returned (.tuple #[.int .i64 (Cx.lst 3 zs).1, .int .i64 (Cx.lst 3 zs).2]) ∧ Below w.heap.size w w' := by
  rw [show Cx.lst 3 zs = Cx.lst16 1 zs by unfold Cx.lst; rw [if_neg (by decide), if_neg (by decide), if_pos rfl]]
  exact last16_any 1 v zs w h hb (.inr rfl) hn
theorem lst4_any (v : Value) (zs : List Int) (w : World) (h : Rd .u8 w v zs) (hb : Byt zs) (hn : zs ≠ []) :
    Calls Try.prog 136 #[.agg #[], v] w fun e w' => e = .returned (.tuple #[.int .i64 (Cx.lst 4 zs).1, .int .i64 (Cx.lst 4 zs).2]) ∧ Below w.heap.size w w' := by
  rw [show Cx.lst 4 zs = (Cx.lb zs, 1) by unfold Cx.lst; rw [if_neg (by decide), if_neg (by decide), if_neg (by decide)]]
  exact last4_any v zs w h hb hn
end Go.Proofs.Ytbfbaknfeleddaa
