/- Feed: what its walks share. -/
import Derived.Test.YtmfbobibpebfnaaStream1
namespace Go.Proofs.Ytmfbobibpebfnaa
open Go.RowKit Go.Lib

theorem own_mono {w : World} {base base' : Nat} {e : TypeId} {size n : Nat} {v : Value} {xs : List Value} (h : w.ownsRow base e size v n xs) (hb : base' ≤ base) : w.ownsRow base' e size v n xs := by
  obtain ⟨h1, h2⟩ := h
  refine ⟨h1, ?_⟩
  rcases h2 with h2 | ⟨g, cap, cur, h3, h4, h5⟩
  · exact .inl h2
  · exact .inr ⟨g, cap, cur, h3, by omega, h5⟩
theorem own_grown {w w' : World} {base k : Nat} {e : TypeId} {size n : Nat} {v : Value} {xs : List Value} (h : w.ownsRow base e size v n xs) (hb : w.grownBy w' (some k)) (hk : k < base) : w'.ownsRow base e size v n xs := by
  obtain ⟨h1, h2⟩ := h
  refine ⟨h1, ?_⟩
  rcases h2 with h2 | ⟨g, cap, cur, h3, h4, h5, h6⟩
  · exact .inl h2
  · exact .inr ⟨g, cap, cur, h3, h4, by rw [hb.block g (Array.getElem?_eq_some_iff.1 h5).1 (by intro e; cases e; omega)]; exact h5, h6⟩

theorem wt1_any (v : Value) (zs : List Int) (w : World) (h : Rd .u8 w v zs) (hb : Byt zs) (hn : zs ≠ []) : Calls Try.prog 57 #[.agg #[], v] w fun e w' => e = .returned (.bool (Cx.wt 1 zs)) ∧ Below w.heap.size w w' := nwaits_any v zs w h hb hn

theorem wt2_any (v : Value) (zs : List Int) (w : World) (h : Rd .u8 w v zs) (hb : Byt zs) (hn : zs ≠ []) : Calls Try.prog 67 #[.agg #[.int .i64 0], v] w fun e w' => e = .returned (.bool (Cx.wt 2 zs)) ∧ Below w.heap.size w w' := wwaits_any 0 v zs w h hb (.inl rfl) hn

theorem wt3_any (v : Value) (zs : List Int) (w : World) (h : Rd .u8 w v zs) (hb : Byt zs) (hn : zs ≠ []) : Calls Try.prog 67 #[.agg #[.int .i64 1], v] w fun e w' => e = .returned (.bool (Cx.wt 3 zs)) ∧ Below w.heap.size w w' := wwaits_any 1 v zs w h hb (.inr rfl) hn

theorem wt4_any (v : Value) (zs : List Int) (w : World) (_h : Rd .u8 w v zs) (_hb : Byt zs) (_hn : zs ≠ []) : Calls Try.prog 78 #[.agg #[], v] w fun e w' => e = .returned (.bool (Cx.wt 4 zs)) ∧ Below w.heap.size w w' := lwaits_any v w
end Go.Proofs.Ytmfbobibpebfnaa
