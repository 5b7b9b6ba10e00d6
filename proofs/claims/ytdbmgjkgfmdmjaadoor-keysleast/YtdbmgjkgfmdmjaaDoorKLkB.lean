/- hasValue and Look of a trie, at keys.binding. -/
import Derived.Test.YtdbmgjkgfmdmjaaDoorKWlkB
import Derived.Test.YtdbmgjkgfmdmjaaDoorKBase
namespace Go.Proofs.YtdbmgjkgfmdmjaaDoor
open Go.RowKit

set_option maxRecDepth 100000 in
theorem hasB_any (b o : Nat) (T : TypeId) (cs : Array Value) (w : World) (m s : Value) (own : Nat → Prop) (n : Nat) (ns : List (List Int)) (vs : List (Option Bd)) (a : Nat)
    (hb : w.heap[b]? = some (.cells cs T (0, 0))) (hs : cs[o + 1]? = some s) (ht : TeB w own n ns vs m s) (hv : vs.length = ns.length) (hns : ns.length ≤ 2305843009213693952) (ha : a < ns.length ∨ ns = []) (hab : a ≤ 2305843009213693952) :
    Calls Tryd.prog 99 #[.pointer (some ⟨b, o, none⟩), .int .i64 (a : Int)] w fun e w' => e = .returned (.bool ((vs[a]?).join.isSome)) ∧ w = w' := by
  have cm : w.cell? ⟨b, o + 1, none⟩ = some s := by rw [cell_of_row w b (o + 1) cs T (0, 0) hb]; exact hs
  clear hb hs
  rcases ht with ⟨rfl, rfl, rfl, rfl⟩ | ⟨h0, bm, g, c, rfl, rfl, _, _, _, h4⟩
  · have h1 : ¬ ((a : Int) < 0) := by omega
    clear hv hns ha
    go_enter Tryd.func99, Tryd.ntmps99
    go_wp2
    go_ret
    exact ⟨ret_bool (by simp), rfl⟩
  · have hlt : a < ns.length := by
      rcases ha with ha | ha
      · exact ha
      · exact absurd ha h0
    have h1 : (a : Int) < (ns.length : Int) := by omega
    have hc := h4.cell a (by omega) 4 (by omega)
    have hx : vs[a]? = some (vs[a]?.getD none) := by rw [List.getElem?_eq_getElem (by omega)]; rfl
    generalize vs[a]?.getD none = x at hc hx
    rw [hx]
    cases x with
    | none =>
      replace hc : w.cell? ⟨g, a * 5 + 4, none⟩ = some (.bool false) := hc
      clear h4 ha h0 hv hx
      go_enter Tryd.func99, Tryd.ntmps99
      go_wp2
      go_ret
      exact ⟨rfl, rfl⟩
    | some v =>
      replace hc : w.cell? ⟨g, a * 5 + 4, none⟩ = some (.bool true) := hc
      clear h4 ha h0 hv hx
      go_enter Tryd.func99, Tryd.ntmps99
      go_wp2
      go_ret
      exact ⟨rfl, rfl⟩

/-- What Look answers beside what it says. -/
def vlB : Option Bd → Value
  | some v => .agg #[.int .i64 v.v, .int .i64 v.m, .int .i64 v.a, .int .i64 v.t]
  | none => .agg #[.int .i64 0, .int .i64 0, .int .i64 0, .int .i64 0]
set_option maxRecDepth 100000 in
theorem lookB_any (b o : Nat) (T : TypeId) (cs : Array Value) (w : World) (m s : Value) (own : Nat → Prop) (n : Nat) (ns : List (List Int)) (vs : List (Option Bd)) (L : List (List Int × Bd)) (l : Value) (ks : List Int)
    (hb : w.heap[b]? = some (.cells cs T (0, 0))) (hm : cs[o]? = some m) (hs : cs[o + 1]? = some s) (ht : TeB w own n ns vs m s) (hT : Tri ns vs L) (hns : ns.length ≤ 2305843009213693952) (hk : Rd .i64 w l ks) (h64 : ∀ k ∈ ks, In64 k) :
    Calls Tryd.prog 76 #[.pointer (some ⟨b, o, none⟩), l] w fun e w' => e = .returned (.tuple #[vlB (lkV L ks), .int .i64 (lkS L ks)]) ∧ Below w.heap.size w w' := by
  obtain ⟨w0, hw0, k0, hb0⟩ : ∃ w0, w0 = w.alloc (.cells #[.int .i64 0, .int .i64 0, .int .i64 0, .int .i64 0] 56) ∧ w0.heap[w.heap.size]? = some (.cells #[.int .i64 0, .int .i64 0, .int .i64 0, .int .i64 0] 56 (0, 0)) ∧ Below w.heap.size w w0 := ⟨_, rfl, heap_alloc_new _ _, ext_alloc (Below.refl _ _) _⟩
  have HB0 := hidIt hb0
  have HZ : Hid (∀ ob, (w0.alloc ob).heap[w.heap.size]? = some (.cells #[.int .i64 0, .int .i64 0, .int .i64 0, .int .i64 0] 56 (0, 0))) := fun ob => ((ext_alloc (Below.refl _ w0) ob).block _ (Array.getElem?_eq_some_iff.1 k0).1).trans k0
  have hbl : b < w.heap.size := (Array.getElem?_eq_some_iff.1 hb).1
  have hb' : w0.heap[b]? = some (.cells cs T (0, 0)) := (hb0.block _ hbl).trans hb
  have ht' := ht.ext hb0
  have HW := hidIt (walkB_any b o T cs w0 m s own n ns vs l ks hb' hm ht' hns (hk.ext hb0) h64)
  have cm : w0.cell? ⟨b, o + 1, none⟩ = some s := by rw [cell_of_row w0 b (o + 1) cs T (0, 0) hb']; exact hs
  have KZ := hidIt k0
  clear hb hs hm hb' ht k0 hbl hb0
  have hlen := hk.len
  obtain ⟨ao, cap, rfl, hl1, hc1, _⟩ := hk
  by_cases hg : (wk ns 0 0 ks).2 < ks.length
  · obtain ⟨e1, e2⟩ := hT.bad (.inl hg)
    rw [e1, e2]
    have hgi : ((wk ns 0 0 ks).2 : Int) < (ks.length : Int) := by omega
    generalize (wk ns 0 0 ks).1 = a at *
    generalize (wk ns 0 0 ks).2 = q at *
    clear hT h64 ht'
    obtain ⟨_, q0, q1, q2, q3, qf⟩ := cells4 (HZ.out (.cells #[.int .i64 0, .int .i64 0, .int .i64 0, .int .i64 0] 56))
    go_enter Tryd.func76, Tryd.ntmps76
    go_upto_region 1 with fail
    rw [← hw0]
    clear hw0
    go_wp2_with (go_at_call 93; refine HW.out.mono ?_; rintro e w1 ⟨rfl, rfl⟩; (try dsimp only))
    refine bodyPost_ret (v := .tuple #[.agg #[.int .i64 0, .int .i64 0, .int .i64 0, .int .i64 0], .int .i64 2]) (by simp [results, Tryd.results76, go_sem, q0, q1, q2, q3]) rfl ⟨rfl, ?_⟩
    exact below_put (ext_alloc HB0.out _) (ext_alloc HB0.out _).size (put4 (HZ.out _) _ _ _ _).2 (Nat.le_refl _)
  · have hgi : ¬ ((wk ns 0 0 ks).2 : Int) < (ks.length : Int) := by omega
    rcases ht' with ⟨rfl, rfl, rfl, rfl⟩ | ⟨h0, bm, g, c, rfl, rfl, _, _, _, h4⟩
    · obtain ⟨e1, e2⟩ := hT.bad (ks := ks) (.inr rfl)
      rw [e1, e2]
      generalize (wk [] 0 0 ks).1 = a at *
      generalize (wk [] 0 0 ks).2 = q at *
      clear hT h64
      obtain ⟨_, q0, q1, q2, q3, qf⟩ := cells4 (HZ.out (.cells #[.int .i64 0, .int .i64 0, .int .i64 0, .int .i64 0] 56))
      go_enter Tryd.func76, Tryd.ntmps76
      go_upto_region 1 with fail
      rw [← hw0]
      clear hw0
      go_wp2_with (go_at_call 93; refine HW.out.mono ?_; rintro e w1 ⟨rfl, rfl⟩; (try dsimp only))
      refine bodyPost_ret (v := .tuple #[.agg #[.int .i64 0, .int .i64 0, .int .i64 0, .int .i64 0], .int .i64 2]) (by simp [results, Tryd.results76, go_sem, q0, q1, q2, q3]) rfl ⟨rfl, ?_⟩
      exact below_put (ext_alloc HB0.out _) (ext_alloc HB0.out _).size (put4 (HZ.out _) _ _ _ _).2 (Nat.le_refl _)
    · have hge : (wk ns 0 0 ks).2 = ks.length := by
        obtain ⟨q, h1, h2, _⟩ := hT.walk h0 ks
        omega
      obtain ⟨f1, f2⟩ := hT.found hge h0
      have hal := hT.here h0 ks
      have hvl := hT.len
      generalize (wk ns 0 0 ks).1 = a at *
      generalize (wk ns 0 0 ks).2 = q at *
      have h1 : (a : Int) < (ns.length : Int) := by omega
      have hnz : ¬ ((ns.length : Int) = 0) := by omega
      have hnz' : ((ns.length : Int) == 0) = false := by simpa using hnz
      have hc := h4.cell a hal
      have hx : vs[a]? = some (vs[a]?.getD none) := by rw [List.getElem?_eq_getElem hal]; rfl
      generalize vs[a]?.getD none = x at hc hx
      cases x with
      | none =>
        obtain ⟨e1, e2⟩ := f2 hx
        rw [e1, e2]
        replace hc : w0.cell? ⟨g, a * 5 + 4, none⟩ = some (.bool false) := hc 4 (by omega)
        clear h4 h0 hx f1 f2 hT h64 e1 e2 hvl hal hge hnz
        obtain ⟨_, q0, q1, q2, q3, qf⟩ := cells4 (HZ.out (.cells #[.int .i64 0, .int .i64 0, .int .i64 0, .int .i64 0] 56))
        go_enter Tryd.func76, Tryd.ntmps76
        go_upto_region 1 with fail
        rw [← hw0]
        clear hw0
        go_wp2_with (go_at_call 93; refine HW.out.mono ?_; rintro e w1 ⟨rfl, rfl⟩; (try dsimp only))
        refine bodyPost_ret (v := .tuple #[.agg #[.int .i64 0, .int .i64 0, .int .i64 0, .int .i64 0], .int .i64 0]) (by simp [results, Tryd.results76, go_sem, q0, q1, q2, q3]) rfl ⟨rfl, ?_⟩
        exact below_put (ext_alloc HB0.out _) (ext_alloc HB0.out _).size (put4 (HZ.out _) _ _ _ _).2 (Nat.le_refl _)
      | some v =>
        obtain ⟨e1, e2⟩ := f1 v hx
        rw [e1, e2]
        have hcb : w0.cell? ⟨g, a * 5 + 4, none⟩ = some (.bool true) := hc 4 (by omega)
        have c0 : w0.cell? ⟨g, a * 5, none⟩ = some (.int .i64 v.v) := by have := hc 0 (by omega); simpa [pcB] using this
        have c1 : w0.cell? ⟨g, a * 5 + 1, none⟩ = some (.int .i64 v.m) := by have := hc 1 (by omega); simpa [pcB] using this
        have c2 : w0.cell? ⟨g, a * 5 + 2, none⟩ = some (.int .i64 v.a) := by have := hc 2 (by omega); simpa [pcB] using this
        have c3 : w0.cell? ⟨g, a * 5 + 3, none⟩ = some (.int .i64 v.t) := by have := hc 3 (by omega); simpa [pcB] using this
        clear h4 h0 hx f1 f2 hT h64 e1 e2 hvl hal hc hge hnz
        obtain ⟨_, q0, q1, q2, q3, qf⟩ := cells4 KZ.out
        go_enter Tryd.func76, Tryd.ntmps76
        go_upto_region 1 with fail
        rw [← hw0]
        clear hw0
        go_wp2_with (go_at_call 93; refine HW.out.mono ?_; rintro e w1 ⟨rfl, rfl⟩; (try dsimp only))
        refine bodyPost_ret (v := .tuple #[.agg #[.int .i64 v.v, .int .i64 v.m, .int .i64 v.a, .int .i64 v.t], .int .i64 1]) (by simp [results, Tryd.results76, go_sem, q0, q1, q2, q3]) rfl ⟨rfl, ?_⟩
        exact below_put HB0.out HB0.out.size (put4 KZ.out _ _ _ _).2 (Nat.le_refl _)
end Go.Proofs.YtdbmgjkgfmdmjaaDoor
