/- hasValue and Look of a trie, at int. -/
import Derived.Test.YtdfmpnnenjnllaaKWlkI
import Derived.Test.YtdfmpnnenjnllaaKBase
namespace Go.Proofs.Ytdfmpnnenjnllaa
open Go.RowKit

set_option maxRecDepth 100000 in
theorem hasI_any (b o : Nat) (T : TypeId) (cs : Array Value) (w : World) (m s : Value) (own : Nat → Prop) (n : Nat) (ns : List (List Int)) (vs : List (Option Int)) (a : Nat)
    (hb : w.heap[b]? = some (.cells cs T (0, 0))) (hs : cs[o + 1]? = some s) (ht : TeI w own n ns vs m s) (hv : vs.length = ns.length) (hns : ns.length ≤ 2305843009213693952) (ha : a < ns.length ∨ ns = []) (hab : a ≤ 2305843009213693952) :
    Calls Try.prog 20 #[.pointer (some ⟨b, o, none⟩), .int .i64 (a : Int)] w fun e w' => e = .returned (.bool ((vs[a]?).join.isSome)) ∧ w = w' := by
  have cm : w.cell? ⟨b, o + 1, none⟩ = some s := by rw [cell_of_row w b (o + 1) cs T (0, 0) hb]; exact hs
  clear hb hs
  rcases ht with ⟨rfl, rfl, rfl, rfl⟩ | ⟨h0, bm, g, c, rfl, rfl, _, _, _, h4⟩
  · have h1 : ¬ ((a : Int) < 0) := by omega
    clear hv hns ha
    go_enter Try.func20, Try.ntmps20
    go_wp2
    go_ret
    exact ⟨ret_bool (by simp), rfl⟩
  · have hlt : a < ns.length := by
      rcases ha with ha | ha
      · exact ha
      · exact absurd ha h0
    have h1 : (a : Int) < (ns.length : Int) := by omega
    have hc := h4.cell a (by omega) 1 (by omega)
    have hx : vs[a]? = some (vs[a]?.getD none) := by rw [List.getElem?_eq_getElem (by omega)]; rfl
    generalize vs[a]?.getD none = x at hc hx
    rw [hx]
    cases x with
    | none =>
      replace hc : w.cell? ⟨g, a * 2 + 1, none⟩ = some (.bool false) := hc
      clear h4 ha h0 hv hx
      go_enter Try.func20, Try.ntmps20
      go_wp2
      go_ret
      exact ⟨rfl, rfl⟩
    | some v =>
      replace hc : w.cell? ⟨g, a * 2 + 1, none⟩ = some (.bool true) := hc
      clear h4 ha h0 hv hx
      go_enter Try.func20, Try.ntmps20
      go_wp2
      go_ret
      exact ⟨rfl, rfl⟩

/-- What Look answers beside what it says. -/
def vlI : Option Int → Value
  | some v => .int .i64 v
  | none => .int .i64 0
set_option maxRecDepth 100000 in
theorem lookI_any (b o : Nat) (T : TypeId) (cs : Array Value) (w : World) (m s : Value) (own : Nat → Prop) (n : Nat) (ns : List (List Int)) (vs : List (Option Int)) (L : List (List Int × Int)) (l : Value) (ks : List Int)
    (hb : w.heap[b]? = some (.cells cs T (0, 0))) (hm : cs[o]? = some m) (hs : cs[o + 1]? = some s) (ht : TeI w own n ns vs m s) (hT : Tri ns vs L) (hns : ns.length ≤ 2305843009213693952) (hk : Rd .i64 w l ks) (h64 : ∀ k ∈ ks, In64 k) :
    Calls Try.prog 12 #[.pointer (some ⟨b, o, none⟩), l] w fun e w' => e = .returned (.tuple #[vlI (lkV L ks), .int .i64 (lkS L ks)]) ∧ w = w' := by
  have HW := hidIt (walkI_any b o T cs w m s own n ns vs l ks hb hm ht hns hk h64)
  have cm : w.cell? ⟨b, o + 1, none⟩ = some s := by rw [cell_of_row w b (o + 1) cs T (0, 0) hb]; exact hs
  clear hb hs hm
  have hlen := hk.len
  obtain ⟨ao, cap, rfl, hl1, hc1, _⟩ := hk
  by_cases hg : (wk ns 0 0 ks).2 < ks.length
  · obtain ⟨e1, e2⟩ := hT.bad (.inl hg)
    rw [e1, e2]
    have hgi : ((wk ns 0 0 ks).2 : Int) < (ks.length : Int) := by omega
    generalize (wk ns 0 0 ks).1 = a at *
    generalize (wk ns 0 0 ks).2 = q at *
    clear hT h64 ht
    go_enter Try.func12, Try.ntmps12
    go_wp2_with (go_at_call 19; refine HW.out.mono ?_; rintro e w1 ⟨rfl, rfl⟩; (try dsimp only))
    go_ret2
    exact ⟨rfl, rfl⟩
  · have hgi : ¬ ((wk ns 0 0 ks).2 : Int) < (ks.length : Int) := by omega
    rcases ht with ⟨rfl, rfl, rfl, rfl⟩ | ⟨h0, bm, g, c, rfl, rfl, _, _, _, h4⟩
    · obtain ⟨e1, e2⟩ := hT.bad (ks := ks) (.inr rfl)
      rw [e1, e2]
      generalize (wk [] 0 0 ks).1 = a at *
      generalize (wk [] 0 0 ks).2 = q at *
      clear hT h64
      go_enter Try.func12, Try.ntmps12
      go_wp2_with (go_at_call 19; refine HW.out.mono ?_; rintro e w1 ⟨rfl, rfl⟩; (try dsimp only))
      go_ret2
      exact ⟨rfl, rfl⟩
    · have hge : (wk ns 0 0 ks).2 = ks.length := by
        obtain ⟨q, h1, h2, _⟩ := hT.walk h0 ks
        omega
      obtain ⟨f1, f2⟩ := hT.found hge h0
      have hal := hT.here h0 ks
      have hvl := hT.len
      generalize (wk ns 0 0 ks).1 = a at *
      generalize (wk ns 0 0 ks).2 = q at *
      have h1 : (a : Int) < (ns.length : Int) := by omega
      have hnz : ¬ ((ns.length : Int) = 0) := by omega
      have hnz' : ((ns.length : Int) == 0) = false := by simpa using hnz
      have hc := h4.cell a hal
      have hx : vs[a]? = some (vs[a]?.getD none) := by rw [List.getElem?_eq_getElem hal]; rfl
      generalize vs[a]?.getD none = x at hc hx
      cases x with
      | none =>
        obtain ⟨e1, e2⟩ := f2 hx
        rw [e1, e2]
        replace hc : w.cell? ⟨g, a * 2 + 1, none⟩ = some (.bool false) := hc 1 (by omega)
        clear h4 h0 hx f1 f2 hT h64 e1 e2 hvl hal hge hnz
        go_enter Try.func12, Try.ntmps12
        go_wp2_with (go_at_call 19; refine HW.out.mono ?_; rintro e w1 ⟨rfl, rfl⟩; (try dsimp only))
        go_ret2
        exact ⟨rfl, rfl⟩
      | some v =>
        obtain ⟨e1, e2⟩ := f1 v hx
        rw [e1, e2]
        have hcb : w.cell? ⟨g, a * 2 + 1, none⟩ = some (.bool true) := hc 1 (by omega)
        have c0 : w.cell? ⟨g, a * 2, none⟩ = some (.int .i64 v) := by have := hc 0 (by omega); simpa [pcI] using this
        clear h4 h0 hx f1 f2 hT h64 e1 e2 hvl hal hc hge hnz
        go_enter Try.func12, Try.ntmps12
        go_wp2_with (go_at_call 19; refine HW.out.mono ?_; rintro e w1 ⟨rfl, rfl⟩; (try dsimp only))
        go_ret2
        exact ⟨rfl, rfl⟩
end Go.Proofs.Ytdfmpnnenjnllaa
