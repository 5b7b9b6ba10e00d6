/- walk and hasValue of a trie, at keys.binding. -/
import Derived.Test.YtdbmgjkgfmdmjaaDoorKPlcB
namespace Go.Proofs.YtdbmgjkgfmdmjaaDoor
open Go.RowKit
theorem sv_noneB : sv none = .tuple #[.int .i64 0, .bool false] := rfl
theorem sv_someB (j : Nat) : sv (some j) = .tuple #[.int .i64 (j : Int), .bool true] := rfl

set_option maxRecDepth 100000 in
theorem walkB_any (b o : Nat) (T : TypeId) (cs : Array Value) (w : World) (m s : Value) (own : Nat → Prop) (n : Nat) (ns : List (List Int)) (vs : List (Option Bd)) (l : Value) (ks : List Int)
    (hb : w.heap[b]? = some (.cells cs T (0, 0))) (hm : cs[o]? = some m) (ht : TeB w own n ns vs m s) (hns : ns.length ≤ 2305843009213693952) (hk : Rd .i64 w l ks) (h64 : ∀ k ∈ ks, In64 k) :
    Calls Tryd.prog 93 #[.pointer (some ⟨b, o, none⟩), l] w fun e w' => e = .returned (.tuple #[.int .i64 ((wk ns 0 0 ks).1 : Nat), .int .i64 ((wk ns 0 0 ks).2 : Nat)]) ∧ w = w' := by
  have hlen := hk.len
  obtain ⟨ao, cap, rfl, hl1, hc1, h1⟩ := hk
  have hL := hidIt ht.look
  obtain ⟨_, _, _, mo, hmo⟩ := ht.form
  have cm : w.cell? ⟨b, o, none⟩ = some m := by rw [cell_of_row w b o cs T (0, 0) hb]; exact hm
  subst hmo
  clear ht hb hm
  have hb64 := hidIt h64
  have h1 := hidIt h1
  have HNS := hidIt hns
  clear h64 hns
  generalize hR : wk ns 0 0 ks = R
  have HR := hidIt hR
  clear hR
  obtain ⟨R1, R2⟩ := R
  dsimp only
  go_enter Tryd.func93, Tryd.ntmps93
  go_wp2
  go_loopw [4, 5, 12] (fun a g i wr => ∃ p q : Nat, p ≤ ks.length ∧ a = .int .i64 q ∧ g = .int .i64 p ∧ i = .int .i64 p ∧ w = wr ∧ Hid (wk ns q p (ks.drop p) = (R1, R2) ∧ q ≤ 2305843009213693952)) (fun _ _ i _ => ks.length - (RowKit.intOf i).toNat)
  case atStart => exact ⟨0, 0, Nat.zero_le _, rfl, rfl, rfl, rfl, HR.out, by omega⟩
  case round =>
    obtain ⟨p, q, hp, rfl, rfl, rfl, rfl, HK⟩ := hrel
    by_cases hlt : p < ks.length
    · obtain ⟨bb, off, rfl, hbb, hcl⟩ := h1.out (by intro e; rw [e] at hlt; simp at hlt)
      have c1 := hcl _ hlt
      have hi1 : (p : Int) < (ks.length : Int) := by omega
      have e1 : ks[p]?.getD 0 = ks[p] := by simp [hlt]
      have e2 : ks.drop p = ks[p] :: ks.drop (p + 1) := List.drop_eq_getElem_cons hlt
      rw [e1] at c1
      have HX := hidIt (hb64.out ks[p] (List.getElem_mem hlt))
      have HKK := hidIt (show wk ns q p (ks[p] :: ks.drop (p + 1)) = (R1, R2) by rw [← e2]; exact HK.out.1)
      have HQ := hidIt HK.out.2
      clear e1 e2 HK hcl
      generalize ks[p] = x at *
      have hlk := hL.out q x (by have := HQ.out; omega) HX.out
      cases hs : stp ns q x with
      | none =>
        have HF := hidIt (show (q, p) = (R1, R2) by have := HKK.out; simpa [wk, hs] using this)
        rw [hs] at hlk
        rw [sv_noneB] at hlk
        clear hs HKK
        go_wp2
        go_ret2
        cases HF.out
        exact ⟨rfl, rfl⟩
      | some j =>
        have HF := hidIt (show wk ns j (p + 1) (ks.drop (p + 1)) = (R1, R2) by have := HKK.out; simpa [wk, hs] using this)
        have hj := hidIt (stp_lt hs)
        rw [hs] at hlk
        rw [sv_someB] at hlk
        clear hs HKK
        go_wp2
        go_roundw
        case rel => exact ⟨p + 1, j, by omega, rfl, by go_num, by go_num, trivial, HF.out, by have := hj.out; have := HNS.out; omega⟩
        case measure => simp [RowKit.intOf]; omega
    · have HF := hidIt (show (q, p) = (R1, R2) by have := HK.out.1; rw [List.drop_eq_nil_of_le (by omega)] at this; simpa [wk] using this)
      clear HK
      go_wp2
      go_ret2
      cases HF.out
      exact ⟨rfl, rfl⟩
end Go.Proofs.YtdbmgjkgfmdmjaaDoor
