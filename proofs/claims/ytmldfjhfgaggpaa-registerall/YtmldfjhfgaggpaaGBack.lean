/- The law's back. -/
import Derived.Test.YtmldfjhfgaggpaaGHand
namespace Go.Proofs.Ytmldfjhfgaggpaa
open Go.RowKit
variable {F : Nat → Prop}

/-- The atoms of a list that was handed in are read. -/
theorem Lst.rds {w : World} {lb : Nat} {t : List Int} (h : Lst w lb t) (hl : t.length * 8 ≤ 140737488351232) : RdS w (.slice (some ⟨lb, 0, none⟩) t.length (t.length + 100)) t := by
  obtain ⟨cur, h1, h2, h3⟩ := h
  refine ⟨⟨some ⟨lb, 0, none⟩, t.length + 100, rfl, by omega, by unfold maxLen; omega, fun hn => ⟨lb, 0, rfl, (Array.getElem?_eq_some_iff.1 h1).1, fun i hi => ?_⟩⟩, .inr ⟨_, _, _, rfl⟩⟩
  rw [cellOf h1, Nat.zero_add, h3 i (by omega), mk_low t hi]
theorem Lst.ext {w w' : World} {lb : Nat} {t : List Int} (h : Lst w lb t) (e : w'.heap[lb]? = w.heap[lb]?) : Lst w' lb t := by
  obtain ⟨cur, h1, h2⟩ := h
  exact ⟨cur, e.trans h1, h2⟩
/-- What back leaves: the row, turned, as long as it was. -/
def BkR (w : World) (lb : Nat) (w' : World) : Prop := ∃ cs cs' : Array Value, w.heap[lb]? = some (.cells cs 3 (0, 0)) ∧ w'.heap[lb]? = some (.cells cs' 3 (0, 0)) ∧ cs'.size = cs.size ∧ w.grownBy w' (some lb)
set_option maxRecDepth 100000 in
set_option maxHeartbeats 4000000 in
theorem back_any (w : World) (lb : Nat) (v : Value) (t : List Int) (hL : Lst w lb t) (hv : RdS w v t) (hl : t.length * 8 ≤ 140737488351232) :
    Calls Try.prog 65 #[.slice (some ⟨lb, 0, none⟩) (t.length + 100) (t.length + 100), v] w fun e w' => e = .returned (.bool true) ∧ BkR w lb w' := by
  obtain ⟨ao, c, rfl, _⟩ := hv.len
  have SI := hidIt (sameInts_any _ _ t w (hL.rds hl).1 hv.1)
  obtain ⟨n, hn⟩ : ∃ n : Nat, n = t.length + 100 := ⟨_, rfl⟩
  have HN := hidIt hn
  have hnb : (n : Int) ≤ 100000000000000000 := by omega
  have hnl : (t.length : Int) ≤ (n : Int) := by omega
  rw [← hn] at SI ⊢
  obtain ⟨cur, k1, k2, k3⟩ := hL
  have K1 := hidIt k1
  have K2 := hidIt k2
  have K3 := hidIt k3
  clear hv hl hn k1 k2 k3
  go_enter Try.func65, Try.ntmps65
  go_wp2_with (go_at_call 26; refine SI.out.mono ?_; rintro e w2 ⟨rfl, hb2⟩; have HB2 := hidIt hb2; clear hb2; (try dsimp only))
  go_loopw [6, 7] (fun ok i wr => ok = .bool true ∧ ∃ j : Nat, j ≤ n ∧ i = .int .i64 j ∧ Hid (∃ cu : Array Value, wr.heap[lb]? = some (.cells cu 3 (0, 0)) ∧ cu.size = cur.size ∧ (∀ k, j ≤ k → k < n → cu[k]? = some (.int .i64 (mk t k))) ∧ w.grownBy wr (some lb))) (fun _ i _ => n - (RowKit.intOf i).toNat)
  case atStart => exact ⟨rfl, 0, Nat.zero_le _, rfl, cur, (HB2.out.block lb (Array.getElem?_eq_some_iff.1 K1.out).1).trans K1.out, rfl, fun k _ hk => K3.out k (by have := HN.out; omega), ⟨HB2.out.os, HB2.out.tape, HB2.out.output, HB2.out.size, fun k hk _ => HB2.out.block k hk⟩⟩
  case round =>
    obtain ⟨rfl, j, hj, rfl, hcu⟩ := hrel
    have HCU := hidIt hcu.out
    clear hcu
    by_cases hlt : (j : Int) < (n : Int)
    · obtain ⟨cu, k1, k2, k3, k4⟩ := HCU.out
      have c1 : wr.cell? ⟨lb, j, none⟩ = some (.int .i64 (mk t j)) := (cellOf k1 j).trans (k3 j (Nat.le_refl _) (by omega))
      have fr := frozOf k1 j
      have HS := hidIt (set1 k1 j (.int .i64 (-5)))
      have K2 := hidIt k2
      have K3 := hidIt k3
      have K4 := hidIt k4
      clear k1 k2 k3 k4 HCU
      by_cases hjl : (j : Int) < (t.length : Int)
      · skip
        go_wp2_with fail
        go_roundw
        case rel =>
          refine ⟨rfl, j + 1, by omega, by go_num, _, HS.out.1, by simp [K2.out], fun k hk hkn => ?_, grown_trans K4.out HS.out.2⟩
          rw [Array.getElem?_setIfInBounds_ne (by omega)]
          exact K3.out k (by omega) hkn
        case measure => simp [RowKit.intOf]; omega
      · have hw7 : IntKind.i64.wrap (771 + (j : Int)) = 771 + (j : Int) := by rw [IntKind.wrap_i64]; omega
        rw [mk_high t (by omega)] at c1
        go_wp2_with fail
        go_roundw
        case rel =>
          refine ⟨rfl, j + 1, by omega, by go_num, _, HS.out.1, by simp [K2.out], fun k hk hkn => ?_, grown_trans K4.out HS.out.2⟩
          rw [Array.getElem?_setIfInBounds_ne (by omega)]
          exact K3.out k (by omega) hkn
        case measure => simp [RowKit.intOf]; omega
    · go_wp2_with fail
      go_ret
      obtain ⟨cu, k1, k2, k3, k4⟩ := HCU.out
      exact ⟨rfl, cur, cu, K1.out, k1, k2, k4⟩
end Go.Proofs.Ytmldfjhfgaggpaa
