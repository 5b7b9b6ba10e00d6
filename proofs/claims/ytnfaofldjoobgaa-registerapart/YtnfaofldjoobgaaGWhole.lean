/- The law's whole. -/
import Derived.Test.YtnfaofldjoobgaaGGrown
namespace Go.Proofs.Ytnfaofldjoobgaa
open Go.RowKit

/-- Lists of the shelf: where they lie, how long they are, their marks. -/
abbrev Sf := Value × Nat × Int
/-- A row of lists of the call's own. -/
def RowL (w : World) (B : Nat) (v : Value) (xs : List Value) : Prop := w.ownsRow B 29 1 v xs.length xs
theorem RowL.ext {w w' : World} {B : Nat} {v : Value} {xs : List Value} (h : RowL w B v xs) (hb : Below w.heap.size w w') : RowL w' B v xs := own_ext h hb
theorem RowL.at {w : World} {B : Nat} {v : Value} {xs : List Value} (h : RowL w B v xs) : ∃ ao c, v = .slice ao xs.length c ∧ xs.length ≤ 9223372036854775807 ∧ ∀ i u, xs[i]? = some u → ∃ g, ao = some ⟨g, 0, none⟩ ∧ w.cell? ⟨g, i, none⟩ = some u := by
  obtain ⟨h1, h2⟩ := h
  rcases h2 with ⟨rfl, h0⟩ | ⟨g, cap, cur, rfl, hb, hg, k1, k2, k3, k4⟩
  · rw [h0]
    have : xs = [] := List.length_eq_zero_iff.1 h0
    subst this
    exact ⟨none, 0, rfl, by simp, fun i u hu => by simp at hu⟩
  · refine ⟨some ⟨g, 0, none⟩, cap, rfl, by unfold maxLen at k2; omega, fun i u hu => ⟨g, rfl, ?_⟩⟩
    have hi := (List.getElem?_eq_some_iff.1 hu).1
    rw [cellOf hg, ← Array.getElem?_toList]
    have := congrArg (fun l => l[i]?) k4
    simp only [Nat.mul_one, List.getElem?_take_of_lt hi] at this
    rw [this, hu]
theorem OwnI.at {w : World} {B : Nat} {v : Value} {zs : List Int} (h : OwnI w B v zs) : ∃ ao c, v = .slice ao zs.length c ∧ ∀ i z, zs[i]? = some z → ∃ g, ao = some ⟨g, 0, none⟩ ∧ w.cell? ⟨g, i, none⟩ = some (.int .i64 z) := by
  obtain ⟨h1, h2⟩ := h
  rcases h2 with ⟨rfl, h0⟩ | ⟨g, cap, cur, rfl, hb, hg, k1, k2, k3, k4⟩
  · rw [h0]
    have : zs = [] := List.length_eq_zero_iff.1 h0
    subst this
    exact ⟨none, 0, rfl, fun i u hu => by simp at hu⟩
  · refine ⟨some ⟨g, 0, none⟩, cap, rfl, fun i u hu => ⟨g, rfl, ?_⟩⟩
    have hi := (List.getElem?_eq_some_iff.1 hu).1
    rw [cellOf hg, ← Array.getElem?_toList]
    have := congrArg (fun l => l[i]?) k4
    simp only [Nat.mul_one, List.getElem?_take_of_lt hi] at this
    rw [this, List.getElem?_map, hu]
    rfl
set_option maxRecDepth 100000 in
set_option maxHeartbeats 4000000 in
theorem whole_any {B : Nat} (w : World) (sv mv : Value) (ss : List Sf) (hs : RowL w B sv (ss.map (·.1))) (hl : ∀ x ∈ ss, OwnI w B x.1 (List.replicate x.2.1 x.2.2)) (hm : OwnI w B mv (ss.map (·.2.2))) (hb : ∀ x ∈ ss, x.2.1 ≤ 1000000) :
    Calls Try.prog 25 #[sv, mv] w fun e w' => e = .returned (.bool true) ∧ Below w.heap.size w w' := by
  have HS := hidIt hs
  have HL := hidIt hl
  have HM := hidIt hm
  have HBD := hidIt hb
  obtain ⟨sa, sc, rfl, hsn, _⟩ := hs.at
  obtain ⟨ma, mc, rfl, _⟩ := hm.at
  clear hs hl hm hb
  have hn1 : (ss.map (·.1)).length = ss.length := by simp
  have hn2 : (ss.map (·.2.2)).length = ss.length := by simp
  have hsn' : (ss.length : Int) ≤ 9223372036854775807 := by omega
  rw [hn1] at HS ⊢
  rw [hn2] at HM ⊢
  clear hn1 hn2 hsn
  go_enter Try.func25, Try.ntmps25
  go_wp2_with fail
  go_loopw [5] (fun i wr => ∃ j : Nat, j ≤ ss.length ∧ i = .int .i64 j ∧ Below w.heap.size w wr) (fun i _ => ss.length - (RowKit.intOf i).toNat)
  case atStart => exact ⟨0, Nat.zero_le _, rfl, Below.refl _ _⟩
  case round =>
    obtain ⟨i, hi, rfl, hbw⟩ := hrel
    have HBW := hidIt hbw
    clear hbw
    by_cases hlt : i < ss.length
    · have hi1 : (i : Int) < (ss.length : Int) := by omega
      obtain ⟨x, hx⟩ : ∃ x, ss[i]? = some x := ⟨_, List.getElem?_eq_getElem hlt⟩
      have hxm := List.mem_of_getElem? hx
      obtain ⟨a, c, ev, hc⟩ := (HL.out x hxm).at
      rw [List.length_replicate] at ev
      obtain ⟨sa', sc', e1, _, hc1⟩ := HS.out.at
      have ea : sa = sa' := by injection e1
      subst ea
      obtain ⟨g, rfl, s1⟩ := hc1 i x.1 (by rw [List.getElem?_map, hx]; rfl)
      obtain ⟨ma', mc', e2, hc2⟩ := HM.out.at
      have eb : ma = ma' := by injection e2
      subst eb
      obtain ⟨mg, rfl, m1⟩ := hc2 i x.2.2 (by rw [List.getElem?_map, hx]; rfl)
      rw [ev] at s1
      have hgl : g < w.heap.size := World.block_lt_of_cell? w ⟨g, i, none⟩ s1
      have hml : mg < w.heap.size := World.block_lt_of_cell? w ⟨mg, i, none⟩ m1
      have S1 := hidIt (fun w' (hb : Below w.heap.size w w') => (hb.cell (p := ⟨g, i, none⟩) hgl).trans s1)
      have M1 := hidIt (fun w' (hb : Below w.heap.size w w') => (hb.cell (p := ⟨mg, i, none⟩) hml).trans m1)
      have HC : Hid (∀ q : Nat, q < x.2.1 → ∃ gx, a = some ⟨gx, 0, none⟩ ∧ ∀ w', Below w.heap.size w w' → w'.cell? ⟨gx, q, none⟩ = some (.int .i64 x.2.2)) := fun q hq => by
        obtain ⟨gx, e, cx⟩ := hc q x.2.2 (by rw [List.getElem?_replicate, if_pos hq])
        exact ⟨gx, e, fun w' hb => (hb.cell (p := ⟨gx, q, none⟩) (World.block_lt_of_cell? w ⟨gx, q, none⟩ cx)).trans cx⟩
      have hxb := HBD.out x hxm
      generalize x.2.1 = n at *
      generalize x.2.2 = m at *
      clear hc hc1 hc2 hx hxm s1 m1 ev HS HL HM hgl hml
      go_wp2_with fail
      go_loopw [6] (fun q wr => ∃ k : Nat, k ≤ n ∧ q = .int .i64 k ∧ Below w.heap.size w wr) (fun q _ => n - (RowKit.intOf q).toNat)
      case atStart => exact ⟨0, Nat.zero_le _, rfl, HBW.out⟩
      case round =>
        obtain ⟨k, hk, rfl, hbk⟩ := hrel
        have HBK := hidIt hbk
        clear hbk
        have s1 := S1.out wr HBK.out
        have m1 := M1.out wr HBK.out
        by_cases hk2 : (k : Int) < (n : Int)
        · obtain ⟨gx, rfl, hcx⟩ := HC.out k (by omega)
          have x1 := hcx wr HBK.out
          clear hcx
          go_upto_region 7 with fail
          go_region
          all_goals
            go_wp2_with fail
            go_roundw
            case rel => exact ⟨k + 1, by omega, by go_num, HBK.out.drew⟩
            case measure => simp [RowKit.intOf]; omega
        · go_wp2_with fail
          go_roundw
          case rel => exact ⟨i + 1, by omega, by go_num, HBK.out⟩
          case measure => simp [RowKit.intOf]; omega
    · have hi1 : ¬ (i : Int) < (ss.length : Int) := by omega
      go_wp2_with fail
      go_ret
      exact ⟨rfl, HBW.out⟩
end Go.Proofs.Ytnfaofldjoobgaa
