/- hold. -/
import Derived.Test.YtahjjpleceppaaaKept1
namespace Go.Proofs.Ytahjjpleceppaaa
open Go.RowKit

theorem grown_trans {a b c : World} {r : Option Nat} (h : a.grownBy b r) (k : b.grownBy c r) : a.grownBy c r :=
  ⟨k.os.trans h.os, k.tape.trans h.tape, k.output.trans h.output, Nat.le_trans h.size k.size, fun i hi hn => (k.block i (Nat.lt_of_lt_of_le hi h.size) hn).trans (h.block i hi hn)⟩
theorem grown_alloc {a b : World} {r : Option Nat} (h : a.grownBy b r) (o : Obj) : a.grownBy (b.alloc o) r :=
  ⟨h.os, h.tape, h.output, Nat.le_trans h.size (by simp), fun i hi hn => (heap_alloc_old b o (Nat.lt_of_lt_of_le hi h.size)).trans (h.block i hi hn)⟩
theorem grown_above {a b c : World} {r q : Option Nat} (h : a.grownBy b r) (k : b.grownBy c q) (hq : ∀ g, q = some g → a.heap.size ≤ g) : a.grownBy c r :=
  ⟨k.os.trans h.os, k.tape.trans h.tape, k.output.trans h.output, Nat.le_trans h.size k.size, fun i hi hn => (k.block i (Nat.lt_of_lt_of_le hi h.size) (fun e => by have := hq i e.symm; omega)).trans (h.block i hi hn)⟩
theorem grown_set {w wr : World} {g k : Nat} (hg : w.grownBy wr (some g)) (u : Value) : w.grownBy (wr.setCell ⟨g, k, none⟩ u) (some g) :=
  ⟨hg.os, hg.tape, hg.output, by have := hg.size; simpa using this, fun i hi hne => by
    rw [heap_setCell_other wr ⟨g, k, none⟩ i u (fun e => hne (by simp [e]))]
    exact hg.block i hi hne⟩

/-- What goes on behind a held list: in its own block, or in a new one. -/
def MoreOk (w : World) (base : Nat) (g cap : Nat) (mk : Int) (more : Value) : Prop :=
  (∃ n, more = .slice (some ⟨g, 0, none⟩) n cap ∧ n ≤ cap) ∨ (∃ n, w.ownsRow base 3 1 more n (List.replicate n (.int .i64 mk)))

theorem own_full {w : World} {base : Nat} {e : TypeId} {g n cap : Nat} {xs : List Value} (h : w.ownsRow base e 1 (.slice (some ⟨g, 0, none⟩) n cap) n xs) :
    ∃ cur : List Value, cur.length = cap ∧ w.ownsRow base e 1 (.slice (some ⟨g, 0, none⟩) cap cap) cap cur := by
  obtain ⟨h1, h2⟩ := h
  rcases h2 with ⟨hv, _⟩ | ⟨g', cap', cur, hv, hb, hg, hn, hc, hs, ht⟩
  · cases hv
  · cases hv
    simp only [Nat.mul_one] at hs ht
    refine ⟨cur.toList, by simpa using hs, by simp [hs], .inr ⟨g, cap, cur, rfl, hb, hg, Nat.le_refl _, hc, by simpa using hs, ?_⟩⟩
    rw [List.take_of_length_le (by simp [hs])]
theorem rep_step (cur : List Value) (k cap : Nat) (x : Value) (hc : cur.length = cap) (hk : k < cap) :
    (List.replicate k x ++ cur.drop k).set k x = List.replicate (k + 1) x ++ cur.drop (k + 1) := by
  rw [List.drop_eq_getElem_cons (show k < cur.length by omega), set_mid _ _ _ _ k (by simp), ← List.replicate_succ']

set_option maxRecDepth 100000 in
set_option maxHeartbeats 2000000 in
theorem hold_any (v : Value) (L : List Int) (mk : Int) (B : Nat) (w : World) (hO : Own w B v L) (hL : 0 < L.length) (hz : (L.length + 100) * 8 ≤ 140737488355328) :
    Calls Try.prog 34 #[v, .int .i64 mk] w fun e w' => ∃ g cap more, v = .slice (some ⟨g, 0, none⟩) L.length cap ∧ B ≤ g ∧ e = .returned (.agg #[.slice (some ⟨g, 0, none⟩) cap cap, more, .int .i64 mk]) ∧ AR w' g cap mk ∧ cap ≤ maxLen ∧ MoreOk w' w.heap.size g cap mk more ∧ w.grownBy w' (some g) := by
  obtain ⟨i0, hi, hz0, hz1, hz2⟩ := info_parts Try.info_i64
  obtain ⟨g, cap, rfl, hBg, hgl, hnc, hcm⟩ := hO.at hL
  have hcm' : cap ≤ maxLen := hcm
  unfold Own at hO
  obtain ⟨cur, hcl, hfull⟩ := own_full hO
  generalize L.length = n at *
  clear hO
  obtain ⟨w0, hw0⟩ : ∃ x, x = w.alloc (.cells #[.slice none 0 0, .slice none 0 0, .int .i64 0] 39) := ⟨_, rfl⟩
  have hs0 : w0.heap.size = w.heap.size + 1 := by rw [hw0]; simp
  have hfull0 : w0.ownsRow B 3 1 (.slice (some ⟨g, 0, none⟩) cap cap) cap cur := by rw [hw0]; exact hfull.alloc _
  have HW0 : Hid (w.grownBy w0 (some g)) := by unfold Hid; rw [hw0]; exact grown_alloc (World.grownBy.refl _ _) _
  have hcell0 : w0.heap[w.heap.size]? = some (.cells #[.slice none 0 0, .slice none 0 0, .int .i64 0] 39) := by rw [hw0]; exact heap_alloc_new w _
  have HC0 : Hid (w0.heap[w.heap.size]? = some (.cells #[.slice none 0 0, .slice none 0 0, .int .i64 0] 39)) := hcell0
  have HF0 : Hid (w0.ownsRow B 3 1 (.slice (some ⟨g, 0, none⟩) cap cap) cap cur) := hfull0
  have HS0 : Hid (w0.heap.size = w.heap.size + 1) := hs0
  have HG : Hid (g < w.heap.size) := hgl
  clear hfull hfull0 hcell0 hs0
  go_enter Try.func34, Try.ntmps34
  go_wp2_with fail
  rw [← hw0]
  clear hw0
  go_loopw [6] (fun i wr => ∃ k : Nat, k ≤ cap ∧ i = .int .i64 k ∧ Hid (wr.ownsRow B 3 1 (.slice (some ⟨g, 0, none⟩) cap cap) cap (List.replicate k (.int .i64 mk) ++ cur.drop k)) ∧ Hid (w0.grownBy wr (some g))) (fun i _ => cap - (intOf i).toNat)
  case atStart => exact ⟨0, Nat.zero_le _, rfl, HF0.out, World.grownBy.refl _ _⟩
  case round =>
    obtain ⟨k, hk, rfl, HO, HGB⟩ := hrel
    by_cases hlt : k < cap
    · have hfz := HO.out.frozenAt k
      obtain ⟨u, hcx⟩ : ∃ u, wr.cell? ⟨g, k, none⟩ = some u := by
        rw [HO.out.cellAt k (by omega)]
        exact ⟨_, List.getElem?_eq_getElem (by simp [hcl]; omega)⟩
      have hst := (HO.out.stored k (.int .i64 mk)).1
      rw [rep_step cur k cap _ hcl hlt] at hst
      have HST : Hid ((wr.setCell ⟨g, k, none⟩ (.int .i64 mk)).ownsRow B 3 1 (.slice (some ⟨g, 0, none⟩) cap cap) cap (List.replicate (k + 1) (.int .i64 mk) ++ cur.drop (k + 1))) := hst
      clear hst HO
      go_wp2_with fail
      go_roundw
      case rel => exact ⟨k + 1, by omega, by go_num, HST.out, grown_set HGB.out _⟩
      case measure => simp [intOf]; omega
    · have HA : Hid (AR wr g cap mk) := by
        have := HO.out
        rw [show k = cap from by omega, List.drop_eq_nil_of_le (by omega), List.append_nil] at this
        exact AR.of_own this
      have hkn : ¬ k < cap := hlt
      clear HO HF0
      obtain ⟨w1, hw1⟩ : ∃ x, x = wr := ⟨_, rfl⟩
      subst hw1
      go_wp2_with fail
      go_loopw [7, 8] (fun o i wr => ∃ k : Nat, k ≤ 100 ∧ i = .int .i64 k ∧ Hid (AR wr g cap mk) ∧ Hid (w0.grownBy wr (some g)) ∧ ((o = .slice (some ⟨g, 0, none⟩) (n + k) cap ∧ n + k ≤ cap) ∨ Hid (wr.ownsRow w0.heap.size 3 1 o (n + k) (List.replicate (n + k) (.int .i64 mk))))) (fun _ i _ => 100 - (intOf i).toNat)
      case atStart => exact ⟨0, Nat.zero_le _, rfl, HA.out, HGB.out, .inl ⟨rfl, hnc⟩⟩
      case round =>
        obtain ⟨j, hj, rfl, HA', HGB', hcase⟩ := hrel
        clear HA HGB
        have hsz : w0.heap.size ≤ wr.heap.size := HGB'.out.size
        by_cases hjt : j < 100
        · rcases hcase with ⟨rfl, hfit⟩ | HOm
          · go_wp2_with (at_builtin; refine wpList_append_marks _ rfl _ _ 22 rfl 3 i0 (.int .i64 0) rfl Try.underlying22 hi hz0 hz1 hz2 rfl g (n + j) cap mk rfl (HA'.out.ext (ext_alloc (Below.refl _ _) _)) hfit ⟨wr.heap.size, 0, none⟩ 1 rfl (by simp) (by unfold maxLen; omega) (by omega) ?_; intro v' w' hA2 hg2 hc2; have HX : Hid (AR w' g cap mk ∧ (wr.alloc (.cells #[.int .i64 mk] 3)).grownBy w' (some g)) := ⟨hA2, hg2⟩; clear hA2 hg2; have HY : Hid ((n + j < cap ∧ v' = .slice (some ⟨g, 0, none⟩) (n + j + 1) cap) ∨ w'.ownsRow (wr.alloc (.cells #[.int .i64 mk] 3)).heap.size 3 1 v' (n + j + 1) (List.replicate (n + j + 1) (.int .i64 mk))) := hc2; clear hc2)
            go_roundw
            case rel =>
              refine ⟨j + 1, by omega, by go_num, HX.out.1, grown_trans (grown_alloc HGB'.out _) HX.out.2, ?_⟩
              rcases HY.out with ⟨h1, h2⟩ | h2
              · exact .inl ⟨h2, by omega⟩
              · exact .inr (own_le h2 (by simp; omega))
            case measure => simp [intOf]; omega
          · have hown := HOm.out
            go_wp2_with (at_builtin; refine wpList_append_own _ rfl _ _ 22 rfl w0.heap.size 3 i0 (.int .i64 0) 1 8 Try.underlying22 hi hz0 hz1 hz2 rfl (by decide) _ _ _ rfl (hown.alloc _) ⟨wr.heap.size, 0, none⟩ 1 1 [.int .i64 mk] rfl rfl (cell_one_new _ _ _) (one_i64 _) (by unfold maxLen; omega) (by omega) (by simp; omega) ?_; intro v' w' hown' hg' hx')
            go_roundw
            case rel =>
              refine ⟨j + 1, by omega, by go_num, ?_, grown_above (grown_alloc HGB'.out _) hg' (fun q hq => (hown.lt q hq).1), .inr ?_⟩
              · refine (HA'.out.ext (ext_alloc (Below.refl _ _) _)).keep hg' (fun e => ?_)
                have h1 := (hown.lt g e.symm).1
                have h2 := HS0.out
                have h3 := HG.out
                omega
              · have : List.replicate (n + (j + 1)) (Value.int .i64 mk) = List.replicate (n + j) (.int .i64 mk) ++ [.int .i64 mk] := by rw [← Nat.add_assoc, List.replicate_succ']
                rw [this]; exact hown'
            case measure => simp [intOf]; omega
        · have hje : j = 100 := by omega
          subst hje
          have HM : Hid (MoreOk wr w0.heap.size g cap mk u7) := by
            rcases hcase with ⟨rfl, hfit⟩ | HOm
            · exact .inl ⟨_, rfl, hfit⟩
            · exact .inr ⟨_, HOm.out⟩
          have hrb : wr.heap[w.heap.size]? = some (.cells #[.slice none 0 0, .slice none 0 0, .int .i64 0] 39) := (HGB'.out.block w.heap.size (by have := HS0.out; omega) (by have := HG.out; simp; omega)).trans HC0.out
          obtain ⟨dm, nm, em, hum⟩ : ∃ ao m c, u7 = .slice ao m c := by
            rcases hcase with ⟨rfl, _⟩ | HOm
            · exact ⟨_, _, _, rfl⟩
            · obtain ⟨ao, c, h⟩ := own_form HOm.out
              exact ⟨_, _, _, h⟩
          clear hcase
          subst hum
          have hc0 : wr.cell? ⟨w.heap.size, 0, none⟩ = some (.slice none 0 0) := by rw [cell_of_row wr w.heap.size 0 _ _ (0, 0) hrb]; rfl
          have hc1 : wr.cell? ⟨w.heap.size, 1, none⟩ = some (.slice none 0 0) := by rw [cell_of_row wr w.heap.size 1 _ _ (0, 0) hrb]; rfl
          have hc2 : wr.cell? ⟨w.heap.size, 2, none⟩ = some (.int .i64 0) := by rw [cell_of_row wr w.heap.size 2 _ _ (0, 0) hrb]; rfl
          have hf0 : wr.frozen? ⟨w.heap.size, 0, none⟩ = false := by simp [World.frozen?, hrb]
          have hf1 : wr.frozen? ⟨w.heap.size, 1, none⟩ = false := by simp [World.frozen?, hrb]
          have hf2 : wr.frozen? ⟨w.heap.size, 2, none⟩ = false := by simp [World.frozen?, hrb]
          have HRB : Hid (wr.heap[w.heap.size]? = some (.cells #[.slice none 0 0, .slice none 0 0, .int .i64 0] 39)) := hrb
          clear hrb
          have HAf : Hid (∀ x y z, AR (((wr.setCell ⟨w.heap.size, 0, none⟩ x).setCell ⟨w.heap.size, 1, none⟩ y).setCell ⟨w.heap.size, 2, none⟩ z) g cap mk) := fun x y z => by
            obtain ⟨cu, a1, a2⟩ := HA'.out
            have hne : g ≠ w.heap.size := by have := HG.out; omega
            refine ⟨cu, ?_, a2⟩
            rw [heap_setCell_other _ _ g _ hne, heap_setCell_other _ _ g _ hne, heap_setCell_other _ _ g _ hne]
            exact a1
          have HMf : Hid (∀ x y z, MoreOk (((wr.setCell ⟨w.heap.size, 0, none⟩ x).setCell ⟨w.heap.size, 1, none⟩ y).setCell ⟨w.heap.size, 2, none⟩ z) w.heap.size g cap mk (.slice dm nm em)) := fun x y z => by
            have hs := HS0.out
            rcases HM.out with h | ⟨n', h⟩
            · exact .inl h
            · exact .inr ⟨n', own_le (ownsRow_setCell_below (ownsRow_setCell_below (ownsRow_setCell_below h (show w.heap.size < w0.heap.size by omega) x) (show w.heap.size < w0.heap.size by omega) y) (show w.heap.size < w0.heap.size by omega) z) (by omega)⟩
          have HGf : Hid (∀ x y z, w.grownBy (((wr.setCell ⟨w.heap.size, 0, none⟩ x).setCell ⟨w.heap.size, 1, none⟩ y).setCell ⟨w.heap.size, 2, none⟩ z) (some g)) := fun x y z => by
            have h := grown_trans HW0.out HGB'.out
            refine ⟨h.os, h.tape, h.output, by have := h.size; simpa using this, fun i hi hn => ?_⟩
            have hne : i ≠ w.heap.size := by omega
            rw [heap_setCell_other _ _ i _ hne, heap_setCell_other _ _ i _ hne, heap_setCell_other _ _ i _ hne]
            exact h.block i hi hn
          clear HA' HGB' HM
          go_wp2_with fail
          refine bodyPost_ret (v := .agg #[.slice (some ⟨g, 0, none⟩) cap cap, .slice dm nm em, .int .i64 mk]) ?_ rfl ⟨g, cap, _, rfl, hBg, rfl, HAf.out _ _ _, hcm', HMf.out _ _ _, HGf.out _ _ _⟩
          rw [results_cell_one rfl]
          go_simp
end Go.Proofs.Ytahjjpleceppaaa
