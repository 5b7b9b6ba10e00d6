/- handed, spoil. -/
import Derived.Test.YtlnachbigchobaaWood
namespace Go.Proofs.Ytlnachbigchobaa
open Go.RowKit

/-- The things of a step with the marks behind them, the first m written over. -/
def hat (zs : List It) (m i : Nat) : It := if i < m then (-77 - (i : Int), 1) else if i < zs.length then zs[i]?.getD (0, 0) else (wrap64 (-71 - (i : Int)), -72)
def hnd (zs : List It) (m n : Nat) : List It := (List.range n).map (hat zs m)
theorem hnd_len (zs : List It) (m n : Nat) : (hnd zs m n).length = n := by simp [hnd]
theorem hnd_succ (zs : List It) (m n : Nat) : hnd zs m (n + 1) = hnd zs m n ++ [hat zs m n] := by simp [hnd, List.range_succ]
theorem hnd_at (zs : List It) (m n i : Nat) (h : i < n) : (hnd zs m n)[i]?.getD (0, 0) = hat zs m i := by simp [hnd, List.getElem?_range h]
theorem hnd_all (zs : List It) : hnd zs 0 zs.length = zs := by
  refine List.ext_getElem? fun i => ?_
  by_cases h : i < zs.length
  · simp [hnd, hat, h]
  · rw [List.getElem?_eq_none (by simp [hnd]; omega), List.getElem?_eq_none (by omega)]
theorem hnd_take (zs : List It) (n : Nat) (h : zs.length ≤ n) : (hnd zs 0 n).take zs.length = zs := by
  have e : (hnd zs 0 n).take zs.length = hnd zs 0 zs.length := by
    unfold hnd
    rw [← List.map_take, List.take_range, Nat.min_eq_left h]
  rw [e, hnd_all]
theorem hnd_take2 (zs : List It) (n : Nat) (h : zs.length ≤ n) : (hnd zs zs.length n).take zs.length = (List.range zs.length).map (fun (i : Nat) => (-77 - (i : Int), (1 : Int))) := by
  unfold hnd
  rw [← List.map_take, List.take_range, Nat.min_eq_left h]
  refine List.map_congr_left fun i hi => ?_
  have : i < zs.length := by simpa using hi
  simp [hat, this]
theorem hnd_set (zs : List It) (m n : Nat) (h : m < n) : (hnd zs m n).set m (-77 - (m : Int), 1) = hnd zs (m + 1) n := by
  refine List.ext_getElem? fun i => ?_
  by_cases hi : i < n
  · by_cases he : i = m
    · subst he
      rw [List.getElem?_set_self (by rw [hnd_len]; exact h)]
      simp [hnd, hat, List.getElem?_range h]
    · rw [List.getElem?_set_ne (by omega)]
      simp only [hnd, List.getElem?_map, List.getElem?_range hi, Option.map_some, hat]
      by_cases h2 : i < m
      · rw [if_pos h2, if_pos (by omega)]
      · rw [if_neg h2, if_neg (show ¬ i < m + 1 by omega)]
  · rw [List.getElem?_eq_none (by simp [hnd]; omega), List.getElem?_eq_none (by simp [hnd]; omega)]
theorem flat_set (xs : List It) (m : Nat) (x : It) (h : m < xs.length) : ((flat xs).set (m * 2) (.int .i64 x.1)).set (m * 2 + 1) (.int .i64 x.2) = flat (xs.set m x) := by
  induction xs generalizing m with
  | nil => simp at h
  | cons y ys ih =>
    cases m with
    | zero => simp [flat_cons]
    | succ m =>
      rw [show (m + 1) * 2 = m * 2 + 1 + 1 by omega, List.set_cons_succ, flat_cons, flat_cons]
      simp only [List.set_cons_succ]
      rw [ih m (by simpa using h)]

theorem take_put2 (zz : List Value) (m : Nat) (a b : Value) (h : m * 2 + 1 < zz.length) : ((zz.set (m * 2) a).set (m * 2 + 1) b).take ((m + 1) * 2) = zz.take (m * 2) ++ [a, b] := by
  refine List.ext_getElem? fun i => ?_
  rw [List.getElem?_take]
  by_cases h1 : i < m * 2
  · rw [if_pos (by omega), List.getElem?_append_left (by simp; omega), List.getElem?_take, if_pos h1, List.getElem?_set_ne (by omega), List.getElem?_set_ne (by omega)]
  · rw [List.getElem?_append_right (by simp; omega), List.length_take, Nat.min_eq_left (by omega)]
    by_cases h2 : i = m * 2
    · subst h2
      rw [if_pos (by omega), List.getElem?_set_ne (by omega), List.getElem?_set_self (by omega)]
      simp
    · by_cases h3 : i = m * 2 + 1
      · subst h3
        rw [if_pos (by omega), List.getElem?_set_self (by rw [List.length_set]; exact h), show m * 2 + 1 - m * 2 = 1 by omega]
        rfl
      · rw [if_neg (by omega), List.getElem?_eq_none (by simp; omega)]

/-- A pair put into a row of the call's own. -/
theorem put2 {w : World} {base : Nat} {e : TypeId} {g n cap : Nat} {xs : List Value} (h : w.ownsRow base e 2 (.slice (some ⟨g, 0, none⟩) n cap) n xs) (k : Nat) (a b : Value) :
    ((w.setCell ⟨g, k * 2, none⟩ a).setCell ⟨g, k * 2 + 1, none⟩ b).ownsRow base e 2 (.slice (some ⟨g, 0, none⟩) n cap) n ((xs.set (k * 2) a).set (k * 2 + 1) b) ∧ w.grownBy ((w.setCell ⟨g, k * 2, none⟩ a).setCell ⟨g, k * 2 + 1, none⟩ b) (some g) := by
  obtain ⟨h1, h2⟩ := h.stored (k * 2) a
  obtain ⟨h3, h4⟩ := h1.stored (k * 2 + 1) b
  exact ⟨h3, grown_trans h2 h4⟩
theorem row_cells {w : World} {base : Nat} {e : TypeId} {g n cap : Nat} {xs : List Value} (h : w.ownsRow base e 2 (.slice (some ⟨g, 0, none⟩) n cap) n xs) (k : Nat) (hk : k < n) : ∃ a b, w.cell? ⟨g, k * 2, none⟩ = some a ∧ w.cell? ⟨g, k * 2 + 1, none⟩ = some b ∧ (∀ i, w.frozen? ⟨g, i, none⟩ = false) := by
  have hl := h.1
  have e1 := h.cellAt (k * 2) (by omega)
  have e2 := h.cellAt (k * 2 + 1) (by omega)
  rw [List.getElem?_eq_getElem (by omega)] at e1 e2
  exact ⟨_, _, e1, e2, fun i => h.frozenAt i⟩
theorem OwnR.whole {w : World} {base : Nat} {e : TypeId} {v : Value} {xs : List It} {g n cap : Nat} (h : OwnR w base e v xs) (hv : v = .slice (some ⟨g, 0, none⟩) n cap) : ∃ ys, w.ownsRow base e 2 (.slice (some ⟨g, 0, none⟩) cap cap) cap ys ∧ ys.take (xs.length * 2) = flat xs ∧ xs.length ≤ cap ∧ cap ≤ 9223372036854775807 ∧ base ≤ g ∧ g < w.heap.size := by
  subst hv
  rcases h.2 with ⟨h1, _⟩ | ⟨g', cap', cur, hv, hb, hg, h1, h2, h3, h4⟩
  · cases h1
  · simp only [Value.slice.injEq, Option.some.injEq, Addr.mk.injEq, and_true] at hv
    obtain ⟨rfl, rfl, rfl⟩ := hv
    unfold maxLen at h2
    exact ⟨cur.toList, ⟨by simpa using h3, .inr ⟨g, cap, cur, rfl, hb, hg, Nat.le_refl _, h2, h3, List.take_of_length_le (by simp [h3])⟩⟩, h4, h1, h2, hb, (Array.getElem?_eq_some_iff.1 hg).1⟩
theorem OwnR.form_pos {w : World} {base : Nat} {e : TypeId} {v : Value} {xs : List It} (h : OwnR w base e v xs) (hn : 0 < xs.length) : ∃ g cap, v = .slice (some ⟨g, 0, none⟩) xs.length cap := by
  rcases h.2 with ⟨_, h2⟩ | ⟨g, cap, cur, hv, hb, hg, _⟩
  · omega
  · exact ⟨g, cap, hv⟩

set_option maxRecDepth 100000 in
set_option maxHeartbeats 4000000 in
theorem handed_any (o : Sp) (w : World) (hr : RdR w (.slice o.ai o.zs.length o.ci) o.zs) (hz : o.zs.length ≤ 4194304) :
    Calls Try.prog 73 #[opv o] w fun e w' => ∃ g cap, e = .returned (.slice (some ⟨g, 0, none⟩) cap cap) ∧ OwnR w' w.heap.size 24 (.slice (some ⟨g, 0, none⟩) cap cap) (hnd o.zs 0 cap) ∧ o.zs.length ≤ cap ∧ cap ≤ 9223372036854775807 ∧ Below w.heap.size w w' := by
  obtain ⟨kind, who, fr, tt, kk, nn, ai, ci, zs⟩ := o
  simp only at hr hz
  unfold opv
  simp only
  obtain ⟨w0, hw0⟩ : ∃ w0, w0 = w.alloc (.cells #[.int .i64 kind, .int .i64 who, .int .i64 fr, .int .i64 tt, .int .i64 kk, .int .i64 nn, .slice ai zs.length ci] 95) := ⟨_, rfl⟩
  have hb0 : Below w.heap.size w w0 := by rw [hw0]; exact ext_alloc (Below.refl _ _) _
  have hs0 : w.heap.size < w0.heap.size := by rw [hw0]; simp
  have q6 : w0.cell? ⟨w.heap.size, 6, none⟩ = some (.slice ai zs.length ci) := by rw [hw0]; simp
  have HC : Hid (∀ w', Below w0.heap.size w0 w' → w'.cell? ⟨w.heap.size, 6, none⟩ = some (.slice ai zs.length ci)) := fun w' h => (h.cell (p := ⟨w.heap.size, 6, none⟩) hs0).trans q6
  have R1 := hidIt (hr.ext hb0)
  have HB0 := hidIt hb0
  obtain ⟨hcm, hlc⟩ : ci ≤ 9223372036854775807 ∧ zs.length ≤ ci := by obtain ⟨ao', cap', e1, e2, e3, _⟩ := hr; cases e1; exact ⟨e3, e2⟩
  clear hr hb0
  go_enter Try.func73, Try.ntmps73
  go_wp2_with fail
  rw [← hw0]
  clear hw0
  go_loopw [3, 4] (fun l i wr => ∃ k : Nat, k ≤ zs.length ∧ i = .int .i64 k ∧ OwnR wr w0.heap.size 24 l (zs.take k) ∧ Below w0.heap.size w0 wr) (fun _ i _ => zs.length - (intOf i).toNat)
  case atStart => exact ⟨0, Nat.zero_le _, rfl, OwnR.nil _ _ _, Below.refl _ _⟩
  case round =>
    obtain ⟨k, hk, rfl, hown, hb⟩ := hrel
    clear q6
    have q6 := HC.out wr hb
    by_cases hlt : k < zs.length
    · have hlt' : (k : Int) < (zs.length : Int) := by omega
      obtain ⟨b, off, cap', e0, _, _, hbl, hcc⟩ := R1.out.at (by omega)
      simp only [Value.slice.injEq] at e0
      obtain ⟨rfl, _, rfl⟩ := e0
      have c0 : wr.cell? ⟨b, off + k * 2, none⟩ = some (.int .i64 (zs[k]?.getD (0, 0)).1) := (hb.cell (p := ⟨b, off + k * 2, none⟩) hbl).trans (hcc k hlt).1
      have c1 : wr.cell? ⟨b, off + k * 2 + 1, none⟩ = some (.int .i64 (zs[k]?.getD (0, 0)).2) := (hb.cell (p := ⟨b, off + k * 2 + 1, none⟩) hbl).trans (hcc k hlt).2
      have HT : Hid (zs.take k ++ [zs[k]?.getD (0, 0)] = zs.take (k + 1)) := by unfold Hid; exact take_snoc zs k hlt
      have HLK : Hid ((zs.take k).length + 1 ≤ zs.length) := by unfold Hid; simp only [List.length_take]; omega
      generalize zs[k]?.getD (0, 0) = x at *
      generalize zs.take k = ys at *
      have HO := hidIt hown
      clear hown hcc
      go_wp2_with (at_builtin; refine wpList_append_runs rfl _ _ 22 rfl w0.heap.size 24 Try.info_run Try.underlying22 _ ys rfl (HO.out.ext (ext_alloc (Below.refl _ _) _)) _ [x] rfl (RdR.lit1 wr 24 x) (by have := HLK.out; simp only [List.length_cons, List.length_nil]; omega) (by have := hb.size; simp; omega) ?_; intro v' w1 hO hg; have HB1 := hidIt (OwnR.below (ext_alloc hb _) (HO.out.ext (ext_alloc (Below.refl _ _) _)) hg); have HO1 := hidIt hO; clear hO hg)
      go_roundw
      case rel => exact ⟨k + 1, by omega, by go_num, by rw [← HT.out]; exact HO1.out, HB1.out⟩
      case measure => simp [intOf]; omega
    · obtain rfl : k = zs.length := by omega
      have hge : ¬ (zs.length : Int) < (zs.length : Int) := by omega
      rw [List.take_length] at hown
      have HO := hidIt hown
      have HB := hidIt hb
      clear hown hb
      go_wp2_with fail
      go_loopw [3, 5] (fun l i wr => ∃ k : Nat, k ≤ 40 ∧ i = .int .i64 k ∧ OwnR wr w0.heap.size 24 l (zs ++ List.replicate k (0, 0)) ∧ Below w0.heap.size w0 wr) (fun _ i _ => 40 - (intOf i).toNat)
      case atStart => exact ⟨0, Nat.zero_le _, rfl, by rw [List.replicate_zero, List.append_nil]; exact HO.out, HB.out⟩
      case round =>
        obtain ⟨j, hj, rfl, hown, hb⟩ := hrel
        clear q6
        have q6 := HC.out wr hb
        by_cases hlt : j < 40
        · have hlt' : (j : Int) < 40 := by omega
          have HT : Hid (zs ++ List.replicate j ((0 : Int), (0 : Int)) ++ [(0, 0)] = zs ++ List.replicate (j + 1) (0, 0)) := by unfold Hid; rw [List.append_assoc, ← List.replicate_succ']
          have HLK : Hid ((zs ++ List.replicate j ((0 : Int), (0 : Int))).length + 1 ≤ zs.length + 40) := by unfold Hid; simp only [List.length_append, List.length_replicate]; omega
          generalize zs ++ List.replicate j ((0 : Int), (0 : Int)) = ys at *
          have HO := hidIt hown
          clear hown
          go_wp2_with (at_builtin; refine wpList_append_runs rfl _ _ 22 rfl w0.heap.size 24 Try.info_run Try.underlying22 _ ys rfl (HO.out.ext (ext_alloc (Below.refl _ _) _)) _ [(0, 0)] rfl (RdR.lit1 wr 24 (0, 0)) (by have := HLK.out; simp only [List.length_cons, List.length_nil]; omega) (by have := hb.size; simp; omega) ?_; intro v' w1 hO hg; have HB1 := hidIt (OwnR.below (ext_alloc hb _) (HO.out.ext (ext_alloc (Below.refl _ _) _)) hg); have HO1 := hidIt hO; clear hO hg)
          go_roundw
          case rel => exact ⟨j + 1, by omega, by go_num, by rw [← HT.out]; exact HO1.out, HB1.out⟩
          case measure => simp [intOf]; omega
        · obtain rfl : j = 40 := by omega
          obtain ⟨g, cap, hv⟩ := hown.form_pos (by simp)
          subst hv
          obtain ⟨ys, hys, htk, hn, hcap, hgb, hgl⟩ := hown.whole rfl
          have HL : Hid (zs.length + 40 ≤ cap) := by unfold Hid; simp only [List.length_append, List.length_replicate] at hn; exact hn
          have HT0 : Hid (ys.take (zs.length * 2) = flat (hnd zs 0 zs.length)) := by
            unfold Hid
            rw [hnd_all]
            have := congrArg (List.take (zs.length * 2)) htk
            rw [List.take_take, flat_app, List.take_left' (by rw [flat_len])] at this
            rw [← this]
            congr 1
            simp only [List.length_append]
            omega
          have HY := hidIt hys
          have HBR := hidIt hb
          generalize hLN : (zs ++ List.replicate 40 ((0 : Int), (0 : Int))).length = LN at *
          have HLN := hidIt hLN
          have hlc0 : LN ≤ cap := hn
          clear hown hys htk hb hn hLN HO HB
          go_wp2_with fail
          go_loopw [6] (fun i wr => ∃ m : Nat, zs.length ≤ m ∧ m ≤ cap ∧ i = .int .i64 m ∧ Hid (∃ ys, wr.ownsRow w0.heap.size 24 2 (.slice (some ⟨g, 0, none⟩) cap cap) cap ys ∧ ys.take (m * 2) = flat (hnd zs 0 m)) ∧ Below w0.heap.size w0 wr) (fun i _ => cap - (intOf i).toNat)
          case atStart => exact ⟨zs.length, Nat.le_refl _, by have := HL.out; omega, rfl, ⟨ys, HY.out, HT0.out⟩, HBR.out⟩
          case round =>
            obtain ⟨m, hlo, hm, rfl, HYM, hb⟩ := hrel
            by_cases hlt : m < cap
            · have hlt' : (m : Int) < (cap : Int) := by omega
              obtain ⟨zz, hzz, hzt⟩ := HYM.out
              obtain ⟨a0, b0, d0, d1, df⟩ := row_cells hzz m hlt
              have HZZ := hidIt hzz
              have HZT := hidIt hzt
              clear hzz hzt HYM
              go_wp2_with fail
              obtain ⟨p1, p2⟩ := put2 HZZ.out m (.int .i64 (wrap64 (-71 - (m : Int)))) (.int .i64 (-72))
              go_roundw
              case rel =>
                refine ⟨m + 1, by omega, by omega, by go_num, ⟨_, p1, ?_⟩, below_put hb hb.size p2 hgb⟩
                rw [take_put2 _ _ _ _ (by rw [HZZ.out.1]; omega), HZT.out, hnd_succ, flat_app]
                simp [hat, flat, show ¬ m < zs.length by omega]
              case measure => simp [intOf]; omega
            · obtain rfl : m = cap := by omega
              have hge3 : ¬ (m : Int) < (m : Int) := by omega
              go_wp2_with fail
              go_ret
              obtain ⟨zz, hzz, hzt⟩ := HYM.out
              have e : zz = flat (hnd zs 0 m) := by rw [← hzt, List.take_of_length_le (by rw [hzz.1]; exact Nat.le_refl _)]
              subst e
              refine ⟨g, m, rfl, ?_, hlo, hcap, HB0.out.trans (hb.mono HB0.out.size)⟩
              have := OwnR.le (base' := w.heap.size) (xs := hnd zs 0 m) (e := 24) (v := .slice (some ⟨g, 0, none⟩) m m) (w := wr) (base := w0.heap.size) (by unfold OwnR; rw [hnd_len]; exact hzz) HB0.out.size
              exact this

theorem OwnR.cellAt {w : World} {base : Nat} {e : TypeId} {g n cap : Nat} {xs : List It} (h : OwnR w base e (.slice (some ⟨g, 0, none⟩) n cap) xs) (hn : xs.length = n) (i : Nat) (hi : i < n) : w.cell? ⟨g, i * 2, none⟩ = some (.int .i64 (xs[i]?.getD (0, 0)).1) ∧ w.cell? ⟨g, i * 2 + 1, none⟩ = some (.int .i64 (xs[i]?.getD (0, 0)).2) := by
  subst hn
  have h1 := World.ownsRow.cellAt h (i * 2) (by omega)
  have h2 := World.ownsRow.cellAt h (i * 2 + 1) (by omega)
  have h3 := flat_at xs i hi
  exact ⟨h1.trans h3.1, h2.trans h3.2⟩

set_option maxRecDepth 100000 in
set_option maxHeartbeats 4000000 in
theorem spoil_any (ai : Option Addr) (ci g cap base : Nat) (zs : List It) (w : World) (hr : RdR w (.slice ai zs.length ci) zs) (hz : zs.length ≤ 4194304) (hold : ∀ b off, zs ≠ [] → ai = some ⟨b, off, none⟩ → b < base) (hc : zs.length ≤ cap) (hcm : cap ≤ 9223372036854775807)
    (hO : OwnR w base 24 (.slice (some ⟨g, 0, none⟩) cap cap) (hnd zs 0 cap)) :
    Calls Try.prog 74 #[.slice (some ⟨g, 0, none⟩) cap cap, .slice ai zs.length ci] w fun e w' => e = .returned (.bool true) ∧ OwnR w' base 24 (.slice (some ⟨g, 0, none⟩) cap cap) (hnd zs zs.length cap) ∧ Fr [24] w w' ∧ Below base w w' := by
  have HO := hidIt hO
  have R1 := hidIt hr
  obtain ⟨hcm2, hlc⟩ : ci ≤ 9223372036854775807 ∧ zs.length ≤ ci := by obtain ⟨ao', cap', e1, e2, e3, _⟩ := hr; cases e1; exact ⟨e3, e2⟩
  have hgb : base ≤ g ∧ g < w.heap.size := World.ownsRow.lt hO g rfl
  have HG := hidIt hgb
  clear hO hr
  go_enter Try.func74, Try.ntmps74
  go_wp2_with fail
  go_loopw [5] (fun i wr => ∃ k : Nat, zs.length ≤ k ∧ k ≤ cap ∧ i = .int .i64 k ∧ w = wr) (fun i _ => cap - (intOf i).toNat)
  case atStart => exact ⟨zs.length, Nat.le_refl _, hc, rfl, rfl⟩
  case round =>
    obtain ⟨k, hlo, hk, rfl, rfl⟩ := hrel
    by_cases hlt : k < cap
    · have hlt' : (k : Int) < (cap : Int) := by omega
      obtain ⟨c0, c1⟩ := OwnR.cellAt HO.out (hnd_len _ _ _) k hlt
      rw [hnd_at _ _ _ _ hlt] at c0 c1
      simp only [hat, show ¬ k < 0 by omega, if_false, show ¬ k < zs.length by omega] at c0 c1
      go_wp2_with fail
      go_roundw
      case rel => exact ⟨k + 1, by omega, by omega, by go_num, by trivial⟩
      case measure => simp [intOf]; omega
    · obtain rfl : k = cap := by omega
      have hge : ¬ (k : Int) < (k : Int) := by omega
      go_wp2_with fail
      go_loopw [6] (fun i w2 => ∃ m : Nat, m ≤ zs.length ∧ i = .int .i64 m ∧ OwnR w2 base 24 (.slice (some ⟨g, 0, none⟩) k k) (hnd zs m k) ∧ Hid (Fr [24] w w2 ∧ Below base w w2 ∧ w.heap.size ≤ w2.heap.size ∧ ∀ j, j < zs.length → ∃ b off, ai = some ⟨b, off, none⟩ ∧ b ≠ g ∧ w2.cell? ⟨b, off + j * 2, none⟩ = some (.int .i64 (zs[j]?.getD (0, 0)).1) ∧ w2.cell? ⟨b, off + j * 2 + 1, none⟩ = some (.int .i64 (zs[j]?.getD (0, 0)).2))) (fun i _ => zs.length - (intOf i).toNat)
      case atStart =>
        refine ⟨0, Nat.zero_le _, rfl, HO.out, Fr.refl _ _, Below.refl _ _, Nat.le_refl _, fun j hj => ?_⟩
        obtain ⟨b, off, cap', e0, _, _, hbl, hcc⟩ := R1.out.at (by omega)
        simp only [Value.slice.injEq] at e0
        obtain ⟨rfl, _, rfl⟩ := e0
        exact ⟨b, off, rfl, by have := hold b off (by intro h; subst h; simp at hj) rfl; have := HG.out.1; omega, hcc j hj⟩
      case round =>
        obtain ⟨m, hm, rfl, hown, HF⟩ := hrel
        by_cases hlt : m < zs.length
        · have hlt' : (m : Int) < (zs.length : Int) := by omega
          have hmk : m < k := by omega
          have hmk' : (m : Int) < (k : Int) := by omega
          obtain ⟨f1, f2, f3, f4⟩ := HF.out
          obtain ⟨b, off, rfl, hne, d0, d1⟩ := f4 m hlt
          obtain ⟨c0, c1⟩ := OwnR.cellAt hown (hnd_len _ _ _) m hmk
          rw [hnd_at _ _ _ _ hmk] at c0 c1
          simp only [hat, show ¬ m < m by omega, if_false, hlt, if_true] at c0 c1
          have cf : ∀ i, wr.frozen? ⟨g, i, none⟩ = false := fun i => World.ownsRow.frozenAt (by unfold OwnR at hown; rw [hnd_len] at hown; exact hown) i
          have hneq1 : ((zs[m]?.getD (0, 0)).1 != (zs[m]?.getD (0, 0)).1) = false := by simp
          generalize zs[m]?.getD (0, 0) = x at *
          have HOW := hidIt hown
          clear hown f1 f2 f3 f4
          go_wp2_with fail
          go_quiet (fail)
          go_wp2_with fail
          obtain ⟨p1, p2⟩ := put2 (w := wr.drewN nq) (base := base) (e := 24) (g := g) (n := k) (cap := k) (xs := flat (hnd zs m k)) (by have := HOW.out; unfold OwnR at this; rw [hnd_len] at this; exact this) m (.int .i64 (-77 - (m : Int))) (.int .i64 1)
          go_roundw
          case rel =>
            obtain ⟨f1, f2, f3, f4⟩ := HF.out
            rw [flat_set _ m (-77 - (m : Int), 1) (by rw [hnd_len]; exact hmk), hnd_set _ _ _ hmk] at p1
            obtain ⟨cs, hcs⟩ : ∃ cs, wr.heap[g]? = some (.cells cs 24 (0, 0)) := by
              rcases HOW.out.2 with ⟨h1, _⟩ | ⟨g', cap', cur, hv, _, hg, _⟩
              · cases h1
              · simp only [Value.slice.injEq, Option.some.injEq, Addr.mk.injEq, and_true] at hv
                obtain ⟨rfl, _⟩ := hv
                exact ⟨cur, hg⟩
            have p3 : wr.grownBy (((wr.drewN nq).setCell ⟨g, m * 2, none⟩ (.int .i64 (-77 - (m : Int)))).setCell ⟨g, m * 2 + 1, none⟩ (.int .i64 1)) (some g) := ⟨p2.os, p2.tape, p2.output, p2.size, p2.block⟩
            refine ⟨m + 1, by omega, by go_num, by unfold OwnR; rw [hnd_len]; exact p1, f1.trans (Fr.of_grown hcs (by simp) p3), below_put f2 (by have := HG.out; omega) p3 HG.out.1, Nat.le_trans f3 p3.size, fun j hj => ?_⟩
            obtain ⟨b', off', e1, e2, e3, e4⟩ := f4 j hj
            exact ⟨b', off', e1, e2, p3.cell e3 (by simpa using e2), p3.cell e4 (by simpa using e2)⟩
          case measure => simp [intOf]; omega
        · obtain rfl : m = zs.length := by omega
          have hge2 : ¬ (zs.length : Int) < (zs.length : Int) := by omega
          have HOW := hidIt hown
          clear hown
          go_wp2_with fail
          go_ret
          exact ⟨rfl, HOW.out, HF.out.1, HF.out.2.1⟩
end Go.Proofs.Ytlnachbigchobaa
