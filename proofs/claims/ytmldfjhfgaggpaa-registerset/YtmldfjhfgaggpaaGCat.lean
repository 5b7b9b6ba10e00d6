/- slices.Grow of nil, slices.Concat, slices.Clone. -/
import Derived.Test.YtmldfjhfgaggpaaGKit
namespace Go.Proofs.Ytmldfjhfgaggpaa
open Go.RowKit Go.Lib

set_option maxRecDepth 100000 in
set_option maxHeartbeats 1000000 in
theorem grow_any (n : Nat) (h0 : 0 < n) (hn : n * 8 ≤ 140737488355328) (w : World) :
    Calls Try.prog 100 #[.slice none 0 0, .int .i64 n] w fun e w' => ∃ v, e = .returned v ∧ OwnI w' w.heap.size v [] ∧ Below w.heap.size w w' := by
  obtain ⟨i0, hi, hz0, hz1, hz2⟩ := info_parts Try.info_i64
  have hrz : ∀ ty, (Builtin.append_ #[29, 3] ty #[.slice none 0 0, .int .i64 n]).run Try.prog w = _ := fun ty => by
    have h := Lib.run_append_grow_zeros w 29 3 ty 3 i0 (.int .i64 0) .i64 .i64 Try.underlying29 Try.underlying3 hi hz0 none 0 0 [] (run_firstCells_none w.drew i0.size 0 0 0) n h0 (by omega) (by omega) (by omega)
      (by rw [hz2]; omega) (by rw [hz2]; exact growslice_fits (by omega) (by omega))
    exact h
  simp only [Nat.zero_add] at hrz
  have hGn : n ≤ grownCap w n 0 3 := grownCap_ge w _ _ _
  have hG63 : grownCap w n 0 3 ≤ 9223372036854775807 := by
    have := grownCap_le_maxLen w n 0 3 (by unfold maxLen; omega)
    unfold maxLen at this
    omega
  generalize grownCap w n 0 3 = G at *
  go_enter Try.func100, Try.ntmps100
  go_wp2_with (at_builtin; refine Lib.wpList_append_run _ rfl _ _ _ _ rfl _ _ rfl rfl _ _ (hrz _) ?_)
  all_goals
    go_ret
    refine ⟨_, rfl, ⟨rfl, .inr ⟨w.heap.size, G, _, rfl, Nat.le_refl _, heap_alloc_new w _, Nat.zero_le _, by unfold maxLen; omega, by simp [Builtin.zeroCells]; omega, by simp⟩⟩, ((Below.refl _ _).alloc (Nat.le_refl _) _).drew⟩

/-- The slices of a row, as they are read. -/
def Row (w : World) (B : Nat) (xs : List (Value × List Int)) : Prop := B < w.heap.size ∧ ∀ i p, xs[i]? = some p → w.cell? ⟨B, i, none⟩ = some p.1 ∧ RdS w p.1 p.2
theorem Row.ext {w w' : World} {B : Nat} {xs : List (Value × List Int)} (h : Row w B xs) (hb : Below w.heap.size w w') : Row w' B xs :=
  ⟨Nat.lt_of_lt_of_le h.1 hb.size, fun i p hp => ⟨(hb.cell (p := ⟨B, i, none⟩) h.1).trans (h.2 i p hp).1, (h.2 i p hp).2.ext hb⟩⟩
def cat (xs : List (Value × List Int)) : List Int := (xs.map Prod.snd).flatten
theorem cat_succ (xs : List (Value × List Int)) (k : Nat) (p : Value × List Int) (h : xs[k]? = some p) : cat (xs.take (k + 1)) = cat (xs.take k) ++ p.2 := by
  obtain ⟨hk, rfl⟩ := List.getElem?_eq_some_iff.1 h
  unfold cat
  rw [List.take_succ_eq_append_getElem hk, List.map_append, List.flatten_append]
  simp
theorem cat_le (xs : List (Value × List Int)) (k : Nat) : (cat (xs.take k)).length ≤ (cat xs).length := by
  have : cat xs = cat (xs.take k) ++ cat (xs.drop k) := by unfold cat; rw [← List.flatten_append, ← List.map_append, List.take_append_drop]
  rw [this, List.length_append]
  omega

set_option maxRecDepth 100000 in
set_option maxHeartbeats 2000000 in
theorem concat_any (B : Nat) (xs : List (Value × List Int)) (w : World) (h : Row w B xs) (hx : xs.length ≤ 100) (h0 : 0 < (cat xs).length) (hl : (cat xs).length * 8 ≤ 140737488355328) :
    Calls Try.prog 90 #[.slice (some ⟨B, 0, none⟩) xs.length xs.length] w fun e w' => ∃ v, e = .returned v ∧ OwnI w' w.heap.size v (cat xs) ∧ Below w.heap.size w w' := by
  have H := hidIt h
  have hB := h.1
  clear h
  go_enter Try.func90, Try.ntmps90
  go_wp2_with fail
  go_loopw [3, 11] (fun s i wr => ∃ k : Nat, k ≤ xs.length ∧ i = .int .i64 k ∧ s = .int .i64 (cat (xs.take k)).length ∧ w = wr) (fun _ i _ => xs.length - (RowKit.intOf i).toNat)
  case atStart => exact ⟨0, Nat.zero_le _, rfl, rfl, rfl⟩
  case round =>
    obtain ⟨k, hk, rfl, rfl, rfl⟩ := hrel
    by_cases hlt : k < xs.length
    · obtain ⟨p, hp⟩ : ∃ p, xs[k]? = some p := ⟨_, List.getElem?_eq_getElem hlt⟩
      obtain ⟨c1, r1⟩ := H.out.2 k p hp
      obtain ⟨ao, c, e1, e2⟩ := r1.len
      rw [e1] at c1
      have hs := cat_succ xs k p hp
      have hle := cat_le xs (k + 1)
      rw [hs, List.length_append] at hle
      have HS := hidIt (show (cat (List.take (k + 1) xs)).length = (cat (List.take k xs)).length + p.2.length by rw [hs, List.length_append])
      generalize (cat (List.take k xs)).length = z at *
      generalize p.2.length = q at *
      generalize (cat xs).length = z2 at *
      have hi1 : (k : Int) < (xs.length : Int) := by omega
      have hw1 : IntKind.i64.wrap ((z : Int) + q) = (z : Int) + q := by rw [IntKind.wrap_i64]; omega
      have hn : ¬ ((z : Int) + q < 0) := by omega
      clear r1 e1 hs
      go_wp2_with fail
      go_roundw
      case rel => exact ⟨k + 1, by omega, by go_num, by rw [HS.out]; simp, trivial⟩
      case measure => simp [RowKit.intOf]; omega
    · have hkl : k = xs.length := by omega
      subst hkl
      clear hlt
      rw [List.take_length]
      go_wp2_with (go_at_call 100; refine (grow_any _ h0 hl _).mono ?_; rintro e w1 ⟨v1, rfl, own1, hb1⟩; have O1 := hidIt own1; have B1 := hidIt hb1; clear own1 hb1; (try dsimp only))
      go_loopw [6, 27] (fun s i wr => ∃ k : Nat, k ≤ xs.length ∧ i = .int .i64 k ∧ OwnI wr w.heap.size s (cat (xs.take k)) ∧ Below w.heap.size w wr) (fun _ i _ => xs.length - (RowKit.intOf i).toNat)
      case atStart => exact ⟨0, Nat.zero_le _, rfl, O1.out, B1.out⟩
      case round =>
        obtain ⟨k, hk, rfl, hown, hbw⟩ := hrel
        by_cases hlt : k < xs.length
        · obtain ⟨p, hp⟩ : ∃ p, xs[k]? = some p := ⟨_, List.getElem?_eq_getElem hlt⟩
          obtain ⟨c1, r1⟩ := (H.out.ext hbw).2 k p hp
          have hs := cat_succ xs k p hp
          have hle := cat_le xs (k + 1)
          rw [hs, List.length_append] at hle
          have HS := hidIt hs
          have HR := hidIt r1
          have HO := hidIt hown
          have HW := hidIt hbw
          have hi1 : (k : Int) < (xs.length : Int) := by omega
          have hsz := hbw.size
          clear hs r1 hown hbw
          go_wp2_with (at_builtin; refine wpl_ints rfl _ _ 29 rfl w.heap.size Try.info_i64 Try.underlying29 _ _ rfl HO.out _ _ rfl HR.out (by omega) hsz ?_; intro v2 w2 own2 hb2; have O2 := hidIt own2; have B2 := hidIt hb2; clear own2 hb2)
          go_roundw
          case rel => exact ⟨k + 1, by omega, by go_num, by rw [HS.out]; exact O2.out, HW.out.trans (B2.out.mono (Nat.le_refl _))⟩
          case measure => simp [RowKit.intOf]; omega
        · have hkl : k = xs.length := by omega
          subst hkl
          clear hlt
          rw [List.take_length] at hown
          have HO := hidIt hown
          have HW := hidIt hbw
          clear hown hbw
          go_wp2_with fail
          go_ret
          exact ⟨_, rfl, HO.out, HW.out⟩

set_option maxRecDepth 100000 in
/-- Two lists that read alike. -/
theorem sameInts_any (v1 v2 : Value) (zs : List Int) (w : World) (h1 : Rd .i64 w v1 zs) (h2 : Rd .i64 w v2 zs) :
    Calls Try.prog 26 #[v1, v2] w fun e w' => e = .returned (.bool true) ∧ Below w.heap.size w w' := by
  have hlen := h1.len
  obtain ⟨ao, cap, rfl, hl1, hc1, h1⟩ := h1
  obtain ⟨ao2, cap2, rfl, hl2, hc2, h2⟩ := h2
  by_cases hn : zs = []
  · subst hn
    clear h1 h2
    simp only [List.length_nil]
    go_enter Try.func26, Try.ntmps26
    go_wp2
    refine wp_loop_rounds 1 ?_
    rw [rounds_succ]
    go_wp2
    go_ret
    exact ⟨rfl, Below.refl _ _⟩
  · obtain ⟨b, off, rfl, hb, hcl⟩ := h1 hn
    obtain ⟨b2, off2, rfl, hb2, hcl2⟩ := h2 hn
    have hq : ((zs.length : Int) != (zs.length : Int)) = false := by simp
    clear h1 h2 hn
    go_enter Try.func26, Try.ntmps26
    go_wp2
    go_loopw [5] (fun i wr => ∃ k : Nat, k ≤ zs.length ∧ i = .int .i64 k ∧ Below w.heap.size w wr) (fun i _ => zs.length - (RowKit.intOf i).toNat)
    case atStart => exact ⟨0, Nat.zero_le _, rfl, Below.refl _ _⟩
    case round =>
      obtain ⟨k, hk, rfl, hbw⟩ := hrel
      by_cases hlt : k < zs.length
      · have c1 : wr.cell? ⟨b, off + k, none⟩ = some (.int .i64 (zs[k]?.getD 0)) := (hbw.cell (p := ⟨b, off + k, none⟩) hb).trans (hcl _ hlt)
        have c2 : wr.cell? ⟨b2, off2 + k, none⟩ = some (.int .i64 (zs[k]?.getD 0)) := (hbw.cell (p := ⟨b2, off2 + k, none⟩) hb2).trans (hcl2 _ hlt)
        have hi1 : (k : Int) < (zs.length : Int) := by omega
        generalize zs[k]?.getD 0 = x at *
        clear hcl hcl2
        go_wp2
        go_quiet (fail)
        go_wp2
        go_roundw
        case rel => exact ⟨k + 1, by omega, by go_num, below_drewN hbw _⟩
        case measure => simp [RowKit.intOf]; omega
      · clear hcl hcl2
        go_wp2
        go_ret
        exact ⟨rfl, hbw⟩
end Go.Proofs.Ytmldfjhfgaggpaa
