/- copyInts, lendInts, keptInts. -/
import Derived.Test.YtbfbaknfeleddaaKept
import Derived.Test.YtbfbaknfeleddaaWalkDecode
namespace Go.Proofs.Ytbfbaknfeleddaa
open Go.RowKit

theorem copyInts_any (v : Value) (zs : List Int) (w : World) (hr : Rd .i64 w v zs) (hz : zs.length * 8 ≤ 140737488355328) :
    Calls Try.prog 32 #[v] w fun e w' => ∃ v', e = .returned v' ∧ w'.ownsRow w.heap.size 3 1 v' zs.length (zs.map (Value.int .i64)) ∧ Below w.heap.size w w' := by
  obtain ⟨ao, cap, rfl, hl, hm, hc⟩ := hr
  obtain ⟨i0, hi, hz0, hz1, hz2⟩ := info_parts Try.info_i64
  by_cases hn : zs = []
  · subst hn
    clear hc
    simp only [List.length_nil]
    go_enter Try.func32, Try.ntmps32
    go_wp2_with fail
    refine wp_loop_rounds 1 ?_
    rw [rounds_succ]
    go_wp2
    go_ret
    exact ⟨_, rfl, World.ownsRow_nil _ _ _ _, Below.refl _ _⟩
  · obtain ⟨b, off, rfl, hbl, hc⟩ := hc hn
    clear hn hm
    go_enter Try.func32, Try.ntmps32
    go_wp2_with fail
    go_loopw [3, 4] (fun o i wr => ∃ k : Nat, k ≤ zs.length ∧ i = .int .i64 k ∧ wr.ownsRow w.heap.size 3 1 o k ((zs.take k).map (Value.int .i64)) ∧ Below w.heap.size w wr) (fun _ i _ => zs.length - (intOf i).toNat)
    case atStart => exact ⟨0, Nat.zero_le _, rfl, World.ownsRow_nil _ _ _ _, Below.refl _ _⟩
    case round =>
      obtain ⟨k, hk, rfl, hown, hb⟩ := hrel
      by_cases hlt : k < zs.length
      · have hcx : wr.cell? ⟨b, off + k, none⟩ = some (.int .i64 (zs[k]?.getD 0)) := (hb.cell (p := ⟨b, off + k, none⟩) hbl).trans (hc k hlt)
        have hz' : w.heap.size ≤ wr.heap.size := hb.size
        have HT : Hid ((zs.take k).map (Value.int .i64) ++ [Value.int .i64 (zs[k]?.getD 0)] = (zs.take (k + 1)).map (Value.int .i64)) := take_succ_map zs k hlt
        generalize zs[k]?.getD 0 = x at *
        generalize (zs.take k).map (Value.int .i64) = xs at *
        clear hc
        go_wp2_with (at_builtin; refine wpList_append_own _ rfl _ _ 26 rfl w.heap.size 3 i0 (.int .i64 0) 1 8 Try.underlying26 hi hz0 hz1 hz2 rfl (by decide) _ _ _ rfl (hown.alloc _) ⟨wr.heap.size, 0, none⟩ 1 1 [.int .i64 x] rfl rfl (cell_one_new _ _ _) (one_i64 _) (by unfold maxLen; omega) (by omega) (by simp; omega) ?_; intro v' w' hown' hg' hx')
        go_roundw
        case rel => exact ⟨k + 1, by omega, by go_num, by rw [← HT.out]; exact hown', below_push hb hown hg'⟩
        case measure => simp [intOf]; omega
      · have hke : k = zs.length := by omega
        subst hke
        have HT : Hid ((zs.take zs.length).map (Value.int .i64) = zs.map (Value.int .i64)) := by unfold Hid; rw [List.take_length]
        clear hc
        go_wp2
        go_ret
        exact ⟨_, rfl, by rw [← HT.out]; exact hown, hb⟩

theorem map_repI (zs : List Int) (k : Nat) : (zs ++ List.replicate k (-71)).map (Value.int .i64) ++ [Value.int .i64 (-71)] = (zs ++ List.replicate (k + 1) (-71)).map (Value.int .i64) := by
  rw [List.replicate_succ']; simp

/-- The mark at place i behind what was lent. -/
def fillI (i : Nat) : Int := wrap64 (-71 - (i : Int))
def filli (a m : Nat) : List Int := (List.range' a m).map fillI
theorem filli_len (a m : Nat) : (filli a m).length = m := by simp [filli]
theorem filli_succ (a m : Nat) : filli a (m + 1) = filli a m ++ [fillI (a + m)] := by simp [filli, List.range'_1_concat]
theorem filli_get (a m j : Nat) (h : j < m) : (filli a m)[j]? = some (fillI (a + j)) := by simp [filli, h]
theorem set_midI (A rest : List Value) (r x : Value) (k : Nat) (h : A.length = k) : (A ++ r :: rest).set k x = (A ++ [x]) ++ rest := by
  subst h; simp

/-- What was lent: zs, and marks in all the room behind it. -/
def LentI (w : World) (base g cap : Nat) (zs : List Int) : Prop :=
  zs.length + 40 ≤ cap ∧ cap ≤ maxLen ∧ base ≤ g ∧ g < w.heap.size ∧ w.ownsRow base 3 1 (.slice (some ⟨g, 0, none⟩) cap cap) cap ((zs ++ filli zs.length (cap - zs.length)).map (Value.int .i64))

theorem lend_startI {w : World} {base g cap : Nat} {zs : List Int} {cur : List Value} (hcl : cur.length = cap) (hct : cur.take (zs.length + 40) = (zs ++ List.replicate 40 (-71)).map (Value.int .i64))
    (hown : w.ownsRow base 3 1 (.slice (some ⟨g, 0, none⟩) cap cap) cap cur) :
    ∃ rest : List Value, rest.length = cap - zs.length ∧ w.ownsRow base 3 1 (.slice (some ⟨g, 0, none⟩) cap cap) cap ((zs ++ filli zs.length (zs.length - zs.length)).map (Value.int .i64) ++ rest) := by
  refine ⟨cur.drop zs.length, by simp [hcl], ?_⟩
  have e : cur.take zs.length = zs.map (Value.int .i64) := by
    have := congrArg (List.take zs.length) hct
    rw [List.take_take, Nat.min_eq_left (by omega)] at this
    rw [this, List.map_append, List.take_append_of_le_length (by simp), List.take_of_length_le (by simp)]
  have e2 : (zs ++ filli zs.length (zs.length - zs.length)).map (Value.int .i64) ++ cur.drop zs.length = cur := by
    rw [Nat.sub_self]
    simp only [filli, List.range'_zero, List.map_nil, List.append_nil]
    rw [← e, List.take_append_drop]
  rw [e2]
  exact hown

theorem lend_stepI {w : World} {base g cap k : Nat} {zs : List Int} {rest : List Value} (h1 : zs.length ≤ k) (h2 : k < cap) (hr : rest.length = cap - k)
    (hown : w.ownsRow base 3 1 (.slice (some ⟨g, 0, none⟩) cap cap) cap ((zs ++ filli zs.length (k - zs.length)).map (Value.int .i64) ++ rest)) :
    ∃ rest' : List Value, rest'.length = cap - (k + 1) ∧ (w.setCell ⟨g, k, none⟩ (.int .i64 (fillI k))).ownsRow base 3 1 (.slice (some ⟨g, 0, none⟩) cap cap) cap ((zs ++ filli zs.length (k + 1 - zs.length)).map (Value.int .i64) ++ rest') := by
  obtain ⟨r, rest', rfl⟩ : ∃ r rest', rest = r :: rest' := by
    cases rest with
    | nil => simp at hr; omega
    | cons r l => exact ⟨r, l, rfl⟩
  refine ⟨rest', by simp at hr; omega, ?_⟩
  have h := (hown.stored k (.int .i64 (fillI k))).1
  rw [set_midI _ _ _ _ k (by simp [filli_len]; omega)] at h
  have e : (zs ++ filli zs.length (k + 1 - zs.length)).map (Value.int .i64) = (zs ++ filli zs.length (k - zs.length)).map (Value.int .i64) ++ [Value.int .i64 (fillI k)] := by
    rw [show k + 1 - zs.length = (k - zs.length) + 1 from by omega, filli_succ, show zs.length + (k - zs.length) = k from by omega]
    simp
  rw [e]
  exact h

theorem lend_cellI {w : World} {base g cap k : Nat} {xs : List Value} (hown : w.ownsRow base 3 1 (.slice (some ⟨g, 0, none⟩) cap cap) cap xs) (h2 : k < cap) : ∃ u, w.cell? ⟨g, k, none⟩ = some u := by
  have h1 := hown.1
  simp only [Nat.mul_one] at h1
  refine ⟨xs[k]'(by omega), ?_⟩
  rw [hown.cellAt k (by omega)]
  simp [show k < xs.length from by omega]

set_option maxRecDepth 100000 in
theorem lendInts_any (v : Value) (zs : List Int) (w : World) (hr : Rd .i64 w v zs) (hz : (zs.length + 40) * 8 ≤ 140737488355328) :
    Calls Try.prog 57 #[v] w fun e w' => ∃ g cap, e = .returned (.slice (some ⟨g, 0, none⟩) cap cap) ∧ LentI w' w.heap.size g cap zs ∧ Below w.heap.size w w' := by
  have hlen : ∃ ao cap, v = .slice ao zs.length cap := by obtain ⟨ao, cap, hv, _⟩ := hr; exact ⟨ao, cap, hv⟩
  obtain ⟨i0, hi, hz0, hz1, hz2⟩ := info_parts Try.info_i64
  obtain ⟨ao, cp, hv⟩ := hlen
  subst hv
  have HR : Hid (Rd .i64 w (.slice ao zs.length cp) zs) := hr
  clear hr
  go_enter Try.func57, Try.ntmps57
  go_wp2_with fail
  refine (copyInts_any _ zs _ HR.out (by omega)).mono ?_
  rintro e w1 ⟨v1, rfl, hown1, hb1⟩
  go_wp2_with fail
  go_loopw [3, 4] (fun o i wr => ∃ k : Nat, k ≤ 40 ∧ i = .int .i64 k ∧ wr.ownsRow w.heap.size 3 1 o (zs.length + k) ((zs ++ List.replicate k (-71)).map (Value.int .i64)) ∧ Below w.heap.size w wr) (fun _ i _ => 40 - (intOf i).toNat)
  case atStart => exact ⟨0, Nat.zero_le _, rfl, by simpa using hown1, hb1⟩
  case round =>
    obtain ⟨k, hk, rfl, hown, hb⟩ := hrel
    have hz' : w.heap.size ≤ wr.heap.size := hb.size
    by_cases hlt : k < 40
    · have HT : Hid ((zs ++ List.replicate k (-71)).map (Value.int .i64) ++ [Value.int .i64 (-71)] = (zs ++ List.replicate (k + 1) (-71)).map (Value.int .i64)) := map_repI zs k
      generalize (zs ++ List.replicate k (-71)).map (Value.int .i64) = xs at hown HT
      go_wp2_with (at_builtin; refine wpList_append_own _ rfl _ _ 26 rfl w.heap.size 3 i0 (.int .i64 0) 1 8 Try.underlying26 hi hz0 hz1 hz2 rfl (by decide) _ _ _ rfl (hown.alloc _) ⟨wr.heap.size, 0, none⟩ 1 1 [.int .i64 (-71)] rfl rfl (cell_one_new _ _ _) (one_i64 _) (by unfold maxLen; omega) (by omega) (by simp; omega) ?_; intro v' w' hown' hg' hx')
      go_roundw
      case rel => exact ⟨k + 1, by omega, by go_num, by rw [← HT.out]; exact hown', below_push hb hown hg'⟩
      case measure => simp [intOf]; omega
    · have hke : k = 40 := by omega
      subst hke
      obtain ⟨g, cap, rfl, hbg, hgl, hnc, hcm⟩ := own_some hown (by omega)
      obtain ⟨cur, hcl, hct, _, _, hown2⟩ := own_full hown
      have hcm' : cap ≤ 9223372036854775807 := hcm
      clear hown1 hown hb1 hcm
      go_wp2
      have H2 := lend_startI (g := g) hcl hct hown2
      have HH : Hid (∃ rest : List Value, rest.length = cap - zs.length ∧ wr.ownsRow w.heap.size 3 1 (.slice (some ⟨g, 0, none⟩) cap cap) cap ((zs ++ filli zs.length (zs.length - zs.length)).map (Value.int .i64) ++ rest)) := H2
      clear H2 hct hown2 hcl
      go_loopw [5] (fun i wq => ∃ (k : Nat) (rest : List Value), zs.length ≤ k ∧ k ≤ cap ∧ i = .int .i64 k ∧ rest.length = cap - k ∧ wq.ownsRow w.heap.size 3 1 (.slice (some ⟨g, 0, none⟩) cap cap) cap ((zs ++ filli zs.length (k - zs.length)).map (Value.int .i64) ++ rest) ∧ Below w.heap.size w wq) (fun i _ => cap - (intOf i).toNat)
      case atStart =>
        obtain ⟨rest, hrl, hro⟩ := HH.out
        exact ⟨zs.length, rest, Nat.le_refl _, by omega, rfl, hrl, hro, hb⟩
      case round =>
        obtain ⟨k, rest, hk1, hk2, rfl, hrl, howq, hbq⟩ := hrel
        clear HH hb
        by_cases hlt : k < cap
        · obtain ⟨u, hcx⟩ := lend_cellI howq hlt
          have hfz := howq.frozenAt k
          have HS := lend_stepI hk1 hlt hrl howq
          have HS' : Hid (∃ rest' : List Value, rest'.length = cap - (k + 1) ∧ (wr.setCell ⟨g, k, none⟩ (.int .i64 (fillI k))).ownsRow w.heap.size 3 1 (.slice (some ⟨g, 0, none⟩) cap cap) cap ((zs ++ filli zs.length (k + 1 - zs.length)).map (Value.int .i64) ++ rest')) := HS
          clear HS howq hrl
          go_wp2
          go_roundw
          case rel =>
            obtain ⟨rest', hrl', hro'⟩ := HS'.out
            exact ⟨k + 1, rest', by omega, by omega, by go_num, hrl', hro', hbq.setCell (p := ⟨g, k, none⟩) hbg _⟩
          case measure => simp [intOf]; omega
        · have hke : k = cap := by omega
          subst hke
          have hrn : rest = [] := List.eq_nil_of_length_eq_zero (by omega)
          subst hrn
          rw [List.append_nil] at howq
          have hgl2 : g < wr.heap.size := (howq.lt g rfl).2
          have HS' : Hid (LentI wr w.heap.size g k zs) := ⟨hnc, by unfold maxLen; omega, hbg, hgl2, howq⟩
          clear howq
          go_wp2
          go_ret
          exact ⟨g, k, rfl, HS'.out, hbq⟩

theorem LentI.rd {w : World} {base g cap : Nat} {zs : List Int} (h : LentI w base g cap zs) : Rd .i64 w (.slice (some ⟨g, 0, none⟩) zs.length cap) zs := by
  obtain ⟨hl1, hl2, hl3, hl4, hown⟩ := h
  refine ⟨_, cap, rfl, by omega, hl2, fun _ => ⟨g, 0, rfl, hl4, fun i hi => ?_⟩⟩
  rw [Nat.zero_add, hown.cellAt i (by omega), List.getElem?_map, List.getElem?_append_left hi]
  simp [hi]
theorem LentI.ext {w w' : World} {base g cap : Nat} {zs : List Int} (h : LentI w base g cap zs) (hb : Below w.heap.size w w') : LentI w' base g cap zs :=
  ⟨h.1, h.2.1, h.2.2.1, Nat.lt_of_lt_of_le h.2.2.2.1 hb.size, own_ext h.2.2.2.2 hb⟩

set_option maxRecDepth 100000 in
theorem keptInts_any (v : Value) (zs : List Int) (g cap base : Nat) (w : World) (hr : Rd .i64 w v zs) (hL : LentI w base g cap zs) :
    Calls Try.prog 59 #[.slice (some ⟨g, 0, none⟩) cap cap, v] w fun e w' => e = .returned (.bool true) ∧ Below w.heap.size w w' := by
  have HRD : Hid (Rd .i64 w (.slice (some ⟨g, 0, none⟩) zs.length cap) zs) := hL.rd
  have HR : Hid (Rd .i64 w v zs) := hr
  obtain ⟨hl1, hl2, hl3, hl4, hown⟩ := hL
  have hcell : ∀ k, zs.length ≤ k → k < cap → w.cell? ⟨g, k, none⟩ = some (.int .i64 (wrap64 (-71 - (k : Int)))) := by
    intro k hk1 hk2
    rw [hown.cellAt k (by omega), List.getElem?_map, List.getElem?_append_right (by omega), filli_get _ _ _ (by omega)]
    simp [fillI, show zs.length + (k - zs.length) = k from by omega]
  obtain ⟨ao, cp, rfl, _⟩ := hr
  clear hown
  unfold maxLen at hl2
  go_enter Try.func59, Try.ntmps59
  go_wp2
  go_loop [6] (fun i => ∃ k : Nat, zs.length ≤ k ∧ k ≤ cap ∧ i = .int .i64 k) (fun i => cap - (intOf i).toNat)
  case atStart => exact ⟨zs.length, Nat.le_refl _, by omega, rfl⟩
  case round =>
    obtain ⟨k, hk1, hk2, rfl⟩ := hrel
    by_cases hlt : k < cap
    · have hc := hcell k hk1 hlt
      clear hcell
      go_wp2
      go_round
      case rel => exact ⟨k + 1, by omega, by omega, by go_num⟩
      case measure => simp [intOf]; omega
    · clear hcell
      have hd : decide ((zs.length : Int) + 40 ≤ (cap : Int)) = true := by simp; omega
      go_wp2_with fail
      refine (sameInts_any _ _ zs _ HRD.out HR.out).mono ?_
      rintro e w1 ⟨rfl, hb1⟩
      have HW : Hid (Below w.heap.size w w1) := hb1
      clear hb1
      go_wp2
      go_ret
      exact ⟨rfl, HW.out⟩
end Go.Proofs.Ytbfbaknfeleddaa
