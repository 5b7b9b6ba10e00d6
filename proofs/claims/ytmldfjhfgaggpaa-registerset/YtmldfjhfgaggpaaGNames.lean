/- register's Names: the keys of the map, sorted. -/
import Derived.Test.YtmldfjhfgaggpaaGSort
import Derived.Test.YtmldfjhfgaggpaaGBank
import Derived.Lib.SlKeysI
import Derived.Sort.OwnSortedInts
import Derived.Maps.RangeWalk
namespace Go.Proofs.Ytmldfjhfgaggpaa
open Go.RowKit Go.Maps Go.Sort
variable {F : Nat → Prop}

/-- The names below n that hold anything. -/
def nms (m : Int → Option Rg) (n : Nat) : List Int := ((List.range n).map (fun i : Nat => (i : Int))).filter (fun k => (m k).isSome)
theorem nms_step (m : Int → Option Rg) (n : Nat) : nms m (n + 1) = if (m (n : Int)).isSome = true then nms m n ++ [(n : Int)] else nms m n := by
  unfold nms
  rw [List.range_succ, List.map_append, List.filter_append]
  cases h : (m (n : Int)).isSome <;> simp [h]
theorem nms_mem (m : Int → Option Rg) (n : Nat) (x : Int) : x ∈ nms m n ↔ (0 ≤ x ∧ x < n) ∧ (m x).isSome = true := by
  unfold nms
  rw [List.mem_filter, List.mem_map]
  constructor
  · rintro ⟨⟨i, hi, rfl⟩, h⟩
    rw [List.mem_range] at hi
    exact ⟨⟨by omega, by omega⟩, h⟩
  · rintro ⟨⟨h0, h1⟩, h⟩
    exact ⟨⟨x.toNat, by rw [List.mem_range]; omega, by omega⟩, h⟩
theorem nms_lt (m : Int → Option Rg) (n : Nat) : (nms m n).Pairwise (· < ·) := by
  unfold nms
  refine List.Pairwise.filter _ (List.pairwise_map.2 ?_)
  exact List.pairwise_lt_range.imp (fun h => by omega)
theorem nms_len (m : Int → Option Rg) (n : Nat) : (nms m n).length ≤ n := by
  unfold nms
  refine Nat.le_trans (List.length_filter_le _ _) ?_
  simp
theorem sort_names {m : Int → Option Rg} {ss : List Int} (hnd : ss.Nodup) (hm : ∀ x, x ∈ ss ↔ (m x).isSome = true) (hr : ∀ x, (m x).isSome = true → 0 ≤ x ∧ x < 128) : ss.mergeSort (fun x y => decide (x ≤ y)) = nms m 128 := by
  have hp : ss.Perm (nms m 128) := (List.perm_ext_iff_of_nodup hnd ((nms_lt m 128).imp (fun h => by omega))).2 (fun x => by
    rw [hm, nms_mem]
    exact ⟨fun h => ⟨hr x h, h⟩, fun h => h.2⟩)
  have h1 := mergeSort_of_perm_i hp
  refine Eq.trans h1 (List.mergeSort_of_pairwise ((nms_lt m 128).imp (fun h => by simp; omega)))
theorem nodup_le : ∀ (n : Nat) (l : List Int), l.Nodup → (∀ x ∈ l, 0 ≤ x ∧ x < (n : Int)) → l.length ≤ n
  | 0, l, _, h => by
    cases l with
    | nil => simp
    | cons a l => have := h a (by simp); omega
  | n + 1, l, hnd, h => by
    by_cases hn : (n : Int) ∈ l
    · have := nodup_le n (l.erase (n : Int)) (hnd.erase _) (fun x hx => by
        have h1 := (hnd.mem_erase_iff).1 hx
        have := h x h1.2
        omega)
      rw [List.length_erase_of_mem hn] at this
      omega
    · have := nodup_le n l hnd (fun x hx => by
        have h1 := h x hx
        have : x ≠ (n : Int) := fun e => hn (e ▸ hx)
        omega)
      omega
theorem Bk.size {w : World} {bm N : Nat} {m : Int → Option Rg} {D : DataW Value} (hown : w.ownsMap Try.prog 3 heldR bm N D) (he : ∀ k, In64 k → Ent F w D k (m k)) (hr : ∀ k, (m k).isSome = true → 0 ≤ k ∧ k < 128) : Maps.size D ≤ 128 ∧ ∀ x, In64 x → Maps.has D (.int .i64 x) = (m x).isSome := by
  have hh : ∀ x, In64 x → Maps.has D (.int .i64 x) = (m x).isSome := fun x hx => by
    have := he x hx
    cases hm : m x with
    | none => rw [hm] at this; exact this
    | some r => rw [hm] at this; exact this.1
  refine ⟨?_, hh⟩
  obtain ⟨es, hD, hpw, _⟩ := hown.entries law
  obtain ⟨es', hD', hko⟩ := hown.keysOf
  obtain rfl : es = es' := by rw [hD] at hD'; simpa using hD'
  have hwf := intKeys_wf hown Try.underlying3
  subst hD
  have hk : ∀ p ∈ es, ∃ x, p.1 = .int .i64 x := fun p hp => by
    obtain ⟨v, hv⟩ := hko p hp
    obtain ⟨x, _, hx, _⟩ := Maps.keyOf_i64 Try.underlying3 hv
    exact ⟨x, hx⟩
  have hl : Maps.size (DataW.map es) = (intKeys (DataW.map es)).length := by simp [Maps.size, intKeys]
  rw [hl]
  refine nodup_le 128 _ ?_ (fun x hx => ?_)
  · show (es.map fun p => Go.intOf p.1).Nodup
    refine List.pairwise_map.2 (hpw.imp_of_mem fun {p q} hp' hq' hne e => hne ?_)
    obtain ⟨a, ha⟩ := hk p hp'
    obtain ⟨c, hc⟩ := hk q hq'
    rw [ha, hc] at e ⊢
    exact congrArg _ e
  · have hw := hwf x hx
    refine hr x ?_
    rw [← hh x hw]
    obtain ⟨p, hp, rfl⟩ := List.mem_map.1 hx
    obtain ⟨y, hy⟩ := hk p hp
    rw [Maps.has_eq, List.any_eq_true]
    exact ⟨p, hp, by rw [hy]; simp [Lit.sameKey, Go.intOf]⟩

set_option maxRecDepth 100000 in
set_option maxHeartbeats 2000000 in
theorem Names_any (w : World) (b bm N : Nat) (m : Int → Option Rg) (p : Int) (hB : Bk F w b bm N m p) (hr : ∀ k, (m k).isSome = true → 0 ≤ k ∧ k < 128) :
    Calls Try.prog 23 #[.pointer (some ⟨b, 0, none⟩)] w fun e w' => ∃ v, e = .returned v ∧ OwnI w' w.heap.size v (nms m 128) ∧ Below w.heap.size w w' := by
  obtain ⟨i0, hi, hz0, hz1, hz2⟩ := info_parts Try.info_i64
  obtain ⟨hc0, hc1, _⟩ := hB.cells
  have hlt := hB.lt
  have HBL := hidIt hlt
  obtain ⟨hbk, _, _, D, hown, he⟩ := hB
  have HSZ := hidIt (Bk.size hown he hr).1
  have HHS := hidIt (Bk.size hown he hr).2
  have HOW := hidIt hown
  have HRR := hidIt hr
  clear he hbk hlt hr
  go_enter Try.func23, Try.ntmps23
  go_upto_region 2 with (first
    | (at_len; refine wpList_len_own _ rfl _ 68 rfl 3 73 Try.underlying68 _ bm N _ rfl hown ?_)
    | (at_make; refine wpList_make_own _ rfl _ _ 29 rfl w.heap.size 3 i0 (.int .i64 0) 1 Try.underlying29 hi hz0 hz1 _ _ _ (Maps.size D) rfl rfl rfl (by have := HSZ.out; rw [hz2]; omega) (by have := HSZ.out; unfold maxLen; omega) (Nat.le_refl _) ?_; intro w1 hrow1 hg1)
    | go_in)
  have hc0' : w1.cell? ⟨b, 0, none⟩ = some (.map (some bm)) := by
    rw [← hc0]
    unfold World.cell?
    simp only [hg1.block b HBL.out.1 (by simp)]
  go_wp2_with (first
    | (at_range; refine wpList_range_own _ rfl _ 68 rfl 3 73 law Try.underlying68 _ bm N _ rfl (hown.kept hg1 (by simp)) ?_; intro w0 hrg0 hg0 hs0)
    | go_in)
  go_frame
  clear hs0
  go_loopw [3] (fun v wr => ∃ (left : Lit → Bool) (cnt : Nat) (ss : List Int), wr.ranges Try.prog 3 heldR bm w1.heap.size N D left cnt ∧ ss.length + cnt ≤ Maps.size D ∧
      wr.ownsRow w.heap.size 3 1 v ss.length (ss.map (Value.int .i64)) ∧ v ≠ .slice none 0 0 ∧ CollectedI D left ss ∧ Below w.heap.size w wr)
    (fun _ wr => wr.rangeLeft bm w1.heap.size)
  case atStart =>
    exact ⟨_, _, [], hrg0, by simp, hrow1.kept hg0 (Or.inr (by simp [Value.ownBlock])), by simp, CollectedI.start D,
      ((Below.refl _ _).grown hg1 (Nat.le_refl _) (fun j hj => by cases hj)).grown hg0 hg1.size (fun j hj => by cases hj)⟩
  case round =>
    obtain ⟨left, cnt, ss, hrg, hcs, hrow, hnn, hC, hnx⟩ := hrel
    go_wp2_with (first
      | (at_next; refine wpList_next_ranges _ rfl _ rfl 3 law heldR (Value.int .i64) (fun v : Value => v) (fun key kl hk => by obtain ⟨x, hx, _⟩ := Maps.keyOf_i64 Try.underlying3 hk; exact ⟨x, hx⟩) (fun v y hv => ⟨v, rfl⟩) bm w1.heap.size N _ _ _ rfl hrg ?_ ?_)
      | go_in)
    · intro hc9 hl0
      rcases hrow.2 with ⟨hnil, _⟩ | ⟨g, cap, cur, rfl, hbase, hb, h1, h2, h3, h4⟩
      · exact absurd hnil hnn
      have hH : Holds (Value.int .i64) wr g 0 ss.toArray := holds_of_blockI hb (by simpa using h4)
      have hgl : g < wr.heap.size := (Array.getElem?_eq_some_iff.1 hb).1
      have hsl : ss.length < 4611686018427387904 := by have := HSZ.out; omega
      have hc := sort_ints g 0 cap ss wr hH hgl hsl
      go_wp2_with (go_at_call 46; refine hc.mono ?_; rintro e w' ⟨rfl, nn, os, rfl⟩)
      go_ret
      have hms : ss.mergeSort (fun x y => decide (x ≤ y)) = nms m 128 := by
        refine sort_names hC.1 (fun x => ?_) HRR.out
        constructor
        · intro hx
          have hw := intKeys_wf HOW.out Try.underlying3 x ((hC.perm HOW.out law Try.underlying3 hl0).mem_iff.1 hx)
          rw [← HHS.out x hw]
          exact ((hC.2 x).1 hx).1
        · intro hx
          have hxr := HRR.out x hx
          exact (hC.2 x).2 ⟨by rw [HHS.out x (In64.of (by omega) (by omega))]; exact hx, hl0 _⟩
      refine ⟨_, rfl, ?_, hnx.grown (grownBy_sortedI _) hnx.size (fun j hj => by cases hj; exact hbase)⟩
      have hl : (nms m 128).length = ss.length := by rw [← hms]; simp
      unfold OwnI
      rw [hl, hms]
      exact ownsRow_sortedI hl hbase hb h1 h2 h3
    · intro x c kl yd yp w2 cnt2 hkey hlk hv hat hrg2 hlt hg2 hs2 hen
      obtain ⟨x', ex, rfl, _⟩ := Maps.keyOf_i64 Try.underlying3 hkey
      obtain rfl : x = x' := encZ_inj ex
      have hrow2 := hrow.kept hg2 (Or.inr (row_ne_iter hrow hrg).symm)
      have HX := hidIt (show ss.length + 1 ≤ 128 by have := HSZ.out; omega)
      clear hs2
      go_wp2_with (first
        | (at_builtin; refine wpList_append_own _ rfl _ _ 29 rfl w.heap.size 3 i0 (.int .i64 0) 1 8 Try.underlying29 hi hz0 hz1 hz2 rfl (by decide) _ _ _ rfl (hrow2.alloc _) ⟨w2.heap.size, 0, none⟩ 1 1 [.int .i64 x] rfl rfl (cell_one_new _ _ _) (by simp [Value.oneCell']) (by have := HX.out; unfold maxLen at *; omega) (by have := HX.out; omega) (by have := hnx.size; have := hg2.size; simp; omega) ?_; intro v' w3 hown' hg3 hnil3; go_frame)
        | go_in)
      have hrg3 := (hrg2.alloc _).kept hg3 (row_ne_low hrow2 HBL.out.2.1) (row_ne_iter hrow2 hrg2)
      go_roundw
      case rel =>
        refine ⟨_, cnt2, ss ++ [x], hrg3, by simp; omega, by simpa using hown', fun hv' => by have := (hnil3.1 hv').2; omega, hC.step hlk hat, ?_⟩
        exact ((hnx.grown hg2 hnx.size (fun j hj => by cases hj; exact hg1.size)).alloc (by have := hnx.size; have := hg2.size; omega) _).grown hg3 (by have := hnx.size; have := hg2.size; simp; omega) (fun j hj => (hrow2.lt j hj).1)
      case measure => rw [hrg3.left_eq, hrg.left_eq]; exact hlt
end Go.Proofs.Ytmldfjhfgaggpaa
