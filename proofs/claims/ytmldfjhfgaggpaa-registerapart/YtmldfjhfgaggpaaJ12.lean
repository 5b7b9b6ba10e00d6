import Derived.Test.YtmldfjhfgaggpaaJ09
import Derived.Test.YtmldfjhfgaggpaaJ04
import Derived.Test.YtmldfjhfgaggpaaJ11
import Derived.Lib.SlKeysI
import Derived.Sort.OwnSortedInts
import Derived.Maps.RangeWalk
import Derived.Laws.Rows
import Derived.Laws.Tables
import Derived.Shelf.SlMaps.Clone
/- register's Names: the keys of the map, sorted. -/
namespace Go.Proofs.Ytmldfjhfgaggpaa
open Go.RowKit Go.Maps Go.Sort
variable {F : Nat → Prop}

/-- The names below n that hold anything. -/
def nms (m : Int → Option Rg) (n : Nat) : List Int := ((List.range n).map (fun i : Nat => (i : Int))).filter (fun k => (m k).isSome)
theorem nms_step (m : Int → Option Rg) (n : Nat) : nms m (n + 1) = if (m (n : Int)).isSome = true then nms m n ++ [(n : Int)] else nms m n := by
  unfold nms
  rw [List.range_succ, List.map_append, List.filter_append]
  cases h : (m (n : Int)).isSome <;> simp [h]
theorem nms_mem (m : Int → Option Rg) (n : Nat) (x : Int) : x ∈ nms m n ↔ (0 ≤ x ∧ x < n) ∧ (m x).isSome = true := by
  unfold nms
  rw [List.mem_filter, List.mem_map]
  constructor
  · rintro ⟨⟨i, hi, rfl⟩, h⟩
    rw [List.mem_range] at hi
    exact ⟨⟨by omega, by omega⟩, h⟩
  · rintro ⟨⟨h0, h1⟩, h⟩
    exact ⟨⟨x.toNat, by rw [List.mem_range]; omega, by omega⟩, h⟩
theorem nms_lt (m : Int → Option Rg) (n : Nat) : (nms m n).Pairwise (· < ·) := by
  unfold nms
  refine List.Pairwise.filter _ (List.pairwise_map.2 ?_)
  exact List.pairwise_lt_range.imp (fun h => by omega)
theorem nms_len (m : Int → Option Rg) (n : Nat) : (nms m n).length ≤ n := by
  unfold nms
  refine Nat.le_trans (List.length_filter_le _ _) ?_
  simp
theorem sort_names {m : Int → Option Rg} {ss : List Int} (hnd : ss.Nodup) (hm : ∀ x, x ∈ ss ↔ (m x).isSome = true) (hr : ∀ x, (m x).isSome = true → 0 ≤ x ∧ x < 128) : ss.mergeSort (fun x y => decide (x ≤ y)) = nms m 128 := by
  have hp : ss.Perm (nms m 128) := (List.perm_ext_iff_of_nodup hnd ((nms_lt m 128).imp (fun h => by omega))).2 (fun x => by
    rw [hm, nms_mem]
    exact ⟨fun h => ⟨hr x h, h⟩, fun h => h.2⟩)
  have h1 := mergeSort_of_perm_i hp
  refine Eq.trans h1 (List.mergeSort_of_pairwise ((nms_lt m 128).imp (fun h => by simp; omega)))
theorem nodup_le : ∀ (n : Nat) (l : List Int), l.Nodup → (∀ x ∈ l, 0 ≤ x ∧ x < (n : Int)) → l.length ≤ n
  | 0, l, _, h => by
    cases l with
    | nil => simp
    | cons a l => have := h a (by simp); omega
  | n + 1, l, hnd, h => by
    by_cases hn : (n : Int) ∈ l
    · have := nodup_le n (l.erase (n : Int)) (hnd.erase _) (fun x hx => by
        have h1 := (hnd.mem_erase_iff).1 hx
        have := h x h1.2
        omega)
      rw [List.length_erase_of_mem hn] at this
      omega
    · have := nodup_le n l hnd (fun x hx => by
        have h1 := h x hx
        have : x ≠ (n : Int) := fun e => hn (e ▸ hx)
        omega)
      omega
theorem Bk.size {w : World} {bm N : Nat} {m : Int → Option Rg} {D : DataW Value} (hown : w.ownsMap Try.prog 3 heldR bm N D) (he : ∀ k, In64 k → Ent F w D k (m k)) (hr : ∀ k, (m k).isSome = true → 0 ≤ k ∧ k < 128) : Maps.size D ≤ 128 ∧ ∀ x, In64 x → Maps.has D (.int .i64 x) = (m x).isSome := by
  have hh : ∀ x, In64 x → Maps.has D (.int .i64 x) = (m x).isSome := fun x hx => by
    have := he x hx
    cases hm : m x with
    | none => rw [hm] at this; exact this
    | some r => rw [hm] at this; exact this.1
  refine ⟨?_, hh⟩
  obtain ⟨es, hD, hpw, _⟩ := hown.entries law
  obtain ⟨es', hD', hko⟩ := hown.keysOf
  obtain rfl : es = es' := by rw [hD] at hD'; simpa using hD'
  have hwf := intKeys_wf hown Try.underlying3
  subst hD
  have hk : ∀ p ∈ es, ∃ x, p.1 = .int .i64 x := fun p hp => by
    obtain ⟨v, hv⟩ := hko p hp
    obtain ⟨x, _, hx, _⟩ := Maps.keyOf_i64 Try.underlying3 hv
    exact ⟨x, hx⟩
  have hl : Maps.size (DataW.map es) = (intKeys (DataW.map es)).length := by simp [Maps.size, intKeys]
  rw [hl]
  refine nodup_le 128 _ ?_ (fun x hx => ?_)
  · show (es.map fun p => Go.intOf p.1).Nodup
    refine List.pairwise_map.2 (hpw.imp_of_mem fun {p q} hp' hq' hne e => hne ?_)
    obtain ⟨a, ha⟩ := hk p hp'
    obtain ⟨c, hc⟩ := hk q hq'
    rw [ha, hc] at e ⊢
    exact congrArg _ e
  · have hw := hwf x hx
    refine hr x ?_
    rw [← hh x hw]
    obtain ⟨p, hp, rfl⟩ := List.mem_map.1 hx
    obtain ⟨y, hy⟩ := hk p hp
    rw [Maps.has_eq, List.any_eq_true]
    exact ⟨p, hp, by rw [hy]; simp [Lit.sameKey, Go.intOf]⟩

set_option maxRecDepth 100000 in
set_option maxHeartbeats 2000000 in
theorem Names_any (w : World) (b bm N : Nat) (m : Int → Option Rg) (p : Int) (hB : Bk F w b bm N m p) (hr : ∀ k, (m k).isSome = true → 0 ≤ k ∧ k < 128) :
    Calls Try.prog 23 #[.pointer (some ⟨b, 0, none⟩)] w fun e w' => ∃ v, e = .returned v ∧ OwnI w' w.heap.size v (nms m 128) ∧ Below w.heap.size w w' := by
  obtain ⟨i0, hi, hz0, hz1, hz2⟩ := info_parts Try.info_i64
  obtain ⟨hc0, hc1, _⟩ := hB.cells
  have hlt := hB.lt
  have HBL := hidIt hlt
  obtain ⟨hbk, _, _, D, hown, he⟩ := hB
  have HSZ := hidIt (Bk.size hown he hr).1
  have HHS := hidIt (Bk.size hown he hr).2
  have HOW := hidIt hown
  have HRR := hidIt hr
  clear he hbk hlt hr
  go_enter Try.func23, Try.ntmps23
  go_upto_region 2 with (first
    | (at_len; refine wpList_len_own _ rfl _ 68 rfl 3 73 Try.underlying68 _ bm N _ rfl hown ?_)
    | (at_make; refine wpList_make_own _ rfl _ _ 29 rfl w.heap.size 3 i0 (.int .i64 0) 1 Try.underlying29 hi hz0 hz1 _ _ _ (Maps.size D) rfl rfl rfl (by have := HSZ.out; rw [hz2]; omega) (by have := HSZ.out; unfold maxLen; omega) (Nat.le_refl _) ?_; intro w1 hrow1 hg1)
    | go_in)
  have hc0' : w1.cell? ⟨b, 0, none⟩ = some (.map (some bm)) := by
    rw [← hc0]
    unfold World.cell?
    simp only [hg1.block b HBL.out.1 (by simp)]
  go_wp2_with (first
    | (at_range; refine wpList_range_own _ rfl _ 68 rfl 3 73 law Try.underlying68 _ bm N _ rfl (hown.kept hg1 (by simp)) ?_; intro w0 hrg0 hg0 hs0)
    | go_in)
  go_frame
  clear hs0
  go_loopw [3] (fun v wr => ∃ (left : Lit → Bool) (cnt : Nat) (ss : List Int), wr.ranges Try.prog 3 heldR bm w1.heap.size N D left cnt ∧ ss.length + cnt ≤ Maps.size D ∧
      wr.ownsRow w.heap.size 3 1 v ss.length (ss.map (Value.int .i64)) ∧ v ≠ .slice none 0 0 ∧ CollectedI D left ss ∧ Below w.heap.size w wr)
    (fun _ wr => wr.rangeLeft bm w1.heap.size)
  case atStart =>
    exact ⟨_, _, [], hrg0, by simp, hrow1.kept hg0 (Or.inr (by simp [Value.ownBlock])), by simp, CollectedI.start D,
      ((Below.refl _ _).grown hg1 (Nat.le_refl _) (fun j hj => by cases hj)).grown hg0 hg1.size (fun j hj => by cases hj)⟩
  case round =>
    obtain ⟨left, cnt, ss, hrg, hcs, hrow, hnn, hC, hnx⟩ := hrel
    go_wp2_with (first
      | (at_next; refine wpList_next_ranges _ rfl _ rfl 3 law heldR (Value.int .i64) (fun v : Value => v) (fun key kl hk => by obtain ⟨x, hx, _⟩ := Maps.keyOf_i64 Try.underlying3 hk; exact ⟨x, hx⟩) (fun v y hv => ⟨v, rfl⟩) bm w1.heap.size N _ _ _ rfl hrg ?_ ?_)
      | go_in)
    · intro hc9 hl0
      rcases hrow.2 with ⟨hnil, _⟩ | ⟨g, cap, cur, rfl, hbase, hb, h1, h2, h3, h4⟩
      · exact absurd hnil hnn
      have hH : Holds (Value.int .i64) wr g 0 ss.toArray := holds_of_blockI hb (by simpa using h4)
      have hgl : g < wr.heap.size := (Array.getElem?_eq_some_iff.1 hb).1
      have hsl : ss.length < 4611686018427387904 := by have := HSZ.out; omega
      have hc := sort_ints g 0 cap ss wr hH hgl hsl
      go_wp2_with (go_at_call 46; refine hc.mono ?_; rintro e w' ⟨rfl, nn, os, rfl⟩)
      go_ret
      have hms : ss.mergeSort (fun x y => decide (x ≤ y)) = nms m 128 := by
        refine sort_names hC.1 (fun x => ?_) HRR.out
        constructor
        · intro hx
          have hw := intKeys_wf HOW.out Try.underlying3 x ((hC.perm HOW.out law Try.underlying3 hl0).mem_iff.1 hx)
          rw [← HHS.out x hw]
          exact ((hC.2 x).1 hx).1
        · intro hx
          have hxr := HRR.out x hx
          exact (hC.2 x).2 ⟨by rw [HHS.out x (In64.of (by omega) (by omega))]; exact hx, hl0 _⟩
      refine ⟨_, rfl, ?_, hnx.grown (grownBy_sortedI _) hnx.size (fun j hj => by cases hj; exact hbase)⟩
      have hl : (nms m 128).length = ss.length := by rw [← hms]; simp
      unfold OwnI
      rw [hl, hms]
      exact ownsRow_sortedI hl hbase hb h1 h2 h3
    · intro x c kl yd yp w2 cnt2 hkey hlk hv hat hrg2 hlt hg2 hs2 hen
      obtain ⟨x', ex, rfl, _⟩ := Maps.keyOf_i64 Try.underlying3 hkey
      obtain rfl : x = x' := encZ_inj ex
      have hrow2 := hrow.kept hg2 (Or.inr (row_ne_iter hrow hrg).symm)
      have HX := hidIt (show ss.length + 1 ≤ 128 by have := HSZ.out; omega)
      clear hs2
      go_wp2_with (first
        | (at_builtin; refine wpList_append_own _ rfl _ _ 29 rfl w.heap.size 3 i0 (.int .i64 0) 1 8 Try.underlying29 hi hz0 hz1 hz2 rfl (by decide) _ _ _ rfl (hrow2.alloc _) ⟨w2.heap.size, 0, none⟩ 1 1 [.int .i64 x] rfl rfl (cell_one_new _ _ _) (by simp [Value.oneCell']) (by have := HX.out; unfold maxLen at *; omega) (by have := HX.out; omega) (by have := hnx.size; have := hg2.size; simp; omega) ?_; intro v' w3 hown' hg3 hnil3; go_frame)
        | go_in)
      have hrg3 := (hrg2.alloc _).kept hg3 (row_ne_low hrow2 HBL.out.2.1) (row_ne_iter hrow2 hrg2)
      go_roundw
      case rel =>
        refine ⟨_, cnt2, ss ++ [x], hrg3, by simp; omega, by simpa using hown', fun hv' => by have := (hnil3.1 hv').2; omega, hC.step hlk hat, ?_⟩
        exact ((hnx.grown hg2 hnx.size (fun j hj => by cases hj; exact hg1.size)).alloc (by have := hnx.size; have := hg2.size; omega) _).grown hg3 (by have := hnx.size; have := hg2.size; simp; omega) (fun j hj => (hrow2.lt j hj).1)
      case measure => rw [hrg3.left_eq, hrg.left_eq]; exact hlt
end Go.Proofs.Ytmldfjhfgaggpaa

/- The document's Set, Get, Names. -/
namespace Go.Proofs.Ytmldfjhfgaggpaa
open Go.RowKit
variable {F : Nat → Prop}

/-- What is held of a Reg: nothing, where it has no atoms. -/
def opt (x : Rg) : Option Rg := if x.t = [] then none else some x
theorem upd_id (m : Int → Option Rg) (k : Int) (o : Option Rg) (h : m k = o) : upd m k o = m := by
  funext j
  unfold upd
  split
  · rename_i e; rw [e, h]
  · rfl
/-- The document's way of setting. -/
theorem set_eq {s : Bs} (hs : Good s) {n : Int} {t : List Int} (h1 : nmB n = true) (h2 : unB n = false) (h3 : (n == 95) = false) : setB s n t = if 140000 < (ow s.m n ⟨0, t⟩).t.length then (3, s) else (0, ⟨upd s.m (sml n) (opt (ow s.m n ⟨0, t⟩)), s.p⟩) := by
  unfold setB
  rw [h1, h2, h3, if_neg (by decide), if_neg (by decide)]
  by_cases ht : t = []
  · subst ht
    rw [if_pos (show nil? ⟨0, []⟩ = true by rfl)]
    cases hg : grB n with
    | true =>
      rw [if_pos rfl]
      have e : ow s.m n ⟨0, []⟩ = (s.m (sml n)).getD ⟨0, []⟩ := by
        unfold ow
        rw [if_pos hg]
        cases hm : s.m (sml n) with
        | none => rfl
        | some o =>
          have := (hs.nm _ _ hm).2.1.ne
          show jnd o ⟨0, []⟩ = o
          unfold jnd
          rw [if_neg this, if_pos rfl]
      rw [e]
      cases hm : s.m (sml n) with
      | none =>
        rw [if_neg (by simp)]
        rw [upd_id _ _ _ (by rw [hm]; rfl)]
      | some o =>
        have hn := hs.nm _ _ hm
        rw [if_neg (by simp; exact hn.2.2)]
        rw [upd_id _ _ _ (by rw [hm]; unfold opt; rw [if_neg (by simpa using hn.2.1.ne)]; rfl)]
    | false =>
      have e : ow s.m n ⟨0, []⟩ = ⟨0, []⟩ := by unfold ow; rw [hg]; rfl
      rw [if_neg (by decide), e, if_neg (by simp)]
      have : sml n = n := by unfold sml; rw [hg]; rfl
      rw [this]
      rfl
  · have hz : nil? ⟨0, t⟩ = false := by
      unfold nil?
      simp
      intro e
      exact ht e
    rw [hz, if_neg (by decide)]
    have hc : cls 0 t = t := by unfold cls; rfl
    have hx : ow s.m n ⟨0, t⟩ = nxt s.m n ⟨0, t⟩ := by
      have := ow_nxt hs (n := n) (r := ⟨0, t⟩) (.inl rfl) (.inl ht)
      dsimp only at this
      rw [hc] at this
      exact this
    have hg := nxt_good hs (n := n) (r := ⟨0, t⟩) (.inl rfl) (.inl ht)
    rw [hx]
    unfold writeB
    rw [wrtn_fine]
    by_cases hl : 140000 < (nxt s.m n ⟨0, t⟩).t.length
    · rw [if_pos hl, if_pos hl]
      rfl
    · rw [if_neg hl, if_neg hl]
      unfold opt
      rw [if_neg hg.ne]
      rfl
theorem hld_opt {w : World} {x : Rg} {u : Value} (hk : x.k = 0 ∨ x.k = 1) (h : RdS w u x.t) (ho : x.t ≠ [] → ∀ g, F g → Off u g) (hl : x.t.length ≤ 140000) : Hld F w x.k u (opt x) := by
  refine ⟨hk, x.t, h, ho, hl, ?_⟩
  unfold opt
  by_cases e : x.t = []
  · rw [if_pos e]; exact e
  · rw [if_neg e]; exact ⟨rfl, rfl⟩
set_option maxRecDepth 100000 in
set_option maxHeartbeats 4000000 in
theorem r_Set_any (w : World) (q : Nat) (s : Bs) (n : Int) (v : Value) (t : List Int) (hR : Rb F w q s) (hs : Good s) (hv : RdS w v t) (hl : t.length * 8 ≤ 140737488351232) :
    Calls Try.prog 64 #[.pointer (some ⟨q, 0, none⟩), .int .i64 n, v] w (TkR F w q (setB s n t)) := by
  obtain ⟨ao, c, rfl, _⟩ := hv.len
  have NM := hidIt (r_Named_any n w)
  have UN := hidIt (r_unnamed_any n w)
  have HR := hidIt hR
  have HS := hidIt hs
  cases hnm : nmB n
  · have HT := hidIt (show setB s n t = (110, s) by unfold setB; rw [hnm]; rfl)
    rw [hnm] at NM
    clear hR hs hv hl
    go_enter Try.func64, Try.ntmps64
    go_wp2_with (go_at_call 66; refine NM.out.mono ?_; rintro e y8 ⟨rfl, rfl⟩; (try dsimp only))
    go_ret
    exact ⟨by rw [HT.out]; rfl, by rw [HT.out]; exact HR.out, Kps.refl _ _⟩
  rw [hnm] at NM
  have HNR := hidIt (nm_range hnm)
  cases hun : unB n
  · rw [hun] at UN
    by_cases h95 : n = 95
    · have HT := hidIt (show setB s n t = (0, s) by subst h95; rfl)
      subst h95
      clear hR hs hv hl
      go_enter Try.func64, Try.ntmps64
      go_wp2_with (first | (go_at_call 66; refine NM.out.mono ?_; rintro e y8 ⟨rfl, rfl⟩; (try dsimp only)) | (go_at_call 67; refine UN.out.mono ?_; rintro e y9 ⟨rfl, rfl⟩; (try dsimp only)))
      go_ret
      exact ⟨by rw [HT.out]; rfl, by rw [HT.out]; exact HR.out, Kps.refl _ _⟩
    have h95b : (n == 95) = false := by simp [h95]
    have HE := hidIt (set_eq hs (t := t) hnm hun h95b)
    have WR := hidIt (r_written_any 0 _ t w hv hl)
    rw [show cls 0 t = t from rfl] at WR
    have HKD := hidIt (ow_kd hR HNR.out (y := ⟨0, t⟩) (.inl rfl))
    have OWN := hidIt (fun w' u (hb : Below w.heap.size w w') (hu : OwnI w' w.heap.size u t) => r_own_any w' q s n 0 u t (hR.ext hb) HNR.out hu.rds (fun _ g hg => hu.off (hR.fl g hg)) (.inl rfl) (by omega))
    obtain ⟨a, ha⟩ : ∃ a : Nat, (a : Int) = sml n := ⟨(sml n).toNat, by have := sml_range HNR.out; omega⟩
    have HAL := hidIt (show a < 128 by have := sml_range HNR.out; omega)
    have hal : (a : Int) < 128 := by have := sml_range HNR.out; omega
    rw [← ha] at OWN HE
    generalize ow s.m n ⟨0, t⟩ = x at *
    clear hR hs hv hl ha h95
    go_enter Try.func64, Try.ntmps64
    go_upto_region 6 with (first | (go_at_call 66; refine NM.out.mono ?_; rintro e y8 ⟨rfl, rfl⟩; (try dsimp only)) | (go_at_call 67; refine UN.out.mono ?_; rintro e y9 ⟨rfl, rfl⟩; (try dsimp only)) | (go_at_call 84; refine WR.out.mono ?_; rintro e w1 ⟨v1, rfl, hr1, hb1⟩; have R1 := hidIt hr1; have B1 := hidIt hb1; clear hr1 hb1; (try dsimp only)) | (go_at_call 86; refine (OWN.out w1 v1 B1.out R1.out).mono ?_; rintro e w2 ⟨v2, rfl, hr2, ho2, hb2⟩; obtain ⟨ra2, rc2, re2, _⟩ := hr2.len; subst re2; have R2 := hidIt hr2; have B2 := hidIt hb2; have O2 := hidIt ho2; clear hr2 hb2 ho2; (try dsimp only)))
    generalize hw3 : World.alloc _ _ = w3
    have HB3 : Hid (Below w2.heap.size w2 w3) := by unfold Hid; rw [← hw3]; exact ext_alloc (Below.refl _ _) _
    have HK3 : Hid (w3.heap[w2.heap.size]? = some (.cells #[.int .i64 x.k, .slice ra2 x.t.length rc2] 94 (0, 0))) := by unfold Hid; rw [← hw3]; exact heap_alloc_new _ _
    clear hw3
    have HB13 := hidIt (ext_trans (ext_trans B1.out B2.out) HB3.out)
    obtain ⟨_, e0, e1, _⟩ := cells2 HK3.out
    by_cases hbig : (x.t.length : Int) > 140000
    · have HT := hidIt (show setB s n t = (3, s) by rw [HE.out, if_pos (by omega)])
      go_wp2_with fail
      go_ret
      exact ⟨by rw [HT.out]; rfl, by rw [HT.out]; exact HR.out.ext HB13.out, Kq.of HB13.out⟩
    have HT := hidIt (show setB s n t = (0, ⟨upd s.m (a : Int) (opt x), s.p⟩) by rw [HE.out, if_neg (by omega)])
    have HPU := hidIt ((HR.out.ext HB13.out).put a HAL.out x.k (.slice ra2 x.t.length rc2) (opt x) (hld_opt HKD.out (R2.out.ext HB3.out) O2.out (by omega)))
    have fr := fun i => (HR.out.ext HB13.out).froz i
    obtain ⟨k7, u7, f0, f1, _⟩ := (HR.out.ext HB13.out).at a HAL.out
    go_upto_region 8 with fail
    go_region
    generalize hw4 : World.setCell (World.setCell _ _ _) _ _ = w4
    have HP : Hid (Rb F w4 q ⟨upd s.m (a : Int) (opt x), s.p⟩ ∧ w3.grownBy w4 (some q)) := by unfold Hid; rw [← hw4]; exact HPU.out
    clear hw4 f0 f1 fr e0 e1 HPU
    go_wp2_with fail
    go_ret
    exact ⟨by rw [HT.out]; rfl, by rw [HT.out]; exact HP.out.1.ext (Below.refl _ _).drew, (Kq.of HB13.out).trans ((Kq.set HP.out.2).trans (Kq.of (Below.refl _ _).drew))⟩
  · have HT := hidIt (show setB s n t = (110, s) by unfold setB; rw [hnm, hun]; rfl)
    rw [hun] at UN
    clear hR hs hv hl
    go_enter Try.func64, Try.ntmps64
    go_wp2_with (first | (go_at_call 66; refine NM.out.mono ?_; rintro e y8 ⟨rfl, rfl⟩; (try dsimp only)) | (go_at_call 67; refine UN.out.mono ?_; rintro e y9 ⟨rfl, rfl⟩; (try dsimp only)))
    go_ret
    exact ⟨by rw [HT.out]; rfl, by rw [HT.out]; exact HR.out, Kps.refl _ _⟩
end Go.Proofs.Ytmldfjhfgaggpaa

/- The document's Get, Names. -/
namespace Go.Proofs.Ytmldfjhfgaggpaa
open Go.RowKit
variable {F : Nat → Prop}

/-- What the document's Get answers. -/
def GdR (w : World) (x : Int × Option Rg) (e : Ending) (w' : World) : Prop := (match x with
  | (er, none) => e = .returned (.tuple #[.int .i64 0, .slice none 0 0, .int .i64 er])
  | (er, some y) => ∃ u, e = .returned (.tuple #[.int .i64 y.k, u, .int .i64 er]) ∧ RdS w' u y.t) ∧ Below w.heap.size w w'
theorem get_eq {s : Bs} (hs : Good s) {n : Int} (h : nmB n = true) {F : Nat → Prop} {w : World} {k : Int} {u : Value} {a : Int} (ha : a = sml (if unB n = true then s.p else n)) (hh : Hld F w k u (s.m a)) : ∃ t, RdS w u t ∧ getB s.m s.p n = if t = [] then (112, none) else (0, some ⟨k, t⟩) := by
  obtain ⟨_, t, h1, _, _, h4⟩ := hh
  refine ⟨t, h1, ?_⟩
  unfold getB
  rw [if_pos h, ← ha]
  cases hm : s.m a with
  | none => rw [hm] at h4; rw [if_pos h4]
  | some r =>
    rw [hm] at h4
    obtain ⟨rfl, rfl⟩ := h4
    rw [if_neg (hs.nm _ _ hm).2.1.ne]
set_option maxRecDepth 100000 in
set_option maxHeartbeats 4000000 in
theorem r_Get_any (w : World) (q : Nat) (s : Bs) (n : Int) (hR : Rb F w q s) (hs : Good s) :
    Calls Try.prog 51 #[.pointer (some ⟨q, 0, none⟩), .int .i64 n] w (GdR w (getB s.m s.p n)) := by
  have NM := hidIt (r_Named_any n w)
  have UN := hidIt (r_unnamed_any n w)
  cases hnm : nmB n
  · have HT := hidIt (show getB s.m s.p n = (110, none) by unfold getB; rw [hnm]; rfl)
    rw [hnm] at NM
    clear hR hs
    go_enter Try.func51, Try.ntmps51
    go_wp2_with (go_at_call 66; refine NM.out.mono ?_; rintro e y8 ⟨rfl, rfl⟩; (try dsimp only))
    refine bodyPost_ret (v := .tuple #[.int .i64 0, .slice none 0 0, .int .i64 110]) (by simp [results, Try.results51, go_sem]) rfl ⟨by rw [HT.out], Below.refl _ _⟩
  rw [hnm] at NM
  have hnr := nm_range hnm
  have hpt := hs.pt
  have tp := hR.to
  cases hun : unB n
  · rw [hun] at UN
    cases hg : grB n
    · have GR := hidIt (r_great_any (n) w)
      rw [hg] at GR
      obtain ⟨a, ha⟩ : ∃ a : Nat, (a : Int) = n := ⟨(n).toNat, by omega⟩
      have hal : (a : Int) < 128 := by omega
      obtain ⟨k, u, f0, f1, hh⟩ := hR.at a (by omega)
      have hsm : (a : Int) = sml (if unB n = true then s.p else n) := by rw [hun]; rw [ha]; simp [sml, hg]
      obtain ⟨t, ht, hge⟩ := get_eq hs hnm hsm hh
      obtain ⟨au, cu, rfl, _⟩ := ht.len
      have RD := hidIt ht
      have HG := hidIt hge
      clear hR hs hnr hpt hh ht hge hsm hun hnm
      subst ha
      go_enter Try.func51, Try.ntmps51
      go_upto_region 8 with (first | (go_at_call 66; refine NM.out.mono ?_; rintro e y7 ⟨rfl, rfl⟩; (try dsimp only)) | (go_at_call 67; refine UN.out.mono ?_; rintro e y8 ⟨rfl, rfl⟩; (try dsimp only)) | (go_at_call 68; refine GR.out.mono ?_; rintro e y9 ⟨rfl, rfl⟩; (try dsimp only)))
      generalize hw3 : World.alloc _ _ = w3
      have HB3 : Hid (Below w.heap.size w w3) := by unfold Hid; rw [← hw3]; exact ext_alloc (Below.refl _ _) _
      have HK3 : Hid (w3.heap[w.heap.size]? = some (.cells #[.int .i64 k, .slice au t.length cu] 94 (0, 0))) := by unfold Hid; rw [← hw3]; exact heap_alloc_new _ _
      clear hw3 f0 f1 tp
      obtain ⟨_, e0, e1, _⟩ := cells2 HK3.out
      by_cases ht0 : t = []
      · have hz : ((t.length : Int) == 0) = true := by simp [ht0]
        have HT2 := hidIt (HG.out.trans (if_pos ht0))
        clear ht0
        go_wp2_with fail
        refine bodyPost_ret (v := .tuple #[.int .i64 0, .slice none 0 0, .int .i64 112]) (by simp [results, Try.results51, go_sem]) rfl ⟨by rw [HT2.out], HB3.out⟩
      · have hz : ((t.length : Int) == 0) = false := by simp [ht0]
        have HT2 := hidIt (HG.out.trans (if_neg ht0))
        clear ht0
        go_upto_region 10 with fail
        go_region
        all_goals
          go_wp2_with fail
          refine bodyPost_ret (v := .tuple #[.int .i64 k, .slice au t.length cu, .int .i64 0]) (by simp [results, Try.results51, go_sem]) rfl ⟨?_, HB3.out.drew⟩
          rw [HT2.out]
          exact ⟨_, rfl, (RD.out.ext HB3.out).ext (Below.refl _ _).drew⟩
    · have hg2 : 65 ≤ n ∧ n ≤ 90 := by unfold grB at hg; simpa using hg
      have GR := hidIt (r_great_any (n) w)
      rw [hg] at GR
      obtain ⟨a, ha⟩ : ∃ a : Nat, (a : Int) = n + 32 := ⟨(n + 32).toNat, by omega⟩
      have hal : (a : Int) < 128 := by omega
      obtain ⟨k, u, f0, f1, hh⟩ := hR.at a (by omega)
      have hsm : (a : Int) = sml (if unB n = true then s.p else n) := by rw [hun]; rw [ha]; simp [sml, hg]
      obtain ⟨t, ht, hge⟩ := get_eq hs hnm hsm hh
      obtain ⟨au, cu, rfl, _⟩ := ht.len
      have RD := hidIt ht
      have HG := hidIt hge
      have hwr : IntKind.i64.wrap (n + 32) = (a : Int) := by rw [IntKind.wrap_i64]; omega
      clear hg2
      clear hR hs hnr hpt hh ht hge hsm hun hnm
      clear ha
      go_enter Try.func51, Try.ntmps51
      go_upto_region 8 with (first | (go_at_call 66; refine NM.out.mono ?_; rintro e y7 ⟨rfl, rfl⟩; (try dsimp only)) | (go_at_call 67; refine UN.out.mono ?_; rintro e y8 ⟨rfl, rfl⟩; (try dsimp only)) | (go_at_call 68; refine GR.out.mono ?_; rintro e y9 ⟨rfl, rfl⟩; (try dsimp only)))
      generalize hw3 : World.alloc _ _ = w3
      have HB3 : Hid (Below w.heap.size w w3) := by unfold Hid; rw [← hw3]; exact ext_alloc (Below.refl _ _) _
      have HK3 : Hid (w3.heap[w.heap.size]? = some (.cells #[.int .i64 k, .slice au t.length cu] 94 (0, 0))) := by unfold Hid; rw [← hw3]; exact heap_alloc_new _ _
      clear hw3 f0 f1 tp
      obtain ⟨_, e0, e1, _⟩ := cells2 HK3.out
      by_cases ht0 : t = []
      · have hz : ((t.length : Int) == 0) = true := by simp [ht0]
        have HT2 := hidIt (HG.out.trans (if_pos ht0))
        clear ht0
        go_wp2_with fail
        refine bodyPost_ret (v := .tuple #[.int .i64 0, .slice none 0 0, .int .i64 112]) (by simp [results, Try.results51, go_sem]) rfl ⟨by rw [HT2.out], HB3.out⟩
      · have hz : ((t.length : Int) == 0) = false := by simp [ht0]
        have HT2 := hidIt (HG.out.trans (if_neg ht0))
        clear ht0
        go_upto_region 10 with fail
        go_region
        all_goals
          go_wp2_with fail
          refine bodyPost_ret (v := .tuple #[.int .i64 k, .slice au t.length cu, .int .i64 0]) (by simp [results, Try.results51, go_sem]) rfl ⟨?_, HB3.out.drew⟩
          rw [HT2.out]
          exact ⟨_, rfl, (RD.out.ext HB3.out).ext (Below.refl _ _).drew⟩
  · rw [hun] at UN
    have GR := hidIt (r_great_any (s.p) w)
    have hgr : grB s.p = false := hpt.2.2
    rw [hgr] at GR
    obtain ⟨a, ha⟩ : ∃ a : Nat, (a : Int) = s.p := ⟨(s.p).toNat, by omega⟩
    have hal : (a : Int) < 128 := by omega
    obtain ⟨k, u, f0, f1, hh⟩ := hR.at a (by omega)
    have hsm : (a : Int) = sml (if unB n = true then s.p else n) := by rw [hun]; rw [ha]; simp [sml, hgr]
    obtain ⟨t, ht, hge⟩ := get_eq hs hnm hsm hh
    obtain ⟨au, cu, rfl, _⟩ := ht.len
    have RD := hidIt ht
    have HG := hidIt hge
    rw [← ha] at tp GR
    clear hR hs hnr hpt hh ht hge hsm hun hnm
    clear ha
    go_enter Try.func51, Try.ntmps51
    go_upto_region 8 with (first | (go_at_call 66; refine NM.out.mono ?_; rintro e y7 ⟨rfl, rfl⟩; (try dsimp only)) | (go_at_call 67; refine UN.out.mono ?_; rintro e y8 ⟨rfl, rfl⟩; (try dsimp only)) | (go_at_call 68; refine GR.out.mono ?_; rintro e y9 ⟨rfl, rfl⟩; (try dsimp only)))
    generalize hw3 : World.alloc _ _ = w3
    have HB3 : Hid (Below w.heap.size w w3) := by unfold Hid; rw [← hw3]; exact ext_alloc (Below.refl _ _) _
    have HK3 : Hid (w3.heap[w.heap.size]? = some (.cells #[.int .i64 k, .slice au t.length cu] 94 (0, 0))) := by unfold Hid; rw [← hw3]; exact heap_alloc_new _ _
    clear hw3 f0 f1 tp
    obtain ⟨_, e0, e1, _⟩ := cells2 HK3.out
    by_cases ht0 : t = []
    · have hz : ((t.length : Int) == 0) = true := by simp [ht0]
      have HT2 := hidIt (HG.out.trans (if_pos ht0))
      clear ht0
      go_wp2_with fail
      refine bodyPost_ret (v := .tuple #[.int .i64 0, .slice none 0 0, .int .i64 112]) (by simp [results, Try.results51, go_sem]) rfl ⟨by rw [HT2.out], HB3.out⟩
    · have hz : ((t.length : Int) == 0) = false := by simp [ht0]
      have HT2 := hidIt (HG.out.trans (if_neg ht0))
      clear ht0
      go_upto_region 10 with fail
      go_region
      all_goals
        go_wp2_with fail
        refine bodyPost_ret (v := .tuple #[.int .i64 k, .slice au t.length cu, .int .i64 0]) (by simp [results, Try.results51, go_sem]) rfl ⟨?_, HB3.out.drew⟩
        rw [HT2.out]
        exact ⟨_, rfl, (RD.out.ext HB3.out).ext (Below.refl _ _).drew⟩
set_option maxRecDepth 100000 in
set_option maxHeartbeats 4000000 in
theorem r_Names_any (w : World) (q : Nat) (s : Bs) (hR : Rb F w q s) (hs : Good s) :
    Calls Try.prog 49 #[.pointer (some ⟨q, 0, none⟩)] w fun e w' => ∃ v, e = .returned v ∧ OwnI w' w.heap.size v (nms s.m 128) ∧ Below w.heap.size w w' := by
  have HR := hidIt hR
  have HS := hidIt hs
  clear hR hs
  go_enter Try.func49, Try.ntmps49
  go_wp2_with fail
  go_loopw [3, 4] (fun l i wr => ∃ j : Nat, j ≤ 128 ∧ i = .int .i64 j ∧ OwnI wr w.heap.size l (nms s.m j) ∧ Below w.heap.size w wr) (fun _ i _ => 128 - (RowKit.intOf i).toNat)
  case atStart => exact ⟨0, Nat.zero_le _, rfl, OwnI.nil _ _, Below.refl _ _⟩
  case round =>
    obtain ⟨j, hj, rfl, ho, hb⟩ := hrel
    obtain ⟨la, ln, lc, rfl⟩ := ho.form
    have OW := hidIt ho
    have HB := hidIt hb
    clear ho hb
    by_cases hlt : (j : Int) < 128
    · obtain ⟨k, u, f0, f1, hh⟩ := (HR.out.ext HB.out).at j (by omega)
      have HST := hidIt (nms_step s.m j)
      have HNL := hidIt (nms_len s.m j)
      obtain ⟨_, t, ht, _, _, hm⟩ := hh
      obtain ⟨au, cu, rfl, _⟩ := ht.len
      have HIS := hidIt (show (s.m (j : Int)).isSome = decide (t ≠ []) by
        cases hx : s.m (j : Int) with
        | none => rw [hx] at hm; simp [hm]
        | some r => rw [hx] at hm; have := (HS.out.nm _ _ hx).2.1.ne; simp [hm.2, this])
      clear hm ht
      by_cases ht0 : t = []
      · have hz : ¬ (t.length : Int) > 0 := by simp [ht0]
        have HN := hidIt (show nms s.m (j + 1) = nms s.m j by rw [HST.out, HIS.out]; simp [ht0])
        clear ht0
        go_wp2_with fail
        go_roundw
        case rel => exact ⟨j + 1, by omega, by go_num, by rw [HN.out]; exact OW.out, HB.out⟩
        case measure => simp [RowKit.intOf]; omega
      · have hz : (t.length : Int) > 0 := by have := List.length_pos_iff.2 ht0; omega
        have HN := hidIt (show nms s.m (j + 1) = nms s.m j ++ [(j : Int)] by rw [HST.out, HIS.out]; simp [ht0])
        clear ht0
        go_wp2_with (at_builtin; refine wpl_ints rfl _ _ 29 rfl w.heap.size Try.info_i64 Try.underlying29 _ (nms s.m j) rfl (OW.out.ext (ext_alloc (Below.refl _ _) _)) _ [(j : Int)] rfl (rds_one _ _) (by have := HNL.out; simp; omega) (by have := HB.out.size; simp; omega) ?_; intro v4 w4 own4 hb4; obtain ⟨a4, n4, c4, e4⟩ := own4.form; subst e4; have O4 := hidIt own4; have B4 := hidIt (((HB.out.alloc HB.out.size _)).trans hb4); clear own4 hb4)
        go_roundw
        case rel => exact ⟨j + 1, by omega, by go_num, by rw [HN.out]; exact O4.out, B4.out⟩
        case measure => simp [RowKit.intOf]; omega
    · have hje : j = 128 := by omega
      have HJ := hidIt (show nms s.m j = nms s.m 128 by rw [hje])
      clear hje
      go_wp2_with fail
      go_ret
      exact ⟨_, rfl, by rw [← HJ.out]; exact OW.out, HB.out⟩
end Go.Proofs.Ytmldfjhfgaggpaa

/- The document's New, Copy. -/
namespace Go.Proofs.Ytmldfjhfgaggpaa
open Go.RowKit
variable {F : Nat → Prop}

theorem pairs_at (a b : Value) (ys : List Value) : ∀ (m n : Nat), n < m → (((List.replicate m [a, b]).flatten) ++ ys)[n * 2]? = some a ∧ (((List.replicate m [a, b]).flatten) ++ ys)[n * 2 + 1]? = some b
  | 0, n, h => absurd h (by omega)
  | m + 1, 0, _ => by simp [List.replicate_succ]
  | m + 1, n + 1, h => by
    have := pairs_at a b ys m n (by omega)
    rw [List.replicate_succ, List.flatten_cons, show (n + 1) * 2 = n * 2 + 2 by omega]
    simpa using this
def zeros : List Value := (List.replicate 128 [Value.int .i64 0, .slice none 0 0]).flatten ++ [.int .i64 0]
theorem zeros_eq : Try.zeroCells97 = zeros.toArray := by kernel_rfl
theorem Rb.zero {w : World} {q : Nat} (h : w.heap[q]? = some (.cells Try.zeroCells97 97 (0, 0))) (h1 : F q) (h2 : ∀ g, F g → g < w.heap.size) : Rb F w q ⟨fun _ => none, 0⟩ := by
  rw [zeros_eq] at h
  refine ⟨_, h, by kernel_rfl, by kernel_rfl, ⟨h1, h2⟩, fun n hn => ?_⟩
  have := pairs_at (.int .i64 0) (.slice none 0 0) [.int .i64 0] 128 n hn
  exact ⟨0, .slice none 0 0, by rw [List.getElem?_toArray]; exact this.1, by rw [List.getElem?_toArray]; exact this.2, .inl rfl, [], rds_nil w, fun h => absurd rfl h, by simp, rfl⟩
set_option maxRecDepth 100000 in
set_option maxHeartbeats 2000000 in
theorem r_New_any (w : World) : Calls Try.prog 47 #[] w fun e w' => e = .returned (.pointer (some ⟨w.heap.size, 0, none⟩)) ∧ Below w.heap.size w w' ∧ ∀ F : Nat → Prop, F w.heap.size → (∀ g, F g → g < w'.heap.size) → Rb F w' w.heap.size ⟨fun _ => none, 0⟩ := by
  go_enter Try.func47, Try.ntmps47
  go_wp2_with fail
  go_ret
  exact ⟨rfl, ext_alloc (Below.refl _ _) _, fun F h1 h2 => Rb.zero (heap_alloc_new _ _) h1 h2⟩
theorem Rb.ones {w : World} {s : Bs} {arr : Array Value} (h2 : arr.size = 257) (h3 : arr[256]? = some (.int .i64 s.p)) (h5 : ∀ n : Nat, n < 128 → ∃ k u, arr[n * 2]? = some (.int .i64 k) ∧ arr[n * 2 + 1]? = some u ∧ Hld F w k u (s.m (n : Int))) : arr.all (·.oneCell') = true := by
  rw [Array.all_eq_true]
  intro i hi
  have hi2 : arr[i]? = some arr[i] := Array.getElem?_eq_getElem hi
  by_cases e : i = 256
  · subst e
    rw [hi2] at h3
    rw [Option.some.inj h3]
    rfl
  · obtain ⟨k, u, a, b, c⟩ := h5 (i / 2) (by omega)
    rcases Nat.mod_two_eq_zero_or_one i with h | h
    · rw [show i / 2 * 2 = i by omega, hi2] at a
      rw [Option.some.inj a]
      rfl
    · rw [show i / 2 * 2 + 1 = i by omega, hi2] at b
      obtain ⟨ao, n, c', rfl⟩ := c.form
      rw [Option.some.inj b]
      rfl
section
variable {P : Program}
theorem wpList_store_row' {ops : Array Oper} {rest : List Oper} {o : Oper} {a : Act} {w : World} {Q : Exit → Act → World → Prop} (hgd : o.guard = none) (ty : TypeId) (x y : Operand) (ho : o.op = .store ty x y)
    (g : Nat) (cells : Array Value) (hx : a.eval x = .pointer (some ⟨g, 0, none⟩)) (hy : a.eval y = .agg cells)
    (t : TypeId) (old : Array Value) (hg : w.heap[g]? = some (.cells old t (0, 0))) (hi : (P.info? ty).map (·.size) = some cells.size) (hold : old.size = cells.size) (h1 : cells.all (·.oneCell') = true)
    (h : wpList P ops Q rest (a.put o.dst undef) (w.setRow g cells)) : wpList P ops Q (o :: rest) a w :=
  wpList_plain hgd fun _ hK => wp_store_row ty x y ho g cells hx hy t old hg hi hold h1 (hK _ _ h)
end
set_option maxRecDepth 100000 in
set_option maxHeartbeats 2000000 in
theorem r_Copy_any (w : World) (q : Nat) (s : Bs) (hR : Rb F w q s) : Calls Try.prog 50 #[.pointer (some ⟨q, 0, none⟩)] w fun e w' => e = .returned (.pointer (some ⟨w.heap.size, 0, none⟩)) ∧ w.heap.size < w'.heap.size ∧ Below w.heap.size w w' ∧ ∀ F' : Nat → Prop, F' w.heap.size → (∀ g, F' g → g < w'.heap.size ∧ (F g ∨ w.heap.size ≤ g)) → Rb F' w' w.heap.size s := by
  obtain ⟨arr, h1, h2, h3, h4, h5⟩ := hR
  have H5 := hidIt h5
  have H3 := hidIt h3
  have H1 := hidIt (Rb.ones h2 h3 h5)
  have HIN := hidIt (show (Try.prog.info? 97).map (·.size) = some arr.size by rw [h2]; kernel_rfl)
  have HZS := hidIt (show Try.zeroCells97.size = arr.size by rw [h2]; kernel_rfl)
  have HA := hidIt h2
  clear h2 h3 h4 h5
  go_enter Try.func50, Try.ntmps50
  go_wp2_with (first
    | (refine wpList_load_row rfl 97 (.tmp 5) rfl q rfl 97 arr (0, 0) _ h1 Try.underlying97 rfl HIN.out ?_)
    | (refine wpList_store_row' rfl 97 (.tmp 3) (.tmp 6) rfl w.heap.size arr rfl rfl 97 _ (heap_alloc_new _ _) HIN.out HZS.out H1.out ?_)
    | go_in)
  go_ret
  have hblk := setRow_heap (w.alloc (.cells Try.zeroCells97 97)) w.heap.size _ arr 97 (0, 0) (heap_alloc_new _ _)
  have hbl : Below w.heap.size w ((w.alloc (.cells Try.zeroCells97 97)).setRow w.heap.size arr) :=
    (ext_alloc (Below.refl _ _) _).grown (row := some w.heap.size) ⟨rfl, rfl, rfl, by simp [World.setRow], fun j _ hk => setRow_other _ w.heap.size j _ (by intro e; subst e; exact hk rfl)⟩ (by simp) (fun k hk => by cases hk; exact Nat.le_refl _)
  refine ⟨rfl, (Array.getElem?_eq_some_iff.1 hblk).1, hbl, fun F' f1 f2 => ⟨arr, hblk, HA.out, H3.out, ⟨f1, fun g hg => (f2 g hg).1⟩, fun n hn => ?_⟩⟩
  obtain ⟨k, u, a, b, hk, t, ht, ho, hl, hm⟩ := H5.out n hn
  refine ⟨k, u, a, b, hk, t, ht.ext hbl, fun hne g hg => ?_, hl, hm⟩
  rcases (f2 g hg).2 with hf | hge
  · exact ho hne g hf
  · exact ht.below hge hne
end Go.Proofs.Ytmldfjhfgaggpaa

/- maps.Clone at the registers; register's Copy. -/
namespace Go.Proofs.Ytmldfjhfgaggpaa
open Go.RowKit
variable {F : Nat → Prop}

set_option maxRecDepth 100000 in
set_option maxHeartbeats 2000000 in
theorem clone_map (b : Nat) (es : Array MapEntry) (cl : Nat) (w : World) (hb : w.heap[b]? = some (.map es cl)) :
    Calls Try.prog 45 #[.map (some b)] w fun e w' => e = .returned (.map (some w.heap.size)) ∧ w' = w.alloc (.map es cl) := by
  have hq := fun w => run_eql_map_nil_sl (P := Try.prog) w 68 _ _ (some b) Try.underlying68
  go_enter Try.func45, Try.ntmps45
  go_wp2
  rw [run_callFunc_extern Try.func58 (by kernel_rfl) (by kernel_rfl) (by kernel_rfl) (e := Extern.MapsClone.clone) (by kernel_rfl), run_maps_clone_sl w 68 hb]
  simp only [Result.andThen]
  rw [Oper.upon_value]
  go_wp2
  rw [run_typeAssert_map_sl _ 68 20 _ _ _ Try.underlying68]
  simp only [Result.andThen]
  rw [Oper.upon_value]
  go_wp2
  go_ret
  exact ⟨rfl, rfl⟩
/-- A bank is copied: another block, another map, the same texts. -/
theorem Bk.copy {w w3 : World} {b bm N : Nat} {m : Int → Option Rg} {p : Int} (h : Bk F w b bm N m p) {es : Array MapEntry} {cl : Nat} (hm : w.heap[bm]? = some (.map es cl)) {b2 bm2 : Nat} (hm2 : w3.heap[bm2]? = some (.map es cl)) (hb2 : w3.heap[b2]? = some (.cells #[.map (some bm2), .int .i64 p] 70 (0, 0))) (hb : Below w.heap.size w w3) {F' : Nat → Prop} (h1 : F' b2) (h2 : ∀ q, F' q → q < w3.heap.size ∧ (F q ∨ w.heap.size ≤ q)) : Bk F' w3 b2 bm2 N m p := by
  obtain ⟨a1, a2, a3, D, a4, a5⟩ := h
  obtain ⟨es', cl', x1, Fx, x2, x3⟩ := a4
  rw [hm] at x1
  cases x1
  refine ⟨hb2, a2, ⟨h1, fun q hq => (h2 q hq).1⟩, D, ⟨es, cl, hm2, Fx, x2, x3⟩, fun k hk => ?_⟩
  have e := a5 k hk
  cases hmk : m k with
  | none => rw [hmk] at e; exact e
  | some r =>
    rw [hmk] at e
    obtain ⟨e1, u, e2, e3, e4⟩ := e
    exact ⟨e1, u, e2, e3.avoid hb (fun q hq => (h2 q hq).2), e4⟩
set_option maxRecDepth 100000 in
set_option maxHeartbeats 2000000 in
theorem Copy_any (w : World) (b bm N : Nat) (m : Int → Option Rg) (p : Int) (hB : Bk F w b bm N m p) :
    Calls Try.prog 22 #[.pointer (some ⟨b, 0, none⟩)] w fun e w' => ∃ b2 bm2, e = .returned (.pointer (some ⟨b2, 0, none⟩)) ∧ w.heap.size ≤ b2 ∧ w.heap.size ≤ bm2 ∧ b2 < w'.heap.size ∧ Below w.heap.size w w' ∧ ∀ F' : Nat → Prop, F' b2 → (∀ q, F' q → q < w'.heap.size ∧ (F q ∨ w.heap.size ≤ q)) → Bk F' w' b2 bm2 N m p := by
  obtain ⟨hc0, hc1, _⟩ := hB.cells
  obtain ⟨es, cl, hm⟩ : ∃ es cl, w.heap[bm]? = some (.map es cl) := by
    obtain ⟨_, _, _, D, ⟨es, cl, h, _⟩, _⟩ := hB
    exact ⟨es, cl, h⟩
  have HB := hidIt hB
  have HM := hidIt hm
  have CL : Hid (Calls Try.prog 45 #[.map (some bm)] w.drew fun e w' => e = .returned (.map (some w.heap.size)) ∧ Below w.heap.size w w' ∧ w'.heap[w.heap.size]? = some (.map es cl) ∧ w'.cell? ⟨b, 0, none⟩ = some (.map (some bm)) ∧ w'.cell? ⟨b, 1, none⟩ = some (.int .i64 p) ∧ w.heap.size < w'.heap.size) := by
    refine (clone_map bm es cl w.drew hm).mono ?_
    rintro e w' ⟨rfl, rfl⟩
    have hb : Below w.heap.size w (w.drew.alloc (.map es cl)) := (Below.refl _ _).drew.alloc (Nat.le_refl _) _
    exact ⟨rfl, hb, heap_alloc_new _ _, (hb.cell (p := ⟨b, 0, none⟩) hB.lt.1).trans hc0, (hb.cell (p := ⟨b, 1, none⟩) hB.lt.1).trans hc1, by simp⟩
  clear hB hm
  go_enter Try.func22, Try.ntmps22
  go_upto_region 1 with fail
  go_region_with (go_at_call 45; refine CL.out.mono ?_; rintro e w2 ⟨rfl, hb2, hm2, c0, c1, hs2⟩; have HB2 := hidIt hb2; have HM2 := hidIt hm2; have HS2 := hidIt hs2; clear hb2 hm2 hs2 hc0 hc1; (try dsimp only))
  all_goals
    go_wp2_with fail
    go_ret
    have HBX := HB2.out.alloc HB2.out.size (.cells #[.map (some w.heap.size), .int .i64 p] 70)
    exact ⟨_, _, rfl, HB2.out.size, Nat.le_refl _, by simp, HBX, fun F' h1 h2 => HB.out.copy HM.out ((heap_alloc_old _ _ HS2.out).trans HM2.out) (heap_alloc_new _ _) HBX h1 h2⟩
end Go.Proofs.Ytmldfjhfgaggpaa
