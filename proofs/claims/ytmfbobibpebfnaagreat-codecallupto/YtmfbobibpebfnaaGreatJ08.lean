import Derived.Test.YtmfbobibpebfnaaGreatJ03
import Derived.Test.YtmfbobibpebfnaaGreatJ07
import Derived.Test.YtmfbobibpebfnaaGreatJ05
import Derived.Test.YtmfbobibpebfnaaGreatJ01
/- copyInts, lendInts, keptInts. -/
namespace Go.Proofs.YtmfbobibpebfnaaGreat
open Go.RowKit

theorem copyInts_any (v : Value) (zs : List Int) (w : World) (hr : Rd .i64 w v zs) (hz : zs.length * 8 ≤ 140737488355328) :
    Calls Tryz.prog 40 #[v] w fun e w' => ∃ v', e = .returned v' ∧ w'.ownsRow w.heap.size 3 1 v' zs.length (zs.map (Value.int .i64)) ∧ Below w.heap.size w w' := by
  obtain ⟨ao, cap, rfl, hl, hm, hc⟩ := hr
  obtain ⟨i0, hi, hz0, hz1, hz2⟩ := info_parts Tryz.info_i64
  by_cases hn : zs = []
  · subst hn
    clear hc
    simp only [List.length_nil]
    go_enter Tryz.func40, Tryz.ntmps40
    go_wp2_with fail
    refine wp_loop_rounds 1 ?_
    rw [rounds_succ]
    go_wp2
    go_ret
    exact ⟨_, rfl, World.ownsRow_nil _ _ _ _, Below.refl _ _⟩
  · obtain ⟨b, off, rfl, hbl, hc⟩ := hc hn
    clear hn hm
    go_enter Tryz.func40, Tryz.ntmps40
    go_wp2_with fail
    go_loopw [3, 4] (fun o i wr => ∃ k : Nat, k ≤ zs.length ∧ i = .int .i64 k ∧ wr.ownsRow w.heap.size 3 1 o k ((zs.take k).map (Value.int .i64)) ∧ Below w.heap.size w wr) (fun _ i _ => zs.length - (intOf i).toNat)
    case atStart => exact ⟨0, Nat.zero_le _, rfl, World.ownsRow_nil _ _ _ _, Below.refl _ _⟩
    case round =>
      obtain ⟨k, hk, rfl, hown, hb⟩ := hrel
      by_cases hlt : k < zs.length
      · have hcx : wr.cell? ⟨b, off + k, none⟩ = some (.int .i64 (zs[k]?.getD 0)) := (hb.cell (p := ⟨b, off + k, none⟩) hbl).trans (hc k hlt)
        have hz' : w.heap.size ≤ wr.heap.size := hb.size
        have HT : Hid ((zs.take k).map (Value.int .i64) ++ [Value.int .i64 (zs[k]?.getD 0)] = (zs.take (k + 1)).map (Value.int .i64)) := take_succ_map zs k hlt
        generalize zs[k]?.getD 0 = x at *
        generalize (zs.take k).map (Value.int .i64) = xs at *
        clear hc
        go_wp2_with (at_builtin; refine wpList_append_own _ rfl _ _ 36 rfl w.heap.size 3 i0 (.int .i64 0) 1 8 Tryz.underlying36 hi hz0 hz1 hz2 rfl (by decide) _ _ _ rfl (hown.alloc _) ⟨wr.heap.size, 0, none⟩ 1 1 [.int .i64 x] rfl rfl (cell_one_new _ _ _) (one_i64 _) (by unfold maxLen; omega) (by omega) (by simp; omega) ?_; intro v' w' hown' hg' hx')
        go_roundw
        case rel => exact ⟨k + 1, by omega, by go_num, by rw [← HT.out]; exact hown', below_push hb hown hg'⟩
        case measure => simp [intOf]; omega
      · have hke : k = zs.length := by omega
        subst hke
        have HT : Hid ((zs.take zs.length).map (Value.int .i64) = zs.map (Value.int .i64)) := by unfold Hid; rw [List.take_length]
        clear hc
        go_wp2
        go_ret
        exact ⟨_, rfl, by rw [← HT.out]; exact hown, hb⟩

theorem map_repI (zs : List Int) (k : Nat) : (zs ++ List.replicate k (-71)).map (Value.int .i64) ++ [Value.int .i64 (-71)] = (zs ++ List.replicate (k + 1) (-71)).map (Value.int .i64) := by
  rw [List.replicate_succ']; simp

/-- The mark at place i behind what was lent. -/
def fillI (i : Nat) : Int := wrap64 (-71 - (i : Int))
def filli (a m : Nat) : List Int := (List.range' a m).map fillI
theorem filli_len (a m : Nat) : (filli a m).length = m := by simp [filli]
theorem filli_succ (a m : Nat) : filli a (m + 1) = filli a m ++ [fillI (a + m)] := by simp [filli, List.range'_1_concat]
theorem filli_get (a m j : Nat) (h : j < m) : (filli a m)[j]? = some (fillI (a + j)) := by simp [filli, h]
theorem set_midI (A rest : List Value) (r x : Value) (k : Nat) (h : A.length = k) : (A ++ r :: rest).set k x = (A ++ [x]) ++ rest := by
  subst h; simp

/-- What was lent: zs, and marks in all the room behind it. -/
def LentI (w : World) (base g cap : Nat) (zs : List Int) : Prop :=
  zs.length + 40 ≤ cap ∧ cap ≤ maxLen ∧ base ≤ g ∧ g < w.heap.size ∧ w.ownsRow base 3 1 (.slice (some ⟨g, 0, none⟩) cap cap) cap ((zs ++ filli zs.length (cap - zs.length)).map (Value.int .i64))

theorem lend_startI {w : World} {base g cap : Nat} {zs : List Int} {cur : List Value} (hcl : cur.length = cap) (hct : cur.take (zs.length + 40) = (zs ++ List.replicate 40 (-71)).map (Value.int .i64))
    (hown : w.ownsRow base 3 1 (.slice (some ⟨g, 0, none⟩) cap cap) cap cur) :
    ∃ rest : List Value, rest.length = cap - zs.length ∧ w.ownsRow base 3 1 (.slice (some ⟨g, 0, none⟩) cap cap) cap ((zs ++ filli zs.length (zs.length - zs.length)).map (Value.int .i64) ++ rest) := by
  refine ⟨cur.drop zs.length, by simp [hcl], ?_⟩
  have e : cur.take zs.length = zs.map (Value.int .i64) := by
    have := congrArg (List.take zs.length) hct
    rw [List.take_take, Nat.min_eq_left (by omega)] at this
    rw [this, List.map_append, List.take_append_of_le_length (by simp), List.take_of_length_le (by simp)]
  have e2 : (zs ++ filli zs.length (zs.length - zs.length)).map (Value.int .i64) ++ cur.drop zs.length = cur := by
    rw [Nat.sub_self]
    simp only [filli, List.range'_zero, List.map_nil, List.append_nil]
    rw [← e, List.take_append_drop]
  rw [e2]
  exact hown

theorem lend_stepI {w : World} {base g cap k : Nat} {zs : List Int} {rest : List Value} (h1 : zs.length ≤ k) (h2 : k < cap) (hr : rest.length = cap - k)
    (hown : w.ownsRow base 3 1 (.slice (some ⟨g, 0, none⟩) cap cap) cap ((zs ++ filli zs.length (k - zs.length)).map (Value.int .i64) ++ rest)) :
    ∃ rest' : List Value, rest'.length = cap - (k + 1) ∧ (w.setCell ⟨g, k, none⟩ (.int .i64 (fillI k))).ownsRow base 3 1 (.slice (some ⟨g, 0, none⟩) cap cap) cap ((zs ++ filli zs.length (k + 1 - zs.length)).map (Value.int .i64) ++ rest') := by
  obtain ⟨r, rest', rfl⟩ : ∃ r rest', rest = r :: rest' := by
    cases rest with
    | nil => simp at hr; omega
    | cons r l => exact ⟨r, l, rfl⟩
  refine ⟨rest', by simp at hr; omega, ?_⟩
  have h := (hown.stored k (.int .i64 (fillI k))).1
  rw [set_midI _ _ _ _ k (by simp [filli_len]; omega)] at h
  have e : (zs ++ filli zs.length (k + 1 - zs.length)).map (Value.int .i64) = (zs ++ filli zs.length (k - zs.length)).map (Value.int .i64) ++ [Value.int .i64 (fillI k)] := by
    rw [show k + 1 - zs.length = (k - zs.length) + 1 from by omega, filli_succ, show zs.length + (k - zs.length) = k from by omega]
    simp
  rw [e]
  exact h

theorem lend_cellI {w : World} {base g cap k : Nat} {xs : List Value} (hown : w.ownsRow base 3 1 (.slice (some ⟨g, 0, none⟩) cap cap) cap xs) (h2 : k < cap) : ∃ u, w.cell? ⟨g, k, none⟩ = some u := by
  have h1 := hown.1
  simp only [Nat.mul_one] at h1
  refine ⟨xs[k]'(by omega), ?_⟩
  rw [hown.cellAt k (by omega)]
  simp [show k < xs.length from by omega]

set_option maxRecDepth 100000 in
theorem lendInts_any (v : Value) (zs : List Int) (w : World) (hr : Rd .i64 w v zs) (hz : (zs.length + 40) * 8 ≤ 140737488355328) :
    Calls Tryz.prog 35 #[v] w fun e w' => ∃ g cap, e = .returned (.slice (some ⟨g, 0, none⟩) cap cap) ∧ LentI w' w.heap.size g cap zs ∧ Below w.heap.size w w' := by
  have hlen : ∃ ao cap, v = .slice ao zs.length cap := by obtain ⟨ao, cap, hv, _⟩ := hr; exact ⟨ao, cap, hv⟩
  obtain ⟨i0, hi, hz0, hz1, hz2⟩ := info_parts Tryz.info_i64
  obtain ⟨ao, cp, hv⟩ := hlen
  subst hv
  have HR : Hid (Rd .i64 w (.slice ao zs.length cp) zs) := hr
  clear hr
  go_enter Tryz.func35, Tryz.ntmps35
  go_wp2_with fail
  refine (copyInts_any _ zs _ HR.out (by omega)).mono ?_
  rintro e w1 ⟨v1, rfl, hown1, hb1⟩
  go_wp2_with fail
  go_loopw [3, 4] (fun o i wr => ∃ k : Nat, k ≤ 40 ∧ i = .int .i64 k ∧ wr.ownsRow w.heap.size 3 1 o (zs.length + k) ((zs ++ List.replicate k (-71)).map (Value.int .i64)) ∧ Below w.heap.size w wr) (fun _ i _ => 40 - (intOf i).toNat)
  case atStart => exact ⟨0, Nat.zero_le _, rfl, by simpa using hown1, hb1⟩
  case round =>
    obtain ⟨k, hk, rfl, hown, hb⟩ := hrel
    have hz' : w.heap.size ≤ wr.heap.size := hb.size
    by_cases hlt : k < 40
    · have HT : Hid ((zs ++ List.replicate k (-71)).map (Value.int .i64) ++ [Value.int .i64 (-71)] = (zs ++ List.replicate (k + 1) (-71)).map (Value.int .i64)) := map_repI zs k
      generalize (zs ++ List.replicate k (-71)).map (Value.int .i64) = xs at hown HT
      go_wp2_with (at_builtin; refine wpList_append_own _ rfl _ _ 36 rfl w.heap.size 3 i0 (.int .i64 0) 1 8 Tryz.underlying36 hi hz0 hz1 hz2 rfl (by decide) _ _ _ rfl (hown.alloc _) ⟨wr.heap.size, 0, none⟩ 1 1 [.int .i64 (-71)] rfl rfl (cell_one_new _ _ _) (one_i64 _) (by unfold maxLen; omega) (by omega) (by simp; omega) ?_; intro v' w' hown' hg' hx')
      go_roundw
      case rel => exact ⟨k + 1, by omega, by go_num, by rw [← HT.out]; exact hown', below_push hb hown hg'⟩
      case measure => simp [intOf]; omega
    · have hke : k = 40 := by omega
      subst hke
      obtain ⟨g, cap, rfl, hbg, hgl, hnc, hcm⟩ := own_some hown (by omega)
      obtain ⟨cur, hcl, hct, _, _, hown2⟩ := own_full hown
      have hcm' : cap ≤ 9223372036854775807 := hcm
      clear hown1 hown hb1 hcm
      go_wp2
      have H2 := lend_startI (g := g) hcl hct hown2
      have HH : Hid (∃ rest : List Value, rest.length = cap - zs.length ∧ wr.ownsRow w.heap.size 3 1 (.slice (some ⟨g, 0, none⟩) cap cap) cap ((zs ++ filli zs.length (zs.length - zs.length)).map (Value.int .i64) ++ rest)) := H2
      clear H2 hct hown2 hcl
      go_loopw [5] (fun i wq => ∃ (k : Nat) (rest : List Value), zs.length ≤ k ∧ k ≤ cap ∧ i = .int .i64 k ∧ rest.length = cap - k ∧ wq.ownsRow w.heap.size 3 1 (.slice (some ⟨g, 0, none⟩) cap cap) cap ((zs ++ filli zs.length (k - zs.length)).map (Value.int .i64) ++ rest) ∧ Below w.heap.size w wq) (fun i _ => cap - (intOf i).toNat)
      case atStart =>
        obtain ⟨rest, hrl, hro⟩ := HH.out
        exact ⟨zs.length, rest, Nat.le_refl _, by omega, rfl, hrl, hro, hb⟩
      case round =>
        obtain ⟨k, rest, hk1, hk2, rfl, hrl, howq, hbq⟩ := hrel
        clear HH hb
        by_cases hlt : k < cap
        · obtain ⟨u, hcx⟩ := lend_cellI howq hlt
          have hfz := howq.frozenAt k
          have HS := lend_stepI hk1 hlt hrl howq
          have HS' : Hid (∃ rest' : List Value, rest'.length = cap - (k + 1) ∧ (wr.setCell ⟨g, k, none⟩ (.int .i64 (fillI k))).ownsRow w.heap.size 3 1 (.slice (some ⟨g, 0, none⟩) cap cap) cap ((zs ++ filli zs.length (k + 1 - zs.length)).map (Value.int .i64) ++ rest')) := HS
          clear HS howq hrl
          go_wp2
          go_roundw
          case rel =>
            obtain ⟨rest', hrl', hro'⟩ := HS'.out
            exact ⟨k + 1, rest', by omega, by omega, by go_num, hrl', hro', hbq.setCell (p := ⟨g, k, none⟩) hbg _⟩
          case measure => simp [intOf]; omega
        · have hke : k = cap := by omega
          subst hke
          have hrn : rest = [] := List.eq_nil_of_length_eq_zero (by omega)
          subst hrn
          rw [List.append_nil] at howq
          have hgl2 : g < wr.heap.size := (howq.lt g rfl).2
          have HS' : Hid (LentI wr w.heap.size g k zs) := ⟨hnc, by unfold maxLen; omega, hbg, hgl2, howq⟩
          clear howq
          go_wp2
          go_ret
          exact ⟨g, k, rfl, HS'.out, hbq⟩

theorem LentI.rd {w : World} {base g cap : Nat} {zs : List Int} (h : LentI w base g cap zs) : Rd .i64 w (.slice (some ⟨g, 0, none⟩) zs.length cap) zs := by
  obtain ⟨hl1, hl2, hl3, hl4, hown⟩ := h
  refine ⟨_, cap, rfl, by omega, hl2, fun _ => ⟨g, 0, rfl, hl4, fun i hi => ?_⟩⟩
  rw [Nat.zero_add, hown.cellAt i (by omega), List.getElem?_map, List.getElem?_append_left hi]
  simp [hi]
theorem LentI.ext {w w' : World} {base g cap : Nat} {zs : List Int} (h : LentI w base g cap zs) (hb : Below w.heap.size w w') : LentI w' base g cap zs :=
  ⟨h.1, h.2.1, h.2.2.1, Nat.lt_of_lt_of_le h.2.2.2.1 hb.size, own_ext h.2.2.2.2 hb⟩

set_option maxRecDepth 100000 in
theorem keptInts_any (v : Value) (zs : List Int) (g cap base : Nat) (w : World) (hr : Rd .i64 w v zs) (hL : LentI w base g cap zs) :
    Calls Tryz.prog 39 #[.slice (some ⟨g, 0, none⟩) cap cap, v] w fun e w' => e = .returned (.bool true) ∧ Below w.heap.size w w' := by
  have HRD : Hid (Rd .i64 w (.slice (some ⟨g, 0, none⟩) zs.length cap) zs) := hL.rd
  have HR : Hid (Rd .i64 w v zs) := hr
  obtain ⟨hl1, hl2, hl3, hl4, hown⟩ := hL
  have hcell : ∀ k, zs.length ≤ k → k < cap → w.cell? ⟨g, k, none⟩ = some (.int .i64 (wrap64 (-71 - (k : Int)))) := by
    intro k hk1 hk2
    rw [hown.cellAt k (by omega), List.getElem?_map, List.getElem?_append_right (by omega), filli_get _ _ _ (by omega)]
    simp [fillI, show zs.length + (k - zs.length) = k from by omega]
  obtain ⟨ao, cp, rfl, _⟩ := hr
  clear hown
  unfold maxLen at hl2
  go_enter Tryz.func39, Tryz.ntmps39
  go_wp2
  go_loop [6] (fun i => ∃ k : Nat, zs.length ≤ k ∧ k ≤ cap ∧ i = .int .i64 k) (fun i => cap - (intOf i).toNat)
  case atStart => exact ⟨zs.length, Nat.le_refl _, by omega, rfl⟩
  case round =>
    obtain ⟨k, hk1, hk2, rfl⟩ := hrel
    by_cases hlt : k < cap
    · have hc := hcell k hk1 hlt
      clear hcell
      go_wp2
      go_round
      case rel => exact ⟨k + 1, by omega, by omega, by go_num⟩
      case measure => simp [intOf]; omega
    · clear hcell
      have hd : decide ((zs.length : Int) + 40 ≤ (cap : Int)) = true := by simp; omega
      go_wp2_with fail
      refine (sameInts_any _ _ zs _ HRD.out HR.out).mono ?_
      rintro e w1 ⟨rfl, hb1⟩
      have HW : Hid (Below w.heap.size w w1) := hb1
      clear hb1
      go_wp2
      go_ret
      exact ⟨rfl, HW.out⟩
end Go.Proofs.YtmfbobibpebfnaaGreat

/- encoded; the law CodecEncode. -/
namespace Go.Proofs.YtmfbobibpebfnaaGreat
open Go.RowKit

theorem sameBytes_eq (v1 v2 : Value) (z : List Int) (w : World) (h1 : Rd .u8 w v1 z) (h2 : Rd .u8 w v2 z) :
    Calls Tryz.prog 38 #[v1, v2] w fun e w' => e = .returned (.bool true) ∧ Below w.heap.size w w' := by
  have := sameBytes_any v1 v2 z z w h1 h2
  simpa using this

theorem Cx.encR_nil (enc : Int) : Cx.encR enc [] = ([], 0, Cx.er enc) := by
  unfold Cx.encR Cx.er
  split <;> simp [Cx.bad, Cx.encB]

/-- One atom written over. -/
def tx (x : Int) : Int := bits .xor .i64 x 1
def flip (zs : List Int) : List Int := zs.map tx
theorem flip_len (zs : List Int) : (flip zs).length = zs.length := by simp [flip]
theorem flip_step (zs : List Int) (F : List Int) (k : Nat) (h : k < zs.length) :
    (((flip zs).take k ++ zs.drop k ++ F).map (Value.int .i64)).set k (.int .i64 (tx (zs[k]?.getD 0))) = ((flip zs).take (k + 1) ++ zs.drop (k + 1) ++ F).map (Value.int .i64) := by
  have hT : k < (flip zs).length := by rw [flip_len]; exact h
  rw [List.take_succ_eq_append_getElem hT, List.drop_eq_getElem_cons h]
  simp only [List.map_append, List.map_cons, List.append_assoc, List.cons_append]
  rw [set_mid _ _ _ _ k (by simp; omega)]
  simp [flip, h]
theorem flip_cell (zs : List Int) (F : List Int) (k : Nat) (h : k < zs.length) : (((flip zs).take k ++ zs.drop k ++ F).map (Value.int .i64))[k]? = some (.int .i64 (zs[k]?.getD 0)) := by
  have hT : k < (flip zs).length := by rw [flip_len]; exact h
  rw [List.drop_eq_getElem_cons h]
  simp only [List.map_append, List.map_cons, List.append_assoc, List.cons_append]
  rw [List.getElem?_append_right (by simp; omega)]
  simp [h, show k - min k (flip zs).length = 0 from by omega]

set_option maxRecDepth 100000 in
set_option maxHeartbeats 2000000 in
theorem encoded_any (enc : Int) (v : Value) (z : List Int) (w : World) (h : Rd .i64 w v z) (hz : z.length * 8 + 320 ≤ 140737488355328) :
    Calls Tryz.prog 23 #[.int .i64 enc, v] w fun e w' => e = .returned (.bool true) ∧ Below w.heap.size w w' := by
  obtain ⟨ao, cp, rfl, _⟩ := id h
  have HR : Hid (Rd .i64 w (.slice ao z.length cp) z) := h
  clear h
  go_enter Tryz.func23, Tryz.ntmps23
  go_wp2_with fail
  refine (lendInts_any _ z _ HR.out (by omega)).mono ?_
  rintro e w1 ⟨g, cap, rfl, hL1, hb1⟩
  have HL : Hid (LentI w1 w.heap.size g cap z) := hL1
  have hcap : z.length + 40 ≤ cap := hL1.1
  have hcm : cap ≤ 9223372036854775807 := hL1.2.1
  have HW1 : Hid (Below w.heap.size w w1) := hb1
  clear hL1 hb1
  go_wp2_with fail
  refine (Encode_any enc _ z _ HL.out.rd hz).mono ?_
  rintro e w2 ⟨l, rfl, hl2, hb2⟩
  have HO2 : Hid (Rd .u8 w2 l (Cx.encR enc z).1) := Rd.of_own hl2
  have HW2 : Hid (Below w1.heap.size w1 w2) := hb2
  clear hl2 hb2
  go_wp2_with fail
  refine (rEncode_any enc _ z _ (HR.out.ext (ext_trans HW1.out HW2.out)) hz).mono ?_
  rintro e w3 ⟨m, rfl, hm3, hb3⟩
  have HO3 : Hid (Rd .u8 w3 m (Cx.encR enc z).1) := Rd.of_own hm3
  have HW3 : Hid (Below w2.heap.size w2 w3) := hb3
  clear hm3 hb3
  generalize (Cx.encR enc z).2.1 = r1 at *
  generalize (Cx.encR enc z).2.2 = r2 at *
  go_wp2_with fail
  refine (Encode_any enc _ [] _ (Rd.nil _ _) (by simp)).mono ?_
  rintro e w4 ⟨zv, rfl, hz4, hb4⟩
  have hz4' := Rd.of_own hz4
  simp only [Cx.encR_nil] at hz4' ⊢
  obtain ⟨za, zc, rfl, _⟩ := hz4'
  have HW4 : Hid (Below w3.heap.size w3 w4) := hb4
  clear hz4 hb4
  simp only [List.length_nil]
  go_wp2_with fail
  refine (rEncode_any enc _ [] _ (Rd.nil _ _) (by simp)).mono ?_
  rintro e w5 ⟨yv, rfl, hy5, hb5⟩
  simp only [Cx.encR_nil]
  have HW5 : Hid (Below w4.heap.size w4 w5) := hb5
  have HA : Hid (Below w1.heap.size w1 w5) := ext_trans HW2.out (ext_trans HW3.out (ext_trans HW4.out hb5))
  have HR5 : Hid (Rd .i64 w5 (.slice ao z.length cp) z) := HR.out.ext (ext_trans HW1.out HA.out)
  have HM5 : Hid (Rd .u8 w5 m (Cx.encR enc z).1) := HO3.out.ext (ext_trans HW4.out hb5)
  have HL5 : Hid (Rd .u8 w5 l (Cx.encR enc z).1) := HO2.out.ext (ext_trans HW3.out (ext_trans HW4.out hb5))
  clear hy5 hb5
  have hner : (Cx.er enc != Cx.er enc) = false := by simp
  generalize Cx.er enc = er at *
  go_wp2_with fail
  refine (num_any _ _).mono ?_
  rintro e w' ⟨rfl, hw'⟩
  subst hw'
  have hnr2 : (r2 != r2) = false := by simp
  have hnr1 : (r1 != r1) = false := by simp
  go_wp2_with fail
  refine (num_any _ _).mono ?_
  rintro e w'' ⟨rfl, hw''⟩
  subst hw''
  go_wp2_with fail
  refine (sameBytes_eq _ _ _ _ HL5.out HM5.out).mono ?_
  rintro e w6 ⟨rfl, hb6⟩
  have HW6 : Hid (Below w''.heap.size w'' w6) := hb6
  have HL6 : Hid (LentI w6 w.heap.size g cap z) := HL.out.ext (ext_trans HA.out hb6)
  have HR6 : Hid (Rd .i64 w6 (.slice ao z.length cp) z) := HR5.out.ext hb6
  clear hb6
  go_wp2_with fail
  refine (keptInts_any _ z g cap _ _ HR6.out HL6.out).mono ?_
  rintro e w7 ⟨rfl, hb7⟩
  have HW7 : Hid (Below w''.heap.size w'' w7) := ext_trans HW6.out hb7
  have hL7 : LentI w7 w.heap.size g cap z := HL6.out.ext hb7
  clear hb7
  obtain ⟨hl1, hl2, hl3, hl4, hown⟩ := hL7
  generalize hF : filli z.length (cap - z.length) = F at *
  have HF : Hid (filli z.length (cap - z.length) = F) := hF
  clear hF
  go_wp2_with fail
  go_loopw [19] (fun i wr => ∃ (k : Nat), k ≤ z.length ∧ i = .int .i64 k ∧ wr.ownsRow w.heap.size 3 1 (.slice (some ⟨g, 0, none⟩) cap cap) cap (((flip z).take k ++ z.drop k ++ F).map (Value.int .i64)) ∧ w7.grownBy wr (some g)) (fun i _ => z.length - (intOf i).toNat)
  case atStart => exact ⟨0, Nat.zero_le _, rfl, by simpa using hown, World.grownBy.refl _ _⟩
  case round =>
    obtain ⟨k, hk1, rfl, howr, hg⟩ := hrel
    by_cases hlt : k < z.length
    · have hcx : wr.cell? ⟨g, k, none⟩ = some (.int .i64 (z[k]?.getD 0)) := by
        rw [howr.cellAt k (by omega), flip_cell z F k hlt]
      have hfz := howr.frozenAt k
      have hst := (howr.stored k (.int .i64 (tx (z[k]?.getD 0)))).1
      rw [flip_step z F k hlt] at hst
      generalize z[k]?.getD 0 = x at *
      have HS : Hid ((wr.setCell ⟨g, k, none⟩ (.int .i64 (tx x))).ownsRow w.heap.size 3 1 (.slice (some ⟨g, 0, none⟩) cap cap) cap (((flip z).take (k + 1) ++ z.drop (k + 1) ++ F).map (Value.int .i64))) := hst
      clear hst howr hown
      go_wp2
      go_roundw
      case rel => exact ⟨k + 1, by omega, by go_num, HS.out, grown_setCell hg _⟩
      case measure => simp [intOf]; omega
    · have hke : k = z.length := by omega
      subst hke
      have e : (flip z).take z.length ++ z.drop z.length ++ F = flip z ++ F := by rw [List.take_of_length_le (by rw [flip_len]; exact Nat.le_refl _), List.drop_length, List.append_nil]
      rw [e] at howr
      have HL8 : Hid (LentI wr w.heap.size g cap (flip z)) := by
        refine ⟨by rw [flip_len]; exact hl1, hl2, hl3, Nat.lt_of_lt_of_le hl4 hg.size, ?_⟩
        rw [flip_len, HF.out]
        exact howr
      clear howr hown e
      have hT := flip_len z
      have HG8 : Hid (w7.grownBy wr (some g)) := hg
      clear hg
      go_wp2_with fail
      have hrd8 := HL8.out.rd
      rw [hT] at hrd8
      refine (copyInts_any _ (flip z) _ hrd8 (by rw [hT]; omega)).mono ?_
      rintro e w8 ⟨o, rfl, hO8, hb8⟩
      have HO8 : Hid (Rd .i64 w8 o (flip z)) := Rd.of_own hO8
      have HW8 : Hid (Below wr.heap.size wr w8) := hb8
      have hrd8' := hrd8.ext hb8
      clear hO8 hb8 hrd8
      have HRD8 : Hid (Rd .i64 w8 (.slice (some ⟨g, 0, none⟩) z.length cap) (flip z)) := hrd8'
      clear hrd8'
      go_wp2_with fail
      refine (Encode_any enc _ (flip z) _ HRD8.out (by rw [hT]; omega)).mono ?_
      rintro e w9 ⟨l9, rfl, hl9, hb9⟩
      have HO9 : Hid (Rd .u8 w9 l9 (Cx.encR enc (flip z)).1) := Rd.of_own hl9
      have HW9 : Hid (Below w8.heap.size w8 w9) := hb9
      clear hl9 hb9
      go_wp2_with fail
      refine (rEncode_any enc _ (flip z) _ (HO8.out.ext HW9.out) (by rw [hT]; omega)).mono ?_
      rintro e w10 ⟨m10, rfl, hm10, hb10⟩
      have HO10 : Hid (Rd .u8 w10 m10 (Cx.encR enc (flip z)).1) := Rd.of_own hm10
      have HW10 : Hid (Below w9.heap.size w9 w10) := hb10
      clear hm10 hb10
      generalize (Cx.encR enc (flip z)).2.1 = s1 at *
      generalize (Cx.encR enc (flip z)).2.2 = s2 at *
      have hes2 : (s2 == s2) = true := by simp
      have hes1 : (s1 == s1) = true := by simp
      go_wp2_with fail
      refine (num_any _ _).mono ?_
      rintro e w11 ⟨rfl, hw11⟩
      subst hw11
      go_wp2_with fail
      refine (sameBytes_eq _ _ _ _ (HO9.out.ext HW10.out) HO10.out).mono ?_
      rintro e w12 ⟨rfl, hb12⟩
      have HW12 : Hid (Below w11.heap.size w11 w12) := hb12
      clear hb12
      go_wp2
      go_ret
      refine ⟨rfl, ?_⟩
      have hA : Below w.heap.size w w7 := ext_trans HW1.out (ext_trans HA.out HW7.out)
      have hB : Below w.heap.size w wr := hA.grown HG8.out hA.size (fun k hk => by cases hk; exact HL8.out.2.2.1)
      exact ext_trans hB (ext_trans HW8.out (ext_trans HW9.out (ext_trans HW10.out HW12.out)))
end Go.Proofs.YtmfbobibpebfnaaGreat

/- Back: an atom that was read gives its bytes; a scalar that was put is read. No Go in sight. -/
namespace Go.Proofs.YtmfbobibpebfnaaGreat

theorem Cx.pre_take (m b : List Int) (h : m.isPrefixOf b = true) : b.take m.length = m := by
  rw [List.isPrefixOf_iff_prefix] at h
  exact (List.prefix_iff_eq_take.1 h).symm

theorem Cx.c0_take (b : List Int) (hn : b ≠ []) : b.take 1 = [Cx.c0 b] := by
  cases b with
  | nil => exact absurd rfl hn
  | cons a l => rfl

theorem Cx.back1 (b : List Int) (hb : Byt b) (hn : b ≠ []) : Cx.fits 1 (Cx.first8 b).1 = true ∧ Cx.put 1 (Cx.first8 b).1 = b.take (Cx.first8 b).2.toNat := by
  have hbd := Cx.mtch_bd b
  have h0 := hb.at 0
  change 0 ≤ Cx.c0 b ∧ Cx.c0 b ≤ 255 at h0
  by_cases hm : 0 < Cx.mtch b ∧ Cx.mtch b ≤ b.length
  · have hh := (Cx.hit_iff b hb (Cx.mtch b).toNat (by omega) (by omega)).2 ⟨by omega, by omega⟩
    rw [Cx.hitB_iff b _ _ rfl] at hh
    obtain ⟨_, hs, hl, hp⟩ := hh
    have e := Cx.first8_hit b hb (Cx.mtch b).toNat (by omega) (by omega) ((Cx.hit_iff b hb (Cx.mtch b).toNat (by omega) (by omega)).2 ⟨by omega, by omega⟩)
    rw [e]
    simp only [Int.toNat_natCast]
    have ht := Cx.pre_take _ _ hp
    rw [hl] at ht
    have hs0 := (Cx.sc_iff _).1 hs
    refine ⟨by unfold Cx.fits; rw [if_pos rfl, hs, Bool.true_or], ?_⟩
    unfold Cx.put
    rw [if_neg (by omega), if_pos rfl]
    exact ht.symm
  · have e : Cx.first8 b = (-1 - Cx.c0 b, 1) := by unfold Cx.first8; rw [if_neg hm]
    have h128 : 128 ≤ Cx.c0 b := by
      rcases Classical.em (128 ≤ Cx.c0 b) with h | h
      · exact h
      · exfalso
        have r : Cx.rowN (Cx.c0 b) = 1 := by unfold Cx.rowN; rw [if_pos (by omega)]
        have hy := Cx.mtch_yes b 1 (fun j h1 h2 => by omega) (.inl (by rw [r]; decide))
        rw [r] at hy
        have hp : 0 < b.length := List.length_pos_iff.2 hn
        exact hm ⟨by omega, by omega⟩
    rw [e]
    refine ⟨?_, ?_⟩
    · unfold Cx.fits; rw [if_pos rfl]; simp; omega
    · unfold Cx.put
      rw [if_pos (by simp only; omega)]
      show [-1 - (-1 - Cx.c0 b)] = b.take 1
      rw [Cx.c0_take b hn]
      congr 1; omega

theorem Cx.unit_wv (enc : Int) (b : List Int) (hb : Byt b) (h2 : 2 ≤ b.length) (he : enc = 2 ∨ enc = 3) : Cx.unit enc (Cx.wv (Cx.lowOf enc) b) = b.take 2 := by
  match b, h2 with
  | x :: y :: l, _ =>
    have hx := hb x (by simp)
    have hy := hb y (by simp)
    rcases he with rfl | rfl
    · simp only [Cx.unit, Cx.wv, Cx.lowOf, if_true, List.getElem?_cons_succ, List.getElem?_cons_zero, Option.getD_some, List.take_succ_cons, List.take_zero]
      have e1 : (y * 256 + x) % 256 = x := by omega
      have e2 : (y * 256 + x) / 256 = y := by omega
      rw [e1, e2]
    · simp only [Cx.unit, Cx.wv, Cx.lowOf, show ¬ ((3 : Int) = 2) from by decide, show ¬ ((1 : Int) = 0) from by decide, if_false, List.getElem?_cons_succ, List.getElem?_cons_zero, Option.getD_some, List.take_succ_cons, List.take_zero]
      have e1 : (x * 256 + y) % 256 = y := by omega
      have e2 : (x * 256 + y) / 256 = x := by omega
      rw [e1, e2]

theorem Cx.back2 (enc : Int) (b : List Int) (hb : Byt b) (hn : b ≠ []) (he : enc = 2 ∨ enc = 3) : Cx.fits enc (Cx.first16 (Cx.lowOf enc) b).1 = true ∧ Cx.put enc (Cx.first16 (Cx.lowOf enc) b).1 = b.take (Cx.first16 (Cx.lowOf enc) b).2.toNat := by
  have h0 := hb.at 0
  change 0 ≤ Cx.c0 b ∧ Cx.c0 b ≤ 255 at h0
  have hp : 0 < b.length := List.length_pos_iff.2 hn
  have ft : ∀ a : Int, -256 ≤ a → a ≤ 1114111 → Cx.fits enc a = true := by
    intro a h1 h2
    unfold Cx.fits
    rw [if_neg (by omega), if_pos he]; simp; omega
  unfold Cx.first16
  by_cases h1 : b.length = 1
  · rw [if_pos h1]
    refine ⟨ft _ (by simp only; omega) (by simp only; omega), ?_⟩
    unfold Cx.put
    rw [if_pos (by simp only; omega)]
    show [-1 - (-1 - Cx.c0 b)] = b.take 1
    rw [Cx.c0_take b hn]
    congr 1; omega
  · rw [if_neg h1]
    have hu := Cx.wv_bd (Cx.lowOf enc) b hb
    have hw := Cx.unit_wv enc b hb (by omega) he
    cases hP : Cx.isP (Cx.lowOf enc) b
    · rw [if_neg (by simp)]
      refine ⟨ft _ (by simp only; omega) (by simp only; omega), ?_⟩
      unfold Cx.put
      rw [if_neg (by simp only; omega), if_neg (by omega), if_neg (by omega), if_neg (by simp only; omega)]
      exact hw
    · rw [if_pos rfl]
      unfold Cx.isP Cx.hiU Cx.loU at hP
      simp only [Bool.and_eq_true, decide_eq_true_eq] at hP
      obtain ⟨⟨h4, h5, h6⟩, h7, h8⟩ := hP
      have hw2 := Cx.unit_wv enc (b.drop 2) (hb.drop 2) (by rw [List.length_drop]; omega) he
      have hpv : Cx.pairV (Cx.lowOf enc) b = 65536 + (Cx.wv (Cx.lowOf enc) b - 55296) * 1024 + (Cx.wv (Cx.lowOf enc) (b.drop 2) - 56320) := rfl
      generalize Cx.pairV (Cx.lowOf enc) b = p at *
      refine ⟨ft _ (by simp only; omega) (by simp only; omega), ?_⟩
      unfold Cx.put
      rw [if_neg (by simp only; omega), if_neg (by omega), if_neg (by omega), if_pos (by simp only; omega)]
      simp only
      rw [show 55296 + (p - 65536) / 1024 = Cx.wv (Cx.lowOf enc) b from by omega, show 56320 + p % 1024 = Cx.wv (Cx.lowOf enc) (b.drop 2) from by omega, hw, hw2]
      show b.take 2 ++ (b.drop 2).take 2 = b.take (2 + 2)
      rw [List.take_add]

theorem Cx.back (enc : Int) (b : List Int) (hb : Byt b) (hn : b ≠ []) (he : enc = 1 ∨ enc = 2 ∨ enc = 3 ∨ enc = 4) : Cx.fits enc (Cx.fst enc b).1 = true ∧ Cx.put enc (Cx.fst enc b).1 = b.take (Cx.fst enc b).2.toNat := by
  rcases he with rfl | rfl | rfl | rfl
  · exact Cx.back1 b hb hn
  · exact Cx.back2 2 b hb hn (.inl rfl)
  · exact Cx.back2 3 b hb hn (.inr rfl)
  · have h0 := hb.at 0
    change 0 ≤ Cx.c0 b ∧ Cx.c0 b ≤ 255 at h0
    refine ⟨?_, ?_⟩
    · show Cx.fits 4 (Cx.c0 b) = true
      unfold Cx.fits; simp; omega
    · show Cx.put 4 (Cx.c0 b) = b.take 1
      unfold Cx.put; rw [if_neg (by omega), Cx.c0_take b hn]; rfl

/-- What was read and is put again is what there was; every atom fits. -/
theorem Cx.back_all (enc : Int) (he : enc = 1 ∨ enc = 2 ∨ enc = 3 ∨ enc = 4) : ∀ (m : Nat) (b : List Int), b.length ≤ m → Byt b → Cx.encB enc (Cx.dec enc b) = b ∧ ∀ a ∈ Cx.dec enc b, Cx.fits enc a = true := by
  intro m
  induction m with
  | zero =>
    intro b h _
    have : b = [] := List.length_eq_zero_iff.1 (by omega)
    subst this
    rw [Cx.dec_nil]
    exact ⟨rfl, by simp⟩
  | succ m ih =>
    intro b h hb
    by_cases hn : b = []
    · subst hn
      rw [Cx.dec_nil]
      exact ⟨rfl, by simp⟩
    · have hbd := Cx.fst_bd enc b hn
      obtain ⟨hf, hp⟩ := Cx.back enc b hb hn he
      have e : Cx.fst enc b = ((Cx.fst enc b).1, ((Cx.fst enc b).2.toNat : Int)) := Prod.ext rfl (by simp only; omega)
      rw [Cx.dec_cons enc b hn _ _ e]
      obtain ⟨i1, i2⟩ := ih (b.drop (Cx.fst enc b).2.toNat) (by rw [List.length_drop]; omega) (hb.drop _)
      refine ⟨?_, ?_⟩
      · unfold Cx.encB at i1 ⊢
        rw [List.flatMap_cons, i1, hp, List.take_append_drop]
      · intro a ha
        rcases List.mem_cons.1 ha with rfl | ha
        · exact hf
        · exact i2 a ha
end Go.Proofs.YtmfbobibpebfnaaGreat
