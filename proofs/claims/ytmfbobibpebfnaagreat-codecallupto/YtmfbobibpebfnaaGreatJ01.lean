import Derived.Test.YtmfbobibpebfnaaGreatRows
import Derived.WalkKit
import Derived.WalkSpells
import Derived.WalkLawsBesides
import Derived.StillTactics
import Derived.Deep.QuietTactic
import Derived.BigQuiet
import Derived.Outline
import Derived.Laws.BytesArg
import Derived.Lib.Strings
/- Slices that are read, rows that are owned: small laws. -/
namespace Go.Proofs.YtmfbobibpebfnaaGreat
open Go.RowKit

theorem Tryz.info_u8 : (Tryz.prog.info? 5).map (fun i => (i.zero, i.size, i.bytes)) = some (some (.int .u8 0), 1, 1) := by kernel_rfl
theorem Tryz.info_i64 : (Tryz.prog.info? 3).map (fun i => (i.zero, i.size, i.bytes)) = some (some (.int .i64 0), 1, 8) := by kernel_rfl

/-- The slice v reads as the numbers zs. -/
def Rd (k : IntKind) (w : World) (v : Value) (zs : List Int) : Prop :=
  ∃ ao cap, v = .slice ao zs.length cap ∧ zs.length ≤ cap ∧ cap ≤ maxLen ∧
    (zs ≠ [] → ∃ b off, ao = some ⟨b, off, none⟩ ∧ b < w.heap.size ∧ ∀ i, i < zs.length → w.cell? ⟨b, off + i, none⟩ = some (.int k (zs[i]?.getD 0)))

theorem Rd.ext {k : IntKind} {w w' : World} {v : Value} {zs : List Int} (h : Rd k w v zs) (hb : Below w.heap.size w w') : Rd k w' v zs := by
  obtain ⟨ao, cap, hv, h1, h2, h3⟩ := h
  refine ⟨ao, cap, hv, h1, h2, fun hn => ?_⟩
  obtain ⟨b, off, ha, hlt, hc⟩ := h3 hn
  exact ⟨b, off, ha, Nat.lt_of_lt_of_le hlt hb.size, fun i hi => (hb.cell (p := ⟨b, off + i, none⟩) hlt).trans (hc i hi)⟩

/-- All but one block of the elder memory stand: a slice that lies elsewhere reads as before. -/
theorem Rd.grown {k : IntKind} {w w' : World} {v : Value} {zs : List Int} {B : Nat} (h : Rd k w v zs) (hB : zs ≠ [] → ∀ b off n c, v = .slice (some ⟨b, off, none⟩) n c → b < B) (hb : Below B w w') : Rd k w' v zs := by
  obtain ⟨ao, cap, hv, h1, h2, h3⟩ := h
  refine ⟨ao, cap, hv, h1, h2, fun hn => ?_⟩
  obtain ⟨b, off, ha, hlt, hc⟩ := h3 hn
  have hlt' := hB hn b off zs.length cap (by rw [hv, ha])
  exact ⟨b, off, ha, Nat.lt_of_lt_of_le hlt hb.size, fun i hi => (hb.cell (p := ⟨b, off + i, none⟩) hlt').trans (hc i hi)⟩

theorem Rd.of_own {k : IntKind} {w : World} {base : Nat} {e : TypeId} {v : Value} {n : Nat} {zs : List Int} (h : w.ownsRow base e 1 v n (zs.map (Value.int k))) : Rd k w v zs := by
  obtain ⟨h1, h2⟩ := h
  simp at h1
  subst h1
  rcases h2 with ⟨rfl, hn⟩ | ⟨g, cap, cur, rfl, hb, hg, hn, hc, hs, ht⟩
  · exact ⟨none, 0, by rw [hn], by omega, by simp [maxLen], fun h => absurd (List.length_eq_zero_iff.1 hn) h⟩
  · refine ⟨_, cap, rfl, hn, hc, fun _ => ⟨g, 0, rfl, (Array.getElem?_eq_some_iff.1 hg).1, fun i hi => ?_⟩⟩
    rw [cell_of_row w g (0 + i) cur e (0, 0) hg]
    simp only [Nat.mul_one] at ht
    have : (cur.toList.take zs.length)[i]? = some (Value.int k (zs[i]?.getD 0)) := by rw [ht]; simp [hi]
    rw [List.getElem?_take, if_pos hi] at this
    simpa using this

theorem Rd.len {k : IntKind} {w : World} {v : Value} {zs : List Int} (h : Rd k w v zs) : zs.length ≤ 9223372036854775807 := by
  obtain ⟨ao, cap, hv, h1, h2, h3⟩ := h
  unfold maxLen at h2
  omega

theorem own_ext {w w' : World} {base : Nat} {e : TypeId} {size : Nat} {v : Value} {n : Nat} {xs : List Value} (h : w.ownsRow base e size v n xs) (hb : Below w.heap.size w w') : w'.ownsRow base e size v n xs :=
  h.kept (row := none) ⟨hb.os, hb.tape, hb.output, hb.size, fun k hk _ => hb.block k hk⟩ (by cases v.ownBlock <;> simp)

theorem ext_trans {a b c : World} (h : Below a.heap.size a b) (k : Below b.heap.size b c) : Below a.heap.size a c := h.trans (k.mono h.size)

theorem take_succ_map {k : IntKind} (zs : List Int) (i : Nat) (h : i < zs.length) : (zs.take i).map (Value.int k) ++ [Value.int k (zs[i]?.getD 0)] = (zs.take (i + 1)).map (Value.int k) := by
  rw [List.take_succ_eq_append_getElem h, List.map_append]
  simp [h]

/-- Behind 'append(out, x)' nothing elder has turned. -/
theorem below_push {w wr w' : World} {o : Obj} {e : TypeId} {size n : Nat} {v : Value} {xs : List Value} (hb : Below w.heap.size w wr) (hown : wr.ownsRow w.heap.size e size v n xs) (hg : (wr.alloc o).grownBy w' v.ownBlock) : Below w.heap.size w w' :=
  (hb.alloc hb.size o).grown hg (by have := hb.size; simp; omega) (fun k hk => (hown.lt k hk).1)

theorem one_u8 (x : Int) : ∀ u ∈ [Value.int .u8 x], u.oneCell' = true := by intro u hu; simp at hu; subst hu; rfl
theorem one_i64 (x : Int) : ∀ u ∈ [Value.int .i64 x], u.oneCell' = true := by intro u hu; simp at hu; subst hu; rfl

theorem copyBytes_any (v : Value) (zs : List Int) (w : World) (hr : Rd .u8 w v zs) (hz : zs.length ≤ 140737488355328) :
    Calls Tryz.prog 15 #[v] w fun e w' => ∃ v', e = .returned v' ∧ w'.ownsRow w.heap.size 5 1 v' zs.length (zs.map (Value.int .u8)) ∧ Below w.heap.size w w' := by
  obtain ⟨ao, cap, rfl, hl, hm, hc⟩ := hr
  obtain ⟨i0, hi, hz0, hz1, hz2⟩ := info_parts Tryz.info_u8
  by_cases hn : zs = []
  · subst hn
    clear hc
    simp only [List.length_nil]
    go_enter Tryz.func15, Tryz.ntmps15
    go_wp2_with fail
    refine wp_loop_rounds 1 ?_
    rw [rounds_succ]
    go_wp2
    go_ret
    exact ⟨_, rfl, World.ownsRow_nil _ _ _ _, Below.refl _ _⟩
  · obtain ⟨b, off, rfl, hbl, hc⟩ := hc hn
    clear hn hm
    go_enter Tryz.func15, Tryz.ntmps15
    go_wp2_with fail
    go_loopw [3, 4] (fun o i wr => ∃ k : Nat, k ≤ zs.length ∧ i = .int .i64 k ∧ wr.ownsRow w.heap.size 5 1 o k ((zs.take k).map (Value.int .u8)) ∧ Below w.heap.size w wr) (fun _ i _ => zs.length - (intOf i).toNat)
    case atStart => exact ⟨0, Nat.zero_le _, rfl, World.ownsRow_nil _ _ _ _, Below.refl _ _⟩
    case round =>
      obtain ⟨k, hk, rfl, hown, hb⟩ := hrel
      by_cases hlt : k < zs.length
      · have hcx : wr.cell? ⟨b, off + k, none⟩ = some (.int .u8 (zs[k]?.getD 0)) := (hb.cell (p := ⟨b, off + k, none⟩) hbl).trans (hc k hlt)
        have hz' : w.heap.size ≤ wr.heap.size := hb.size
        have HT : Hid ((zs.take k).map (Value.int .u8) ++ [Value.int .u8 (zs[k]?.getD 0)] = (zs.take (k + 1)).map (Value.int .u8)) := take_succ_map zs k hlt
        generalize zs[k]?.getD 0 = x at *
        generalize (zs.take k).map (Value.int .u8) = xs at *
        clear hc
        go_wp2_with (at_builtin; refine wpList_append_own _ rfl _ _ 35 rfl w.heap.size 5 i0 (.int .u8 0) 1 1 Tryz.underlying35 hi hz0 hz1 hz2 rfl (by decide) _ _ _ rfl (hown.alloc _) ⟨wr.heap.size, 0, none⟩ 1 1 [.int .u8 x] rfl rfl (cell_one_new _ _ _) (one_u8 _) (by unfold maxLen; omega) (by omega) (by simp; omega) ?_; intro v' w' hown' hg' hx')
        go_roundw
        case rel => exact ⟨k + 1, by omega, by go_num, by rw [← HT.out]; exact hown', below_push hb hown hg'⟩
        case measure => simp [intOf]; omega
      · have hke : k = zs.length := by omega
        subst hke
        have HT : Hid ((zs.take zs.length).map (Value.int .u8) = zs.map (Value.int .u8)) := by unfold Hid; rw [List.take_length]
        clear hc
        go_wp2
        go_ret
        exact ⟨_, rfl, by rw [← HT.out]; exact hown, hb⟩
end Go.Proofs.YtmfbobibpebfnaaGreat

/- lend, kept, turned: the caller's lists with marks behind them. -/
namespace Go.Proofs.YtmfbobibpebfnaaGreat
open Go.RowKit

/-- The slice up to its capacity. -/
theorem own_full {w : World} {base : Nat} {e : TypeId} {g n cap : Nat} {xs : List Value} (h : w.ownsRow base e 1 (.slice (some ⟨g, 0, none⟩) n cap) n xs) :
    ∃ cur : List Value, cur.length = cap ∧ cur.take n = xs ∧ n ≤ cap ∧ cap ≤ maxLen ∧ w.ownsRow base e 1 (.slice (some ⟨g, 0, none⟩) cap cap) cap cur := by
  obtain ⟨h1, h2⟩ := h
  rcases h2 with ⟨hv, _⟩ | ⟨g', cap', cur, hv, hb, hg, hn, hc, hs, ht⟩
  · cases hv
  · cases hv
    simp only [Nat.mul_one] at hs ht
    refine ⟨cur.toList, by simpa using hs, ht, hn, hc, by simp [hs], .inr ⟨g, cap, cur, rfl, hb, hg, Nat.le_refl _, hc, by simpa using hs, ?_⟩⟩
    rw [List.take_of_length_le (by simp [hs])]

theorem own_some {w : World} {base : Nat} {e : TypeId} {v : Value} {n : Nat} {xs : List Value} (h : w.ownsRow base e 1 v n xs) (hn : 0 < n) : ∃ g cap, v = .slice (some ⟨g, 0, none⟩) n cap ∧ base ≤ g ∧ g < w.heap.size ∧ n ≤ cap ∧ cap ≤ maxLen := by
  obtain ⟨h1, h2⟩ := h
  rcases h2 with ⟨hv, h0⟩ | ⟨g', cap', cur, hv, hb, hg, hn, hc, hs, ht⟩
  · omega
  · exact ⟨g', cap', hv, hb, (Array.getElem?_eq_some_iff.1 hg).1, hn, hc⟩

theorem map_rep (zs : List Int) (k : Nat) : (zs ++ List.replicate k 167).map (Value.int .u8) ++ [Value.int .u8 167] = (zs ++ List.replicate (k + 1) 167).map (Value.int .u8) := by
  rw [List.replicate_succ']; simp

/-- The mark at place i behind what was lent. -/
def fillB (i : Nat) : Int := wrap64 (167 + (i : Int)) % 256
def fill (a m : Nat) : List Int := (List.range' a m).map fillB
theorem fill_len (a m : Nat) : (fill a m).length = m := by simp [fill]
theorem fill_succ (a m : Nat) : fill a (m + 1) = fill a m ++ [fillB (a + m)] := by simp [fill, List.range'_1_concat]
theorem fill_get (a m j : Nat) (h : j < m) : (fill a m)[j]? = some (fillB (a + j)) := by simp [fill, h]
theorem set_mid (A rest : List Value) (r x : Value) (k : Nat) (h : A.length = k) : (A ++ r :: rest).set k x = (A ++ [x]) ++ rest := by
  subst h; simp

/-- What was lent: zs, and marks in all the room behind it. -/
def Lent (w : World) (base g cap : Nat) (zs : List Int) : Prop :=
  zs.length + 40 ≤ cap ∧ cap ≤ maxLen ∧ base ≤ g ∧ g < w.heap.size ∧ w.ownsRow base 5 1 (.slice (some ⟨g, 0, none⟩) cap cap) cap ((zs ++ fill zs.length (cap - zs.length)).map (Value.int .u8))

theorem lend_start {w : World} {base g cap : Nat} {zs : List Int} {cur : List Value} (hcl : cur.length = cap) (hct : cur.take (zs.length + 40) = (zs ++ List.replicate 40 167).map (Value.int .u8))
    (hown : w.ownsRow base 5 1 (.slice (some ⟨g, 0, none⟩) cap cap) cap cur) :
    ∃ rest : List Value, rest.length = cap - zs.length ∧ w.ownsRow base 5 1 (.slice (some ⟨g, 0, none⟩) cap cap) cap ((zs ++ fill zs.length (zs.length - zs.length)).map (Value.int .u8) ++ rest) := by
  refine ⟨cur.drop zs.length, by simp [hcl], ?_⟩
  have e : cur.take zs.length = zs.map (Value.int .u8) := by
    have := congrArg (List.take zs.length) hct
    rw [List.take_take, Nat.min_eq_left (by omega)] at this
    rw [this, List.map_append, List.take_append_of_le_length (by simp), List.take_of_length_le (by simp)]
  have e2 : (zs ++ fill zs.length (zs.length - zs.length)).map (Value.int .u8) ++ cur.drop zs.length = cur := by
    rw [Nat.sub_self]
    simp only [fill, List.range'_zero, List.map_nil, List.append_nil]
    rw [← e, List.take_append_drop]
  rw [e2]
  exact hown

theorem lend_step {w : World} {base g cap k : Nat} {zs : List Int} {rest : List Value} (h1 : zs.length ≤ k) (h2 : k < cap) (hr : rest.length = cap - k)
    (hown : w.ownsRow base 5 1 (.slice (some ⟨g, 0, none⟩) cap cap) cap ((zs ++ fill zs.length (k - zs.length)).map (Value.int .u8) ++ rest)) :
    ∃ rest' : List Value, rest'.length = cap - (k + 1) ∧ (w.setCell ⟨g, k, none⟩ (.int .u8 (fillB k))).ownsRow base 5 1 (.slice (some ⟨g, 0, none⟩) cap cap) cap ((zs ++ fill zs.length (k + 1 - zs.length)).map (Value.int .u8) ++ rest') := by
  obtain ⟨r, rest', rfl⟩ : ∃ r rest', rest = r :: rest' := by
    cases rest with
    | nil => simp at hr; omega
    | cons r l => exact ⟨r, l, rfl⟩
  refine ⟨rest', by simp at hr; omega, ?_⟩
  have h := (hown.stored k (.int .u8 (fillB k))).1
  rw [set_mid _ _ _ _ k (by simp [fill_len]; omega)] at h
  have e : (zs ++ fill zs.length (k + 1 - zs.length)).map (Value.int .u8) = (zs ++ fill zs.length (k - zs.length)).map (Value.int .u8) ++ [Value.int .u8 (fillB k)] := by
    rw [show k + 1 - zs.length = (k - zs.length) + 1 from by omega, fill_succ, show zs.length + (k - zs.length) = k from by omega]
    simp
  rw [e]
  exact h

theorem lend_cell {w : World} {base g cap k : Nat} {xs : List Value} (hown : w.ownsRow base 5 1 (.slice (some ⟨g, 0, none⟩) cap cap) cap xs) (h2 : k < cap) : ∃ u, w.cell? ⟨g, k, none⟩ = some u := by
  have h1 := hown.1
  simp only [Nat.mul_one] at h1
  refine ⟨xs[k]'(by omega), ?_⟩
  rw [hown.cellAt k (by omega)]
  simp [show k < xs.length from by omega]

set_option maxRecDepth 100000 in
theorem lend_any (v : Value) (zs : List Int) (w : World) (hr : Rd .u8 w v zs) (hz : zs.length + 40 ≤ 140737488355328) :
    Calls Tryz.prog 18 #[v] w fun e w' => ∃ g cap, e = .returned (.slice (some ⟨g, 0, none⟩) cap cap) ∧ Lent w' w.heap.size g cap zs ∧ Below w.heap.size w w' := by
  have hlen : ∃ ao cap, v = .slice ao zs.length cap := by obtain ⟨ao, cap, hv, _⟩ := hr; exact ⟨ao, cap, hv⟩
  obtain ⟨i0, hi, hz0, hz1, hz2⟩ := info_parts Tryz.info_u8
  obtain ⟨ao, cp, hv⟩ := hlen
  subst hv
  have HR : Hid (Rd .u8 w (.slice ao zs.length cp) zs) := hr
  clear hr
  go_enter Tryz.func18, Tryz.ntmps18
  go_wp2_with fail
  refine (copyBytes_any _ zs _ HR.out (by omega)).mono ?_
  rintro e w1 ⟨v1, rfl, hown1, hb1⟩
  go_wp2_with fail
  go_loopw [3, 4] (fun o i wr => ∃ k : Nat, k ≤ 40 ∧ i = .int .i64 k ∧ wr.ownsRow w.heap.size 5 1 o (zs.length + k) ((zs ++ List.replicate k 167).map (Value.int .u8)) ∧ Below w.heap.size w wr) (fun _ i _ => 40 - (intOf i).toNat)
  case atStart => exact ⟨0, Nat.zero_le _, rfl, by simpa using hown1, hb1⟩
  case round =>
    obtain ⟨k, hk, rfl, hown, hb⟩ := hrel
    have hz' : w.heap.size ≤ wr.heap.size := hb.size
    by_cases hlt : k < 40
    · have HT : Hid ((zs ++ List.replicate k 167).map (Value.int .u8) ++ [Value.int .u8 167] = (zs ++ List.replicate (k + 1) 167).map (Value.int .u8)) := map_rep zs k
      generalize (zs ++ List.replicate k 167).map (Value.int .u8) = xs at hown HT
      go_wp2_with (at_builtin; refine wpList_append_own _ rfl _ _ 35 rfl w.heap.size 5 i0 (.int .u8 0) 1 1 Tryz.underlying35 hi hz0 hz1 hz2 rfl (by decide) _ _ _ rfl (hown.alloc _) ⟨wr.heap.size, 0, none⟩ 1 1 [.int .u8 167] rfl rfl (cell_one_new _ _ _) (one_u8 _) (by unfold maxLen; omega) (by omega) (by simp; omega) ?_; intro v' w' hown' hg' hx')
      go_roundw
      case rel => exact ⟨k + 1, by omega, by go_num, by rw [← HT.out]; exact hown', below_push hb hown hg'⟩
      case measure => simp [intOf]; omega
    · have hke : k = 40 := by omega
      subst hke
      obtain ⟨g, cap, rfl, hbg, hgl, hnc, hcm⟩ := own_some hown (by omega)
      obtain ⟨cur, hcl, hct, _, _, hown2⟩ := own_full hown
      have hcm' : cap ≤ 9223372036854775807 := hcm
      clear hown1 hown hb1 hcm
      go_wp2
      have H2 := lend_start (g := g) hcl hct hown2
      have HH : Hid (∃ rest : List Value, rest.length = cap - zs.length ∧ wr.ownsRow w.heap.size 5 1 (.slice (some ⟨g, 0, none⟩) cap cap) cap ((zs ++ fill zs.length (zs.length - zs.length)).map (Value.int .u8) ++ rest)) := H2
      clear H2 hct hown2 hcl
      go_loopw [5] (fun i wq => ∃ (k : Nat) (rest : List Value), zs.length ≤ k ∧ k ≤ cap ∧ i = .int .i64 k ∧ rest.length = cap - k ∧ wq.ownsRow w.heap.size 5 1 (.slice (some ⟨g, 0, none⟩) cap cap) cap ((zs ++ fill zs.length (k - zs.length)).map (Value.int .u8) ++ rest) ∧ Below w.heap.size w wq) (fun i _ => cap - (intOf i).toNat)
      case atStart =>
        obtain ⟨rest, hrl, hro⟩ := HH.out
        exact ⟨zs.length, rest, Nat.le_refl _, by omega, rfl, hrl, hro, hb⟩
      case round =>
        obtain ⟨k, rest, hk1, hk2, rfl, hrl, howq, hbq⟩ := hrel
        clear HH hb
        by_cases hlt : k < cap
        · obtain ⟨u, hcx⟩ := lend_cell howq hlt
          have hfz := howq.frozenAt k
          have HS := lend_step hk1 hlt hrl howq
          have HS' : Hid (∃ rest' : List Value, rest'.length = cap - (k + 1) ∧ (wr.setCell ⟨g, k, none⟩ (.int .u8 (fillB k))).ownsRow w.heap.size 5 1 (.slice (some ⟨g, 0, none⟩) cap cap) cap ((zs ++ fill zs.length (k + 1 - zs.length)).map (Value.int .u8) ++ rest')) := HS
          clear HS howq hrl
          go_wp2
          go_roundw
          case rel =>
            obtain ⟨rest', hrl', hro'⟩ := HS'.out
            exact ⟨k + 1, rest', by omega, by omega, by go_num, hrl', hro', hbq.setCell (p := ⟨g, k, none⟩) hbg _⟩
          case measure => simp [intOf]; omega
        · have hke : k = cap := by omega
          subst hke
          have hrn : rest = [] := List.eq_nil_of_length_eq_zero (by omega)
          subst hrn
          rw [List.append_nil] at howq
          have hgl2 : g < wr.heap.size := (howq.lt g rfl).2
          have HS' : Hid (Lent wr w.heap.size g k zs) := ⟨hnc, by unfold maxLen; omega, hbg, hgl2, howq⟩
          clear howq
          go_wp2
          go_ret
          exact ⟨g, k, rfl, HS'.out, hbq⟩
end Go.Proofs.YtmfbobibpebfnaaGreat

/- kept, turned, sameBytes. -/
namespace Go.Proofs.YtmfbobibpebfnaaGreat
open Go.RowKit

/-- string(b) of a slice that reads as bytes. -/
theorem conv_Rd {w : World} {v : Value} {zs : List Int} (h : Rd .u8 w v zs) : (convert 35 9 v).run Tryz.prog w = .ok (.string (strOfNums zs)) w := by
  obtain ⟨ao, cap, rfl, h1, h2, h3⟩ := h
  by_cases hn : zs = []
  · subst hn
    rw [run_convert_bytes_string w _ _ _ _ _ _ Tryz.underlying35 Tryz.underlying5 Tryz.underlying9]
    cases ao with
    | none => simp [Conv.bytesToString]; rfl
    | some a =>
      exact (run_bytesToString w a 0 cap [] (by simp [loadCells, loadCellsFrom])).trans rfl
  · obtain ⟨b, off, rfl, hb, hc⟩ := h3 hn
    exact run_convert_bytes_arg w _ _ Tryz.underlying35 Tryz.underlying5 b off zs.length cap zs rfl (fun i hi => by rw [hc i hi]; simp [List.getD]) _ Tryz.underlying9

theorem Rd.drewN {k : IntKind} {w : World} {v : Value} {zs : List Int} (h : Rd k w v zs) (n : Nat) : Rd k (w.drewN n) v zs := h.ext (below_drewN (Below.refl _ _) n)

theorem sameBytes_any (v1 v2 : Value) (z1 z2 : List Int) (w : World) (h1 : Rd .u8 w v1 z1) (h2 : Rd .u8 w v2 z2) :
    Calls Tryz.prog 38 #[v1, v2] w fun e w' => e = .returned (.bool ((strOfNums z1).toList == (strOfNums z2).toList)) ∧ Below w.heap.size w w' := by
  have c10 := conv_Rd h1
  have c20 := conv_Rd h2
  clear h1 h2
  go_enter Tryz.func38, Tryz.ntmps38
  go_wp2
  go_ret
  exact ⟨rfl, Below.refl _ _⟩

set_option maxRecDepth 100000 in
theorem kept_any (v : Value) (zs : List Int) (g cap base : Nat) (w : World) (hr : Rd .u8 w v zs) (hL : Lent w base g cap zs) :
    Calls Tryz.prog 21 #[.slice (some ⟨g, 0, none⟩) cap cap, v] w fun e w' => e = .returned (.bool true) ∧ Below w.heap.size w w' := by
  obtain ⟨hl1, hl2, hl3, hl4, hown⟩ := hL
  have hcell : ∀ k, zs.length ≤ k → k < cap → w.cell? ⟨g, k, none⟩ = some (.int .u8 (wrap64 (167 + (k : Int)) % 256)) := by
    intro k hk1 hk2
    rw [hown.cellAt k (by omega), List.getElem?_map, List.getElem?_append_right (by omega), fill_get _ _ _ (by omega)]
    simp [fillB, show zs.length + (k - zs.length) = k from by omega]
  have hrd : Rd .u8 w (.slice (some ⟨g, 0, none⟩) zs.length cap) zs := by
    refine ⟨_, cap, rfl, by omega, hl2, fun _ => ⟨g, 0, rfl, hl4, fun i hi => ?_⟩⟩
    rw [Nat.zero_add, hown.cellAt i (by omega), List.getElem?_map, List.getElem?_append_left hi]
    simp [hi]
  have c1 := fun nq => conv_Rd (hrd.drewN nq)
  have c2 := fun nq => conv_Rd (hr.drewN nq)
  obtain ⟨ao, cp, rfl, _⟩ := hr
  clear hrd hown
  unfold maxLen at hl2
  go_enter Tryz.func21, Tryz.ntmps21
  go_wp2
  go_loop [6] (fun i => ∃ k : Nat, zs.length ≤ k ∧ k ≤ cap ∧ i = .int .i64 k) (fun i => cap - (intOf i).toNat)
  case atStart => exact ⟨zs.length, Nat.le_refl _, by omega, rfl⟩
  case round =>
    obtain ⟨k, hk1, hk2, rfl⟩ := hrel
    by_cases hlt : k < cap
    · have hc := hcell k hk1 hlt
      clear hcell c1 c2
      go_wp2
      go_round
      case rel => exact ⟨k + 1, by omega, by omega, by go_num⟩
      case measure => simp [intOf]; omega
    · clear hcell
      have hd : decide ((zs.length : Int) + 40 ≤ (cap : Int)) = true := by simp; omega
      go_wp2
      go_quiet (fail)
      go_wp2
      go_ret
      exact ⟨rfl, below_drewN (Below.refl _ _) _⟩

/-- One byte written over. -/
def tw (k : Nat) (x : Int) : Int := bits .xor .u8 x (1 + (k : Int) % 3)
def turn (zs : List Int) : List Int := zs.mapIdx tw
theorem turn_len (zs : List Int) : (turn zs).length = zs.length := by simp [turn]
theorem turn_step (zs : List Int) (F : List Int) (k : Nat) (h : k < zs.length) :
    (((turn zs).take k ++ zs.drop k ++ F).map (Value.int .u8)).set k (.int .u8 (tw k (zs[k]?.getD 0))) = ((turn zs).take (k + 1) ++ zs.drop (k + 1) ++ F).map (Value.int .u8) := by
  have hT : k < (turn zs).length := by rw [turn_len]; exact h
  rw [List.take_succ_eq_append_getElem hT, List.drop_eq_getElem_cons h]
  simp only [List.map_append, List.map_cons, List.append_assoc, List.cons_append]
  rw [set_mid _ _ _ _ k (by simp; omega)]
  simp [turn, h]
theorem turn_cell (zs : List Int) (F : List Int) (k : Nat) (h : k < zs.length) : (((turn zs).take k ++ zs.drop k ++ F).map (Value.int .u8))[k]? = some (.int .u8 (zs[k]?.getD 0)) := by
  have hT : k < (turn zs).length := by rw [turn_len]; exact h
  rw [List.drop_eq_getElem_cons h]
  simp only [List.map_append, List.map_cons, List.append_assoc, List.cons_append]
  rw [List.getElem?_append_right (by simp; omega)]
  simp [h, show k - min k (turn zs).length = 0 from by omega]

theorem grown_setCell {w wr : World} {g k : Nat} (hg : w.grownBy wr (some g)) (u : Value) : w.grownBy (wr.setCell ⟨g, k, none⟩ u) (some g) :=
  ⟨hg.os, hg.tape, hg.output, by have := hg.size; simpa using this, fun i hi hne => by
    rw [heap_setCell_other wr ⟨g, k, none⟩ i u (fun e => hne (by simp [e]))]
    exact hg.block i hi hne⟩

theorem Lent.rd {w : World} {base g cap : Nat} {zs : List Int} (h : Lent w base g cap zs) : Rd .u8 w (.slice (some ⟨g, 0, none⟩) zs.length cap) zs := by
  obtain ⟨hl1, hl2, hl3, hl4, hown⟩ := h
  refine ⟨_, cap, rfl, by omega, hl2, fun _ => ⟨g, 0, rfl, hl4, fun i hi => ?_⟩⟩
  rw [Nat.zero_add, hown.cellAt i (by omega), List.getElem?_map, List.getElem?_append_left hi]
  simp [hi]

theorem own_le {w : World} {base base' : Nat} {e : TypeId} {size : Nat} {v : Value} {n : Nat} {xs : List Value} (h : w.ownsRow base e size v n xs) (hb : base' ≤ base) : w.ownsRow base' e size v n xs := by
  obtain ⟨h1, h2⟩ := h
  refine ⟨h1, ?_⟩
  rcases h2 with h2 | ⟨g, cap, cur, hv, hg, r⟩
  · exact .inl h2
  · exact .inr ⟨g, cap, cur, hv, Nat.le_trans hb hg, r⟩

theorem Lent.ext {w w' : World} {base g cap : Nat} {zs : List Int} (h : Lent w base g cap zs) (hb : Below w.heap.size w w') : Lent w' base g cap zs :=
  ⟨h.1, h.2.1, h.2.2.1, Nat.lt_of_lt_of_le h.2.2.2.1 hb.size, own_ext h.2.2.2.2 hb⟩

theorem grown_ext {w w' w'' : World} {row : Option Nat} (h : w.grownBy w' row) (hb : Below w'.heap.size w' w'') : w.grownBy w'' row :=
  ⟨hb.os.trans h.os, hb.tape.trans h.tape, hb.output.trans h.output, Nat.le_trans h.size hb.size, fun k hk hne => (hb.block k (Nat.lt_of_lt_of_le hk h.size)).trans (h.block k hk hne)⟩

set_option maxRecDepth 100000 in
theorem turned_any (zs : List Int) (g cap base : Nat) (w : World) (hz : zs.length ≤ 140737488355328) (hL : Lent w base g cap zs) :
    Calls Tryz.prog 22 #[.slice (some ⟨g, 0, none⟩) cap cap, .int .i64 zs.length] w fun e w' => ∃ v', e = .returned v' ∧ Lent w' base g cap (turn zs) ∧ w'.ownsRow w.heap.size 5 1 v' (turn zs).length ((turn zs).map (Value.int .u8)) ∧ w.grownBy w' (some g) := by
  obtain ⟨hl1, hl2, hl3, hl4, hown⟩ := hL
  have hl2' : cap ≤ 9223372036854775807 := hl2
  generalize hF : fill zs.length (cap - zs.length) = F at *
  have HF : Hid (fill zs.length (cap - zs.length) = F) := hF
  clear hF
  go_enter Tryz.func22, Tryz.ntmps22
  go_wp2_with fail
  go_loopw [5] (fun i wr => ∃ (k : Nat), k ≤ zs.length ∧ i = .int .i64 k ∧ wr.ownsRow base 5 1 (.slice (some ⟨g, 0, none⟩) cap cap) cap (((turn zs).take k ++ zs.drop k ++ F).map (Value.int .u8)) ∧ w.grownBy wr (some g)) (fun i _ => zs.length - (intOf i).toNat)
  case atStart => exact ⟨0, Nat.zero_le _, rfl, by simpa using hown, World.grownBy.refl _ _⟩
  case round =>
    obtain ⟨k, hk1, rfl, howr, hg⟩ := hrel
    by_cases hlt : k < zs.length
    · have hcx : wr.cell? ⟨g, k, none⟩ = some (.int .u8 (zs[k]?.getD 0)) := by
        rw [howr.cellAt k (by omega), turn_cell zs F k hlt]
      have hfz := howr.frozenAt k
      have hst := (howr.stored k (.int .u8 (tw k (zs[k]?.getD 0)))).1
      rw [turn_step zs F k hlt] at hst
      generalize zs[k]?.getD 0 = x at *
      have HS : Hid ((wr.setCell ⟨g, k, none⟩ (.int .u8 (tw k x))).ownsRow base 5 1 (.slice (some ⟨g, 0, none⟩) cap cap) cap (((turn zs).take (k + 1) ++ zs.drop (k + 1) ++ F).map (Value.int .u8))) := hst
      clear hst howr hown
      go_wp2
      go_roundw
      case rel => exact ⟨k + 1, by omega, by go_num, HS.out, grown_setCell hg _⟩
      case measure => simp [intOf]; omega
    · have hke : k = zs.length := by omega
      subst hke
      have e : (turn zs).take zs.length ++ zs.drop zs.length ++ F = turn zs ++ F := by rw [List.take_of_length_le (by rw [turn_len]; exact Nat.le_refl _), List.drop_length, List.append_nil]
      rw [e] at howr
      have HL : Hid (Lent wr base g cap (turn zs)) := by
        refine ⟨by rw [turn_len]; exact hl1, hl2, hl3, Nat.lt_of_lt_of_le hl4 hg.size, ?_⟩
        rw [turn_len, HF.out]
        exact howr
      clear howr hown e
      have HT : Hid ((turn zs).length = zs.length) := turn_len zs
      go_wp2_with fail
      have hrd := HL.out.rd
      rw [HT.out] at hrd
      refine (copyBytes_any _ (turn zs) _ hrd (by rw [HT.out]; exact hz)).mono ?_
      rintro e w1 ⟨v1, rfl, hown1, hb1⟩
      have HO : Hid (w1.ownsRow w.heap.size 5 1 v1 (turn zs).length ((turn zs).map (Value.int .u8))) := own_le hown1 hg.size
      clear hrd hown1
      go_wp2
      go_ret
      exact ⟨_, rfl, HL.out.ext hb1, HO.out, grown_ext hg hb1⟩
end Go.Proofs.YtmfbobibpebfnaaGreat

/- Prefixes: bytes.HasPrefix of the code, begins of the document's answer. -/
namespace Go.Proofs.YtmfbobibpebfnaaGreat
open Go.RowKit

/-- All are bytes. -/
def Byt (zs : List Int) : Prop := ∀ z ∈ zs, 0 ≤ z ∧ z ≤ 255

theorem turn_byt (zs : List Int) : Byt (turn zs) := by
  intro z hz
  simp only [turn, List.mem_mapIdx] at hz
  obtain ⟨i, h, rfl⟩ := hz
  exact ⟨bits_lo_u8 _ _ _, bits_hi_u8 _ _ _⟩

theorem ofNat_inj {a b : Int} (ha : 0 ≤ a ∧ a ≤ 255) (hb : 0 ≤ b ∧ b ≤ 255) (h : UInt8.ofNat a.toNat = UInt8.ofNat b.toNat) : a = b := by
  have := congrArg UInt8.toNat h
  simp only [UInt8.toNat_ofNat'] at this
  omega

theorem map_ofNat_inj : ∀ (x y : List Int), Byt x → Byt y → (x.map fun n => UInt8.ofNat n.toNat) = (y.map fun n => UInt8.ofNat n.toNat) → x = y
  | [], [], _, _, _ => rfl
  | [], b :: y, _, _, h => by simp at h
  | a :: x, [], _, _, h => by simp at h
  | a :: x, b :: y, hx, hy, h => by
    simp only [List.map_cons, List.cons.injEq] at h
    rw [ofNat_inj (hx a (by simp)) (hy b (by simp)) h.1, map_ofNat_inj x y (fun z hz => hx z (by simp [hz])) (fun z hz => hy z (by simp [hz])) h.2]

/-- The strings are alike where the bytes are. -/
theorem str_eq (x y : List Int) (hx : Byt x) (hy : Byt y) : ((strOfNums x).toList == (strOfNums y).toList) = decide (x = y) := by
  rw [Lib.toList_data, Lib.toList_data, strOfNums_data, strOfNums_data, Bool.eq_iff_iff]
  simp only [beq_iff_eq, decide_eq_true_eq]
  exact ⟨map_ofNat_inj x y hx hy, fun h => by rw [h]⟩

theorem Byt.take {zs : List Int} (h : Byt zs) (n : Nat) : Byt (zs.take n) := fun z hz => h z (List.mem_of_mem_take hz)
theorem Byt.drop {zs : List Int} (h : Byt zs) (n : Nat) : Byt (zs.drop n) := fun z hz => h z (List.mem_of_mem_drop hz)

theorem pre_iff (m z : List Int) : (decide (m.length ≤ z.length) && decide (z.take m.length = m)) = m.isPrefixOf z := by
  rw [Bool.eq_iff_iff, List.isPrefixOf_iff_prefix]
  simp only [Bool.and_eq_true, decide_eq_true_eq]
  constructor
  · rintro ⟨_, h⟩
    exact List.prefix_iff_eq_take.2 h.symm
  · intro h
    exact ⟨h.length_le, (List.prefix_iff_eq_take.1 h).symm⟩

theorem Rd.take {k : IntKind} {w : World} {ao : Option Addr} {n cap : Nat} {zs : List Int} (h : Rd k w (.slice ao n cap) zs) (m : Nat) (hm : m ≤ zs.length) : Rd k w (.slice ao m cap) (zs.take m) := by
  obtain ⟨ao', cap', hv, h1, h2, h3⟩ := h
  cases hv
  refine ⟨ao, cap, by rw [List.length_take, Nat.min_eq_left hm], by rw [List.length_take]; omega, h2, fun hn => ?_⟩
  obtain ⟨b, off, ha, hb, hc⟩ := h3 (fun h => hn (by rw [h]; simp))
  refine ⟨b, off, ha, hb, fun i hi => ?_⟩
  rw [List.length_take] at hi
  rw [hc i (by omega), List.getElem?_take, if_pos (by omega)]

theorem Equal_any (v1 v2 : Value) (z1 z2 : List Int) (w : World) (h1 : Rd .u8 w v1 z1) (h2 : Rd .u8 w v2 z2) (b1 : Byt z1) (b2 : Byt z2) :
    Calls Tryz.prog 68 #[v1, v2] w fun e w' => e = .returned (.bool (decide (z1 = z2))) ∧ w' = w := by
  have c10 := conv_Rd h1
  have c20 := conv_Rd h2
  have HE : Hid (((strOfNums z1).toList == (strOfNums z2).toList) = decide (z1 = z2)) := str_eq z1 z2 b1 b2
  clear h1 h2 b1 b2
  go_enter Tryz.func68, Tryz.ntmps68
  go_wp2
  go_ret
  exact ⟨by rw [HE.out]; rfl, rfl⟩

theorem HasPrefix_any (v1 v2 : Value) (z m : List Int) (w : World) (h1 : Rd .u8 w v1 z) (h2 : Rd .u8 w v2 m) (b1 : Byt z) (b2 : Byt m) :
    Calls Tryz.prog 61 #[v1, v2] w fun e w' => e = .returned (.bool (m.isPrefixOf z)) ∧ w' = w := by
  have HP := pre_iff m z
  have hz1 := h1.len
  have hz2 := h2.len
  obtain ⟨ao, cp, rfl, hcp⟩ := id h1
  obtain ⟨ao2, cp2, rfl, hcp2⟩ := id h2
  have hcl := hcp.1
  clear hcp hcp2
  by_cases hl : m.length ≤ z.length
  · have e1 : m.isPrefixOf z = decide (z.take m.length = m) := by rw [← HP]; simp [hl]
    have hd : decide ((m.length : Int) ≤ (z.length : Int)) = true := by simp; omega
    have H1 : Hid (Rd .u8 w (.slice ao m.length cp) (z.take m.length)) := h1.take m.length hl
    have H2 : Hid (Rd .u8 w (.slice ao2 m.length cp2) m) := h2
    have B1 : Hid (Byt (z.take m.length)) := b1.take _
    have B2 : Hid (Byt m) := b2
    rw [e1]
    clear HP e1 h1 h2 b1 b2
    go_enter Tryz.func61, Tryz.ntmps61
    go_wp2_with fail
    refine (Equal_any _ _ _ _ _ H1.out H2.out B1.out B2.out).mono ?_
    rintro e w' ⟨rfl, rfl⟩
    go_wp2
    go_ret
    exact ⟨rfl, rfl⟩
  · have e1 : m.isPrefixOf z = false := by rw [← HP]; simp [hl]
    have hd : decide ((m.length : Int) ≤ (z.length : Int)) = false := by simp; omega
    rw [e1]
    clear HP e1 h1 h2 b1 b2
    go_enter Tryz.func61, Tryz.ntmps61
    go_wp2
    go_ret
    exact ⟨rfl, rfl⟩

theorem take_grow (m z : List Int) (k : Nat) (h : m.take k = z.take k) (hm : k < m.length) (hz : k < z.length) (he : m[k]?.getD 0 = z[k]?.getD 0) : m.take (k + 1) = z.take (k + 1) := by
  rw [List.take_succ_eq_append_getElem hm, List.take_succ_eq_append_getElem hz, h]
  simp [hm, hz] at he
  rw [he]

theorem pre_no (m z : List Int) (k : Nat) (hm : k < m.length) (hz : m.length ≤ z.length) (he : m[k]?.getD 0 ≠ z[k]?.getD 0) : m.isPrefixOf z = false := by
  rw [Bool.eq_false_iff]
  intro h
  rw [List.isPrefixOf_iff_prefix] at h
  obtain ⟨t, rfl⟩ := h
  exact he (by rw [List.getElem?_append_left hm])

theorem pre_yes (m z : List Int) (hz : m.length ≤ z.length) (he : m.take m.length = z.take m.length) : m.isPrefixOf z = true := by
  rw [← pre_iff]
  rw [List.take_length] at he
  simp [hz, ← he]

/-- begins: do the bytes from a place on begin with a list? -/
theorem begins_any (v1 v2 : Value) (z m : List Int) (at' : Nat) (w : World) (h1 : Rd .u8 w v1 z) (h2 : Rd .u8 w v2 m) (hat : at' ≤ z.length) (hm0 : m ≠ []) (hsum : z.length + m.length ≤ 4611686018427387904) :
    Calls Tryz.prog 62 #[v1, .int .i64 at', v2] w fun e w' => e = .returned (.bool (m.isPrefixOf (z.drop at'))) ∧ Below w.heap.size w w' := by
  have hz1 := h1.len
  have hz2 := h2.len
  obtain ⟨ao, cp, rfl, hl1, hc1, h1⟩ := h1
  obtain ⟨ao2, cp2, rfl, hl2, hc2, h2⟩ := h2
  by_cases hl : at' + m.length ≤ z.length
  · have hmp : 0 < m.length := List.length_pos_iff.2 hm0
    have hzn : z ≠ [] := List.length_pos_iff.1 (by omega)
    obtain ⟨b, off, rfl, hb, hcl⟩ := h1 hzn
    obtain ⟨b2, off2, rfl, hb2, hcl2⟩ := h2 hm0
    have HY : Hid (m.take m.length = (z.drop at').take m.length → m.isPrefixOf (z.drop at') = true) := pre_yes m _ (by rw [List.length_drop]; omega)
    have HN : Hid (∀ k, k < m.length → m[k]?.getD 0 ≠ z[at' + k]?.getD 0 → m.isPrefixOf (z.drop at') = false) := fun k hk he => pre_no m _ k hk (by rw [List.length_drop]; omega) (by rw [List.getElem?_drop]; exact he)
    have HG : Hid (∀ k, k < m.length → m.take k = (z.drop at').take k → m[k]?.getD 0 = z[at' + k]?.getD 0 → m.take (k + 1) = (z.drop at').take (k + 1)) := fun k hk h he => take_grow m _ k h hk (by rw [List.length_drop]; omega) (by rw [List.getElem?_drop]; exact he)
    clear h1 h2 hm0 hmp hzn
    generalize m.isPrefixOf (z.drop at') = R at *
    go_enter Tryz.func62, Tryz.ntmps62
    go_wp2
    go_loopw [7] (fun i wr => ∃ k : Nat, k ≤ m.length ∧ i = .int .i64 k ∧ m.take k = (z.drop at').take k ∧ Below w.heap.size w wr) (fun i _ => m.length - (intOf i).toNat)
    case atStart => exact ⟨0, Nat.zero_le _, rfl, rfl, Below.refl _ _⟩
    case round =>
      obtain ⟨k, hk, rfl, ht, hbw⟩ := hrel
      have HT : Hid (m.take k = (z.drop at').take k) := ht
      clear ht
      by_cases hlt : k < m.length
      · have c1 : wr.cell? ⟨b, off + (at' + k), none⟩ = some (.int .u8 (z[at' + k]?.getD 0)) := (hbw.cell (p := ⟨b, off + (at' + k), none⟩) hb).trans (hcl _ (by omega))
        have c2 : wr.cell? ⟨b2, off2 + k, none⟩ = some (.int .u8 (m[k]?.getD 0)) := (hbw.cell (p := ⟨b2, off2 + k, none⟩) hb2).trans (hcl2 _ hlt)
        have HN' := HN.out k hlt
        have HG' := HG.out k hlt HT.out
        generalize z[at' + k]?.getD 0 = x at *
        generalize m[k]?.getD 0 = y at *
        clear hcl hcl2 HN HG
        by_cases he : y = x
        · have HG2 : Hid (m.take (k + 1) = (z.drop at').take (k + 1)) := HG' he
          subst he
          clear HN' HG'
          have hi1 : (at' : Int) + (k : Int) < (z.length : Int) := by omega
          go_wp2
          go_quiet (fail)
          go_wp2
          go_roundw
          case rel => exact ⟨k + 1, by omega, by go_num, HG2.out, below_drewN hbw _⟩
          case measure => simp [intOf]; omega
        · have HR : Hid (R = false) := HN' he
          have hne : (x != y) = true := by simp; exact fun h => he h.symm
          clear HN' HG' he
          go_wp2
          go_quiet (fail)
          go_wp2
          go_ret
          exact ⟨by rw [HR.out]; rfl, below_drewN hbw _⟩
      · have hke : k = m.length := by omega
        subst hke
        have HR : Hid (R = true) := HY.out HT.out
        clear HY HN HG hcl hcl2 HT
        go_wp2
        go_ret
        exact ⟨by rw [HR.out]; rfl, hbw⟩
  · have e1 : m.isPrefixOf (z.drop at') = false := by
      rw [← pre_iff]; simp only [List.length_drop]
      rw [decide_eq_false (by omega), Bool.false_and]
    rw [e1]
    clear h1 h2 e1 hm0
    go_enter Tryz.func62, Tryz.ntmps62
    go_wp2
    all_goals (go_ret; exact ⟨rfl, Below.refl _ _⟩)
end Go.Proofs.YtmfbobibpebfnaaGreat
