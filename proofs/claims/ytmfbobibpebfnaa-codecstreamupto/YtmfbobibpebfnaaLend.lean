/- lend, kept, turned: the caller's lists with marks behind them. -/
import Derived.Test.YtmfbobibpebfnaaMem
namespace Go.Proofs.Ytmfbobibpebfnaa
open Go.RowKit

/-- The slice up to its capacity. -/
theorem own_full {w : World} {base : Nat} {e : TypeId} {g n cap : Nat} {xs : List Value} (h : w.ownsRow base e 1 (.slice (some ⟨g, 0, none⟩) n cap) n xs) :
    ∃ cur : List Value, cur.length = cap ∧ cur.take n = xs ∧ n ≤ cap ∧ cap ≤ maxLen ∧ w.ownsRow base e 1 (.slice (some ⟨g, 0, none⟩) cap cap) cap cur := by
  obtain ⟨h1, h2⟩ := h
  rcases h2 with ⟨hv, _⟩ | ⟨g', cap', cur, hv, hb, hg, hn, hc, hs, ht⟩
  · cases hv
  · cases hv
    simp only [Nat.mul_one] at hs ht
    refine ⟨cur.toList, by simpa using hs, ht, hn, hc, by simp [hs], .inr ⟨g, cap, cur, rfl, hb, hg, Nat.le_refl _, hc, by simpa using hs, ?_⟩⟩
    rw [List.take_of_length_le (by simp [hs])]

theorem own_some {w : World} {base : Nat} {e : TypeId} {v : Value} {n : Nat} {xs : List Value} (h : w.ownsRow base e 1 v n xs) (hn : 0 < n) : ∃ g cap, v = .slice (some ⟨g, 0, none⟩) n cap ∧ base ≤ g ∧ g < w.heap.size ∧ n ≤ cap ∧ cap ≤ maxLen := by
  obtain ⟨h1, h2⟩ := h
  rcases h2 with ⟨hv, h0⟩ | ⟨g', cap', cur, hv, hb, hg, hn, hc, hs, ht⟩
  · omega
  · exact ⟨g', cap', hv, hb, (Array.getElem?_eq_some_iff.1 hg).1, hn, hc⟩

theorem map_rep (zs : List Int) (k : Nat) : (zs ++ List.replicate k 167).map (Value.int .u8) ++ [Value.int .u8 167] = (zs ++ List.replicate (k + 1) 167).map (Value.int .u8) := by
  rw [List.replicate_succ']; simp

/-- The mark at place i behind what was lent. -/
def fillB (i : Nat) : Int := wrap64 (167 + (i : Int)) % 256
def fill (a m : Nat) : List Int := (List.range' a m).map fillB
theorem fill_len (a m : Nat) : (fill a m).length = m := by simp [fill]
theorem fill_succ (a m : Nat) : fill a (m + 1) = fill a m ++ [fillB (a + m)] := by simp [fill, List.range'_1_concat]
theorem fill_get (a m j : Nat) (h : j < m) : (fill a m)[j]? = some (fillB (a + j)) := by simp [fill, h]
theorem set_mid (A rest : List Value) (r x : Value) (k : Nat) (h : A.length = k) : (A ++ r :: rest).set k x = (A ++ [x]) ++ rest := by
  subst h; simp

/-- What was lent: zs, and marks in all the room behind it. -/
def Lent (w : World) (base g cap : Nat) (zs : List Int) : Prop :=
  zs.length + 40 ≤ cap ∧ cap ≤ maxLen ∧ base ≤ g ∧ g < w.heap.size ∧ w.ownsRow base 5 1 (.slice (some ⟨g, 0, none⟩) cap cap) cap ((zs ++ fill zs.length (cap - zs.length)).map (Value.int .u8))

theorem lend_start {w : World} {base g cap : Nat} {zs : List Int} {cur : List Value} (hcl : cur.length = cap) (hct : cur.take (zs.length + 40) = (zs ++ List.replicate 40 167).map (Value.int .u8))
    (hown : w.ownsRow base 5 1 (.slice (some ⟨g, 0, none⟩) cap cap) cap cur) :
    ∃ rest : List Value, rest.length = cap - zs.length ∧ w.ownsRow base 5 1 (.slice (some ⟨g, 0, none⟩) cap cap) cap ((zs ++ fill zs.length (zs.length - zs.length)).map (Value.int .u8) ++ rest) := by
  refine ⟨cur.drop zs.length, by simp [hcl], ?_⟩
  have e : cur.take zs.length = zs.map (Value.int .u8) := by
    have := congrArg (List.take zs.length) hct
    rw [List.take_take, Nat.min_eq_left (by omega)] at this
    rw [this, List.map_append, List.take_append_of_le_length (by simp), List.take_of_length_le (by simp)]
  have e2 : (zs ++ fill zs.length (zs.length - zs.length)).map (Value.int .u8) ++ cur.drop zs.length = cur := by
    rw [Nat.sub_self]
    simp only [fill, List.range'_zero, List.map_nil, List.append_nil]
    rw [← e, List.take_append_drop]
  rw [e2]
  exact hown

theorem lend_step {w : World} {base g cap k : Nat} {zs : List Int} {rest : List Value} (h1 : zs.length ≤ k) (h2 : k < cap) (hr : rest.length = cap - k)
    (hown : w.ownsRow base 5 1 (.slice (some ⟨g, 0, none⟩) cap cap) cap ((zs ++ fill zs.length (k - zs.length)).map (Value.int .u8) ++ rest)) :
    ∃ rest' : List Value, rest'.length = cap - (k + 1) ∧ (w.setCell ⟨g, k, none⟩ (.int .u8 (fillB k))).ownsRow base 5 1 (.slice (some ⟨g, 0, none⟩) cap cap) cap ((zs ++ fill zs.length (k + 1 - zs.length)).map (Value.int .u8) ++ rest') := by
  obtain ⟨r, rest', rfl⟩ : ∃ r rest', rest = r :: rest' := by
    cases rest with
    | nil => simp at hr; omega
    | cons r l => exact ⟨r, l, rfl⟩
  refine ⟨rest', by simp at hr; omega, ?_⟩
  have h := (hown.stored k (.int .u8 (fillB k))).1
  rw [set_mid _ _ _ _ k (by simp [fill_len]; omega)] at h
  have e : (zs ++ fill zs.length (k + 1 - zs.length)).map (Value.int .u8) = (zs ++ fill zs.length (k - zs.length)).map (Value.int .u8) ++ [Value.int .u8 (fillB k)] := by
    rw [show k + 1 - zs.length = (k - zs.length) + 1 from by omega, fill_succ, show zs.length + (k - zs.length) = k from by omega]
    simp
  rw [e]
  exact h

theorem lend_cell {w : World} {base g cap k : Nat} {xs : List Value} (hown : w.ownsRow base 5 1 (.slice (some ⟨g, 0, none⟩) cap cap) cap xs) (h2 : k < cap) : ∃ u, w.cell? ⟨g, k, none⟩ = some u := by
  have h1 := hown.1
  simp only [Nat.mul_one] at h1
  refine ⟨xs[k]'(by omega), ?_⟩
  rw [hown.cellAt k (by omega)]
  simp [show k < xs.length from by omega]

set_option maxRecDepth 100000 in
theorem lend_any (v : Value) (zs : List Int) (w : World) (hr : Rd .u8 w v zs) (hz : zs.length + 40 ≤ 140737488355328) :
    Calls Try.prog 17 #[v] w fun e w' => ∃ g cap, e = .returned (.slice (some ⟨g, 0, none⟩) cap cap) ∧ Lent w' w.heap.size g cap zs ∧ Below w.heap.size w w' := by
  have hlen : ∃ ao cap, v = .slice ao zs.length cap := by obtain ⟨ao, cap, hv, _⟩ := hr; exact ⟨ao, cap, hv⟩
  obtain ⟨i0, hi, hz0, hz1, hz2⟩ := info_parts Try.info_u8
  obtain ⟨ao, cp, hv⟩ := hlen
  subst hv
  have HR : Hid (Rd .u8 w (.slice ao zs.length cp) zs) := hr
  clear hr
  go_enter Try.func17, Try.ntmps17
  go_wp2_with fail
  refine (copyBytes_any _ zs _ HR.out (by omega)).mono ?_
  rintro e w1 ⟨v1, rfl, hown1, hb1⟩
  go_wp2_with fail
  go_loopw [3, 4] (fun o i wr => ∃ k : Nat, k ≤ 40 ∧ i = .int .i64 k ∧ wr.ownsRow w.heap.size 5 1 o (zs.length + k) ((zs ++ List.replicate k 167).map (Value.int .u8)) ∧ Below w.heap.size w wr) (fun _ i _ => 40 - (intOf i).toNat)
  case atStart => exact ⟨0, Nat.zero_le _, rfl, by simpa using hown1, hb1⟩
  case round =>
    obtain ⟨k, hk, rfl, hown, hb⟩ := hrel
    have hz' : w.heap.size ≤ wr.heap.size := hb.size
    by_cases hlt : k < 40
    · have HT : Hid ((zs ++ List.replicate k 167).map (Value.int .u8) ++ [Value.int .u8 167] = (zs ++ List.replicate (k + 1) 167).map (Value.int .u8)) := map_rep zs k
      generalize (zs ++ List.replicate k 167).map (Value.int .u8) = xs at hown HT
      go_wp2_with (at_builtin; refine wpList_append_own _ rfl _ _ 24 rfl w.heap.size 5 i0 (.int .u8 0) 1 1 Try.underlying24 hi hz0 hz1 hz2 rfl (by decide) _ _ _ rfl (hown.alloc _) ⟨wr.heap.size, 0, none⟩ 1 1 [.int .u8 167] rfl rfl (cell_one_new _ _ _) (one_u8 _) (by unfold maxLen; omega) (by omega) (by simp; omega) ?_; intro v' w' hown' hg' hx')
      go_roundw
      case rel => exact ⟨k + 1, by omega, by go_num, by rw [← HT.out]; exact hown', below_push hb hown hg'⟩
      case measure => simp [intOf]; omega
    · have hke : k = 40 := by omega
      subst hke
      obtain ⟨g, cap, rfl, hbg, hgl, hnc, hcm⟩ := own_some hown (by omega)
      obtain ⟨cur, hcl, hct, _, _, hown2⟩ := own_full hown
      have hcm' : cap ≤ 9223372036854775807 := hcm
      clear hown1 hown hb1 hcm
      go_wp2
      have H2 := lend_start (g := g) hcl hct hown2
      have HH : Hid (∃ rest : List Value, rest.length = cap - zs.length ∧ wr.ownsRow w.heap.size 5 1 (.slice (some ⟨g, 0, none⟩) cap cap) cap ((zs ++ fill zs.length (zs.length - zs.length)).map (Value.int .u8) ++ rest)) := H2
      clear H2 hct hown2 hcl
      go_loopw [5] (fun i wq => ∃ (k : Nat) (rest : List Value), zs.length ≤ k ∧ k ≤ cap ∧ i = .int .i64 k ∧ rest.length = cap - k ∧ wq.ownsRow w.heap.size 5 1 (.slice (some ⟨g, 0, none⟩) cap cap) cap ((zs ++ fill zs.length (k - zs.length)).map (Value.int .u8) ++ rest) ∧ Below w.heap.size w wq) (fun i _ => cap - (intOf i).toNat)
      case atStart =>
        obtain ⟨rest, hrl, hro⟩ := HH.out
        exact ⟨zs.length, rest, Nat.le_refl _, by omega, rfl, hrl, hro, hb⟩
      case round =>
        obtain ⟨k, rest, hk1, hk2, rfl, hrl, howq, hbq⟩ := hrel
        clear HH hb
        by_cases hlt : k < cap
        · obtain ⟨u, hcx⟩ := lend_cell howq hlt
          have hfz := howq.frozenAt k
          have HS := lend_step hk1 hlt hrl howq
          have HS' : Hid (∃ rest' : List Value, rest'.length = cap - (k + 1) ∧ (wr.setCell ⟨g, k, none⟩ (.int .u8 (fillB k))).ownsRow w.heap.size 5 1 (.slice (some ⟨g, 0, none⟩) cap cap) cap ((zs ++ fill zs.length (k + 1 - zs.length)).map (Value.int .u8) ++ rest')) := HS
          clear HS howq hrl
          go_wp2
          go_roundw
          case rel =>
            obtain ⟨rest', hrl', hro'⟩ := HS'.out
            exact ⟨k + 1, rest', by omega, by omega, by go_num, hrl', hro', hbq.setCell (p := ⟨g, k, none⟩) hbg _⟩
          case measure => simp [intOf]; omega
        · have hke : k = cap := by omega
          subst hke
          have hrn : rest = [] := List.eq_nil_of_length_eq_zero (by omega)
          subst hrn
          rw [List.append_nil] at howq
          have hgl2 : g < wr.heap.size := (howq.lt g rfl).2
          have HS' : Hid (Lent wr w.heap.size g k zs) := ⟨hnc, by unfold maxLen; omega, hbg, hgl2, howq⟩
          clear howq
          go_wp2
          go_ret
          exact ⟨g, k, rfl, HS'.out, hbq⟩
end Go.Proofs.Ytmfbobibpebfnaa
