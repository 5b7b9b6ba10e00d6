/- The document's Prev, Count, Column, Offset. -/
import Derived.Test.YtahjjpleceppaaaRCalls
namespace Go.Proofs.Ytahjjpleceppaaa
open Go.RowKit

set_option maxRecDepth 100000 in
theorem rPrev_any (v : Value) (zs : List Int) (a : Int) (w : World) (hr : Rd .i64 w v zs) :
    Calls Try.prog 38 #[v, .int .i64 a] w fun e w' => e = .returned (.int .i64 (Cl.prev zs a)) ∧ w' = w := by
  have HR : Hid (Rd .i64 w v zs) := hr
  have hlen := hr.len
  obtain ⟨ao, cap, rfl⟩ : ∃ ao cap, v = .slice ao zs.length cap := by obtain ⟨ao, cap, hv, _⟩ := hr; exact ⟨ao, cap, hv⟩
  clear hr
  by_cases h0 : a ≤ 0
  · have HQ : Hid (Cl.prev zs a = 0) := by unfold Hid Cl.prev; rw [if_pos h0]
    go_enter Try.func38, Try.ntmps38
    go_wp2
    go_ret
    exact ⟨ret_int (by rw [HQ.out]; rfl), rfl⟩
  by_cases h1 : (zs.length : Int) < a
  · have HQ : Hid (Cl.prev zs a = zs.length) := by unfold Hid Cl.prev; rw [if_neg h0, if_pos h1]
    go_enter Try.func38, Try.ntmps38
    go_wp2
    go_ret
    exact ⟨ret_int (by rw [HQ.out]), rfl⟩
  · have HQ : Hid (Cl.prev zs a = Cl.snap zs (a - 1)) := by
      unfold Hid Cl.prev Cl.snap
      rw [if_neg h0, if_neg h1, if_neg (by omega), if_neg (by omega), show a.toNat - 1 = (a - 1).toNat from by omega]
    go_enter Try.func38, Try.ntmps38
    go_wp2_with (go_at_call 39; refine (rSnap_any _ zs _ _ HR.out).mono ?_; rintro e w1 ⟨rfl, hw1⟩; obtain rfl : w = w1 := hw1.symm)
    go_ret
    exact ⟨ret_int (by rw [HQ.out]), rfl⟩

set_option maxRecDepth 100000 in
theorem rCount_any (v : Value) (zs : List Int) (w : World) (hr : Rd .i64 w v zs) (hz : zs.length * 8 + 8 ≤ 140737488355328) :
    Calls Try.prog 40 #[v] w fun e w' => e = .returned (.int .i64 (Cl.cnt zs zs.length)) ∧ Below w.heap.size w w' := by
  have HR : Hid (Rd .i64 w v zs) := hr
  obtain ⟨ao, cap, rfl⟩ : ∃ ao cap, v = .slice ao zs.length cap := by obtain ⟨ao, cap, hv, _⟩ := hr; exact ⟨ao, cap, hv⟩
  have hbl := Cl.bi_le zs
  have HL : Hid ((Cl.bi zs).length = Cl.cnt zs zs.length + 1) := Cl.bi_len zs
  clear hr
  go_enter Try.func40, Try.ntmps40
  go_wp2_with fail
  refine (rBreaks_any _ zs _ HR.out hz).mono ?_
  rintro e w1 ⟨v1, rfl, ho1, hb1⟩
  have hr1 := ho1.rd
  obtain ⟨d1, e1, rfl⟩ : ∃ ao cap, v1 = .slice ao (Cl.bi zs).length cap := by obtain ⟨ao, cap, hv, _⟩ := hr1; exact ⟨ao, cap, hv⟩
  have HB : Hid (Below w.heap.size w w1) := hb1
  clear ho1 hr1 hb1
  go_wp2
  go_ret
  exact ⟨ret_int (by rw [HL.out]; omega), HB.out⟩

/-- How many boundaries lie above 0 and not above a. -/
def Cl.hits (a : Int) (L : List Int) : Nat := (L.filter fun x => decide (0 < x) && decide (x ≤ a)).length
theorem Cl.hits_bl (zs : List Int) (a : Int) (k : Nat) : Cl.hits a ((Cl.bl zs (k + 1)).map fun (n : Nat) => (n : Int)) = Cl.cnt zs (min k a.toNat) := by
  induction k with
  | zero => rw [Cl.bl_one, Nat.zero_min, Cl.cnt_zero]; rfl
  | succ k ih =>
    have e : Cl.hits a ((Cl.bl zs (k + 1 + 1)).map fun (n : Nat) => (n : Int)) = Cl.hits a ((Cl.bl zs (k + 1)).map fun (n : Nat) => (n : Int)) + (if Cl.isB zs (k + 1) = true ∧ ((k + 1 : Nat) : Int) ≤ a then 1 else 0) := by
      unfold Cl.hits
      by_cases h : Cl.isB zs (k + 1) = true
      · rw [Cl.bl_yes zs _ h, List.map_append, List.filter_append, List.length_append]
        congr 1
        by_cases h2 : ((k + 1 : Nat) : Int) ≤ a
        · rw [if_pos ⟨h, h2⟩]
          simp only [List.map_cons, List.map_nil, List.filter_cons, List.filter_nil]
          rw [if_pos (by simp; omega)]; rfl
        · rw [if_neg (fun h => h2 h.2)]
          simp only [List.map_cons, List.map_nil, List.filter_cons, List.filter_nil]
          rw [if_neg (by simp; omega)]; rfl
      · rw [Cl.bl_no zs _ (by simpa using h), if_neg (fun h' => h h'.1)]; rfl
    rw [e, ih]
    by_cases h2 : ((k + 1 : Nat) : Int) ≤ a
    · rw [show min k a.toNat = k from by omega, show min (k + 1) a.toNat = k + 1 from by omega]
      by_cases h : Cl.isB zs (k + 1) = true
      · rw [if_pos ⟨h, h2⟩]
        have h1 := Cl.cnt_len zs k
        have h3 := Cl.cnt_len zs (k + 1)
        rw [Cl.bl_yes zs _ h] at h3
        simp at h3
        omega
      · rw [if_neg (fun h' => h h'.1)]
        exact (Cl.cnt_gap zs k (k + 1) (by omega) (fun j j1 j2 => by rw [show j = k + 1 from by omega]; simpa using h)).symm
    · rw [if_neg (fun h' => h2 h'.2), show min (k + 1) a.toNat = min k a.toNat from by omega]
      rfl
theorem Cl.hits_bi (zs : List Int) (a : Int) : Cl.hits a (Cl.bi zs) = Cl.col zs a := Cl.hits_bl zs a zs.length
theorem Cl.hits_take (a : Int) (L : List Int) (i : Nat) (h : i < L.length) : Cl.hits a (L.take (i + 1)) = Cl.hits a (L.take i) + (if (decide (0 < Cl.at L i) && decide (Cl.at L i ≤ a)) = true then 1 else 0) := by
  unfold Cl.hits Cl.at
  rw [List.take_succ_eq_append_getElem h, List.filter_append, List.length_append]
  congr 1
  simp only [List.getElem?_eq_getElem h, Option.getD_some]
  cases hp : (decide (0 < L[i]) && decide (L[i] ≤ a)) <;> simp [hp]
theorem Cl.hits_le (a : Int) (L : List Int) (i : Nat) : Cl.hits a (L.take i) ≤ i := by
  unfold Cl.hits; refine Nat.le_trans (List.length_filter_le _ _) ?_; rw [List.length_take]; omega

set_option maxRecDepth 100000 in
theorem rColumn_any (v : Value) (zs : List Int) (a : Int) (w : World) (hr : Rd .i64 w v zs) (hz : zs.length * 8 + 8 ≤ 140737488355328) :
    Calls Try.prog 41 #[v, .int .i64 a] w fun e w' => e = .returned (.int .i64 (Cl.col zs a)) ∧ Below w.heap.size w w' := by
  have HR : Hid (Rd .i64 w v zs) := hr
  obtain ⟨ao, cap, rfl⟩ : ∃ ao cap, v = .slice ao zs.length cap := by obtain ⟨ao, cap, hv, _⟩ := hr; exact ⟨ao, cap, hv⟩
  have hbl := Cl.bi_le zs
  have HL : Hid (Cl.hits a (Cl.bi zs) = Cl.col zs a) := Cl.hits_bi zs a
  have hpos : 0 < (Cl.bi zs).length := by rw [Cl.bi_len]; omega
  clear hr
  go_enter Try.func41, Try.ntmps41
  go_wp2_with fail
  refine (rBreaks_any _ zs _ HR.out hz).mono ?_
  rintro e w1 ⟨v1, rfl, ho1, hb1⟩
  obtain ⟨g, off, cp, rfl, hlc, hcm, hgl, hcell⟩ := ho1.rd.at hpos
  have HC : Hid (∀ i, i < (Cl.bi zs).length → w1.cell? ⟨g, off + i, none⟩ = some (.int .i64 (Cl.at (Cl.bi zs) i))) := hcell
  have HB : Hid (Below w.heap.size w w1) := hb1
  clear ho1 hb1 hcell
  generalize Cl.bi zs = X at *
  go_wp2_with fail
  go_loop [5, 7] (fun n i => ∃ k : Nat, k ≤ X.length ∧ i = .int .i64 k ∧ n = .int .i64 (Cl.hits a (X.take k))) (fun _ i => X.length - (intOf i).toNat)
  case atStart => exact ⟨0, Nat.zero_le _, rfl, rfl⟩
  case round =>
    obtain ⟨k, hk, rfl, rfl⟩ := hrel
    by_cases hlt : k < X.length
    · have hcx := HC.out k hlt
      have HT := Cl.hits_take a X k hlt
      have hle := Cl.hits_le a X k
      generalize Cl.at X k = x at *
      have HT' : Hid (Cl.hits a (X.take (k + 1)) = Cl.hits a (X.take k) + (if (decide (0 < x) && decide (x ≤ a)) = true then 1 else 0)) := HT
      clear HT HC
      generalize Cl.hits a (X.take k) = n at *
      by_cases hx : 0 < x
      · have hd : decide ((0 : Int) < x) = true := by simp [hx]
        by_cases hy : x ≤ a
        · have hd2 : decide (x ≤ a) = true := by simp [hy]
          go_wp2_with fail
          go_round
          case rel => exact ⟨k + 1, by omega, by go_num, by rw [HT'.out, hd, hd2]; go_num⟩
          case measure => simp [intOf]; omega
        · have hd2 : decide (x ≤ a) = false := by simp; omega
          go_wp2_with fail
          go_round
          case rel => exact ⟨k + 1, by omega, by go_num, by rw [HT'.out, hd, hd2]; go_num⟩
          case measure => simp [intOf]; omega
      · have hd : decide ((0 : Int) < x) = false := by simp; omega
        go_wp2_with fail
        go_round
        case rel => exact ⟨k + 1, by omega, by go_num, by rw [HT'.out, hd]; go_num⟩
        case measure => simp [intOf]; omega
    · have hke : k = X.length := by omega
      subst hke
      rw [List.take_length]
      clear HC
      go_wp2
      go_ret
      exact ⟨ret_int (by rw [HL.out]), HB.out⟩

set_option maxRecDepth 100000 in
theorem rOffset_any (v : Value) (zs : List Int) (c : Int) (w : World) (hr : Rd .i64 w v zs) (hz : zs.length * 8 + 8 ≤ 140737488355328) :
    Calls Try.prog 42 #[v, .int .i64 c] w fun e w' => e = .returned (.int .i64 (Cl.ofs zs c)) ∧ Below w.heap.size w w' := by
  have HR : Hid (Rd .i64 w v zs) := hr
  obtain ⟨ao, cap, rfl⟩ : ∃ ao cap, v = .slice ao zs.length cap := by obtain ⟨ao, cap, hv, _⟩ := hr; exact ⟨ao, cap, hv⟩
  have hbl := Cl.bi_le zs
  have hpos : 0 < (Cl.bi zs).length := by rw [Cl.bi_len]; omega
  clear hr
  by_cases h0 : c < 0
  · have HQ : Hid (Cl.ofs zs c = 0) := by unfold Hid Cl.ofs; rw [if_pos h0]
    go_enter Try.func42, Try.ntmps42
    go_wp2
    go_ret
    exact ⟨ret_int (by rw [HQ.out]; rfl), Below.refl _ _⟩
  obtain ⟨k, rfl⟩ : ∃ k : Nat, c = k := ⟨c.toNat, by omega⟩
  have hlb : (Cl.bi zs).length = (Cl.bs zs).length := by unfold Cl.bi; rw [List.length_map]
  have HQ1 : Hid ((Cl.bi zs).length ≤ k → Cl.ofs zs (k : Int) = zs.length) := fun h => by
    unfold Cl.ofs; rw [if_neg h0, Int.toNat_natCast, List.getElem?_eq_none (by omega)]; rfl
  have HQ2 : Hid (k < (Cl.bi zs).length → Cl.at (Cl.bi zs) k = (Cl.ofs zs (k : Int) : Int)) := fun h => by
    unfold Cl.ofs Cl.at; rw [if_neg h0, Int.toNat_natCast, Cl.bi_get, List.getElem?_eq_getElem (by omega)]; rfl
  clear hlb
  go_enter Try.func42, Try.ntmps42
  go_wp2_with fail
  refine (rBreaks_any _ zs _ HR.out hz).mono ?_
  rintro e w1 ⟨v1, rfl, ho1, hb1⟩
  obtain ⟨g, off, cp, rfl, hlc, hcm, hgl, hcell⟩ := ho1.rd.at hpos
  have HB : Hid (Below w.heap.size w w1) := hb1
  by_cases hk : k < (Cl.bi zs).length
  · have hcx := hcell k hk
    rw [HQ2.out hk] at hcx
    clear ho1 hb1 hcell
    generalize (Cl.bi zs).length = m at *
    go_wp2
    go_ret
    exact ⟨rfl, HB.out⟩
  · have HQ : Hid (Cl.ofs zs (k : Int) = zs.length) := HQ1.out (by omega)
    clear ho1 hb1 hcell
    generalize (Cl.bi zs).length = m at *
    go_wp2
    go_ret
    exact ⟨ret_int (by rw [HQ.out]), HB.out⟩
end Go.Proofs.Ytahjjpleceppaaa
