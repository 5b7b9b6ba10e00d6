/- joined, ends, upto, from. -/
import Derived.Test.YtahjjpleceppaaaPass
namespace Go.Proofs.Ytahjjpleceppaaa
open Go.RowKit

theorem app_take_map (qs zs : List Int) (i : Nat) (h : i < zs.length) : (qs ++ zs.take i).map (Value.int .i64) ++ [Value.int .i64 (zs[i]?.getD 0)] = (qs ++ zs.take (i + 1)).map (Value.int .i64) := by
  rw [List.map_append, List.append_assoc, take_succ_map zs i h, List.map_append]

set_option maxRecDepth 100000 in
theorem lawJoined_any (v u : Value) (qs zs : List Int) (w : World) (ha : Rd .i64 w v qs) (hr : Rd .i64 w u zs) (hz : (qs.length + zs.length) * 8 ≤ 140737488355328) :
    Calls Try.prog 15 #[v, u] w fun e w' => ∃ v', e = .returned v' ∧ Own w' w.heap.size v' (qs ++ zs) ∧ Below w.heap.size w w' := by
  have HA : Hid (Rd .i64 w v qs) := ha
  obtain ⟨ao, cap, rfl, hl, hm, hc⟩ := hr
  obtain ⟨aa, acap, rfl, _⟩ := ha
  obtain ⟨i0, hi, hz0, hz1, hz2⟩ := info_parts Try.info_i64
  have HC : Hid (zs ≠ [] → ∃ b off, ao = some ⟨b, off, none⟩ ∧ b < w.heap.size ∧ ∀ i, i < zs.length → w.cell? ⟨b, off + i, none⟩ = some (.int .i64 (zs[i]?.getD 0))) := hc
  clear hc hm
  unfold Own
  go_enter Try.func15, Try.ntmps15
  go_wp2_with fail
  refine (copied_any _ qs _ HA.out (by omega)).mono ?_
  rintro e w1 ⟨v1, rfl, hown1, hb1⟩
  unfold Own at hown1
  have HO1 : Hid (w1.ownsRow w.heap.size 3 1 v1 qs.length (qs.map (Value.int .i64))) := hown1
  have HB1 : Hid (Below w.heap.size w w1) := hb1
  clear hown1 hb1
  go_wp2_with fail
  go_loopw [5, 6] (fun o i wr => ∃ k : Nat, k ≤ zs.length ∧ i = .int .i64 k ∧ wr.ownsRow w.heap.size 3 1 o (qs.length + k) ((qs ++ zs.take k).map (Value.int .i64)) ∧ Below w.heap.size w wr) (fun _ i _ => zs.length - (intOf i).toNat)
  case atStart => exact ⟨0, Nat.zero_le _, rfl, by simpa using HO1.out, HB1.out⟩
  case round =>
    obtain ⟨k, hk, rfl, hown, hb⟩ := hrel
    clear HO1 HB1
    by_cases hlt : k < zs.length
    · obtain ⟨b, off, rfl, hbl, hc⟩ := HC.out (by intro h; subst h; simp at hlt)
      have hcx : wr.cell? ⟨b, off + k, none⟩ = some (.int .i64 (zs[k]?.getD 0)) := (hb.cell (p := ⟨b, off + k, none⟩) hbl).trans (hc k hlt)
      have hz' : w.heap.size ≤ wr.heap.size := hb.size
      have HT : Hid ((qs ++ zs.take k).map (Value.int .i64) ++ [Value.int .i64 (zs[k]?.getD 0)] = (qs ++ zs.take (k + 1)).map (Value.int .i64)) := app_take_map qs zs k hlt
      generalize zs[k]?.getD 0 = x at *
      generalize (qs ++ zs.take k).map (Value.int .i64) = xs at *
      clear hc HC
      go_wp2_with (at_builtin; refine wpList_append_own _ rfl _ _ 22 rfl w.heap.size 3 i0 (.int .i64 0) 1 8 Try.underlying22 hi hz0 hz1 hz2 rfl (by decide) _ _ _ rfl (hown.alloc _) ⟨wr.heap.size, 0, none⟩ 1 1 [.int .i64 x] rfl rfl (cell_one_new _ _ _) (one_i64 _) (by unfold maxLen; omega) (by omega) (by simp; omega) ?_; intro v' w' hown' hg' hx')
      go_roundw
      case rel => exact ⟨k + 1, by omega, by go_num, by rw [← HT.out]; exact hown', below_push hb hown hg'⟩
      case measure => simp [intOf]; omega
    · have hke : k = zs.length := by omega
      subst hke
      have HT : Hid ((qs ++ zs.take zs.length).map (Value.int .i64) = (qs ++ zs).map (Value.int .i64) ∧ (qs ++ zs).length = qs.length + zs.length) := by unfold Hid; rw [List.take_length, List.length_append]; exact ⟨rfl, rfl⟩
      clear HC
      go_wp2
      go_ret
      exact ⟨_, rfl, by rw [← HT.out.1, HT.out.2]; exact hown, hb⟩

/-- Boundaries, from 0 to n, rising. -/
def Cl.rise (L : List Int) (n : Int) : Prop := 0 < L.length ∧ L[0]?.getD 0 = 0 ∧ L[L.length - 1]?.getD 0 = n ∧ ∀ i, 0 < i → i < L.length → L[i - 1]?.getD 0 < L[i]?.getD 0

set_option maxRecDepth 100000 in
theorem ends_any (v : Value) (L : List Int) (n : Int) (w : World) (hr : Rd .i64 w v L) (hR : Cl.rise L n) :
    Calls Try.prog 18 #[v, .int .i64 n] w fun e w' => e = .returned (.bool true) ∧ Below w.heap.size w w' := by
  obtain ⟨r0, r1, r2, r3⟩ := hR
  have hlen := hr.len
  obtain ⟨b, off, cap, rfl, hl, hm, hb, hc⟩ := hr.at r0
  have HC : Hid (∀ i, i < L.length → w.cell? ⟨b, off + i, none⟩ = some (.int .i64 (Cl.at L i))) := hc
  have HR : Hid (∀ i, 0 < i → i < L.length → L[i - 1]?.getD 0 < L[i]?.getD 0) := r3
  have h0 : w.cell? ⟨b, off + 0, none⟩ = some (.int .i64 0) := by rw [hc 0 r0]; unfold Cl.at; rw [r1]
  have h0' : w.cell? ⟨b, off, none⟩ = some (.int .i64 0) := h0
  have h1 : w.cell? ⟨b, off + (L.length - 1), none⟩ = some (.int .i64 n) := by rw [hc (L.length - 1) (by omega)]; unfold Cl.at; rw [r2]
  have hq : ((L.length : Int) == 0) = false := by rw [beq_eq_false_iff_ne]; omega
  have hn : (n != n) = false := by simp
  clear hc hr r1 r2 r3
  have g1 : (0 : Int) ≤ (L.length : Int) - 1 := by omega
  have g2 : (L.length : Int) - 1 < (L.length : Int) := by omega
  go_enter Try.func18, Try.ntmps18
  go_wp2_with fail
  go_loopw [5] (fun i wr => ∃ k : Nat, 0 < k ∧ k ≤ L.length ∧ i = .int .i64 k ∧ Below w.heap.size w wr) (fun i _ => L.length - (intOf i).toNat)
  case atStart => exact ⟨1, by omega, by omega, rfl, Below.refl _ _⟩
  case round =>
    obtain ⟨k, hk0, hk, rfl, hbw⟩ := hrel
    clear h0 h0' h1
    by_cases hlt : k < L.length
    · obtain ⟨k', hk'⟩ : ∃ k', k' = k - 1 := ⟨_, rfl⟩
      have c1 : wr.cell? ⟨b, off + k, none⟩ = some (.int .i64 (Cl.at L k)) := (hbw.cell (p := ⟨b, off + k, none⟩) hb).trans (HC.out _ hlt)
      have c2 : wr.cell? ⟨b, off + k', none⟩ = some (.int .i64 (Cl.at L k')) := (hbw.cell (p := ⟨b, off + k', none⟩) hb).trans (HC.out _ (by omega))
      have hrise : Cl.at L k' < Cl.at L k := by rw [hk']; exact HR.out k hk0 hlt
      generalize Cl.at L k = x at *
      generalize Cl.at L k' = y at *
      have hd : decide (x ≤ y) = false := by simp; omega
      have hki2 : IntKind.i64.wrap ((k : Int) - 1) = (k' : Int) := by rw [IntKind.wrap_i64]; omega
      have hki : (k : Int) - 1 = (k' : Int) := by omega
      have b1 : (0 : Int) ≤ (k : Int) := by omega
      have b2 : (k : Int) < (L.length : Int) := by omega
      have b3 : (0 : Int) ≤ (k' : Int) := by omega
      have b4 : (k' : Int) < (L.length : Int) := by omega
      clear hk' HC HR
      go_wp2_with fail
      go_quiet (fail)
      go_wp2
      go_roundw
      case rel => exact ⟨k + 1, by omega, by omega, by go_num, below_drewN hbw _⟩
      case measure => simp [intOf]; omega
    · clear HC HR
      go_wp2
      go_ret
      exact ⟨rfl, hbw⟩

theorem filt_take (p : Int → Bool) (f : Int → Int) (zs : List Int) (i : Nat) (h : i < zs.length) : ((zs.take (i + 1)).filter p).map f = ((zs.take i).filter p).map f ++ (if p (zs[i]?.getD 0) = true then [f (zs[i]?.getD 0)] else []) := by
  rw [List.take_succ_eq_append_getElem h, List.filter_append, List.map_append]
  congr 1
  simp only [List.getElem?_eq_getElem h, Option.getD_some]
  cases hp : p zs[i] <;> simp [hp]

def Cl.fromL (n : Int) (L : List Int) : List Int := (L.filter fun x => decide (n ≤ x)).map fun x => x - n
def Cl.uptoL (n : Int) (L : List Int) : List Int := (L.filter fun x => decide (x < n)).map fun x => x

set_option maxRecDepth 100000 in
theorem upto_any (v : Value) (zs : List Int) (n : Int) (w : World) (hr : Rd .i64 w v zs) (hz : zs.length * 8 ≤ 140737488355328) :
    Calls Try.prog 20 #[v, .int .i64 n] w fun e w' => ∃ v', e = .returned v' ∧ Own w' w.heap.size v' (Cl.uptoL n zs) ∧ Below w.heap.size w w' := by
  obtain ⟨ao, cap, rfl, hl, hm, hc⟩ := hr
  obtain ⟨i0, hi, hz0, hz1, hz2⟩ := info_parts Try.info_i64
  have HC : Hid (zs ≠ [] → ∃ b off, ao = some ⟨b, off, none⟩ ∧ b < w.heap.size ∧ ∀ i, i < zs.length → w.cell? ⟨b, off + i, none⟩ = some (.int .i64 (zs[i]?.getD 0))) := hc
  clear hc hm
  unfold Own
  go_enter Try.func20, Try.ntmps20
  go_wp2_with fail
  go_loopw [5, 6] (fun o i wr => ∃ k : Nat, k ≤ zs.length ∧ i = .int .i64 k ∧ wr.ownsRow w.heap.size 3 1 o (Cl.uptoL n (zs.take k)).length ((Cl.uptoL n (zs.take k)).map (Value.int .i64)) ∧ Below w.heap.size w wr) (fun _ i _ => zs.length - (intOf i).toNat)
  case atStart => exact ⟨0, Nat.zero_le _, rfl, World.ownsRow_nil _ _ _ _, Below.refl _ _⟩
  case round =>
    obtain ⟨k, hk, rfl, hown, hb⟩ := hrel
    by_cases hlt : k < zs.length
    · obtain ⟨b, off, rfl, hbl, hc⟩ := HC.out (by intro h; subst h; simp at hlt)
      have hcx : wr.cell? ⟨b, off + k, none⟩ = some (.int .i64 (zs[k]?.getD 0)) := (hb.cell (p := ⟨b, off + k, none⟩) hbl).trans (hc k hlt)
      have hz' : w.heap.size ≤ wr.heap.size := hb.size
      have HT : Hid (Cl.uptoL n (zs.take (k + 1)) = Cl.uptoL n (zs.take k) ++ (if decide (zs[k]?.getD 0 < n) = true then [zs[k]?.getD 0] else [])) := filt_take _ _ zs k hlt
      have hlen : (Cl.uptoL n (zs.take k)).length ≤ k := by
        unfold Cl.uptoL; rw [List.length_map]; refine Nat.le_trans (List.length_filter_le _ _) ?_; rw [List.length_take]; omega
      generalize zs[k]?.getD 0 = x at *
      generalize hL' : Cl.uptoL n (zs.take (k + 1)) = L' at *
      have HL' : Hid (Cl.uptoL n (zs.take (k + 1)) = L') := hL'
      clear hL'
      generalize Cl.uptoL n (zs.take k) = L at *
      clear hc HC
      by_cases hx : x < n
      · have hd : decide (x < n) = true := by simp [hx]
        have HT2 : Hid (L'.map (Value.int .i64) = L.map (Value.int .i64) ++ [.int .i64 x] ∧ L'.length = L.length + 1) := by unfold Hid; rw [HT.out, if_pos hd]; simp
        generalize L.map (Value.int .i64) = xs at *
        generalize L.length = m at *
        go_wp2_with (at_builtin; refine wpList_append_own _ rfl _ _ 22 rfl w.heap.size 3 i0 (.int .i64 0) 1 8 Try.underlying22 hi hz0 hz1 hz2 rfl (by decide) _ _ _ rfl (hown.alloc _) ⟨wr.heap.size, 0, none⟩ 1 1 [.int .i64 x] rfl rfl (cell_one_new _ _ _) (one_i64 _) (by unfold maxLen; omega) (by omega) (by simp; omega) ?_; intro v' w' hown' hg' hx')
        go_roundw
        case rel => exact ⟨k + 1, by omega, by go_num, by rw [HL'.out, HT2.out.1, HT2.out.2]; exact hown', below_push hb hown hg'⟩
        case measure => simp [intOf]; omega
      · have hd : decide (x < n) = false := by simp; omega
        have HT2 : Hid (L' = L) := by unfold Hid; rw [HT.out, if_neg (by simp [hx]), List.append_nil]
        go_wp2_with fail
        go_roundw
        case rel => exact ⟨k + 1, by omega, by go_num, by rw [HL'.out, HT2.out]; exact hown, hb⟩
        case measure => simp [intOf]; omega
    · have hke : k = zs.length := by omega
      subst hke
      have HT : Hid (Cl.uptoL n (zs.take zs.length) = Cl.uptoL n zs) := by unfold Hid; rw [List.take_length]
      clear HC
      go_wp2
      go_ret
      exact ⟨_, rfl, by rw [← HT.out]; exact hown, hb⟩
set_option maxRecDepth 100000 in
theorem from_any (v : Value) (zs : List Int) (n : Int) (w : World) (hr : Rd .i64 w v zs) (hz : zs.length * 8 ≤ 140737488355328) (hn : 0 ≤ n) (hxs : ∀ x ∈ zs, 0 ≤ x ∧ x ≤ 9223372036854775807) :
    Calls Try.prog 28 #[v, .int .i64 n] w fun e w' => ∃ v', e = .returned v' ∧ Own w' w.heap.size v' (Cl.fromL n zs) ∧ Below w.heap.size w w' := by
  obtain ⟨ao, cap, rfl, hl, hm, hc⟩ := hr
  obtain ⟨i0, hi, hz0, hz1, hz2⟩ := info_parts Try.info_i64
  have HC : Hid (zs ≠ [] → ∃ b off, ao = some ⟨b, off, none⟩ ∧ b < w.heap.size ∧ ∀ i, i < zs.length → w.cell? ⟨b, off + i, none⟩ = some (.int .i64 (zs[i]?.getD 0))) := hc
  have HXS : Hid (∀ x ∈ zs, 0 ≤ x ∧ x ≤ 9223372036854775807) := hxs
  clear hc hm hxs
  unfold Own
  go_enter Try.func28, Try.ntmps28
  go_wp2_with fail
  go_loopw [5, 6] (fun o i wr => ∃ k : Nat, k ≤ zs.length ∧ i = .int .i64 k ∧ wr.ownsRow w.heap.size 3 1 o (Cl.fromL n (zs.take k)).length ((Cl.fromL n (zs.take k)).map (Value.int .i64)) ∧ Below w.heap.size w wr) (fun _ i _ => zs.length - (intOf i).toNat)
  case atStart => exact ⟨0, Nat.zero_le _, rfl, World.ownsRow_nil _ _ _ _, Below.refl _ _⟩
  case round =>
    obtain ⟨k, hk, rfl, hown, hb⟩ := hrel
    by_cases hlt : k < zs.length
    · obtain ⟨b, off, rfl, hbl, hc⟩ := HC.out (by intro h; subst h; simp at hlt)
      have hcx : wr.cell? ⟨b, off + k, none⟩ = some (.int .i64 (zs[k]?.getD 0)) := (hb.cell (p := ⟨b, off + k, none⟩) hbl).trans (hc k hlt)
      have hz' : w.heap.size ≤ wr.heap.size := hb.size
      have HT : Hid (Cl.fromL n (zs.take (k + 1)) = Cl.fromL n (zs.take k) ++ (if decide (n ≤ zs[k]?.getD 0) = true then [zs[k]?.getD 0 - n] else [])) := filt_take _ _ zs k hlt
      have hlen : (Cl.fromL n (zs.take k)).length ≤ k := by
        unfold Cl.fromL; rw [List.length_map]; refine Nat.le_trans (List.length_filter_le _ _) ?_; rw [List.length_take]; omega
      have hxb := HXS.out (zs[k]?.getD 0) (by rw [List.getElem?_eq_getElem hlt]; exact List.getElem_mem hlt)
      generalize zs[k]?.getD 0 = x at *
      generalize hL' : Cl.fromL n (zs.take (k + 1)) = L' at *
      have HL' : Hid (Cl.fromL n (zs.take (k + 1)) = L') := hL'
      clear hL'
      generalize Cl.fromL n (zs.take k) = L at *
      clear hc HC
      by_cases hx : n ≤ x
      · have hd : decide (n ≤ x) = true := by simp [hx]
        have HT2 : Hid (L'.map (Value.int .i64) = L.map (Value.int .i64) ++ [.int .i64 (x - n)] ∧ L'.length = L.length + 1) := by unfold Hid; rw [HT.out, if_pos hd]; simp
        generalize L.map (Value.int .i64) = xs at *
        generalize L.length = m at *
        go_wp2_with (at_builtin; refine wpList_append_own _ rfl _ _ 22 rfl w.heap.size 3 i0 (.int .i64 0) 1 8 Try.underlying22 hi hz0 hz1 hz2 rfl (by decide) _ _ _ rfl (hown.alloc _) ⟨wr.heap.size, 0, none⟩ 1 1 [.int .i64 (x - n)] rfl rfl (cell_one_new _ _ _) (one_i64 _) (by unfold maxLen; omega) (by omega) (by simp; omega) ?_; intro v' w' hown' hg' hx')
        go_roundw
        case rel => exact ⟨k + 1, by omega, by go_num, by rw [HL'.out, HT2.out.1, HT2.out.2]; exact hown', below_push hb hown hg'⟩
        case measure => simp [intOf]; omega
      · have hd : decide (n ≤ x) = false := by simp; omega
        have HT2 : Hid (L' = L) := by unfold Hid; rw [HT.out, if_neg (by simp [hx]), List.append_nil]
        go_wp2_with fail
        go_roundw
        case rel => exact ⟨k + 1, by omega, by go_num, by rw [HL'.out, HT2.out]; exact hown, hb⟩
        case measure => simp [intOf]; omega
    · have hke : k = zs.length := by omega
      subst hke
      have HT : Hid (Cl.fromL n (zs.take zs.length) = Cl.fromL n zs) := by unfold Hid; rw [List.take_length]
      clear HC
      go_wp2
      go_ret
      exact ⟨_, rfl, by rw [← HT.out]; exact hown, hb⟩
end Go.Proofs.Ytahjjpleceppaaa
