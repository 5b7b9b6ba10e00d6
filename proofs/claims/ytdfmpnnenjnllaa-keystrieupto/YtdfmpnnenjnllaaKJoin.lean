/- joined of the document. -/
import Derived.Test.YtdfmpnnenjnllaaKBeg
namespace Go.Proofs.Ytdfmpnnenjnllaa
open Go.RowKit
theorem rds_lit (w : World) (x : Int) : RdS (w.alloc (.cells #[.int .i64 x] 3)) (.slice (some ⟨w.heap.size, 0, none⟩) 1 1) [x] := by
  refine ⟨⟨_, 1, rfl, Nat.le_refl _, by simp [maxLen], fun _ => ⟨_, 0, rfl, by rw [World.size_alloc]; omega, fun i hi => ?_⟩⟩, .inr ⟨_, _, _, rfl⟩⟩
  simp only [List.length_singleton] at hi
  obtain rfl : i = 0 := by omega
  rw [cell_of_row _ _ _ _ _ _ (MapKept.heap_alloc w _).1]
  rfl
theorem own_form {w : World} {base : Nat} {v : Value} {zs : List Int} (h : OwnI w base v zs) : ∃ ao n c, v = .slice ao n c := let ⟨ao, c, e, _⟩ := h.rds.len; ⟨ao, _, c, e⟩
set_option maxRecDepth 100000 in
set_option maxHeartbeats 1000000 in
theorem joined_any (v1 v2 v3 : Value) (xs ys zs : List Int) (w : World) (h1 : Rd .i64 w v1 xs) (h2 : Rd .i64 w v2 ys) (h3 : Rd .i64 w v3 zs) (hl : (xs.length + ys.length + zs.length) * 8 ≤ 140737488355328) :
    Calls Try.prog 24 #[v1, v2, v3] w fun e w' => ∃ v, e = .returned v ∧ OwnI w' w.heap.size v (xs ++ ys ++ zs) ∧ Below w.heap.size w w' := by
  have hlen1 := h1.len
  have hlen2 := h2.len
  have hlen3 := h3.len
  obtain ⟨a1, cap1, rfl, hl1, hc1, h1⟩ := h1
  obtain ⟨a2, cap2, rfl, hl2, hc2, h2⟩ := h2
  obtain ⟨a3, cap3, rfl, hl3, hc3, h3⟩ := h3
  have h1 := hidIt h1
  have h2 := hidIt h2
  have h3 := hidIt h3
  have HL := hidIt hl
  clear hl
  go_enter Try.func24, Try.ntmps24
  go_wp2
  go_loopw [7, 8] (fun v i wr => ∃ (p : Nat) (ao : Option Addr) (n c : Nat), p ≤ xs.length ∧ i = .int .i64 p ∧ v = .slice ao n c ∧ Hid (OwnI wr w.heap.size (.slice ao n c) (xs.take p)) ∧ Below w.heap.size w wr) (fun _ i _ => xs.length - (RowKit.intOf i).toNat)
  case atStart => exact ⟨0, _, _, _, Nat.zero_le _, rfl, rfl, OwnI.nil _ _, Below.refl _ _⟩
  case round =>
    obtain ⟨p, ao1, n1, c1, hp, rfl, rfl, HO, hbw⟩ := hrel
    by_cases hlt : p < xs.length
    · obtain ⟨b, off, rfl, hb, hcl⟩ := h1.out (by intro e; rw [e] at hlt; simp at hlt)
      have c1 : wr.cell? ⟨b, off + p, none⟩ = some (.int .i64 xs[p]) := by rw [(hbw.cell (p := ⟨b, off + p, none⟩) hb).trans (hcl _ hlt)]; simp [hlt]
      have hi1 : (p : Int) < (xs.length : Int) := by omega
      have HE := hidIt (show xs.take (p + 1) = (xs.take p) ++ [xs[p]] by rw [List.take_succ_eq_append_getElem hlt])
      have HBY := hidIt (show ((xs.take p).length + [xs[p]].length) * 8 ≤ 140737488355328 by simp only [List.length_take, List.length_singleton]; have := HL.out; omega)
      have HBS := hidIt hbw.size
      generalize xs[p] = x at *
      clear hcl
      go_wp2_with (at_builtin; refine wpl_ints rfl _ _ _ rfl w.heap.size Try.info_i64 Try.underlying32 _ (xs.take p) rfl (HO.out.ext (ext_alloc (Below.refl _ _) _)) _ [x] rfl (rds_lit wr x) HBY.out (by have := HBS.out; rw [World.size_alloc]; omega) ?_; intro v' w' ho' hb'; obtain ⟨a', n', c', e'⟩ := own_form ho'; subst e'; have HO' := hidIt ho'; have HB' := hidIt hb'; clear ho' hb')
      go_roundw
      case rel => exact ⟨p + 1, _, _, _, by omega, by go_num, rfl, by rw [HE.out]; exact HO'.out, (ext_alloc hbw _).trans HB'.out⟩
      case measure => simp [RowKit.intOf]; omega
    · have HO := hidIt (show OwnI wr w.heap.size (.slice ao1 n1 c1) (xs) by have := HO.out; rwa [List.take_of_length_le (by omega)] at this)
      have HB := hidIt hbw
      clear hbw
      go_wp2
      go_loopw [7, 9] (fun v i wr => ∃ (p : Nat) (ao : Option Addr) (n c : Nat), p ≤ ys.length ∧ i = .int .i64 p ∧ v = .slice ao n c ∧ Hid (OwnI wr w.heap.size (.slice ao n c) (xs ++ ys.take p)) ∧ Below w.heap.size w wr) (fun _ i _ => ys.length - (RowKit.intOf i).toNat)
      case atStart => exact ⟨0, _, _, _, Nat.zero_le _, rfl, rfl, by rw [List.take_zero, List.append_nil]; exact HO.out, HB.out⟩
      case round =>
        obtain ⟨p, ao2, n2, c2, hp, rfl, rfl, HO, hbw⟩ := hrel
        by_cases hlt : p < ys.length
        · obtain ⟨b, off, rfl, hb, hcl⟩ := h2.out (by intro e; rw [e] at hlt; simp at hlt)
          have c1 : wr.cell? ⟨b, off + p, none⟩ = some (.int .i64 ys[p]) := by rw [(hbw.cell (p := ⟨b, off + p, none⟩) hb).trans (hcl _ hlt)]; simp [hlt]
          have hi1 : (p : Int) < (ys.length : Int) := by omega
          have HE := hidIt (show xs ++ ys.take (p + 1) = (xs ++ ys.take p) ++ [ys[p]] by rw [List.take_succ_eq_append_getElem hlt, ← List.append_assoc])
          have HBY := hidIt (show ((xs ++ ys.take p).length + [ys[p]].length) * 8 ≤ 140737488355328 by simp only [List.length_append, List.length_take, List.length_singleton]; have := HL.out; omega)
          have HBS := hidIt hbw.size
          generalize ys[p] = x at *
          clear hcl
          go_wp2_with (at_builtin; refine wpl_ints rfl _ _ _ rfl w.heap.size Try.info_i64 Try.underlying32 _ (xs ++ ys.take p) rfl (HO.out.ext (ext_alloc (Below.refl _ _) _)) _ [x] rfl (rds_lit wr x) HBY.out (by have := HBS.out; rw [World.size_alloc]; omega) ?_; intro v' w' ho' hb'; obtain ⟨a', n', c', e'⟩ := own_form ho'; subst e'; have HO' := hidIt ho'; have HB' := hidIt hb'; clear ho' hb')
          go_roundw
          case rel => exact ⟨p + 1, _, _, _, by omega, by go_num, rfl, by rw [HE.out]; exact HO'.out, (ext_alloc hbw _).trans HB'.out⟩
          case measure => simp [RowKit.intOf]; omega
        · have HO := hidIt (show OwnI wr w.heap.size (.slice ao2 n2 c2) (xs ++ ys) by have := HO.out; rwa [List.take_of_length_le (by omega)] at this)
          have HB := hidIt hbw
          clear hbw
          go_wp2
          go_loopw [7, 10] (fun v i wr => ∃ (p : Nat) (ao : Option Addr) (n c : Nat), p ≤ zs.length ∧ i = .int .i64 p ∧ v = .slice ao n c ∧ Hid (OwnI wr w.heap.size (.slice ao n c) (xs ++ ys ++ zs.take p)) ∧ Below w.heap.size w wr) (fun _ i _ => zs.length - (RowKit.intOf i).toNat)
          case atStart => exact ⟨0, _, _, _, Nat.zero_le _, rfl, rfl, by rw [List.take_zero, List.append_nil]; exact HO.out, HB.out⟩
          case round =>
            obtain ⟨p, ao3, n3, c3, hp, rfl, rfl, HO, hbw⟩ := hrel
            by_cases hlt : p < zs.length
            · obtain ⟨b, off, rfl, hb, hcl⟩ := h3.out (by intro e; rw [e] at hlt; simp at hlt)
              have c1 : wr.cell? ⟨b, off + p, none⟩ = some (.int .i64 zs[p]) := by rw [(hbw.cell (p := ⟨b, off + p, none⟩) hb).trans (hcl _ hlt)]; simp [hlt]
              have hi1 : (p : Int) < (zs.length : Int) := by omega
              have HE := hidIt (show xs ++ ys ++ zs.take (p + 1) = (xs ++ ys ++ zs.take p) ++ [zs[p]] by rw [List.take_succ_eq_append_getElem hlt, ← List.append_assoc])
              have HBY := hidIt (show ((xs ++ ys ++ zs.take p).length + [zs[p]].length) * 8 ≤ 140737488355328 by simp only [List.length_append, List.length_take, List.length_singleton]; have := HL.out; omega)
              have HBS := hidIt hbw.size
              generalize zs[p] = x at *
              clear hcl
              go_wp2_with (at_builtin; refine wpl_ints rfl _ _ _ rfl w.heap.size Try.info_i64 Try.underlying32 _ (xs ++ ys ++ zs.take p) rfl (HO.out.ext (ext_alloc (Below.refl _ _) _)) _ [x] rfl (rds_lit wr x) HBY.out (by have := HBS.out; rw [World.size_alloc]; omega) ?_; intro v' w' ho' hb'; obtain ⟨a', n', c', e'⟩ := own_form ho'; subst e'; have HO' := hidIt ho'; have HB' := hidIt hb'; clear ho' hb')
              go_roundw
              case rel => exact ⟨p + 1, _, _, _, by omega, by go_num, rfl, by rw [HE.out]; exact HO'.out, (ext_alloc hbw _).trans HB'.out⟩
              case measure => simp [RowKit.intOf]; omega
            · have HO := hidIt (show OwnI wr w.heap.size (.slice ao3 n3 c3) (xs ++ ys ++ zs) by have := HO.out; rwa [List.take_of_length_le (by omega)] at this)
              have HB := hidIt hbw
              clear hbw
              go_wp2
              go_ret
              exact ⟨_, rfl, HO.out, HB.out⟩
end Go.Proofs.Ytdfmpnnenjnllaa
