/- The document's Held: beginning. -/
import Derived.Test.YtmfbobibpebfnaaRefEight
import Derived.Test.YtmfbobibpebfnaaBegin
namespace Go.Proofs.Ytmfbobibpebfnaa
open Go.RowKit

theorem Cx.fill_take (D : List Int) (m k j : Nat) (hj : j < m) (ht : D.length ≤ m) : ((Cx.fillUp D m k).take j).map (Value.int .u8) ++ [Value.int .u8 ((Cx.fillUp D m k)[j]?.getD 0)] = ((Cx.fillUp D m k).take (j + 1)).map (Value.int .u8) := by
  have hl := Cx.fillUp_len D m k ht
  rw [List.take_add_one, List.map_append, List.getElem?_eq_getElem (by omega)]
  rfl
theorem Cx.fill_byt (D : List Int) (m k : Nat) (hk : k < 2) (hD : Byt D) : Byt (Cx.fillUp D m k) := by
  intro z hz
  unfold Cx.fillUp at hz
  rcases List.mem_append.1 hz with h | h
  · exact hD z h
  · have := (List.mem_replicate.1 h).2
    omega

set_option maxRecDepth 100000 in
set_option maxHeartbeats 4000000 in
theorem beginning_any (v : Value) (zs : List Int) (at' : Nat) (w : World) (h : Rd .u8 w v zs) (hb : Byt zs) (hl : at' < zs.length) (h3 : zs.length - at' ≤ 3) (hm : zs.length ≤ 4611686018427387000) :
    Calls Try.prog 26 #[v, .int .i64 at'] w fun e w' => e = .returned (.bool (decide (((zs.drop at').length : Int) < Cx.mtch (zs.drop at')))) ∧ Below w.heap.size w w' := by
  have HBG : Hid ((∃ n k : Nat, (zs.drop at').length < n ∧ n ≤ 4 ∧ k < 2 ∧ (Cx.first8 (Cx.fillUp (zs.drop at') n k)).2 = n) ↔ ((zs.drop at').length : Int) < Cx.mtch (zs.drop at')) := Cx.begin_iff _ (List.length_pos_iff.1 (by rw [List.length_drop]; omega))
  have HDB : Hid (Byt (zs.drop at')) := hb.drop at'
  have HDL : Hid ((zs.drop at').length = zs.length - at') := List.length_drop
  have HDA : Hid (∀ j, (zs.drop at')[j]?.getD 0 = zs[at' + j]?.getD 0) := fun j => by rw [List.getElem?_drop]
  obtain ⟨ao, cap, rfl, hlc, hcm, hc⟩ := h
  obtain ⟨b, off, rfl, hbl, hc⟩ := hc (List.length_pos_iff.1 (by omega))
  have HC : Hid (∀ w', Below w.heap.size w w' → ∀ i, i < zs.length → w'.cell? ⟨b, off + i, none⟩ = some (.int .u8 (zs[i]?.getD 0))) := fun w' hw i hi => (hw.cell (p := ⟨b, off + i, none⟩) hbl).trans (hc i hi)
  obtain ⟨i0, hi, hz0, hz1, hz2⟩ := info_parts Try.info_u8
  generalize zs.drop at' = D at *
  obtain ⟨t, ht⟩ : ∃ t, t = zs.length - at' := ⟨_, rfl⟩
  have hsub : IntKind.i64.wrap ((zs.length : Int) - (at' : Int)) = (t : Int) := by rw [IntKind.wrap_i64]; omega
  have hsub2 : (zs.length : Int) - (at' : Int) = (t : Int) := by omega
  have HT : Hid (t = zs.length - at') := ht
  have ht1 : 1 ≤ t := by omega
  have ht3 : t ≤ 3 := by omega
  have hcm' : cap ≤ 9223372036854775807 := hcm
  clear hc hb ht h3 hcm
  go_enter Try.func26, Try.ntmps26
  go_wp2_with fail
  go_loopw [6] (fun n wr => ∃ m : Nat, t < m ∧ m ≤ 5 ∧ n = .int .i64 m ∧ Hid (∀ m' k' : Nat, t < m' → m' < m → k' < 2 → (Cx.first8 (Cx.fillUp D m' k')).2 ≠ m') ∧ Hid (Below w.heap.size w wr)) (fun n _ => 5 - (intOf n).toNat)
  case atStart => exact ⟨t + 1, by omega, by omega, by go_num, fun m' k' h1 h2 => by omega, Below.refl _ _⟩
  case round =>
    obtain ⟨m, hm1, hm2, rfl, HM, HBW⟩ := hrel
    by_cases hin : m ≤ 4
    · have hd0 : decide ((m : Int) ≤ 4) = true := by simp; omega
      go_wp2_with fail
      go_loopw [7] (fun kk wr => ∃ k : Nat, k ≤ 2 ∧ kk = .int .i64 k ∧ Hid (∀ k' : Nat, k' < k → (Cx.first8 (Cx.fillUp D m k')).2 ≠ m) ∧ Hid (Below w.heap.size w wr)) (fun kk _ => 2 - (intOf kk).toNat)
      case atStart => exact ⟨0, by omega, rfl, fun k' h1 => by omega, HBW.out⟩
      case round =>
        obtain ⟨k, hk2, rfl, HK, HBK⟩ := hrel
        clear HBW
        by_cases hkl : k < 2
        · have hd1 : decide ((k : Int) < 2) = true := by simp; omega
          have hfl : (Cx.fillUp D m k).length = m := Cx.fillUp_len D m k (by rw [HDL.out, ← HT.out]; omega)
          have HFL : Hid ((Cx.fillUp D m k).length = m) := hfl
          have HFB : Hid (Byt (Cx.fillUp D m k)) := Cx.fill_byt D m k hkl HDB.out
          have HFT : Hid (∀ j, j < m → ((Cx.fillUp D m k).take j).map (Value.int .u8) ++ [Value.int .u8 ((Cx.fillUp D m k)[j]?.getD 0)] = ((Cx.fillUp D m k).take (j + 1)).map (Value.int .u8)) := fun j hj => Cx.fill_take D m k j hj (by rw [HDL.out, ← HT.out]; omega)
          have HFI : Hid (∀ j, j < t → (Cx.fillUp D m k)[j]?.getD 0 = zs[at' + j]?.getD 0) := fun j hj => by rw [Cx.fillUp_in D m k j (by rw [HDL.out, ← HT.out]; omega), HDA.out]
          have HFO : Hid (∀ j, t ≤ j → j < m → (Cx.fillUp D m k)[j]?.getD 0 = 128 + 63 * (k : Int)) := fun j h1 h2 => Cx.fillUp_out D m k j (by rw [HDL.out, ← HT.out]; omega) h2
          have HYES : Hid ((Cx.first8 (Cx.fillUp D m k)).2 = m → ((D.length : Int) < Cx.mtch D)) := fun h => HBG.out.1 ⟨m, k, by rw [HDL.out, ← HT.out]; omega, by omega, hkl, h⟩
          have HNO : Hid ((Cx.first8 (Cx.fillUp D m k)).2 ≠ m → ∀ k' : Nat, k' < k + 1 → (Cx.first8 (Cx.fillUp D m k')).2 ≠ m) := fun h k' hk' => by
            by_cases e : k' = k
            · rw [e]; exact h
            · exact HK.out k' (by omega)
          generalize Cx.fillUp D m k = F at *
          clear hfl HK
          go_wp2_with fail
          go_loopw [8, 9] (fun l i wr => ∃ j : Nat, j ≤ m ∧ i = .int .i64 j ∧ Hid (wr.ownsRow w.heap.size 5 1 l j ((F.take j).map (Value.int .u8))) ∧ Hid (Below w.heap.size w wr)) (fun _ i _ => m - (intOf i).toNat)
          case atStart => exact ⟨0, Nat.zero_le _, rfl, World.ownsRow_nil _ _ _ _, HBK.out⟩
          case round =>
            obtain ⟨j, hj, rfl, HO, HBJ⟩ := hrel
            clear HBK
            have hz' : w.heap.size ≤ wr.heap.size := HBJ.out.size
            by_cases hjl : j < m
            · have hTk := HFT.out j hjl
              have d1 : decide ((j : Int) < (m : Int)) = true := by simp; omega
              have d2 : (j : Int) < (m : Int) := by omega
              have k1 : IntKind.i64.wrap (63 * (k : Int)) = 63 * (k : Int) := by rw [IntKind.wrap_i64]; omega
              have k2 : IntKind.i64.wrap (128 + 63 * (k : Int)) = 128 + 63 * (k : Int) := by rw [IntKind.wrap_i64]; omega
              have k3 : IntKind.u8.wrap (128 + 63 * (k : Int)) = 128 + 63 * (k : Int) := by rw [IntKind.wrap_u8]; omega
              have hOwn := HO.out
              have HO2 := HO
              by_cases hjt : j < t
              · have d3 : decide ((j : Int) < (t : Int)) = true := by simp; omega
                have d4 : (j : Int) < (t : Int) := by omega
                have hcl := HC.out wr HBJ.out (at' + j) (by have := HT.out; omega)
                have hfi := HFI.out j hjt
                have hx := HFB.out
                have y1 : (0 : Int) ≤ (at' : Int) + (j : Int) := by omega
                have y2 : (at' : Int) + (j : Int) < (zs.length : Int) := by have := HT.out; omega
                have y3 : IntKind.i64.wrap ((at' : Int) + (j : Int)) = (at' : Int) + (j : Int) := by rw [IntKind.wrap_i64]; omega
                rw [hfi] at hTk
                generalize zs[at' + j]?.getD 0 = x at *
                have HTk : Hid ((F.take j).map (Value.int .u8) ++ [Value.int .u8 x] = (F.take (j + 1)).map (Value.int .u8)) := hTk
                generalize (F.take j).map (Value.int .u8) = xs at hOwn HTk
                clear hTk hfi hx HO HO2
                go_wp2_with (at_builtin; refine wpList_append_own _ rfl _ _ 24 rfl w.heap.size 5 i0 (.int .u8 0) 1 1 Try.underlying24 hi hz0 hz1 hz2 rfl (by decide) _ _ _ rfl (hOwn.alloc _) ⟨wr.heap.size, 0, none⟩ 1 1 [.int .u8 x] rfl rfl (cell_one_new _ _ _) (one_u8 _) (by unfold maxLen; omega) (by omega) (by simp; omega) ?_; intro v' w' hown' hg' hx')
                go_roundw
                case rel => exact ⟨j + 1, by omega, by go_num, by unfold Hid; rw [← HTk.out]; exact hown', below_push HBJ.out hOwn hg'⟩
                case measure => simp [intOf]; omega
              · have d3 : decide ((j : Int) < (t : Int)) = false := by simp; omega
                have d4 : ¬ (j : Int) < (t : Int) := by omega
                rw [HFO.out j (by omega) hjl] at hTk
                have HTk : Hid ((F.take j).map (Value.int .u8) ++ [Value.int .u8 (128 + 63 * (k : Int))] = (F.take (j + 1)).map (Value.int .u8)) := hTk
                generalize (F.take j).map (Value.int .u8) = xs at hOwn HTk
                clear hTk HO HO2
                go_wp2_with (at_builtin; refine wpList_append_own _ rfl _ _ 24 rfl w.heap.size 5 i0 (.int .u8 0) 1 1 Try.underlying24 hi hz0 hz1 hz2 rfl (by decide) _ _ _ rfl (hOwn.alloc _) ⟨wr.heap.size, 0, none⟩ 1 1 [.int .u8 (128 + 63 * (k : Int))] rfl rfl (cell_one_new _ _ _) (one_u8 _) (by unfold maxLen; omega) (by omega) (by simp; omega) ?_; intro v' w' hown' hg' hx')
                go_roundw
                case rel => exact ⟨j + 1, by omega, by go_num, by unfold Hid; rw [← HTk.out]; exact hown', below_push HBJ.out hOwn hg'⟩
                case measure => simp [intOf]; omega
            · obtain rfl : j = m := by omega
              have HRF : Hid (Rd .u8 wr u8 F) := by
                have := HO.out
                rw [List.take_of_length_le (by rw [HFL.out]; omega)] at this
                exact Rd.of_own this
              obtain ⟨dl, el, hfm⟩ : ∃ ao cap, u8 = .slice ao F.length cap := by obtain ⟨ao, cap, hv, _⟩ := HRF.out; exact ⟨ao, cap, hv⟩
              subst hfm
              clear HO
              go_wp2_with fail
              refine (eightAt_any _ F 0 _ HRF.out HFB.out (by rw [HFL.out]; omega) (by rw [HFL.out]; omega)).mono ?_
              rintro e w2 ⟨rfl, hb2⟩
              have HW2 : Hid (Below w.heap.size w w2) := ext_trans HBJ.out hb2
              rw [List.drop_zero]
              clear hb2 HBJ
              by_cases hs : (Cx.first8 F).2 = j
              · have HE : Hid (decide ((D.length : Int) < Cx.mtch D) = true) := decide_eq_true (HYES.out hs)
                rw [hs]
                clear hs
                go_wp2_with fail
                go_ret
                exact ⟨ret_bool HE.out.symm, HW2.out⟩
              · have HE : Hid (∀ k' : Nat, k' < k + 1 → (Cx.first8 (Cx.fillUp D j k')).2 ≠ j) := HNO.out hs
                generalize (Cx.first8 F).2 = y at *
                generalize (Cx.first8 F).1 = y1 at *
                have hs1 : (y == (j : Int)) = false := by simpa using hs
                go_wp2_with fail
                go_roundw
                case rel => exact ⟨k + 1, by omega, by go_num, HE.out, HW2.out⟩
                case measure => simp [intOf]; omega
        · have hk : k = 2 := by omega
          have HE : Hid (∀ m' k' : Nat, t < m' → m' < m + 1 → k' < 2 → (Cx.first8 (Cx.fillUp D m' k')).2 ≠ m') := fun m' k' h1 h2 h3 => by
            by_cases e : m' = m
            · subst e; exact HK.out k' (by omega)
            · exact HM.out m' k' h1 (by omega) h3
          have hd1 : decide ((k : Int) < 2) = false := by simp; omega
          clear HK HM
          go_wp2_with fail
          go_roundw
          case rel => exact ⟨m + 1, by omega, by omega, by go_num, HE.out, HBK.out⟩
          case measure => simp [intOf]; omega
    · have hd0 : decide ((m : Int) ≤ 4) = false := by simp; omega
      have HE : Hid (decide ((D.length : Int) < Cx.mtch D) = false) := by
        refine decide_eq_false fun h => ?_
        obtain ⟨n, k, h1, h2, h3, h4⟩ := HBG.out.2 h
        have e1 := HDL.out
        have e2 := HT.out
        exact HM.out n k (by omega) (by omega) h3 h4
      clear HM
      go_wp2_with fail
      go_ret
      exact ⟨ret_bool HE.out.symm, HBW.out⟩
end Go.Proofs.Ytmfbobibpebfnaa
