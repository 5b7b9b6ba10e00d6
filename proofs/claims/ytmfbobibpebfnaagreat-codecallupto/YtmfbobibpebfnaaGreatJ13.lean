import Derived.Test.YtmfbobibpebfnaaGreatJ04
import Derived.Test.YtmfbobibpebfnaaGreatJ03
import Derived.Test.YtmfbobibpebfnaaGreatJ00
/- Held, of the document, UTF8: do bytes begin a longer row? No Go in sight. -/
namespace Go.Proofs.YtmfbobibpebfnaaGreat.Cx

/-- The bytes, made n long with the least (k = 0) or the greatest (k = 1) that may follow. -/
def fillUp (b : List Int) (n k : Nat) : List Int := b ++ List.replicate (n - b.length) (128 + 63 * (k : Int))
theorem fillUp_len (b : List Int) (n k : Nat) (h : b.length ≤ n) : (fillUp b n k).length = n := by unfold fillUp; simp; omega
theorem fillUp_c0 (b : List Int) (n k : Nat) (hn : b ≠ []) : c0 (fillUp b n k) = c0 b := by
  unfold c0 fillUp; rw [List.getElem?_append_left (List.length_pos_iff.2 hn)]
theorem fillUp_in (b : List Int) (n k j : Nat) (h : j < b.length) : (fillUp b n k)[j]?.getD 0 = b[j]?.getD 0 := by
  unfold fillUp; rw [List.getElem?_append_left h]
theorem fillUp_out (b : List Int) (n k j : Nat) (h : b.length ≤ j) (hj : j < n) : (fillUp b n k)[j]?.getD 0 = 128 + 63 * (k : Int) := by
  unfold fillUp; rw [List.getElem?_append_right h, List.getElem?_replicate, if_pos (by omega)]; rfl

theorem okAll_iff (b : List Int) : okAll b = true ↔ ∀ j : Nat, 1 ≤ j → (j : Int) < rowN (c0 b) → okAt b j = true := by
  have hN := rowN_bd (c0 b)
  unfold okAll
  simp only [Bool.and_eq_true, Bool.or_eq_true, decide_eq_true_eq]
  constructor
  · rintro ⟨⟨h1, h2⟩, h3⟩ j hj hr
    have hj4 : j < 4 := by omega
    rcases j with _ | _ | _ | _ | j
    · omega
    · exact h1.resolve_left (by omega)
    · exact h2.resolve_left (by omega)
    · exact h3.resolve_left (by omega)
    · omega
  · intro h
    refine ⟨⟨?_, ?_⟩, ?_⟩
    · by_cases h' : rowN (c0 b) < 2
      · exact .inl h'
      · exact .inr (h 1 (by omega) (by omega))
    · by_cases h' : rowN (c0 b) < 3
      · exact .inl h'
      · exact .inr (h 2 (by omega) (by omega))
    · by_cases h' : rowN (c0 b) < 4
      · exact .inl h'
      · exact .inr (h 3 (by omega) (by omega))

theorem first8_size (b : List Int) (n : Nat) (h2 : 2 ≤ n) (hl : b.length = n) : (first8 b).2 = n ↔ mtch b = n := by
  unfold first8
  split
  · exact Iff.rfl
  · simp only
    constructor
    · intro h; omega
    · intro h; omega

/-- At one of the two ends a second byte may stand. -/
theorem row_end (c : Int) (h : 2 ≤ rowN c) : (rowLo c ≤ 128 ∧ 128 ≤ rowHi c) ∨ (rowLo c ≤ 191 ∧ 191 ≤ rowHi c) := by
  unfold rowN at h; unfold rowLo rowHi
  repeat' split at h
  all_goals first | omega | (repeat' split) <;> omega

/-- The bytes begin a longer row just when one of the two fillings is a whole row. -/
theorem begin_iff (b : List Int) (hn : b ≠ []) : (∃ n k : Nat, b.length < n ∧ n ≤ 4 ∧ k < 2 ∧ (first8 (fillUp b n k)).2 = n) ↔ (b.length : Int) < mtch b := by
  have hp : 0 < b.length := List.length_pos_iff.2 hn
  have hN := rowN_bd (c0 b)
  constructor
  · rintro ⟨n, k, hbn, h4, hk, h⟩
    have hl := fillUp_len b n k (by omega)
    rw [first8_size _ n (by omega) hl] at h
    have hc := fillUp_c0 b n k hn
    have hok : okAll (fillUp b n k) = true := by
      unfold mtch at h
      split at h
      · assumption
      · omega
    have hr : rowN (c0 b) = n := by
      unfold mtch at h
      rw [if_pos hok, hc] at h
      exact h
    rw [okAll_iff, hc] at hok
    have hb : okAll b = true := by
      rw [okAll_iff]
      intro j hj hr'
      by_cases hjl : j < b.length
      · have := hok j hj hr'
        unfold okAt at this ⊢
        rw [hc, fillUp_in b n k j hjl, decide_eq_false (show ¬ (fillUp b n k).length ≤ j by omega)] at this
        rw [decide_eq_false (show ¬ b.length ≤ j by omega)]
        exact this
      · unfold okAt
        rw [decide_eq_true (show b.length ≤ j by omega)]; rfl
    unfold mtch
    rw [if_pos hb, hr]
    omega
  · intro h
    have hok : okAll b = true := by
      unfold mtch at h
      split at h
      · assumption
      · omega
    have hm : mtch b = rowN (c0 b) := by unfold mtch; rw [if_pos hok]
    rw [hm] at h
    obtain ⟨n, hnn⟩ : ∃ n : Nat, rowN (c0 b) = n := ⟨(rowN (c0 b)).toNat, by omega⟩
    have key : ∀ k : Nat, k < 2 → (b.length = 1 → rowLo (c0 b) ≤ 128 + 63 * (k : Int) ∧ 128 + 63 * (k : Int) ≤ rowHi (c0 b)) → (first8 (fillUp b n k)).2 = n := by
      intro k hk hend
      have hl := fillUp_len b n k (by omega)
      have hc := fillUp_c0 b n k hn
      rw [first8_size _ n (by omega) hl]
      have hok2 : okAll (fillUp b n k) = true := by
        rw [okAll_iff, hc]
        intro j hj hr
        by_cases hjl : j < b.length
        · have := (okAll_iff b).1 hok j hj hr
          unfold okAt at this ⊢
          rw [decide_eq_false (show ¬ b.length ≤ j by omega)] at this
          rw [hc, fillUp_in b n k j hjl, decide_eq_false (show ¬ (fillUp b n k).length ≤ j by omega)]
          exact this
        · apply okAt_of
          rw [hc, fillUp_out b n k j (by omega) (by omega)]
          by_cases h1 : j = 1
          · unfold loJ hiJ
            rw [if_pos h1, if_pos h1]
            exact hend (by omega)
          · unfold loJ hiJ
            rw [if_neg h1, if_neg h1]
            omega
      unfold mtch
      rw [if_pos hok2, hc, hnn]
    rcases row_end (c0 b) (by omega) with he | he
    · exact ⟨n, 0, by omega, by omega, by omega, key 0 (by omega) (fun _ => by simpa using he)⟩
    · exact ⟨n, 1, by omega, by omega, by omega, key 1 (by omega) (fun _ => by simpa using he)⟩
end Go.Proofs.YtmfbobibpebfnaaGreat.Cx

/- The document's Held: beginning. -/
namespace Go.Proofs.YtmfbobibpebfnaaGreat
open Go.RowKit

theorem Cx.fill_take (D : List Int) (m k j : Nat) (hj : j < m) (ht : D.length ≤ m) : ((Cx.fillUp D m k).take j).map (Value.int .u8) ++ [Value.int .u8 ((Cx.fillUp D m k)[j]?.getD 0)] = ((Cx.fillUp D m k).take (j + 1)).map (Value.int .u8) := by
  have hl := Cx.fillUp_len D m k ht
  rw [List.take_add_one, List.map_append, List.getElem?_eq_getElem (by omega)]
  rfl
theorem Cx.fill_byt (D : List Int) (m k : Nat) (hk : k < 2) (hD : Byt D) : Byt (Cx.fillUp D m k) := by
  intro z hz
  unfold Cx.fillUp at hz
  rcases List.mem_append.1 hz with h | h
  · exact hD z h
  · have := (List.mem_replicate.1 h).2
    omega

set_option maxRecDepth 100000 in
set_option maxHeartbeats 4000000 in
theorem beginning_any (v : Value) (zs : List Int) (at' : Nat) (w : World) (h : Rd .u8 w v zs) (hb : Byt zs) (hl : at' < zs.length) (h3 : zs.length - at' ≤ 3) (hm : zs.length ≤ 4611686018427387000) :
    Calls Tryz.prog 55 #[v, .int .i64 at'] w fun e w' => e = .returned (.bool (decide (((zs.drop at').length : Int) < Cx.mtch (zs.drop at')))) ∧ Below w.heap.size w w' := by
  have HBG : Hid ((∃ n k : Nat, (zs.drop at').length < n ∧ n ≤ 4 ∧ k < 2 ∧ (Cx.first8 (Cx.fillUp (zs.drop at') n k)).2 = n) ↔ ((zs.drop at').length : Int) < Cx.mtch (zs.drop at')) := Cx.begin_iff _ (List.length_pos_iff.1 (by rw [List.length_drop]; omega))
  have HDB : Hid (Byt (zs.drop at')) := hb.drop at'
  have HDL : Hid ((zs.drop at').length = zs.length - at') := List.length_drop
  have HDA : Hid (∀ j, (zs.drop at')[j]?.getD 0 = zs[at' + j]?.getD 0) := fun j => by rw [List.getElem?_drop]
  obtain ⟨ao, cap, rfl, hlc, hcm, hc⟩ := h
  obtain ⟨b, off, rfl, hbl, hc⟩ := hc (List.length_pos_iff.1 (by omega))
  have HC : Hid (∀ w', Below w.heap.size w w' → ∀ i, i < zs.length → w'.cell? ⟨b, off + i, none⟩ = some (.int .u8 (zs[i]?.getD 0))) := fun w' hw i hi => (hw.cell (p := ⟨b, off + i, none⟩) hbl).trans (hc i hi)
  obtain ⟨i0, hi, hz0, hz1, hz2⟩ := info_parts Tryz.info_u8
  generalize zs.drop at' = D at *
  obtain ⟨t, ht⟩ : ∃ t, t = zs.length - at' := ⟨_, rfl⟩
  have hsub : IntKind.i64.wrap ((zs.length : Int) - (at' : Int)) = (t : Int) := by rw [IntKind.wrap_i64]; omega
  have hsub2 : (zs.length : Int) - (at' : Int) = (t : Int) := by omega
  have HT : Hid (t = zs.length - at') := ht
  have ht1 : 1 ≤ t := by omega
  have ht3 : t ≤ 3 := by omega
  have hcm' : cap ≤ 9223372036854775807 := hcm
  clear hc hb ht h3 hcm
  go_enter Tryz.func55, Tryz.ntmps55
  go_wp2_with fail
  go_loopw [6] (fun n wr => ∃ m : Nat, t < m ∧ m ≤ 5 ∧ n = .int .i64 m ∧ Hid (∀ m' k' : Nat, t < m' → m' < m → k' < 2 → (Cx.first8 (Cx.fillUp D m' k')).2 ≠ m') ∧ Hid (Below w.heap.size w wr)) (fun n _ => 5 - (intOf n).toNat)
  case atStart => exact ⟨t + 1, by omega, by omega, by go_num, fun m' k' h1 h2 => by omega, Below.refl _ _⟩
  case round =>
    obtain ⟨m, hm1, hm2, rfl, HM, HBW⟩ := hrel
    by_cases hin : m ≤ 4
    · have hd0 : decide ((m : Int) ≤ 4) = true := by simp; omega
      go_wp2_with fail
      go_loopw [7] (fun kk wr => ∃ k : Nat, k ≤ 2 ∧ kk = .int .i64 k ∧ Hid (∀ k' : Nat, k' < k → (Cx.first8 (Cx.fillUp D m k')).2 ≠ m) ∧ Hid (Below w.heap.size w wr)) (fun kk _ => 2 - (intOf kk).toNat)
      case atStart => exact ⟨0, by omega, rfl, fun k' h1 => by omega, HBW.out⟩
      case round =>
        obtain ⟨k, hk2, rfl, HK, HBK⟩ := hrel
        clear HBW
        by_cases hkl : k < 2
        · have hd1 : decide ((k : Int) < 2) = true := by simp; omega
          have hfl : (Cx.fillUp D m k).length = m := Cx.fillUp_len D m k (by rw [HDL.out, ← HT.out]; omega)
          have HFL : Hid ((Cx.fillUp D m k).length = m) := hfl
          have HFB : Hid (Byt (Cx.fillUp D m k)) := Cx.fill_byt D m k hkl HDB.out
          have HFT : Hid (∀ j, j < m → ((Cx.fillUp D m k).take j).map (Value.int .u8) ++ [Value.int .u8 ((Cx.fillUp D m k)[j]?.getD 0)] = ((Cx.fillUp D m k).take (j + 1)).map (Value.int .u8)) := fun j hj => Cx.fill_take D m k j hj (by rw [HDL.out, ← HT.out]; omega)
          have HFI : Hid (∀ j, j < t → (Cx.fillUp D m k)[j]?.getD 0 = zs[at' + j]?.getD 0) := fun j hj => by rw [Cx.fillUp_in D m k j (by rw [HDL.out, ← HT.out]; omega), HDA.out]
          have HFO : Hid (∀ j, t ≤ j → j < m → (Cx.fillUp D m k)[j]?.getD 0 = 128 + 63 * (k : Int)) := fun j h1 h2 => Cx.fillUp_out D m k j (by rw [HDL.out, ← HT.out]; omega) h2
          have HYES : Hid ((Cx.first8 (Cx.fillUp D m k)).2 = m → ((D.length : Int) < Cx.mtch D)) := fun h => HBG.out.1 ⟨m, k, by rw [HDL.out, ← HT.out]; omega, by omega, hkl, h⟩
          have HNO : Hid ((Cx.first8 (Cx.fillUp D m k)).2 ≠ m → ∀ k' : Nat, k' < k + 1 → (Cx.first8 (Cx.fillUp D m k')).2 ≠ m) := fun h k' hk' => by
            by_cases e : k' = k
            · rw [e]; exact h
            · exact HK.out k' (by omega)
          generalize Cx.fillUp D m k = F at *
          clear hfl HK
          go_wp2_with fail
          go_loopw [8, 9] (fun l i wr => ∃ j : Nat, j ≤ m ∧ i = .int .i64 j ∧ Hid (wr.ownsRow w.heap.size 5 1 l j ((F.take j).map (Value.int .u8))) ∧ Hid (Below w.heap.size w wr)) (fun _ i _ => m - (intOf i).toNat)
          case atStart => exact ⟨0, Nat.zero_le _, rfl, World.ownsRow_nil _ _ _ _, HBK.out⟩
          case round =>
            obtain ⟨j, hj, rfl, HO, HBJ⟩ := hrel
            clear HBK
            have hz' : w.heap.size ≤ wr.heap.size := HBJ.out.size
            by_cases hjl : j < m
            · have hTk := HFT.out j hjl
              have d1 : decide ((j : Int) < (m : Int)) = true := by simp; omega
              have d2 : (j : Int) < (m : Int) := by omega
              have k1 : IntKind.i64.wrap (63 * (k : Int)) = 63 * (k : Int) := by rw [IntKind.wrap_i64]; omega
              have k2 : IntKind.i64.wrap (128 + 63 * (k : Int)) = 128 + 63 * (k : Int) := by rw [IntKind.wrap_i64]; omega
              have k3 : IntKind.u8.wrap (128 + 63 * (k : Int)) = 128 + 63 * (k : Int) := by rw [IntKind.wrap_u8]; omega
              have hOwn := HO.out
              have HO2 := HO
              by_cases hjt : j < t
              · have d3 : decide ((j : Int) < (t : Int)) = true := by simp; omega
                have d4 : (j : Int) < (t : Int) := by omega
                have hcl := HC.out wr HBJ.out (at' + j) (by have := HT.out; omega)
                have hfi := HFI.out j hjt
                have hx := HFB.out
                have y1 : (0 : Int) ≤ (at' : Int) + (j : Int) := by omega
                have y2 : (at' : Int) + (j : Int) < (zs.length : Int) := by have := HT.out; omega
                have y3 : IntKind.i64.wrap ((at' : Int) + (j : Int)) = (at' : Int) + (j : Int) := by rw [IntKind.wrap_i64]; omega
                rw [hfi] at hTk
                generalize zs[at' + j]?.getD 0 = x at *
                have HTk : Hid ((F.take j).map (Value.int .u8) ++ [Value.int .u8 x] = (F.take (j + 1)).map (Value.int .u8)) := hTk
                generalize (F.take j).map (Value.int .u8) = xs at hOwn HTk
                clear hTk hfi hx HO HO2
                go_wp2_with (at_builtin; refine wpList_append_own _ rfl _ _ 35 rfl w.heap.size 5 i0 (.int .u8 0) 1 1 Tryz.underlying35 hi hz0 hz1 hz2 rfl (by decide) _ _ _ rfl (hOwn.alloc _) ⟨wr.heap.size, 0, none⟩ 1 1 [.int .u8 x] rfl rfl (cell_one_new _ _ _) (one_u8 _) (by unfold maxLen; omega) (by omega) (by simp; omega) ?_; intro v' w' hown' hg' hx')
                go_roundw
                case rel => exact ⟨j + 1, by omega, by go_num, by unfold Hid; rw [← HTk.out]; exact hown', below_push HBJ.out hOwn hg'⟩
                case measure => simp [intOf]; omega
              · have d3 : decide ((j : Int) < (t : Int)) = false := by simp; omega
                have d4 : ¬ (j : Int) < (t : Int) := by omega
                rw [HFO.out j (by omega) hjl] at hTk
                have HTk : Hid ((F.take j).map (Value.int .u8) ++ [Value.int .u8 (128 + 63 * (k : Int))] = (F.take (j + 1)).map (Value.int .u8)) := hTk
                generalize (F.take j).map (Value.int .u8) = xs at hOwn HTk
                clear hTk HO HO2
                go_wp2_with (at_builtin; refine wpList_append_own _ rfl _ _ 35 rfl w.heap.size 5 i0 (.int .u8 0) 1 1 Tryz.underlying35 hi hz0 hz1 hz2 rfl (by decide) _ _ _ rfl (hOwn.alloc _) ⟨wr.heap.size, 0, none⟩ 1 1 [.int .u8 (128 + 63 * (k : Int))] rfl rfl (cell_one_new _ _ _) (one_u8 _) (by unfold maxLen; omega) (by omega) (by simp; omega) ?_; intro v' w' hown' hg' hx')
                go_roundw
                case rel => exact ⟨j + 1, by omega, by go_num, by unfold Hid; rw [← HTk.out]; exact hown', below_push HBJ.out hOwn hg'⟩
                case measure => simp [intOf]; omega
            · obtain rfl : j = m := by omega
              have HRF : Hid (Rd .u8 wr u8 F) := by
                have := HO.out
                rw [List.take_of_length_le (by rw [HFL.out]; omega)] at this
                exact Rd.of_own this
              obtain ⟨dl, el, hfm⟩ : ∃ ao cap, u8 = .slice ao F.length cap := by obtain ⟨ao, cap, hv, _⟩ := HRF.out; exact ⟨ao, cap, hv⟩
              subst hfm
              clear HO
              go_wp2_with fail
              refine (eightAt_any _ F 0 _ HRF.out HFB.out (by rw [HFL.out]; omega) (by rw [HFL.out]; omega)).mono ?_
              rintro e w2 ⟨rfl, hb2⟩
              have HW2 : Hid (Below w.heap.size w w2) := ext_trans HBJ.out hb2
              rw [List.drop_zero]
              clear hb2 HBJ
              by_cases hs : (Cx.first8 F).2 = j
              · have HE : Hid (decide ((D.length : Int) < Cx.mtch D) = true) := decide_eq_true (HYES.out hs)
                rw [hs]
                clear hs
                go_wp2_with fail
                go_ret
                exact ⟨ret_bool HE.out.symm, HW2.out⟩
              · have HE : Hid (∀ k' : Nat, k' < k + 1 → (Cx.first8 (Cx.fillUp D j k')).2 ≠ j) := HNO.out hs
                generalize (Cx.first8 F).2 = y at *
                generalize (Cx.first8 F).1 = y1 at *
                have hs1 : (y == (j : Int)) = false := by simpa using hs
                go_wp2_with fail
                go_roundw
                case rel => exact ⟨k + 1, by omega, by go_num, HE.out, HW2.out⟩
                case measure => simp [intOf]; omega
        · have hk : k = 2 := by omega
          have HE : Hid (∀ m' k' : Nat, t < m' → m' < m + 1 → k' < 2 → (Cx.first8 (Cx.fillUp D m' k')).2 ≠ m') := fun m' k' h1 h2 h3 => by
            by_cases e : m' = m
            · subst e; exact HK.out k' (by omega)
            · exact HM.out m' k' h1 (by omega) h3
          have hd1 : decide ((k : Int) < 2) = false := by simp; omega
          clear HK HM
          go_wp2_with fail
          go_roundw
          case rel => exact ⟨m + 1, by omega, by omega, by go_num, HE.out, HBK.out⟩
          case measure => simp [intOf]; omega
    · have hd0 : decide ((m : Int) ≤ 4) = false := by simp; omega
      have HE : Hid (decide ((D.length : Int) < Cx.mtch D) = false) := by
        refine decide_eq_false fun h => ?_
        obtain ⟨n, k, h1, h2, h3, h4⟩ := HBG.out.2 h
        have e1 := HDL.out
        have e2 := HT.out
        exact HM.out n k (by omega) (by omega) h3 h4
      clear HM
      go_wp2_with fail
      go_ret
      exact ⟨ret_bool HE.out.symm, HBW.out⟩
end Go.Proofs.YtmfbobibpebfnaaGreat

/- waits, of the three coders. -/
namespace Go.Proofs.YtmfbobibpebfnaaGreat
open Go.RowKit

def Cx.wtW (k : Int) (b : List Int) : Bool := decide (b.length = 1) || (decide (b.length < 4) && Cx.hiU (Cx.wv k b))
/-- May bytes to come change how the first atom is read? -/
def Cx.wt (enc : Int) (b : List Int) : Bool := if enc = 1 then decide ((b.length : Int) < Cx.mtch b) else if enc = 2 then Cx.wtW 0 b else if enc = 3 then Cx.wtW 1 b else false

theorem m_waits1 (w : World) : (method 229 76 (.agg #[]) "copyist/codec.waits").run Tryz.prog w = .ok (97, .agg #[]) w := by kernel_rfl
theorem m_waits2 (k : Int) (w : World) : (method 229 78 (.agg #[.int .i64 k]) "copyist/codec.waits").run Tryz.prog w = .ok (107, .agg #[.int .i64 k]) w := by kernel_rfl
theorem m_waits4 (w : World) : (method 229 79 (.agg #[]) "copyist/codec.waits").run Tryz.prog w = .ok (119, .agg #[]) w := by kernel_rfl

theorem nwaits_any (v : Value) (zs : List Int) (w : World) (h : Rd .u8 w v zs) (hb : Byt zs) (hn : zs ≠ []) :
    Calls Tryz.prog 97 #[.agg #[], v] w fun e w' => e = .returned (.bool (Cx.wt 1 zs)) ∧ Below w.heap.size w w' := by
  obtain ⟨ao, cap, rfl, _⟩ := id h
  have hlen := h.len
  have HM : Hid (∀ w', Below w.heap.size w w' → Calls Tryz.prog 73 #[.slice ao zs.length cap] w' fun e w'' => e = .returned (.int .i64 (Cx.mtch zs)) ∧ w'' = w') := fun w' hbw => match_any _ zs w' (h.ext hbw) hb hn
  have HE : Hid (Cx.wt 1 zs = decide ((zs.length : Int) < Cx.mtch zs)) := rfl
  generalize Cx.mtch zs = m at *
  clear h hb hn
  go_enter Tryz.func97, Tryz.ntmps97
  go_wp2_with fail
  refine (HM.out _ (ext_alloc (Below.refl _ _) _)).mono ?_
  rintro e w1 ⟨rfl, rfl⟩
  go_wp2_with fail
  go_ret
  exact ⟨ret_bool HE.out.symm, ext_alloc (Below.refl _ _) _⟩

set_option maxRecDepth 100000 in
theorem wwaits_any (k : Int) (v : Value) (zs : List Int) (w : World) (h : Rd .u8 w v zs) (hb : Byt zs) (hk : k = 0 ∨ k = 1) (hn : zs ≠ []) :
    Calls Tryz.prog 107 #[.agg #[.int .i64 k], v] w fun e w' => e = .returned (.bool (Cx.wtW k zs)) ∧ Below w.heap.size w w' := by
  have hlen := h.len
  have hpos : 0 < zs.length := List.length_pos_iff.2 hn
  have HR : Hid (Rd .u8 w v zs) := h
  have HB : Hid (Byt zs) := hb
  have HK : Hid (k = 0 ∨ k = 1) := hk
  obtain ⟨ao, cap, rfl, _⟩ := id h
  clear h hb hk hn
  by_cases h1 : zs.length = 1
  · have HE : Hid (Cx.wtW k zs = true) := by unfold Hid Cx.wtW; rw [decide_eq_true h1]; rfl
    have b1 : ((zs.length : Int) == 1) = true := by simp; omega
    go_enter Tryz.func107, Tryz.ntmps107
    go_wp2_with fail
    go_ret
    exact ⟨ret_bool HE.out.symm, ext_alloc (Below.refl _ _) _⟩
  have b1 : ((zs.length : Int) == 1) = false := by simp; omega
  by_cases h4 : zs.length < 4
  · have HE : Hid (Cx.wtW k zs = Cx.hiU (Cx.wv k zs)) := by unfold Hid Cx.wtW; rw [decide_eq_false h1, decide_eq_true h4]; rfl
    have h4' : (zs.length : Int) < 4 := by omega
    have HU : Hid (∀ w', Below w.heap.size w w' → Calls Tryz.prog 110 #[.agg #[.int .i64 k], .slice ao zs.length cap] w' fun e w'' => e = .returned (.int .i64 (Cx.wv k zs)) ∧ ∃ n, w'' = (w'.alloc (.cells #[.int .i64 k] 78)).drewN n) := fun w' hbw => unitW_any k _ zs w' (HR.out.ext hbw) HB.out HK.out (by omega)
    generalize Cx.wv k zs = u at *
    go_enter Tryz.func107, Tryz.ntmps107
    go_wp2_with fail
    refine (HU.out _ (ext_alloc (Below.refl _ _) _)).mono ?_
    rintro e w1 ⟨rfl, n, rfl⟩
    go_wp2_with fail
    refine (isHigh_any _ _).mono ?_
    rintro e w2 ⟨rfl, rfl⟩
    go_wp2_with fail
    go_ret
    exact ⟨ret_bool HE.out.symm, by repeat (first | exact Below.refl _ _ | apply below_drewN | refine ext_alloc ?_ _ | apply Below.drew)⟩
  · have HE : Hid (Cx.wtW k zs = false) := by unfold Hid Cx.wtW; rw [decide_eq_false h1, decide_eq_false h4]; rfl
    have h4' : ¬ (zs.length : Int) < 4 := by omega
    go_enter Tryz.func107, Tryz.ntmps107
    go_wp2_with fail
    go_ret
    exact ⟨ret_bool HE.out.symm, ext_alloc (Below.refl _ _) _⟩

theorem lwaits_any (v : Value) (w : World) : Calls Tryz.prog 119 #[.agg #[], v] w fun e w' => e = .returned (.bool false) ∧ Below w.heap.size w w' := by
  go_enter Tryz.func119, Tryz.ntmps119
  go_wp2_with fail
  go_ret
  exact ⟨rfl, ext_alloc (Below.refl _ _) _⟩
end Go.Proofs.YtmfbobibpebfnaaGreat

/- Bytes in parts: what waits, what is told. No Go in sight. -/
namespace Go.Proofs.YtmfbobibpebfnaaGreat

theorem Cx.c0_app (b d : List Int) (hn : b ≠ []) : Cx.c0 (b ++ d) = Cx.c0 b := by
  unfold Cx.c0
  rw [List.getElem?_append_left (List.length_pos_iff.2 hn)]
theorem Cx.at_app (b d : List Int) (j : Nat) (h : j < b.length) : (b ++ d)[j]?.getD 0 = b[j]?.getD 0 := by rw [List.getElem?_append_left h]

theorem Cx.mtch_app (b d : List Int) (hn : b ≠ []) (h : Cx.mtch b ≤ b.length) : Cx.mtch (b ++ d) = Cx.mtch b := by
  have hc := Cx.c0_app b d hn
  have hlen : (b ++ d).length = b.length + d.length := List.length_append
  have hN := Cx.rowN_bd (Cx.c0 b)
  by_cases hok : Cx.okAll b = true
  · have hm : Cx.mtch b = Cx.rowN (Cx.c0 b) := by unfold Cx.mtch; rw [if_pos hok]
    rw [hm] at h ⊢
    have e : ∀ j : Nat, (j : Int) < Cx.rowN (Cx.c0 b) → Cx.okAt (b ++ d) j = Cx.okAt b j := by
      intro j hj
      have hjl : j < b.length := by omega
      unfold Cx.okAt
      rw [hc, Cx.at_app b d j hjl, decide_eq_false (show ¬ b.length ≤ j by omega), decide_eq_false (show ¬ (b ++ d).length ≤ j by omega)]
    have hok2 : Cx.okAll (b ++ d) = true := by
      unfold Cx.okAll at hok ⊢
      rw [hc]
      simp only [Bool.and_eq_true, Bool.or_eq_true, decide_eq_true_eq] at hok ⊢
      obtain ⟨⟨h1, h2⟩, h3⟩ := hok
      refine ⟨⟨?_, ?_⟩, ?_⟩
      · rcases h1 with h1 | h1
        · exact .inl h1
        · by_cases h' : Cx.rowN (Cx.c0 b) < 2
          · exact .inl h'
          · exact .inr (by rw [e 1 (by omega)]; exact h1)
      · rcases h2 with h1 | h1
        · exact .inl h1
        · by_cases h' : Cx.rowN (Cx.c0 b) < 3
          · exact .inl h'
          · exact .inr (by rw [e 2 (by omega)]; exact h1)
      · rcases h3 with h1 | h1
        · exact .inl h1
        · by_cases h' : Cx.rowN (Cx.c0 b) < 4
          · exact .inl h'
          · exact .inr (by rw [e 3 (by omega)]; exact h1)
    unfold Cx.mtch
    rw [if_pos hok2, hc]
  · have hm : Cx.mtch b = 0 := by unfold Cx.mtch; rw [if_neg hok]
    rw [hm]
    have hno : Cx.okAll (b ++ d) ≠ true := by
      intro h2
      apply hok
      have e : ∀ j : Nat, Cx.okAt (b ++ d) j = true → Cx.okAt b j = true := by
        intro j hj
        by_cases hjl : j < b.length
        · unfold Cx.okAt at hj ⊢
          rw [hc, Cx.at_app b d j hjl, decide_eq_false (show ¬ (b ++ d).length ≤ j by omega)] at hj
          rw [decide_eq_false (show ¬ b.length ≤ j by omega)]
          exact hj
        · unfold Cx.okAt
          rw [decide_eq_true (show b.length ≤ j by omega)]
          rfl
      unfold Cx.okAll at h2 ⊢
      rw [hc] at h2
      simp only [Bool.and_eq_true, Bool.or_eq_true, decide_eq_true_eq] at h2 ⊢
      exact ⟨⟨h2.1.1.imp id (e 1), h2.1.2.imp id (e 2)⟩, h2.2.imp id (e 3)⟩
    unfold Cx.mtch
    rw [if_neg hno]

theorem Cx.wv_app (k : Int) (b d : List Int) (h : 2 ≤ b.length) : Cx.wv k (b ++ d) = Cx.wv k b := by
  unfold Cx.wv
  rw [Cx.at_app b d 0 (by omega), Cx.at_app b d 1 (by omega)]

theorem Cx.first16_app (k : Int) (b d : List Int) (hn : b ≠ []) (h : Cx.wtW k b = false) : Cx.first16 k (b ++ d) = Cx.first16 k b := by
  have hp : 0 < b.length := List.length_pos_iff.2 hn
  have hlen : (b ++ d).length = b.length + d.length := List.length_append
  unfold Cx.wtW at h
  simp only [Bool.or_eq_false_iff, Bool.and_eq_false_iff, decide_eq_false_iff_not] at h
  obtain ⟨h1, h2⟩ := h
  have hw := Cx.wv_app k b d (by omega)
  unfold Cx.first16
  rw [if_neg h1, if_neg (by omega : ¬ (b ++ d).length = 1)]
  by_cases h4 : b.length < 4
  · have hu : Cx.hiU (Cx.wv k b) = false := by
      rcases h2 with h2 | h2
      · omega
      · exact h2
    have e1 : Cx.isP k (b ++ d) = false := by unfold Cx.isP; rw [hw, hu]; simp
    have e2 : Cx.isP k b = false := by unfold Cx.isP; rw [hu]; simp
    rw [e1, e2, hw]
    simp only [Bool.false_eq_true, if_false]
  · have hd : Cx.wv k ((b ++ d).drop 2) = Cx.wv k (b.drop 2) := by
      rw [List.drop_append_of_le_length (by omega)]
      exact Cx.wv_app k (b.drop 2) d (by rw [List.length_drop]; omega)
    have e1 : Cx.isP k (b ++ d) = Cx.isP k b := by
      unfold Cx.isP
      rw [hw, hd, decide_eq_true (show 4 ≤ b.length by omega), decide_eq_true (show 4 ≤ (b ++ d).length by omega)]
    rw [e1, hw]
    unfold Cx.pairV
    rw [hw, hd]

/-- What does not wait is not changed by bytes to come. -/
theorem Cx.fst_app (enc : Int) (b d : List Int) (hn : b ≠ []) (h : Cx.wt enc b = false) : Cx.fst enc (b ++ d) = Cx.fst enc b := by
  unfold Cx.wt at h
  unfold Cx.fst
  split
  · rename_i h1
    rw [if_pos h1] at h
    have h' : Cx.mtch b ≤ b.length := by simpa using h
    have hm := Cx.mtch_app b d hn h'
    have hlen : (b ++ d).length = b.length + d.length := List.length_append
    unfold Cx.first8
    rw [hm, Cx.c0_app b d hn]
    by_cases h0 : 0 < Cx.mtch b
    · rw [if_pos ⟨h0, by omega⟩, if_pos ⟨h0, h'⟩, List.take_append_of_le_length (by omega)]
    · rw [if_neg (by omega), if_neg (by omega)]
  · rename_i h1
    rw [if_neg h1] at h
    split
    · rename_i h2
      rw [if_pos h2] at h
      exact Cx.first16_app 0 b d hn h
    · rename_i h2
      rw [if_neg h2] at h
      split
      · rename_i h3
        rw [if_pos h3] at h
        exact Cx.first16_app 1 b d hn h
      · rw [Cx.c0_app b d hn]

/-- What waits is short. -/
theorem Cx.wt_short (enc : Int) (b : List Int) (h : Cx.wt enc b = true) : b.length ≤ 3 := by
  unfold Cx.wt at h
  split at h
  · have := Cx.mtch_bd b
    simp at h
    omega
  · split at h
    · unfold Cx.wtW at h
      simp at h
      omega
    · split at h
      · unfold Cx.wtW at h
        simp at h
        omega
      · cases h

/-- Feed: the atoms that are certain, and what waits. -/
def Cx.fdF (enc : Int) : Nat → List Int → List Int × List Int
  | 0, b => ([], b)
  | f + 1, b => if b = [] then ([], b) else if Cx.wt enc b = true then ([], b) else ((Cx.fst enc b).1 :: (Cx.fdF enc f (b.drop (Cx.fst enc b).2.toNat)).1, (Cx.fdF enc f (b.drop (Cx.fst enc b).2.toNat)).2)
def Cx.fd (enc : Int) (b : List Int) : List Int × List Int := Cx.fdF enc b.length b

theorem Cx.fdF_more (enc : Int) : ∀ (f g : Nat) (b : List Int), b.length ≤ f → b.length ≤ g → Cx.fdF enc f b = Cx.fdF enc g b := by
  intro f
  induction f with
  | zero =>
    intro g b hf _
    have : b = [] := List.length_eq_zero_iff.1 (by omega)
    subst this
    cases g with
    | zero => rfl
    | succ g => simp [Cx.fdF]
  | succ f ih =>
    intro g b hf hg
    by_cases hn : b = []
    · subst hn
      cases g with
      | zero => simp [Cx.fdF]
      | succ g => simp [Cx.fdF]
    · have hp : 0 < b.length := List.length_pos_iff.2 hn
      have hb := Cx.fst_bd enc b hn
      cases g with
      | zero => omega
      | succ g =>
        simp only [Cx.fdF, if_neg hn]
        rw [ih g (b.drop (Cx.fst enc b).2.toNat) (by rw [List.length_drop]; omega) (by rw [List.length_drop]; omega)]

theorem Cx.fd_stop (enc : Int) (b : List Int) (h : b = [] ∨ Cx.wt enc b = true) : Cx.fd enc b = ([], b) := by
  unfold Cx.fd
  cases hl : b.length with
  | zero => rfl
  | succ n =>
    have hn : b ≠ [] := by intro h; subst h; simp at hl
    rcases h with h | h
    · exact absurd h hn
    · simp only [Cx.fdF, if_neg hn, if_pos h]
theorem Cx.fd_go (enc : Int) (b : List Int) (hn : b ≠ []) (h : Cx.wt enc b = false) (a : Int) (n : Nat) (hf : Cx.fst enc b = (a, (n : Int))) : Cx.fd enc b = (a :: (Cx.fd enc (b.drop n)).1, (Cx.fd enc (b.drop n)).2) := by
  have hp : 0 < b.length := List.length_pos_iff.2 hn
  have hb := Cx.fst_bd enc b hn
  rw [hf] at hb
  simp only at hb
  unfold Cx.fd
  cases hl : b.length with
  | zero => omega
  | succ m =>
    simp only [Cx.fdF, if_neg hn, h, Bool.false_eq_true, if_false, hf, Int.toNat_natCast]
    rw [Cx.fdF_more enc m (b.drop n).length (b.drop n) (by rw [List.length_drop]; omega) (Nat.le_refl _)]

/-- The law of parts: whatever comes behind, what was told is told, and what waits is read with what comes. -/
theorem Cx.fd_dec (enc : Int) : ∀ (f : Nat) (b : List Int), b.length ≤ f → (∀ d, Cx.dec enc (b ++ d) = (Cx.fd enc b).1 ++ Cx.dec enc ((Cx.fd enc b).2 ++ d)) ∧ (Cx.fd enc b).2.length ≤ 3 ∧ (Cx.fd enc b).2.length ≤ b.length ∧ (∃ n, (Cx.fd enc b).2 = b.drop n) ∧ (Cx.fd enc b).1.length + (Cx.fd enc b).2.length ≤ b.length := by
  intro f
  induction f with
  | zero =>
    intro b hf
    have : b = [] := List.length_eq_zero_iff.1 (by omega)
    subst this
    rw [Cx.fd_stop enc [] (.inl rfl)]
    exact ⟨fun d => rfl, by simp, by simp, ⟨0, rfl⟩, by simp⟩
  | succ f ih =>
    intro b hf
    by_cases hn : b = []
    · subst hn
      rw [Cx.fd_stop enc [] (.inl rfl)]
      exact ⟨fun d => rfl, by simp, by simp, ⟨0, rfl⟩, by simp⟩
    · cases hw : Cx.wt enc b with
      | true =>
        rw [Cx.fd_stop enc b (.inr hw)]
        exact ⟨fun d => rfl, Cx.wt_short enc b hw, Nat.le_refl _, ⟨0, rfl⟩, by simp⟩
      | false =>
        obtain ⟨a, n, hfst, hn1, hn2⟩ : ∃ (a : Int) (n : Nat), Cx.fst enc b = (a, (n : Int)) ∧ 1 ≤ n ∧ n ≤ b.length := by
          have := Cx.fst_bd enc b hn
          exact ⟨_, (Cx.fst enc b).2.toNat, Prod.ext rfl (by simp only; omega), by omega, by omega⟩
        have hl : (b.drop n).length = b.length - n := List.length_drop
        obtain ⟨i1, i2, i3, ⟨m, i4⟩, i5⟩ := ih (b.drop n) (by omega)
        rw [Cx.fd_go enc b hn hw a n hfst]
        simp only
        refine ⟨fun d => ?_, i2, by omega, ⟨n + m, by rw [i4, List.drop_drop]⟩, by simp only [List.length_cons]; omega⟩
        have hne : b ++ d ≠ [] := by simp [hn]
        rw [Cx.dec_cons enc (b ++ d) hne a n (by rw [Cx.fst_app enc b d hn hw, hfst]), List.drop_append_of_le_length hn2, i1 d]
        rfl
end Go.Proofs.YtmfbobibpebfnaaGreat
