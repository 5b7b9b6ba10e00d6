import Derived.Test.YtfdceljdhgbkcaaGreatDoorJ33
/- The document's prefixes, endsInNumber. -/
namespace Go.Proofs.YtfdceljdhgbkcaaGreatDoor
open Go.RowKit
theorem drop_at {zs : List Int} {p : Nat} (h : p < zs.length) : zs.drop p = (zs[p]?.getD 0) :: zs.drop (p + 1) := by
  rw [List.drop_eq_getElem_cons h, List.getElem?_eq_getElem h]
  rfl
def PrV (x : Int × Int × Bool × Bool) : Value := .tuple #[.int .i64 x.1, .int .i64 x.2.1, .bool x.2.2.1, .bool x.2.2.2]
set_option maxRecDepth 100000 in
set_option maxHeartbeats 8000000 in
theorem r_prefixes_any (v : Value) (zs : List Int) (w : World) (hz : RdS w v zs) (hzl : zs.length ≤ 1152921504606846976) : Calls Tryz.prog 45 #[v] w fun e w' => e = .returned (PrV (dPrf zs)) ∧ Below w.heap.size w w' := by
  generalize hX : dPrf zs = X
  obtain ⟨ao, cu, rfl, _⟩ := hz.len
  have HZ := hidIt hz
  have HX := hidIt hX
  clear hz hX
  go_enter Tryz.func45, Tryz.ntmps45
  go_wp2_with fail
  go_loopw [2, 3, 6] (fun rv cv iv wr => ∃ (p : Nat) (rg ct : Int), p ≤ zs.length ∧ iv = .int .i64 p ∧ rv = .int .i64 rg ∧ cv = .int .i64 ct ∧ 0 ≤ ct ∧ ct ≤ 9999 ∧ Hid (dP rg ct (zs.drop p) = X) ∧ Hid (Below w.heap.size w wr)) (fun _ _ iv _ => zs.length - (RowKit.intOf iv).toNat)
  case atStart => exact ⟨0, 0, 0, Nat.zero_le _, rfl, rfl, rfl, Int.le_refl _, by omega, by rw [List.drop_zero, ← dP_prf]; exact HX.out, Below.refl _ _⟩
  case round =>
    obtain ⟨p, rg, ct, hp, rfl, rfl, rfl, hc0, hc9, HD, HB⟩ := hrel
    by_cases hlt : p < zs.length
    · have hltI : (p : Int) < (zs.length : Int) := by omega
      obtain ⟨b, o, rfl, cp⟩ := rd_at (HZ.out.ext HB.out) hlt
      rw [drop_at hlt] at HD
      have HKK : Hid (∀ y, Below w.heap.size w y → y.cell? ⟨b, o + p, none⟩ = some (.int .i64 (zs[p]?.getD 0))) := fun y hy => by
        obtain ⟨b', o', e, h⟩ := rd_at (HZ.out.ext hy) hlt
        cases e
        exact h
      by_cases h34 : zs[p]?.getD 0 = 34
      · rw [h34] at cp HD
        by_cases hl : p + 1 = zs.length
        · have hlb : ((p : Int) + 1 == (zs.length : Int)) = true := by simp; omega
          have HXE : Hid (X = (rg, ct, false, true)) := by
            have := HD.out
            rw [List.drop_of_length_le (by omega), dP_open] at this
            exact this.symm
          clear h34 hl HKK
          go_wp2_with fail
          refine bodyPost_ret (v := .tuple #[.int .i64 rg, .int .i64 ct, .bool false, .bool true]) (by simp [results, Tryz.results45, go_sem]) rfl ⟨by rw [HXE.out]; rfl, HB.out⟩
        · have hlb : ((p : Int) + 1 == (zs.length : Int)) = false := by simp; omega
          have hlt2 : p + 1 < zs.length := by omega
          have hlt2I : (p : Int) + 1 < (zs.length : Int) := by omega
          obtain ⟨b', o', e', cq⟩ := rd_at (HZ.out.ext HB.out) hlt2
          cases e'
          rw [drop_at hlt2] at HD
          by_cases h0 : zs[p + 1]?.getD 0 = 0
          · rw [h0] at cq HD
            have HXE : Hid (X = (rg, ct, false, false)) := by
              have := HD.out
              rw [dP_zero] at this
              exact this.symm
            clear h34 hl HKK h0 hlt2
            go_wp2_with fail
            refine bodyPost_ret (v := .tuple #[.int .i64 rg, .int .i64 ct, .bool false, .bool false]) (by simp [results, Tryz.results45, go_sem]) rfl ⟨by rw [HXE.out]; rfl, HB.out⟩
          · have h0b : (zs[p + 1]?.getD 0 == 0) = false := by simpa using h0
            have HD2 : Hid (dP (zs[p + 1]?.getD 0) ct (zs.drop (p + 2)) = X) := by
              have := HD.out
              rw [dP_name _ _ _ _ h0] at this
              exact this
            generalize zs[p + 1]?.getD 0 = z1 at cq h0b HD2
            clear h34 hl HKK h0 HD
            go_wp2_with fail
            go_roundw
            case rel => exact ⟨p + 2, z1, ct, by omega, by go_num, rfl, rfl, hc0, hc9, HD2.out, HB.out⟩
            case measure => simp [RowKit.intOf]; omega
      · have h34b : (zs[p]?.getD 0 == 34) = false := by simpa using h34
        have HDG := hidIt (fun y => r_isDigit_any (zs[p]?.getD 0) y)
        by_cases hd : dDig (zs[p]?.getD 0) = false ∨ zs[p]?.getD 0 = 48
        · have HXE : Hid (X = (rg, ct, false, false)) := by
            have := HD.out
            rw [dP_else _ _ _ _ h34 hd] at this
            exact this.symm
          by_cases hdg : dDig (zs[p]?.getD 0) = true
          · have h48 : zs[p]?.getD 0 = 48 := by
              rcases hd with h | h
              · rw [hdg] at h; cases h
              · exact h
            rw [hdg] at HDG
            rw [h48] at cp HDG h34b
            clear h34 hd HKK hdg h48 HD
            go_wp2_with (go_at_call 46; refine (HDG.out _).mono ?_; rintro e y ⟨rfl, rfl⟩; (try dsimp only))
            refine bodyPost_ret (v := .tuple #[.int .i64 rg, .int .i64 ct, .bool false, .bool false]) (by simp [results, Tryz.results45, go_sem]) rfl ⟨by rw [HXE.out]; rfl, HB.out⟩
          · have hdf : dDig (zs[p]?.getD 0) = false := Bool.eq_false_iff.2 hdg
            rw [hdf] at HDG
            generalize zs[p]?.getD 0 = z0 at cp HDG h34b
            clear h34 hd HKK hdg hdf HD
            go_wp2_with (go_at_call 46; refine (HDG.out _).mono ?_; rintro e y ⟨rfl, rfl⟩; (try dsimp only))
            refine bodyPost_ret (v := .tuple #[.int .i64 rg, .int .i64 ct, .bool false, .bool false]) (by simp [results, Tryz.results45, go_sem]) rfl ⟨by rw [HXE.out]; rfl, HB.out⟩
        · have hdg : dDig (zs[p]?.getD 0) = true := by
            cases h : dDig (zs[p]?.getD 0) with
            | true => rfl
            | false => exact absurd (.inl h) hd
          have h48 : (zs[p]?.getD 0 == 48) = false := by simp; exact fun e => hd (.inr e)
          rw [dP_num _ _ _ _ h34 hd, ← drop_at hlt] at HD
          have HPD := hidIt hdg
          rw [hdg] at HDG
          generalize hz0 : zs[p]?.getD 0 = z0 at cp HDG h34b h48
          clear h34 hd hdg hz0
          go_upto_region 14 with (go_at_call 46; refine (HDG.out _).mono ?_; rintro e y ⟨rfl, rfl⟩; (try dsimp only))
          clear cp HDG HKK
          go_loopw [6, 8] (fun iv nv wq => ∃ (q : Nat) (n : Int), p ≤ q ∧ q ≤ zs.length ∧ iv = .int .i64 q ∧ nv = .int .i64 n ∧ 0 ≤ n ∧ n ≤ 9999 ∧ Hid (dNum 0 (zs.drop p) = dNum n (zs.drop q)) ∧ Hid (Below w.heap.size w wq)) (fun iv _ _ => zs.length - (RowKit.intOf iv).toNat)
          case atStart => exact ⟨p, 0, Nat.le_refl _, by omega, rfl, rfl, Int.le_refl _, by omega, rfl, HB.out⟩
          case round =>
            obtain ⟨q, n, hpq, hq, rfl, rfl, hn0, hn9, HN, HB2⟩ := hrel
            by_cases hql : q < zs.length
            · have hqI : (q : Int) < (zs.length : Int) := by omega
              obtain ⟨b', o', e', cq⟩ := rd_at (HZ.out.ext HB2.out) hql
              cases e'
              rw [drop_at hql] at HN
              have HDQ := hidIt (fun y => r_isDigit_any (zs[q]?.getD 0) y)
              by_cases hdq : dDig (zs[q]?.getD 0) = true
              · have hr := (dDig_iff _).1 hdq
                rw [dNum_cons hr] at HN
                rw [hdq] at HDQ
                generalize zs[q]?.getD 0 = z at cq hr HN HDQ
                obtain ⟨n2, hn2⟩ : ∃ n2, min 9999 (10 * n + z - 48) = n2 := ⟨_, rfl⟩
                have HN2 : Hid (0 ≤ n2 ∧ n2 ≤ 9999) := by unfold Hid; omega
                rw [hn2] at HN
                clear hdq
                go_wp2_with (go_at_call 46; refine (HDQ.out _).mono ?_; rintro e y ⟨rfl, rfl⟩; (try dsimp only))
                go_roundw
                case rel => exact ⟨q + 1, n2, by omega, by omega, by go_num, rfl, HN2.out.1, HN2.out.2, HN.out, HB2.out⟩
                case measure => simp [RowKit.intOf]; omega
              · have hdf : dDig (zs[q]?.getD 0) = false := Bool.eq_false_iff.2 hdq
                have HQP : Hid (p < q) := by
                  unfold Hid
                  by_cases e : p = q
                  · subst e; rw [HPD.out] at hdf; cases hdf
                  · omega
                rw [hdf] at HDQ
                have HDD : Hid (dP rg (dTms ct n) (zs.drop q) = X) := by
                  have h1 := HD.out
                  rw [HN.out, dNum, if_neg hdq, ← drop_at hql] at h1
                  exact h1
                have HTM := hidIt (fun y => r_times_any ct n y ⟨hc0, hc9⟩ ⟨hn0, hn9⟩)
                have HTR : Hid (0 ≤ dTms ct n ∧ dTms ct n ≤ 9999) := by
                  unfold Hid dTms
                  have := Int.mul_nonneg hc0 hn0
                  split <;> omega
                generalize dTms ct n = ct2 at HDD HTM HTR
                generalize zs[q]?.getD 0 = z at cq HDQ
                clear hdq hdf
                go_wp2_with (first | (go_at_call 46; refine (HDQ.out _).mono ?_; rintro e y ⟨rfl, rfl⟩; (try dsimp only)) | (go_at_call 64; refine (HTM.out _).mono ?_; rintro e y ⟨rfl, rfl⟩; (try dsimp only)))
                go_roundw
                case rel => exact ⟨q, rg, ct2, by omega, rfl, rfl, rfl, HTR.out.1, HTR.out.2, HDD.out, HB2.out⟩
                case measure => have := HQP.out; simp [RowKit.intOf]; omega
            · have hqI : ¬ (q : Int) < (zs.length : Int) := by omega
              have HDD : Hid (dP rg (dTms ct n) (zs.drop q) = X) := by
                have h1 := HD.out
                rw [HN.out, List.drop_of_length_le (by omega), dNum] at h1
                rw [List.drop_of_length_le (by omega)]
                exact h1
              have HTM := hidIt (fun y => r_times_any ct n y ⟨hc0, hc9⟩ ⟨hn0, hn9⟩)
              have HTR : Hid (0 ≤ dTms ct n ∧ dTms ct n ≤ 9999) := by
                unfold Hid dTms
                have := Int.mul_nonneg hc0 hn0
                split <;> omega
              generalize dTms ct n = ct2 at HDD HTM HTR
              go_wp2_with (go_at_call 64; refine (HTM.out _).mono ?_; rintro e y ⟨rfl, rfl⟩; (try dsimp only))
              go_roundw
              case rel => exact ⟨q, rg, ct2, by omega, rfl, rfl, rfl, HTR.out.1, HTR.out.2, HDD.out, HB2.out⟩
              case measure => simp [RowKit.intOf]; omega
    · have hltI : ¬ (p : Int) < (zs.length : Int) := by omega
      have HXE : Hid (X = (rg, ct, true, false)) := by
        have := HD.out
        rw [List.drop_of_length_le (by omega), dP_nil] at this
        exact this.symm
      go_wp2_with fail
      refine bodyPost_ret (v := .tuple #[.int .i64 rg, .int .i64 ct, .bool true, .bool false]) (by simp [results, Tryz.results45, go_sem]) rfl ⟨by rw [HXE.out]; rfl, HB.out⟩
theorem RdS.upto {w : World} {ao : Option Addr} {c : Nat} {zs : List Int} (h : RdS w (.slice ao zs.length c) zs) {k : Nat} (hk : k ≤ zs.length) : RdS w (.slice ao k c) (zs.take k) := by
  obtain ⟨⟨ao', cap', e, g1, g2, g3⟩, hs⟩ := h
  injection e with e1 e2 e3
  subst e1 e3
  have hl : (zs.take k).length = k := by rw [List.length_take]; omega
  refine ⟨⟨ao, c, by rw [hl], by omega, g2, fun hn => ?_⟩, ?_⟩
  · obtain ⟨b, off, e4, h1, h2⟩ := g3 (fun e => hn (by rw [e]; simp))
    refine ⟨b, off, e4, h1, fun i hi => ?_⟩
    rw [hl] at hi
    rw [h2 i (by omega), List.getElem?_take, if_pos hi]
  · rcases hs with e | ⟨a, n, c', e⟩
    · injection e with e5 e6 e7
      have : k = 0 := by omega
      subst this
      exact .inl (by rw [e5, e7])
    · injection e with e5 e6 e7
      exact .inr ⟨a, k, c, by rw [e5]⟩
set_option maxRecDepth 100000 in
set_option maxHeartbeats 2000000 in
theorem r_endsIn_any (v : Value) (zs : List Int) (w : World) (hz : RdS w v zs) (hzl : zs.length ≤ 1152921504606846976) (hne : zs ≠ []) : Calls Tryz.prog 47 #[v] w fun e w' => e = .returned (.bool (dEnd zs)) ∧ Below w.heap.size w w' := by
  obtain ⟨ao, cu, rfl, _⟩ := hz.len
  have hpos := List.length_pos_iff.2 hne
  obtain ⟨n, hn⟩ : ∃ n, zs.length = n + 1 := ⟨zs.length - 1, by omega⟩
  have hcap : zs.length ≤ cu := by
    obtain ⟨⟨ao', cap', e, g1, _⟩, _⟩ := hz
    injection e with _ e2 e3
    omega
  obtain ⟨b, o, rfl, c0⟩ := rd_at hz (k := n) (by omega)
  have hlast : zs[n]?.getD 0 = zs.getLastD 0 := by rw [List.getLastD_eq_getLast?, List.getLast?_eq_getElem?, hn, Nat.add_sub_cancel]
  have hdl : zs.take n = zs.dropLast := by rw [List.dropLast_eq_take, hn, Nat.add_sub_cancel]
  have HU := hidIt (hz.upto (k := n) (by omega))
  rw [hdl] at HU
  rw [hlast] at c0
  have HDL : Hid (zs.dropLast.length ≤ 1152921504606846976) := by unfold Hid; rw [List.length_dropLast]; omega
  have HE : Hid (dEnd zs = (dDig (zs.getLastD 0) && (dPrf zs.dropLast).2.2.1)) := rfl
  have HDG := hidIt (fun y => r_isDigit_any (zs.getLastD 0) y)
  have HPX := hidIt (fun (y : World) (hy : Below w.heap.size w y) => r_prefixes_any _ zs.dropLast y (HU.out.ext hy) HDL.out)
  rw [hn] at hcap ⊢
  generalize dPrf zs.dropLast = P at HE HPX
  generalize dEnd zs = E at HE ⊢
  generalize zs.getLastD 0 = z at HE HDG c0
  clear hz hlast hdl hne hpos
  have hni : (n : Int) + 1 ≤ 1152921504606846976 := by omega
  clear hn hzl HU HDL
  obtain ⟨p1, p2, p3, p4⟩ := P
  cases hd : dDig z with
  | true =>
    rw [hd] at HE HDG
    clear hd
    go_enter Tryz.func47, Tryz.ntmps47
    go_wp2_with (first | (go_at_call 46; refine (HDG.out _).mono ?_; rintro e y ⟨rfl, rfl⟩; (try dsimp only)) | (go_at_call 45; refine (HPX.out _ (Below.refl _ _)).mono ?_; rintro e y ⟨rfl, hb⟩; unfold PrV; (try dsimp only); have HBY := hidIt hb; clear hb))
    go_ret
    exact ⟨by rw [HE.out]; rfl, HBY.out⟩
  | false =>
    rw [hd] at HE HDG
    clear hd
    go_enter Tryz.func47, Tryz.ntmps47
    go_wp2_with (go_at_call 46; refine (HDG.out _).mono ?_; rintro e y ⟨rfl, rfl⟩; (try dsimp only))
    go_ret
    exact ⟨by rw [HE.out]; rfl, Below.refl _ _⟩
end Go.Proofs.YtfdceljdhgbkcaaGreatDoor
