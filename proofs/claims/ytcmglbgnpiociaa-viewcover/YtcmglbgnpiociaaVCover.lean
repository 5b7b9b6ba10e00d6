/- ViewCover: the walk. -/
import Derived.Test.YtcmglbgnpiociaaVCov
import Derived.Test.YtcmglbgnpiociaaVBrk
import Derived.Test.YtcmglbgnpiociaaVSeen
namespace Go.Proofs.Ytcmglbgnpiociaa
open Go.RowKit
attribute [local go_sem] Vw.mx_go Vw.mn_go

theorem rd_form {w : World} {v : Value} {zs : List Int} (h : Rd .i64 w v zs) : ∃ ao cap, v = .slice ao zs.length cap := by
  obtain ⟨ao, cap, hv, _⟩ := h
  exact ⟨ao, cap, hv⟩

set_option maxRecDepth 100000 in
set_option maxHeartbeats 8000000 in
theorem cover_any (v : Value) (zs : List Int) (w : World) (hr : RdS w v zs) (hz : zs.length * 8 ≤ 140737488351232) : Calls Try.prog 5 #[v] w fun e w' => e = .returned (.bool true) ∧ Below w.heap.size w w' := by
  have HR := hidIt hr
  have AB := hidIt (able_any w)
  obtain ⟨ao, cap, rfl⟩ := rd_form hr.1
  clear hr
  go_enter Try.func5, Try.ntmps5
  go_wp2_with (first | (go_at_call 9; refine AB.out.mono ?_; rintro e w1 ⟨rfl, hb1⟩; have HB1 := hidIt hb1; clear hb1) | (at_builtin; refine wpl_ints rfl _ _ 29 rfl w1.heap.size Try.info_i64 Try.underlying29 (.slice none 0 0) [] rfl ⟨rfl, .inl ⟨rfl, rfl⟩⟩ (.slice ao zs.length cap) zs rfl (HR.out.ext HB1.out) (by simp; omega) (Nat.le_refl _) ?_; intro u w2 hu hb2; have HU := hidIt hu; have HB2 := hidIt hb2; obtain ⟨uo, uc, rfl⟩ := rd_form hu.rd; clear hu hb2))
  rw [List.nil_append] at HU
  have HRU := hidIt HU.out.rd
  have hz2 : zs.length ≤ 140737488355328 := by omega
  refine (Breaks_any _ zs w2 HRU.out (by omega)).mono ?_
  rintro e w3 ⟨bv, rfl, hbo, hb3⟩
  have HB3 := hidIt hb3
  have HBO := hidIt hbo
  obtain ⟨bo, bc, rfl⟩ := rd_form hbo.rd
  have HW3 := hidIt (ext_trans (ext_trans HB1.out HB2.out) HB3.out)
  have CE : Hid (∀ a w', Below w3.heap.size w3 w' → Calls Try.prog 14 #[.slice uo zs.length uc, .int .i64 a] w' fun e w'' => e = .returned (.int .i64 (Vw.cell zs a : Nat)) ∧ Below w'.heap.size w' w'') := fun a w' hb => P.Cell_any _ zs a w' (HRU.out.ext (ext_trans HB3.out hb)) hz2
  have AT : Hid (∀ a w', Below w3.heap.size w3 w' → Calls Try.prog 15 #[.slice uo zs.length uc, .int .i64 a] w' fun e w'' => e = .returned (.int .i64 (Vw.at zs a : Nat)) ∧ Below w'.heap.size w' w'') := fun a w' hb => P.At_any _ zs a w' (HRU.out.ext (ext_trans HB3.out hb)) hz2
  have HRL := hidIt (HR.out.1.ext HW3.out)
  have hbl : (Cl.bi zs).length = (Cl.bs zs).length := by unfold Cl.bi; rw [List.length_map]
  have hb1 : 1 ≤ (Cl.bs zs).length := by have := (List.getElem?_eq_some_iff.1 (Cl.bs_zero zs)).1; omega
  have hbz := Cl.bi_le zs
  rw [hbl] at hbz
  rw [hbl]
  obtain ⟨bg, bf, bcp, hbv, _, hbcm, hbg, hcc⟩ := hbo.rd.at (by rw [hbl]; omega)
  simp only [Value.slice.injEq, true_and] at hbv
  obtain ⟨rfl, rfl⟩ := hbv
  have HBC : Hid (∀ i p, (Cl.bs zs)[i]? = some p → w3.cell? ⟨bg, bf + i, none⟩ = some (.int .i64 (p : Nat))) := fun i p hp => by
    have hil := (List.getElem?_eq_some_iff.1 hp).1
    rw [hcc i (by rw [hbl]; exact hil)]
    unfold Cl.at
    rw [Cl.bi_get, hp]
    rfl
  clear hcc
  have HD0 := hidIt (Vw.dec_zero zs)
  have c00 : Vw.cell zs 0 = 0 := HD0.out.cell 0 (by omega) (fun h => by have := (Vw.up_gt zs 0 h).1; omega)
  have c03 : Vw.cell zs (-3) = 0 := Vw.cell_neg zs _ (by omega)
  have a01 : Vw.at zs (-1) = 0 := Vw.at_neg zs _ (by omega)
  have hn0 : (((Cl.bs zs).length : Int) == 0) = false := by rw [beq_eq_false_iff_ne]; omega
  clear hbo hb3 hbl
  have D1 := hidIt (CE.out 0)
  have D2 := hidIt (CE.out (-3))
  have D3 := hidIt (AT.out (-1))
  rw [c00] at D1
  rw [c03] at D2
  rw [a01] at D3
  go_wp2_with fail
  refine (D1.out _ (Below.refl _ _)).mono ?_
  rintro e w4 ⟨rfl, hb4⟩
  have HB4 := hidIt hb4
  clear hb4 D1
  go_wp2_with fail
  refine (D2.out _ HB4.out).mono ?_
  rintro e w5 ⟨rfl, hb5⟩
  have HB5 := hidIt (ext_trans HB4.out hb5)
  clear hb5 D2
  go_wp2_with fail
  refine (D3.out _ HB5.out).mono ?_
  rintro e w6 ⟨rfl, hb6⟩
  have HB6 := hidIt (ext_trans HB5.out hb6)
  clear hb6 D3 c00 c03 a01
  go_wp2_with fail
  obtain ⟨nb, hnb⟩ : ∃ nb, nb = (Cl.bs zs).length := ⟨_, rfl⟩
  rw [← hnb] at hn0 hb1 hbz ⊢
  have HNB := hidIt hnb
  clear hnb
  go_loopw [5] (fun i wr => ∃ k : Nat, k + 1 ≤ nb ∧ i = .int .i64 k ∧ Below w3.heap.size w3 wr) (fun i _ => nb - (intOf i).toNat)
  case atStart => exact ⟨0, by omega, rfl, HB6.out⟩
  case round =>
    obtain ⟨j, hj, rfl, hbw⟩ := hrel
    have HBW := hidIt hbw
    clear hbw
    by_cases hlt : j + 1 < nb
    · obtain ⟨p, hp⟩ : ∃ p, (Cl.bs zs)[j]? = some p := ⟨_, List.getElem?_eq_getElem (by rw [← HNB.out]; omega)⟩
      obtain ⟨hpl, hpn, _⟩ := Cl.bs_next zs j p hp (by rw [← HNB.out]; exact hlt)
      obtain ⟨c, pre, hdec⟩ := Vw.dec_at zs j p hp
      have hu := Vw.up_gt zs p hpl
      have k1 := (HBW.out.cell (p := ⟨bg, bf + j, none⟩) hbg).trans (HBC.out j p hp)
      have k2 := (HBW.out.cell (p := ⟨bg, bf + (j + 1), none⟩) hbg).trans (HBC.out (j + 1) _ hpn)
      obtain ⟨E, hE⟩ : ∃ E, E = Cl.up zs (p + 1) := ⟨_, rfl⟩
      obtain ⟨D, hD⟩ : ∃ D, D = Vw.wd (Vw.clu zs p) c := ⟨_, rfl⟩
      have hcl := Vw.clu_len zs p hpl
      have hwd := Vw.clu_wd zs p c hpl
      have hcp := hdec.cp
      have q1 := hdec.cell (p : Int) (by omega) (fun _ => by omega)
      have q2 := (hdec.next hpl).cell ((Cl.up zs (p + 1) : Nat) : Int) (by omega) (fun h => by have := (Vw.up_gt zs _ h).1; omega)
      have q3 := hdec.cell (((Cl.up zs (p + 1) : Nat) : Int) - 1) (by omega) (fun _ => by omega)
      have HAT := hidIt (fun k h1 h2 => hdec.at hpl k h1 h2)
      have HSW : Hid (∀ k, p ≤ k → k < E → Vw.sw ((Vw.clu zs p).take (k + 1 - p)) = Vw.sw ((Vw.clu zs p).take (k - p)) + (Gx.wid (Cl.at zs k)).toNat) := fun k h1 h2 => by
        rw [show k + 1 - p = k - p + 1 by omega, Vw.sw_take _ _ (by rw [hcl, ← hE]; omega)]
        congr 3
        unfold Vw.clu Cl.at
        rw [List.getElem?_take, if_pos (by rw [← hE]; omega), List.getElem?_drop, show p + (k - p) = k by omega]
      have HWD : Hid (D = if (Vw.clu zs p).length = 1 then (if Cl.at zs p = 9 then 8 - c % 8 else (Gx.wid (Cl.at zs p)).toNat) else min (Vw.sw (Vw.clu zs p)) 2) := by
        unfold Hid
        rw [hD]
        unfold Vw.wd
        have e : Cl.at (Vw.clu zs p) 0 = Cl.at zs p := by
          unfold Vw.clu Cl.at
          rw [List.getElem?_take, if_pos (by omega), List.getElem?_drop, Nat.add_zero]
        rw [e]
      rw [← hE] at k2 hu hcl hwd q2 q3
      rw [← hD] at hwd q2 HAT
      generalize hX : Vw.clu zs p = X at *
      obtain ⟨hu1, hu2, _⟩ := hu
      have C1 := hidIt (CE.out (p : Int))
      have C2 := hidIt (CE.out (E : Int))
      have C3 := hidIt (CE.out ((E : Int) - 1))
      rw [q1] at C1
      rw [q2] at C2
      rw [q3] at C3
      have HAT' : Hid (∀ k : Nat, c ≤ k → k < c + D → Vw.at zs (k : Int) = p) := HAT.out
      obtain ⟨lb, lo, lcp, hlv, hl1, hl2, hlb, hlc⟩ := HRL.out.at (by omega)
      simp only [Value.slice.injEq, true_and] at hlv
      obtain ⟨rfl, rfl⟩ := hlv
      have HLC := hidIt hlc
      have j1 : (j : Int) + 1 < (nb : Int) := by omega
      have j2 : (j : Int) < (nb : Int) := by omega
      have wj : IntKind.i64.wrap ((j : Int) + 1) = (j : Int) + 1 := by rw [IntKind.wrap_i64]; omega
      have j3 : (0 : Int) ≤ (j : Int) + 1 := by omega
      have j4 : ((j : Int) + 1).toNat = j + 1 := by omega
      have j5 : (0 : Int) ≤ (j : Int) := by omega
      clear hdec hpn hp q1 q2 q3 HAT hX hE hD HD0 hlc
      have e1 : ¬ (p : Int) < 0 := by omega
      have e2 : ¬ (E : Int) ≤ (p : Int) := by omega
      have e3 : ¬ (zs.length : Int) < (E : Int) := by omega
      have e2' : ¬ E ≤ p := by omega
      have e3' : ¬ zs.length < E := by omega
      have e1' : ((p : Int) < 0) = False := by simp
      go_wp2_with fail
      go_region_held3 (fun w' => w'.cell? ⟨bg, bf + j, none⟩ = some (.int .i64 (p : Nat)) ∧ w'.cell? ⟨bg, bf + (j + 1), none⟩ = some (.int .i64 (E : Nat))) (go_keep) (fail)
      all_goals
        have HBR := hidIt HBW.out.drew
        clear k1 k2
        generalize World.drew wr = wd at *
        go_wp2_with fail
        go_loopg [8, 9] (E - p) (fun gi l i wr => ∃ k : Nat, p ≤ k ∧ k ≤ E ∧ gi = E - k ∧ i = .int .i64 k ∧ l = .int .i64 (Vw.sw (X.take (k - p)) : Nat) ∧ Below w3.heap.size w3 wr)
        case atStart => exact ⟨p, by omega, by omega, rfl, rfl, by rw [Nat.sub_self]; rfl, HBR.out⟩
        case round =>
          obtain ⟨k, hk1, hk2, hgi, rfl, rfl, hbq⟩ := hrel
          have HGI := hidIt hgi
          clear hgi
          have HBQ := hidIt hbq
          by_cases hkE : k < E
          · have hcm : wr.cell? ⟨lb, lo + k, none⟩ = some (.int .i64 (Cl.at zs k)) := (hbq.cell (p := ⟨lb, lo + k, none⟩) hlb).trans (HLC.out k (by omega))
            have HW := hidIt (Width_any (Cl.at zs k))
            have hwl := Gx.wid_le (Cl.at zs k)
            have HS : Hid (((Vw.sw (X.take (k - p)) : Nat) : Int) + Gx.wid (Cl.at zs k) = ((Vw.sw (X.take (k + 1 - p)) : Nat) : Int)) := by unfold Hid; rw [HSW.out k hk1 hkE]; omega
            have hsl := Vw.sw_le (X.take (k - p))
            rw [List.length_take] at hsl
            have hw : IntKind.i64.wrap (((Vw.sw (X.take (k - p)) : Nat) : Int) + Gx.wid (Cl.at zs k)) = ((Vw.sw (X.take (k - p)) : Nat) : Int) + Gx.wid (Cl.at zs k) := by rw [IntKind.wrap_i64]; omega
            have hk' : (k : Int) < (zs.length : Int) := by omega
            have hk0 : (0 : Int) ≤ (k : Int) := by omega
            have hkE' : (k : Int) < (E : Int) := by omega
            clear hbq hwl hsl
            generalize Cl.at zs k = x at *
            generalize Gx.wid x = y at *
            generalize Vw.sw (X.take (k - p)) = z at *
            go_wp2_with (go_at_call 16; refine (HW.out _).mono ?_; rintro e w9 ⟨rfl, hb9⟩)
            go_roundg (E - (k + 1))
            case measure => have := HGI.out; omega
            exact ⟨k + 1, by omega, by omega, rfl, by go_num, by rw [HS.out], ext_trans HBQ.out hb9⟩
          · have hke : k = E := by omega
            subst hke
            have hxx : X.take (k - p) = X := by rw [← hcl, List.take_length]
            rw [hxx]
            have HS1 : Hid (k = p + 1 → Vw.sw X = (Gx.wid (Cl.at zs p)).toNat) := fun h => by
              have h2 := HSW.out p (Nat.le_refl _) (by omega)
              rw [Nat.sub_self, List.take_zero] at h2
              have e : X.take (p + 1 - p) = X := by rw [← h, ← hcl, List.take_length]
              rw [e] at h2
              rw [h2]
              simp [Vw.sw]
            have hx0 : wr.cell? ⟨lb, lo + p, none⟩ = some (.int .i64 (Cl.at zs p)) := (hbq.cell (p := ⟨lb, lo + p, none⟩) hlb).trans (HLC.out p hpl)
            clear hbq hkE hxx HSW
            have wsub : IntKind.i64.wrap ((k : Int) - (p : Int)) = (k : Int) - (p : Int) := by rw [IntKind.wrap_i64]; omega
            have wE1 : IntKind.i64.wrap ((k : Int) - 1) = (k : Int) - 1 := by rw [IntKind.wrap_i64]; omega
            have wcD : IntKind.i64.wrap ((c : Int) + (D : Int)) = (c : Int) + (D : Int) := by rw [IntKind.wrap_i64]; omega
            have hkk : ¬ (k : Int) < (k : Int) := by omega
            go_wp2_with fail
            refine (C1.out _ HBQ.out).mono ?_
            rintro e v1 ⟨rfl, hv1⟩
            have HV1 := hidIt (ext_trans HBQ.out hv1)
            clear hv1 C1
            have hx1 : v1.cell? ⟨lb, lo + p, none⟩ = some (.int .i64 (Cl.at zs p)) := (HV1.out.cell (p := ⟨lb, lo + p, none⟩) hlb).trans (HLC.out p hpl)
            have hp0 : (0 : Int) ≤ (p : Int) := by omega
            have hpl' : (p : Int) < (zs.length : Int) := by omega
            have HSL := hidIt (Vw.sw_le X)
            by_cases hA : 1 < k - p
            · have hA' : (1 : Int) < (k : Int) - (p : Int) := by omega
              have hD : Vw.mn ((Vw.sw X : Nat) : Int) 2 = (D : Int) := by
                have h := HWD.out
                rw [if_neg (by omega)] at h
                unfold Vw.mn
                omega
              clear HWD HS1 hx0 hx1
              generalize Vw.sw X = S at *
              go_wp2_with fail
              refine (C2.out _ HV1.out).mono ?_
              rintro e v2 ⟨rfl, hv2⟩
              have HV2 := hidIt (ext_trans HV1.out hv2)
              clear hv2 C2 HV1
              go_wp2_with fail
              refine (C3.out _ HV2.out).mono ?_
              rintro e v3 ⟨rfl, hv3⟩
              have HV3 := hidIt (ext_trans HV2.out hv3)
              clear hv3 C3 HV2
              go_wp2_with fail
              go_loopg [11] D (fun gi i wr => ∃ q : Nat, c ≤ q ∧ q ≤ c + D ∧ gi = c + D - q ∧ i = .int .i64 q ∧ Below w3.heap.size w3 wr)
              case atStart => exact ⟨c, by omega, by omega, by omega, rfl, HV3.out⟩
              case round =>
                obtain ⟨q, hq1, hq2, hgi, rfl, hbz⟩ := hrel
                have HGJ := hidIt hgi
                have HBZ := hidIt hbz
                clear hgi hbz
                by_cases hqq : q < c + D
                · have A1 := hidIt (AT.out (q : Int) _ HBZ.out)
                  rw [HAT'.out q hq1 hqq] at A1
                  have hq' : (q : Int) < (c : Int) + (D : Int) := by omega
                  go_wp2_with fail
                  refine A1.out.mono ?_
                  rintro e v4 ⟨rfl, hv4⟩
                  have HV4 := hidIt (ext_trans HBZ.out hv4)
                  clear hv4 A1
                  go_wp2_with fail
                  go_roundg (c + D - (q + 1))
                  case measure => have := HGJ.out; omega
                  exact ⟨q + 1, by omega, by omega, rfl, by go_num, HV4.out⟩
                · have hq' : ¬ (q : Int) < (c : Int) + (D : Int) := by omega
                  have hq'' : ¬ q < c + D := hqq
                  clear hqq
                  go_wp2_with fail
                  go_roundw
                  case rel => exact ⟨j + 1, by omega, by go_num, HBZ.out⟩
                  case measure => simp [intOf]; omega
            · have hA' : ¬ (1 : Int) < (k : Int) - (p : Int) := by omega
              have hkp : k = p + 1 := by omega
              have h := HWD.out
              rw [if_pos (by omega)] at h
              have hS := HS1.out hkp
              clear HWD HS1 hx0 hkp
              by_cases h9 : Cl.at zs p = 9
              · rw [if_pos h9] at h
                rw [h9] at hx1
                have wm : IntKind.i64.wrap ((c : Int).tmod 8) = (c : Int).tmod 8 := by rw [IntKind.wrap_i64, Int.tmod_eq_emod_of_nonneg (by omega)]; omega
                have hD : IntKind.i64.wrap (8 - (c : Int).tmod 8) = (D : Int) := by rw [IntKind.wrap_i64, Int.tmod_eq_emod_of_nonneg (by omega)]; omega
                have hD2 : 8 - (c : Int) % 8 = (D : Int) := by omega
                clear h hS h9 HSL
                generalize Vw.sw X = S at *
                go_wp2_with fail
                refine (C2.out _ HV1.out).mono ?_
                rintro e v2 ⟨rfl, hv2⟩
                have HV2 := hidIt (ext_trans HV1.out hv2)
                clear hv2 C2 HV1
                go_wp2_with fail
                refine (C3.out _ HV2.out).mono ?_
                rintro e v3 ⟨rfl, hv3⟩
                have HV3 := hidIt (ext_trans HV2.out hv3)
                clear hv3 C3 HV2
                go_wp2_with fail
                go_loopg [11] D (fun gi i wr => ∃ q : Nat, c ≤ q ∧ q ≤ c + D ∧ gi = c + D - q ∧ i = .int .i64 q ∧ Below w3.heap.size w3 wr)
                case atStart => exact ⟨c, by omega, by omega, by omega, rfl, HV3.out⟩
                case round =>
                  obtain ⟨q, hq1, hq2, hgi, rfl, hbz⟩ := hrel
                  have HGJ := hidIt hgi
                  have HBZ := hidIt hbz
                  clear hgi hbz
                  by_cases hqq : q < c + D
                  · have A1 := hidIt (AT.out (q : Int) _ HBZ.out)
                    rw [HAT'.out q hq1 hqq] at A1
                    have hq' : (q : Int) < (c : Int) + (D : Int) := by omega
                    go_wp2_with fail
                    refine A1.out.mono ?_
                    rintro e v4 ⟨rfl, hv4⟩
                    have HV4 := hidIt (ext_trans HBZ.out hv4)
                    clear hv4 A1
                    go_wp2_with fail
                    go_roundg (c + D - (q + 1))
                    case measure => have := HGJ.out; omega
                    exact ⟨q + 1, by omega, by omega, rfl, by go_num, HV4.out⟩
                  · have hq' : ¬ (q : Int) < (c : Int) + (D : Int) := by omega
                    have hq'' : ¬ q < c + D := hqq
                    clear hqq
                    go_wp2_with fail
                    go_roundw
                    case rel => exact ⟨j + 1, by omega, by go_num, HBZ.out⟩
                    case measure => simp [intOf]; omega
              · rw [if_neg h9] at h
                have b9 : (Cl.at zs p == 9) = false := by simp [h9]
                rw [← hS] at h
                rw [← h]
                clear h hS h9
                generalize Cl.at zs p = x at *
                go_wp2_with fail
                refine (C2.out _ HV1.out).mono ?_
                rintro e v2 ⟨rfl, hv2⟩
                have HV2 := hidIt (ext_trans HV1.out hv2)
                clear hv2 C2 HV1
                go_wp2_with fail
                refine (C3.out _ HV2.out).mono ?_
                rintro e v3 ⟨rfl, hv3⟩
                have HV3 := hidIt (ext_trans HV2.out hv3)
                clear hv3 C3 HV2
                go_wp2_with fail
                go_loopg [11] D (fun gi i wr => ∃ q : Nat, c ≤ q ∧ q ≤ c + D ∧ gi = c + D - q ∧ i = .int .i64 q ∧ Below w3.heap.size w3 wr)
                case atStart => exact ⟨c, by omega, by omega, by omega, rfl, HV3.out⟩
                case round =>
                  obtain ⟨q, hq1, hq2, hgi, rfl, hbz⟩ := hrel
                  have HGJ := hidIt hgi
                  have HBZ := hidIt hbz
                  clear hgi hbz
                  by_cases hqq : q < c + D
                  · have A1 := hidIt (AT.out (q : Int) _ HBZ.out)
                    rw [HAT'.out q hq1 hqq] at A1
                    have hq' : (q : Int) < (c : Int) + (D : Int) := by omega
                    go_wp2_with fail
                    refine A1.out.mono ?_
                    rintro e v4 ⟨rfl, hv4⟩
                    have HV4 := hidIt (ext_trans HBZ.out hv4)
                    clear hv4 A1
                    go_wp2_with fail
                    go_roundg (c + D - (q + 1))
                    case measure => have := HGJ.out; omega
                    exact ⟨q + 1, by omega, by omega, rfl, by go_num, HV4.out⟩
                  · have hq' : ¬ (q : Int) < (c : Int) + (D : Int) := by omega
                    have hq'' : ¬ q < c + D := hqq
                    clear hqq
                    go_wp2_with fail
                    go_roundw
                    case rel => exact ⟨j + 1, by omega, by go_num, HBZ.out⟩
                    case measure => simp [intOf]; omega
    · obtain ⟨c, pre, hd⟩ := Vw.dec_end zs
      have hcp := hd.cp
      have q1 := hd.cell (zs.length : Int) (by omega) (fun h => by omega)
      have q2 := hd.end c (Nat.le_refl _)
      have q3 := hd.end (c + 9) (by omega)
      have q4 := hd.cell ((zs.length : Int) + 9) (by omega) (fun h => by omega)
      rw [Int.natCast_add] at q3
      have C1 := hidIt (CE.out (zs.length : Int))
      have C2 := hidIt (AT.out (c : Int))
      have C3 := hidIt (AT.out ((c : Int) + ((9 : Nat) : Int)))
      have C4 := hidIt (CE.out ((zs.length : Int) + 9))
      rw [q1] at C1
      rw [q2] at C2
      rw [q3] at C3
      rw [q4] at C4
      have w1 : IntKind.i64.wrap ((c : Int) + 9) = (c : Int) + 9 := by rw [IntKind.wrap_i64]; omega
      have w2 : IntKind.i64.wrap ((zs.length : Int) + 9) = (zs.length : Int) + 9 := by rw [IntKind.wrap_i64]; omega
      have wj : IntKind.i64.wrap ((j : Int) + 1) = (j : Int) + 1 := by rw [IntKind.wrap_i64]; omega
      have hjn : ¬ (j : Int) + 1 < (nb : Int) := by omega
      clear hd q1 q2 q3 q4 HD0
      go_wp2_with fail
      refine (C1.out _ HBW.out).mono ?_
      rintro e v1 ⟨rfl, hv1⟩
      have HV1 := hidIt (ext_trans HBW.out hv1)
      clear hv1 C1
      go_wp2_with fail
      refine (C2.out _ HV1.out).mono ?_
      rintro e v2 ⟨rfl, hv2⟩
      have HV2 := hidIt (ext_trans HV1.out hv2)
      clear hv2 C2
      go_wp2_with fail
      refine (C3.out _ HV2.out).mono ?_
      rintro e v3 ⟨rfl, hv3⟩
      have HV3 := hidIt (ext_trans HV2.out hv3)
      clear hv3 C3
      go_wp2_with fail
      refine (C4.out _ HV3.out).mono ?_
      rintro e v4 ⟨rfl, hv4⟩
      have HV4 := hidIt (ext_trans HV3.out hv4)
      clear hv4 C4
      go_wp2_with fail
      go_ret
      exact ⟨ret_bool (by simp), ext_trans HW3.out HV4.out⟩
end Go.Proofs.Ytcmglbgnpiociaa
