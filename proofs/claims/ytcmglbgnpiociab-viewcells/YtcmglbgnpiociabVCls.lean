/- The document's Cells. -/
import Derived.Test.YtcmglbgnpiociabRCalls
import Derived.Test.YtcmglbgnpiociabRefWid
import Derived.Test.YtcmglbgnpiociabVRef
namespace Go.Proofs.Ytcmglbgnpiociab
open Go.RowKit
attribute [local go_sem] Vw.mx_go Vw.mn_go

/-- The cells of all boundaries. -/
def Vw.ci (zs : List Int) : List Int := (Cl.bs zs).map fun (p : Nat) => ((Vw.cell zs (p : Int) : Nat) : Int)
theorem Vw.ci_len (zs : List Int) : (Vw.ci zs).length = (Cl.bs zs).length := by unfold Vw.ci; rw [List.length_map]
theorem Vw.Dec.own {zs : List Int} {p c : Nat} {pre : List (Nat × Nat × Nat)} (h : Vw.Dec zs p c pre) : Vw.cell zs (p : Int) = c := h.cell (p : Int) (by omega) (fun hp => by have := (Vw.up_gt zs p hp).1; omega)
theorem Vw.ci_take (zs : List Int) (j p c : Nat) (hp : (Cl.bs zs)[j]? = some p) (hc : Vw.cell zs (p : Int) = c) : (Vw.ci zs).take (j + 1) = (Vw.ci zs).take j ++ [(c : Int)] := by
  rw [List.take_add_one]
  congr 1
  unfold Vw.ci
  rw [List.getElem?_map, hp, ← hc]
  rfl

set_option maxRecDepth 100000 in
set_option maxHeartbeats 4000000 in
theorem Cells_any (v : Value) (zs : List Int) (w : World) (hr : Rd .i64 w v zs) (hz : zs.length * 8 ≤ 140737488351232) : Calls Try.prog 28 #[v] w fun e w' => ∃ bv cv, e = .returned (.tuple #[bv, cv]) ∧ Own w' w.heap.size bv (Cl.bi zs) ∧ Own w' w.heap.size cv (Vw.ci zs) ∧ Below w.heap.size w w' := by
  have HR := hidIt hr
  obtain ⟨ao, cap, rfl⟩ : ∃ ao cap, v = .slice ao zs.length cap := by obtain ⟨ao, cap, hv, _⟩ := hr; exact ⟨ao, cap, hv⟩
  have BK := hidIt (rBreaks_any _ zs w hr (by omega))
  clear hr
  go_enter Try.func28, Try.ntmps28
  go_wp2_with fail
  refine BK.out.mono ?_
  rintro e w3 ⟨bv, rfl, hbo, hb3⟩
  have HBO := hidIt hbo
  have HW3 := hidIt hb3
  have hbl : (Cl.bi zs).length = (Cl.bs zs).length := by unfold Cl.bi; rw [List.length_map]
  have hb1 : 1 ≤ (Cl.bs zs).length := by have := (List.getElem?_eq_some_iff.1 (Cl.bs_zero zs)).1; omega
  have hbz := Cl.bi_le zs
  obtain ⟨bg, bf, bc, hbv, _, hbcm, hbg, hcc⟩ := hbo.rd.at (by rw [hbl]; omega)
  subst hbv
  rw [hbl] at hbz
  have HBC : Hid (∀ i p, (Cl.bs zs)[i]? = some p → w3.cell? ⟨bg, bf + i, none⟩ = some (.int .i64 (p : Nat))) := fun i p hp => by
    have hil := (List.getElem?_eq_some_iff.1 hp).1
    rw [hcc i (by rw [hbl]; exact hil)]
    unfold Cl.at
    rw [Cl.bi_get, hp]
    rfl
  have HBL := hidIt hbl
  rw [hbl] at HBO ⊢
  obtain ⟨nb, hnb⟩ : ∃ nb, nb = (Cl.bs zs).length := ⟨_, rfl⟩
  rw [← hnb] at hb1 hbz HBO ⊢
  have HNB := hidIt hnb
  clear hnb hcc hb3 hbo BK hbl
  go_wp2_with fail
  go_loopw [5, 6, 7] (fun o t i wr => ∃ j p c, j + 1 ≤ nb ∧ i = .int .i64 (j : Nat) ∧ t = .int .i64 (c : Nat) ∧ Hid ((Cl.bs zs)[j]? = some p ∧ Vw.cell zs (p : Int) = c) ∧ Own wr w3.heap.size o ((Vw.ci zs).take j) ∧ Below w3.heap.size w3 wr) (fun _ _ i _ => nb - (intOf i).toNat)
  case atStart => exact ⟨0, 0, 0, by omega, rfl, rfl, ⟨Cl.bs_zero zs, (Vw.dec_zero zs).own⟩, World.ownsRow_nil _ _ _ _, Below.refl _ _⟩
  case round =>
    obtain ⟨j, p, c, hj, rfl, rfl, HPC, hown, hbw⟩ := hrel
    have HBW := hidIt hbw
    have HOW := hidIt hown
    obtain ⟨ao', cap', hv', _⟩ := hown.rd
    subst hv'
    have hp := HPC.out.1
    have hc := HPC.out.2
    have hcl : ((Vw.ci zs).take j).length = j := by rw [List.length_take, Vw.ci_len, ← HNB.out]; omega
    have HT := hidIt (Vw.ci_take zs j p c hp hc)
    rw [hcl] at HOW ⊢
    have hjz : j ≤ zs.length := by omega
    have NEW : Hid (RdS (wr.alloc (.cells #[.int .i64 (c : Nat)] 3)) (.slice (some ⟨wr.heap.size, 0, none⟩) 1 1) [(c : Int)]) := ⟨by simpa using Rd.lit .i64 wr 3 [(c : Int)] (by simp [maxLen]), .inr ⟨_, _, _, rfl⟩⟩
    have HO1 : Hid (Own (wr.alloc (.cells #[.int .i64 (c : Nat)] 3)) w3.heap.size (.slice ao' j cap') ((Vw.ci zs).take j)) := Own.ext HOW.out (ext_alloc (Below.refl _ _) _)
    have hwz : w3.heap.size ≤ wr.heap.size := hbw.size
    have wj : IntKind.i64.wrap ((j : Int) + 1) = (j : Int) + 1 := by rw [IntKind.wrap_i64]; omega
    have hjn : (j : Int) < (nb : Int) := by omega
    clear hown hbw hcl
    by_cases hlast : j + 1 = nb
    · have hl' : (((j : Int) + 1) == (nb : Int)) = true := by rw [beq_iff_eq]; omega
      have HALL : Hid ((Vw.ci zs).take j ++ [(c : Int)] = Vw.ci zs) := by unfold Hid; rw [← HT.out, hlast, HNB.out, ← Vw.ci_len, List.take_length]
      clear hlast hp hc
      go_wp2_with (at_builtin; refine wpl_ints rfl _ _ 27 rfl w3.heap.size Try.info_i64 Try.underlying27 (.slice ao' j cap') ((Vw.ci zs).take j) rfl HO1.out (.slice (some ⟨wr.heap.size, 0, none⟩) 1 1) [(c : Int)] rfl NEW.out (by rw [List.length_take]; simp; omega) (by simp; omega) ?_; intro cv w4 hcv hb4; have HCV := hidIt hcv; have HB4 := hidIt hb4; clear hcv hb4)
      go_ret2
      have hB := Below.trans (ext_alloc HBW.out _) HB4.out
      exact ⟨_, _, rfl, Own.ext HBO.out hB, by rw [← HALL.out]; exact Own.le HCV.out HW3.out.size, ext_trans HW3.out hB⟩
    · have hl' : (((j : Int) + 1) == (nb : Int)) = false := by rw [beq_eq_false_iff_ne]; omega
      obtain ⟨hpl, hpn, _⟩ := Cl.bs_next zs j p hp (by rw [← HNB.out]; omega)
      obtain ⟨c', pre, hdec⟩ := Vw.dec_at zs j p hp
      obtain rfl : c' = c := by rw [← hc, hdec.own]
      have hu := Vw.up_gt zs p hpl
      obtain ⟨E, hE⟩ : ∃ E, E = Cl.up zs (p + 1) := ⟨_, rfl⟩
      obtain ⟨D, hD⟩ : ∃ D, D = Vw.wd (Vw.clu zs p) c' := ⟨_, rfl⟩
      have hcl := Vw.clu_len zs p hpl
      have hwd := Vw.clu_wd zs p c' hpl
      have hcp := hdec.cp
      have HNX : Hid ((Cl.bs zs)[j + 1]? = some E ∧ Vw.cell zs (E : Int) = c' + D) := by
        refine ⟨by rw [hpn, hE], ?_⟩
        have := (hdec.next hpl).own
        rw [← hE, ← hD] at this
        exact this
      have HSW : Hid (∀ k, p ≤ k → k < E → Vw.sw ((Vw.clu zs p).take (k + 1 - p)) = Vw.sw ((Vw.clu zs p).take (k - p)) + (Gx.wid (Cl.at zs k)).toNat) := fun k h1 h2 => by
        rw [show k + 1 - p = k - p + 1 by omega, Vw.sw_take _ _ (by rw [hcl, ← hE]; omega)]
        congr 3
        unfold Vw.clu Cl.at
        rw [List.getElem?_take, if_pos (by rw [← hE]; omega), List.getElem?_drop, show p + (k - p) = k by omega]
      have HWD : Hid (D = if (Vw.clu zs p).length = 1 then (if Cl.at zs p = 9 then 8 - c' % 8 else (Gx.wid (Cl.at zs p)).toNat) else min (Vw.sw (Vw.clu zs p)) 2) := by
        unfold Hid
        rw [hD]
        unfold Vw.wd
        have e : Cl.at (Vw.clu zs p) 0 = Cl.at zs p := by
          unfold Vw.clu Cl.at
          rw [List.getElem?_take, if_pos (by omega), List.getElem?_drop, Nat.add_zero]
        rw [e]
      rw [← hE] at hu hcl hwd
      rw [← hD] at hwd
      generalize hX : Vw.clu zs p = X at *
      obtain ⟨hu1, hu2, _⟩ := hu
      obtain ⟨lb, lo, lcp, hlv, hl1, hl2, hlb, hlc⟩ := (HR.out.ext HW3.out).at (by omega)
      simp only [Value.slice.injEq, true_and] at hlv
      obtain ⟨rfl, rfl⟩ := hlv
      have HLC := hidIt hlc
      have HCE : Hid (∀ w', Below w3.heap.size w3 w' → w'.cell? ⟨bg, bf + j, none⟩ = some (.int .i64 (p : Nat)) ∧ w'.cell? ⟨bg, bf + (j + 1), none⟩ = some (.int .i64 (E : Nat)) ∧ w'.cell? ⟨lb, lo + p, none⟩ = some (.int .i64 (Cl.at zs p))) := fun w' hb => ⟨(hb.cell (p := ⟨bg, bf + j, none⟩) hbg).trans (HBC.out j p hp), (hb.cell (p := ⟨bg, bf + (j + 1), none⟩) hbg).trans (HBC.out (j + 1) E HNX.out.1), (hb.cell (p := ⟨lb, lo + p, none⟩) hlb).trans (hlc p hpl)⟩
      have j3 : (0 : Int) ≤ (j : Int) + 1 := by omega
      have j4 : ((j : Int) + 1).toNat = j + 1 := by omega
      have j5 : (0 : Int) ≤ (j : Int) := by omega
      have j6 : (j : Int) + 1 < (nb : Int) := by omega
      have wsub : IntKind.i64.wrap ((E : Int) - (p : Int)) = (E : Int) - (p : Int) := by rw [IntKind.wrap_i64]; omega
      have wcD : IntKind.i64.wrap ((c' : Int) + (D : Int)) = (c' : Int) + (D : Int) := by rw [IntKind.wrap_i64]; omega
      have hp0 : (0 : Int) ≤ (p : Int) := by omega
      have hpl' : (p : Int) < (zs.length : Int) := by omega
      clear hlast hp hc hdec hpn hE hD hX hlc
      go_wp2_with (at_builtin; refine wpl_ints rfl _ _ 27 rfl w3.heap.size Try.info_i64 Try.underlying27 (.slice ao' j cap') ((Vw.ci zs).take j) rfl HO1.out (.slice (some ⟨wr.heap.size, 0, none⟩) 1 1) [(c' : Int)] rfl NEW.out (by rw [List.length_take]; simp; omega) (by simp; omega) ?_; intro cv w4 hcv hb4; have HCV := hidIt hcv; have HB4 := hidIt (Below.trans (ext_alloc HBW.out _) hb4); obtain ⟨k1, k2, hx⟩ := HCE.out w4 HB4.out; clear hcv hb4)
      go_region_held3 (fun w' => w'.cell? ⟨bg, bf + j, none⟩ = some (.int .i64 (p : Nat)) ∧ w'.cell? ⟨bg, bf + (j + 1), none⟩ = some (.int .i64 (E : Nat))) (go_keep) (fail)
      all_goals
        have HBR := hidIt HB4.out.drew
        have HCR : Hid (Own w4.drew w3.heap.size cv ((Vw.ci zs).take (j + 1))) := by unfold Hid; rw [HT.out]; exact Own.ext HCV.out ((Below.refl _ _).drew)
        obtain ⟨k1, k2, hx⟩ := HCE.out _ HBR.out
        generalize World.drew w4 = wd at *
        clear HCV HB4
        by_cases hA : 1 < E - p
        · have hA' : (1 : Int) < (E : Int) - (p : Int) := by omega
          have hD : Vw.mn ((Vw.sw X : Nat) : Int) 2 = (D : Int) := by
            have h := HWD.out
            rw [if_neg (by omega)] at h
            unfold Vw.mn
            omega
          clear HWD
          have HSL := hidIt (Vw.sw_le X)
          simp only [hA', decide_true]
          go_wp2_with fail
          go_loopg [8, 9] (E - p) (fun gi l i wq => ∃ k : Nat, p ≤ k ∧ k ≤ E ∧ gi = E - k ∧ i = .int .i64 k ∧ l = .int .i64 (Vw.sw (X.take (k - p)) : Nat) ∧ Hid (wq = wd))
          case atStart => exact ⟨p, by omega, by omega, rfl, rfl, by rw [Nat.sub_self]; rfl, rfl⟩
          case round =>
            obtain ⟨k, hk1, hk2, hgi, rfl, rfl, hwq⟩ := hrel
            obtain rfl : wd = _ := hwq.out.symm
            have HGI := hidIt hgi
            clear hgi hwq
            by_cases hkE : k < E
            · have hcm : wd.cell? ⟨lb, lo + k, none⟩ = some (.int .i64 (Cl.at zs k)) := (HBR.out.cell (p := ⟨lb, lo + k, none⟩) hlb).trans (HLC.out k (by omega))
              have HW := hidIt (rWidth_any (Cl.at zs k))
              have hwl := Gx.wid_le (Cl.at zs k)
              have HS : Hid (((Vw.sw (X.take (k - p)) : Nat) : Int) + Gx.wid (Cl.at zs k) = ((Vw.sw (X.take (k + 1 - p)) : Nat) : Int)) := by unfold Hid; rw [HSW.out k hk1 hkE]; omega
              have hsl := Vw.sw_le (X.take (k - p))
              rw [List.length_take] at hsl
              have hw : IntKind.i64.wrap (((Vw.sw (X.take (k - p)) : Nat) : Int) + Gx.wid (Cl.at zs k)) = ((Vw.sw (X.take (k - p)) : Nat) : Int) + Gx.wid (Cl.at zs k) := by rw [IntKind.wrap_i64]; omega
              have hk' : (k : Int) < (zs.length : Int) := by omega
              have hk0 : (0 : Int) ≤ (k : Int) := by omega
              have hkE' : (k : Int) < (E : Int) := by omega
              clear hwl hsl hD
              generalize Cl.at zs k = x at *
              generalize Gx.wid x = y at *
              generalize Vw.sw (X.take (k - p)) = z at *
              go_wp2_with (go_at_call 40; refine (HW.out _).mono ?_; rintro e w9 ⟨rfl, rfl⟩)
              go_roundg (E - (k + 1))
              case measure => have := HGI.out; omega
              exact ⟨k + 1, by omega, by omega, rfl, by go_num, by rw [HS.out], rfl⟩
            · have hke : k = E := by omega
              subst hke
              have hxx : X.take (k - p) = X := by rw [← hcl, List.take_length]
              rw [hxx]
              have hkk : ¬ (k : Int) < (k : Int) := by omega
              clear hkE hxx HSW HGI
              generalize Vw.sw X = S at *
              go_wp2_with fail
              go_roundw
              case rel => exact ⟨j + 1, k, c' + D, by omega, by go_num, by go_num, HNX.out, HCR.out, HBR.out⟩
              case measure => simp [intOf]; omega
        · have hA' : ¬ (1 : Int) < (E : Int) - (p : Int) := by omega
          have hkp : E = p + 1 := by omega
          have h := HWD.out
          rw [if_pos (by omega)] at h
          clear HWD hkp HSW
          by_cases h9 : Cl.at zs p = 9
          · rw [if_pos h9] at h
            rw [h9] at hx
            have wm : IntKind.i64.wrap ((c' : Int).tmod 8) = (c' : Int).tmod 8 := by rw [IntKind.wrap_i64, Int.tmod_eq_emod_of_nonneg (by omega)]; omega
            have hD : IntKind.i64.wrap (8 - (c' : Int).tmod 8) = (D : Int) := by rw [IntKind.wrap_i64, Int.tmod_eq_emod_of_nonneg (by omega)]; omega
            have hD2 : 8 - (c' : Int) % 8 = (D : Int) := by omega
            clear h h9
            go_wp2_with fail
            go_roundw
            case rel => exact ⟨j + 1, E, c' + D, by omega, by go_num, by go_num, HNX.out, HCR.out, HBR.out⟩
            case measure => simp [intOf]; omega
          · rw [if_neg h9] at h
            have b9 : (Cl.at zs p == 9) = false := by simp [h9]
            have hwl := Gx.wid_le (Cl.at zs p)
            have HW := hidIt (rWidth_any (Cl.at zs p))
            have hD : Gx.wid (Cl.at zs p) = (D : Int) := by omega
            rw [hD] at HW
            clear h h9 hwl hD
            generalize Cl.at zs p = x at *
            go_wp2_with (go_at_call 40; refine (HW.out _).mono ?_; rintro e w9 ⟨rfl, rfl⟩)
            go_roundw
            case rel => exact ⟨j + 1, E, c' + D, by omega, by go_num, by go_num, HNX.out, HCR.out, HBR.out⟩
            case measure => simp [intOf]; omega
end Go.Proofs.Ytcmglbgnpiociab
