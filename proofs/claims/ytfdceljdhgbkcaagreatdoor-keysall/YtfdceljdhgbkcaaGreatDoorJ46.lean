import Derived.Test.YtfdceljdhgbkcaaGreatDoorJ04
import Derived.Test.YtfdceljdhgbkcaaGreatDoorJ25
import Derived.Test.YtfdceljdhgbkcaaGreatDoorJ38
import Derived.Test.YtfdceljdhgbkcaaGreatDoorJ44
import Derived.Test.YtfdceljdhgbkcaaGreatDoorJ45
import Derived.Test.YtfdceljdhgbkcaaGreatDoorTie
import Derived.Lib.LaidTab
import Derived.LaidMore
import Derived.Stop.Joined
import Derived.Stop.LaidErr
import Derived.OpenShut
import Derived.ProofKit
import Derived.LaidLaws
import Derived.ChangeArms
import Derived.Test.YtfdceljdhgbkcaaGreatDoorCards
import Derived.SevenTiedAt
/- KeysAll: the walk. -/
namespace Go.Proofs.YtfdceljdhgbkcaaGreatDoor
open Go.RowKit
/-- The command of keys is of ints. -/
theorem fdr_in {p q : Ps} {mode key : Int} {c : Cm} (h : FdR p mode key q c 1) (hp : p.Ok) (hn : (27 : Int) ∉ p.ks) (hk : In64 key) (hd : DI p.sl p.ks p.t) : In64 c.r ∧ In64 c.a := by
  have h2 := (fdr_doc hd h).1
  unfold dFd at h2
  split at h2
  · have := congrArg (fun x => x.1.2) h2
    exact absurd this (by show ¬ (3 : Int) = 1; decide)
  · rename_i h27
    have e := congrArg Prod.fst h2
    dsimp only at e
    have hin : ∀ k ∈ (if isl mode = p.sl then p.ks else []) ++ [key], In64 k ∧ k ≠ 27 := fun k hk2 => by
      rcases List.mem_append.1 hk2 with hk2 | hk2
      · split at hk2
        · exact ⟨hp.i k hk2, fun e => hn (e ▸ hk2)⟩
        · cases hk2
      · rw [List.mem_singleton.1 hk2]
        exact ⟨hk, h27⟩
    obtain ⟨k1, k2, _⟩ := spell_least (vld_fed (mode := mode) (c := c) (by simp) ⟨fun h => (hin 27 h).2 rfl, e⟩) (fun k hk => (hin k hk).1)
    exact ⟨k1, k2⟩
theorem Pr.begin {wB : World} {b d e0 e1 : Nat} {o : Nat → Prop} (ho : ∀ k, o k ↔ k = b ∨ k = d) (h1 : Psr wB b false (.slice none 0 0) rdg0) (r1 : DpR wB d e0 e1 (.slice none 0 0) false) (t1 : TbM wB e0 false) (t2 : TbM wB e1 true) : Pr o wB wB b (.slice none 0 0) (ps0 false) d e0 e1 (.slice none 0 0) := by
  have ot : Othr2 wB o := fun k e => by
    rcases (ho k).1 e with rfl | rfl
    · obtain ⟨cs, hcs⟩ := psr_typ h1
      exact ⟨_, _, hcs, by decide, by decide, by decide, by decide⟩
    · exact ⟨_, _, r1, by decide, by decide, by decide, by decide⟩
  exact ⟨⟨h1, OwnI.nil _ _⟩, ps0_ok _, (fun h => by cases h), DI.init _, r1, OwnI.nil _ _, t1, t2, Kps.refl _ _, ot, (ho _).2 (.inl rfl), (ho _).2 (.inr rfl), fun k e => (by cases e), fun k e => (by cases e)⟩
/-- The document's table that is asked. -/
theorem Pr.tab {o : Nat → Prop} {wB w : World} {b d e0 e1 : Nat} {pv dv : Value} {p : Ps} (h : Pr o wB w b pv p d e0 e1 dv) : TbM w e0 false ∧ TbM w e1 true := ⟨h.t0.keep h.kp h.ot, h.t1.keep h.kp h.ot⟩
set_option maxRecDepth 100000 in
set_option maxHeartbeats 8000000 in
theorem all_law {w : World} {v : Value} {xs : List Ko} (h : RdK w v xs) (hT : Tb w) :
    Calls Tryz.prog 3 #[v] w fun e w' => e = .returned (.bool true) ∧ Below w.heap.size w w' := by
  have HFI := hidIt (fits_any h)
  obtain ⟨ao, cap, rfl, h2, h3, h4, h5, h6⟩ := h
  have HOK := hidIt h5
  have HRD := hidIt h6
  have HTb := hidIt hT
  have hx9 : xs.length ≤ 9223372036854775807 := by omega
  have HX : Hid (xs.length ≤ 4398046511104) := h4
  clear h2 h3 h4 h5 h6 hT
  go_enter Tryz.func3, Tryz.ntmps3
  go_wp2_with fail
  go_at_call 4
  refine HFI.out.mono ?_
  rintro e w1 ⟨_, rfl, ⟨r, rfl⟩, hb1⟩
  have HB1 := hidIt hb1
  (try dsimp only)
  clear hb1 HFI
  cases r
  · go_wp2_with fail
    go_ret
    exact ⟨rfl, HB1.out⟩
  · have HAL := hidIt (alive_any w1 (HTb.out.ext HB1.out))
    go_upto_region 4 with (go_at_call 5; refine HAL.out.mono ?_; rintro e w2 ⟨rfl, hb2⟩; (try dsimp only); have HB2 := hidIt (ext_trans HB1.out hb2); clear hb2)
    have HN1 := hidIt (new_any w2)
    go_upto_region 5 with (go_at_call 6; refine HN1.out.mono ?_; rintro e w3 ⟨rfl, hb3, hp3⟩; (try dsimp only); have HB3 := hidIt hb3; have HP3 := hidIt hp3; clear hb3 hp3)
    go_upto_region 7 with fail
    have HN3 := hidIt (r_New_any w3)
    go_upto_region 8 with (go_at_call 7; refine HN3.out.mono ?_; rintro e wB ⟨d, rfl, hd1, ⟨⟨e0, e1, hr5, ht0, ht1⟩, _⟩, hb5⟩; (try dsimp only); have HD1 := hidIt hd1; have HR5 := hidIt hr5; have HT0 := hidIt ht0; have HT1 := hidIt ht1; have HB5 := hidIt hb5; clear hd1 hr5 ht0 ht1 hb5)
    obtain ⟨b, hb1⟩ : ∃ b, b = w2.heap.size := ⟨_, rfl⟩
    rw [← hb1]
    rw [← hb1] at HP3
    obtain ⟨o, HO⟩ : ∃ o : Nat → Prop, Hid (∀ k, o k ↔ k = b ∨ k = d) := ⟨_, hidIt (fun _ => Iff.rfl)⟩
    have HWB : Hid (Below w.heap.size w wB) := ext_trans (ext_trans HB2.out HB3.out) HB5.out
    have HJ0 : Hid (Pr o wB wB b (.slice none 0 0) (ps0 false) d e0 e1 (.slice none 0 0)) := Pr.begin HO.out (HP3.out.ext HB5.out) HR5.out HT0.out HT1.out
    have HLO : Hid (∀ k, o k → w.heap.size ≤ k) := fun k e => by
      have s1 := HB2.out.size
      have s2 := HB3.out.size
      have s5 := HD1.out
      rcases (HO.out k).1 e with e | e <;> omega
    clear hb1 HB1 HB2 HB3 HB5 HP3 HD1 HR5 HT0 HT1 HN1 HN3 HAL
    go_upto_region 8 with fail
    go_wp2_with fail
    go_loopw [6] (fun iv wr => ∃ (j : Nat) (pv : Value) (p : Ps) (dv : Value), j ≤ xs.length ∧ iv = .int .i64 j ∧ Hid (Pr o wB wr b pv p d e0 e1 dv) ∧ Hid (p.ks.length ≤ j ∧ j ≤ 4398046511104)) (fun iv _ => xs.length - (RowKit.intOf iv).toNat)
    case atStart => exact ⟨0, _, _, _, Nat.zero_le _, rfl, HJ0.out, ⟨Nat.zero_le _, by omega⟩⟩
    case round =>
      obtain ⟨j, pv, p, dv, hj, rfl, HJ, HJL⟩ := hrel
      have HBW : Hid (Below w.heap.size w wr) := HWB.out.trans (HJ.out.kp.below HWB.out.size HLO.out)
      by_cases hlt : j < xs.length
      · have hjI : (j : Int) < (xs.length : Int) := by omega
        have HXJ : Hid (j + 1 ≤ 4398046511104) := by unfold Hid; have := HX.out; omega
        obtain ⟨x, hx⟩ : ∃ x, xs[j]? = some x := ⟨_, List.getElem?_eq_getElem hlt⟩
        obtain ⟨sb, off, rfl, hsb, hc⟩ := HRD.out (by intro e; rw [e] at hlt; cases hlt)
        obtain ⟨c0, c1, c2, c3⟩ := (hc j x hx).low hsb HBW.out
        have HKY := hidIt (HOK.out x (List.mem_of_getElem? hx)).ky
        clear hc hx
        obtain ⟨kd, who, md, ky⟩ := x
        dsimp only at *
        obtain ⟨w12, hw12⟩ : ∃ w12, w12 = wr.alloc (.cells #[.int .i64 kd, .int .i64 who, .int .i64 md, .int .i64 ky] 30) := ⟨_, rfl⟩
        have HB12 : Hid (Below wr.heap.size wr w12) := by unfold Hid; rw [hw12]; exact ext_alloc (Below.refl _ _) _
        have HX0 : Hid (w12.heap[wr.heap.size]? = some (.cells #[.int .i64 kd, .int .i64 who, .int .i64 md, .int .i64 ky] 30 (0, 0))) := by unfold Hid; rw [hw12]; exact heap_alloc_new _ _
        go_upto_region 12 with fail
        rw [← hw12]
        clear hw12 c0 c1 c2 c3
        have H0 := hidIt (HJ.out.ext HB12.out)
        generalize hgx : wr.heap.size = gx at HX0 ⊢
        clear hgx
        by_cases k1 : kd = 1
        · subst k1
          obtain ⟨x0, x1, x2, x3, xf, xb⟩ := cells4p HX0.out
          go_upto_region 16 with fail
          clear x0 x1 x2 x3 xf xb
          obtain ⟨da, dc, rfl, _⟩ := H0.out.ow.rds.len
          have HFD := hidIt (feed_any H0.out.pm H0.out.ok (Nat.lt_of_le_of_lt HJL.out.1 (by have := HJL.out; omega)) md ky HKY.out)
          obtain ⟨x0, x1, x2, x3, xf, xb⟩ := cells4p HX0.out
          go_upto_region 17 with (go_at_call 9; refine HFD.out.mono ?_; rintro e y ⟨q, ⟨cr, cc, cv, cm, ca⟩, s, pw, hf, rfl, hp, hk, hn⟩; (try dsimp only); have HFQ := hidIt hf; have HM := hidIt (H0.out.mid hp hk hn); have HD := hidIt (fdr_doc H0.out.di hf); have HQ := hidIt (hf.ok H0.out.ok HKY.out (Nat.lt_of_le_of_lt HJL.out.1 (by have := HJL.out; omega))); have HNE := hidIt (fdr_ne hf H0.out.ne); have HXY := hidIt ((hk.same _ xb (fun e => e.elim (fun e => by obtain ⟨cs, hcs⟩ := psr_typ H0.out.pm.1; rw [← e, HX0.out] at hcs; cases hcs) (fun e => own_ne H0.out.pm.2 HX0.out (by decide) e))).trans HX0.out); clear hf hp hk hn HFD)
          clear x0 x1 x2 x3 xf xb
          obtain ⟨y2, hy2⟩ : ∃ y2, y2 = y.alloc (.cells #[.int .i64 cr, .int .i64 cc, .int .i64 cv, .int .i64 cm, .int .i64 ca] 33) := ⟨_, rfl⟩
          rw [← hy2]
          have hb2 : Below y.heap.size y y2 := by rw [hy2]; exact ext_alloc (Below.refl _ _) _
          have HC2 : Hid (y2.heap[y.heap.size]? = some (.cells #[.int .i64 cr, .int .i64 cc, .int .i64 cv, .int .i64 cm, .int .i64 ca] 33 (0, 0))) := by unfold Hid; rw [hy2]; exact heap_alloc_new _ _
          have HM2 := hidIt (HM.out.ext hb2)
          have HX2 := hidIt ((hb2.block _ (Array.getElem?_eq_some_iff.1 HXY.out).1).trans HXY.out)
          obtain ⟨x0, x1, x2, x3, xf, xb⟩ := cells4p HX2.out
          clear hy2 hb2 HXY
          generalize y.heap.size = g2 at *
          have HFE := hidIt (r_Feed_any HM2.out.dr HM2.out.t0 HM2.out.t1 HM2.out.ow (Nat.lt_of_le_of_lt HJL.out.1 (by have := HJL.out; omega)) md ky)
          rw [HD.out.1] at HFE
          go_upto_region 18 with (go_at_call 10; refine HFE.out.mono ?_; rintro e z ⟨dw, rfl, hr, _, _, ho, hk, hn⟩; (try dsimp only); have HP := hidIt (HM2.out.fin H0.out HQ.out.1 HNE.out HD.out.2 HQ.out.2.2.1 (by rw [HQ.out.2.1]; exact hr) ho hk hn); have HCZ := hidIt ((hk.same _ (Array.getElem?_eq_some_iff.1 HC2.out).1 (fun e => by have h1 := HC2.out; rw [e, HM2.out.dr] at h1; cases h1)).trans HC2.out); clear hr ho hk hn HFE)
          clear x0 x1 x2 x3 xf xb
          obtain ⟨z2, hz2⟩ : ∃ z2, z2 = z.alloc (.cells #[.int .i64 cr, .int .i64 cc, .int .i64 cv, .int .i64 cm, .int .i64 ca] 33) := ⟨_, rfl⟩
          rw [← hz2]
          have hb3 : Below z.heap.size z z2 := by rw [hz2]; exact ext_alloc (Below.refl _ _) _
          have HC3 : Hid (z2.heap[z.heap.size]? = some (.cells #[.int .i64 cr, .int .i64 cc, .int .i64 cv, .int .i64 cm, .int .i64 ca] 33 (0, 0))) := by unfold Hid; rw [hz2]; exact heap_alloc_new _ _
          have HBZ := hidIt hb3
          have HCY := hidIt ((hb3.block _ (Array.getElem?_eq_some_iff.1 HCZ.out).1).trans HCZ.out)
          clear hz2 hb3 HCZ HC2
          generalize hgz : z.heap.size = g3 at HC3 ⊢
          clear hgz
          obtain ⟨_, a0, a1, a2, a3, a4, af⟩ := cells5 HCY.out
          obtain ⟨_, c0, c1, c2, c3, c4, cf⟩ := cells5 HC3.out
          obtain ⟨pv2, p2, dv2, hp2, hl2, _, _, _⟩ := HP.out
          have HP2 := hidIt hp2
          have HLP : Hid (p2.ks.length ≤ j + 1 ∧ j + 1 ≤ 4398046511104) := by unfold Hid; have := HJL.out; have := HXJ.out; omega
          clear hp2 hl2
          by_cases hs1 : s = 1
          · subst hs1
            have HIN := hidIt (fdr_in HFQ.out H0.out.ok H0.out.ne HKY.out H0.out.di)
            have HBW2 : Hid (Below w.heap.size w z2) := HWB.out.trans ((HP2.out.ext HBZ.out).kp.below HWB.out.size HLO.out)
            by_cases h40 : j < 40
            · have h40I : (j : Int) < 40 := by omega
              rcases Nat.mod_two_eq_zero_or_one j with hj2 | hj2
              · have hjm : (j : Int).tmod 2 = 0 := by rw [Int.tmod_eq_emod_of_nonneg (by omega)]; omega
                clear h40 hj2
                have HSD : Hid (dSpl false (⟨cr, cc, cv, cm, ca⟩ : Cm) = spell 0 (⟨cr, cc, cv, cm, ca⟩ : Cm)) := spell_doc 0 ⟨cr, cc, cv, cm, ca⟩ HIN.out.1 HIN.out.2
                obtain ⟨dr0, dr1, dr2, dr3, drf, drb⟩ := cells4p (HP2.out.ext HBZ.out).dr
                go_upto_region 22 with fail
                clear dr0 dr1 dr2 dr3 drf drb
                have HSP := hidIt (Spell_any 0 ⟨cr, cc, cv, cm, ca⟩ z2 (HTb.out.ext HBW2.out))
                go_upto_region 23 with (go_at_call 11; refine HSP.out.mono ?_; rintro e y5 ⟨u, rfl, hu, hb5⟩; obtain ⟨ua, un, uc, rfl⟩ := optI_form hu; (try dsimp only); have HU := hidIt hu; have HB5 := hidIt hb5; clear hu hb5 HSP)
                clear a0 a1 a2 a3 a4 af c0 c1 c2 c3 c4 cf
                have HC5 := hidIt ((HB5.out.block _ (Array.getElem?_eq_some_iff.1 HC3.out).1).trans HC3.out)
                obtain ⟨_, c0, c1, c2, c3, c4, cf⟩ := cells5 HC5.out
                have HSQ := hidIt (r_Spell_any (b := e0) (sl := false) ⟨cr, cc, cv, cm, ca⟩ y5 ((HP2.out.ext HBZ.out).ext HB5.out).tab.1)
                rw [HSD.out] at HSQ
                cases hs : spell 0 (⟨cr, cc, cv, cm, ca⟩ : Cm) with
                | none =>
                  rw [hs] at HU HSQ
                  have e1 : Value.slice ua un uc = .slice none 0 0 := HU.out
                  cases e1
                  clear hs HSD
                  have HSI := hidIt (fun w => sameInts_any (.slice none 0 0) (.slice none 0 0) [] w (OwnI.nil w 0).rds.1 (OwnI.nil w 0).rds.1)
                  go_wp2_with (first | (go_at_call 13; refine HSQ.out.mono ?_; rintro e y6 ⟨v, rfl, hv, hb6⟩; obtain rfl : v = .slice none 0 0 := hv; (try dsimp only); have HB6 := hidIt hb6; clear hb6 HSQ) | (go_at_call 12; refine (HSI.out _).mono ?_; rintro e y7 ⟨rfl, hb7⟩; (try dsimp only); have HB7 := hidIt hb7; clear hb7 HSI))
                  go_roundw
                  case rel => exact ⟨j + 1, _, _, _, by omega, by go_num, HP2.out.ext (ext_trans HBZ.out (ext_trans HB5.out (ext_trans HB6.out HB7.out))), HLP.out⟩
                  case measure => simp [RowKit.intOf]; omega
                | some l =>
                  rw [hs] at HU HSQ
                  obtain ⟨u9, n9, c9, e1, hru⟩ := HU.out.some
                  cases e1
                  obtain ⟨_, _, e1, _⟩ := hru.len
                  cases e1
                  have HRU := hidIt hru
                  clear hs hru HSD
                  go_wp2_with (first | (go_at_call 13; refine HSQ.out.mono ?_; rintro e y6 ⟨v, rfl, hv, hb6⟩; obtain ⟨v9, m9, d9, rfl, hrv⟩ := hv.some; (try dsimp only); have HB6 := hidIt hb6; have HRV := hidIt hrv; clear hv hrv hb6 HSQ) | (go_at_call 12; refine (sameInts_any _ _ l _ (HRU.out.ext HB6.out).1 HRV.out.1).mono ?_; rintro e y7 ⟨rfl, hb7⟩; (try dsimp only); have HB7 := hidIt hb7; clear hb7))
                  go_roundw
                  case rel => exact ⟨j + 1, _, _, _, by omega, by go_num, HP2.out.ext (ext_trans HBZ.out (ext_trans HB5.out (ext_trans HB6.out HB7.out))), HLP.out⟩
                  case measure => simp [RowKit.intOf]; omega
              · have hjm : (j : Int).tmod 2 = 1 := by rw [Int.tmod_eq_emod_of_nonneg (by omega)]; omega
                clear h40 hj2
                have HSD : Hid (dSpl true (⟨cr, cc, cv, cm, ca⟩ : Cm) = spell 3 (⟨cr, cc, cv, cm, ca⟩ : Cm)) := spell_doc 3 ⟨cr, cc, cv, cm, ca⟩ HIN.out.1 HIN.out.2
                obtain ⟨dr0, dr1, dr2, dr3, drf, drb⟩ := cells4p (HP2.out.ext HBZ.out).dr
                go_upto_region 22 with fail
                clear dr0 dr1 dr2 dr3 drf drb
                have HSP := hidIt (Spell_any 3 ⟨cr, cc, cv, cm, ca⟩ z2 (HTb.out.ext HBW2.out))
                go_upto_region 23 with (go_at_call 11; refine HSP.out.mono ?_; rintro e y5 ⟨u, rfl, hu, hb5⟩; obtain ⟨ua, un, uc, rfl⟩ := optI_form hu; (try dsimp only); have HU := hidIt hu; have HB5 := hidIt hb5; clear hu hb5 HSP)
                clear a0 a1 a2 a3 a4 af c0 c1 c2 c3 c4 cf
                have HC5 := hidIt ((HB5.out.block _ (Array.getElem?_eq_some_iff.1 HC3.out).1).trans HC3.out)
                obtain ⟨_, c0, c1, c2, c3, c4, cf⟩ := cells5 HC5.out
                have HSQ := hidIt (r_Spell_any (b := e1) (sl := true) ⟨cr, cc, cv, cm, ca⟩ y5 ((HP2.out.ext HBZ.out).ext HB5.out).tab.2)
                rw [HSD.out] at HSQ
                cases hs : spell 3 (⟨cr, cc, cv, cm, ca⟩ : Cm) with
                | none =>
                  rw [hs] at HU HSQ
                  have e1 : Value.slice ua un uc = .slice none 0 0 := HU.out
                  cases e1
                  clear hs HSD
                  have HSI := hidIt (fun w => sameInts_any (.slice none 0 0) (.slice none 0 0) [] w (OwnI.nil w 0).rds.1 (OwnI.nil w 0).rds.1)
                  go_wp2_with (first | (go_at_call 13; refine HSQ.out.mono ?_; rintro e y6 ⟨v, rfl, hv, hb6⟩; obtain rfl : v = .slice none 0 0 := hv; (try dsimp only); have HB6 := hidIt hb6; clear hb6 HSQ) | (go_at_call 12; refine (HSI.out _).mono ?_; rintro e y7 ⟨rfl, hb7⟩; (try dsimp only); have HB7 := hidIt hb7; clear hb7 HSI))
                  go_roundw
                  case rel => exact ⟨j + 1, _, _, _, by omega, by go_num, HP2.out.ext (ext_trans HBZ.out (ext_trans HB5.out (ext_trans HB6.out HB7.out))), HLP.out⟩
                  case measure => simp [RowKit.intOf]; omega
                | some l =>
                  rw [hs] at HU HSQ
                  obtain ⟨u9, n9, c9, e1, hru⟩ := HU.out.some
                  cases e1
                  obtain ⟨_, _, e1, _⟩ := hru.len
                  cases e1
                  have HRU := hidIt hru
                  clear hs hru HSD
                  go_wp2_with (first | (go_at_call 13; refine HSQ.out.mono ?_; rintro e y6 ⟨v, rfl, hv, hb6⟩; obtain ⟨v9, m9, d9, rfl, hrv⟩ := hv.some; (try dsimp only); have HB6 := hidIt hb6; have HRV := hidIt hrv; clear hv hrv hb6 HSQ) | (go_at_call 12; refine (sameInts_any _ _ l _ (HRU.out.ext HB6.out).1 HRV.out.1).mono ?_; rintro e y7 ⟨rfl, hb7⟩; (try dsimp only); have HB7 := hidIt hb7; clear hb7))
                  go_roundw
                  case rel => exact ⟨j + 1, _, _, _, by omega, by go_num, HP2.out.ext (ext_trans HBZ.out (ext_trans HB5.out (ext_trans HB6.out HB7.out))), HLP.out⟩
                  case measure => simp [RowKit.intOf]; omega
            · have h40I : ¬ (j : Int) < 40 := by omega
              go_wp2_with fail
              go_roundw
              case rel => exact ⟨j + 1, _, _, _, by omega, by go_num, HP2.out.ext HBZ.out, HLP.out⟩
              case measure => simp [RowKit.intOf]; omega
          · have hs1b : (s == 1) = false := by simpa using hs1
            clear hs1
            go_wp2_with fail
            go_roundw
            case rel => exact ⟨j + 1, _, _, _, by omega, by go_num, HP2.out.ext HBZ.out, HLP.out⟩
            case measure => simp [RowKit.intOf]; omega
        · have k1b : (kd != 1) = true := by simpa using k1
          obtain ⟨x0, x1, x2, x3, xf, xb⟩ := cells4p HX0.out
          have HPY := hidIt (played_any H0.out (Nat.lt_of_le_of_lt HJL.out.1 (by have := HJL.out; omega)) kd who md ky HKY.out)
          clear k1
          go_wp2_with (go_at_call 8; refine HPY.out.mono ?_; rintro e y ⟨rfl, hp⟩; (try dsimp only); have HP := hidIt hp; clear hp HPY)
          go_roundw
          case rel =>
            obtain ⟨pv2, p2, dv2, k1, k2, _, _, _⟩ := HP.out
            exact ⟨j + 1, pv2, p2, dv2, by omega, by go_num, k1, by unfold Hid; have := HJL.out; have := HXJ.out; omega⟩
          case measure => simp [RowKit.intOf]; omega
      · have hjI : ¬ (j : Int) < (xs.length : Int) := by omega
        go_wp2_with fail
        go_ret
        exact ⟨rfl, HBW.out⟩
end Go.Proofs.YtfdceljdhgbkcaaGreatDoor

/- What the listed variables hold: from the row's condition to the table of powers. -/
namespace Go.Proofs.YtfdceljdhgbkcaaGreatDoor
open Go.ChangeShapes Go.WideShapes Go.ChangeAt Go.RowKit
/- A command that came in. -/
theorem array5 {α : Type} {cs : Array α} (h : cs.size = 5) : ∃ c0 c1 c2 c3 c4, cs = #[c0, c1, c2, c3, c4] := by
  obtain ⟨l⟩ := cs
  match l, h with
  | [c0, c1, c2, c3, c4], _ => exact ⟨c0, c1, c2, c3, c4, rfl⟩
theorem c5K : Tryz.prog.cellsOf 33 = 5 := by kernel_rfl
theorem c3K : Tryz.prog.cellsOf 3 = 1 := by kernel_rfl
set_option maxRecDepth 100000 in
theorem cmd_of {H : Type} {enc : TypeId × Value → H} {W : World} {base : Nat} {v : Value} {d : DataW H} {p : List MemPlace} (hv : Value.okWide Tryz.prog W .any base 33 v) (h : DataW.Trod enc Tryz.prog W 0 (fun _ => true) true 33 v d p) :
    ∃ c : Cm, v = cmV c ∧ In64 c.r ∧ In64 c.c ∧ In64 c.v ∧ In64 c.m ∧ In64 c.a := by
  obtain ⟨cs, rfl, hsz⟩ := okWide_struct Tryz.underlying33 hv
  obtain ⟨c0, c1, c2, c3, c4, rfl⟩ := array5 (hsz.trans c5K)
  obtain ⟨fuel, hf⟩ := h
  obtain ⟨xs, n, _, _, _, hlen, hall⟩ := DataW.trod_struct Tryz.underlying33 hf
  obtain ⟨x0, x1, x2, x3, x4, hx⟩ := array5 (cs := xs.toArray) (by simpa using hlen)
  obtain rfl : xs = [x0, x1, x2, x3, x4] := by simpa using congrArg Array.toList hx
  have g0 := hall 0 _ rfl
  have g1 := hall 1 _ rfl
  have g2 := hall 2 _ rfl
  have g3 := hall 3 _ rfl
  have g4 := hall 4 _ rfl
  obtain ⟨k0, e0, _, w0⟩ := DataW.trod_int Tryz.underlying3 g0
  obtain ⟨k1, e1, _, w1⟩ := DataW.trod_int Tryz.underlying3 g1
  obtain ⟨k2, e2, _, w2⟩ := DataW.trod_int Tryz.underlying3 g2
  obtain ⟨k3, e3, _, w3⟩ := DataW.trod_int Tryz.underlying3 g3
  obtain ⟨k4, e4, _, w4⟩ := DataW.trod_int Tryz.underlying3 g4
  have e0' : ([c0, c1, c2, c3, c4].drop 0).take (Tryz.prog.cellsOf 3) = [.int .i64 k0] := e0
  rw [c3K] at e0'
  have f0 : [c0] = [.int .i64 k0] := e0'
  have e1' : ([c0, c1, c2, c3, c4].drop 1).take (Tryz.prog.cellsOf 3) = [.int .i64 k1] := e1
  rw [c3K] at e1'
  have f1 : [c1] = [.int .i64 k1] := e1'
  have e2' : ([c0, c1, c2, c3, c4].drop 2).take (Tryz.prog.cellsOf 3) = [.int .i64 k2] := e2
  rw [c3K] at e2'
  have f2 : [c2] = [.int .i64 k2] := e2'
  have e3' : ([c0, c1, c2, c3, c4].drop 3).take (Tryz.prog.cellsOf 3) = [.int .i64 k3] := e3
  rw [c3K] at e3'
  have f3 : [c3] = [.int .i64 k3] := e3'
  have e4' : ([c0, c1, c2, c3, c4].drop 4).take (Tryz.prog.cellsOf 3) = [.int .i64 k4] := e4
  rw [c3K] at e4'
  have f4 : [c4] = [.int .i64 k4] := e4'
  cases f0
  cases f1
  cases f2
  cases f3
  cases f4
  exact ⟨⟨k0, k1, k2, k3, k4⟩, rfl, w0, w1, w2, w3, w4⟩
def laidL : List (String × DataW Unit) := [("math/bits.deBruijn32tab", Rows.laid_math_bits_deBruijn32tab), ("math/bits.deBruijn64tab", Rows.laid_math_bits_deBruijn64tab), ("internal/strconv.uint64pow10", Rows.laid_internal_strconv_uint64pow10)]
theorem gPow : Tryz.prog.globalNamed "internal/strconv.uint64pow10" = some 0 := by kernel_rfl
theorem tPow : (Tryz.prog.globals[0]?).map (·.type) = some 152 := by kernel_rfl
theorem dPow : (Rows.laid_internal_strconv_uint64pow10 : DataW Unit) = Lib.tabData .u64 Lib.pow10Tab := by kernel_rfl
/-- What the condition gives the walks. -/
theorem of_laid {W : World} (h : laidMetH Tryz.prog laidL W) : Tb W := by
  rw [MakeChecks.laidMetH_plain _ _ _ (by kernel_rfl)] at h
  have h2 := h.tail.tail
  rw [dPow] at h2
  exact Lib.tabIs_of_head gPow tPow Tryz.underlying152 Tryz.underlying144 (by kernel_rfl) (by kernel_rfl) h2
theorem door_met (os : Os) (args : Array Value) : laidMetH Tryz.prog laidL ((World.doorLaid Tryz.prog 400 os).forCall (fun _ _ => 0) ⟨#[], args, []⟩).memory :=
  laidMetH_of_parts3 (fuel := 8) (laidMet_of_run' 8 (by kernel_rfl) (by kernel_rfl)) (by kernel_rfl) (by kernel_rfl)
end Go.Proofs.YtfdceljdhgbkcaaGreatDoor

/- KeysAll: the row and its tied card. -/
namespace Go.Proofs.YtfdceljdhgbkcaaGreatDoor
open Go.ChangeShapes Go.WideShapes Go.ChangeAt Go.RowKit

set_option maxRecDepth 100000 in
theorem keysAll_lifted (os : Os) (started : os.Started) (H : Type) (enc : TypeId × Value → H) :
    ReturnsInHanded {} Tryz.checked os 3 .any (fun w args => (Rows.keysAllSpec.pre enc Tryz.prog Tryz.f3 [] false w args ∧ laidMetH Tryz.prog laidL w) ∧ sizedMet enc Tryz.prog Tryz.f3 (OpenSpec.ofChange Rows.keysAllSpec) false w args)
      (Rows.keysAllSpec.post enc Tryz.prog Tryz.f3 false true false false) := by
  refine returnsInHanded_of_change_and (C := Tryz.checked) (X := fun w _ => laidMetH Tryz.prog laidL w) (fun _ _ _ hh h => h.of_heap hh) ownK started (by kernel_rfl) Tryz.func3
    (ChangeSpec.witness_shaped (enc := enc) (C := Tryz.checked) (os := os) (X := fun w _ => laidMetH Tryz.prog laidL w) false (World.doorLaid Tryz.prog 400 os) #[.slice none 0 0] 8 rfl (World.shaped_of_RefB (by kernel_rfl) (by kernel_rfl)) (by kernel_rfl) (by kernel_rfl) (by kernel_rfl) (door_met os _)) ?_
  intro W base args ds gs before hval0 hW _ hsz0 hL _
  have hval : ∀ (j : Nat) t v, Tryz.f3.params[j]? = some t → args[j]? = some v → Value.okWide Tryz.prog W .any base t v := hval0
  have hsz : (DataW.weightsEach Tryz.prog (Tryz.f3.params.toList ++ Rows.keysAllSpec.plain.varTypes Tryz.prog) (ds ++ gs)).all (· ≤ reachBytes) = true := hsz0
  have hW' := hW
  obtain ⟨p, q, hA0, hV, rfl, hfz, hnd⟩ := hW
  have hA : DataW.TrodAll enc Tryz.prog W 0 (fun _ => true) true Tryz.f3.params.toList args.toList ds p := hA0
  rw [Tryz.params3] at hA hval hsz
  obtain ⟨v0, vs0, d0, ds0, p0, q0, hargs, rfl, rfl, h0, r0⟩ := trodAll_cons hA
  obtain ⟨rfl, rfl, rfl⟩ := trodAll_nil r0
  obtain rfl : args = #[v0] := by cases args; simp_all
  obtain ⟨rfl, rfl⟩ := trodVars_none hV
  obtain ⟨a0, len0, cap0, rfl⟩ := okWide_slice Tryz.underlying22 (hval 0 22 v0 rfl rfl)
  have k0 := h0
  have lt0 : ∀ x ∈ p0, x.block < W.heap.size := by obtain ⟨m, hm⟩ := k0; exact DataW.trod_lt m _ _ _ hm
  have hwt0 : ∀ n ∈ d0.weights Tryz.prog 22, n ≤ reachBytes := fun n hn => by
    have := List.all_eq_true.1 hsz n (DataW.weights_mem_each (j := 0) (t := 22) (d := d0) rfl rfl n hn)
    simpa using this
  obtain ⟨z0, hr0⟩ := script_of h0 hwt0
  clear hA0 hval0 hsz0
  refine (all_law hr0 (of_laid hL)).mono fun e W' ⟨he, bel⟩ => ?_
  subst he
  exact ⟨_, rfl, _, _, _, [], _, [], hW', trodAll_mk1 (shut_bool Tryz.underlying4 _), (trodAll_cons_mk (Below.trod laidOutK (by kernel_rfl) (of_decide_eq_true (by kernel_rfl)) k0 bel lt0) trodAll_mk0), rfl, bel.frame _, fun h => by cases h⟩

theorem keysAll_holds : Rows.KeysAllSaid :=
  OpenClaim.holds_of_wide 3 Tryz.f3 rfl rfl rfl rfl rfl rfl rfl ⟨rfl, rfl, rfl, rfl, rfl⟩ rfl rfl rfl rfl rfl (by kernel_rfl) Tryz.func3 (by kernel_rfl)
    (of_decide_eq_true (by kernel_rfl)) (by unfold Func.isWrapper; first | (rw [if_pos (by decide +kernel)]; kernel_rfl) | (rw [if_neg (by decide +kernel)]; exact ⟨rfl, rfl⟩))
    (fun os started H enc _ => keysAll_lifted os started H enc)

theorem keysAll_card : Rows.KeysAllCardSaid :=
  Claim7.holds_tied_plain_at .later [] [.data, .data, .data] true (true, "19b512e045c1dffa9168877faa6f41cc81366fae4053d0981a88e9fdc0537c43") false
    keysAll_holds (fun _ h => by cases h) (by kernel_rfl) (fun _ h => by cases h) keysAll_row_tie rfl ⟨rfl, rfl⟩ (by kernel_rfl) rfl
    (fun f fn hf hfn => by
      obtain rfl : f = 3 := Option.some.inj ((show Tryz.prog.funcNamed "copyist/copyistlaw13.KeysAll" = some 3 by kernel_rfl).symm.trans hf) |>.symm
      obtain rfl : fn = Tryz.f3 := (Option.some.inj (Tryz.func3.symm.trans hfn)).symm
      exact ⟨by kernel_rfl, fun j t ht => by
        rw [Tryz.params3] at ht
        have hm : t ∈ [22] := by simpa using Array.mem_of_getElem? ht
        have hall : ([22].all fun u => !Tryz.prog.wantsStandIn u) = true := by kernel_rfl
        exact (show Tryz.prog.wantsStandIn t = false by simpa using List.all_eq_true.1 hall t hm)⟩)
    (by kernel_rfl)
end Go.Proofs.YtfdceljdhgbkcaaGreatDoor
