import Derived.Test.YtfdceljdhgbkcaaGreatDoorJ16
import Derived.Deep.LoopGhost
/- readOn. -/
namespace Go.Proofs.YtfdceljdhgbkcaaGreatDoor
open Go.RowKit
set_option maxRecDepth 100000 in
set_option maxHeartbeats 8000000 in
theorem readOn_any {w : World} {b : Nat} {sl : Bool} {t : Rdg} {ao : Option Addr} {cu : Nat} {ks : List Int} (h : Psr w b sl (.slice ao ks.length cu) t) (ht : t.Ok) (htk : t.k ≤ ks.length) (hks : ks.length ≤ 1152921504606846976) (h64 : ∀ k ∈ ks, In64 k)
    (hux : ∀ y, Kps (fun k => k = b) w y → RdS y (.slice ao ks.length cu) ks) :
    Calls Tryz.prog 20 #[.pointer (some ⟨b, 0, none⟩)] w fun e w' => ∃ t' c s, Rdo sl ks t t' c s ∧ e = .returned (.tuple #[cmV c, .int .i64 s]) ∧ Psr w' b sl (.slice ao ks.length cu) t' ∧ Kps (fun k => k = b) w w' := by
  have hbl := h.lt
  obtain ⟨w0, hw0⟩ : ∃ w0, w0 = w.alloc (.cells #[.int .i64 0, .int .i64 0, .int .i64 0, .int .i64 0, .int .i64 0] 33) := ⟨_, rfl⟩
  have k0 : w0.heap[w.heap.size]? = some (.cells #[.int .i64 0, .int .i64 0, .int .i64 0, .int .i64 0, .int .i64 0] 33 (0, 0)) := by rw [hw0]; exact heap_alloc_new _ _
  have hb0 : Below w.heap.size w w0 := by rw [hw0]; exact ext_alloc (Below.refl _ _) _
  have HI : Hid (t.Ok ∧ t.k ≤ ks.length ∧ Psr w0 b sl (.slice ao ks.length cu) t ∧ Kps (fun k => k = b) w w0 ∧ w0.heap[w.heap.size]? = some (.cells #[.int .i64 0, .int .i64 0, .int .i64 0, .int .i64 0, .int .i64 0] 33 (0, 0)) ∧ ∀ t' c s, Rdo sl ks t t' c s → Rdo sl ks t t' c s) := ⟨ht, htk, h.ext hb0, Kps.of_below _ hb0, k0, fun _ _ _ h => h⟩
  have HU := hidIt hux
  have H6 := hidIt h64
  clear h ht hux h64 k0 hb0
  go_enter Tryz.func20, Tryz.ntmps20
  go_upto_region 1 with fail
  rw [← hw0]
  clear hw0
  go_wp2_with fail
  go_step3
  go_wp2_with fail
  go_step3
  go_wp2_with fail
  go_loopg [3] (ks.length - t.k.toNat) (fun g c wr => c = .int .i64 0 ∧ ∃ u : Rdg, u.k.toNat + g = ks.length ∧ Hid (u.Ok ∧ u.k ≤ ks.length ∧ Psr wr b sl (.slice ao ks.length cu) u ∧ Kps (fun k => k = b) w wr ∧ wr.heap[w.heap.size]? = some (.cells #[.int .i64 0, .int .i64 0, .int .i64 0, .int .i64 0, .int .i64 0] 33 (0, 0)) ∧ ∀ t' c s, Rdo sl ks u t' c s → Rdo sl ks t t' c s))
  case atStart => exact ⟨rfl, t, by have := HI.out.1.k0; have := HI.out.2.1; omega, HI.out⟩
  case round =>
    obtain ⟨rfl, u, hug, HJ⟩ := hrel
    obtain ⟨hok, huk, hps, hkw, hkr, hrd⟩ := HJ.out
    obtain ⟨m0, s0, m1, s1, m2, s2, hp, tr0, tr1, tr2⟩ := hps
    obtain ⟨lb, _, _, _, _, _, _, c6, c7, c8, c9, c10, c11, c12, cf⟩ := cells13 hp
    obtain ⟨lr, r0, r1, r2, r3, r4, rf⟩ := cells5 hkr
    have hk0 := hok.k0
    obtain ⟨kn, hkn⟩ : ∃ kn : Nat, u.k = kn := ⟨u.k.toNat, by omega⟩
    have HKN := hidIt hkn
    have HUG := hidIt hug
    rw [hkn] at c8
    have HOK := hidIt hok
    have HPB := hidIt hp
    have HT := hidIt (And.intro tr0 (And.intro tr1 tr2))
    have HKW := hidIt hkw
    have HKR := hidIt hkr
    have HRD := hidIt hrd
    by_cases hlt : kn < ks.length
    · have hltI : (kn : Int) < (ks.length : Int) := by omega
      obtain ⟨pb, po, hao, hcs, hcu⟩ : ∃ pb po, ao = some ⟨pb, po, none⟩ ∧ (∀ i, i < ks.length → wr.cell? ⟨pb, po + i, none⟩ = some (.int .i64 (ks[i]?.getD 0))) ∧ ks.length ≤ cu := by
        obtain ⟨⟨ao', cap', e, g1, g2, g3⟩, _⟩ := HU.out wr hkw
        obtain ⟨b', off', e4, h1, h2⟩ := g3 (by intro e; rw [e] at hlt; simp at hlt)
        injection e with e1 e2 e3
        exact ⟨b', off', e1.trans e4, h2, by omega⟩
      subst hao
      have hca : ¬ cu = kn := by omega
      have hkl : kn ≤ ks.length := by omega
      have hkc : kn ≤ cu := by omega
      have hc0 := hcs kn hlt
      have HCS := hidIt hcs
      have HUL : Hid (u.k < ks.length) := by unfold Hid; omega
      have HLEN : Hid (kn < ks.length) := hlt
      clear hok hp tr0 tr1 tr2 hkw hkr hrd hcs hug hk0 hkn huk
      generalize hkey : ks[kn]?.getD 0 = key at hc0
      have HHD : Hid ((ks.drop u.k.toNat).headD 0 = key) := by unfold Hid; rw [← hkey, HKN.out, Int.toNat_natCast, List.headD_eq_head?_getD, List.head?_drop]
      clear hkey
      go_upto_region 2 with fail
      go_region_held3 (fun w' => w'.cell? ⟨b, 8, none⟩ = some (.int .i64 (kn : Int)) ∧ w'.cell? ⟨b, 7, none⟩ = some (.slice (some ⟨pb, po, none⟩) ks.length cu)) (go_keep) (fail)
      go_upto_region 3 with fail
      go_region_held3 (fun w' => w'.cell? ⟨b, 8, none⟩ = some (.int .i64 (kn : Int)) ∧ w'.cell? ⟨b, 7, none⟩ = some (.slice (some ⟨pb, po, none⟩) ks.length cu)) (go_keep) (fail)
      go_upto_region 5 with fail
      obtain ⟨wv, hwv⟩ : ∃ wv, wv = wr.drew.drew := ⟨_, rfl⟩
      rw [← hwv]
      have HPv : Hid (PB wv b m0 s0 m1 s1 m2 s2 (.bool sl) (.slice (some ⟨pb, po, none⟩) ks.length cu) u) := by unfold Hid; rw [hwv]; exact HPB.out
      have HKv : Hid (Kps (fun k => k = b) w wv) := by unfold Hid; rw [hwv]; exact Kps.trans HKW.out (Kps.of_below _ (Below.refl _ wr).drew.drew) (fun _ _ e => e)
      have HTv : Hid (Tr1 wv (fil tNor) m0 s0 ∧ Tr1 wv (fil tSln) m1 s1 ∧ Tr1 wv (fil tTar) m2 s2) := by unfold Hid; rw [hwv]; exact ⟨HT.out.1.kps (Kps.of_below _ (Below.refl _ wr).drew.drew) HPB.out, HT.out.2.1.kps (Kps.of_below _ (Below.refl _ wr).drew.drew) HPB.out, HT.out.2.2.kps (Kps.of_below _ (Below.refl _ wr).drew.drew) HPB.out⟩
      have HRv : Hid (wv.heap[w.heap.size]? = some (.cells #[.int .i64 0, .int .i64 0, .int .i64 0, .int .i64 0, .int .i64 0] 33 (0, 0))) := by unfold Hid; rw [hwv]; exact HKR.out
      have HCv : Hid (∀ i, i < ks.length → wv.cell? ⟨pb, po + i, none⟩ = some (.int .i64 (ks[i]?.getD 0))) := by unfold Hid; rw [hwv]; exact HCS.out
      clear hwv c6 c7 c8 c9 c10 c11 c12 cf r0 r1 r2 r3 r4 rf hc0 HPB HT HKW HKR HCS HJ lb lr
      obtain ⟨lb, _, _, _, _, _, _, c6, c7, c8, c9, c10, c11, c12, cf⟩ := cells13 HPv.out
      have HGW := hidIt (gow_any HPv.out HOK.out key)
      by_cases hg : gow u key = true
      · skip
        rw [hg] at HGW
        obtain ⟨hx0, hx1⟩ := gow_dig hg
        have HAD := hidIt (addD_any HPv.out HOK.out key hx0 hx1)
        have HST : Hid (rst sl u (ks.drop u.k.toNat) = .go (addD u key)) := by unfold Hid rst; rw [HHD.out, if_pos hg]
        have HOK2 := hidIt (HOK.out.addD key hx0 (by have h2 := HKN.out; omega))
        clear hg hx0 hx1
        go_wp2_with (first | (go_at_call 38; refine HGW.out.mono ?_; rintro e y0 ⟨rfl, rfl⟩; (try dsimp only)) | (go_at_call 39; refine HAD.out.mono ?_; rintro e y1 ⟨rfl, hp1, hk1⟩; (try dsimp only); have HP1 := hidIt hp1; have HK1 := hidIt hk1; clear hp1 hk1))
        go_roundg (gk - 1)
        case rel => exact ⟨rfl, addD u key, by have h1 := HUG.out; have h2 := HKN.out; have h3 := HLEN.out; show (u.k + 1).toNat + _ = _; omega, HOK2.out, by have h2 := HKN.out; have h3 := HLEN.out; show u.k + 1 ≤ _; omega, psr_kps HPv.out HTv.out HK1.out HP1.out, Kps.trans HKv.out HK1.out (fun _ _ e => e), (HK1.out.same _ (Array.getElem?_eq_some_iff.1 HRv.out).1 (by omega)).trans HRv.out, fun t' c s hr => HRD.out _ _ _ (.more HUL.out HST.out hr)⟩
        case measure => have h1 := HUG.out; have h2 := HKN.out; have h3 := HLEN.out; omega
      · have hgb : gow u key = false := by simpa using hg
        rw [hgb] at HGW
        by_cases hq : key = 34 ∧ u.o = 0
        · obtain ⟨hq1, hq2⟩ := hq
          have hq1b : (key == 34) = true := by simpa using hq1
          have hq2b : (u.o == 0) = true := by simpa using hq2
          obtain ⟨_, r0, r1, r2, r3, r4, rf⟩ := cells5 HRv.out
          by_cases hl1 : ks.length - kn = 1
          · have hl1b : (((ks.length - kn : Nat) : Int) == 1) = true := by simp [hl1]
            have HST : Hid (rst sl u (ks.drop u.k.toNat) = .fin u cmZ 0) := by unfold Hid rst; rw [HHD.out, if_neg hg, if_pos ⟨hq1, hq2⟩, if_pos (by rw [List.length_drop, HKN.out, Int.toNat_natCast]; exact hl1)]
            clear hq1 hq2 hl1 hg hgb
            go_wp2_with (first | (go_at_call 38; refine HGW.out.mono ?_; rintro e y0 ⟨rfl, rfl⟩; (try dsimp only)))
            have HF := hidIt (ron_fin (wz := wv) hbl ⟨m0, s0, m1, s1, m2, s2, HPv.out, HTv.out⟩ HKv.out HRv.out (.int .i64 0) (.int .i64 0) (.int .i64 0) (.int .i64 0) (.int .i64 0))
            obtain ⟨_, f0, f1, f2, f3, f4, ff⟩ := cells5 HF.out.2.2
            try rw [Exit.noGoto_ret]
            refine bodyPost_ret (v := .tuple #[.agg #[.int .i64 0, .int .i64 0, .int .i64 0, .int .i64 0, .int .i64 0], .int .i64 0]) (by simp [results, Tryz.results20, go_sem, f0, f1, f2, f3, f4]) rfl ⟨u, cmZ, 0, HRD.out _ _ _ (.done HUL.out HST.out), rfl, HF.out.1, HF.out.2.1⟩
          · have hl1b : (((ks.length - kn : Nat) : Int) == 1) = false := by simp; omega
            have hl2 : 1 < ks.length - kn := by omega
            have hc1 : wv.cell? ⟨pb, po + kn + 1, none⟩ = some (.int .i64 (ks[kn + 1]?.getD 0)) := by rw [Nat.add_assoc]; exact HCv.out (kn + 1) (by omega)
            generalize hky : ks[kn + 1]?.getD 0 = ky at hc1
            have HKY : Hid ((ks.drop u.k.toNat)[1]?.getD 0 = ky) := by unfold Hid; rw [← hky, HKN.out, Int.toNat_natCast, List.getElem?_drop]
            have HLE2 : Hid ((ks.drop u.k.toNat).length ≠ 1) := by unfold Hid; rw [List.length_drop, HKN.out, Int.toNat_natCast]; exact hl1
            clear hky
            by_cases hz : ky = 0
            · have hzb : (ky == 0) = true := by simpa using hz
              have HST : Hid (rst sl u (ks.drop u.k.toNat) = .fin u cmZ 2) := by unfold Hid rst; rw [HHD.out, if_neg hg, if_pos ⟨hq1, hq2⟩, if_neg HLE2.out, if_pos (HKY.out.trans hz)]
              clear hq1 hq2 hl1 hg hgb hz
              go_wp2_with (first | (go_at_call 38; refine HGW.out.mono ?_; rintro e y0 ⟨rfl, rfl⟩; (try dsimp only)))
              have HF := hidIt (ron_fin (wz := wv) hbl ⟨m0, s0, m1, s1, m2, s2, HPv.out, HTv.out⟩ HKv.out HRv.out (.int .i64 0) (.int .i64 0) (.int .i64 0) (.int .i64 0) (.int .i64 0))
              obtain ⟨_, f0, f1, f2, f3, f4, ff⟩ := cells5 HF.out.2.2
              try rw [Exit.noGoto_ret]
              refine bodyPost_ret (v := .tuple #[.agg #[.int .i64 0, .int .i64 0, .int .i64 0, .int .i64 0, .int .i64 0], .int .i64 2]) (by simp [results, Tryz.results20, go_sem, f0, f1, f2, f3, f4]) rfl ⟨u, cmZ, 2, HRD.out _ _ _ (.done HUL.out HST.out), rfl, HF.out.1, HF.out.2.1⟩
            · have hzb : (ky == 0) = false := by simpa using hz
              have HST : Hid (rst sl u (ks.drop u.k.toNat) = .go (addR u ky)) := by unfold Hid rst; rw [HHD.out, if_neg hg, if_pos ⟨hq1, hq2⟩, if_neg HLE2.out, if_neg (fun e => hz (HKY.out.symm.trans e)), HKY.out]
              have HAR := hidIt (addR_any HPv.out HOK.out ky)
              have HOK2 := hidIt (HOK.out.addR ky (by have h2 := HKN.out; omega))
              clear hq1 hq2 hl1 hg hgb hz
              replace HLEN : Hid (kn + 1 < ks.length) := by unfold Hid; omega
              go_wp2_with (first | (go_at_call 38; refine HGW.out.mono ?_; rintro e y0 ⟨rfl, rfl⟩; (try dsimp only)) | (go_at_call 40; refine HAR.out.mono ?_; rintro e y1 ⟨rfl, hp1, hk1⟩; (try dsimp only); have HP1 := hidIt hp1; have HK1 := hidIt hk1; clear hp1 hk1))
              go_roundg (gk - 2)
              case rel => exact ⟨rfl, addR u ky, by have h1 := HUG.out; have h2 := HKN.out; have h3 := HLEN.out; show (u.k + 2).toNat + _ = _; omega, HOK2.out, by have h2 := HKN.out; have h3 := HLEN.out; show u.k + 2 ≤ _; omega, psr_kps HPv.out HTv.out HK1.out HP1.out, Kps.trans HKv.out HK1.out (fun _ _ e => e), (HK1.out.same _ (Array.getElem?_eq_some_iff.1 HRv.out).1 (by omega)).trans HRv.out, fun t' c s hr => HRD.out _ _ _ (.more HUL.out HST.out hr)⟩
              case measure => have h1 := HUG.out; have h2 := HKN.out; have h3 := HLEN.out; omega
        · have HST0 := hidIt (rst_ask (sl := sl) (t := u) (l := ks.drop u.k.toNat) (by rw [HHD.out]; exact hg) (by rw [HHD.out]; exact hq))
          have HBN := hidIt (bindings_any (w := wv) (b := b) (sl := sl) (pv := (.slice (some ⟨pb, po, none⟩) ks.length cu)) (t := u) ⟨m0, s0, m1, s1, m2, s2, HPv.out, HTv.out⟩)
          have HLF : Hid (∀ z, Kps (fun k => k = b) w z → RdS z (.slice (some ⟨pb, po + kn, none⟩) (ks.length - kn) (cu - kn)) (ks.drop u.k.toNat)) := fun z hz => by rw [HKN.out, Int.toNat_natCast]; exact (HU.out z hz).rest kn hlt
          have H64 : Hid (∀ k ∈ ks.drop u.k.toNat, In64 k) := fun k hk => H6.out k (List.mem_of_mem_drop hk)
          have HLL : Hid ((ks.drop u.k.toNat).length = ks.length - kn) := by unfold Hid; rw [List.length_drop, HKN.out, Int.toNat_natCast]
          generalize bOff sl u = off at HBN
          generalize bLs sl u = L at HBN HST0
          have HRST : Hid (∀ r, rst sl u (ks.drop u.k.toNat) = r → rst sl u (ks.drop u.k.toNat) = r) := fun _ h => h
          generalize hlf : ks.drop u.k.toNat = lf at HST0 HLF H64 HLL
          have HLFE := hidIt hlf
          clear hlf
          have HAK : Hid (∀ yb, BnR wv yb b off L sl (.slice (some ⟨pb, po, none⟩) ks.length cu) u → Calls Tryz.prog 41 #[.pointer (some ⟨b, off, none⟩), (.slice (some ⟨pb, po + kn, none⟩) (ks.length - kn) (cu - kn))] yb fun e y => ∃ ao c, e = .returned (.tuple #[.agg #[.int .i64 (bX L lf).v, .int .i64 (bX L lf).m, .int .i64 (bX L lf).a, .int .i64 (bX L lf).t], .slice ao (bB L lf).length c, .int .i64 (bS L lf)]) ∧ (∀ z, RdS z (.slice (some ⟨pb, po + kn, none⟩) (ks.length - kn) (cu - kn)) lf → RdS z (.slice ao (bB L lf).length c) (bB L lf)) ∧ Below yb.heap.size yb y) := fun yb hr => asked_any hr _ lf (HLF.out yb (Kps.trans HKv.out hr.2.1 (fun _ _ e => e))) H64.out
          have HBL : Hid (bS L lf ≠ 0 → (bB L lf).length < lf.length) := fun h => bB_lt h
          generalize bX L lf = x at HST0 HAK
          obtain ⟨xv, xm, xa, xt⟩ := x
          generalize bB L lf = B at HST0 HAK HBL
          generalize bS L lf = S at HST0 HAK HBL
          by_cases hq1 : key = 34
          · have hq2 : u.o ≠ 0 := fun e => hq ⟨hq1, e⟩
            have hq1b : (key == 34) = true := by simpa using hq1
            have hq2b : (u.o == 0) = false := by simpa using hq2
            clear hq hq1 hq2 hg hgb
            go_upto_region 13 with (first | (go_at_call 38; refine HGW.out.mono ?_; rintro e y0 ⟨rfl, rfl⟩; (try dsimp only)) | (go_at_call 42; refine HBN.out.mono ?_; rintro e yb ⟨rfl, hbr⟩; (try dsimp only); have HBR := hidIt hbr; have HA2 := hidIt (HAK.out yb hbr); clear hbr HAK) | (go_at_call 41; refine HA2.out.mono ?_; rintro e yc ⟨ao2, c2, rfl, hrs, hbc⟩; (try dsimp only); have HRS := hidIt hrs; have HBC := hidIt hbc; clear hrs hbc))
            obtain ⟨yd, hyd⟩ : ∃ yd, yd = yc.alloc (.cells #[.int .i64 xv, .int .i64 xm, .int .i64 xa, .int .i64 xt] 62) := ⟨_, rfl⟩
            rw [← hyd]
            have KXd : yd.heap[yc.heap.size]? = some (.cells #[.int .i64 xv, .int .i64 xm, .int .i64 xa, .int .i64 xt] 62 (0, 0)) := by rw [hyd]; exact heap_alloc_new _ _
            have HBD : Hid (Below yb.heap.size yb yd) := by unfold Hid; rw [hyd]; exact ext_alloc HBC.out _
            obtain ⟨hpsb, hkb, _⟩ := HBR.out
            have HSd : Hid (Psr yd b sl (.slice (some ⟨pb, po, none⟩) ks.length cu) u) := hpsb.ext HBD.out
            have HKd : Hid (Kps (fun k => k = b) w yd) := Kps.trans (Kps.trans HKv.out hkb (fun _ _ e => e)) (Kps.of_below _ HBD.out) (fun _ _ e => e)
            have HRb : yb.heap[w.heap.size]? = some (.cells #[.int .i64 0, .int .i64 0, .int .i64 0, .int .i64 0, .int .i64 0] 33 (0, 0)) := (hkb.same _ (Array.getElem?_eq_some_iff.1 HRv.out).1 (by omega)).trans HRv.out
            have HRd : Hid (yd.heap[w.heap.size]? = some (.cells #[.int .i64 0, .int .i64 0, .int .i64 0, .int .i64 0, .int .i64 0] 33 (0, 0))) := (HBD.out.block _ (Array.getElem?_eq_some_iff.1 HRb).1).trans HRb
            clear hyd hpsb hkb HRb c6 c7 c8 c9 c10 c11 c12 cf
            generalize yc.heap.size = gx at *
            obtain ⟨_, x0, x1, x2, x3, xf⟩ := cells4 KXd
            obtain ⟨_, r0, r1, r2, r3, r4, rf⟩ := cells5 HRd.out
            by_cases hS2 : S = 2
            · have hS2b : (S == 2) = true := by simpa using hS2
              have HST : Hid (rst sl u (ks.drop u.k.toNat) = .fin u cmZ 2) := by unfold Hid; rw [HLFE.out, HST0.out, if_pos hS2]
              clear hS2
              go_wp2_with fail
              have HF := hidIt (ron_fin (wz := yd) hbl HSd.out HKd.out HRd.out (.int .i64 0) (.int .i64 0) (.int .i64 0) (.int .i64 0) (.int .i64 0))
              obtain ⟨_, f0, f1, f2, f3, f4, ff⟩ := cells5 HF.out.2.2
              try rw [Exit.noGoto_ret]
              refine bodyPost_ret (v := .tuple #[.agg #[.int .i64 0, .int .i64 0, .int .i64 0, .int .i64 0, .int .i64 0], .int .i64 2]) (by simp [results, Tryz.results20, go_sem, f0, f1, f2, f3, f4]) rfl ⟨u, cmZ, 2, HRD.out _ _ _ (.done HUL.out HST.out), rfl, HF.out.1, HF.out.2.1⟩
            · have hS2b : (S == 2) = false := by simpa using hS2
              by_cases hS0 : S = 0
              · have hS0b : (S == 0) = true := by simpa using hS0
                have HST : Hid (rst sl u (ks.drop u.k.toNat) = .fin u cmZ 0) := by unfold Hid; rw [HLFE.out, HST0.out, if_neg hS2, if_pos (.inl hS0)]
                clear hS2 hS0
                go_wp2_with fail
                have HF := hidIt (ron_fin (wz := yd) hbl HSd.out HKd.out HRd.out (.int .i64 0) (.int .i64 0) (.int .i64 0) (.int .i64 0) (.int .i64 0))
                obtain ⟨_, f0, f1, f2, f3, f4, ff⟩ := cells5 HF.out.2.2
                try rw [Exit.noGoto_ret]
                refine bodyPost_ret (v := .tuple #[.agg #[.int .i64 0, .int .i64 0, .int .i64 0, .int .i64 0, .int .i64 0], .int .i64 0]) (by simp [results, Tryz.results20, go_sem, f0, f1, f2, f3, f4]) rfl ⟨u, cmZ, 0, HRD.out _ _ _ (.done HUL.out HST.out), rfl, HF.out.1, HF.out.2.1⟩
              · have hS0b : (S == 0) = false := by simpa using hS0
                obtain ⟨n0, t0, n1, t1, n2, t2, hpd, htd⟩ := HSd.out
                have HPd := hidIt hpd
                have HTd := hidIt htd
                clear hpd htd
                by_cases hx1 : xt = 1
                · have hx1b : (xt == 1) = true := by simpa using hx1
                  have hx2b : (xt == 2) = false := by rw [hx1]; rfl
                  have hx2 : ¬ xt = 2 := by omega
                  by_cases hB0 : B.length = 0
                  · have hB0b : (((B.length : Nat) : Int) == 0) = true := by simpa using hB0
                    have HST : Hid (rst sl u (ks.drop u.k.toNat) = .fin u cmZ 0) := by unfold Hid; rw [HLFE.out, HST0.out, if_neg hS2, if_pos (.inr ⟨hx1, hB0⟩)]
                    clear hS2 hS0 hx1 hx2 hB0
                    go_wp2_with fail
                    have HF := hidIt (ron_fin (wz := yd) hbl HSd.out HKd.out HRd.out (.int .i64 0) (.int .i64 0) (.int .i64 0) (.int .i64 0) (.int .i64 0))
                    obtain ⟨_, f0, f1, f2, f3, f4, ff⟩ := cells5 HF.out.2.2
                    try rw [Exit.noGoto_ret]
                    refine bodyPost_ret (v := .tuple #[.agg #[.int .i64 0, .int .i64 0, .int .i64 0, .int .i64 0, .int .i64 0], .int .i64 0]) (by simp [results, Tryz.results20, go_sem, f0, f1, f2, f3, f4]) rfl ⟨u, cmZ, 0, HRD.out _ _ _ (.done HUL.out HST.out), rfl, HF.out.1, HF.out.2.1⟩
                  · have hB0b : (((B.length : Nat) : Int) == 0) = false := by simpa using hB0
                    have hno : ¬ (S = 0 ∨ (xt = 1 ∧ B.length = 0)) := by
                      rintro (e | ⟨_, e⟩)
                      · exact hS0 e
                      · exact hB0 e
                    have HBN0 : Hid (xt = 1 → B ≠ []) := fun _ e => hB0 (by rw [e]; rfl)
                    clear hx1 hB0
                    have HRC := hidIt (rcm_any HPd.out HOK.out xv xm xa xt ao2 c2 B (fun y hy => HRS.out y (HLF.out y (Kps.trans HKd.out hy (fun _ _ e => e)))) HBN0.out)
                    have HST : Hid (rst sl u (ks.drop u.k.toNat) = .fin (endN u) (rcm u ⟨xv, xm, xa, xt⟩ B).1 (rcm u ⟨xv, xm, xa, xt⟩ B).2) := by unfold Hid; rw [HLFE.out, HST0.out, if_neg hS2, if_neg hno, if_neg hx2]
                    generalize rcm u ⟨xv, xm, xa, xt⟩ B = R at HRC HST
                    obtain ⟨⟨cr, cc, cv, cmv, ca⟩, sy⟩ := R
                    clear hS2 hno hx2 hS0 HST0
                    go_upto_region 20 with (go_at_call 44; refine HRC.out.mono ?_; rintro e y1 ⟨rfl, hp1, hk1⟩; (try dsimp only); have HP1 := hidIt hp1; have HK1 := hidIt hk1; have HR1 := hidIt ((hk1.same _ (Array.getElem?_eq_some_iff.1 HRd.out).1 (by omega)).trans HRd.out); obtain ⟨_, q0, q1, q2, q3, q4, qf⟩ := cells5 HR1.out; clear hp1 hk1)
                    have HF := hidIt (ron_fin (wz := y1) hbl (psr_kps HPd.out HTd.out HK1.out HP1.out) (Kps.trans HKd.out HK1.out (fun _ _ e => e)) HR1.out (.int .i64 cr) (.int .i64 cc) (.int .i64 cv) (.int .i64 cmv) (.int .i64 ca))
                    obtain ⟨_, f0, f1, f2, f3, f4, ff⟩ := cells5 HF.out.2.2
                    try rw [Exit.noGoto_ret]
                    refine bodyPost_ret (v := .tuple #[.agg #[.int .i64 cr, .int .i64 cc, .int .i64 cv, .int .i64 cmv, .int .i64 ca], .int .i64 sy]) (by simp [results, Tryz.results20, go_sem, f0, f1, f2, f3, f4]) rfl ⟨endN u, ⟨cr, cc, cv, cmv, ca⟩, sy, HRD.out _ _ _ (.done HUL.out HST.out), rfl, HF.out.1, HF.out.2.1⟩
                · have hx1b : (xt == 1) = false := by simpa using hx1
                  have hno : ¬ (S = 0 ∨ (xt = 1 ∧ B.length = 0)) := by
                    rintro (e | ⟨e, _⟩)
                    · exact hS0 e
                    · exact hx1 e
                  have HBN0 : Hid (xt = 1 → B ≠ []) := fun e => absurd e hx1
                  clear hx1
                  by_cases hx2 : xt = 2
                  · have hx2b : (xt == 2) = true := by simpa using hx2
                    have hbl2 := HBL.out hS0
                    have hbl3 := HLL.out
                    have HST : Hid (rst sl u (ks.drop u.k.toNat) = .go (addO u xv (((ks.length - kn : Nat) : Int) - (B.length : Nat)))) := by unfold Hid; rw [HLFE.out, HST0.out, if_neg hS2, if_neg hno, if_pos hx2, HLL.out]
                    have hn0 : 0 ≤ ((ks.length - kn : Nat) : Int) - (B.length : Nat) := by omega
                    have hn1 : ((ks.length - kn : Nat) : Int) - (B.length : Nat) ≤ 1152921504606846976 := by omega
                    have HAO := hidIt (addO_any HPd.out HOK.out xv (((ks.length - kn : Nat) : Int) - (B.length : Nat)) hn0 hn1)
                    have HOK2 := hidIt (HOK.out.addO xv _ hn0 hn1 (by have h2 := HKN.out; omega))
                    clear hS2 hS0 hx2 hno
                    go_wp2_with (first | (go_at_call 38; refine HGW.out.mono ?_; rintro e y0 ⟨rfl, rfl⟩; (try dsimp only)) | (go_at_call 43; refine HAO.out.mono ?_; rintro e y1 ⟨rfl, hp1, hk1⟩; (try dsimp only); have HP1 := hidIt hp1; have HK1 := hidIt hk1; clear hp1 hk1))
                    go_roundg (gk - (ks.length - kn - B.length))
                    case rel => exact ⟨rfl, addO u xv (((ks.length - kn : Nat) : Int) - (B.length : Nat)), by have h1 := HUG.out; have h2 := HKN.out; have h3 := HLEN.out; show (u.k + (((ks.length - kn : Nat) : Int) - (B.length : Nat))).toNat + _ = _; omega, HOK2.out, by have h2 := HKN.out; have h3 := HLEN.out; show u.k + (((ks.length - kn : Nat) : Int) - (B.length : Nat)) ≤ _; omega, psr_kps HPd.out HTd.out HK1.out HP1.out, Kps.trans HKd.out HK1.out (fun _ _ e => e), (HK1.out.same _ (Array.getElem?_eq_some_iff.1 HRd.out).1 (by omega)).trans HRd.out, fun t' c s hr => HRD.out _ _ _ (.more HUL.out HST.out hr)⟩
                    case measure => have h1 := HUG.out; have h2 := HKN.out; have h3 := HLEN.out; omega
                  · have hx2b : (xt == 2) = false := by simpa using hx2
                    have HRC := hidIt (rcm_any HPd.out HOK.out xv xm xa xt ao2 c2 B (fun y hy => HRS.out y (HLF.out y (Kps.trans HKd.out hy (fun _ _ e => e)))) HBN0.out)
                    have HST : Hid (rst sl u (ks.drop u.k.toNat) = .fin (endN u) (rcm u ⟨xv, xm, xa, xt⟩ B).1 (rcm u ⟨xv, xm, xa, xt⟩ B).2) := by unfold Hid; rw [HLFE.out, HST0.out, if_neg hS2, if_neg hno, if_neg hx2]
                    generalize rcm u ⟨xv, xm, xa, xt⟩ B = R at HRC HST
                    obtain ⟨⟨cr, cc, cv, cmv, ca⟩, sy⟩ := R
                    clear hS2 hno hx2 hS0 HST0
                    go_upto_region 20 with (go_at_call 44; refine HRC.out.mono ?_; rintro e y1 ⟨rfl, hp1, hk1⟩; (try dsimp only); have HP1 := hidIt hp1; have HK1 := hidIt hk1; have HR1 := hidIt ((hk1.same _ (Array.getElem?_eq_some_iff.1 HRd.out).1 (by omega)).trans HRd.out); obtain ⟨_, q0, q1, q2, q3, q4, qf⟩ := cells5 HR1.out; clear hp1 hk1)
                    have HF := hidIt (ron_fin (wz := y1) hbl (psr_kps HPd.out HTd.out HK1.out HP1.out) (Kps.trans HKd.out HK1.out (fun _ _ e => e)) HR1.out (.int .i64 cr) (.int .i64 cc) (.int .i64 cv) (.int .i64 cmv) (.int .i64 ca))
                    obtain ⟨_, f0, f1, f2, f3, f4, ff⟩ := cells5 HF.out.2.2
                    try rw [Exit.noGoto_ret]
                    refine bodyPost_ret (v := .tuple #[.agg #[.int .i64 cr, .int .i64 cc, .int .i64 cv, .int .i64 cmv, .int .i64 ca], .int .i64 sy]) (by simp [results, Tryz.results20, go_sem, f0, f1, f2, f3, f4]) rfl ⟨endN u, ⟨cr, cc, cv, cmv, ca⟩, sy, HRD.out _ _ _ (.done HUL.out HST.out), rfl, HF.out.1, HF.out.2.1⟩
          · have hq1b : (key == 34) = false := by simpa using hq1
            clear hq hq1 hg hgb
            go_upto_region 13 with (first | (go_at_call 38; refine HGW.out.mono ?_; rintro e y0 ⟨rfl, rfl⟩; (try dsimp only)) | (go_at_call 42; refine HBN.out.mono ?_; rintro e yb ⟨rfl, hbr⟩; (try dsimp only); have HBR := hidIt hbr; have HA2 := hidIt (HAK.out yb hbr); clear hbr HAK) | (go_at_call 41; refine HA2.out.mono ?_; rintro e yc ⟨ao2, c2, rfl, hrs, hbc⟩; (try dsimp only); have HRS := hidIt hrs; have HBC := hidIt hbc; clear hrs hbc))
            obtain ⟨yd, hyd⟩ : ∃ yd, yd = yc.alloc (.cells #[.int .i64 xv, .int .i64 xm, .int .i64 xa, .int .i64 xt] 62) := ⟨_, rfl⟩
            rw [← hyd]
            have KXd : yd.heap[yc.heap.size]? = some (.cells #[.int .i64 xv, .int .i64 xm, .int .i64 xa, .int .i64 xt] 62 (0, 0)) := by rw [hyd]; exact heap_alloc_new _ _
            have HBD : Hid (Below yb.heap.size yb yd) := by unfold Hid; rw [hyd]; exact ext_alloc HBC.out _
            obtain ⟨hpsb, hkb, _⟩ := HBR.out
            have HSd : Hid (Psr yd b sl (.slice (some ⟨pb, po, none⟩) ks.length cu) u) := hpsb.ext HBD.out
            have HKd : Hid (Kps (fun k => k = b) w yd) := Kps.trans (Kps.trans HKv.out hkb (fun _ _ e => e)) (Kps.of_below _ HBD.out) (fun _ _ e => e)
            have HRb : yb.heap[w.heap.size]? = some (.cells #[.int .i64 0, .int .i64 0, .int .i64 0, .int .i64 0, .int .i64 0] 33 (0, 0)) := (hkb.same _ (Array.getElem?_eq_some_iff.1 HRv.out).1 (by omega)).trans HRv.out
            have HRd : Hid (yd.heap[w.heap.size]? = some (.cells #[.int .i64 0, .int .i64 0, .int .i64 0, .int .i64 0, .int .i64 0] 33 (0, 0))) := (HBD.out.block _ (Array.getElem?_eq_some_iff.1 HRb).1).trans HRb
            clear hyd hpsb hkb HRb c6 c7 c8 c9 c10 c11 c12 cf
            generalize yc.heap.size = gx at *
            obtain ⟨_, x0, x1, x2, x3, xf⟩ := cells4 KXd
            obtain ⟨_, r0, r1, r2, r3, r4, rf⟩ := cells5 HRd.out
            by_cases hS2 : S = 2
            · have hS2b : (S == 2) = true := by simpa using hS2
              have HST : Hid (rst sl u (ks.drop u.k.toNat) = .fin u cmZ 2) := by unfold Hid; rw [HLFE.out, HST0.out, if_pos hS2]
              clear hS2
              go_wp2_with fail
              have HF := hidIt (ron_fin (wz := yd) hbl HSd.out HKd.out HRd.out (.int .i64 0) (.int .i64 0) (.int .i64 0) (.int .i64 0) (.int .i64 0))
              obtain ⟨_, f0, f1, f2, f3, f4, ff⟩ := cells5 HF.out.2.2
              try rw [Exit.noGoto_ret]
              refine bodyPost_ret (v := .tuple #[.agg #[.int .i64 0, .int .i64 0, .int .i64 0, .int .i64 0, .int .i64 0], .int .i64 2]) (by simp [results, Tryz.results20, go_sem, f0, f1, f2, f3, f4]) rfl ⟨u, cmZ, 2, HRD.out _ _ _ (.done HUL.out HST.out), rfl, HF.out.1, HF.out.2.1⟩
            · have hS2b : (S == 2) = false := by simpa using hS2
              by_cases hS0 : S = 0
              · have hS0b : (S == 0) = true := by simpa using hS0
                have HST : Hid (rst sl u (ks.drop u.k.toNat) = .fin u cmZ 0) := by unfold Hid; rw [HLFE.out, HST0.out, if_neg hS2, if_pos (.inl hS0)]
                clear hS2 hS0
                go_wp2_with fail
                have HF := hidIt (ron_fin (wz := yd) hbl HSd.out HKd.out HRd.out (.int .i64 0) (.int .i64 0) (.int .i64 0) (.int .i64 0) (.int .i64 0))
                obtain ⟨_, f0, f1, f2, f3, f4, ff⟩ := cells5 HF.out.2.2
                try rw [Exit.noGoto_ret]
                refine bodyPost_ret (v := .tuple #[.agg #[.int .i64 0, .int .i64 0, .int .i64 0, .int .i64 0, .int .i64 0], .int .i64 0]) (by simp [results, Tryz.results20, go_sem, f0, f1, f2, f3, f4]) rfl ⟨u, cmZ, 0, HRD.out _ _ _ (.done HUL.out HST.out), rfl, HF.out.1, HF.out.2.1⟩
              · have hS0b : (S == 0) = false := by simpa using hS0
                obtain ⟨n0, t0, n1, t1, n2, t2, hpd, htd⟩ := HSd.out
                have HPd := hidIt hpd
                have HTd := hidIt htd
                clear hpd htd
                by_cases hx1 : xt = 1
                · have hx1b : (xt == 1) = true := by simpa using hx1
                  have hx2b : (xt == 2) = false := by rw [hx1]; rfl
                  have hx2 : ¬ xt = 2 := by omega
                  by_cases hB0 : B.length = 0
                  · have hB0b : (((B.length : Nat) : Int) == 0) = true := by simpa using hB0
                    have HST : Hid (rst sl u (ks.drop u.k.toNat) = .fin u cmZ 0) := by unfold Hid; rw [HLFE.out, HST0.out, if_neg hS2, if_pos (.inr ⟨hx1, hB0⟩)]
                    clear hS2 hS0 hx1 hx2 hB0
                    go_wp2_with fail
                    have HF := hidIt (ron_fin (wz := yd) hbl HSd.out HKd.out HRd.out (.int .i64 0) (.int .i64 0) (.int .i64 0) (.int .i64 0) (.int .i64 0))
                    obtain ⟨_, f0, f1, f2, f3, f4, ff⟩ := cells5 HF.out.2.2
                    try rw [Exit.noGoto_ret]
                    refine bodyPost_ret (v := .tuple #[.agg #[.int .i64 0, .int .i64 0, .int .i64 0, .int .i64 0, .int .i64 0], .int .i64 0]) (by simp [results, Tryz.results20, go_sem, f0, f1, f2, f3, f4]) rfl ⟨u, cmZ, 0, HRD.out _ _ _ (.done HUL.out HST.out), rfl, HF.out.1, HF.out.2.1⟩
                  · have hB0b : (((B.length : Nat) : Int) == 0) = false := by simpa using hB0
                    have hno : ¬ (S = 0 ∨ (xt = 1 ∧ B.length = 0)) := by
                      rintro (e | ⟨_, e⟩)
                      · exact hS0 e
                      · exact hB0 e
                    have HBN0 : Hid (xt = 1 → B ≠ []) := fun _ e => hB0 (by rw [e]; rfl)
                    clear hx1 hB0
                    have HRC := hidIt (rcm_any HPd.out HOK.out xv xm xa xt ao2 c2 B (fun y hy => HRS.out y (HLF.out y (Kps.trans HKd.out hy (fun _ _ e => e)))) HBN0.out)
                    have HST : Hid (rst sl u (ks.drop u.k.toNat) = .fin (endN u) (rcm u ⟨xv, xm, xa, xt⟩ B).1 (rcm u ⟨xv, xm, xa, xt⟩ B).2) := by unfold Hid; rw [HLFE.out, HST0.out, if_neg hS2, if_neg hno, if_neg hx2]
                    generalize rcm u ⟨xv, xm, xa, xt⟩ B = R at HRC HST
                    obtain ⟨⟨cr, cc, cv, cmv, ca⟩, sy⟩ := R
                    clear hS2 hno hx2 hS0 HST0
                    go_upto_region 20 with (go_at_call 44; refine HRC.out.mono ?_; rintro e y1 ⟨rfl, hp1, hk1⟩; (try dsimp only); have HP1 := hidIt hp1; have HK1 := hidIt hk1; have HR1 := hidIt ((hk1.same _ (Array.getElem?_eq_some_iff.1 HRd.out).1 (by omega)).trans HRd.out); obtain ⟨_, q0, q1, q2, q3, q4, qf⟩ := cells5 HR1.out; clear hp1 hk1)
                    have HF := hidIt (ron_fin (wz := y1) hbl (psr_kps HPd.out HTd.out HK1.out HP1.out) (Kps.trans HKd.out HK1.out (fun _ _ e => e)) HR1.out (.int .i64 cr) (.int .i64 cc) (.int .i64 cv) (.int .i64 cmv) (.int .i64 ca))
                    obtain ⟨_, f0, f1, f2, f3, f4, ff⟩ := cells5 HF.out.2.2
                    try rw [Exit.noGoto_ret]
                    refine bodyPost_ret (v := .tuple #[.agg #[.int .i64 cr, .int .i64 cc, .int .i64 cv, .int .i64 cmv, .int .i64 ca], .int .i64 sy]) (by simp [results, Tryz.results20, go_sem, f0, f1, f2, f3, f4]) rfl ⟨endN u, ⟨cr, cc, cv, cmv, ca⟩, sy, HRD.out _ _ _ (.done HUL.out HST.out), rfl, HF.out.1, HF.out.2.1⟩
                · have hx1b : (xt == 1) = false := by simpa using hx1
                  have hno : ¬ (S = 0 ∨ (xt = 1 ∧ B.length = 0)) := by
                    rintro (e | ⟨e, _⟩)
                    · exact hS0 e
                    · exact hx1 e
                  have HBN0 : Hid (xt = 1 → B ≠ []) := fun e => absurd e hx1
                  clear hx1
                  by_cases hx2 : xt = 2
                  · have hx2b : (xt == 2) = true := by simpa using hx2
                    have hbl2 := HBL.out hS0
                    have hbl3 := HLL.out
                    have HST : Hid (rst sl u (ks.drop u.k.toNat) = .go (addO u xv (((ks.length - kn : Nat) : Int) - (B.length : Nat)))) := by unfold Hid; rw [HLFE.out, HST0.out, if_neg hS2, if_neg hno, if_pos hx2, HLL.out]
                    have hn0 : 0 ≤ ((ks.length - kn : Nat) : Int) - (B.length : Nat) := by omega
                    have hn1 : ((ks.length - kn : Nat) : Int) - (B.length : Nat) ≤ 1152921504606846976 := by omega
                    have HAO := hidIt (addO_any HPd.out HOK.out xv (((ks.length - kn : Nat) : Int) - (B.length : Nat)) hn0 hn1)
                    have HOK2 := hidIt (HOK.out.addO xv _ hn0 hn1 (by have h2 := HKN.out; omega))
                    clear hS2 hS0 hx2 hno
                    go_wp2_with (first | (go_at_call 38; refine HGW.out.mono ?_; rintro e y0 ⟨rfl, rfl⟩; (try dsimp only)) | (go_at_call 43; refine HAO.out.mono ?_; rintro e y1 ⟨rfl, hp1, hk1⟩; (try dsimp only); have HP1 := hidIt hp1; have HK1 := hidIt hk1; clear hp1 hk1))
                    go_roundg (gk - (ks.length - kn - B.length))
                    case rel => exact ⟨rfl, addO u xv (((ks.length - kn : Nat) : Int) - (B.length : Nat)), by have h1 := HUG.out; have h2 := HKN.out; have h3 := HLEN.out; show (u.k + (((ks.length - kn : Nat) : Int) - (B.length : Nat))).toNat + _ = _; omega, HOK2.out, by have h2 := HKN.out; have h3 := HLEN.out; show u.k + (((ks.length - kn : Nat) : Int) - (B.length : Nat)) ≤ _; omega, psr_kps HPd.out HTd.out HK1.out HP1.out, Kps.trans HKd.out HK1.out (fun _ _ e => e), (HK1.out.same _ (Array.getElem?_eq_some_iff.1 HRd.out).1 (by omega)).trans HRd.out, fun t' c s hr => HRD.out _ _ _ (.more HUL.out HST.out hr)⟩
                    case measure => have h1 := HUG.out; have h2 := HKN.out; have h3 := HLEN.out; omega
                  · have hx2b : (xt == 2) = false := by simpa using hx2
                    have HRC := hidIt (rcm_any HPd.out HOK.out xv xm xa xt ao2 c2 B (fun y hy => HRS.out y (HLF.out y (Kps.trans HKd.out hy (fun _ _ e => e)))) HBN0.out)
                    have HST : Hid (rst sl u (ks.drop u.k.toNat) = .fin (endN u) (rcm u ⟨xv, xm, xa, xt⟩ B).1 (rcm u ⟨xv, xm, xa, xt⟩ B).2) := by unfold Hid; rw [HLFE.out, HST0.out, if_neg hS2, if_neg hno, if_neg hx2]
                    generalize rcm u ⟨xv, xm, xa, xt⟩ B = R at HRC HST
                    obtain ⟨⟨cr, cc, cv, cmv, ca⟩, sy⟩ := R
                    clear hS2 hno hx2 hS0 HST0
                    go_upto_region 20 with (go_at_call 44; refine HRC.out.mono ?_; rintro e y1 ⟨rfl, hp1, hk1⟩; (try dsimp only); have HP1 := hidIt hp1; have HK1 := hidIt hk1; have HR1 := hidIt ((hk1.same _ (Array.getElem?_eq_some_iff.1 HRd.out).1 (by omega)).trans HRd.out); obtain ⟨_, q0, q1, q2, q3, q4, qf⟩ := cells5 HR1.out; clear hp1 hk1)
                    have HF := hidIt (ron_fin (wz := y1) hbl (psr_kps HPd.out HTd.out HK1.out HP1.out) (Kps.trans HKd.out HK1.out (fun _ _ e => e)) HR1.out (.int .i64 cr) (.int .i64 cc) (.int .i64 cv) (.int .i64 cmv) (.int .i64 ca))
                    obtain ⟨_, f0, f1, f2, f3, f4, ff⟩ := cells5 HF.out.2.2
                    try rw [Exit.noGoto_ret]
                    refine bodyPost_ret (v := .tuple #[.agg #[.int .i64 cr, .int .i64 cc, .int .i64 cv, .int .i64 cmv, .int .i64 ca], .int .i64 sy]) (by simp [results, Tryz.results20, go_sem, f0, f1, f2, f3, f4]) rfl ⟨endN u, ⟨cr, cc, cv, cmv, ca⟩, sy, HRD.out _ _ _ (.done HUL.out HST.out), rfl, HF.out.1, HF.out.2.1⟩
    · skip
      have hltI : ¬ (kn : Int) < (ks.length : Int) := by omega
      have HNL : Hid ((ks.length : Int) ≤ u.k) := by unfold Hid; omega
      clear hok hp tr0 tr1 tr2 hkw hkr hrd hug hk0 hkn huk
      go_upto_region 2 with fail
      go_region_held3 (fun w' => w'.cell? ⟨b, 8, none⟩ = some (.int .i64 (kn : Int)) ∧ w'.cell? ⟨b, 7, none⟩ = some (.slice ao ks.length cu)) (go_keep) (fail)
      go_wp2_with fail
      have HF := hidIt (ron_fin (wz := wr) hbl HJ.out.2.2.1 HKW.out HKR.out (.int .i64 0) (.int .i64 0) (.int .i64 0) (.int .i64 0) (.int .i64 0))
      obtain ⟨_, f0, f1, f2, f3, f4, ff⟩ := cells5 HF.out.2.2
      refine bodyPost_ret (v := .tuple #[.agg #[.int .i64 0, .int .i64 0, .int .i64 0, .int .i64 0, .int .i64 0], .int .i64 0]) (by simp [results, Tryz.results20, go_sem, r0, r1, r2, r3, r4]) rfl ⟨u, cmZ, 0, HRD.out _ _ _ (.over (Int.not_lt.2 HNL.out)), rfl, HF.out.1.ext (Below.refl _ _).drew, Kps.trans HF.out.2.1 (Kps.of_below _ (Below.refl _ _).drew) (fun _ _ e => e)⟩
end Go.Proofs.YtfdceljdhgbkcaaGreatDoor
