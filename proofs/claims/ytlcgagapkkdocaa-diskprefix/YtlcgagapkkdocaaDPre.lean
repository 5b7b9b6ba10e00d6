/- DiskPrefix: the walk. -/
import Derived.Test.YtlcgagapkkdocaaDPlay
import Derived.BigQuiet
namespace Go.Proofs.Ytlcgagapkkdocaa
open Go.RowKit

/-- A power loss leaves of each file the first of its bytes. -/
theorem cutAll_first : ∀ (d : Dir) (bs : List Int) (fi : List Fi) (q : Nat), ∃ k, (fiAt (cutAll d bs fi) q).bs = (fiAt fi q).bs.take k ∧ (fiAt (cutAll d bs fi) q).ct = (fiAt fi q).ct
  | [], _, fi, q => ⟨(fiAt fi q).bs.length, by simp [cutAll], rfl⟩
  | p :: r, bs, fi, q => by
    unfold cutAll
    obtain ⟨k, h1, h2⟩ := cutAll_first r bs.tail (fi.set p.2 (cutF (fiAt fi p.2) (bs.headD 0))) q
    rw [h1, h2]
    by_cases hl : p.2 < fi.length
    · rw [fiAt_set hl]
      split
      · rename_i e
        subst e
        exact ⟨min k _, by unfold cutF; rw [List.take_take], rfl⟩
      · exact ⟨k, rfl, rfl⟩
    · rw [List.set_eq_of_length_le (by omega)]
      exact ⟨k, rfl, rfl⟩
theorem crash_first {D : Dk} (h : D.dn = false) (c : Ct) : (D.crash c).dn = true ∧ (D.crash c).restart.dn = false ∧ (∀ k, (D.crash c).restart.pl k = none) ∧ ∀ q, ∃ k, (fiAt (D.crash c).restart.fi q).bs = (fiAt D.fi q).bs.take k ∧ (fiAt (D.crash c).restart.fi q).ct = (fiAt D.fi q).ct := by
  have e : D.crash c = { D with se := acts (D.ac.take (clip c.nm D.ac.length)) D.la, la := acts (D.ac.take (clip c.nm D.ac.length)) D.la, ac := [], fi := cutAll (acts (D.ac.take (clip c.nm D.ac.length)) D.la) c.bs D.fi, dn := true } := by
    unfold Dk.crash
    rw [if_neg (by rw [h]; decide)]
  rw [e]
  exact ⟨rfl, rfl, fun _ => rfl, fun q => cutAll_first _ _ _ q⟩
theorem crash_still {D E : Dk} (h : Still D E) (hd : D.dn = false) (c : Ct) : (E.crash c).restart.se = (D.crash c).restart.se ∧ (E.crash c).restart.fi = (D.crash c).restart.fi := by
  have e1 : ∀ X : Dk, X.dn = false → (X.crash c).restart.se = acts (X.ac.take (clip c.nm X.ac.length)) X.la ∧ (X.crash c).restart.fi = cutAll (acts (X.ac.take (clip c.nm X.ac.length)) X.la) c.bs X.fi := fun X hX => by
    have e : X.crash c = { X with se := acts (X.ac.take (clip c.nm X.ac.length)) X.la, la := acts (X.ac.take (clip c.nm X.ac.length)) X.la, ac := [], fi := cutAll (acts (X.ac.take (clip c.nm X.ac.length)) X.la) c.bs X.fi, dn := true } := by
      unfold Dk.crash
      rw [if_neg (by rw [hX]; decide)]
    rw [e]
    exact ⟨rfl, rfl⟩
  rw [(e1 E h.dn).1, (e1 E h.dn).2, (e1 D hd).1, (e1 D hd).2, h.ac, h.la, h.fi]
  exact ⟨rfl, rfl⟩
theorem zz_crash {s : Nat} (hs : 8 ≤ s) (p : Int → Option Ft) (c : Ct) : (((zzD s).restart.plan p).crash c).restart.se = [([122, 122], 0)] ∧ (((zzD s).restart.plan p).crash c).restart.fi = [⟨[49, 50, 51, 52], 4, 1⟩] := by
  have h : putE [122, 122] 4 (dk0 s) = 0 := by
    have h1 : okN [122, 122] = true := by decide
    have h2 : ¬ s < 4 := by omega
    simp [putE, dk0, h1, Dir.get, Dk.full, usd, h2]
  have e : zzD s = ⟨s, [⟨[49, 50, 51, 52], 4, 1⟩], [([122, 122], 0)], [([122, 122], 0)], [], fun _ => none, 0, false⟩ := by
    unfold zzD opPut
    rw [if_neg (by show ¬ putE _ 4 _ ≠ 0; rw [h]; simp)]
    rfl
  rw [e]
  have e2 : ((⟨s, [⟨[49, 50, 51, 52], 4, 1⟩], [([122, 122], 0)], [([122, 122], 0)], [], fun _ => none, 0, false⟩ : Dk).restart.plan p).crash c = ⟨s, cutAll [([122, 122], 0)] c.bs [⟨[49, 50, 51, 52], 4, 1⟩], [([122, 122], 0)], [([122, 122], 0)], [], p, 0, true⟩ := by
    unfold Dk.crash
    rw [if_neg (by show ¬ false = true; decide)]
    have e3 : ∀ n, acts (([] : List Ac).take n) [(([122, 122] : Nm), 0)] = [([122, 122], 0)] := fun n => by simp [acts]
    show Dk.mk _ _ _ _ _ _ _ _ = _
    simp only [Dk.plan, Dk.restart]
    simp [acts]
  rw [e2, cutAll_synced (by intro q hq; simp at hq; subst hq; rfl)]
  exact ⟨rfl, rfl⟩
theorem extract_first (l : List Int) (k : Nat) : (strOfNums l).extract 0 (l.take k).length = strOfNums (l.take k) := by
  apply ByteArray.ext
  apply Array.ext'
  simp [strOfNums, ByteArray.data_extract, List.map_take]
set_option maxRecDepth 100000 in
theorem names_down {F : Nat → Prop} {M : Nat} {w : World} {d : Nat} {D : Dk} (h : Dsk F M w d D) (hdn : D.dn = true) :
    Calls Try.prog 18 #[pp d] w fun e w' => e = .returned (.slice none 0 0) ∧ w = w' := by
  obtain ⟨ms, ml, mp, va, fq, fv, hx⟩ := h.open
  obtain ⟨_, _, _, _, _, _, _, c7, _⟩ := dC_cells hx.1
  rw [hdn] at c7
  clear h hx
  go_enter Try.func18, Try.ntmps18
  go_wp2_with fail
  go_ret
  exact ⟨rfl, rfl⟩
/-- What is read of a shot, whatever draws there were. -/
theorem shot_rows {w : World} {na da sa : Option Addr} {nc dc sc n : Nat} {D : Dk} (h : Shot w (.slice na n nc) (.slice da n dc) (.slice sa n sc) D) (hn : n = D.se.length) : ∀ i p, D.se[i]? = some p → ∃ gd gs, da = some ⟨gd, 0, none⟩ ∧ n ≤ dc ∧ sa = some ⟨gs, 0, none⟩ ∧ n ≤ sc ∧ w.cell? ⟨gd, i, none⟩ = some (.string (strOfNums (fiAt D.fi p.2).bs)) ∧ w.cell? ⟨gs, i * 3, none⟩ = some (.int .i64 ((p.2 : Int) + 1)) ∧ w.cell? ⟨gs, i * 3 + 2, none⟩ = some (.int .i64 ((fiAt D.fi p.2).ct : Int)) := fun i p hp => by
  have hi := (List.getElem?_eq_some_iff.1 hp).1
  obtain ⟨a1, c1, e1, r1⟩ := row_at h.d
  obtain ⟨a2, c2, e2, r2⟩ := row_at h.s
  cases e1
  cases e2
  obtain ⟨gd, rfl, b1, q1⟩ := r1 (by omega)
  obtain ⟨gs, rfl, b2, q2⟩ := r2 (by omega)
  exact ⟨gd, gs, rfl, by omega, rfl, by omega, q1 i _ (by rw [List.getElem?_map, hp]; rfl), q2 (i * 3) _ (flat_at hp 0 (by omega)), q2 (i * 3 + 2) _ (flat_at hp 2 (by omega))⟩
set_option maxRecDepth 100000 in
set_option maxHeartbeats 8000000 in
theorem lpre_any (CR : CrashOk) (n : Int) (v : Value) (xs : List So) (cn : Int) (ca : Option Addr) (cc : Nat) (zs : List Int) (W : World) (h : RdO W v xs) (hc : RdS W (.slice ca zs.length cc) zs) (hcn : In64 cn) (hzs : ∀ z ∈ zs, In64 z) :
    Calls Try.prog 4 #[.int .i64 n, v, .agg #[.int .i64 cn, .slice ca zs.length cc]] W fun e W' => e = .returned (.bool true) ∧ Below W.heap.size W W' := by
  have FT := hidIt (fits_any h)
  have H := hidIt h
  obtain ⟨ao, cap, rfl, hl1, hl2, hl3, hok, _⟩ := h
  have HOK := hidIt hok
  have HC := hidIt hc
  have HZ := hidIt hzs
  have HCN := hidIt hcn
  clear hok hc hzs hcn
  obtain ⟨s, hs8, hs9, SP⟩ := space_one n
  have SP := hidIt SP
  obtain ⟨w0, hw0, hb0, hk0⟩ : ∃ w0, W.alloc (.cells #[.int .i64 cn, .slice ca zs.length cc] 27) = w0 ∧ Below W.heap.size W w0 ∧ w0.heap[W.heap.size]? = some (.cells #[.int .i64 cn, .slice ca zs.length cc] 27 (0, 0)) := ⟨_, rfl, ext_alloc (Below.refl _ _) _, heap_alloc_new _ _⟩
  have S0 : Hid (Syn W #[.int .i64 cn, .slice ca zs.length cc] w0) := ⟨hb0, hk0⟩
  have FT : Hid (Calls Try.prog 19 #[.slice ao xs.length cap] w0 fun e w' => FitsR xs e ∧ Below w0.heap.size w0 w') := fits_any (H.out.ext hb0)
  clear hb0 hk0
  go_enter Try.func4, Try.ntmps4
  go_upto_region 1 with fail
  try rw [hw0]
  clear hw0
  go_upto_region 3 with (go_at_call 19; refine FT.out.mono ?_; rintro e w1 ⟨⟨r, rfl, hr⟩, hb⟩; have HFR := hidIt hr; have S1 := hidIt (S0.out.ext hb); clear hr hb)
  · go_ret
    exact ⟨rfl, S1.out.1⟩
  have hr1 : r = true := by
    cases r
    · exact absurd (show (!false) = false by assumption) (by decide)
    · rfl
  subst hr1
  obtain ⟨hx1, hx2⟩ := HFR.out rfl
  have HX2 := hidIt hx2
  clear HFR FT hx2
  have MD := hidIt (made_any s (by omega) w1 (fun q => q < W.heap.size) (fun q hq => Nat.lt_of_lt_of_le hq S1.out.1.size))
  go_upto_region 4 with (first | (go_at_call 20; refine (SP.out w1).mono ?_; rintro e w2 ⟨rfl, rfl⟩) | (go_at_call 9; refine MD.out.mono ?_; rintro e w3 ⟨d, rfl, hd, hb⟩; have HD := hidIt hd; have S3 := hidIt (S1.out.ext hb); clear hd hb))
  clear MD S0 S1 SP
  obtain ⟨w4, hw4, hb4, ho4, hv4⟩ : ∃ w', w3.alloc (.cells #[.int .u8 49, .int .u8 50, .int .u8 51, .int .u8 52] 5 (4, 5)) = w' ∧ Below w3.heap.size w3 w' ∧ RdU w' (.slice (some ⟨w3.heap.size, 0, none⟩) 4 4) [49, 50, 51, 52] ∧ ∀ g, (Value.slice (some ⟨w3.heap.size, 0, none⟩) 4 4).ownBlock = some g → w3.heap.size ≤ g ∧ g < w'.heap.size := ⟨_, rfl, ext_alloc (Below.refl _ _) _, rd_zz w3, fun g hg => by cases hg; simp⟩
  have PZ := hidIt (zz_any hs8 HD.out (by omega) hb4 ho4 hv4)
  rw [← hw4] at PZ
  clear hw4 hb4 ho4 hv4
  have hcv := Lib.run_convert_bytes_const (P := Try.prog) w3 22 5 #[.int .u8 49, .int .u8 50, .int .u8 51, .int .u8 52] 4 4 Try.underlying22 Try.underlying5
  go_upto_region 6 with (go_at_call 10; refine PZ.out.mono ?_; rintro e w5 ⟨rfl, hd, hk⟩; have HD5 := hidIt hd; have S5 := hidIt (S3.out.ku (hk.ku True)); clear hd hk)
  clear PZ HD S3 hcv
  go_wp2_with fail
  go_loopw [8] (fun i wr => ∃ (k N : Nat) (D : Dk), k ≤ xs.length ∧ i = .int .i64 k ∧ (k = 0 → D = zzD s) ∧ N ≤ 20 + 3 * k + bulk (xs.take k) ∧ Dsk (fun q => q < W.heap.size) N wr d D ∧ Syn W #[.int .i64 cn, .slice ca zs.length cc] wr) (fun i _ => xs.length - (RowKit.intOf i).toNat)
  case atStart => exact ⟨0, 20, _, Nat.zero_le _, rfl, fun _ => rfl, by omega, HD5.out.monoN (by omega) (by omega), S5.out⟩
  case round =>
    clear HD5 S5
    obtain ⟨k, N, D, hk, rfl, hz, hN, hd, hs⟩ := hrel
    have HD := hidIt hd
    have HS := hidIt hs
    have HZD := hidIt hz
    clear hd hs hz
    have hbt := bulk_le_take xs k
    have hX2 := HX2.out
    by_cases hlt : k < xs.length
    · have hlt' : (k : Int) < (xs.length : Int) := by omega
      obtain ⟨x, hx⟩ : ∃ x, xs[k]? = some x := ⟨_, List.getElem?_eq_getElem hlt⟩
      obtain ⟨rfl', rrc⟩ : RdF W (.slice x.fa x.fn x.fc) x.fs ∧ RdS W (.slice x.ca x.cl x.cc) x.cb := by
        obtain ⟨_, _, _, _, _, _, _, h6⟩ := H.out
        obtain ⟨_, _, _, _, hcs⟩ := h6 (by intro e; rw [e] at hlt; simp at hlt)
        exact ⟨(hcs k x hx).rf, (hcs k x hx).rc⟩
      obtain ⟨ao', cap', hv', _, _, _, _, h6⟩ := H.out.ext HS.out.1
      cases hv'
      obtain ⟨pb, po, ea, hpb, hcs⟩ := h6 (by intro e; rw [e] at hlt; simp at hlt)
      subst ea
      have hcx := hcs k x hx
      obtain ⟨va, vc, hv⟩ := hcx.eight
      obtain ⟨c0, c1, c2, c3, c4, c5, c6, c7, crd, _, _⟩ := hcx
      rw [hv] at c4
      have hfn : x.fs.length = x.fn := by obtain ⟨_, _, e, _⟩ := rfl'; injection e with _ e _; exact e.symm
      have hbk := bulk_take hx
      have hbt2 := bulk_le_take xs (k + 1)
      have DO : Hid (Calls Try.prog 21 #[pp d, .agg #[.int .i64 x.k, .int .i64 x.who, sv x.nm, sv x.tn, .slice va x.b.length vc, .slice x.fa x.fn x.fc, .int .i64 x.cn, .slice x.ca x.cl x.cc]] wr (DoA (fun q => q < W.heap.size) (N + 3 + x.fs.length) wr d)) := by
        have := do_all CR HD.out x (HOK.out x (List.mem_of_getElem? hx)) crd (by omega) (rfl'.ext HS.out.1) (by omega) (rrc.ext HS.out.1) (fun g hn hg => rds_lt rrc hn hg) (by omega)
        unfold opV at this
        rw [hv] at this
        exact this
      have hN2 : N + 3 + x.fs.length ≤ 20 + 3 * (k + 1) + bulk (xs.take (k + 1)) := by omega
      have HN2 := hidIt hN2
      clear hcs h6 hx rfl' rrc crd hbk hbt hbt2 hN hN2 hX2 HZD HD
      go_wp2_with (go_at_call 21; refine DO.out.mono ?_; rintro e y2 ⟨⟨r2, rfl⟩, D2, hd2, hk2⟩; have HD2 := hidIt hd2; have HS2 := hidIt (HS.out.ku hk2); clear hd2 hk2)
      go_roundw
      case rel => exact ⟨k + 1, _, D2, by omega, by go_num, fun e => by omega, HN2.out, HD2.out, HS2.out⟩
      case measure => simp [RowKit.intOf]; omega
    · have ejk : xs.length = k := by omega
      subst ejk
      have hge : ¬ (xs.length : Int) < (xs.length : Int) := by omega
      have hN9 : N ≤ 5000000 := by omega
      clear hN hbt hX2
      have RS := hidIt (Restart_any HD.out)
      go_upto_region 11 with (go_at_call 16; refine RS.out.mono ?_; rintro e wa ⟨rfl, hd, hk⟩; have HDa := hidIt hd; have Sa := hidIt (HS.out.ku (hk.ku True)); clear hd hk)
      have PN := hidIt (plan_nil HDa.out)
      go_upto_region 12 with (go_at_call 11; refine PN.out.mono ?_; rintro e wb ⟨rfl, hd, hk⟩; have HDb := hidIt hd; have Sb := hidIt (Sa.out.ku (hk.ku True)); clear hd hk)
      obtain ⟨D2, hD2⟩ : ∃ D2, D2 = D.restart.plan (fun _ => none) := ⟨_, rfl⟩
      rw [← hD2] at HDb
      have dn2 : D2.dn = false := by rw [hD2]; exact restart_dn D
      have pl2 : ∀ i, D2.pl i = none := by rw [hD2]; exact fun _ => rfl
      have ln2 : xs.length = 0 → D2.se.length = 1 := fun e => by rw [hD2, HZD.out e]; exact zz_len hs8 _
      have zc2 : xs.length = 0 → (D2.crash ⟨cn, zs⟩).restart.se = [([122, 122], 0)] ∧ (D2.crash ⟨cn, zs⟩).restart.fi = [⟨[49, 50, 51, 52], 4, 1⟩] := fun e => by rw [hD2, HZD.out e]; exact zz_crash hs8 _ _
      have ZC := hidIt zc2
      clear RS PN HDa Sa HD HS HZD hD2 ln2 zc2
      have few2 : D2.se.length ≤ 16 := HDb.out.wf.seen.few
      have TK := hidIt (taken_p CR HDb.out (by omega) dn2 pl2 (rfl : D2.se.length = D2.se.length))
      go_upto_region 13 with (go_at_call 22; refine TK.out.mono ?_; rintro e wt ⟨E0, ⟨na, ca1, da, ca2, sa, ca3, rfl, sh, st⟩, hd, hk⟩; have SH := hidIt sh; have ST := hidIt st; have HDc := hidIt hd; have Sc := hidIt (Sb.out.ku hk); clear sh st hd hk; (try dsimp only))
      obtain ⟨we, hwe, hbe, hke⟩ := shot_new wt (.slice na D2.se.length ca1) (.slice da D2.se.length ca2) (.slice sa D2.se.length ca3)
      rw [hwe]
      have Se := hidIt (Sc.out.ext hbe)
      have HDe := hidIt (HDc.out.ext hbe)
      have SHe := hidIt (SH.out.kc (Kc.of hbe))
      have KE := hidIt hke
      clear hwe hbe hke TK HDb Sb Sc HDc SH
      have CX : Hid (Calls Try.prog 14 #[pp d, .agg #[.int .i64 cn, .slice ca zs.length cc]] we fun e w' => e = .returned (.tuple #[]) ∧ Dsk (fun q => q < W.heap.size) (N + 200) w' d (E0.crash ⟨cn, zs⟩) ∧ Kd (fun q => q < W.heap.size) we w') := crash_gen _ _ we d E0 ⟨cn, zs⟩ _ HDe.out (HC.out.ext Se.out.1) (fun hn g hg => .inl (rds_lt HC.out hn hg)) HZ.out HCN.out
      obtain ⟨b0, b1⟩ : we.cell? ⟨W.heap.size, 0, none⟩ = some (.int .i64 cn) ∧ we.cell? ⟨W.heap.size, 1, none⟩ = some (.slice ca zs.length cc) := ⟨op_cell Se.out.2 rfl 0, op_cell Se.out.2 rfl 1⟩
      go_upto_region 14 with (go_at_call 14; refine CX.out.mono ?_; rintro e x2 ⟨rfl, hd, hk⟩; have HDx2 := hidIt hd; have HSx2 := hidIt (Se.out.ku (hk.ku True)); have HSHx2 := hidIt (SHe.out.kc (hk.ku True).kc); have HKX2 := hidIt ((hk.keep KE.out (by decide)).trans KE.out); clear hd hk)
      obtain ⟨f1, f2, f3, f4⟩ := crash_first ST.out.dn ⟨cn, zs⟩
      have ES : Hid (D2.crash ⟨cn, zs⟩ = D2.crash ⟨cn, zs⟩ ∧ (E0.crash ⟨cn, zs⟩).restart.se = (D2.crash ⟨cn, zs⟩).restart.se ∧ (E0.crash ⟨cn, zs⟩).restart.fi = (D2.crash ⟨cn, zs⟩).restart.fi) := ⟨rfl, crash_still ST.out dn2 _⟩
      have NM := hidIt (names_down HDx2.out f1)
      go_upto_region 15 with (go_at_call 18; refine NM.out.mono ?_; rintro e x3 ⟨rfl, rfl⟩)
      have RS2 := hidIt (Restart_any HDx2.out)
      have F4 : Hid (∀ q, ∃ k, (fiAt (E0.crash ⟨cn, zs⟩).restart.fi q).bs = (fiAt D2.fi q).bs.take k ∧ (fiAt (E0.crash ⟨cn, zs⟩).restart.fi q).ct = (fiAt D2.fi q).ct) := fun q => by rw [← ST.out.fi]; exact f4 q
      have ZC6 : Hid (xs.length = 0 → (E0.crash ⟨cn, zs⟩).restart.se = [([122, 122], 0)] ∧ (E0.crash ⟨cn, zs⟩).restart.fi = [⟨[49, 50, 51, 52], 4, 1⟩]) := fun e => by rw [ES.out.2.1, ES.out.2.2]; exact ZC.out e
      clear f4 ES ZC
      generalize (E0.crash ⟨cn, zs⟩).restart = D6 at *
      go_upto_region 16 with (go_at_call 16; refine RS2.out.mono ?_; rintro e x4 ⟨rfl, hd, hk⟩; have HDx4 := hidIt hd; have HSx4 := hidIt (HSx2.out.ku (hk.ku True)); have HSHx4 := hidIt (HSHx2.out.kc (hk.ku True).kc); have HKX4 := hidIt ((hk.keep HKX2.out (by decide)).trans HKX2.out); clear hd hk)
      have few6 : D6.se.length ≤ 16 := HDx4.out.wf.seen.few
      have TK2 := hidIt (taken_p CR HDx4.out (by omega) f2 f3 (rfl : D6.se.length = D6.se.length))
      go_upto_region 17 with (go_at_call 22; refine TK2.out.mono ?_; rintro e x5 ⟨E5, ⟨nb, cb1, db, cb2, sb, cb3, rfl, sh, _⟩, hd, hk⟩; have SH5 := hidIt sh; have HSx5 := hidIt (HSx4.out.ku hk); have HSHx5 := hidIt (HSHx4.out.kc hk.kc); have HKX5 := hidIt ((hk.keep HKX4.out (by decide) (by decide)).trans HKX4.out); clear sh hd hk; (try dsimp only))
      obtain ⟨x6, hx6, hb6, hk6⟩ := shot_new x5 (.slice nb D6.se.length cb1) (.slice db D6.se.length cb2) (.slice sb D6.se.length cb3)
      rw [hx6]
      have e6 := (hb6.block _ (Array.getElem?_eq_some_iff.1 HKX5.out).1).trans HKX5.out
      obtain ⟨t0, t1, t2, _⟩ := cells3 e6
      obtain ⟨v0, v1, v2, _⟩ := cells3 hk6
      have RA := hidIt (shot_rows (HSHx5.out.kc (Kc.of hb6)) rfl)
      have RB := hidIt (shot_rows (SH5.out.kc (Kc.of hb6)) rfl)
      have S6 := hidIt (HSx5.out.ext hb6)
      clear hx6 hb6 hk6 e6 b0 b1 f1 f2 f3 HSHx5 SH5 HSx5 HKX5 HKX4 HSHx4 HSx4 HDx4 TK2 RS2 NM HKX2 HSHx2 HSx2 HDx2 CX HDe SHe KE Se ST
      go_wp2_with fail
      go_loopw [14] (fun i wr => ∃ (a m : Nat), a ≤ D6.se.length ∧ i = .int .i64 a ∧ wr = x6.drewN m) (fun i _ => D6.se.length - (RowKit.intOf i).toNat)
      case atStart => exact ⟨0, 0, Nat.zero_le _, rfl, rfl⟩
      case round =>
        obtain ⟨a, m, ha, rfl, rfl⟩ := hrel
        by_cases hla : a < D6.se.length
        · have hla' : (a : Int) < (D6.se.length : Int) := by omega
          obtain ⟨p, hp⟩ : ∃ p, D6.se[a]? = some p := ⟨_, List.getElem?_eq_getElem hla⟩
          obtain ⟨gd, gs, e1, b1, e2, b2, q1, q2, q3⟩ := RB.out a p hp
          subst e1 e2
          obtain ⟨kk, hk1, hk2⟩ := F4.out p.2
          rw [hk1] at q1
          rw [hk2] at q3
          have Q1 := hidIt q1
          have Q3 := hidIt q3
          clear hp hk1 hk2 q1 q3
          go_wp2_with fail
          go_loopw [15] (fun i wr => ∃ (b m : Nat), b ≤ D2.se.length ∧ i = .int .i64 b ∧ wr = x6.drewN m) (fun i _ => D2.se.length - (RowKit.intOf i).toNat)
          case atStart => exact ⟨0, m, Nat.zero_le _, rfl, rfl⟩
          case round =>
            obtain ⟨b, m2, hb, rfl, rfl⟩ := hrel
            by_cases hlb : b < D2.se.length
            · have hlb' : (b : Int) < (D2.se.length : Int) := by omega
              obtain ⟨q, hq⟩ : ∃ q, D2.se[b]? = some q := ⟨_, List.getElem?_eq_getElem hlb⟩
              obtain ⟨hd, hs, e3, b3, e4, b4, q4, q5, q6⟩ := RA.out b q hq
              subst e3 e4
              clear hq
              by_cases hpq : p.2 = q.2
              · rw [← hpq] at q4 q5 q6
                have q1 := Q1.out
                have q3 := Q3.out
                have ex := extract_first (fiAt D2.fi p.2).bs kk
                have ts : ((fiAt D2.fi p.2).bs.take kk).length ≤ (fiAt D2.fi p.2).bs.length := by simp only [List.length_take]; omega
                rw [← strOfNums_size, ← strOfNums_size (fiAt D2.fi p.2).bs] at ts
                rw [← strOfNums_size] at ex
                clear Q1 Q3 hpq
                generalize strOfNums ((fiAt D2.fi p.2).bs.take kk) = ta at *
                generalize strOfNums (fiAt D2.fi p.2).bs = sd at *
                generalize ((fiAt D2.fi p.2).ct : Int) = ct at *
                generalize ((p.2 : Int) + 1) = num at *
                have ts1 : ¬ (sd.size : Int) < (ta.size : Int) := by omega
                have ts2 : (ta.size : Int) ≤ (sd.size : Int) := by omega
                have ts3 : decide ((sd.size : Int) < (ta.size : Int)) = false := decide_eq_false ts1
                go_upto_region 25 with fail
                go_quiet (fail)
                go_upto_region 27 with fail
                go_quiet (fail)
                go_wp2_with fail
                go_roundw
                case rel => exact ⟨b + 1, _, by omega, by go_num, rfl⟩
                case measure => simp [RowKit.intOf]; omega
              · have hne : ¬ ((p.2 : Int) + 1) = ((q.2 : Int) + 1) := by omega
                have bne : (((p.2 : Int) + 1) == ((q.2 : Int) + 1)) = false := by simpa using hne
                clear Q1 Q3
                generalize ((p.2 : Int) + 1) = num at *
                generalize ((q.2 : Int) + 1) = num2 at *
                go_upto_region 25 with fail
                go_quiet (fail)
                go_wp2_with fail
                go_roundw
                case rel => exact ⟨b + 1, _, by omega, by go_num, rfl⟩
                case measure => simp [RowKit.intOf]; omega
            · have hge : ¬ (b : Int) < (D2.se.length : Int) := by omega
              go_wp2_with fail
              go_roundw
              case rel => exact ⟨a + 1, _, by omega, by go_num, rfl⟩
              case measure => simp [RowKit.intOf]; omega
        · have hge : ¬ (a : Int) < (D6.se.length : Int) := by omega
          have FB : Hid (∀ k, Below W.heap.size W (x6.drewN k)) := fun k => ⟨S6.out.1.os, S6.out.1.tape, S6.out.1.output, S6.out.1.size, S6.out.1.block⟩
          by_cases hx0 : xs.length = 0
          · have hx0' : ¬ (0 : Int) < ((xs.length : Nat) : Int) := by omega
            obtain ⟨z1, z2⟩ := ZC6.out hx0
            have l1 : D6.se.length = 1 := by rw [z1]; rfl
            have l1' : ((D6.se.length : Nat) : Int) = 1 := by omega
            obtain ⟨gd, gs, e1, b1, e2, b2, q1, q2, q3⟩ := RB.out 0 ([122, 122], 0) (by rw [z1]; rfl)
            subst e1 e2
            rw [z2] at q1
            have q1' : x6.cell? ⟨gd, 0, none⟩ = some (.string ⟨#[49, 50, 51, 52]⟩) := q1
            clear q1 q2 q3 z1 z2 RA RB F4 ZC6
            go_wp2_with fail
            go_ret
            exact ⟨rfl, FB.out _⟩
          · have hx0' : (0 : Int) < ((xs.length : Nat) : Int) := by omega
            clear RA RB F4 ZC6
            go_wp2_with fail
            go_ret
            exact ⟨rfl, FB.out _⟩
end Go.Proofs.Ytlcgagapkkdocaa
