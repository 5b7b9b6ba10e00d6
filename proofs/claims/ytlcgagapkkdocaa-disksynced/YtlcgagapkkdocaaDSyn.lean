/- DiskSynced: the walk. -/
import Derived.Test.YtlcgagapkkdocaaDPlay
namespace Go.Proofs.Ytlcgagapkkdocaa
open Go.RowKit

set_option maxRecDepth 100000 in
set_option maxHeartbeats 8000000 in
theorem lsyn_any (CR : CrashOk) (n : Int) (v : Value) (xs : List So) (cn : Int) (ca : Option Addr) (cc : Nat) (zs : List Int) (W : World) (h : RdO W v xs) (hc : RdS W (.slice ca zs.length cc) zs) (hcn : In64 cn) (hzs : ∀ z ∈ zs, In64 z) :
    Calls Try.prog 7 #[.int .i64 n, v, .agg #[.int .i64 cn, .slice ca zs.length cc]] W fun e W' => e = .returned (.bool true) ∧ Below W.heap.size W W' := by
  have FT := hidIt (fits_any h)
  have H := hidIt h
  obtain ⟨ao, cap, rfl, hl1, hl2, hl3, hok, _⟩ := h
  have HOK := hidIt hok
  have HC := hidIt hc
  have HZ := hidIt hzs
  have HCN := hidIt hcn
  clear hok hc hzs hcn
  obtain ⟨s, hs8, hs9, SP⟩ := space_one n
  have SP := hidIt SP
  obtain ⟨w0, hw0, hb0, hk0⟩ : ∃ w0, W.alloc (.cells #[.int .i64 cn, .slice ca zs.length cc] 27) = w0 ∧ Below W.heap.size W w0 ∧ w0.heap[W.heap.size]? = some (.cells #[.int .i64 cn, .slice ca zs.length cc] 27 (0, 0)) := ⟨_, rfl, ext_alloc (Below.refl _ _) _, heap_alloc_new _ _⟩
  have S0 : Hid (Syn W #[.int .i64 cn, .slice ca zs.length cc] w0) := ⟨hb0, hk0⟩
  have FT : Hid (Calls Try.prog 19 #[.slice ao xs.length cap] w0 fun e w' => FitsR xs e ∧ Below w0.heap.size w0 w') := fits_any (H.out.ext hb0)
  clear hb0 hk0
  go_enter Try.func7, Try.ntmps7
  go_upto_region 1 with fail
  try rw [hw0]
  clear hw0
  go_upto_region 3 with (go_at_call 19; refine FT.out.mono ?_; rintro e w1 ⟨⟨r, rfl, hr⟩, hb⟩; have HFR := hidIt hr; have S1 := hidIt (S0.out.ext hb); clear hr hb)
  · go_ret
    exact ⟨rfl, S1.out.1⟩
  have hr1 : r = true := by
    cases r
    · exact absurd (show (!false) = false by assumption) (by decide)
    · rfl
  subst hr1
  obtain ⟨hx1, hx2⟩ := HFR.out rfl
  have HX2 := hidIt hx2
  clear HFR FT hx2
  have MD := hidIt (made_any s (by omega) w1 (fun q => q < W.heap.size) (fun q hq => Nat.lt_of_lt_of_le hq S1.out.1.size))
  go_upto_region 4 with (first | (go_at_call 20; refine (SP.out w1).mono ?_; rintro e w2 ⟨rfl, rfl⟩) | (go_at_call 9; refine MD.out.mono ?_; rintro e w3 ⟨d, rfl, hd, hb⟩; have HD := hidIt hd; have S3 := hidIt (S1.out.ext hb); clear hd hb))
  clear MD S0 S1 SP
  obtain ⟨w4, hw4, hb4, ho4, hv4⟩ : ∃ w', w3.alloc (.cells #[.int .u8 49, .int .u8 50, .int .u8 51, .int .u8 52] 5 (4, 5)) = w' ∧ Below w3.heap.size w3 w' ∧ RdU w' (.slice (some ⟨w3.heap.size, 0, none⟩) 4 4) [49, 50, 51, 52] ∧ ∀ g, (Value.slice (some ⟨w3.heap.size, 0, none⟩) 4 4).ownBlock = some g → w3.heap.size ≤ g ∧ g < w'.heap.size := ⟨_, rfl, ext_alloc (Below.refl _ _) _, rd_zz w3, fun g hg => by cases hg; simp⟩
  have PZ := hidIt (zz_any hs8 HD.out (by omega) hb4 ho4 hv4)
  rw [← hw4] at PZ
  clear hw4 hb4 ho4 hv4
  have hcv := Lib.run_convert_bytes_const (P := Try.prog) w3 22 5 #[.int .u8 49, .int .u8 50, .int .u8 51, .int .u8 52] 4 4 Try.underlying22 Try.underlying5
  go_upto_region 6 with (go_at_call 10; refine PZ.out.mono ?_; rintro e w5 ⟨rfl, hd, hk⟩; have HD5 := hidIt hd; have S5 := hidIt (S3.out.ku (hk.ku True)); clear hd hk)
  clear PZ HD S3 hcv
  go_wp2_with fail
  go_loopw [8] (fun i wr => ∃ (k N : Nat) (D : Dk), k ≤ xs.length ∧ i = .int .i64 k ∧ (k = 0 → D = zzD s) ∧ N ≤ 20 + 3 * k + bulk (xs.take k) ∧ Dsk (fun q => q < W.heap.size) N wr d D ∧ Syn W #[.int .i64 cn, .slice ca zs.length cc] wr) (fun i _ => xs.length - (RowKit.intOf i).toNat)
  case atStart => exact ⟨0, 20, _, Nat.zero_le _, rfl, fun _ => rfl, by omega, HD5.out.monoN (by omega) (by omega), S5.out⟩
  case round =>
    clear HD5 S5
    obtain ⟨k, N, D, hk, rfl, hz, hN, hd, hs⟩ := hrel
    have HD := hidIt hd
    have HS := hidIt hs
    have HZD := hidIt hz
    clear hd hs hz
    have hbt := bulk_le_take xs k
    have hX2 := HX2.out
    by_cases hlt : k < xs.length
    · have hlt' : (k : Int) < (xs.length : Int) := by omega
      obtain ⟨x, hx⟩ : ∃ x, xs[k]? = some x := ⟨_, List.getElem?_eq_getElem hlt⟩
      obtain ⟨rfl', rrc⟩ : RdF W (.slice x.fa x.fn x.fc) x.fs ∧ RdS W (.slice x.ca x.cl x.cc) x.cb := by
        obtain ⟨_, _, _, _, _, _, _, h6⟩ := H.out
        obtain ⟨_, _, _, _, hcs⟩ := h6 (by intro e; rw [e] at hlt; simp at hlt)
        exact ⟨(hcs k x hx).rf, (hcs k x hx).rc⟩
      obtain ⟨ao', cap', hv', _, _, _, _, h6⟩ := H.out.ext HS.out.1
      cases hv'
      obtain ⟨pb, po, ea, hpb, hcs⟩ := h6 (by intro e; rw [e] at hlt; simp at hlt)
      subst ea
      have hcx := hcs k x hx
      obtain ⟨va, vc, hv⟩ := hcx.eight
      obtain ⟨c0, c1, c2, c3, c4, c5, c6, c7, crd, _, _⟩ := hcx
      rw [hv] at c4
      have hfn : x.fs.length = x.fn := by obtain ⟨_, _, e, _⟩ := rfl'; injection e with _ e _; exact e.symm
      have hbk := bulk_take hx
      have hbt2 := bulk_le_take xs (k + 1)
      have DO : Hid (Calls Try.prog 21 #[pp d, .agg #[.int .i64 x.k, .int .i64 x.who, sv x.nm, sv x.tn, .slice va x.b.length vc, .slice x.fa x.fn x.fc, .int .i64 x.cn, .slice x.ca x.cl x.cc]] wr (DoA (fun q => q < W.heap.size) (N + 3 + x.fs.length) wr d)) := by
        have := do_all CR HD.out x (HOK.out x (List.mem_of_getElem? hx)) crd (by omega) (rfl'.ext HS.out.1) (by omega) (rrc.ext HS.out.1) (fun g hn hg => rds_lt rrc hn hg) (by omega)
        unfold opV at this
        rw [hv] at this
        exact this
      have hN2 : N + 3 + x.fs.length ≤ 20 + 3 * (k + 1) + bulk (xs.take (k + 1)) := by omega
      have HN2 := hidIt hN2
      clear hcs h6 hx rfl' rrc crd hbk hbt hbt2 hN hN2 hX2 HZD HD
      go_wp2_with (go_at_call 21; refine DO.out.mono ?_; rintro e y2 ⟨⟨r2, rfl⟩, D2, hd2, hk2⟩; have HD2 := hidIt hd2; have HS2 := hidIt (HS.out.ku hk2); clear hd2 hk2)
      go_roundw
      case rel => exact ⟨k + 1, _, D2, by omega, by go_num, fun e => by omega, HN2.out, HD2.out, HS2.out⟩
      case measure => simp [RowKit.intOf]; omega
    · have ejk : xs.length = k := by omega
      subst ejk
      have hge : ¬ (xs.length : Int) < (xs.length : Int) := by omega
      have hN9 : N ≤ 5000000 := by omega
      clear hN hbt hX2
      have RS := hidIt (Restart_any HD.out)
      go_upto_region 11 with (go_at_call 16; refine RS.out.mono ?_; rintro e wa ⟨rfl, hd, hk⟩; have HDa := hidIt hd; have Sa := hidIt (HS.out.ku (hk.ku True)); clear hd hk)
      have PN := hidIt (plan_nil HDa.out)
      go_upto_region 12 with (go_at_call 11; refine PN.out.mono ?_; rintro e wb ⟨rfl, hd, hk⟩; have HDb := hidIt hd; have Sb := hidIt (Sa.out.ku (hk.ku True)); clear hd hk)
      obtain ⟨D2, hD2⟩ : ∃ D2, D2 = D.restart.plan (fun _ => none) := ⟨_, rfl⟩
      rw [← hD2] at HDb
      have dn2 : D2.dn = false := by rw [hD2]; exact restart_dn D
      have pl2 : ∀ i, D2.pl i = none := by rw [hD2]; exact fun _ => rfl
      have ln2 : xs.length = 0 → D2.se.length = 1 := fun e => by rw [hD2, HZD.out e]; exact zz_len hs8 _
      clear RS PN HDa Sa HD HS HZD hD2
      have few2 : D2.se.length ≤ 16 := HDb.out.wf.seen.few
      have TK := hidIt (taken_p CR HDb.out (by omega) dn2 pl2 (rfl : D2.se.length = D2.se.length))
      go_upto_region 13 with (go_at_call 22; refine TK.out.mono ?_; rintro e wt ⟨E0, ⟨na, ca1, da, ca2, sa, ca3, rfl, sh, st⟩, hd, hk⟩; have SH := hidIt sh; have ST := hidIt st; have HDc := hidIt hd; have Sc := hidIt (Sb.out.ku hk); clear sh st hd hk; (try dsimp only))
      obtain ⟨we, hwe, hbe, hke⟩ := shot_new wt (.slice na D2.se.length ca1) (.slice da D2.se.length ca2) (.slice sa D2.se.length ca3)
      rw [hwe]
      have Se := hidIt (Sc.out.ext hbe)
      have HDe := hidIt (HDc.out.ext hbe)
      have SHe := hidIt (SH.out.kc (Kc.of hbe))
      have KE := hidIt hke
      obtain ⟨s0, s1, s2, _⟩ := cells3 hke
      clear hwe hbe hke TK HDb Sb Sc HDc SH
      go_cut [63] from 51 to 63 (fun sl wF => sl = .bool false ∧ wF = we)
      case first =>
        by_cases hx0 : xs.length = 0
        · have l1 := ln2 hx0
          have l1' : ((D2.se.length : Nat) : Int) = 1 := by omega
          have hx0' : ((xs.length : Nat) : Int) = 0 := by omega
          go_wp2_with fail
          go_meet
          case rel => exact ⟨rfl, rfl⟩
        · have hx0' : ¬ ((xs.length : Nat) : Int) = 0 := by omega
          have bx0 : (((xs.length : Nat) : Int) == 0) = false := by simpa using hx0'
          go_wp2_with fail
          go_meet
          case rel => exact ⟨rfl, rfl⟩
      case rest =>
        obtain ⟨rfl, rfl⟩ := hcut
        go_wp2_with fail
        go_loopw [11] (fun i wr => ∃ (j : Nat) (E : Dk), j ≤ D2.se.length ∧ i = .int .i64 j ∧ Syd D2 E j ∧ Dsk (fun q => q < W.heap.size) (5000200 + 3 * j) wr d E ∧ Syn W #[.int .i64 cn, .slice ca zs.length cc] wr ∧ Shot wr (.slice na D2.se.length ca1) (.slice da D2.se.length ca2) (.slice sa D2.se.length ca3) D2 ∧ wr.heap[wt.heap.size]? = some (.cells #[.slice na D2.se.length ca1, .slice da D2.se.length ca2, .slice sa D2.se.length ca3] 51 (0, 0))) (fun i _ => D2.se.length - (RowKit.intOf i).toNat)
        case atStart => exact ⟨0, E0, Nat.zero_le _, rfl, Syd.zero ST.out, HDe.out.monoN (by omega) (by omega), Se.out, SHe.out, KE.out⟩
        case round =>
          clear HDe Se SHe KE s0 s1 s2
          obtain ⟨j, E, hj, rfl, hy, hd, hs, hsh, hkx⟩ := hrel
          have HY := hidIt hy
          have HD := hidIt hd
          have HS := hidIt hs
          have HSH := hidIt hsh
          have HKX := hidIt hkx
          obtain ⟨s0, s1, s2, _⟩ := cells3 hkx
          clear hy hd hs hsh hkx
          by_cases hlt : j < D2.se.length
          · have hlt' : (j : Int) < (D2.se.length : Int) := by omega
            obtain ⟨p, hp⟩ : ∃ p, D2.se[j]? = some p := ⟨_, List.getElem?_eq_getElem hlt⟩
            obtain ⟨na', nc', hnv, hrow⟩ := row_at HSH.out.n
            cases hnv
            obtain ⟨gn, hgn, hgc, hcell⟩ := hrow (by omega)
            subst hgn
            have q1 := hcell j (sv p.1) (by rw [List.getElem?_map, hp]; rfl)
            obtain ⟨y1, y2⟩ := HY.out.one HD.out.wf.seen rfl hp
            have hpl : p.1.length ≤ 32 := len_of_ok ((HD.out.wf.seen.ok p (by rw [HY.out.se]; exact List.mem_of_getElem? hp)).1)
            have SY : Hid (Calls Try.prog 26 #[pp d, sv p.1] wr fun e w' => e = .returned .nilIface ∧ Dsk (fun q => q < W.heap.size) (5000200 + 3 * (j + 1)) w' d (take (opSync p.1) none E).d ∧ Ku False (fun q => q < W.heap.size) wr w') := by
              refine (Sync_any CR HD.out (by omega) p.1 (by omega)).mono ?_
              rintro e w' ⟨u, rfl, p1, p2, p3⟩
              rw [y1] at p1
              rcases p1 with ⟨_, rfl⟩ | ⟨h0, _⟩
              · exact ⟨rfl, p2, p3⟩
              · exact absurd rfl h0
            have HY2 := hidIt y2
            clear hcell hrow y1 y2 hp
            go_wp2_with (go_at_call 26; refine SY.out.mono ?_; rintro e y4 ⟨rfl, hd, hk⟩; have HD4 := hidIt hd; have HS4 := hidIt (HS.out.ku hk); have HSH4 := hidIt (HSH.out.kc hk.kc); have HKX4 := hidIt ((hk.keep HKX.out (by decide) (by decide)).trans HKX.out); clear hd hk)
            go_roundw
            case rel => exact ⟨j + 1, _, by omega, by go_num, HY2.out, HD4.out, HS4.out, HSH4.out, HKX4.out⟩
            case measure => simp [RowKit.intOf]; omega
          · have ejk : D2.se.length = j := by omega
            have hge : ¬ (j : Int) < (D2.se.length : Int) := by omega
            have HYF : Hid (Syd D2 E D2.se.length) := by rw [ejk]; exact HY.out
            clear ejk
            obtain ⟨a1, a2, a3, a4, a5, a6⟩ := HYF.out.after (c := ⟨cn, zs⟩)
            have SD : Hid (Calls Try.prog 27 #[pp d] wr fun e w' => e = .returned .nilIface ∧ Dsk (fun q => q < W.heap.size) 6000000 w' d (take opSyncDir none E).d ∧ Ku False (fun q => q < W.heap.size) wr w') := by
              refine (SyncDir_any CR HD.out (by omega)).mono ?_
              rintro e w' ⟨u, rfl, p1, p2, p3⟩
              rw [a1] at p1
              rcases p1 with ⟨_, rfl⟩ | ⟨h0, _⟩
              · exact ⟨rfl, p2.monoN (by omega) (by omega), p3⟩
              · exact absurd rfl h0
            generalize take opSyncDir none E = RR at *
            clear a1 HY HYF
            go_upto_region 22 with (go_at_call 27; refine SD.out.mono ?_; rintro e x1 ⟨rfl, hd, hk⟩; have HD1 := hidIt hd; have HS1 := hidIt (HS.out.ku hk); have HSH1 := hidIt (HSH.out.kc hk.kc); have HKX1 := hidIt ((hk.keep HKX.out (by decide) (by decide)).trans HKX.out); clear hd hk)
            have CX : Hid (Calls Try.prog 14 #[pp d, .agg #[.int .i64 cn, .slice ca zs.length cc]] x1 fun e w' => e = .returned (.tuple #[]) ∧ Dsk (fun q => q < W.heap.size) 6000000 w' d (RR.d.crash ⟨cn, zs⟩) ∧ Kd (fun q => q < W.heap.size) x1 w') := crash_gen _ _ x1 d RR.d ⟨cn, zs⟩ _ HD1.out (HC.out.ext HS1.out.1) (fun hn g hg => .inl (rds_lt HC.out hn hg)) HZ.out HCN.out
            obtain ⟨b0, b1⟩ : x1.cell? ⟨W.heap.size, 0, none⟩ = some (.int .i64 cn) ∧ x1.cell? ⟨W.heap.size, 1, none⟩ = some (.slice ca zs.length cc) := ⟨op_cell HS1.out.2 rfl 0, op_cell HS1.out.2 rfl 1⟩
            go_upto_region 23 with (go_at_call 14; refine CX.out.mono ?_; rintro e x2 ⟨rfl, hd, hk⟩; have HDx2 := hidIt hd; have HSx2 := hidIt (HS1.out.ku (hk.ku True)); have HSHx2 := hidIt (HSH1.out.kc (hk.ku True).kc); have HKX2 := hidIt ((hk.keep HKX1.out (by decide)).trans HKX1.out); clear hd hk)
            have DW := hidIt (Down_any HDx2.out)
            rw [a2] at DW
            go_upto_region 24 with (go_at_call 15; refine DW.out.mono ?_; rintro e x3 ⟨rfl, rfl⟩)
            have RS2 := hidIt (Restart_any HDx2.out)
            generalize (RR.d.crash ⟨cn, zs⟩).restart = D6 at *
            go_upto_region 25 with (go_at_call 16; refine RS2.out.mono ?_; rintro e x4 ⟨rfl, hd, hk⟩; have HDx4 := hidIt hd; have HSx4 := hidIt (HSx2.out.ku (hk.ku True)); have HSHx4 := hidIt (HSHx2.out.kc (hk.ku True).kc); have HKX4 := hidIt ((hk.keep HKX2.out (by decide)).trans HKX2.out); clear hd hk)
            have TK2 := hidIt (taken_p CR HDx4.out (by omega) a3 a4 (congrArg List.length a5))
            go_upto_region 26 with (go_at_call 22; refine TK2.out.mono ?_; rintro e x5 ⟨E5, ⟨nb, cb1, db, cb2, sb, cb3, rfl, sh, _⟩, hd, hk⟩; have SH5 := hidIt sh; have HSx5 := hidIt (HSx4.out.ku hk); have HSHx5 := hidIt (HSHx4.out.kc hk.kc); have HKX5 := hidIt ((hk.keep HKX4.out (by decide) (by decide)).trans HKX4.out); clear sh hd hk; (try dsimp only))
            obtain ⟨x6, hx6, hb6, hk6⟩ := shot_new x5 (.slice nb D2.se.length cb1) (.slice db D2.se.length cb2) (.slice sb D2.se.length cb3)
            rw [hx6]
            have e6 := (hb6.block _ (Array.getElem?_eq_some_iff.1 HKX5.out).1).trans HKX5.out
            obtain ⟨t0, t1, t2, _⟩ := cells3 e6
            obtain ⟨v0, v1, v2, _⟩ := cells3 hk6
            have SM := hidIt (same_any (HSHx5.out.kc (Kc.of hb6)) ((SH5.out.kc (Kc.of hb6)).as (D := D2) a5 a6) few2)
            have S6 := hidIt (HSx5.out.ext hb6)
            clear hx6 hb6 hk6 e6 s0 s1 s2 b0 b1 a6
            generalize D2.se.length = ln at *
            go_wp2_with (go_at_call 25; refine SM.out.mono ?_; rintro e x7 ⟨rfl, hb7⟩; have S7 := hidIt (S6.out.ext hb7); clear hb7)
            go_ret
            exact ⟨rfl, S7.out.1⟩
end Go.Proofs.Ytlcgagapkkdocaa
