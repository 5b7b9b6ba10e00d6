/- looked of the laws. -/
import Derived.Test.YtdfmpnnenjnllaaKTp
namespace Go.Proofs.Ytdfmpnnenjnllaa
open Go.RowKit

theorem same_yes (v1 v2 : Value) (zs : List Int) (w : World) (h1 : Rd .i64 w v1 zs) (h2 : Rd .i64 w v2 zs) : Calls Try.prog 15 #[v1, v2] w fun e w' => e = .returned (.bool true) ∧ Below w.heap.size w w' := by
  refine (same_any v1 v2 zs zs w h1 h2).mono ?_
  rintro e w' ⟨rfl, hb⟩
  exact ⟨by simp, hb⟩
/-- The cells of c: the keys, and marks behind them. -/
def fM (ks : List Int) (i : Nat) : Int := if i < ks.length then ks[i]?.getD 0 else wrap64 (-71 - i)
/-- .. of which the first p are written over. -/
def fW (ks : List Int) (p i : Nat) : Int := if i < p then 119 else fM ks i
set_option maxRecDepth 100000 in
set_option maxHeartbeats 4000000 in
theorem looked_any (bt bg br : Nat) (A B C : Nat → Prop) (N : Nat) (L : List (List Int × Int)) (pf : Bool) (who v : Int) (ka : Option Addr) (kn kc : Nat) (ks : List Int) (w : World)
    (h : Tp w bt bg br A B C N L) (hk : ∀ w', Kps (U3 A B C) w w' → RdS w' (.slice ka kn kc) ks) (h64 : ∀ k ∈ ks, In64 k) (hN : N + ks.length + 1 ≤ 4294967296) :
    Calls Try.prog 5 #[.pointer (some ⟨bt, 0, none⟩), .pointer (some ⟨bg, 0, none⟩), .pointer (some ⟨br, 0, none⟩), .agg #[.bool pf, .int .i64 who, .int .i64 v, .slice ka kn kc]] w fun e w' => e = .returned (.bool true) ∧ LP w w' bt bg br A B C (N + ks.length + 1) := by
  obtain ⟨w0, hw0, k0, hb0⟩ : ∃ w0, w0 = w.alloc (.cells #[.bool pf, .int .i64 who, .int .i64 v, .slice ka kn kc] 39) ∧ w0.heap[w.heap.size]? = some (.cells #[.bool pf, .int .i64 who, .int .i64 v, .slice ka kn kc] 39 (0, 0)) ∧ Below w.heap.size w w0 := ⟨_, rfl, heap_alloc_new _ _, ext_alloc (Below.refl _ _) _⟩
  have HT := hidIt h
  have HB0 := hidIt hb0
  have HK := hidIt hk
  have H64 := hidIt h64
  have HNB := hidIt hN
  have hs0 : w0.heap.size = w.heap.size + 1 := by rw [hw0, World.size_alloc]
  have HS0 := hidIt hs0
  have HK0 := hidIt k0
  have HBX : Hid (∀ y, Kps (fun k => U3 A B C k ∨ w0.heap.size ≤ k) w0 y → y.heap[w.heap.size]? = some (.cells #[.bool pf, .int .i64 who, .int .i64 v, .slice ka kn kc] 39 (0, 0))) := fun y hy => (hy.same _ (by omega) (fun e => by
    rcases e with e | e
    · have := h.lt _ e; omega
    · omega)).trans k0
  have hkn : kn = ks.length := by
    obtain ⟨⟨_, _, e, _⟩, _⟩ := hk w (Kps.refl _ _)
    cases e
    rfl
  subst hkn
  have hks : ks.length ≤ 4294967296 := by omega
  obtain ⟨_, x0, x1, x2, x3, _⟩ := cells4 k0
  have HR0 := hidIt (hk w0 (Kps.of_below _ hb0))
  have HL1 := hidIt (show (([] : List Int).length + ks.length) * 8 ≤ 140737488355328 by simp; omega)
  clear h hk h64 hN hs0 k0 hb0
  go_enter Try.func5, Try.ntmps5
  go_upto_region 1 with fail
  rw [← hw0]
  clear hw0
  go_wp2_with (at_builtin; refine wpl_ints rfl _ _ _ rfl w0.heap.size Try.info_i64 Try.underlying32 (.slice none 0 0) [] rfl (OwnI.nil _ _) _ ks rfl HR0.out HL1.out (Nat.le_refl _) ?_; intro v1 w1 ho1 hb1; obtain ⟨a1, n1, c1, e1⟩ := own_form ho1; subst e1; have HO1 := hidIt ho1; have HB1 := hidIt hb1; clear ho1 hb1)
  go_loopw [9, 10] (fun v i wr => ∃ (p : Nat) (ao : Option Addr) (n c : Nat), p ≤ 40 ∧ i = .int .i64 p ∧ v = .slice ao n c ∧ Hid (OwnI wr w0.heap.size (.slice ao n c) (ks ++ List.replicate p (-71))) ∧ Below w0.heap.size w0 wr) (fun _ i _ => 40 - (RowKit.intOf i).toNat)
  case atStart => exact ⟨0, _, _, _, Nat.zero_le _, rfl, rfl, by rw [List.replicate_zero, List.append_nil]; exact HO1.out, HB1.out⟩
  case round =>
    obtain ⟨p, ao, n, c, hp, rfl, rfl, HO, hbw⟩ := hrel
    by_cases hlt : p < 40
    · have hi1 : (p : Int) < 40 := by omega
      have HBS := hidIt hbw.size
      have HBY := hidIt (show ((ks ++ List.replicate p (-71)).length + [(-71 : Int)].length) * 8 ≤ 140737488355328 by simp only [List.length_append, List.length_replicate, List.length_singleton]; omega)
      go_wp2_with (at_builtin; refine wpl_ints rfl _ _ _ rfl w0.heap.size Try.info_i64 Try.underlying32 _ (ks ++ List.replicate p (-71)) rfl (HO.out.ext (ext_alloc (Below.refl _ _) _)) _ [-71] rfl (rds_lit wr (-71)) HBY.out (by have := HBS.out; rw [World.size_alloc]; omega) ?_; intro v' w' ho' hb'; obtain ⟨a', n', c', e'⟩ := own_form ho'; subst e'; have HO' := hidIt ho'; have HB' := hidIt hb'; clear ho' hb')
      go_roundw
      case rel => exact ⟨p + 1, _, _, _, by omega, by go_num, rfl, by rw [List.replicate_succ', ← List.append_assoc]; exact HO'.out, (ext_alloc hbw _).trans HB'.out⟩
      case measure => simp [RowKit.intOf]; omega
    · obtain rfl : p = 40 := by omega
      obtain ⟨gc, rfl⟩ : ∃ gc, ao = some ⟨gc, 0, none⟩ := by
        rcases row_form HO.out with ⟨_, e⟩ | ⟨g, c', e, _⟩
        · simp at e
        · cases e; exact ⟨g, rfl⟩
      obtain ⟨en, e2, e3, e4, e5⟩ := CB.of HO.out
      rw [List.length_append, List.length_replicate] at e2
      have HC : Hid (CB wr gc c ks.length (fM ks)) := e5.mono (by simp) (fun i hi => by unfold fM; rw [if_pos hi, List.getElem?_append_left hi])
      have HGC := hidIt e4
      have hck : ks.length ≤ c := by omega
      have HNE := hidIt en
      have hnc : n ≤ c := by rw [en, List.length_append, List.length_replicate]; exact e2
      have hx3 : wr.cell? ⟨w.heap.size, 3, none⟩ = some (.slice ka ks.length kc) := (hbw.cell (p := ⟨w.heap.size, 3, none⟩) (by have := HS0.out; show w.heap.size < _; omega)).trans x3
      have hnci : ¬ (c : Int) < 0 := by omega
      clear en e5 hlt hp HO e2 e4
      go_wp2
      go_loopw [12] (fun i wr => ∃ p : Nat, ks.length ≤ p ∧ p ≤ c ∧ i = .int .i64 p ∧ Hid (CB wr gc c p (fM ks)) ∧ Below w0.heap.size w0 wr) (fun i _ => c - (RowKit.intOf i).toNat)
      case atStart => exact ⟨ks.length, Nat.le_refl _, hck, rfl, HC.out, hbw⟩
      case round =>
        obtain ⟨p, hp1, hp2, rfl, HCp, hbw2⟩ := hrel
        by_cases hlt : p < c
        · have hi1 : (p : Int) < (c : Int) := by omega
          obtain ⟨u0, hu0⟩ := HCp.out.some hlt
          have hfz := HCp.out.frz p
          have HST := hidIt (HCp.out.set hlt (Nat.le_refl _) (wrap64 (-71 - p)))
          have hpb : p ≤ 9223372036854775807 := by omega
          go_wp2
          go_roundw
          case rel =>
            refine ⟨p + 1, by omega, by omega, by go_num, ?_, below_put hbw2 hbw2.size HST.out.2 HGC.out⟩
            refine HST.out.1.mono (Nat.le_max_right _ _) (fun i hi => ?_)
            by_cases e : i = p
            · subst e; simp only [if_true]; unfold fM; rw [if_neg (by omega)]
            · simp only [if_neg e]
          case measure => simp [RowKit.intOf]; omega
        · obtain rfl : p = c := by omega
          have HB2 := hidIt hbw2
          have HKW : Hid (Kps (fun k => U3 A B C k ∨ w0.heap.size ≤ k) w0 wr) := Kps.of_below _ hbw2 |>.mono (fun _ _ e => e)
          obtain ⟨_, z0, z1, z2, z3, _⟩ := cells4 (HBX.out wr HKW.out)
          have HTP := hidIt (HT.out.ext ((HB0.out).trans (hbw2.mono HB0.out.size)))
          clear hbw hbw2 hx3 hlt HC hp2
          cases pf
          · skip
            have HCC := hidIt HCp.out
            have HRC : Hid (∀ y, CB y gc p p (fM ks) → RdS y (.slice (some ⟨gc, 0, none⟩) ks.length p) ks) := fun y hy => hy.rd e3 hck (Nat.le_refl _) (fun i hi => by unfold fM; rw [if_pos hi]; simp [hi])
            have HEX : Hid (∀ y, Below wr.heap.size wr y → Tp y bt bg br A B C N L ∧ CB y gc p p (fM ks) ∧ y.heap[w.heap.size]? = some (.cells #[.bool false, .int .i64 who, .int .i64 v, .slice ka ks.length kc] 39 (0, 0)) ∧ RdS y (.slice ka ks.length kc) ks) := fun y hy => ⟨HTP.out.ext hy, HCC.out.ext hy, (hy.block _ (by have := HB2.out.size; have := HS0.out; omega)).trans (HBX.out wr HKW.out), HK.out y (Kps.of_below _ (HB0.out.trans ((HB2.out.mono HB0.out.size).trans (hy.mono (by have := HB2.out.size; have := HS0.out; omega)))))⟩
            have HI := hidIt (fun y (hy : Below wr.heap.size wr y) => ((HEX.out y hy).1.ti.look (by have := HNB.out; omega) (.slice (some ⟨gc, 0, none⟩) ks.length p) ks (HRC.out y (HEX.out y hy).2.1).1 H64.out))
            have HG := hidIt (fun y (hy : Below wr.heap.size wr y) => ((HEX.out y hy).1.tg.look (by have := HNB.out; omega) (.slice (some ⟨gc, 0, none⟩) ks.length p) ks (HRC.out y (HEX.out y hy).2.1).1 H64.out))
            have HD := hidIt (fun y (hy : Below wr.heap.size wr y) => by
              obtain ⟨vr, vv, us, hd⟩ := (HEX.out y hy).1.dt
              have := rlook_any br C L vr vv us (.slice ka ks.length kc) ks y hd (HEX.out y hy).2.2.2.1 (by have := HTP.out.ll; have := HNB.out; omega)
              rw [dlk_eq ks L HTP.out.uni] at this
              exact this)
            rw [lkS_tg, lkV_tg] at HG
            generalize hlv : (lkV L ks).getD 0 = x at HI HG HD
            generalize hls : lkS L ks = sx at HI HG HD
            have HTG := hidIt (fun y => tagged_any x y)
            generalize htg : tgOf x = tx at HG HTG
            obtain ⟨tn, ts⟩ := tx
            clear hlv hls htg
            go_upto_region 20 with (go_at_call 12; refine (HI.out _ (Below.refl _ _)).mono ?_; rintro e y ⟨rfl, hy⟩; (try dsimp only); have HY := hidIt hy; clear hy)
            go_upto_region 21 with (go_at_call 13; refine (HG.out _ HY.out).mono ?_; rintro e y2 ⟨rfl, hy2⟩; (try dsimp only); have HY2 := hidIt (ext_trans HY.out hy2); clear hy2)
            generalize hyA : World.alloc y2 _ = yA
            have HYA : Hid (Below wr.heap.size wr yA) := by unfold Hid; rw [← hyA]; exact ext_alloc HY2.out _
            have kA : yA.heap[y2.heap.size]? = some (.cells #[.int .i64 tn, .string ts] 50 (0, 0)) := by rw [← hyA]; exact heap_alloc_new _ _
            generalize y2.heap.size = gx at kA ⊢
            obtain ⟨_, _, _, _, m3, _⟩ := cells4 (HEX.out yA HYA.out).2.2.1
            have KA := hidIt kA
            clear hyA kA
            go_upto_region 22 with (go_at_call 14; refine (HD.out _ HYA.out).mono ?_; rintro e y3 ⟨rfl, hy3⟩; (try dsimp only); have HY3 := hidIt (ext_trans HYA.out hy3); have K3 := hidIt ((hy3.block _ (Array.getElem?_eq_some_iff.1 KA.out).1).trans KA.out); clear hy3)
            obtain ⟨_, t0, t1, _⟩ := cells2 K3.out
            have xx : (x == x) = true := by simp
            have ss : (sx == sx) = true := by simp
            have nn : (tn == tn) = true := by simp
            have bb : (ts.toList == ts.toList) = true := by simp
            go_region_held3 (fun w' => w'.cell? ⟨gx, 0, none⟩ = some (.int .i64 tn) ∧ w'.cell? ⟨gx, 1, none⟩ = some (.string ts)) (go_keep) (first | (go_at_call 10; refine (HTG.out _).mono ?_; rintro e y4 ⟨rfl, hy4⟩; (try dsimp only); have HY4 := hidIt hy4; obtain ⟨_, t0', t1', _⟩ := cells2 ((hy4.block _ (Array.getElem?_eq_some_iff.1 K3.out).1).trans K3.out); clear hy4))
            have HYZ := hidIt (ext_trans HY3.out (ext_trans (Below.refl _ _).drew HY4.out))
            obtain ⟨HTX, HCZ0, HBZ0, HRZ0⟩ := HEX.out y4 HYZ.out
            have HCZ := hidIt HCZ0
            have HBZ := hidIt HBZ0
            have HRZ := hidIt HRZ0
            have HKZ0 : Kps (U3 A B C) w y4 := Kps.of_below _ (HB0.out.trans ((HB2.out.mono HB0.out.size).trans (HYZ.out.mono (by have := HB2.out.size; have := HS0.out; omega))))
            obtain ⟨A2, B2, C2, L2, HTZ, HKZ, HSZ, HGZ⟩ : ∃ A2 B2 C2 L2, Hid (Tp y4 bt bg br A2 B2 C2 (N + ks.length + 1) L2) ∧ Hid (Kps (U3 A B C) w y4) ∧ Hid (∀ k, U3 A2 B2 C2 k → U3 A B C k ∨ w.heap.size ≤ k) ∧ Hid (¬ U3 A2 B2 C2 gc) := ⟨A, B, C, L, HTX.mono (by omega), HKZ0, fun k hk => .inl hk, fun e => by have := HT.out.lt _ e; have := HGC.out; have := HS0.out; omega⟩
            clear HTX HCZ0 HBZ0 HRZ0 HKZ0 t0 t1 t0' t1' m3 z0 z1 z2 z3 x0 x1 x2 x3 xx ss nn bb HI HG HD HTG HEX
            clear HY HY2 HYA HY3 HY4 HYZ KA K3
            generalize y4 = wz at *
            obtain ⟨_, _, _, _, d3, _⟩ := cells4 HBZ.out
            have D3 := hidIt d3
            have hwl : w.heap.size < wz.heap.size := (Array.getElem?_eq_some_iff.1 HBZ.out).1
            have HSI := hidIt (fun y (hy : Below wz.heap.size wz y) => same_yes (.slice (some ⟨gc, 0, none⟩) ks.length p) (.slice ka ks.length kc) ks y ((HRC.out wz HCZ.out).1.ext hy) (HRZ.out.1.ext hy))
            have HWL := hidIt hwl
            clear hwl
            go_upto_region 23 with fail
            go_region_held3 (fun w' => w'.cell? ⟨w.heap.size, 3, none⟩ = some (.slice ka ks.length kc)) (go_keep) (first | (go_at_call 15; refine (HSI.out _ (Below.refl _ _).drew).mono ?_; rintro e u1 ⟨rfl, hu1⟩; (try dsimp only); have HU1 := hidIt (ext_trans (Below.refl _ _).drew hu1); have d3' : u1.cell? ⟨w.heap.size, 3, none⟩ = some (.slice ka ks.length kc) := ((ext_trans (Below.refl _ _).drew hu1).cell (p := ⟨w.heap.size, 3, none⟩) HWL.out).trans D3.out; clear hu1))
            clear d3 d3'
            go_wp2
            go_loopw [13, 23] (fun o i wr => ∃ q : Nat, q ≤ p ∧ o = .bool true ∧ i = .int .i64 q ∧ Hid (CB wr gc p p (fW ks q)) ∧ Hid (Kps (fun k => k = gc) u1 wr)) (fun _ i _ => p - (RowKit.intOf i).toNat)
            case atStart => exact ⟨0, Nat.zero_le _, rfl, rfl, (HCZ.out.ext HU1.out).mono (Nat.le_refl _) (fun i hi => by simp [fW]), Kps.refl _ _⟩
            case round =>
              obtain ⟨q, hq, rfl, rfl, HCq, HKq⟩ := hrel
              by_cases hlt : q < p
              · have hi1 : (q : Int) < (p : Int) := by omega
                have hfz := HCq.out.frz q
                have hqb : q ≤ 9223372036854775807 := by omega
                have HST := hidIt (HCq.out.set hlt (Nat.le_of_lt hlt) 119)
                have HRL : Hid (CB (wr.setCell ⟨gc, q, none⟩ (.int .i64 119)) gc p p (fW ks (q + 1)) ∧ Kps (fun k => k = gc) u1 (wr.setCell ⟨gc, q, none⟩ (.int .i64 119))) := by
                  refine ⟨HST.out.1.mono (Nat.le_max_left _ _) (fun i hi => ?_), Kps.trans HKq.out (Kps.grown HST.out.2 (fun k e _ => by cases e; rfl)) (fun _ _ e => e)⟩
                  by_cases e : i = q
                  · subst e; simp [fW]
                  · simp only [if_neg e]; unfold fW; by_cases h2 : i < q
                    · rw [if_pos h2, if_pos (by omega)]
                    · rw [if_neg h2, if_neg (by omega)]
                have c0 := HCq.out.cell hlt
                by_cases hkq : q < ks.length
                · have hi2 : (q : Int) < (ks.length : Int) := by omega
                  generalize fW ks q q = old at c0
                  clear HST
                  go_wp2
                  go_roundw
                  case rel => exact ⟨q + 1, by omega, rfl, by go_num, HRL.out.1, HRL.out.2⟩
                  case measure => simp [RowKit.intOf]; omega
                · have hi2 : ¬ (q : Int) < (ks.length : Int) := by omega
                  have e1 : fW ks q q = wrap64 (-71 - q) := by unfold fW fM; rw [if_neg (by omega), if_neg hkq]
                  rw [e1] at c0
                  have ee : (wrap64 (-71 - (q : Int)) == wrap64 (-71 - (q : Int))) = true := by simp
                  clear HST e1
                  go_wp2
                  go_roundw
                  case rel => exact ⟨q + 1, by omega, rfl, by go_num, HRL.out.1, HRL.out.2⟩
                  case measure => simp [RowKit.intOf]; omega
              · obtain rfl : q = p := by omega
                have HTW : Hid (Tp wr bt bg br A2 B2 C2 (N + ks.length + 1) L2) := (HTZ.out.ext HU1.out).same (fun k hk => HKq.out.same k ((HTZ.out.ext HU1.out).lt k hk) (fun e => by subst e; exact HGZ.out hk))
                have HRW : Hid (RdS wr (.slice (some ⟨gc, 0, none⟩) ks.length q) (List.replicate ks.length 119)) := by
                  have := HCq.out.rd (zs := List.replicate ks.length 119) e3 (by simpa using hck) (Nat.le_refl _) (fun i hi => by simp at hi; simp [fW]; omega)
                  rw [List.length_replicate] at this
                  exact this
                have H119 : Hid (∀ k ∈ List.replicate ks.length (119 : Int), In64 k) := fun k hk => by rw [(List.mem_replicate.1 hk).2]; exact In64.of (by omega) (by omega)
                have HI := hidIt (HTW.out.ti.look (by have := HNB.out; omega) (.slice (some ⟨gc, 0, none⟩) ks.length q) (List.replicate ks.length 119) HRW.out.1 H119.out)
                have HC2 := hidIt (fun y (hy : Below wr.heap.size wr y) => copied_any (.slice (some ⟨gc, 0, none⟩) ks.length q) (List.replicate ks.length 119) y (HRW.out.ext hy) (by simp; omega))
                have HD := hidIt (fun y (l : Value) (hy : Below wr.heap.size wr y) (hl : Rd .i64 y l (List.replicate ks.length 119)) => by
                  obtain ⟨vr, vv, us, hd⟩ := (HTW.out.ext hy).dt
                  have := rlook_any br C2 L2 vr vv us l (List.replicate ks.length 119) y hd hl (by have := HTW.out.ll; have := HNB.out; omega)
                  rw [dlk_eq _ L2 HTW.out.uni] at this
                  exact this)
                generalize (lkV L2 (List.replicate ks.length 119)).getD 0 = x at HI HD
                generalize lkS L2 (List.replicate ks.length 119) = sx at HI HD
                have xx : (x == x) = true := by simp
                have ss : (sx == sx) = true := by simp
                clear hlt hq
                go_upto_region 30 with (go_at_call 12; refine HI.out.mono ?_; rintro e y5 ⟨rfl, hy5⟩; (try dsimp only); have HY5 := hidIt hy5; clear hy5)
                go_wp2_with (first | (go_at_call 16; refine (HC2.out _ HY5.out).mono ?_; rintro e y6 ⟨vc, rfl, hv6, hy6⟩; (try dsimp only); obtain ⟨ca, cn, cc, ce⟩ := own_form hv6; subst ce; have HV6 := hidIt hv6.rd; have HY6 := hidIt (ext_trans HY5.out hy6); clear hv6 hy6) | (go_at_call 14; refine (HD.out _ _ HY6.out HV6.out).mono ?_; rintro e y7 ⟨rfl, hy7⟩; (try dsimp only); have HY7 := hidIt (ext_trans HY6.out hy7); clear hy7))
                go_ret
                refine ⟨rfl, A2, B2, C2, L2, HTW.out.ext HY7.out, ?_, HSZ.out⟩
                refine Kps.trans (Kps.trans (Kps.trans HKZ.out (Kps.of_below (fun _ => False) HU1.out) (fun _ _ e => e.elim)) HKq.out (fun k hk e => ?_)) (Kps.of_below (fun _ => False) HY7.out) (fun _ _ e => e.elim)
                subst e
                have := HGC.out
                have := HS0.out
                omega
          · skip
            have HCC := hidIt HCp.out
            have HRC : Hid (∀ y, CB y gc p p (fM ks) → RdS y (.slice (some ⟨gc, 0, none⟩) ks.length p) ks) := fun y hy => hy.rd e3 hck (Nat.le_refl _) (fun i hi => by unfold fM; rw [if_pos hi]; simp [hi])
            have HU : Hid (∀ k, w.heap.size ≤ k → ¬ U3 A B C k) := fun k hk e => by have := HT.out.lt k e; omega
            have hgw : w.heap.size ≤ gc := by have := HGC.out; have := HS0.out; omega
            have HWR : Hid (Below w.heap.size w wr) := HB0.out.trans (HB2.out.mono HB0.out.size)
            have HKU : Hid (∀ y, Kps (U3 A B C) wr y → Kps (U3 A B C) w y ∧ CB y gc p p (fM ks) ∧ y.heap[w.heap.size]? = some (.cells #[.bool true, .int .i64 who, .int .i64 v, .slice ka ks.length kc] 39 (0, 0)) ∧ RdS y (.slice ka ks.length kc) ks) := fun y hy => by
              have k : Kps (U3 A B C) w y := Kps.trans (Kps.of_below _ HWR.out) hy (fun _ _ e => e)
              exact ⟨k, HCC.out.same (hy.same _ HCC.out.lt (HU.out _ hgw)), (hy.same _ (by have := HB2.out.size; have := HS0.out; omega) (HU.out _ (Nat.le_refl _))).trans (HBX.out wr HKW.out), HK.out y k⟩
            have hbd : N + ks.length ≤ 1099511627776 := by have := HNB.out; omega
            obtain ⟨vr, vv, us, hd⟩ := HTP.out.dt
            have HL1 : Hid (∀ X : Bool, can L ks = X → (if can (tgL L) ks = true then tgL L ++ [(ks, tgOf v)] else tgL L) = tgL (if X = true then L ++ [(ks, v)] else L)) := fun X e => by
              rw [can_tg, e]
              cases X
              · rfl
              · exact (tgL_app L ks v).symm
            generalize hcn : can L ks = cn at HL1
            have HLL := hidIt (HL1.out cn rfl)
            have HLN : Hid ((if cn = true then L ++ [(ks, v)] else L).length ≤ N + ks.length + 1) := by
              have := HTP.out.ll
              cases cn
              · show L.length ≤ _; omega
              · show (L ++ [(ks, v)]).length ≤ _; simp; omega
            have HPI : Hid (∀ y, Below wr.heap.size wr y → Calls Try.prog 8 #[.pointer (some ⟨bt, 0, none⟩), .int .i64 v, .slice (some ⟨gc, 0, none⟩) ks.length p] y fun e y1 => e = .returned (.bool cn) ∧ BI y1 bt (Sn y y1 A) (N + ks.length + 1) (if cn = true then L ++ [(ks, v)] else L) ∧ Kps A y y1) := fun y hy => by
              have := (HTP.out.ext hy).ti.put (.slice (some ⟨gc, 0, none⟩) ks.length p) ks v hbd (HRC.out y (HCC.out.ext hy)).1 H64.out (fun k off nn c e => by cases e; exact fun e => HU.out gc hgw (.inl e))
              rw [hcn] at this
              exact this
            have HPG : Hid (∀ y, Kps A wr y → Calls Try.prog 9 #[.pointer (some ⟨bg, 0, none⟩), tgV (tgOf v), .slice (some ⟨gc, 0, none⟩) ks.length p] y fun e y1 => e = .returned (.bool cn) ∧ BG y1 bg (Sn y y1 B) (N + ks.length + 1) (tgL (if cn = true then L ++ [(ks, v)] else L)) ∧ Kps B y y1) := fun y hy => by
              have hy' : Kps (U3 A B C) wr y := hy.mono (fun _ _ e => .inl e)
              have := (HTP.out.tg.same (fun k hk => hy.same k (HTP.out.tg.lt k hk) (fun e => HTP.out.ab k e hk))).put (.slice (some ⟨gc, 0, none⟩) ks.length p) ks (tgOf v) hbd (HRC.out y (HKU.out y hy').2.1).1 H64.out (fun k off nn c e => by cases e; exact fun e => HU.out gc hgw (.inr (.inl e)))
              rw [HLL.out, can_tg, hcn] at this
              exact this
            have HPR : Hid (∀ y, Kps (fun k => A k ∨ B k) wr y → Calls Try.prog 11 #[.pointer (some ⟨br, 0, none⟩), .int .i64 v, .slice ka ks.length kc] y fun e y1 => e = .returned (.bool cn) ∧ RP y y1 br C (if cn = true then L ++ [(ks, v)] else L)) := fun y hy => by
              have hy' : Kps (U3 A B C) wr y := hy.mono (fun _ _ e => e.imp id .inl)
              have := rput_any br C L vr vv us (.slice ka ks.length kc) ks v y (hd.same (fun k hk => hy.same k (hd.lt k hk) (fun e => by
                rcases e with e | e
                · exact HTP.out.ac k e hk
                · exact HTP.out.bc k e hk))) (HKU.out y hy').2.2.2.1 (by omega) (by have := HTP.out.ll; have := HNB.out; omega)
              rw [hcn] at this
              exact this
            have Z2 : Hid (∀ y, Kps (U3 A B C) wr y → y.cell? ⟨w.heap.size, 2, none⟩ = some (.int .i64 v) ∧ y.cell? ⟨w.heap.size, 3, none⟩ = some (.slice ka ks.length kc)) := fun y hy => by
              obtain ⟨_, _, _, a, b, _⟩ := cells4 (HKU.out y hy).2.2.1
              exact ⟨a, b⟩
            have cc : (cn == cn) = true := by simp
            generalize hL1g : (if cn = true then L ++ [(ks, v)] else L) = L1 at *
            clear hcn HL1 HLL hL1g hd x0 x1 x2 x3 z1
            go_upto_region 15 with fail
            go_region_held3 (fun w' => w'.cell? ⟨w.heap.size, 2, none⟩ = some (.int .i64 v)) (go_keep) (first | (go_at_call 8; refine (HPI.out _ (Below.refl _ _).drew).mono ?_; rintro e y1 ⟨rfl, hb1, hk1⟩; (try dsimp only); have hk1' : Kps A wr y1 := ⟨hk1.os, hk1.tape, hk1.output, hk1.size, hk1.same⟩; have HK1 := hidIt hk1'; have HBI := hidIt hb1; obtain ⟨y1c2, y1c3⟩ := Z2.out y1 (hk1'.mono (fun _ _ e => .inl e)); clear hb1 hk1 hk1'))
            go_upto_region 16 with fail
            go_region_held3 (fun w' => w'.cell? ⟨w.heap.size, 2, none⟩ = some (.int .i64 v)) (go_keep) (first | (go_at_call 10; refine (tagged_any v _).mono ?_; rintro e y2 ⟨rfl, hy2⟩; (try dsimp only); have hy2' : Below y1.heap.size y1 y2 := ext_trans (Below.refl _ _).drew hy2; have HY2 := hidIt hy2'; have HK2 := hidIt (Kps.trans HK1.out (Kps.of_below (fun _ => False) hy2') (fun _ _ e => e.elim)); obtain ⟨y2c2, y2c3⟩ := Z2.out y2 (HK2.out.mono (fun _ _ e => .inl e)); clear hy2 hy2') | (go_at_call 9; refine (HPG.out _ HK2.out).mono ?_; rintro e y3 ⟨rfl, hb3, hk3⟩; (try dsimp only); have HK3 := hidIt hk3; have HBG := hidIt hb3; have HK23 := hidIt (Kps.trans (o := fun k => A k ∨ B k) (HK2.out.mono (fun _ _ e => .inl e)) hk3 (fun _ _ e => .inr e)); obtain ⟨y3c2, y3c3⟩ := Z2.out y3 (HK23.out.mono (fun _ _ e => e.imp id .inl)); clear hb3 hk3))
            go_upto_region 18 with (go_at_call 11; refine (HPR.out _ HK23.out).mono ?_; rintro e y4 ⟨rfl, hd4⟩; (try dsimp only); have HD4 := hidIt hd4; clear hd4)
            obtain ⟨HTX, HKX, HSX⟩ := HTP.out.puts HBI.out HK1.out HY2.out HBG.out HK3.out HD4.out HLN.out
            obtain ⟨HKZ0, HCZ0, HBZ0, HRZ0⟩ := HKU.out y4 HKX
            have HCZ := hidIt HCZ0
            have HBZ := hidIt HBZ0
            have HRZ := hidIt HRZ0
            obtain ⟨A2, B2, C2, L2, HTZ, HKZ, HSZ, HGZ⟩ : ∃ A2 B2 C2 L2, Hid (Tp y4 bt bg br A2 B2 C2 (N + ks.length + 1) L2) ∧ Hid (Kps (U3 A B C) w y4) ∧ Hid (∀ k, U3 A2 B2 C2 k → U3 A B C k ∨ w.heap.size ≤ k) ∧ Hid (¬ U3 A2 B2 C2 gc) := ⟨_, _, _, _, HTX, HKZ0, fun k hk => (HSX k hk).imp id (fun e => by have := HB2.out.size; have := HS0.out; omega), fun e => by
              have h1 := HCC.out.lt
              rcases HSX gc e with e | e
              · exact HU.out gc hgw e
              · omega⟩
            clear HTX HCZ0 HBZ0 HRZ0 HKZ0 HKX HSX z0 z2 z3 HPI HPG HPR Z2 HKU HK1 HK2 HK3 HK23 HY2 HBI HBG HD4
            clear y1c2 y1c3 y2c2 y2c3 y3c2 y3c3 hgw hbd
            generalize y4 = wz at *
            obtain ⟨_, _, _, _, d3, _⟩ := cells4 HBZ.out
            have D3 := hidIt d3
            have hwl : w.heap.size < wz.heap.size := (Array.getElem?_eq_some_iff.1 HBZ.out).1
            have HSI := hidIt (fun y (hy : Below wz.heap.size wz y) => same_yes (.slice (some ⟨gc, 0, none⟩) ks.length p) (.slice ka ks.length kc) ks y ((HRC.out wz HCZ.out).1.ext hy) (HRZ.out.1.ext hy))
            have HWL := hidIt hwl
            clear hwl
            go_upto_region 23 with fail
            go_region_held3 (fun w' => w'.cell? ⟨w.heap.size, 3, none⟩ = some (.slice ka ks.length kc)) (go_keep) (first | (go_at_call 15; refine (HSI.out _ (Below.refl _ _).drew).mono ?_; rintro e u1 ⟨rfl, hu1⟩; (try dsimp only); have HU1 := hidIt (ext_trans (Below.refl _ _).drew hu1); have d3' : u1.cell? ⟨w.heap.size, 3, none⟩ = some (.slice ka ks.length kc) := ((ext_trans (Below.refl _ _).drew hu1).cell (p := ⟨w.heap.size, 3, none⟩) HWL.out).trans D3.out; clear hu1))
            clear d3 d3'
            go_wp2
            go_loopw [13, 23] (fun o i wr => ∃ q : Nat, q ≤ p ∧ o = .bool true ∧ i = .int .i64 q ∧ Hid (CB wr gc p p (fW ks q)) ∧ Hid (Kps (fun k => k = gc) u1 wr)) (fun _ i _ => p - (RowKit.intOf i).toNat)
            case atStart => exact ⟨0, Nat.zero_le _, rfl, rfl, (HCZ.out.ext HU1.out).mono (Nat.le_refl _) (fun i hi => by simp [fW]), Kps.refl _ _⟩
            case round =>
              obtain ⟨q, hq, rfl, rfl, HCq, HKq⟩ := hrel
              by_cases hlt : q < p
              · have hi1 : (q : Int) < (p : Int) := by omega
                have hfz := HCq.out.frz q
                have hqb : q ≤ 9223372036854775807 := by omega
                have HST := hidIt (HCq.out.set hlt (Nat.le_of_lt hlt) 119)
                have HRL : Hid (CB (wr.setCell ⟨gc, q, none⟩ (.int .i64 119)) gc p p (fW ks (q + 1)) ∧ Kps (fun k => k = gc) u1 (wr.setCell ⟨gc, q, none⟩ (.int .i64 119))) := by
                  refine ⟨HST.out.1.mono (Nat.le_max_left _ _) (fun i hi => ?_), Kps.trans HKq.out (Kps.grown HST.out.2 (fun k e _ => by cases e; rfl)) (fun _ _ e => e)⟩
                  by_cases e : i = q
                  · subst e; simp [fW]
                  · simp only [if_neg e]; unfold fW; by_cases h2 : i < q
                    · rw [if_pos h2, if_pos (by omega)]
                    · rw [if_neg h2, if_neg (by omega)]
                have c0 := HCq.out.cell hlt
                by_cases hkq : q < ks.length
                · have hi2 : (q : Int) < (ks.length : Int) := by omega
                  generalize fW ks q q = old at c0
                  clear HST
                  go_wp2
                  go_roundw
                  case rel => exact ⟨q + 1, by omega, rfl, by go_num, HRL.out.1, HRL.out.2⟩
                  case measure => simp [RowKit.intOf]; omega
                · have hi2 : ¬ (q : Int) < (ks.length : Int) := by omega
                  have e1 : fW ks q q = wrap64 (-71 - q) := by unfold fW fM; rw [if_neg (by omega), if_neg hkq]
                  rw [e1] at c0
                  have ee : (wrap64 (-71 - (q : Int)) == wrap64 (-71 - (q : Int))) = true := by simp
                  clear HST e1
                  go_wp2
                  go_roundw
                  case rel => exact ⟨q + 1, by omega, rfl, by go_num, HRL.out.1, HRL.out.2⟩
                  case measure => simp [RowKit.intOf]; omega
              · obtain rfl : q = p := by omega
                have HTW : Hid (Tp wr bt bg br A2 B2 C2 (N + ks.length + 1) L2) := (HTZ.out.ext HU1.out).same (fun k hk => HKq.out.same k ((HTZ.out.ext HU1.out).lt k hk) (fun e => by subst e; exact HGZ.out hk))
                have HRW : Hid (RdS wr (.slice (some ⟨gc, 0, none⟩) ks.length q) (List.replicate ks.length 119)) := by
                  have := HCq.out.rd (zs := List.replicate ks.length 119) e3 (by simpa using hck) (Nat.le_refl _) (fun i hi => by simp at hi; simp [fW]; omega)
                  rw [List.length_replicate] at this
                  exact this
                have H119 : Hid (∀ k ∈ List.replicate ks.length (119 : Int), In64 k) := fun k hk => by rw [(List.mem_replicate.1 hk).2]; exact In64.of (by omega) (by omega)
                have HI := hidIt (HTW.out.ti.look (by have := HNB.out; omega) (.slice (some ⟨gc, 0, none⟩) ks.length q) (List.replicate ks.length 119) HRW.out.1 H119.out)
                have HC2 := hidIt (fun y (hy : Below wr.heap.size wr y) => copied_any (.slice (some ⟨gc, 0, none⟩) ks.length q) (List.replicate ks.length 119) y (HRW.out.ext hy) (by simp; omega))
                have HD := hidIt (fun y (l : Value) (hy : Below wr.heap.size wr y) (hl : Rd .i64 y l (List.replicate ks.length 119)) => by
                  obtain ⟨vr, vv, us, hd⟩ := (HTW.out.ext hy).dt
                  have := rlook_any br C2 L2 vr vv us l (List.replicate ks.length 119) y hd hl (by have := HTW.out.ll; have := HNB.out; omega)
                  rw [dlk_eq _ L2 HTW.out.uni] at this
                  exact this)
                generalize (lkV L2 (List.replicate ks.length 119)).getD 0 = x at HI HD
                generalize lkS L2 (List.replicate ks.length 119) = sx at HI HD
                have xx : (x == x) = true := by simp
                have ss : (sx == sx) = true := by simp
                clear hlt hq
                go_upto_region 30 with (go_at_call 12; refine HI.out.mono ?_; rintro e y5 ⟨rfl, hy5⟩; (try dsimp only); have HY5 := hidIt hy5; clear hy5)
                go_wp2_with (first | (go_at_call 16; refine (HC2.out _ HY5.out).mono ?_; rintro e y6 ⟨vc, rfl, hv6, hy6⟩; (try dsimp only); obtain ⟨ca, cn, cc, ce⟩ := own_form hv6; subst ce; have HV6 := hidIt hv6.rd; have HY6 := hidIt (ext_trans HY5.out hy6); clear hv6 hy6) | (go_at_call 14; refine (HD.out _ _ HY6.out HV6.out).mono ?_; rintro e y7 ⟨rfl, hy7⟩; (try dsimp only); have HY7 := hidIt (ext_trans HY6.out hy7); clear hy7))
                go_ret
                refine ⟨rfl, A2, B2, C2, L2, HTW.out.ext HY7.out, ?_, HSZ.out⟩
                refine Kps.trans (Kps.trans (Kps.trans HKZ.out (Kps.of_below (fun _ => False) HU1.out) (fun _ _ e => e.elim)) HKq.out (fun k hk e => ?_)) (Kps.of_below (fun _ => False) HY7.out) (fun _ _ e => e.elim)
                subst e
                have := HGC.out
                have := HS0.out
                omega
end Go.Proofs.Ytdfmpnnenjnllaa
