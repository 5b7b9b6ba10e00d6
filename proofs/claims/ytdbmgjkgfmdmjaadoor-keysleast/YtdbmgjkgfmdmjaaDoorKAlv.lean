/- alive; Pending; a parser beside another one. -/
import Derived.Test.YtdbmgjkgfmdmjaaDoorKSpl
import Derived.Test.YtdbmgjkgfmdmjaaDoorKFed
namespace Go.Proofs.YtdbmgjkgfmdmjaaDoor
open Go.RowKit
theorem bgn_w : bgn (fil tTar) [119] = some 0 := by rw [filT_eq]; kernel_rfl
theorem lks_w : lkS (fil tTar) [119] = 1 := by rw [filT_eq]; kernel_rfl
theorem lkv_w : lkV (fil tTar) [119] = some ⟨1, 21, 0, 0⟩ := by rw [filT_eq]; kernel_rfl
theorem rd_w {ks : List Int} {t : Rdg} (hk : t.k = ks.length) (ho : t.o = 2) : Rdo false (ks ++ [119]) t (endN t) ⟨(endN t).r, (endN t).c, 2, 21, 0⟩ 1 := by
  refine .done (by rw [hk, List.length_append, List.length_singleton]; omega) ?_
  rw [drop_last hk, rst_cmd (by unfold bLs; rw [if_neg (by rw [ho]; decide)]) (gow_big t 119 (by decide)) (by decide) bgn_w lks_w lkv_w rfl]
  unfold rcm
  rw [if_neg (by rw [ho]; decide)]
  show Stp.fin (endN t) (cmdB { v := t.o, m := 21, a := 0, t := 0 } (endN t).r (endN t).c 0) 1 = _
  rw [ho]
  unfold cmdB
  rw [if_neg (fun h => absurd h.1 (by decide)), if_neg (by decide)]
theorem alive_keys : FedR 0 (ps0 false) [50, 100, 51, 119] ⟨0, 6, 2, 21, 0⟩ 1 := by
  have m1 : Mr 0 (ps0 false) [50] ⟨false, [50], ⟨1, 0, 0, 2, 0⟩⟩ := ⟨_, fdr_more (p := ps0 false) rfl (by decide) (rd_dig (ks := []) rfl (by decide)), rfl⟩
  have m2 : Mr 0 ⟨false, [50], ⟨1, 0, 0, 2, 0⟩⟩ [100] ⟨false, [50, 100], ⟨2, 0, 2, 0, 2⟩⟩ := ⟨_, fdr_more (p := ⟨false, [50], ⟨1, 0, 0, 2, 0⟩⟩) rfl (by decide) (rd_d (ks := [50]) rfl rfl), rfl⟩
  have m3 : Mr 0 ⟨false, [50, 100], ⟨2, 0, 2, 0, 2⟩⟩ [51] ⟨false, [50, 100, 51], ⟨3, 0, 2, 3, 2⟩⟩ := ⟨_, fdr_more (p := ⟨false, [50, 100], ⟨2, 0, 2, 0, 2⟩⟩) rfl (by decide) (rd_dig (ks := [50, 100]) rfl (by decide)), rfl⟩
  have m4 : FdR ⟨false, [50, 100, 51], ⟨3, 0, 2, 3, 2⟩⟩ 0 119 (ps0 false) ⟨0, 6, 2, 21, 0⟩ 1 := fdr_done (p := ⟨false, [50, 100, 51], ⟨3, 0, 2, 3, 2⟩⟩) rfl (by decide) (rd_w (ks := [50, 100, 51]) rfl rfl)
  exact FedR.of_mr ((m1.append m2).append m3) m4
theorem own_lit4 (w : World) (x y z u : Int) (base : Nat) (hb : base ≤ w.heap.size) : OwnI (w.alloc (.cells #[.int .i64 x, .int .i64 y, .int .i64 z, .int .i64 u] 3)) base (.slice (some ⟨w.heap.size, 0, none⟩) 4 4) [x, y, z, u] :=
  ⟨rfl, .inr ⟨w.heap.size, 4, #[.int .i64 x, .int .i64 y, .int .i64 z, .int .i64 u], rfl, hb, heap_alloc_new _ _, Nat.le_refl _, by decide, rfl, rfl⟩⟩
theorem own_lit5 (w : World) (x y z u v : Int) (base : Nat) (hb : base ≤ w.heap.size) : OwnI (w.alloc (.cells #[.int .i64 x, .int .i64 y, .int .i64 z, .int .i64 u, .int .i64 v] 3)) base (.slice (some ⟨w.heap.size, 0, none⟩) 5 5) [x, y, z, u, v] :=
  ⟨rfl, .inr ⟨w.heap.size, 5, #[.int .i64 x, .int .i64 y, .int .i64 z, .int .i64 u, .int .i64 v], rfl, hb, heap_alloc_new _ _, Nat.le_refl _, by decide, rfl, rfl⟩⟩
set_option maxRecDepth 100000 in
set_option maxHeartbeats 4000000 in
theorem alive_any (w : World) (hT : Tb w) : Calls Tryd.prog 9 #[] w fun e w' => e = .returned (.bool true) ∧ Below w.heap.size w w' := by
  have HTb := hidIt hT
  obtain ⟨w0, hw0⟩ : ∃ w0, w0 = w.alloc (.cells #[.int .i64 50, .int .i64 100, .int .i64 51, .int .i64 119] 3) := ⟨_, rfl⟩
  have HB0 : Hid (Below w.heap.size w w0) := by unfold Hid; rw [hw0]; exact ext_alloc (Below.refl _ _) _
  have HL0 : Hid (RdS w0 (.slice (some ⟨w.heap.size, 0, none⟩) 4 4) [50, 100, 51, 119]) := by unfold Hid; rw [hw0]; exact (own_lit4 w 50 100 51 119 0 (Nat.zero_le _)).rds
  have HFE := hidIt (fed_any (mode := 0) HL0.out (by intro k hk; simp only [List.mem_cons, List.not_mem_nil, or_false] at hk; exact In64.of (by omega) (by omega)) (by simp))
  have HAK := hidIt alive_keys
  have HSA := hidIt spell_alive
  clear hT
  go_enter Tryd.func9, Tryd.ntmps9
  go_upto_region 2 with (go_at_call 11; rw [← hw0]; refine HFE.out.mono ?_; rintro e y ⟨c7, s7, hfr, rfl, hb7⟩; obtain ⟨rfl, rfl⟩ := hfr.det HAK.out; (try dsimp only); have HB7 := hidIt (ext_trans HB0.out hb7); clear hfr hb7)
  obtain ⟨y8, hy8⟩ : ∃ y8, y8 = y.alloc (.cells #[.int .i64 0, .int .i64 6, .int .i64 2, .int .i64 21, .int .i64 0] 23) := ⟨_, rfl⟩
  rw [← hy8]
  have HC8 : Hid (y8.heap[y.heap.size]? = some (.cells #[.int .i64 0, .int .i64 6, .int .i64 2, .int .i64 21, .int .i64 0] 23 (0, 0))) := by unfold Hid; rw [hy8]; exact heap_alloc_new _ _
  have HB8 : Hid (Below w.heap.size w y8) := by unfold Hid; rw [hy8]; exact ext_alloc HB7.out _
  clear hy8 hw0
  have HSP := hidIt (Spell_any 0 ⟨97, 6, 2, 21, 0⟩ y8 (HTb.out.ext HB8.out))
  rw [HSA.out] at HSP
  generalize y.heap.size = g8 at *
  go_upto_region 3 with (go_at_call 10; refine HSP.out.mono ?_; rintro e y9 ⟨u9, rfl, ho9, hb9⟩; obtain ⟨ka, kn, kc, rfl, hkr⟩ := ho9.some; (try dsimp only); have HK9 := hidIt hkr; have HB9 := hidIt hb9; clear ho9 hb9 hkr)
  have HC9 := hidIt ((HB9.out.block _ (Array.getElem?_eq_some_iff.1 HC8.out).1).trans HC8.out)
  obtain ⟨_, g0, g1, g2, g3, g4, gf⟩ := cells5 HC9.out
  have HSI : Hid (Calls Tryd.prog 17 #[.slice (some ka) kn kc, .slice (some ⟨y9.heap.size, 0, none⟩) 5 5] (y9.alloc (.cells #[.int .i64 34, .int .i64 97, .int .i64 54, .int .i64 100, .int .i64 119] 3)) fun e w' => e = .returned (.bool true) ∧ Below (y9.alloc (.cells #[.int .i64 34, .int .i64 97, .int .i64 54, .int .i64 100, .int .i64 119] 3)).heap.size (y9.alloc (.cells #[.int .i64 34, .int .i64 97, .int .i64 54, .int .i64 100, .int .i64 119] 3)) w') := sameInts_any _ _ [34, 97, 54, 100, 119] _ (HK9.out.ext (ext_alloc (Below.refl _ _) _)).1 (own_lit5 y9 34 97 54 100 119 0 (Nat.zero_le _)).rds.1
  go_wp2_with (go_at_call 17; refine HSI.out.mono ?_; rintro e z ⟨rfl, hbz⟩; (try dsimp only); have HBZ := hidIt hbz; clear hbz)
  go_ret
  exact ⟨rfl, ext_trans (ext_alloc (ext_trans HB8.out HB9.out) _) HBZ.out⟩
set_option maxRecDepth 100000 in
/-- slices.Clone of whatever slice. -/
theorem clone_opt (v : Value) (zs : List Int) (w : World) (h : RdS w v zs) (hl : zs.length * 8 ≤ 140737488355328) :
    Calls Tryd.prog 31 #[v] w fun e w' => ∃ v', e = .returned v' ∧ OwnI w' w.heap.size v' zs ∧ Below w.heap.size w w' := by
  by_cases h0 : zs = []
  · subst h0
    rcases h.2 with rfl | ⟨ad, n, c, rfl⟩
    · have he := Lib.run_eql_slice_nil (P := Tryd.prog) w 25 3 none 0 0 0 0 Tryd.underlying25
      clear h hl
      go_enter Tryd.func31, Tryd.ntmps31
      go_wp2_with fail
      go_ret
      exact ⟨_, rfl, OwnI.nil _ _, Below.refl _ _⟩
    · have H := hidIt h
      have he := Lib.run_eql_slice_nil (P := Tryd.prog) w 25 3 (some ad) n c 0 0 Tryd.underlying25
      clear h
      go_enter Tryd.func31, Tryd.ntmps31
      go_wp2_with (at_builtin; refine wpl_ints rfl _ _ 25 rfl w.heap.size Tryd.info_i64 Tryd.underlying25 _ [] rfl ⟨rfl, .inr ⟨w.heap.size, 0, #[], rfl, Nat.le_refl _, heap_alloc_new _ _, Nat.le_refl _, by simp [maxLen], rfl, rfl⟩⟩ _ [] rfl (H.out.ext (ext_alloc (Below.refl _ _) _)) (by simp) (by simp) ?_; intro v2 w2 own2 hb2; have O2 := hidIt own2; have B2 := hidIt hb2; clear own2 hb2; (try dsimp only))
      go_ret
      exact ⟨_, rfl, O2.out, ((Below.refl _ _).alloc (Nat.le_refl _) _).trans B2.out⟩
  · exact clone_any v zs w h h0 hl
set_option maxRecDepth 100000 in
theorem Pending_any {w : World} {b : Nat} {pv : Value} {p : Ps} (h : PsM w b pv p) (hl : p.ks.length * 8 ≤ 140737488355328) :
    Calls Tryd.prog 15 #[.pointer (some ⟨b, 0, none⟩)] w fun e w' => ∃ v, e = .returned v ∧ OwnI w' w.heap.size v p.ks ∧ Below w.heap.size w w' := by
  have HC := hidIt (clone_opt pv p.ks w h.2.rds hl)
  obtain ⟨c7, hbl⟩ : w.cell? ⟨b, 7, none⟩ = some pv ∧ b < w.heap.size := by
    obtain ⟨m0, s0, m1, s1, m2, s2, hp, _⟩ := h.1
    obtain ⟨_, _, _, _, _, _, _, _, c7, _⟩ := cells13 hp
    exact ⟨c7, hp.lt⟩
  obtain ⟨ao, cu, rfl, _⟩ := h.2.rds.len
  clear h
  go_enter Tryd.func15, Tryd.ntmps15
  go_wp2_with (go_at_call 31; refine HC.out.mono ?_; rintro e y ⟨v, rfl, ho, hb⟩; (try dsimp only); have HO := hidIt ho; have HB := hidIt hb; clear ho hb)
  go_ret
  exact ⟨_, rfl, HO.out, HB.out⟩
/-- Another parser was fed: this one stays. -/
theorem PsM.other {w w' : World} {b1 b2 : Nat} {pv1 pv2 : Value} {p q : Ps} (h : PsM w b2 pv2 q) (h1 : PsM w b1 pv1 p) (hk : Kps (fun k => k = b1 ∨ pv1.ownBlock = some k) w w') (hne : b1 ≠ b2) (hd : ∀ k, pv1.ownBlock = some k → pv2.ownBlock ≠ some k) : PsM w' b2 pv2 q := by
  obtain ⟨cs, hcs⟩ := psr_typ h.1
  obtain ⟨cs1, hcs1⟩ := psr_typ h1.1
  refine ⟨h.1.turn hk (fun i _ e => ?_) (fun _ _ _ _ _ _ hp => (hk.same _ hp.lt (fun e => ?_)).trans hp), h.2.stay (fun g hg => ?_)⟩
  · rcases e with rfl | e
    · exact not_hv hcs1 (by decide)
    · obtain ⟨_, cur, hc⟩ := h1.2.blk e
      exact not_hv hc (by decide)
  · rcases e with e | e
    · exact hne e.symm
    · exact own_ne h1.2 hcs (by decide) e
  · obtain ⟨_, cur, hc⟩ := h.2.blk hg
    refine hk.same g (Array.getElem?_eq_some_iff.1 hc).1 (fun e => ?_)
    rcases e with rfl | e
    · rw [hc] at hcs1; cases hcs1
    · exact hd g e hg
theorem PsM.ext {w w' : World} {b : Nat} {pv : Value} {p : Ps} (h : PsM w b pv p) (hb : Below w.heap.size w w') : PsM w' b pv p := ⟨h.1.ext hb, h.2.ext hb⟩
end Go.Proofs.YtdbmgjkgfmdmjaaDoor
