import Derived.Test.YtfdceljdhgbkcaaDoorJ04
import Derived.Test.YtfdceljdhgbkcaaDoorJ25
import Derived.Test.YtfdceljdhgbkcaaDoorJ40
import Derived.Test.YtfdceljdhgbkcaaDoorTie
import Derived.Lib.LaidTab
import Derived.LaidMore
import Derived.Stop.Joined
import Derived.Stop.LaidErr
import Derived.OpenShut
import Derived.ProofKit
import Derived.LaidLaws
import Derived.ChangeArms
import Derived.Test.YtfdceljdhgbkcaaDoorCards
import Derived.SevenTiedAt
/- The law's played: a step of a pair. -/
namespace Go.Proofs.YtfdceljdhgbkcaaDoor
open Go.RowKit
section
variable {o : Nat → Prop} {wB w w0 y z : World} {b d e0 e1 : Nat} {pv dv : Value} {p : Ps}
theorem PlR.wrap (hb0 : Below w.heap.size w w0) (h : PlR o wB w0 b pv p d e0 e1 dv y) (hb : Below y.heap.size y z) : PlR o wB w b pv p d e0 e1 dv z := by
  obtain ⟨pv', p', dv', k1, k2, k3, k4, k5⟩ := h
  have hs := hb0.size
  exact ⟨pv', p', dv', k1.ext hb, k2, ((Kps.of_below _ hb0).trans k3 (fun _ _ e => e)).trans (Kps.of_below _ hb) (fun _ _ e => e), fun k e => (k4 k e).imp id (fun e => by omega), fun k e => (k5 k e).imp id (fun e => by omega)⟩
theorem PlR.same (h : Pr o wB w b pv p d e0 e1 dv) (hb : Below w.heap.size w z) : PlR o wB w b pv p d e0 e1 dv z :=
  ⟨pv, p, dv, h.ext hb, by omega, Kps.of_below _ hb, fun _ e => .inl e, fun _ e => .inl e⟩
end
/-- A row of the call's own that is not empty. -/
theorem own_some {w : World} {B n c : Nat} {ao : Option Addr} {zs : List Int} (h : OwnI w B (.slice ao n c) zs) (hz : 0 < zs.length) : ∃ g, ao = some ⟨g, 0, none⟩ ∧ B ≤ g := by
  obtain ⟨h1, h2⟩ := h
  rcases h2 with ⟨_, h2⟩ | ⟨g', cap, cur, hv, hb, _⟩
  · rw [List.length_map] at h1
    simp at h2
    subst h2
    cases hz
  · injection hv with e1 e2 e3
    exact ⟨g', e1, hb⟩
theorem own_set {w : World} {B g n c : Nat} {zs : List Int} (h : OwnI w B (.slice (some ⟨g, 0, none⟩) n c) zs) (j : Nat) (hj : j < zs.length) (x : Int) : OwnI (w.setCell ⟨g, j, none⟩ (.int .i64 x)) B (.slice (some ⟨g, 0, none⟩) n c) (zs.set j x) ∧ w.grownBy (w.setCell ⟨g, j, none⟩ (.int .i64 x)) (some g) ∧ (∃ y, w.cell? ⟨g, j, none⟩ = some (.int .i64 y)) ∧ w.frozen? ⟨g, j, none⟩ = false := by
  obtain ⟨h1, h2⟩ := h
  rcases h2 with ⟨h2, _⟩ | ⟨g', cap, cur, hv, hb, hg, k1, k2, k3, k4⟩
  · cases h2
  · cases hv
    obtain ⟨e, gr⟩ := set1 hg j (.int .i64 x)
    rw [Nat.mul_one] at k4 k3
    have hcur : cur[j]? = some (.int .i64 (zs[j]?.getD 0)) := by
      have := congrArg (fun l => l[j]?) k4
      simp only [List.getElem?_take_of_lt hj, List.getElem?_map, Array.getElem?_toList] at this
      rw [this]
      simp [hj]
    refine ⟨⟨by simp, .inr ⟨g, c, _, by simp, hb, e, by simpa using k1, k2, by simpa using k3, ?_⟩⟩, gr, ⟨zs[j]?.getD 0, by simp [World.cell?, hg, hcur]⟩, by simp [World.frozen?, hg]⟩
    rw [Nat.mul_one, List.length_set, Array.toList_setIfInBounds, List.map_set, ← k4, List.take_set]
set_option maxRecDepth 100000 in
set_option maxHeartbeats 8000000 in
theorem played_any {o : Nat → Prop} {wB w : World} {b d e0 e1 : Nat} {pv dv : Value} {p : Ps} (h : Pr o wB w b pv p d e0 e1 dv) (hl : p.ks.length < 17592186044416) (kd who md ky : Int) (hx : In64 ky) :
    Calls Tryd.prog 14 #[.pointer (some ⟨b, 0, none⟩), .pointer (some ⟨d, 0, none⟩), .agg #[.int .i64 kd, .int .i64 who, .int .i64 md, .int .i64 ky]] w fun e w' => e = .returned (.bool true) ∧ PlR o wB w b pv p d e0 e1 dv w' := by
  obtain ⟨da, dc, rfl, _⟩ := h.ow.rds.len
  obtain ⟨w0, hw0⟩ : ∃ w0, w0 = w.alloc (.cells #[.int .i64 kd, .int .i64 who, .int .i64 md, .int .i64 ky] 40) := ⟨_, rfl⟩
  have HB0 : Hid (Below w.heap.size w w0) := by unfold Hid; rw [hw0]; exact ext_alloc (Below.refl _ _) _
  have H0 := hidIt (h.ext HB0.out)
  have HX0 : Hid (w0.heap[w.heap.size]? = some (.cells #[.int .i64 kd, .int .i64 who, .int .i64 md, .int .i64 ky] 40 (0, 0))) := by unfold Hid; rw [hw0]; exact heap_alloc_new _ _
  have HL := hidIt hl
  have HKY := hidIt hx
  clear h hl hx
  go_enter Tryd.func14, Tryd.ntmps14
  go_upto_region 1 with fail
  rw [← hw0]
  clear hw0
  generalize hwz : w.heap.size = gx at HX0 ⊢
  clear hwz
  by_cases k1 : kd = 1
  · subst k1
    obtain ⟨x0, x1, x2, x3, xf, xb⟩ := cells4p HX0.out
    have HFD := hidIt (feed_any H0.out.pm H0.out.ok HL.out md ky HKY.out)
    go_upto_region 4 with (go_at_call 30; refine HFD.out.mono ?_; rintro e y ⟨q, ⟨cr, cc, cv, cm, ca⟩, s, pw, hf, rfl, hp, hk, hn⟩; (try dsimp only); have HM := hidIt (H0.out.mid hp hk hn); have HD := hidIt (fdr_doc H0.out.di hf); have HQ := hidIt (hf.ok H0.out.ok HKY.out (Nat.lt_trans HL.out (by decide))); have HXY := hidIt ((hk.same _ xb (fun e => e.elim (fun e => by obtain ⟨cs, hcs⟩ := psr_typ H0.out.pm.1; rw [← e, HX0.out] at hcs; cases hcs) (fun e => own_ne H0.out.pm.2 HX0.out (by decide) e))).trans HX0.out); clear hf hp hk hn HFD)
    clear x0 x1 x2 x3 xf xb
    obtain ⟨y2, hy2⟩ : ∃ y2, y2 = y.alloc (.cells #[.int .i64 cr, .int .i64 cc, .int .i64 cv, .int .i64 cm, .int .i64 ca] 23) := ⟨_, rfl⟩
    rw [← hy2]
    have hb2 : Below y.heap.size y y2 := by rw [hy2]; exact ext_alloc (Below.refl _ _) _
    have HC2 : Hid (y2.heap[y.heap.size]? = some (.cells #[.int .i64 cr, .int .i64 cc, .int .i64 cv, .int .i64 cm, .int .i64 ca] 23 (0, 0))) := by unfold Hid; rw [hy2]; exact heap_alloc_new _ _
    have HM2 := hidIt (HM.out.ext hb2)
    have HX2 := hidIt ((hb2.block _ (Array.getElem?_eq_some_iff.1 HXY.out).1).trans HXY.out)
    obtain ⟨x0, x1, x2, x3, xf, xb⟩ := cells4p HX2.out
    clear hy2 hb2 HXY
    generalize y.heap.size = g2 at *
    have HFE := hidIt (r_Feed_any HM2.out.dr HM2.out.t0 HM2.out.t1 HM2.out.ow HL.out md ky)
    rw [HD.out.1] at HFE
    go_upto_region 5 with (go_at_call 31; refine HFE.out.mono ?_; rintro e z ⟨dw, rfl, hr, _, _, ho, hk, hn⟩; (try dsimp only); have HP := hidIt (HM2.out.fin H0.out HQ.out.1 HD.out.2 HQ.out.2.2.1 (by rw [HQ.out.2.1]; exact hr) ho hk hn); have HCZ := hidIt ((hk.same _ (Array.getElem?_eq_some_iff.1 HC2.out).1 (fun e => by have h1 := HC2.out; rw [e, HM2.out.dr] at h1; cases h1)).trans HC2.out); clear hr ho hk hn HFE)
    clear x0 x1 x2 x3 xf xb
    obtain ⟨z2, hz2⟩ : ∃ z2, z2 = z.alloc (.cells #[.int .i64 cr, .int .i64 cc, .int .i64 cv, .int .i64 cm, .int .i64 ca] 23) := ⟨_, rfl⟩
    rw [← hz2]
    have hb3 : Below z.heap.size z z2 := by rw [hz2]; exact ext_alloc (Below.refl _ _) _
    have HC3 : Hid (z2.heap[z.heap.size]? = some (.cells #[.int .i64 cr, .int .i64 cc, .int .i64 cv, .int .i64 cm, .int .i64 ca] 23 (0, 0))) := by unfold Hid; rw [hz2]; exact heap_alloc_new _ _
    have HBZ := hidIt hb3
    have HCY := hidIt ((hb3.block _ (Array.getElem?_eq_some_iff.1 HCZ.out).1).trans HCZ.out)
    clear hz2 hb3 HCZ HC2
    generalize hgz : z.heap.size = g3 at HC3 ⊢
    clear hgz
    obtain ⟨_, a0, a1, a2, a3, a4, af⟩ := cells5 HC3.out
    obtain ⟨_, c0, c1, c2, c3, c4, cf⟩ := cells5 HCY.out
    go_wp2_with fail
    go_ret
    exact ⟨rfl, HP.out.wrap HB0.out HBZ.out⟩
  · have k1b : (kd == 1) = false := by simpa using k1
    by_cases k2 : kd = 2
    · subst k2
      obtain ⟨x0, x1, x2, x3, xf, xb⟩ := cells4p HX0.out
      have HPE := hidIt (Pending_any H0.out.pm (by have := HL.out; omega))
      go_upto_region 8 with (go_at_call 32; refine HPE.out.mono ?_; rintro e y ⟨v, rfl, ho, hb⟩; obtain ⟨va, vc, rfl, _⟩ := ho.rds.len; (try dsimp only); have HO := hidIt ho; have HB := hidIt hb; clear ho hb HPE)
      clear x0 x1 x2 x3 xf xb
      obtain ⟨d0, d1, d2, d3, df, db⟩ := cells4p (H0.out.ext HB.out).dr
      have HSI := hidIt (sameInts_any _ _ _ y HO.out.rds.1 (H0.out.ext HB.out).ow.rds.1)
      go_upto_region 9 with (go_at_call 10; refine HSI.out.mono ?_; rintro e y2 ⟨rfl, hb2⟩; (try dsimp only); have HB2 := hidIt hb2; clear hb2 HSI)
      clear d0 d1 d2 d3 df db
      have HBY : Hid (Below w0.heap.size w0 y2) := ext_trans HB.out HB2.out
      have HO2 := hidIt (HO.out.ext HB2.out)
      have hn9 : p.ks.length ≤ 9223372036854775807 := by have := HL.out; omega
      obtain ⟨n, HLP⟩ : ∃ n, Hid (n = p.ks.length) := ⟨_, hidIt rfl⟩
      rw [← HLP.out] at hn9 HO2 ⊢
      clear HO HB HB2
      go_upto_region 10 with fail
      go_loopw [13] (fun iv wr => ∃ (i : Nat) (zs : List Int), i ≤ n ∧ iv = .int .i64 i ∧ Hid (zs.length = n) ∧ Hid (OwnI wr w0.heap.size (.slice va n vc) zs) ∧ Hid (Below w0.heap.size w0 wr)) (fun iv _ => n - (RowKit.intOf iv).toNat)
      case atStart => exact ⟨0, p.ks, Nat.zero_le _, rfl, HLP.out.symm, HO2.out, HBY.out⟩
      case round =>
        obtain ⟨i, zs, hi, rfl, HZ, HOW, HBW⟩ := hrel
        by_cases hlt : i < n
        · have hiI : (i : Int) < (n : Int) := by omega
          obtain ⟨g, rfl, hg⟩ := own_some HOW.out (by rw [HZ.out]; omega)
          obtain ⟨HS, hgr, ⟨u, hu⟩, hfz⟩ : Hid _ ∧ _ := ⟨hidIt (own_set HOW.out i (by rw [HZ.out]; exact hlt) 120).1, (own_set HOW.out i (by rw [HZ.out]; exact hlt) 120).2⟩
          have HB3 := hidIt (HBW.out.trans ((Kps.grown (o := fun k => k = g) hgr (fun k e _ => (Option.some.inj e).symm)).below HBW.out.size (fun k e => by rw [e]; exact hg)))
          clear hgr hg
          go_wp2_with fail
          go_roundw
          case rel => exact ⟨i + 1, _, by omega, rfl, by unfold Hid; rw [List.length_set]; exact HZ.out, HS.out, HB3.out⟩
          case measure => simp [RowKit.intOf]; omega
        · have hiI : ¬ (i : Int) < (n : Int) := by omega
          go_wp2_with fail
          go_ret
          exact ⟨rfl, (PlR.same H0.out HBW.out).wrap HB0.out (Below.refl _ _)⟩
    · have k2b : (kd == 2) = false := by simpa using k2
      by_cases k3 : kd = 3
      · subst k3
        obtain ⟨x0, x1, x2, x3, xf, xb⟩ := cells4p HX0.out
        have HRS := hidIt (reset_any H0.out.pm.1)
        go_upto_region 16 with (go_at_call 33; refine HRS.out.mono ?_; rintro e y ⟨rfl, hp, hk⟩; (try dsimp only); have HM := hidIt (H0.out.mid (q := ps0 p.sl) ⟨hp, OwnI.nil _ _⟩ (hk.mono (fun _ _ e => .inl e)) (fun k e => by cases e)); clear hp hk HRS)
        clear x0 x1 x2 x3 xf xb
        have HRR := hidIt (r_Reset_any HM.out.dr)
        go_upto_region 17 with (go_at_call 34; refine HRR.out.mono ?_; rintro e z ⟨rfl, hr, hk⟩; (try dsimp only); have HP := hidIt (HM.out.fin H0.out (ps0_ok _) (DI.init _) (Nat.zero_le _) hr (OwnI.nil _ _) hk (fun k e => by cases e)); clear hr hk HRR)
        go_wp2_with fail
        go_ret
        exact ⟨rfl, HP.out.wrap HB0.out (Below.refl _ _)⟩
      · have k3b : (kd == 3) = false := by simpa using k3
        clear k1 k2 k3
        obtain ⟨x0, x1, x2, x3, xf, xb⟩ := cells4p HX0.out
        go_wp2_with fail
        go_ret
        exact ⟨rfl, (PlR.same H0.out (Below.refl _ _)).wrap HB0.out (Below.refl _ _)⟩
end Go.Proofs.YtfdceljdhgbkcaaDoor

/- The law's fits; KeysFeed: the walk. -/
namespace Go.Proofs.YtfdceljdhgbkcaaDoor
open Go.RowKit
/-- A truth. -/
def IsB (v : Value) : Prop := ∃ r : Bool, v = .bool r
set_option maxRecDepth 100000 in
set_option maxHeartbeats 2000000 in
theorem fits_any {w : World} {v : Value} {xs : List Ko} (h : RdK w v xs) :
    Calls Tryd.prog 11 #[v] w fun e w' => ∃ v, e = .returned v ∧ IsB v ∧ Below w.heap.size w w' := by
  obtain ⟨ao, cap, rfl, h2, h3, h4, _, h6⟩ := h
  have HRD := hidIt h6
  clear h6
  go_enter Tryd.func11, Tryd.ntmps11
  go_wp2_with fail
  go_loopw [3, 4] (fun nv iv wr => ∃ (j t : Nat), j ≤ xs.length ∧ nv = .int .i64 t ∧ iv = .int .i64 j ∧ t ≤ j ∧ Hid (Below w.heap.size w wr)) (fun _ iv _ => xs.length - (RowKit.intOf iv).toNat)
  case atStart => exact ⟨0, 0, Nat.zero_le _, rfl, rfl, Nat.le_refl _, Below.refl _ _⟩
  case round =>
    obtain ⟨j, t, hj, rfl, rfl, htj, HBW⟩ := hrel
    by_cases hlt : j < xs.length
    · have hjI : (j : Int) < (xs.length : Int) := by omega
      obtain ⟨x, hx⟩ : ∃ x, xs[j]? = some x := ⟨_, List.getElem?_eq_getElem hlt⟩
      obtain ⟨b, off, rfl, hb, hc⟩ := HRD.out (by intro e; rw [e] at hlt; cases hlt)
      have c3 := ((hc j x hx).low hb HBW.out).c3
      generalize x.ky = ky at c3
      clear hc hx hb HRD
      by_cases k1 : 48 ≤ ky
      · by_cases k2 : ky ≤ 57
        · go_wp2_with fail
          go_roundw
          case rel => exact ⟨j + 1, t + 1, by omega, rfl, by go_num, by omega, HBW.out⟩
          case measure => simp [RowKit.intOf]; omega
        · by_cases k3 : ky = 34
          · omega
          · have k3b : (ky == 34) = false := by simpa using k3
            clear k3
            go_wp2_with fail
            go_roundw
            case rel => exact ⟨j + 1, t, by omega, rfl, by go_num, by omega, HBW.out⟩
            case measure => simp [RowKit.intOf]; omega
      · by_cases k3 : ky = 34
        · subst k3
          clear k1
          go_wp2_with fail
          go_roundw
          case rel => exact ⟨j + 1, t + 1, by omega, rfl, by go_num, by omega, HBW.out⟩
          case measure => simp [RowKit.intOf]; omega
        · have k3b : (ky == 34) = false := by simpa using k3
          clear k3
          go_wp2_with fail
          go_roundw
          case rel => exact ⟨j + 1, t, by omega, rfl, by go_num, by omega, HBW.out⟩
          case measure => simp [RowKit.intOf]; omega
    · have hjI : ¬ (j : Int) < (xs.length : Int) := by omega
      go_wp2_with fail
      go_ret
      exact ⟨_, rfl, ⟨_, rfl⟩, HBW.out⟩
/-- What the loop begins with. -/
theorem Two.begin {wB : World} {b1 b2 d1 d2 e0 e1 f0 f1 : Nat} {o : Nat → Prop} (ho : ∀ k, o k ↔ k = b1 ∨ k = b2 ∨ k = d1 ∨ k = d2) (h1 : Psr wB b1 false (.slice none 0 0) rdg0) (h2 : Psr wB b2 false (.slice none 0 0) rdg0) (r1 : DpR wB d1 e0 e1 (.slice none 0 0) false) (r2 : DpR wB d2 f0 f1 (.slice none 0 0) false) (t1 : TbM wB e0 false) (t2 : TbM wB e1 true) (t3 : TbM wB f0 false) (t4 : TbM wB f1 true) (nb : b1 ≠ b2) (nd : d1 ≠ d2) : Two o wB wB b1 (.slice none 0 0) (ps0 false) d1 e0 e1 (.slice none 0 0) b2 (.slice none 0 0) (ps0 false) d2 f0 f1 (.slice none 0 0) := by
  have ot : Othr2 wB o := fun k e => by
    rcases (ho k).1 e with rfl | rfl | rfl | rfl
    · obtain ⟨cs, hcs⟩ := psr_typ h1
      exact ⟨_, _, hcs, by decide, by decide, by decide, by decide⟩
    · obtain ⟨cs, hcs⟩ := psr_typ h2
      exact ⟨_, _, hcs, by decide, by decide, by decide, by decide⟩
    · exact ⟨_, _, r1, by decide, by decide, by decide, by decide⟩
    · exact ⟨_, _, r2, by decide, by decide, by decide, by decide⟩
  exact ⟨⟨⟨h1, OwnI.nil _ _⟩, ps0_ok _, DI.init _, r1, OwnI.nil _ _, t1, t2, Kps.refl _ _, ot, (ho _).2 (.inl rfl), (ho _).2 (.inr (.inr (.inl rfl))), fun k e => (by cases e), fun k e => (by cases e)⟩, ⟨⟨h2, OwnI.nil _ _⟩, ps0_ok _, DI.init _, r2, OwnI.nil _ _, t3, t4, Kps.refl _ _, ot, (ho _).2 (.inr (.inl rfl)), (ho _).2 (.inr (.inr (.inr rfl))), fun k e => (by cases e), fun k e => (by cases e)⟩, nb, nd, fun k e => (by cases e), fun k e => (by cases e)⟩
set_option maxRecDepth 100000 in
set_option maxHeartbeats 8000000 in
theorem feed_law {w : World} {v : Value} {xs : List Ko} (h : RdK w v xs) (hT : Tb w) :
    Calls Tryd.prog 4 #[v] w fun e w' => e = .returned (.bool true) ∧ Below w.heap.size w w' := by
  have HFI := hidIt (fits_any h)
  obtain ⟨ao, cap, rfl, h2, h3, h4, h5, h6⟩ := h
  have HOK := hidIt h5
  have HRD := hidIt h6
  have HT := hidIt hT
  have hx9 : xs.length ≤ 9223372036854775807 := by omega
  have HX : Hid (xs.length ≤ 4398046511104) := h4
  clear h2 h3 h4 h5 h6 hT
  go_enter Tryd.func4, Tryd.ntmps4
  go_wp2_with fail
  go_at_call 11
  refine HFI.out.mono ?_
  rintro e w1 ⟨_, rfl, ⟨r, rfl⟩, hb1⟩
  have HB1 := hidIt hb1
  (try dsimp only)
  clear hb1 HFI
  cases r
  · go_wp2_with fail
    go_ret
    exact ⟨rfl, HB1.out⟩
  · have HAL := hidIt (alive_any w1 (HT.out.ext HB1.out))
    go_upto_region 4 with (go_at_call 5; refine HAL.out.mono ?_; rintro e w2 ⟨rfl, hb2⟩; (try dsimp only); have HB2 := hidIt (ext_trans HB1.out hb2); clear hb2)
    have HN1 := hidIt (new_any w2)
    go_upto_region 5 with (go_at_call 12; refine HN1.out.mono ?_; rintro e w3 ⟨rfl, hb3, hp3⟩; (try dsimp only); have HB3 := hidIt hb3; have HP3 := hidIt hp3; clear hb3 hp3)
    have HN2 := hidIt (new_any w3)
    go_upto_region 6 with (go_at_call 12; refine HN2.out.mono ?_; rintro e w4 ⟨rfl, hb4, hp4⟩; (try dsimp only); have HB4 := hidIt hb4; have HP4 := hidIt hp4; clear hb4 hp4)
    go_upto_region 8 with fail
    have HN3 := hidIt (r_New_any w4)
    go_upto_region 9 with (go_at_call 13; refine HN3.out.mono ?_; rintro e w5 ⟨d1, rfl, hd1, ⟨⟨e0, e1, hr5, ht0, ht1⟩, _⟩, hb5⟩; (try dsimp only); have HD1 := hidIt hd1; have HR5 := hidIt hr5; have HT0 := hidIt ht0; have HT1 := hidIt ht1; have HB5 := hidIt hb5; clear hd1 hr5 ht0 ht1 hb5)
    have HN4 := hidIt (r_New_any w5)
    go_upto_region 10 with (go_at_call 13; refine HN4.out.mono ?_; rintro e wB ⟨d2, rfl, hd2, ⟨⟨f0, f1, hr6, ht2, ht3⟩, _⟩, hb6⟩; (try dsimp only); have HD2 := hidIt hd2; have HR6 := hidIt hr6; have HT2 := hidIt ht2; have HT3 := hidIt ht3; have HB6 := hidIt hb6; clear hd2 hr6 ht2 ht3 hb6)
    obtain ⟨b1, hb1⟩ : ∃ b1, b1 = w2.heap.size := ⟨_, rfl⟩
    obtain ⟨b2, hb2⟩ : ∃ b2, b2 = w3.heap.size := ⟨_, rfl⟩
    rw [← hb1, ← hb2]
    rw [← hb1] at HP3
    rw [← hb2] at HP4
    obtain ⟨o, HO⟩ : ∃ o : Nat → Prop, Hid (∀ k, o k ↔ k = b1 ∨ k = b2 ∨ k = d1 ∨ k = d2) := ⟨_, hidIt (fun _ => Iff.rfl)⟩
    have HWB : Hid (Below w.heap.size w wB) := ext_trans (ext_trans (ext_trans (ext_trans HB2.out HB3.out) HB4.out) HB5.out) HB6.out
    have HJ0 : Hid (Two o wB wB b1 (.slice none 0 0) (ps0 false) d1 e0 e1 (.slice none 0 0) b2 (.slice none 0 0) (ps0 false) d2 f0 f1 (.slice none 0 0)) := Two.begin HO.out (((HP3.out.ext HB4.out).ext HB5.out).ext HB6.out) ((HP4.out.ext HB5.out).ext HB6.out) ((HB6.out.block _ (Array.getElem?_eq_some_iff.1 HR5.out).1).trans HR5.out) HR6.out (HT0.out.ext HB6.out) (HT1.out.ext HB6.out) HT2.out HT3.out (by have := HP3.out.lt; omega) (by have := HD2.out; have := (Array.getElem?_eq_some_iff.1 HR5.out).1; omega)
    have HLO : Hid (∀ k, o k → w.heap.size ≤ k) := fun k e => by
      have s1 := HB2.out.size
      have s2 := HB3.out.size
      have s3 := HB4.out.size
      have s4 := HB5.out.size
      have s5 := HD1.out
      have s6 := HD2.out
      rcases (HO.out k).1 e with e | e | e | e <;> omega
    clear hb1 hb2 HB1 HB2 HB3 HB4 HB5 HB6 HP3 HP4 HD1 HD2 HR5 HR6 HT0 HT1 HT2 HT3 HN1 HN2 HN3 HN4 HAL HT
    go_upto_region 11 with fail
    go_loopw [8] (fun iv wr => ∃ (j : Nat) (pv1 : Value) (p1 : Ps) (dv1 pv2 : Value) (p2 : Ps) (dv2 : Value), j ≤ xs.length ∧ iv = .int .i64 j ∧ Hid (Two o wB wr b1 pv1 p1 d1 e0 e1 dv1 b2 pv2 p2 d2 f0 f1 dv2) ∧ Hid (p1.ks.length ≤ j ∧ p2.ks.length ≤ j ∧ j ≤ 4398046511104)) (fun iv _ => xs.length - (RowKit.intOf iv).toNat)
    case atStart => exact ⟨0, _, _, _, _, _, _, Nat.zero_le _, rfl, HJ0.out, ⟨Nat.zero_le _, Nat.zero_le _, by omega⟩⟩
    case round =>
      obtain ⟨j, pv1, p1, dv1, pv2, p2, dv2, hj, rfl, HJ, HJL⟩ := hrel
      have HBW : Hid (Below w.heap.size w wr) := HWB.out.trans (HJ.out.a.kp.below HWB.out.size HLO.out)
      by_cases hlt : j < xs.length
      · have hjI : (j : Int) < (xs.length : Int) := by omega
        have HXJ : Hid (j + 1 ≤ 4398046511104) := by unfold Hid; have := HX.out; omega
        obtain ⟨x, hx⟩ : ∃ x, xs[j]? = some x := ⟨_, List.getElem?_eq_getElem hlt⟩
        obtain ⟨sb, off, rfl, hsb, hc⟩ := HRD.out (by intro e; rw [e] at hlt; cases hlt)
        obtain ⟨c0, c1, c2, c3⟩ := (hc j x hx).low hsb HBW.out
        clear hc
        by_cases hw2 : x.who.tmod 2 = 0
        · have hw2b : (x.who.tmod 2 == 0) = true := by simpa using hw2
          have HPY := hidIt (played_any HJ.out.a (by have := HJL.out; omega) x.k x.who x.md x.ky (HOK.out x (List.mem_of_getElem? hx)).ky)
          go_wp2_with (go_at_call 14; refine HPY.out.mono ?_; rintro e y ⟨rfl, hp⟩; (try dsimp only); have HP := hidIt (HJ.out.step hp); clear hp HPY)
          go_roundw
          case rel =>
            obtain ⟨pv, p, dv, k1, k2⟩ := HP.out
            exact ⟨j + 1, pv, p, dv, pv2, p2, dv2, by omega, by go_num, k1, by unfold Hid; have := HJL.out; have := HXJ.out; omega⟩
          case measure => simp [RowKit.intOf]; omega
        · have hw2b : (x.who.tmod 2 == 0) = false := by simpa using hw2
          have HPY := hidIt (played_any HJ.out.swap.a (by have := HJL.out; omega) x.k x.who x.md x.ky (HOK.out x (List.mem_of_getElem? hx)).ky)
          go_wp2_with (go_at_call 14; refine HPY.out.mono ?_; rintro e y ⟨rfl, hp⟩; (try dsimp only); have HP := hidIt (HJ.out.swap.step hp); clear hp HPY)
          go_roundw
          case rel =>
            obtain ⟨pv, p, dv, k1, k2⟩ := HP.out
            exact ⟨j + 1, pv1, p1, dv1, pv, p, dv, by omega, by go_num, k1.swap, by unfold Hid; have := HJL.out; have := HXJ.out; omega⟩
          case measure => simp [RowKit.intOf]; omega
      · have hjI : ¬ (j : Int) < (xs.length : Int) := by omega
        go_wp2_with fail
        go_ret
        exact ⟨rfl, HBW.out⟩
end Go.Proofs.YtfdceljdhgbkcaaDoor

/- What the listed variables hold: from the row's condition to the table of powers. -/
namespace Go.Proofs.YtfdceljdhgbkcaaDoor
open Go.ChangeShapes Go.WideShapes Go.ChangeAt Go.RowKit
/- A command that came in. -/
theorem array5 {α : Type} {cs : Array α} (h : cs.size = 5) : ∃ c0 c1 c2 c3 c4, cs = #[c0, c1, c2, c3, c4] := by
  obtain ⟨l⟩ := cs
  match l, h with
  | [c0, c1, c2, c3, c4], _ => exact ⟨c0, c1, c2, c3, c4, rfl⟩
theorem c5K : Tryd.prog.cellsOf 23 = 5 := by kernel_rfl
theorem c3K : Tryd.prog.cellsOf 3 = 1 := by kernel_rfl
set_option maxRecDepth 100000 in
theorem cmd_of {H : Type} {enc : TypeId × Value → H} {W : World} {base : Nat} {v : Value} {d : DataW H} {p : List MemPlace} (hv : Value.okWide Tryd.prog W .any base 23 v) (h : DataW.Trod enc Tryd.prog W 0 (fun _ => true) true 23 v d p) :
    ∃ c : Cm, v = cmV c ∧ In64 c.r ∧ In64 c.c ∧ In64 c.v ∧ In64 c.m ∧ In64 c.a := by
  obtain ⟨cs, rfl, hsz⟩ := okWide_struct Tryd.underlying23 hv
  obtain ⟨c0, c1, c2, c3, c4, rfl⟩ := array5 (hsz.trans c5K)
  obtain ⟨fuel, hf⟩ := h
  obtain ⟨xs, n, _, _, _, hlen, hall⟩ := DataW.trod_struct Tryd.underlying23 hf
  obtain ⟨x0, x1, x2, x3, x4, hx⟩ := array5 (cs := xs.toArray) (by simpa using hlen)
  obtain rfl : xs = [x0, x1, x2, x3, x4] := by simpa using congrArg Array.toList hx
  have g0 := hall 0 _ rfl
  have g1 := hall 1 _ rfl
  have g2 := hall 2 _ rfl
  have g3 := hall 3 _ rfl
  have g4 := hall 4 _ rfl
  obtain ⟨k0, e0, _, w0⟩ := DataW.trod_int Tryd.underlying3 g0
  obtain ⟨k1, e1, _, w1⟩ := DataW.trod_int Tryd.underlying3 g1
  obtain ⟨k2, e2, _, w2⟩ := DataW.trod_int Tryd.underlying3 g2
  obtain ⟨k3, e3, _, w3⟩ := DataW.trod_int Tryd.underlying3 g3
  obtain ⟨k4, e4, _, w4⟩ := DataW.trod_int Tryd.underlying3 g4
  have e0' : ([c0, c1, c2, c3, c4].drop 0).take (Tryd.prog.cellsOf 3) = [.int .i64 k0] := e0
  rw [c3K] at e0'
  have f0 : [c0] = [.int .i64 k0] := e0'
  have e1' : ([c0, c1, c2, c3, c4].drop 1).take (Tryd.prog.cellsOf 3) = [.int .i64 k1] := e1
  rw [c3K] at e1'
  have f1 : [c1] = [.int .i64 k1] := e1'
  have e2' : ([c0, c1, c2, c3, c4].drop 2).take (Tryd.prog.cellsOf 3) = [.int .i64 k2] := e2
  rw [c3K] at e2'
  have f2 : [c2] = [.int .i64 k2] := e2'
  have e3' : ([c0, c1, c2, c3, c4].drop 3).take (Tryd.prog.cellsOf 3) = [.int .i64 k3] := e3
  rw [c3K] at e3'
  have f3 : [c3] = [.int .i64 k3] := e3'
  have e4' : ([c0, c1, c2, c3, c4].drop 4).take (Tryd.prog.cellsOf 3) = [.int .i64 k4] := e4
  rw [c3K] at e4'
  have f4 : [c4] = [.int .i64 k4] := e4'
  cases f0
  cases f1
  cases f2
  cases f3
  cases f4
  exact ⟨⟨k0, k1, k2, k3, k4⟩, rfl, w0, w1, w2, w3, w4⟩
def laidL : List (String × DataW Unit) := [("math/bits.deBruijn32tab", Rows.laid_math_bits_deBruijn32tab), ("math/bits.deBruijn64tab", Rows.laid_math_bits_deBruijn64tab), ("internal/strconv.uint64pow10", Rows.laid_internal_strconv_uint64pow10)]
theorem gPow : Tryd.prog.globalNamed "internal/strconv.uint64pow10" = some 0 := by kernel_rfl
theorem tPow : (Tryd.prog.globals[0]?).map (·.type) = some 153 := by kernel_rfl
theorem dPow : (Rows.laid_internal_strconv_uint64pow10 : DataW Unit) = Lib.tabData .u64 Lib.pow10Tab := by kernel_rfl
/-- What the condition gives the walks. -/
theorem of_laid {W : World} (h : laidMetH Tryd.prog laidL W) : Tb W := by
  rw [MakeChecks.laidMetH_plain _ _ _ (by kernel_rfl)] at h
  have h2 := h.tail.tail
  rw [dPow] at h2
  exact Lib.tabIs_of_head gPow tPow Tryd.underlying153 Tryd.underlying145 (by kernel_rfl) (by kernel_rfl) h2
theorem door_met (os : Os) (args : Array Value) : laidMetH Tryd.prog laidL ((World.doorLaid Tryd.prog 400 os).forCall (fun _ _ => 0) ⟨#[], args, []⟩).memory :=
  laidMetH_of_parts3 (fuel := 8) (laidMet_of_run' 8 (by kernel_rfl) (by kernel_rfl)) (by kernel_rfl) (by kernel_rfl)
end Go.Proofs.YtfdceljdhgbkcaaDoor

/- KeysFeed: the row and its tied card. -/
namespace Go.Proofs.YtfdceljdhgbkcaaDoor
open Go.ChangeShapes Go.WideShapes Go.ChangeAt Go.RowKit

set_option maxRecDepth 100000 in
theorem keysFeed_lifted (os : Os) (started : os.Started) (H : Type) (enc : TypeId × Value → H) :
    ReturnsInHanded {} Tryd.checked os 4 .any (fun w args => (Rows.keysFeedSpec.pre enc Tryd.prog Tryd.f4 [] false w args ∧ laidMetH Tryd.prog laidL w) ∧ sizedMet enc Tryd.prog Tryd.f4 (OpenSpec.ofChange Rows.keysFeedSpec) false w args)
      (Rows.keysFeedSpec.post enc Tryd.prog Tryd.f4 false true false false) := by
  refine returnsInHanded_of_change_and (C := Tryd.checked) (X := fun w _ => laidMetH Tryd.prog laidL w) (fun _ _ _ hh h => h.of_heap hh) ownK started (by kernel_rfl) Tryd.func4
    (ChangeSpec.witness_shaped (enc := enc) (C := Tryd.checked) (os := os) (X := fun w _ => laidMetH Tryd.prog laidL w) false (World.doorLaid Tryd.prog 400 os) #[.slice none 0 0] 8 rfl (World.shaped_of_RefB (by kernel_rfl) (by kernel_rfl)) (by kernel_rfl) (by kernel_rfl) (by kernel_rfl) (door_met os _)) ?_
  intro W base args ds gs before hval0 hW _ hsz0 hL _
  have hval : ∀ (j : Nat) t v, Tryd.f4.params[j]? = some t → args[j]? = some v → Value.okWide Tryd.prog W .any base t v := hval0
  have hsz : (DataW.weightsEach Tryd.prog (Tryd.f4.params.toList ++ Rows.keysFeedSpec.plain.varTypes Tryd.prog) (ds ++ gs)).all (· ≤ reachBytes) = true := hsz0
  have hW' := hW
  obtain ⟨p, q, hA0, hV, rfl, hfz, hnd⟩ := hW
  have hA : DataW.TrodAll enc Tryd.prog W 0 (fun _ => true) true Tryd.f4.params.toList args.toList ds p := hA0
  rw [Tryd.params4] at hA hval hsz
  obtain ⟨v0, vs0, d0, ds0, p0, q0, hargs, rfl, rfl, h0, r0⟩ := trodAll_cons hA
  obtain ⟨rfl, rfl, rfl⟩ := trodAll_nil r0
  obtain rfl : args = #[v0] := by cases args; simp_all
  obtain ⟨rfl, rfl⟩ := trodVars_none hV
  obtain ⟨a0, len0, cap0, rfl⟩ := okWide_slice Tryd.underlying33 (hval 0 33 v0 rfl rfl)
  have k0 := h0
  have lt0 : ∀ x ∈ p0, x.block < W.heap.size := by obtain ⟨m, hm⟩ := k0; exact DataW.trod_lt m _ _ _ hm
  have hwt0 : ∀ n ∈ d0.weights Tryd.prog 33, n ≤ reachBytes := fun n hn => by
    have := List.all_eq_true.1 hsz n (DataW.weights_mem_each (j := 0) (t := 33) (d := d0) rfl rfl n hn)
    simpa using this
  obtain ⟨z0, hr0⟩ := script_of h0 hwt0
  clear hA0 hval0 hsz0
  refine (feed_law hr0 (of_laid hL)).mono fun e W' ⟨he, bel⟩ => ?_
  subst he
  exact ⟨_, rfl, _, _, _, [], _, [], hW', trodAll_mk1 (shut_bool Tryd.underlying4 _), (trodAll_cons_mk (Below.trod laidOutK (by kernel_rfl) (of_decide_eq_true (by kernel_rfl)) k0 bel lt0) trodAll_mk0), rfl, bel.frame _, fun h => by cases h⟩

theorem keysFeed_holds : Rows.KeysFeedSaid :=
  OpenClaim.holds_of_wide 4 Tryd.f4 rfl rfl rfl rfl rfl rfl rfl ⟨rfl, rfl, rfl, rfl, rfl⟩ rfl rfl rfl rfl rfl (by kernel_rfl) Tryd.func4 (by kernel_rfl)
    (of_decide_eq_true (by kernel_rfl)) (by unfold Func.isWrapper; first | (rw [if_pos (by decide +kernel)]; kernel_rfl) | (rw [if_neg (by decide +kernel)]; exact ⟨rfl, rfl⟩))
    (fun os started H enc _ => keysFeed_lifted os started H enc)

theorem keysFeed_card : Rows.KeysFeedCardSaid :=
  Claim7.holds_tied_plain_at .later [] [.data, .data, .data] true (true, "740a7adf525998c9efe95a2dc5105d48ba62a5e00482862950baac93c2bdc554") false
    keysFeed_holds (fun _ h => by cases h) (by kernel_rfl) (fun _ h => by cases h) keysFeed_row_tie rfl ⟨rfl, rfl⟩ (by kernel_rfl) rfl
    (fun f fn hf hfn => by
      obtain rfl : f = 4 := Option.some.inj ((show Tryd.prog.funcNamed "copyist/copyistlaw13.KeysFeed" = some 4 by kernel_rfl).symm.trans hf) |>.symm
      obtain rfl : fn = Tryd.f4 := (Option.some.inj (Tryd.func4.symm.trans hfn)).symm
      exact ⟨by kernel_rfl, fun j t ht => by
        rw [Tryd.params4] at ht
        have hm : t ∈ [33] := by simpa using Array.mem_of_getElem? ht
        have hall : ([33].all fun u => !Tryd.prog.wantsStandIn u) = true := by kernel_rfl
        exact (show Tryd.prog.wantsStandIn t = false by simpa using List.all_eq_true.1 hall t hm)⟩)
    (by kernel_rfl)
end Go.Proofs.YtfdceljdhgbkcaaDoor
