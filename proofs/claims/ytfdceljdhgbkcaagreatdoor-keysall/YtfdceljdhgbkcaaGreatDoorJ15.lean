import Derived.Test.YtfdceljdhgbkcaaGreatDoorJ04
/- command of reading. -/
namespace Go.Proofs.YtfdceljdhgbkcaaGreatDoor
open Go.RowKit
def cmZ : Cm := ⟨0, 0, 0, 0, 0⟩
/-- What a last row says with what was told. -/
def rcm (t : Rdg) (b : Bd) (bs : List Int) : Cm × Int :=
  if t.o = 0 then (cmdB b (endN t).r (endN t).c (if b.t = 1 then bs.headD 0 else 0), 1)
  else match bhd b t.o with
    | none => (cmZ, 2)
    | some b' => (cmdB b' (endN t).r (endN t).c (if b'.t = 1 then bs.headD 0 else 0), 1)
/-- The first of what is read. -/
theorem rd_head {w : World} {ao : Option Addr} {c : Nat} {x : Int} {xs : List Int} (h : RdS w (.slice ao (x :: xs).length c) (x :: xs)) : ∃ ub uo, ao = some ⟨ub, uo, none⟩ ∧ w.cell? ⟨ub, uo, none⟩ = some (.int .i64 x) := by
  obtain ⟨⟨ao', cap, hv, h1, h2, h3⟩, _⟩ := h
  obtain ⟨ub, uo, ha, _, hc⟩ := h3 (by simp)
  cases hv
  exact ⟨ub, uo, ha, by simpa using hc 0 (by simp)⟩
theorem bhd_t {b b' : Bd} {o : Int} (h : bhd b o = some b') : b'.t = b.t := by
  unfold bhd at h
  split at h
  · cases h; rfl
  · split at h
    · cases h; rfl
    · cases h
set_option maxRecDepth 100000 in
set_option maxHeartbeats 4000000 in
theorem rcm_any {w : World} {b : Nat} {m0 s0 m1 s1 m2 s2 sl pv : Value} {t : Rdg} (h : PB w b m0 s0 m1 s1 m2 s2 sl pv t) (ht : t.Ok) (v m a t4 : Int) (ao : Option Addr) (cu : Nat) (bs : List Int) (hux : ∀ y, Kps (fun k => k = b) w y → RdS y (.slice ao bs.length cu) bs) (hbs : t4 = 1 → bs ≠ []) :
    Calls Tryz.prog 44 #[.pointer (some ⟨b, 8, none⟩), .agg #[.int .i64 v, .int .i64 m, .int .i64 a, .int .i64 t4], .slice ao bs.length cu] w fun e w' => e = .returned (.tuple #[cmV (rcm t ⟨v, m, a, t4⟩ bs).1, .int .i64 (rcm t ⟨v, m, a, t4⟩ bs).2]) ∧ PB w' b m0 s0 m1 s1 m2 s2 sl pv (endN t) ∧ Kps (fun k => k = b) w w' := by
  have hbl := h.lt
  obtain ⟨w0, hw0⟩ : ∃ w0, w0 = (w.alloc (.cells #[.int .i64 v, .int .i64 m, .int .i64 a, .int .i64 t4] 62)).alloc (.cells #[.int .i64 0, .int .i64 0, .int .i64 0, .int .i64 0, .int .i64 0] 33) := ⟨_, rfl⟩
  obtain ⟨k0, k1, hb0⟩ : w0.heap[w.heap.size]? = some (.cells #[.int .i64 v, .int .i64 m, .int .i64 a, .int .i64 t4] 62 (0, 0)) ∧ w0.heap[w.heap.size + 1]? = some (.cells #[.int .i64 0, .int .i64 0, .int .i64 0, .int .i64 0, .int .i64 0] 33 (0, 0)) ∧ Below w.heap.size w w0 := by rw [hw0]; exact two_new _ _ _ _
  have HEN := hidIt (endN_any (h.ext hb0) ht)
  have HB0 := hidIt hb0
  have K0 := hidIt k0
  have K1 := hidIt k1
  have l0 := (Array.getElem?_eq_some_iff.1 k0).1
  have l1 := (Array.getElem?_eq_some_iff.1 k1).1
  have hn1 : b ≠ w.heap.size + 1 := by omega
  have hn2 : w.heap.size + 1 ≠ b := by omega
  obtain ⟨T, hT⟩ : ∃ T, T = endN t := ⟨_, rfl⟩
  rw [← hT] at HEN
  have hTo : T.o = t.o := by rw [hT]; rfl
  rw [← hT]
  have HT := hidIt hT
  have HTo := hidIt hTo
  clear hT hTo
  replace hux := hidIt hux
  replace hbs := hidIt hbs
  clear h k0 k1 hb0
  go_enter Tryz.func44, Tryz.ntmps44
  go_upto_region 1 with fail
  rw [← hw0]
  clear hw0
  go_upto_region 2 with (go_at_call 59; refine HEN.out.mono ?_; rintro e y1 ⟨rfl, hp1, hq1⟩; (try dsimp only); have HPz := hidIt hp1; have HQ1 := hidIt hq1; clear hp1 hq1)
  have KXz : Hid (y1.heap[w.heap.size]? = some (.cells #[.int .i64 v, .int .i64 m, .int .i64 a, .int .i64 t4] 62 (0, 0))) := (HQ1.out.same _ l0 (by omega)).trans K0.out
  have KRz : Hid (y1.heap[w.heap.size + 1]? = some (.cells #[.int .i64 0, .int .i64 0, .int .i64 0, .int .i64 0, .int .i64 0] 33 (0, 0))) := (HQ1.out.same _ l1 (by omega)).trans K1.out
  have HKz : Hid (Kps (fun k => k = b) w y1) := Kps.trans (Kps.of_below _ HB0.out) HQ1.out (fun _ _ e => e)
  by_cases ho : t.o = 0
  · have hob : (T.o != 0) = false := by simpa [HTo.out] using ho
    obtain ⟨_, b0, b1, b2, b3, bf⟩ := cells4 KXz.out
    obtain ⟨_, _, _, _, _, _, _, _, _, c8, c9, c10, c11, c12, cf⟩ := cells13 HPz.out
    by_cases ht1 : t4 = 1
    · have ht1b : (t4 == 1) = true := by simpa using ht1
      obtain ⟨bh, br, hbe⟩ : ∃ bh br, bs = bh :: br := List.exists_cons_of_ne_nil (hbs.out ht1)
      subst hbe
      obtain ⟨ub, uo, hao, hc0⟩ := rd_head (hux.out y1 HKz.out)
      subst hao
      have HCM := hidIt (fun y => command_any v m a t4 T.r T.c bh y)
      have HCE : Hid (rcm t ⟨v, m, a, t4⟩ (bh :: br) = (cmdB ⟨v, m, a, t4⟩ T.r T.c bh, 1)) := by unfold Hid rcm; rw [if_pos ho, ← HT.out]; simp [ht1]
      generalize cmdB ⟨v, m, a, t4⟩ T.r T.c bh = cm at HCM HCE
      obtain ⟨cr, cc, cv, cmv, ca⟩ := cm
      clear ht1
      go_upto_region 10 with fail
      go_region_held3 (fun w' => w'.cell? ⟨w.heap.size, 0, none⟩ = some (.int .i64 v) ∧ w'.cell? ⟨w.heap.size, 1, none⟩ = some (.int .i64 m) ∧ w'.cell? ⟨w.heap.size, 2, none⟩ = some (.int .i64 a) ∧ w'.cell? ⟨w.heap.size, 3, none⟩ = some (.int .i64 t4) ∧ w'.cell? ⟨b, 9, none⟩ = some (.int .i64 T.r) ∧ w'.cell? ⟨b, 10, none⟩ = some (.int .i64 T.c)) (go_keep) (first | (go_at_call 52; refine (HCM.out _).mono ?_; rintro e yc ⟨rfl, hyc⟩; (try dsimp only); have hyc' := ext_trans (Below.refl y1.heap.size y1).drew hyc; obtain ⟨_, b0', b1', b2', b3', _⟩ := cells4 ((hyc'.block _ (Array.getElem?_eq_some_iff.1 KXz.out).1).trans KXz.out); obtain ⟨_, _, _, _, _, _, _, _, _, _, c9', c10', _, _, _⟩ := cells13 (HPz.out.ext hyc'); have KRy := hidIt ((hyc'.block _ (Array.getElem?_eq_some_iff.1 KRz.out).1).trans KRz.out); obtain ⟨_, r0, r1, r2, r3, r4, rf⟩ := cells5 KRy.out; have HYC := hidIt hyc'; clear hyc hyc'))
      all_goals
        have HP := hidIt (put5 KRy.out (.int .i64 cr) (.int .i64 cc) (.int .i64 cv) (.int .i64 cmv) (.int .i64 ca))
        obtain ⟨_, f0, f1, f2, f3, f4, ff⟩ := cells5 HP.out.1
        go_wp2
        refine bodyPost_ret (v := .tuple #[.agg #[.int .i64 cr, .int .i64 cc, .int .i64 cv, .int .i64 cmv, .int .i64 ca], .int .i64 1]) (by simp [results, Tryz.results44, go_sem, f0, f1, f2, f3, f4]) rfl ⟨by rw [HCE.out], ?_, ?_⟩
        · exact (HP.out.2.block _ (HPz.out.ext HYC.out).lt (by simp; omega)).trans (HPz.out.ext HYC.out)
        · exact Kps.trans (Kps.trans HKz.out (Kps.of_below _ HYC.out) (fun _ _ e => e)) (Kps.grown (o := fun k => k = w.heap.size + 1) HP.out.2 (fun k e _ => (Option.some.inj e).symm)) (fun i hi (e : i = _) => absurd e (by omega))
    · have ht1b : (t4 == 1) = false := by simpa using ht1
      have HCM := hidIt (fun y => command_any v m a t4 T.r T.c 0 y)
      have HCE : Hid (rcm t ⟨v, m, a, t4⟩ bs = (cmdB ⟨v, m, a, t4⟩ T.r T.c 0, 1)) := by unfold Hid rcm; rw [if_pos ho, ← HT.out]; simp [ht1]
      generalize cmdB ⟨v, m, a, t4⟩ T.r T.c 0 = cm at HCM HCE
      obtain ⟨cr, cc, cv, cmv, ca⟩ := cm
      clear ht1
      go_upto_region 10 with fail
      go_region_held3 (fun w' => w'.cell? ⟨w.heap.size, 0, none⟩ = some (.int .i64 v) ∧ w'.cell? ⟨w.heap.size, 1, none⟩ = some (.int .i64 m) ∧ w'.cell? ⟨w.heap.size, 2, none⟩ = some (.int .i64 a) ∧ w'.cell? ⟨w.heap.size, 3, none⟩ = some (.int .i64 t4) ∧ w'.cell? ⟨b, 9, none⟩ = some (.int .i64 T.r) ∧ w'.cell? ⟨b, 10, none⟩ = some (.int .i64 T.c)) (go_keep) (first | (go_at_call 52; refine (HCM.out _).mono ?_; rintro e yc ⟨rfl, hyc⟩; (try dsimp only); have hyc' := ext_trans (Below.refl y1.heap.size y1).drew hyc; obtain ⟨_, b0', b1', b2', b3', _⟩ := cells4 ((hyc'.block _ (Array.getElem?_eq_some_iff.1 KXz.out).1).trans KXz.out); obtain ⟨_, _, _, _, _, _, _, _, _, _, c9', c10', _, _, _⟩ := cells13 (HPz.out.ext hyc'); have KRy := hidIt ((hyc'.block _ (Array.getElem?_eq_some_iff.1 KRz.out).1).trans KRz.out); obtain ⟨_, r0, r1, r2, r3, r4, rf⟩ := cells5 KRy.out; have HYC := hidIt hyc'; clear hyc hyc'))
      all_goals
        have HP := hidIt (put5 KRy.out (.int .i64 cr) (.int .i64 cc) (.int .i64 cv) (.int .i64 cmv) (.int .i64 ca))
        obtain ⟨_, f0, f1, f2, f3, f4, ff⟩ := cells5 HP.out.1
        go_wp2
        refine bodyPost_ret (v := .tuple #[.agg #[.int .i64 cr, .int .i64 cc, .int .i64 cv, .int .i64 cmv, .int .i64 ca], .int .i64 1]) (by simp [results, Tryz.results44, go_sem, f0, f1, f2, f3, f4]) rfl ⟨by rw [HCE.out], ?_, ?_⟩
        · exact (HP.out.2.block _ (HPz.out.ext HYC.out).lt (by simp; omega)).trans (HPz.out.ext HYC.out)
        · exact Kps.trans (Kps.trans HKz.out (Kps.of_below _ HYC.out) (fun _ _ e => e)) (Kps.grown (o := fun k => k = w.heap.size + 1) HP.out.2 (fun k e _ => (Option.some.inj e).symm)) (fun i hi (e : i = _) => absurd e (by omega))
  · have hob : (T.o != 0) = true := by simpa [HTo.out] using ho
    obtain ⟨lx, b0, b1, b2, b3, bf⟩ := cells4 KXz.out
    obtain ⟨lb, _, _, _, _, _, _, _, _, c8, c9, c10, c11, c12, cf⟩ := cells13 HPz.out
    have q3 : y1.heap.size ≠ b := by omega
    have q4 : y1.heap.size ≠ w.heap.size := by omega
    cases hbh : bhd ⟨v, m, a, t4⟩ T.o with
    | none =>
      have HCE : Hid (rcm t ⟨v, m, a, t4⟩ bs = (cmZ, 2)) := by unfold Hid rcm; rw [if_neg ho, ← HTo.out, hbh]
      have HBH : Hid (∀ y, Calls Tryz.prog 63 #[.agg #[.int .i64 v, .int .i64 m, .int .i64 a, .int .i64 t4], .int .i64 T.o] y fun e w' => e = .returned (.tuple #[.agg #[.int .i64 0, .int .i64 0, .int .i64 0, .int .i64 0], .bool false]) ∧ Below y.heap.size y w') := by
        intro y
        have hh := behind_any v m a t4 T.o y
        rw [hbh] at hh
        exact hh
      clear hbh
      go_upto_region 3 with fail
      go_region_held3 (fun w' => w'.cell? ⟨w.heap.size, 0, none⟩ = some (.int .i64 v) ∧ w'.cell? ⟨w.heap.size, 1, none⟩ = some (.int .i64 m) ∧ w'.cell? ⟨w.heap.size, 2, none⟩ = some (.int .i64 a) ∧ w'.cell? ⟨w.heap.size, 3, none⟩ = some (.int .i64 t4) ∧ w'.cell? ⟨b, 12, none⟩ = some (.int .i64 T.o)) (go_keep) (first | (go_at_call 63; refine (HBH.out _).mono ?_; rintro e yb ⟨rfl, hyb⟩; (try dsimp only); have hyb' := ext_trans (Below.refl y1.heap.size y1).drew hyb; have KXy := hidIt ((hyb'.block _ (Array.getElem?_eq_some_iff.1 KXz.out).1).trans KXz.out); obtain ⟨lx', b0', b1', b2', b3', _⟩ := cells4 KXy.out; obtain ⟨lb', _, _, _, _, _, _, _, _, _, _, _, _, c12', _⟩ := cells13 (HPz.out.ext hyb'); have hsz := hyb'.size; have q1 : yb.heap.size ≠ b := Nat.ne_of_gt lb'; have q2 : yb.heap.size ≠ w.heap.size := Nat.ne_of_gt lx'; have HYA := hidIt hyb'; clear hyb hyb' hsz) | (go_at_call 63; refine (HBH.out _).mono ?_; rintro e yb ⟨rfl, hyb⟩; (try dsimp only); have hyb' := ext_trans (ext_alloc (Below.refl y1.heap.size y1) (.cells #[.int .i64 0, .int .i64 0, .int .i64 0, .int .i64 0] 62)).drew hyb; have KXy := hidIt ((hyb'.block _ (Array.getElem?_eq_some_iff.1 KXz.out).1).trans KXz.out); obtain ⟨lx', b0', b1', b2', b3', _⟩ := cells4 KXy.out; obtain ⟨lb', _, _, _, _, _, _, _, _, _, _, _, _, c12', _⟩ := cells13 (HPz.out.ext hyb'); have hsz := hyb'.size; have KO := hidIt ((hyb.block y1.heap.size (Array.getElem?_eq_some_iff.1 (heap_alloc_new y1 (.cells #[.int .i64 0, .int .i64 0, .int .i64 0, .int .i64 0] 62))).1).trans (heap_alloc_new y1 (.cells #[.int .i64 0, .int .i64 0, .int .i64 0, .int .i64 0] 62))); obtain ⟨_, o0, o1, o2, o3, of⟩ := cells4 KO.out; have HYB := hidIt hyb'; clear hyb hyb' hsz))
      all_goals (go_upto_region 4 with fail)
      · skip
        obtain ⟨y2, hy2⟩ : ∃ y2, y2 = yb.alloc (.cells #[.int .i64 0, .int .i64 0, .int .i64 0, .int .i64 0] 62) := ⟨_, rfl⟩
        have K2 : y2.heap[yb.heap.size]? = some (.cells #[.int .i64 0, .int .i64 0, .int .i64 0, .int .i64 0] 62 (0, 0)) := by rw [hy2]; exact heap_alloc_new _ _
        have HB2 : Hid (Below y1.heap.size y1 y2) := by rw [hy2]; exact ext_alloc HYA.out _
        have hgs := HYA.out.size
        rw [← hy2]
        clear hy2
        generalize yb.heap.size = g at *
        have KRy := hidIt ((HB2.out.block _ (Array.getElem?_eq_some_iff.1 KRz.out).1).trans KRz.out)
        obtain ⟨_, r0, r1, r2, r3, r4, rf⟩ := cells5 KRy.out
        have HP := hidIt (put5 KRy.out (.int .i64 0) (.int .i64 0) (.int .i64 0) (.int .i64 0) (.int .i64 0))
        obtain ⟨_, f0, f1, f2, f3, f4, ff⟩ := cells5 HP.out.1
        go_wp2
        refine bodyPost_ret (v := .tuple #[.agg #[.int .i64 0, .int .i64 0, .int .i64 0, .int .i64 0, .int .i64 0], .int .i64 2]) (by simp [results, Tryz.results44, go_sem, f0, f1, f2, f3, f4]) rfl ⟨by rw [HCE.out]; rfl, ?_, ?_⟩
        · exact (HP.out.2.block _ (HPz.out.ext HB2.out).lt (by simp; omega)).trans (HPz.out.ext HB2.out)
        · exact Kps.trans (Kps.trans HKz.out (Kps.of_below _ HB2.out) (fun _ _ e => e)) (Kps.grown (o := fun k => k = w.heap.size + 1) HP.out.2 (fun k e _ => (Option.some.inj e).symm)) (fun i hi (e : i = _) => absurd e (by omega))
      · skip
        obtain ⟨K2, G2⟩ := put4 KO.out (.int .i64 0) (.int .i64 0) (.int .i64 0) (.int .i64 0)
        obtain ⟨y2, hy2⟩ : ∃ y2, y2 = ((((yb.setCell ⟨y1.heap.size, 0, none⟩ (.int .i64 0)).setCell ⟨y1.heap.size, 1, none⟩ (.int .i64 0)).setCell ⟨y1.heap.size, 2, none⟩ (.int .i64 0)).setCell ⟨y1.heap.size, 3, none⟩ (.int .i64 0)) := ⟨_, rfl⟩
        rw [← hy2] at K2 G2
        have HB2 : Hid (Below y1.heap.size y1 y2) := below_put HYB.out HYB.out.size G2 (Nat.le_refl _)
        have hgs := Nat.le_refl y1.heap.size
        rw [← hy2]
        clear hy2 G2
        have KRy := hidIt ((HB2.out.block _ (Array.getElem?_eq_some_iff.1 KRz.out).1).trans KRz.out)
        obtain ⟨_, r0, r1, r2, r3, r4, rf⟩ := cells5 KRy.out
        have HP := hidIt (put5 KRy.out (.int .i64 0) (.int .i64 0) (.int .i64 0) (.int .i64 0) (.int .i64 0))
        obtain ⟨_, f0, f1, f2, f3, f4, ff⟩ := cells5 HP.out.1
        go_wp2
        refine bodyPost_ret (v := .tuple #[.agg #[.int .i64 0, .int .i64 0, .int .i64 0, .int .i64 0, .int .i64 0], .int .i64 2]) (by simp [results, Tryz.results44, go_sem, f0, f1, f2, f3, f4]) rfl ⟨by rw [HCE.out]; rfl, ?_, ?_⟩
        · exact (HP.out.2.block _ (HPz.out.ext HB2.out).lt (by simp; omega)).trans (HPz.out.ext HB2.out)
        · exact Kps.trans (Kps.trans HKz.out (Kps.of_below _ HB2.out) (fun _ _ e => e)) (Kps.grown (o := fun k => k = w.heap.size + 1) HP.out.2 (fun k e _ => (Option.some.inj e).symm)) (fun i hi (e : i = _) => absurd e (by omega))
    | some bo =>
      obtain ⟨vb, mb, ab, tb⟩ := bo
      have ht2 : tb = t4 := bhd_t hbh
      have HBH : Hid (∀ y, Calls Tryz.prog 63 #[.agg #[.int .i64 v, .int .i64 m, .int .i64 a, .int .i64 t4], .int .i64 T.o] y fun e w' => e = .returned (.tuple #[.agg #[.int .i64 vb, .int .i64 mb, .int .i64 ab, .int .i64 tb], .bool true]) ∧ Below y.heap.size y w') := by
        intro y
        have hh := behind_any v m a t4 T.o y
        rw [hbh] at hh
        exact hh
      have HBE := hidIt hbh
      replace hbs : Hid (tb = 1 → bs ≠ []) := fun e => hbs.out (ht2.symm.trans e)
      clear hbh ht2
      go_upto_region 3 with fail
      go_region_held3 (fun w' => w'.cell? ⟨w.heap.size, 0, none⟩ = some (.int .i64 v) ∧ w'.cell? ⟨w.heap.size, 1, none⟩ = some (.int .i64 m) ∧ w'.cell? ⟨w.heap.size, 2, none⟩ = some (.int .i64 a) ∧ w'.cell? ⟨w.heap.size, 3, none⟩ = some (.int .i64 t4) ∧ w'.cell? ⟨b, 12, none⟩ = some (.int .i64 T.o)) (go_keep) (first | (go_at_call 63; refine (HBH.out _).mono ?_; rintro e yb ⟨rfl, hyb⟩; (try dsimp only); have hyb' := ext_trans (Below.refl y1.heap.size y1).drew hyb; have KXy := hidIt ((hyb'.block _ (Array.getElem?_eq_some_iff.1 KXz.out).1).trans KXz.out); obtain ⟨lx', b0', b1', b2', b3', _⟩ := cells4 KXy.out; obtain ⟨lb', _, _, _, _, _, _, _, _, _, _, _, _, c12', _⟩ := cells13 (HPz.out.ext hyb'); have hsz := hyb'.size; have q1 : yb.heap.size ≠ b := Nat.ne_of_gt lb'; have q2 : yb.heap.size ≠ w.heap.size := Nat.ne_of_gt lx'; have HYA := hidIt hyb'; clear hyb hyb' hsz) | (go_at_call 63; refine (HBH.out _).mono ?_; rintro e yb ⟨rfl, hyb⟩; (try dsimp only); have hyb' := ext_trans (ext_alloc (Below.refl y1.heap.size y1) (.cells #[.int .i64 0, .int .i64 0, .int .i64 0, .int .i64 0] 62)).drew hyb; have KXy := hidIt ((hyb'.block _ (Array.getElem?_eq_some_iff.1 KXz.out).1).trans KXz.out); obtain ⟨lx', b0', b1', b2', b3', _⟩ := cells4 KXy.out; obtain ⟨lb', _, _, _, _, _, _, _, _, _, _, _, _, c12', _⟩ := cells13 (HPz.out.ext hyb'); have hsz := hyb'.size; have KO := hidIt ((hyb.block y1.heap.size (Array.getElem?_eq_some_iff.1 (heap_alloc_new y1 (.cells #[.int .i64 0, .int .i64 0, .int .i64 0, .int .i64 0] 62))).1).trans (heap_alloc_new y1 (.cells #[.int .i64 0, .int .i64 0, .int .i64 0, .int .i64 0] 62))); obtain ⟨_, o0, o1, o2, o3, of⟩ := cells4 KO.out; have HYB := hidIt hyb'; clear hyb hyb' hsz))
      all_goals (go_upto_region 4 with fail)
      · skip
        obtain ⟨y2, hy2⟩ : ∃ y2, y2 = yb.alloc (.cells #[.int .i64 vb, .int .i64 mb, .int .i64 ab, .int .i64 tb] 62) := ⟨_, rfl⟩
        have K2 : y2.heap[yb.heap.size]? = some (.cells #[.int .i64 vb, .int .i64 mb, .int .i64 ab, .int .i64 tb] 62 (0, 0)) := by rw [hy2]; exact heap_alloc_new _ _
        have HB2 : Hid (Below y1.heap.size y1 y2) := by rw [hy2]; exact ext_alloc HYA.out _
        have hgs := HYA.out.size
        rw [← hy2]
        clear hy2
        generalize yb.heap.size = g at *
        have KX2 := hidIt ((HB2.out.block _ (Array.getElem?_eq_some_iff.1 KXz.out).1).trans KXz.out)
        obtain ⟨lx2, p0, p1, p2, p3, pf⟩ := cells4 KX2.out
        obtain ⟨lg2, e0, e1, e2, e3, ef⟩ := cells4 K2
        obtain ⟨K3, G3⟩ := put4 KX2.out (.int .i64 vb) (.int .i64 mb) (.int .i64 ab) (.int .i64 tb)
        obtain ⟨y3, hy3⟩ : ∃ y3, y3 = ((((y2.setCell ⟨w.heap.size, 0, none⟩ (.int .i64 vb)).setCell ⟨w.heap.size, 1, none⟩ (.int .i64 mb)).setCell ⟨w.heap.size, 2, none⟩ (.int .i64 ab)).setCell ⟨w.heap.size, 3, none⟩ (.int .i64 tb)) := ⟨_, rfl⟩
        rw [← hy3] at K3 G3
        have HPy : Hid (PB y3 b m0 s0 m1 s1 m2 s2 sl pv T) := (G3.block _ (HPz.out.ext HB2.out).lt (by simp; omega)).trans (HPz.out.ext HB2.out)
        have KRy : Hid (y3.heap[w.heap.size + 1]? = some (.cells #[.int .i64 0, .int .i64 0, .int .i64 0, .int .i64 0, .int .i64 0] 33 (0, 0))) := (G3.block _ (Nat.lt_of_lt_of_le (Array.getElem?_eq_some_iff.1 KRz.out).1 HB2.out.size) (by simp)).trans ((HB2.out.block _ (Array.getElem?_eq_some_iff.1 KRz.out).1).trans KRz.out)
        have HKy : Hid (Kps (fun k => k = b) w y3) := Kps.trans (Kps.trans HKz.out (Kps.of_below _ HB2.out) (fun _ _ e => e)) (Kps.grown (o := fun k => k = w.heap.size) G3 (fun k e _ => (Option.some.inj e).symm)) (fun i hi (e : i = _) => absurd e (by omega))
        have KXy : Hid (y3.heap[w.heap.size]? = some (.cells #[.int .i64 vb, .int .i64 mb, .int .i64 ab, .int .i64 tb] 62 (0, 0))) := K3
        clear K3 G3 K2 KX2 KXz KRz HPz HKz
        rename Hid (PB y3 b m0 s0 m1 s1 m2 s2 sl pv T) => HPz
        rename Hid (y3.heap[w.heap.size + 1]? = _) => KRz
        rename Hid (Kps _ w y3) => HKz
        rename Hid (y3.heap[w.heap.size]? = _) => KXz
        go_upto_region 7 with fail
        rw [← hy3]
        clear hy3 p0 p1 p2 p3 pf e0 e1 e2 e3 ef
        obtain ⟨_, b0, b1, b2, b3, bf⟩ := cells4 KXz.out
        obtain ⟨_, _, _, _, _, _, _, _, _, c8, c9, c10, c11, c12, cf⟩ := cells13 HPz.out
        by_cases ht1 : tb = 1
        · have ht1b : (tb == 1) = true := by simpa using ht1
          obtain ⟨bh, br, hbe⟩ : ∃ bh br, bs = bh :: br := List.exists_cons_of_ne_nil (hbs.out ht1)
          subst hbe
          obtain ⟨ub, uo, hao, hc0⟩ := rd_head (hux.out y3 HKz.out)
          subst hao
          have HCM := hidIt (fun y => command_any vb mb ab tb T.r T.c bh y)
          have HCE : Hid (rcm t ⟨v, m, a, t4⟩ (bh :: br) = (cmdB ⟨vb, mb, ab, tb⟩ T.r T.c bh, 1)) := by unfold Hid rcm; rw [if_neg ho, ← HTo.out, HBE.out, ← HT.out]; simp [ht1]
          generalize cmdB ⟨vb, mb, ab, tb⟩ T.r T.c bh = cm at HCM HCE
          obtain ⟨cr, cc, cv, cmv, ca⟩ := cm
          clear ht1
          go_upto_region 10 with fail
          go_region_held3 (fun w' => w'.cell? ⟨w.heap.size, 0, none⟩ = some (.int .i64 vb) ∧ w'.cell? ⟨w.heap.size, 1, none⟩ = some (.int .i64 mb) ∧ w'.cell? ⟨w.heap.size, 2, none⟩ = some (.int .i64 ab) ∧ w'.cell? ⟨w.heap.size, 3, none⟩ = some (.int .i64 tb) ∧ w'.cell? ⟨b, 9, none⟩ = some (.int .i64 T.r) ∧ w'.cell? ⟨b, 10, none⟩ = some (.int .i64 T.c)) (go_keep) (first | (go_at_call 52; refine (HCM.out _).mono ?_; rintro e yc ⟨rfl, hyc⟩; (try dsimp only); have hyc' := ext_trans (Below.refl y3.heap.size y3).drew hyc; obtain ⟨_, b0', b1', b2', b3', _⟩ := cells4 ((hyc'.block _ (Array.getElem?_eq_some_iff.1 KXz.out).1).trans KXz.out); obtain ⟨_, _, _, _, _, _, _, _, _, _, c9', c10', _, _, _⟩ := cells13 (HPz.out.ext hyc'); have KRy := hidIt ((hyc'.block _ (Array.getElem?_eq_some_iff.1 KRz.out).1).trans KRz.out); obtain ⟨_, r0, r1, r2, r3, r4, rf⟩ := cells5 KRy.out; have HYC := hidIt hyc'; clear hyc hyc'))
          all_goals
            have HP := hidIt (put5 KRy.out (.int .i64 cr) (.int .i64 cc) (.int .i64 cv) (.int .i64 cmv) (.int .i64 ca))
            obtain ⟨_, f0, f1, f2, f3, f4, ff⟩ := cells5 HP.out.1
            go_wp2
            refine bodyPost_ret (v := .tuple #[.agg #[.int .i64 cr, .int .i64 cc, .int .i64 cv, .int .i64 cmv, .int .i64 ca], .int .i64 1]) (by simp [results, Tryz.results44, go_sem, f0, f1, f2, f3, f4]) rfl ⟨by rw [HCE.out], ?_, ?_⟩
            · exact (HP.out.2.block _ (HPz.out.ext HYC.out).lt (by simp; omega)).trans (HPz.out.ext HYC.out)
            · exact Kps.trans (Kps.trans HKz.out (Kps.of_below _ HYC.out) (fun _ _ e => e)) (Kps.grown (o := fun k => k = w.heap.size + 1) HP.out.2 (fun k e _ => (Option.some.inj e).symm)) (fun i hi (e : i = _) => absurd e (by omega))
        · have ht1b : (tb == 1) = false := by simpa using ht1
          have HCM := hidIt (fun y => command_any vb mb ab tb T.r T.c 0 y)
          have HCE : Hid (rcm t ⟨v, m, a, t4⟩ bs = (cmdB ⟨vb, mb, ab, tb⟩ T.r T.c 0, 1)) := by unfold Hid rcm; rw [if_neg ho, ← HTo.out, HBE.out, ← HT.out]; simp [ht1]
          generalize cmdB ⟨vb, mb, ab, tb⟩ T.r T.c 0 = cm at HCM HCE
          obtain ⟨cr, cc, cv, cmv, ca⟩ := cm
          clear ht1
          go_upto_region 10 with fail
          go_region_held3 (fun w' => w'.cell? ⟨w.heap.size, 0, none⟩ = some (.int .i64 vb) ∧ w'.cell? ⟨w.heap.size, 1, none⟩ = some (.int .i64 mb) ∧ w'.cell? ⟨w.heap.size, 2, none⟩ = some (.int .i64 ab) ∧ w'.cell? ⟨w.heap.size, 3, none⟩ = some (.int .i64 tb) ∧ w'.cell? ⟨b, 9, none⟩ = some (.int .i64 T.r) ∧ w'.cell? ⟨b, 10, none⟩ = some (.int .i64 T.c)) (go_keep) (first | (go_at_call 52; refine (HCM.out _).mono ?_; rintro e yc ⟨rfl, hyc⟩; (try dsimp only); have hyc' := ext_trans (Below.refl y3.heap.size y3).drew hyc; obtain ⟨_, b0', b1', b2', b3', _⟩ := cells4 ((hyc'.block _ (Array.getElem?_eq_some_iff.1 KXz.out).1).trans KXz.out); obtain ⟨_, _, _, _, _, _, _, _, _, _, c9', c10', _, _, _⟩ := cells13 (HPz.out.ext hyc'); have KRy := hidIt ((hyc'.block _ (Array.getElem?_eq_some_iff.1 KRz.out).1).trans KRz.out); obtain ⟨_, r0, r1, r2, r3, r4, rf⟩ := cells5 KRy.out; have HYC := hidIt hyc'; clear hyc hyc'))
          all_goals
            have HP := hidIt (put5 KRy.out (.int .i64 cr) (.int .i64 cc) (.int .i64 cv) (.int .i64 cmv) (.int .i64 ca))
            obtain ⟨_, f0, f1, f2, f3, f4, ff⟩ := cells5 HP.out.1
            go_wp2
            refine bodyPost_ret (v := .tuple #[.agg #[.int .i64 cr, .int .i64 cc, .int .i64 cv, .int .i64 cmv, .int .i64 ca], .int .i64 1]) (by simp [results, Tryz.results44, go_sem, f0, f1, f2, f3, f4]) rfl ⟨by rw [HCE.out], ?_, ?_⟩
            · exact (HP.out.2.block _ (HPz.out.ext HYC.out).lt (by simp; omega)).trans (HPz.out.ext HYC.out)
            · exact Kps.trans (Kps.trans HKz.out (Kps.of_below _ HYC.out) (fun _ _ e => e)) (Kps.grown (o := fun k => k = w.heap.size + 1) HP.out.2 (fun k e _ => (Option.some.inj e).symm)) (fun i hi (e : i = _) => absurd e (by omega))
      · skip
        obtain ⟨K2, G2⟩ := put4 KO.out (.int .i64 vb) (.int .i64 mb) (.int .i64 ab) (.int .i64 tb)
        obtain ⟨y2, hy2⟩ : ∃ y2, y2 = ((((yb.setCell ⟨y1.heap.size, 0, none⟩ (.int .i64 vb)).setCell ⟨y1.heap.size, 1, none⟩ (.int .i64 mb)).setCell ⟨y1.heap.size, 2, none⟩ (.int .i64 ab)).setCell ⟨y1.heap.size, 3, none⟩ (.int .i64 tb)) := ⟨_, rfl⟩
        rw [← hy2] at K2 G2
        have HB2 : Hid (Below y1.heap.size y1 y2) := below_put HYB.out HYB.out.size G2 (Nat.le_refl _)
        have hgs := Nat.le_refl y1.heap.size
        rw [← hy2]
        clear hy2 G2
        have KX2 := hidIt ((HB2.out.block _ (Array.getElem?_eq_some_iff.1 KXz.out).1).trans KXz.out)
        obtain ⟨lx2, p0, p1, p2, p3, pf⟩ := cells4 KX2.out
        obtain ⟨lg2, e0, e1, e2, e3, ef⟩ := cells4 K2
        obtain ⟨K3, G3⟩ := put4 KX2.out (.int .i64 vb) (.int .i64 mb) (.int .i64 ab) (.int .i64 tb)
        obtain ⟨y3, hy3⟩ : ∃ y3, y3 = ((((y2.setCell ⟨w.heap.size, 0, none⟩ (.int .i64 vb)).setCell ⟨w.heap.size, 1, none⟩ (.int .i64 mb)).setCell ⟨w.heap.size, 2, none⟩ (.int .i64 ab)).setCell ⟨w.heap.size, 3, none⟩ (.int .i64 tb)) := ⟨_, rfl⟩
        rw [← hy3] at K3 G3
        have HPy : Hid (PB y3 b m0 s0 m1 s1 m2 s2 sl pv T) := (G3.block _ (HPz.out.ext HB2.out).lt (by simp; omega)).trans (HPz.out.ext HB2.out)
        have KRy : Hid (y3.heap[w.heap.size + 1]? = some (.cells #[.int .i64 0, .int .i64 0, .int .i64 0, .int .i64 0, .int .i64 0] 33 (0, 0))) := (G3.block _ (Nat.lt_of_lt_of_le (Array.getElem?_eq_some_iff.1 KRz.out).1 HB2.out.size) (by simp)).trans ((HB2.out.block _ (Array.getElem?_eq_some_iff.1 KRz.out).1).trans KRz.out)
        have HKy : Hid (Kps (fun k => k = b) w y3) := Kps.trans (Kps.trans HKz.out (Kps.of_below _ HB2.out) (fun _ _ e => e)) (Kps.grown (o := fun k => k = w.heap.size) G3 (fun k e _ => (Option.some.inj e).symm)) (fun i hi (e : i = _) => absurd e (by omega))
        have KXy : Hid (y3.heap[w.heap.size]? = some (.cells #[.int .i64 vb, .int .i64 mb, .int .i64 ab, .int .i64 tb] 62 (0, 0))) := K3
        clear K3 G3 K2 KX2 KXz KRz HPz HKz
        rename Hid (PB y3 b m0 s0 m1 s1 m2 s2 sl pv T) => HPz
        rename Hid (y3.heap[w.heap.size + 1]? = _) => KRz
        rename Hid (Kps _ w y3) => HKz
        rename Hid (y3.heap[w.heap.size]? = _) => KXz
        go_upto_region 7 with fail
        rw [← hy3]
        clear hy3 p0 p1 p2 p3 pf e0 e1 e2 e3 ef
        obtain ⟨_, b0, b1, b2, b3, bf⟩ := cells4 KXz.out
        obtain ⟨_, _, _, _, _, _, _, _, _, c8, c9, c10, c11, c12, cf⟩ := cells13 HPz.out
        by_cases ht1 : tb = 1
        · have ht1b : (tb == 1) = true := by simpa using ht1
          obtain ⟨bh, br, hbe⟩ : ∃ bh br, bs = bh :: br := List.exists_cons_of_ne_nil (hbs.out ht1)
          subst hbe
          obtain ⟨ub, uo, hao, hc0⟩ := rd_head (hux.out y3 HKz.out)
          subst hao
          have HCM := hidIt (fun y => command_any vb mb ab tb T.r T.c bh y)
          have HCE : Hid (rcm t ⟨v, m, a, t4⟩ (bh :: br) = (cmdB ⟨vb, mb, ab, tb⟩ T.r T.c bh, 1)) := by unfold Hid rcm; rw [if_neg ho, ← HTo.out, HBE.out, ← HT.out]; simp [ht1]
          generalize cmdB ⟨vb, mb, ab, tb⟩ T.r T.c bh = cm at HCM HCE
          obtain ⟨cr, cc, cv, cmv, ca⟩ := cm
          clear ht1
          go_upto_region 10 with fail
          go_region_held3 (fun w' => w'.cell? ⟨w.heap.size, 0, none⟩ = some (.int .i64 vb) ∧ w'.cell? ⟨w.heap.size, 1, none⟩ = some (.int .i64 mb) ∧ w'.cell? ⟨w.heap.size, 2, none⟩ = some (.int .i64 ab) ∧ w'.cell? ⟨w.heap.size, 3, none⟩ = some (.int .i64 tb) ∧ w'.cell? ⟨b, 9, none⟩ = some (.int .i64 T.r) ∧ w'.cell? ⟨b, 10, none⟩ = some (.int .i64 T.c)) (go_keep) (first | (go_at_call 52; refine (HCM.out _).mono ?_; rintro e yc ⟨rfl, hyc⟩; (try dsimp only); have hyc' := ext_trans (Below.refl y3.heap.size y3).drew hyc; obtain ⟨_, b0', b1', b2', b3', _⟩ := cells4 ((hyc'.block _ (Array.getElem?_eq_some_iff.1 KXz.out).1).trans KXz.out); obtain ⟨_, _, _, _, _, _, _, _, _, _, c9', c10', _, _, _⟩ := cells13 (HPz.out.ext hyc'); have KRy := hidIt ((hyc'.block _ (Array.getElem?_eq_some_iff.1 KRz.out).1).trans KRz.out); obtain ⟨_, r0, r1, r2, r3, r4, rf⟩ := cells5 KRy.out; have HYC := hidIt hyc'; clear hyc hyc'))
          all_goals
            have HP := hidIt (put5 KRy.out (.int .i64 cr) (.int .i64 cc) (.int .i64 cv) (.int .i64 cmv) (.int .i64 ca))
            obtain ⟨_, f0, f1, f2, f3, f4, ff⟩ := cells5 HP.out.1
            go_wp2
            refine bodyPost_ret (v := .tuple #[.agg #[.int .i64 cr, .int .i64 cc, .int .i64 cv, .int .i64 cmv, .int .i64 ca], .int .i64 1]) (by simp [results, Tryz.results44, go_sem, f0, f1, f2, f3, f4]) rfl ⟨by rw [HCE.out], ?_, ?_⟩
            · exact (HP.out.2.block _ (HPz.out.ext HYC.out).lt (by simp; omega)).trans (HPz.out.ext HYC.out)
            · exact Kps.trans (Kps.trans HKz.out (Kps.of_below _ HYC.out) (fun _ _ e => e)) (Kps.grown (o := fun k => k = w.heap.size + 1) HP.out.2 (fun k e _ => (Option.some.inj e).symm)) (fun i hi (e : i = _) => absurd e (by omega))
        · have ht1b : (tb == 1) = false := by simpa using ht1
          have HCM := hidIt (fun y => command_any vb mb ab tb T.r T.c 0 y)
          have HCE : Hid (rcm t ⟨v, m, a, t4⟩ bs = (cmdB ⟨vb, mb, ab, tb⟩ T.r T.c 0, 1)) := by unfold Hid rcm; rw [if_neg ho, ← HTo.out, HBE.out, ← HT.out]; simp [ht1]
          generalize cmdB ⟨vb, mb, ab, tb⟩ T.r T.c 0 = cm at HCM HCE
          obtain ⟨cr, cc, cv, cmv, ca⟩ := cm
          clear ht1
          go_upto_region 10 with fail
          go_region_held3 (fun w' => w'.cell? ⟨w.heap.size, 0, none⟩ = some (.int .i64 vb) ∧ w'.cell? ⟨w.heap.size, 1, none⟩ = some (.int .i64 mb) ∧ w'.cell? ⟨w.heap.size, 2, none⟩ = some (.int .i64 ab) ∧ w'.cell? ⟨w.heap.size, 3, none⟩ = some (.int .i64 tb) ∧ w'.cell? ⟨b, 9, none⟩ = some (.int .i64 T.r) ∧ w'.cell? ⟨b, 10, none⟩ = some (.int .i64 T.c)) (go_keep) (first | (go_at_call 52; refine (HCM.out _).mono ?_; rintro e yc ⟨rfl, hyc⟩; (try dsimp only); have hyc' := ext_trans (Below.refl y3.heap.size y3).drew hyc; obtain ⟨_, b0', b1', b2', b3', _⟩ := cells4 ((hyc'.block _ (Array.getElem?_eq_some_iff.1 KXz.out).1).trans KXz.out); obtain ⟨_, _, _, _, _, _, _, _, _, _, c9', c10', _, _, _⟩ := cells13 (HPz.out.ext hyc'); have KRy := hidIt ((hyc'.block _ (Array.getElem?_eq_some_iff.1 KRz.out).1).trans KRz.out); obtain ⟨_, r0, r1, r2, r3, r4, rf⟩ := cells5 KRy.out; have HYC := hidIt hyc'; clear hyc hyc'))
          all_goals
            have HP := hidIt (put5 KRy.out (.int .i64 cr) (.int .i64 cc) (.int .i64 cv) (.int .i64 cmv) (.int .i64 ca))
            obtain ⟨_, f0, f1, f2, f3, f4, ff⟩ := cells5 HP.out.1
            go_wp2
            refine bodyPost_ret (v := .tuple #[.agg #[.int .i64 cr, .int .i64 cc, .int .i64 cv, .int .i64 cmv, .int .i64 ca], .int .i64 1]) (by simp [results, Tryz.results44, go_sem, f0, f1, f2, f3, f4]) rfl ⟨by rw [HCE.out], ?_, ?_⟩
            · exact (HP.out.2.block _ (HPz.out.ext HYC.out).lt (by simp; omega)).trans (HPz.out.ext HYC.out)
            · exact Kps.trans (Kps.trans HKz.out (Kps.of_below _ HYC.out) (fun _ _ e => e)) (Kps.grown (o := fun k => k = w.heap.size + 1) HP.out.2 (fun k e _ => (Option.some.inj e).symm)) (fun i hi (e : i = _) => absurd e (by omega))
end Go.Proofs.YtfdceljdhgbkcaaGreatDoor
