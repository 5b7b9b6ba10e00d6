import Derived.Test.YtfdceljdhgbkcaaDoorJ04
import Derived.Test.YtfdceljdhgbkcaaDoorJ20
/- A row's spell: the keys that spell a command by it. -/
namespace Go.Proofs.YtfdceljdhgbkcaaDoor
open Go.RowKit
theorem OptI.le {w : World} {base base' : Nat} {v : Value} {o : Option (List Int)} (h : OptI w base v o) (hb : base' ≤ base) : OptI w base' v o := by
  cases o
  · exact h
  · exact ⟨h.1.le hb, h.2⟩
set_option maxRecDepth 100000 in
set_option maxHeartbeats 8000000 in
theorem rspell_any (bv bm ba bt : Int) (ks : List Int) (kv : Value) (c : Cm) (w : World) (hki : RdS w kv ks) (hne : ks ≠ []) (hkl : ks.length ≤ 50) (hc : 0 ≤ c.c) (hc2 : c.c ≤ 9999) (hT : Tb w) :
    Calls Tryd.prog 17 #[.agg #[.int .i64 bv, .int .i64 bm, .int .i64 ba, .int .i64 bt, kv], cmV c] w fun e w' => ∃ u, e = .returned u ∧ OptI w' w.heap.size u (spR c ⟨⟨bv, bm, ba, bt⟩, ks⟩) ∧ Below w.heap.size w w' := by
  obtain ⟨ka, kc, rfl, _⟩ := hki.len
  obtain ⟨cr, cc, cv, cm, ca⟩ := c
  have HSP := hidIt (show spR ⟨cr, cc, cv, cm, ca⟩ ⟨⟨bv, bm, ba, bt⟩, ks⟩ = if eqC (cmdB ⟨bv, bm, ba, bt⟩ cr cc ca) ⟨cr, cc, cv, cm, ca⟩ = true then (if bt = 1 then (if ca = 27 then none else pfx (ks ++ [ca]) cr cc) else pfx ks cr cc) else none from rfl)
  generalize spR ⟨cr, cc, cv, cm, ca⟩ ⟨⟨bv, bm, ba, bt⟩, ks⟩ = RES at HSP ⊢
  have HCM := hidIt (fun w => command_any bv bm ba bt cr cc ca w)
  have HKI := hidIt hki
  have HNE := hidIt hne
  have HKL := hidIt hkl
  have HC0 : Hid (0 ≤ cc) := hc
  have HC9 : Hid (cc ≤ 9999) := hc2
  have HTb := hidIt hT
  obtain ⟨w0, hw0⟩ : ∃ w0, w0 = (w.alloc (.cells #[.int .i64 bv, .int .i64 bm, .int .i64 ba, .int .i64 bt, .slice ka ks.length kc] 50)).alloc (.cells #[.int .i64 cr, .int .i64 cc, .int .i64 cv, .int .i64 cm, .int .i64 ca] 23) := ⟨_, rfl⟩
  obtain ⟨k0, k1, hb0⟩ : w0.heap[w.heap.size]? = some (.cells #[.int .i64 bv, .int .i64 bm, .int .i64 ba, .int .i64 bt, .slice ka ks.length kc] 50 (0, 0)) ∧ w0.heap[w.heap.size + 1]? = some (.cells #[.int .i64 cr, .int .i64 cc, .int .i64 cv, .int .i64 cm, .int .i64 ca] 23 (0, 0)) ∧ Below w.heap.size w w0 := by rw [hw0]; exact two_new _ _ _ _
  have HK0 := hidIt k0
  have HK1 := hidIt k1
  have HB0 := hidIt hb0
  have HLT : Hid (w.heap.size < w0.heap.size ∧ w.heap.size + 1 < w0.heap.size) := ⟨(Array.getElem?_eq_some_iff.1 k0).1, (Array.getElem?_eq_some_iff.1 k1).1⟩
  have HS : Hid (∀ W : World, Below w0.heap.size w0 W → W.cell? ⟨w.heap.size, 0, none⟩ = some (.int .i64 bv) ∧ W.cell? ⟨w.heap.size, 1, none⟩ = some (.int .i64 bm) ∧ W.cell? ⟨w.heap.size, 2, none⟩ = some (.int .i64 ba) ∧ W.cell? ⟨w.heap.size, 3, none⟩ = some (.int .i64 bt) ∧ W.cell? ⟨w.heap.size + 1, 0, none⟩ = some (.int .i64 cr) ∧ W.cell? ⟨w.heap.size + 1, 1, none⟩ = some (.int .i64 cc) ∧ W.cell? ⟨w.heap.size + 1, 2, none⟩ = some (.int .i64 cv) ∧ W.cell? ⟨w.heap.size + 1, 3, none⟩ = some (.int .i64 cm) ∧ W.cell? ⟨w.heap.size + 1, 4, none⟩ = some (.int .i64 ca)) := fun W hW => by
    obtain ⟨_, e0, e1, e2, e3, _, _⟩ := cells5 ((hW.block _ HLT.out.1).trans HK0.out)
    obtain ⟨_, r0, r1, r2, r3, r4, _⟩ := cells5 ((hW.block _ HLT.out.2).trans HK1.out)
    exact ⟨e0, e1, e2, e3, r0, r1, r2, r3, r4⟩
  clear hki hne hkl hc hc2 hT k0 k1 hb0
  generalize hdd : cmdB ⟨bv, bm, ba, bt⟩ cr cc ca = d at HSP HCM
  clear hdd
  by_cases he : eqC d ⟨cr, cc, cv, cm, ca⟩ = true
  · rw [if_pos he] at HSP
    rw [eqC_iff.1 he] at HCM
    clear he
    go_enter Tryd.func17, Tryd.ntmps17
    go_upto_region 1 with fail
    rw [← hw0]
    clear hw0
    refine wp_region_held_drew (S := fun w' => w'.cell? ⟨w.heap.size, 0, none⟩ = some (.int .i64 bv) ∧ w'.cell? ⟨w.heap.size, 1, none⟩ = some (.int .i64 bm) ∧ w'.cell? ⟨w.heap.size, 2, none⟩ = some (.int .i64 ba) ∧ w'.cell? ⟨w.heap.size, 3, none⟩ = some (.int .i64 bt) ∧ w'.cell? ⟨w.heap.size + 1, 0, none⟩ = some (.int .i64 cr) ∧ w'.cell? ⟨w.heap.size + 1, 1, none⟩ = some (.int .i64 cc) ∧ w'.cell? ⟨w.heap.size + 1, 2, none⟩ = some (.int .i64 cv) ∧ w'.cell? ⟨w.heap.size + 1, 3, none⟩ = some (.int .i64 cm) ∧ w'.cell? ⟨w.heap.size + 1, 4, none⟩ = some (.int .i64 ca)) (by kernel_rfl) (by first | exact HS.out _ (Below.refl _ _) | exact HS.out _ (Below.refl _ _).drew) (fun hHeld => ?_)
    refine wpAnyH_take (i := 0) (oi := _) (v := ?_) rfl (by kernel_rfl) (by kernel_rfl) (by kernel_rfl) (fun _ _ _ h => h) (Or.inl ⟨by rfl, ?_⟩) (by assumption) ?_
    rotate_left 1
    · intro wq hSw; (try dsimp only at hSw); go_simp; try (with_reducible rfl)
    try simp only [Act.put, List.getElem_toArray, List.getElem_cons_zero, List.setIfInBounds_toArray, List.set_cons_zero, List.set_cons_succ]
    refine wpAnyH_take (i := 1) (oi := _) (v := ?_) rfl (by kernel_rfl) (by kernel_rfl) (by kernel_rfl) (fun _ _ _ h => h) (Or.inl ⟨by rfl, ?_⟩) (by assumption) ?_
    rotate_left 1
    · intro wq hSw; (try dsimp only at hSw); go_simp; try (with_reducible rfl)
    try simp only [Act.put, List.getElem_toArray, List.getElem_cons_succ, List.getElem_cons_zero, List.setIfInBounds_toArray, List.set_cons_zero, List.set_cons_succ]
    refine wpAnyH_take (i := 2) (oi := _) (v := ?_) rfl (by kernel_rfl) (by kernel_rfl) (by kernel_rfl) (fun _ _ _ h => h) (Or.inl ⟨by rfl, ?_⟩) (by assumption) ?_
    rotate_left 1
    · intro wq hSw; (try dsimp only at hSw); go_simp; try (with_reducible rfl)
    try simp only [Act.put, List.getElem_toArray, List.getElem_cons_succ, List.getElem_cons_zero, List.setIfInBounds_toArray, List.set_cons_zero, List.set_cons_succ]
    refine wpAnyH_take (i := 3) (oi := _) (v := ?_) rfl (by kernel_rfl) (by kernel_rfl) (by kernel_rfl) (fun _ _ _ h => h) (Or.inl ⟨by rfl, ?_⟩) (by assumption) ?_
    rotate_left 1
    · intro wq hSw; (try dsimp only at hSw); go_simp; try (with_reducible rfl)
    try simp only [Act.put, List.getElem_toArray, List.getElem_cons_succ, List.getElem_cons_zero, List.setIfInBounds_toArray, List.set_cons_zero, List.set_cons_succ]
    refine wpAnyH_take (i := 4) (oi := _) (v := ?_) rfl (by kernel_rfl) (by kernel_rfl) (by kernel_rfl) (fun _ _ _ h => h) (Or.inl ⟨by rfl, ?_⟩) (by assumption) ?_
    rotate_left 1
    · intro wq hSw; (try dsimp only at hSw); go_simp; try (with_reducible rfl)
    try simp only [Act.put, List.getElem_toArray, List.getElem_cons_succ, List.getElem_cons_zero, List.setIfInBounds_toArray, List.set_cons_zero, List.set_cons_succ]
    refine wpAnyH_take (i := 5) (oi := _) (v := ?_) rfl (by kernel_rfl) (by kernel_rfl) (by kernel_rfl) (fun _ _ _ h => h) (Or.inl ⟨by rfl, ?_⟩) (by assumption) ?_
    rotate_left 1
    · intro wq hSw; (try dsimp only at hSw); go_simp; try (with_reducible rfl)
    try simp only [Act.put, List.getElem_toArray, List.getElem_cons_succ, List.getElem_cons_zero, List.setIfInBounds_toArray, List.set_cons_zero, List.set_cons_succ]
    refine wpAnyH_take (i := 6) (oi := _) (v := ?_) rfl (by kernel_rfl) (by kernel_rfl) (by kernel_rfl) (fun _ _ _ h => h) (Or.inl ⟨by rfl, ?_⟩) (by assumption) ?_
    rotate_left 1
    · intro wq hSw; (try dsimp only at hSw); go_simp; try (with_reducible rfl)
    try simp only [Act.put, List.getElem_toArray, List.getElem_cons_succ, List.getElem_cons_zero, List.setIfInBounds_toArray, List.set_cons_zero, List.set_cons_succ]
    refine wpAnyH_take (i := 7) (oi := _) (v := ?_) rfl (by kernel_rfl) (by kernel_rfl) (by kernel_rfl) (fun _ _ _ h => h) (Or.inl ⟨by rfl, ?_⟩) (by assumption) ?_
    rotate_left 1
    · intro wq hSw; (try dsimp only at hSw); go_simp; try (with_reducible rfl)
    try simp only [Act.put, List.getElem_toArray, List.getElem_cons_succ, List.getElem_cons_zero, List.setIfInBounds_toArray, List.set_cons_zero, List.set_cons_succ]
    refine wpAnyH_take (i := 9) (oi := _) (v := ?_) rfl (by kernel_rfl) (by kernel_rfl) (by kernel_rfl) (fun _ _ _ h => h) (Or.inl ⟨by rfl, ?_⟩) (by assumption) ?_
    rotate_left 1
    · intro wq hSw; (try dsimp only at hSw); go_simp; try (with_reducible rfl)
    try simp only [Act.put, List.getElem_toArray, List.getElem_cons_succ, List.getElem_cons_zero, List.setIfInBounds_toArray, List.set_cons_zero, List.set_cons_succ]
    refine wpAnyH_ready (rs := [8]) (by kernel_rfl) (by simp) ?_
    refine AllReadyH.cons (o := _) rfl (fun K hK => ?_) AllReadyH.nil
    go_simp
    refine (HCM.out _).mono ?_; rintro e y2 ⟨rfl, hb2⟩; have HB2 := hidIt (ext_trans (Below.drew (Below.refl w0.heap.size w0)) hb2); clear hb2; try dsimp only
    refine hK.out _ _ ?_ (fun hHeld => ?_)
    · exact HS.out _ HB2.out
    clear hK K
    try simp only [Act.put, List.getElem_toArray, List.getElem_cons_succ, List.getElem_cons_zero, List.setIfInBounds_toArray, List.set_cons_zero, List.set_cons_succ]
    refine wpAnyH_take (i := 10) (oi := _) (v := ?_) rfl (by kernel_rfl) (by kernel_rfl) (by kernel_rfl) (fun _ _ _ h => h) (Or.inl ⟨by rfl, ?_⟩) (by assumption) ?_
    rotate_left 1
    · intro wq hSw; (try dsimp only at hSw); go_simp; try (with_reducible rfl)
    try simp only [Act.put, List.getElem_toArray, List.getElem_cons_succ, List.getElem_cons_zero, List.setIfInBounds_toArray, List.set_cons_zero, List.set_cons_succ]
    refine wpAnyH_done (by kernel_rfl) ?_ _
    go_upto_region 3 with fail
    have HB3 : Hid (Below w.heap.size w y2) := ext_trans HB0.out HB2.out
    have HC3 := hidIt ((HB2.out.block _ HLT.out.1).trans HK0.out)
    have HD3 := hidIt ((HB2.out.block _ HLT.out.2).trans HK1.out)
    obtain ⟨_, e0, e1, e2, e3, e4, ef⟩ := cells5 HC3.out
    obtain ⟨_, r0, r1, r2, r3, r4, rf⟩ := cells5 HD3.out
    have HCL := hidIt (clone_any (.slice ka ks.length kc) ks y2 (HKI.out.ext HB3.out) HNE.out (by have := HKL.out; omega))
    go_upto_region 4 with (go_at_call 40; refine HCL.out.mono ?_; rintro e y4 ⟨v4, rfl, ho4, hb4⟩; obtain ⟨a4, c4, rfl, _⟩ := ho4.rds.len; (try dsimp only); have HO4 := hidIt ho4; have HB4 := hidIt hb4; clear ho4 hb4 e0 e1 e2 e3 e4 ef r0 r1 r2 r3 r4 rf)
    obtain ⟨_, e0, e1, e2, e3, e4, ef⟩ := cells5 ((HB4.out.block _ (Array.getElem?_eq_some_iff.1 HC3.out).1).trans HC3.out)
    obtain ⟨_, r0, r1, r2, r3, r4, rf⟩ := cells5 ((HB4.out.block _ (Array.getElem?_eq_some_iff.1 HD3.out).1).trans HD3.out)
    have lr := (Array.getElem?_eq_some_iff.1 ((HB4.out.block _ (Array.getElem?_eq_some_iff.1 HD3.out).1).trans HD3.out)).1
    have HBW4 : Hid (Below w.heap.size w y4) := ext_trans HB3.out HB4.out
    by_cases ht : bt = 1
    · have htb : (bt == 1) = true := by simpa using ht
      rw [if_pos ht] at HSP
      clear ht
      by_cases h27 : ca = 27
      · have h27b : (ca == 27) = true := by simpa using h27
        rw [if_pos h27] at HSP
        clear h27
        go_wp2_with fail
        go_ret
        refine ⟨_, rfl, ?_, HBW4.out⟩
        rw [HSP.out]
        rfl
      · have h27b : (ca == 27) = false := by simpa using h27
        rw [if_neg h27] at HSP
        clear h27
        obtain ⟨k5, HK5⟩ : ∃ k5, Hid (k5 = ks ++ [ca]) := ⟨_, hidIt rfl⟩
        rw [← HK5.out] at HSP
        go_upto_region 8 with (at_builtin; refine wpl_int1 _ rfl _ _ 25 rfl Tryd.info_i64 Tryd.underlying25 (.slice a4 ks.length c4) ks rfl ((HO4.out.le (Nat.zero_le _)).ext (ext_alloc (Below.refl _ _) _)) ca ⟨y4.heap.size, 0, none⟩ 1 rfl (lit_cell _ _ _) rfl (by have := HKL.out; omega) ?_; intro v5 y5 ho5 hg5 hv5; rw [← HK5.out] at ho5; obtain ⟨a5, c5, rfl, _⟩ := ho5.rds.len; have HO5 := hidIt ho5; have HG5 := hidIt hg5; clear ho5 hg5 hv5; (try dsimp only))
        have HBW5 : Hid (Below w.heap.size w y5) := (ext_alloc HBW4.out _).grown HG5.out (by have := HBW4.out.size; simp; omega) (fun k e => Nat.le_trans HB3.out.size (HO4.out.blk e).1)
        have HPX := hidIt (prefixed_any (.slice a5 k5.length c5) k5 cr cc y5 HO5.out.rds (by rw [HK5.out]; simp) (by rw [HK5.out, List.length_append, List.length_singleton]; have := HKL.out; omega) HC0.out HC9.out (HTb.out.ext HBW5.out))
        have HD4 := hidIt ((HB4.out.block _ (Array.getElem?_eq_some_iff.1 HD3.out).1).trans HD3.out)
        have HD5 : Hid (y5.heap[w.heap.size + 1]? = some (.cells #[.int .i64 cr, .int .i64 cc, .int .i64 cv, .int .i64 cm, .int .i64 ca] 23 (0, 0))) := (HG5.out.block _ (by simp; omega) (fun e => own_ne (HO4.out.le (Nat.zero_le _)) HD4.out (by decide) e.symm)).trans (((ext_alloc (Below.refl _ _) _ : Below y4.heap.size y4 _).block _ lr).trans HD4.out)
        clear e0 e1 e2 e3 e4 ef r0 r1 r2 r3 r4 rf
        obtain ⟨_, r0, r1, r2, r3, r4, rf⟩ := cells5 HD5.out
        go_wp2_with (go_at_call 41; refine HPX.out.mono ?_; rintro e y6 ⟨u6, rfl, ho6, hb6⟩; (try dsimp only); have HO6 := hidIt ho6; have HB6 := hidIt hb6; clear ho6 hb6)
        go_ret
        refine ⟨_, rfl, ?_, ext_trans HBW5.out HB6.out⟩
        rw [HSP.out]
        exact HO6.out.le HBW5.out.size
    · have htb : (bt == 1) = false := by simpa using ht
      rw [if_neg ht] at HSP
      clear ht
      have HPX := hidIt (prefixed_any (.slice a4 ks.length c4) ks cr cc y4 HO4.out.rds HNE.out (by have := HKL.out; omega) HC0.out HC9.out (HTb.out.ext HBW4.out))
      go_wp2_with (go_at_call 41; refine HPX.out.mono ?_; rintro e y6 ⟨u6, rfl, ho6, hb6⟩; (try dsimp only); have HO6 := hidIt ho6; have HB6 := hidIt hb6; clear ho6 hb6)
      go_ret
      refine ⟨_, rfl, ?_, ext_trans HBW4.out HB6.out⟩
      rw [HSP.out]
      exact HO6.out.le HBW4.out.size
  · rw [if_neg he] at HSP
    obtain ⟨d1, d2, d3, d4, d5⟩ := d
    have HEN : Hid (¬ (d1 = cr ∧ d2 = cc ∧ d3 = cv ∧ d4 = cm ∧ d5 = ca)) := fun h => he (eqC_iff.2 (by obtain ⟨a, b, c, d, e⟩ := h; subst a b c d e; rfl))
    clear he
    go_enter Tryd.func17, Tryd.ntmps17
    go_upto_region 1 with fail
    rw [← hw0]
    clear hw0
    refine wp_region_held_drew (S := fun w' => w'.cell? ⟨w.heap.size, 0, none⟩ = some (.int .i64 bv) ∧ w'.cell? ⟨w.heap.size, 1, none⟩ = some (.int .i64 bm) ∧ w'.cell? ⟨w.heap.size, 2, none⟩ = some (.int .i64 ba) ∧ w'.cell? ⟨w.heap.size, 3, none⟩ = some (.int .i64 bt) ∧ w'.cell? ⟨w.heap.size + 1, 0, none⟩ = some (.int .i64 cr) ∧ w'.cell? ⟨w.heap.size + 1, 1, none⟩ = some (.int .i64 cc) ∧ w'.cell? ⟨w.heap.size + 1, 2, none⟩ = some (.int .i64 cv) ∧ w'.cell? ⟨w.heap.size + 1, 3, none⟩ = some (.int .i64 cm) ∧ w'.cell? ⟨w.heap.size + 1, 4, none⟩ = some (.int .i64 ca)) (by kernel_rfl) (by first | exact HS.out _ (Below.refl _ _) | exact HS.out _ (Below.refl _ _).drew) (fun hHeld => ?_)
    refine wpAnyH_take (i := 0) (oi := _) (v := ?_) rfl (by kernel_rfl) (by kernel_rfl) (by kernel_rfl) (fun _ _ _ h => h) (Or.inl ⟨by rfl, ?_⟩) (by assumption) ?_
    rotate_left 1
    · intro wq hSw; (try dsimp only at hSw); go_simp; try (with_reducible rfl)
    try simp only [Act.put, List.getElem_toArray, List.getElem_cons_zero, List.setIfInBounds_toArray, List.set_cons_zero, List.set_cons_succ]
    refine wpAnyH_take (i := 1) (oi := _) (v := ?_) rfl (by kernel_rfl) (by kernel_rfl) (by kernel_rfl) (fun _ _ _ h => h) (Or.inl ⟨by rfl, ?_⟩) (by assumption) ?_
    rotate_left 1
    · intro wq hSw; (try dsimp only at hSw); go_simp; try (with_reducible rfl)
    try simp only [Act.put, List.getElem_toArray, List.getElem_cons_succ, List.getElem_cons_zero, List.setIfInBounds_toArray, List.set_cons_zero, List.set_cons_succ]
    refine wpAnyH_take (i := 2) (oi := _) (v := ?_) rfl (by kernel_rfl) (by kernel_rfl) (by kernel_rfl) (fun _ _ _ h => h) (Or.inl ⟨by rfl, ?_⟩) (by assumption) ?_
    rotate_left 1
    · intro wq hSw; (try dsimp only at hSw); go_simp; try (with_reducible rfl)
    try simp only [Act.put, List.getElem_toArray, List.getElem_cons_succ, List.getElem_cons_zero, List.setIfInBounds_toArray, List.set_cons_zero, List.set_cons_succ]
    refine wpAnyH_take (i := 3) (oi := _) (v := ?_) rfl (by kernel_rfl) (by kernel_rfl) (by kernel_rfl) (fun _ _ _ h => h) (Or.inl ⟨by rfl, ?_⟩) (by assumption) ?_
    rotate_left 1
    · intro wq hSw; (try dsimp only at hSw); go_simp; try (with_reducible rfl)
    try simp only [Act.put, List.getElem_toArray, List.getElem_cons_succ, List.getElem_cons_zero, List.setIfInBounds_toArray, List.set_cons_zero, List.set_cons_succ]
    refine wpAnyH_take (i := 4) (oi := _) (v := ?_) rfl (by kernel_rfl) (by kernel_rfl) (by kernel_rfl) (fun _ _ _ h => h) (Or.inl ⟨by rfl, ?_⟩) (by assumption) ?_
    rotate_left 1
    · intro wq hSw; (try dsimp only at hSw); go_simp; try (with_reducible rfl)
    try simp only [Act.put, List.getElem_toArray, List.getElem_cons_succ, List.getElem_cons_zero, List.setIfInBounds_toArray, List.set_cons_zero, List.set_cons_succ]
    refine wpAnyH_take (i := 5) (oi := _) (v := ?_) rfl (by kernel_rfl) (by kernel_rfl) (by kernel_rfl) (fun _ _ _ h => h) (Or.inl ⟨by rfl, ?_⟩) (by assumption) ?_
    rotate_left 1
    · intro wq hSw; (try dsimp only at hSw); go_simp; try (with_reducible rfl)
    try simp only [Act.put, List.getElem_toArray, List.getElem_cons_succ, List.getElem_cons_zero, List.setIfInBounds_toArray, List.set_cons_zero, List.set_cons_succ]
    refine wpAnyH_take (i := 6) (oi := _) (v := ?_) rfl (by kernel_rfl) (by kernel_rfl) (by kernel_rfl) (fun _ _ _ h => h) (Or.inl ⟨by rfl, ?_⟩) (by assumption) ?_
    rotate_left 1
    · intro wq hSw; (try dsimp only at hSw); go_simp; try (with_reducible rfl)
    try simp only [Act.put, List.getElem_toArray, List.getElem_cons_succ, List.getElem_cons_zero, List.setIfInBounds_toArray, List.set_cons_zero, List.set_cons_succ]
    refine wpAnyH_take (i := 7) (oi := _) (v := ?_) rfl (by kernel_rfl) (by kernel_rfl) (by kernel_rfl) (fun _ _ _ h => h) (Or.inl ⟨by rfl, ?_⟩) (by assumption) ?_
    rotate_left 1
    · intro wq hSw; (try dsimp only at hSw); go_simp; try (with_reducible rfl)
    try simp only [Act.put, List.getElem_toArray, List.getElem_cons_succ, List.getElem_cons_zero, List.setIfInBounds_toArray, List.set_cons_zero, List.set_cons_succ]
    refine wpAnyH_take (i := 9) (oi := _) (v := ?_) rfl (by kernel_rfl) (by kernel_rfl) (by kernel_rfl) (fun _ _ _ h => h) (Or.inl ⟨by rfl, ?_⟩) (by assumption) ?_
    rotate_left 1
    · intro wq hSw; (try dsimp only at hSw); go_simp; try (with_reducible rfl)
    try simp only [Act.put, List.getElem_toArray, List.getElem_cons_succ, List.getElem_cons_zero, List.setIfInBounds_toArray, List.set_cons_zero, List.set_cons_succ]
    refine wpAnyH_ready (rs := [8]) (by kernel_rfl) (by simp) ?_
    refine AllReadyH.cons (o := _) rfl (fun K hK => ?_) AllReadyH.nil
    go_simp
    refine (HCM.out _).mono ?_; rintro e y2 ⟨rfl, hb2⟩; have HB2 := hidIt (ext_trans (Below.drew (Below.refl w0.heap.size w0)) hb2); clear hb2; try dsimp only
    refine hK.out _ _ ?_ (fun hHeld => ?_)
    · exact HS.out _ HB2.out
    clear hK K
    try simp only [Act.put, List.getElem_toArray, List.getElem_cons_succ, List.getElem_cons_zero, List.setIfInBounds_toArray, List.set_cons_zero, List.set_cons_succ]
    refine wpAnyH_take (i := 10) (oi := _) (v := .bool true) rfl (by kernel_rfl) (by kernel_rfl) (by kernel_rfl) (fun _ _ _ h => h) (Or.inl ⟨by rfl, ?_⟩) (by assumption) ?_
    · intro wq hSw
      (try dsimp only at hSw)
      go_simp
      exact fun a b c d e => HEN.out ⟨a, b, c, d, e⟩
    try simp only [Act.put, List.getElem_toArray, List.getElem_cons_succ, List.getElem_cons_zero, List.setIfInBounds_toArray, List.set_cons_zero, List.set_cons_succ]
    refine wpAnyH_done (by kernel_rfl) ?_ _
    go_wp2_with fail
    go_ret
    refine ⟨_, rfl, ?_, ext_trans HB0.out HB2.out⟩
    rw [HSP.out]
    rfl
end Go.Proofs.YtfdceljdhgbkcaaDoor
