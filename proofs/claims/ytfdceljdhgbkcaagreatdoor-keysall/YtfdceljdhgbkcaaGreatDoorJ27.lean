import Derived.Test.YtfdceljdhgbkcaaGreatDoorJ25
import Derived.Test.YtfdceljdhgbkcaaGreatDoorJ19
import Derived.Test.YtfdceljdhgbkcaaGreatDoorJ04
import Derived.Test.YtfdceljdhgbkcaaGreatDoorJ26
import Derived.Laws.Cover3
/- A row's spell: the keys that spell a command by it. -/
namespace Go.Proofs.YtfdceljdhgbkcaaGreatDoor
open Go.RowKit
theorem OptI.le {w : World} {base base' : Nat} {v : Value} {o : Option (List Int)} (h : OptI w base v o) (hb : base' ≤ base) : OptI w base' v o := by
  cases o
  · exact h
  · exact ⟨h.1.le hb, h.2⟩
set_option maxRecDepth 100000 in
set_option maxHeartbeats 8000000 in
theorem rspell_any (bv bm ba bt : Int) (ks : List Int) (kv : Value) (c : Cm) (w : World) (hki : RdS w kv ks) (hne : ks ≠ []) (hkl : ks.length ≤ 50) (hc : 0 ≤ c.c) (hc2 : c.c ≤ 9999) (hT : Tb w) :
    Calls Tryz.prog 24 #[.agg #[.int .i64 bv, .int .i64 bm, .int .i64 ba, .int .i64 bt, kv], cmV c] w fun e w' => ∃ u, e = .returned u ∧ OptI w' w.heap.size u (spR c ⟨⟨bv, bm, ba, bt⟩, ks⟩) ∧ Below w.heap.size w w' := by
  obtain ⟨ka, kc, rfl, _⟩ := hki.len
  obtain ⟨cr, cc, cv, cm, ca⟩ := c
  have HSP := hidIt (show spR ⟨cr, cc, cv, cm, ca⟩ ⟨⟨bv, bm, ba, bt⟩, ks⟩ = if eqC (cmdB ⟨bv, bm, ba, bt⟩ cr cc ca) ⟨cr, cc, cv, cm, ca⟩ = true then (if bt = 1 then (if ca = 27 then none else pfx (ks ++ [ca]) cr cc) else pfx ks cr cc) else none from rfl)
  generalize spR ⟨cr, cc, cv, cm, ca⟩ ⟨⟨bv, bm, ba, bt⟩, ks⟩ = RES at HSP ⊢
  have HCM := hidIt (fun w => command_any bv bm ba bt cr cc ca w)
  have HKI := hidIt hki
  have HNE := hidIt hne
  have HKL := hidIt hkl
  have HC0 : Hid (0 ≤ cc) := hc
  have HC9 : Hid (cc ≤ 9999) := hc2
  have HTb := hidIt hT
  obtain ⟨w0, hw0⟩ : ∃ w0, w0 = (w.alloc (.cells #[.int .i64 bv, .int .i64 bm, .int .i64 ba, .int .i64 bt, .slice ka ks.length kc] 64)).alloc (.cells #[.int .i64 cr, .int .i64 cc, .int .i64 cv, .int .i64 cm, .int .i64 ca] 33) := ⟨_, rfl⟩
  obtain ⟨k0, k1, hb0⟩ : w0.heap[w.heap.size]? = some (.cells #[.int .i64 bv, .int .i64 bm, .int .i64 ba, .int .i64 bt, .slice ka ks.length kc] 64 (0, 0)) ∧ w0.heap[w.heap.size + 1]? = some (.cells #[.int .i64 cr, .int .i64 cc, .int .i64 cv, .int .i64 cm, .int .i64 ca] 33 (0, 0)) ∧ Below w.heap.size w w0 := by rw [hw0]; exact two_new _ _ _ _
  have HK0 := hidIt k0
  have HK1 := hidIt k1
  have HB0 := hidIt hb0
  have HLT : Hid (w.heap.size < w0.heap.size ∧ w.heap.size + 1 < w0.heap.size) := ⟨(Array.getElem?_eq_some_iff.1 k0).1, (Array.getElem?_eq_some_iff.1 k1).1⟩
  have HS : Hid (∀ W : World, Below w0.heap.size w0 W → W.cell? ⟨w.heap.size, 0, none⟩ = some (.int .i64 bv) ∧ W.cell? ⟨w.heap.size, 1, none⟩ = some (.int .i64 bm) ∧ W.cell? ⟨w.heap.size, 2, none⟩ = some (.int .i64 ba) ∧ W.cell? ⟨w.heap.size, 3, none⟩ = some (.int .i64 bt) ∧ W.cell? ⟨w.heap.size + 1, 0, none⟩ = some (.int .i64 cr) ∧ W.cell? ⟨w.heap.size + 1, 1, none⟩ = some (.int .i64 cc) ∧ W.cell? ⟨w.heap.size + 1, 2, none⟩ = some (.int .i64 cv) ∧ W.cell? ⟨w.heap.size + 1, 3, none⟩ = some (.int .i64 cm) ∧ W.cell? ⟨w.heap.size + 1, 4, none⟩ = some (.int .i64 ca)) := fun W hW => by
    obtain ⟨_, e0, e1, e2, e3, _, _⟩ := cells5 ((hW.block _ HLT.out.1).trans HK0.out)
    obtain ⟨_, r0, r1, r2, r3, r4, _⟩ := cells5 ((hW.block _ HLT.out.2).trans HK1.out)
    exact ⟨e0, e1, e2, e3, r0, r1, r2, r3, r4⟩
  clear hki hne hkl hc hc2 hT k0 k1 hb0
  generalize hdd : cmdB ⟨bv, bm, ba, bt⟩ cr cc ca = d at HSP HCM
  clear hdd
  by_cases he : eqC d ⟨cr, cc, cv, cm, ca⟩ = true
  · rw [if_pos he] at HSP
    rw [eqC_iff.1 he] at HCM
    clear he
    go_enter Tryz.func24, Tryz.ntmps24
    go_upto_region 1 with fail
    rw [← hw0]
    clear hw0
    refine wp_region_held_drew (S := fun w' => w'.cell? ⟨w.heap.size, 0, none⟩ = some (.int .i64 bv) ∧ w'.cell? ⟨w.heap.size, 1, none⟩ = some (.int .i64 bm) ∧ w'.cell? ⟨w.heap.size, 2, none⟩ = some (.int .i64 ba) ∧ w'.cell? ⟨w.heap.size, 3, none⟩ = some (.int .i64 bt) ∧ w'.cell? ⟨w.heap.size + 1, 0, none⟩ = some (.int .i64 cr) ∧ w'.cell? ⟨w.heap.size + 1, 1, none⟩ = some (.int .i64 cc) ∧ w'.cell? ⟨w.heap.size + 1, 2, none⟩ = some (.int .i64 cv) ∧ w'.cell? ⟨w.heap.size + 1, 3, none⟩ = some (.int .i64 cm) ∧ w'.cell? ⟨w.heap.size + 1, 4, none⟩ = some (.int .i64 ca)) (by kernel_rfl) (by first | exact HS.out _ (Below.refl _ _) | exact HS.out _ (Below.refl _ _).drew) (fun hHeld => ?_)
    refine wpAnyH_take (i := 0) (oi := _) (v := ?_) rfl (by kernel_rfl) (by kernel_rfl) (by kernel_rfl) (fun _ _ _ h => h) (Or.inl ⟨by rfl, ?_⟩) (by assumption) ?_
    rotate_left 1
    · intro wq hSw; (try dsimp only at hSw); go_simp; try (with_reducible rfl)
    try simp only [Act.put, List.getElem_toArray, List.getElem_cons_zero, List.setIfInBounds_toArray, List.set_cons_zero, List.set_cons_succ]
    refine wpAnyH_take (i := 1) (oi := _) (v := ?_) rfl (by kernel_rfl) (by kernel_rfl) (by kernel_rfl) (fun _ _ _ h => h) (Or.inl ⟨by rfl, ?_⟩) (by assumption) ?_
    rotate_left 1
    · intro wq hSw; (try dsimp only at hSw); go_simp; try (with_reducible rfl)
    try simp only [Act.put, List.getElem_toArray, List.getElem_cons_succ, List.getElem_cons_zero, List.setIfInBounds_toArray, List.set_cons_zero, List.set_cons_succ]
    refine wpAnyH_take (i := 2) (oi := _) (v := ?_) rfl (by kernel_rfl) (by kernel_rfl) (by kernel_rfl) (fun _ _ _ h => h) (Or.inl ⟨by rfl, ?_⟩) (by assumption) ?_
    rotate_left 1
    · intro wq hSw; (try dsimp only at hSw); go_simp; try (with_reducible rfl)
    try simp only [Act.put, List.getElem_toArray, List.getElem_cons_succ, List.getElem_cons_zero, List.setIfInBounds_toArray, List.set_cons_zero, List.set_cons_succ]
    refine wpAnyH_take (i := 3) (oi := _) (v := ?_) rfl (by kernel_rfl) (by kernel_rfl) (by kernel_rfl) (fun _ _ _ h => h) (Or.inl ⟨by rfl, ?_⟩) (by assumption) ?_
    rotate_left 1
    · intro wq hSw; (try dsimp only at hSw); go_simp; try (with_reducible rfl)
    try simp only [Act.put, List.getElem_toArray, List.getElem_cons_succ, List.getElem_cons_zero, List.setIfInBounds_toArray, List.set_cons_zero, List.set_cons_succ]
    refine wpAnyH_take (i := 4) (oi := _) (v := ?_) rfl (by kernel_rfl) (by kernel_rfl) (by kernel_rfl) (fun _ _ _ h => h) (Or.inl ⟨by rfl, ?_⟩) (by assumption) ?_
    rotate_left 1
    · intro wq hSw; (try dsimp only at hSw); go_simp; try (with_reducible rfl)
    try simp only [Act.put, List.getElem_toArray, List.getElem_cons_succ, List.getElem_cons_zero, List.setIfInBounds_toArray, List.set_cons_zero, List.set_cons_succ]
    refine wpAnyH_take (i := 5) (oi := _) (v := ?_) rfl (by kernel_rfl) (by kernel_rfl) (by kernel_rfl) (fun _ _ _ h => h) (Or.inl ⟨by rfl, ?_⟩) (by assumption) ?_
    rotate_left 1
    · intro wq hSw; (try dsimp only at hSw); go_simp; try (with_reducible rfl)
    try simp only [Act.put, List.getElem_toArray, List.getElem_cons_succ, List.getElem_cons_zero, List.setIfInBounds_toArray, List.set_cons_zero, List.set_cons_succ]
    refine wpAnyH_take (i := 6) (oi := _) (v := ?_) rfl (by kernel_rfl) (by kernel_rfl) (by kernel_rfl) (fun _ _ _ h => h) (Or.inl ⟨by rfl, ?_⟩) (by assumption) ?_
    rotate_left 1
    · intro wq hSw; (try dsimp only at hSw); go_simp; try (with_reducible rfl)
    try simp only [Act.put, List.getElem_toArray, List.getElem_cons_succ, List.getElem_cons_zero, List.setIfInBounds_toArray, List.set_cons_zero, List.set_cons_succ]
    refine wpAnyH_take (i := 7) (oi := _) (v := ?_) rfl (by kernel_rfl) (by kernel_rfl) (by kernel_rfl) (fun _ _ _ h => h) (Or.inl ⟨by rfl, ?_⟩) (by assumption) ?_
    rotate_left 1
    · intro wq hSw; (try dsimp only at hSw); go_simp; try (with_reducible rfl)
    try simp only [Act.put, List.getElem_toArray, List.getElem_cons_succ, List.getElem_cons_zero, List.setIfInBounds_toArray, List.set_cons_zero, List.set_cons_succ]
    refine wpAnyH_take (i := 9) (oi := _) (v := ?_) rfl (by kernel_rfl) (by kernel_rfl) (by kernel_rfl) (fun _ _ _ h => h) (Or.inl ⟨by rfl, ?_⟩) (by assumption) ?_
    rotate_left 1
    · intro wq hSw; (try dsimp only at hSw); go_simp; try (with_reducible rfl)
    try simp only [Act.put, List.getElem_toArray, List.getElem_cons_succ, List.getElem_cons_zero, List.setIfInBounds_toArray, List.set_cons_zero, List.set_cons_succ]
    refine wpAnyH_ready (rs := [8]) (by kernel_rfl) (by simp) ?_
    refine AllReadyH.cons (o := _) rfl (fun K hK => ?_) AllReadyH.nil
    go_simp
    refine (HCM.out _).mono ?_; rintro e y2 ⟨rfl, hb2⟩; have HB2 := hidIt (ext_trans (Below.drew (Below.refl w0.heap.size w0)) hb2); clear hb2; try dsimp only
    refine hK.out _ _ ?_ (fun hHeld => ?_)
    · exact HS.out _ HB2.out
    clear hK K
    try simp only [Act.put, List.getElem_toArray, List.getElem_cons_succ, List.getElem_cons_zero, List.setIfInBounds_toArray, List.set_cons_zero, List.set_cons_succ]
    refine wpAnyH_take (i := 10) (oi := _) (v := ?_) rfl (by kernel_rfl) (by kernel_rfl) (by kernel_rfl) (fun _ _ _ h => h) (Or.inl ⟨by rfl, ?_⟩) (by assumption) ?_
    rotate_left 1
    · intro wq hSw; (try dsimp only at hSw); go_simp; try (with_reducible rfl)
    try simp only [Act.put, List.getElem_toArray, List.getElem_cons_succ, List.getElem_cons_zero, List.setIfInBounds_toArray, List.set_cons_zero, List.set_cons_succ]
    refine wpAnyH_done (by kernel_rfl) ?_ _
    go_upto_region 3 with fail
    have HB3 : Hid (Below w.heap.size w y2) := ext_trans HB0.out HB2.out
    have HC3 := hidIt ((HB2.out.block _ HLT.out.1).trans HK0.out)
    have HD3 := hidIt ((HB2.out.block _ HLT.out.2).trans HK1.out)
    obtain ⟨_, e0, e1, e2, e3, e4, ef⟩ := cells5 HC3.out
    obtain ⟨_, r0, r1, r2, r3, r4, rf⟩ := cells5 HD3.out
    have HCL := hidIt (clone_any (.slice ka ks.length kc) ks y2 (HKI.out.ext HB3.out) HNE.out (by have := HKL.out; omega))
    go_upto_region 4 with (go_at_call 37; refine HCL.out.mono ?_; rintro e y4 ⟨v4, rfl, ho4, hb4⟩; obtain ⟨a4, c4, rfl, _⟩ := ho4.rds.len; (try dsimp only); have HO4 := hidIt ho4; have HB4 := hidIt hb4; clear ho4 hb4 e0 e1 e2 e3 e4 ef r0 r1 r2 r3 r4 rf)
    obtain ⟨_, e0, e1, e2, e3, e4, ef⟩ := cells5 ((HB4.out.block _ (Array.getElem?_eq_some_iff.1 HC3.out).1).trans HC3.out)
    obtain ⟨_, r0, r1, r2, r3, r4, rf⟩ := cells5 ((HB4.out.block _ (Array.getElem?_eq_some_iff.1 HD3.out).1).trans HD3.out)
    have lr := (Array.getElem?_eq_some_iff.1 ((HB4.out.block _ (Array.getElem?_eq_some_iff.1 HD3.out).1).trans HD3.out)).1
    have HBW4 : Hid (Below w.heap.size w y4) := ext_trans HB3.out HB4.out
    by_cases ht : bt = 1
    · have htb : (bt == 1) = true := by simpa using ht
      rw [if_pos ht] at HSP
      clear ht
      by_cases h27 : ca = 27
      · have h27b : (ca == 27) = true := by simpa using h27
        rw [if_pos h27] at HSP
        clear h27
        go_wp2_with fail
        go_ret
        refine ⟨_, rfl, ?_, HBW4.out⟩
        rw [HSP.out]
        rfl
      · have h27b : (ca == 27) = false := by simpa using h27
        rw [if_neg h27] at HSP
        clear h27
        obtain ⟨k5, HK5⟩ : ∃ k5, Hid (k5 = ks ++ [ca]) := ⟨_, hidIt rfl⟩
        rw [← HK5.out] at HSP
        go_upto_region 8 with (at_builtin; refine wpl_int1 _ rfl _ _ 38 rfl Tryz.info_i64 Tryz.underlying38 (.slice a4 ks.length c4) ks rfl ((HO4.out.le (Nat.zero_le _)).ext (ext_alloc (Below.refl _ _) _)) ca ⟨y4.heap.size, 0, none⟩ 1 rfl (lit_cell _ _ _) rfl (by have := HKL.out; omega) ?_; intro v5 y5 ho5 hg5 hv5; rw [← HK5.out] at ho5; obtain ⟨a5, c5, rfl, _⟩ := ho5.rds.len; have HO5 := hidIt ho5; have HG5 := hidIt hg5; clear ho5 hg5 hv5; (try dsimp only))
        have HBW5 : Hid (Below w.heap.size w y5) := (ext_alloc HBW4.out _).grown HG5.out (by have := HBW4.out.size; simp; omega) (fun k e => Nat.le_trans HB3.out.size (HO4.out.blk e).1)
        have HPX := hidIt (prefixed_any (.slice a5 k5.length c5) k5 cr cc y5 HO5.out.rds (by rw [HK5.out]; simp) (by rw [HK5.out, List.length_append, List.length_singleton]; have := HKL.out; omega) HC0.out HC9.out (HTb.out.ext HBW5.out))
        have HD4 := hidIt ((HB4.out.block _ (Array.getElem?_eq_some_iff.1 HD3.out).1).trans HD3.out)
        have HD5 : Hid (y5.heap[w.heap.size + 1]? = some (.cells #[.int .i64 cr, .int .i64 cc, .int .i64 cv, .int .i64 cm, .int .i64 ca] 33 (0, 0))) := (HG5.out.block _ (by simp; omega) (fun e => own_ne (HO4.out.le (Nat.zero_le _)) HD4.out (by decide) e.symm)).trans (((ext_alloc (Below.refl _ _) _ : Below y4.heap.size y4 _).block _ lr).trans HD4.out)
        clear e0 e1 e2 e3 e4 ef r0 r1 r2 r3 r4 rf
        obtain ⟨_, r0, r1, r2, r3, r4, rf⟩ := cells5 HD5.out
        go_wp2_with (go_at_call 53; refine HPX.out.mono ?_; rintro e y6 ⟨u6, rfl, ho6, hb6⟩; (try dsimp only); have HO6 := hidIt ho6; have HB6 := hidIt hb6; clear ho6 hb6)
        go_ret
        refine ⟨_, rfl, ?_, ext_trans HBW5.out HB6.out⟩
        rw [HSP.out]
        exact HO6.out.le HBW5.out.size
    · have htb : (bt == 1) = false := by simpa using ht
      rw [if_neg ht] at HSP
      clear ht
      have HPX := hidIt (prefixed_any (.slice a4 ks.length c4) ks cr cc y4 HO4.out.rds HNE.out (by have := HKL.out; omega) HC0.out HC9.out (HTb.out.ext HBW4.out))
      go_wp2_with (go_at_call 53; refine HPX.out.mono ?_; rintro e y6 ⟨u6, rfl, ho6, hb6⟩; (try dsimp only); have HO6 := hidIt ho6; have HB6 := hidIt hb6; clear ho6 hb6)
      go_ret
      refine ⟨_, rfl, ?_, ext_trans HBW4.out HB6.out⟩
      rw [HSP.out]
      exact HO6.out.le HBW4.out.size
  · rw [if_neg he] at HSP
    obtain ⟨d1, d2, d3, d4, d5⟩ := d
    have HEN : Hid (¬ (d1 = cr ∧ d2 = cc ∧ d3 = cv ∧ d4 = cm ∧ d5 = ca)) := fun h => he (eqC_iff.2 (by obtain ⟨a, b, c, d, e⟩ := h; subst a b c d e; rfl))
    clear he
    go_enter Tryz.func24, Tryz.ntmps24
    go_upto_region 1 with fail
    rw [← hw0]
    clear hw0
    refine wp_region_held_drew (S := fun w' => w'.cell? ⟨w.heap.size, 0, none⟩ = some (.int .i64 bv) ∧ w'.cell? ⟨w.heap.size, 1, none⟩ = some (.int .i64 bm) ∧ w'.cell? ⟨w.heap.size, 2, none⟩ = some (.int .i64 ba) ∧ w'.cell? ⟨w.heap.size, 3, none⟩ = some (.int .i64 bt) ∧ w'.cell? ⟨w.heap.size + 1, 0, none⟩ = some (.int .i64 cr) ∧ w'.cell? ⟨w.heap.size + 1, 1, none⟩ = some (.int .i64 cc) ∧ w'.cell? ⟨w.heap.size + 1, 2, none⟩ = some (.int .i64 cv) ∧ w'.cell? ⟨w.heap.size + 1, 3, none⟩ = some (.int .i64 cm) ∧ w'.cell? ⟨w.heap.size + 1, 4, none⟩ = some (.int .i64 ca)) (by kernel_rfl) (by first | exact HS.out _ (Below.refl _ _) | exact HS.out _ (Below.refl _ _).drew) (fun hHeld => ?_)
    refine wpAnyH_take (i := 0) (oi := _) (v := ?_) rfl (by kernel_rfl) (by kernel_rfl) (by kernel_rfl) (fun _ _ _ h => h) (Or.inl ⟨by rfl, ?_⟩) (by assumption) ?_
    rotate_left 1
    · intro wq hSw; (try dsimp only at hSw); go_simp; try (with_reducible rfl)
    try simp only [Act.put, List.getElem_toArray, List.getElem_cons_zero, List.setIfInBounds_toArray, List.set_cons_zero, List.set_cons_succ]
    refine wpAnyH_take (i := 1) (oi := _) (v := ?_) rfl (by kernel_rfl) (by kernel_rfl) (by kernel_rfl) (fun _ _ _ h => h) (Or.inl ⟨by rfl, ?_⟩) (by assumption) ?_
    rotate_left 1
    · intro wq hSw; (try dsimp only at hSw); go_simp; try (with_reducible rfl)
    try simp only [Act.put, List.getElem_toArray, List.getElem_cons_succ, List.getElem_cons_zero, List.setIfInBounds_toArray, List.set_cons_zero, List.set_cons_succ]
    refine wpAnyH_take (i := 2) (oi := _) (v := ?_) rfl (by kernel_rfl) (by kernel_rfl) (by kernel_rfl) (fun _ _ _ h => h) (Or.inl ⟨by rfl, ?_⟩) (by assumption) ?_
    rotate_left 1
    · intro wq hSw; (try dsimp only at hSw); go_simp; try (with_reducible rfl)
    try simp only [Act.put, List.getElem_toArray, List.getElem_cons_succ, List.getElem_cons_zero, List.setIfInBounds_toArray, List.set_cons_zero, List.set_cons_succ]
    refine wpAnyH_take (i := 3) (oi := _) (v := ?_) rfl (by kernel_rfl) (by kernel_rfl) (by kernel_rfl) (fun _ _ _ h => h) (Or.inl ⟨by rfl, ?_⟩) (by assumption) ?_
    rotate_left 1
    · intro wq hSw; (try dsimp only at hSw); go_simp; try (with_reducible rfl)
    try simp only [Act.put, List.getElem_toArray, List.getElem_cons_succ, List.getElem_cons_zero, List.setIfInBounds_toArray, List.set_cons_zero, List.set_cons_succ]
    refine wpAnyH_take (i := 4) (oi := _) (v := ?_) rfl (by kernel_rfl) (by kernel_rfl) (by kernel_rfl) (fun _ _ _ h => h) (Or.inl ⟨by rfl, ?_⟩) (by assumption) ?_
    rotate_left 1
    · intro wq hSw; (try dsimp only at hSw); go_simp; try (with_reducible rfl)
    try simp only [Act.put, List.getElem_toArray, List.getElem_cons_succ, List.getElem_cons_zero, List.setIfInBounds_toArray, List.set_cons_zero, List.set_cons_succ]
    refine wpAnyH_take (i := 5) (oi := _) (v := ?_) rfl (by kernel_rfl) (by kernel_rfl) (by kernel_rfl) (fun _ _ _ h => h) (Or.inl ⟨by rfl, ?_⟩) (by assumption) ?_
    rotate_left 1
    · intro wq hSw; (try dsimp only at hSw); go_simp; try (with_reducible rfl)
    try simp only [Act.put, List.getElem_toArray, List.getElem_cons_succ, List.getElem_cons_zero, List.setIfInBounds_toArray, List.set_cons_zero, List.set_cons_succ]
    refine wpAnyH_take (i := 6) (oi := _) (v := ?_) rfl (by kernel_rfl) (by kernel_rfl) (by kernel_rfl) (fun _ _ _ h => h) (Or.inl ⟨by rfl, ?_⟩) (by assumption) ?_
    rotate_left 1
    · intro wq hSw; (try dsimp only at hSw); go_simp; try (with_reducible rfl)
    try simp only [Act.put, List.getElem_toArray, List.getElem_cons_succ, List.getElem_cons_zero, List.setIfInBounds_toArray, List.set_cons_zero, List.set_cons_succ]
    refine wpAnyH_take (i := 7) (oi := _) (v := ?_) rfl (by kernel_rfl) (by kernel_rfl) (by kernel_rfl) (fun _ _ _ h => h) (Or.inl ⟨by rfl, ?_⟩) (by assumption) ?_
    rotate_left 1
    · intro wq hSw; (try dsimp only at hSw); go_simp; try (with_reducible rfl)
    try simp only [Act.put, List.getElem_toArray, List.getElem_cons_succ, List.getElem_cons_zero, List.setIfInBounds_toArray, List.set_cons_zero, List.set_cons_succ]
    refine wpAnyH_take (i := 9) (oi := _) (v := ?_) rfl (by kernel_rfl) (by kernel_rfl) (by kernel_rfl) (fun _ _ _ h => h) (Or.inl ⟨by rfl, ?_⟩) (by assumption) ?_
    rotate_left 1
    · intro wq hSw; (try dsimp only at hSw); go_simp; try (with_reducible rfl)
    try simp only [Act.put, List.getElem_toArray, List.getElem_cons_succ, List.getElem_cons_zero, List.setIfInBounds_toArray, List.set_cons_zero, List.set_cons_succ]
    refine wpAnyH_ready (rs := [8]) (by kernel_rfl) (by simp) ?_
    refine AllReadyH.cons (o := _) rfl (fun K hK => ?_) AllReadyH.nil
    go_simp
    refine (HCM.out _).mono ?_; rintro e y2 ⟨rfl, hb2⟩; have HB2 := hidIt (ext_trans (Below.drew (Below.refl w0.heap.size w0)) hb2); clear hb2; try dsimp only
    refine hK.out _ _ ?_ (fun hHeld => ?_)
    · exact HS.out _ HB2.out
    clear hK K
    try simp only [Act.put, List.getElem_toArray, List.getElem_cons_succ, List.getElem_cons_zero, List.setIfInBounds_toArray, List.set_cons_zero, List.set_cons_succ]
    refine wpAnyH_take (i := 10) (oi := _) (v := .bool true) rfl (by kernel_rfl) (by kernel_rfl) (by kernel_rfl) (fun _ _ _ h => h) (Or.inl ⟨by rfl, ?_⟩) (by assumption) ?_
    · intro wq hSw
      (try dsimp only at hSw)
      go_simp
      exact fun a b c d e => HEN.out ⟨a, b, c, d, e⟩
    try simp only [Act.put, List.getElem_toArray, List.getElem_cons_succ, List.getElem_cons_zero, List.setIfInBounds_toArray, List.set_cons_zero, List.set_cons_succ]
    refine wpAnyH_done (by kernel_rfl) ?_ _
    go_wp2_with fail
    go_ret
    refine ⟨_, rfl, ?_, ext_trans HB0.out HB2.out⟩
    rw [HSP.out]
    rfl
end Go.Proofs.YtfdceljdhgbkcaaGreatDoor

/- Spell: the shortest and least keys of a command. -/
namespace Go.Proofs.YtfdceljdhgbkcaaGreatDoor
open Go.RowKit
theorem OptI.ext {w w' : World} {base : Nat} {v : Value} {o : Option (List Int)} (h : OptI w base v o) (hb : Below w.heap.size w w') : OptI w' base v o := by
  cases o
  · exact h
  · exact ⟨h.1.ext hb, h.2⟩
theorem OptI.some {w : World} {base : Nat} {v : Value} {l : List Int} (h : OptI w base v (some l)) : ∃ a n c, v = .slice (some a) n c ∧ RdS w v l := by
  obtain ⟨h1, h2⟩ := h
  rcases h1.2 with ⟨_, e⟩ | ⟨g, cap, cur, rfl, _⟩
  · exact absurd (List.length_eq_zero_iff.1 e) h2
  · exact ⟨_, _, _, rfl, h1.rds⟩
theorem fold_take {c : Cm} {L : List Rw} {p : Nat} {x : Rw} (h : L[p]? = some x) : (L.take (p + 1)).foldl (bstF c) none = bstF c ((L.take p).foldl (bstF c) none) x := by
  rw [List.take_add_one, h, List.foldl_append]
  rfl
set_option maxRecDepth 100000 in
set_option maxHeartbeats 8000000 in
theorem Spell_any (mode : Int) (c : Cm) (w : World) (hT : Tb w) :
    Calls Tryz.prog 11 #[.int .i64 mode, cmV c] w fun e w' => ∃ u, e = .returned u ∧ OptI w' w.heap.size u (spell mode c) ∧ Below w.heap.size w w' := by
  obtain ⟨cr, cc, cv, cm, ca⟩ := c
  have HSE := hidIt (show spell mode ⟨cr, cc, cv, cm, ca⟩ = if cc < 0 ∨ cc > 9999 ∨ cr = 27 then none else (rwsOf (isl mode) cv).foldl (bstF ⟨cr, cc, cv, cm, ca⟩) none from rfl)
  generalize spell mode ⟨cr, cc, cv, cm, ca⟩ = RES at HSE ⊢
  have HTb := hidIt hT
  obtain ⟨w0, hw0⟩ : ∃ w0, w0 = w.alloc (.cells #[.int .i64 cr, .int .i64 cc, .int .i64 cv, .int .i64 cm, .int .i64 ca] 33) := ⟨_, rfl⟩
  have HB0 : Hid (Below w.heap.size w w0) := by unfold Hid; rw [hw0]; exact ext_alloc (Below.refl _ _) _
  have HR0 : Hid (w0.heap[w.heap.size]? = some (.cells #[.int .i64 cr, .int .i64 cc, .int .i64 cv, .int .i64 cm, .int .i64 ca] 33 (0, 0))) := by unfold Hid; rw [hw0]; exact heap_alloc_new _ _
  clear hT
  obtain ⟨_, q0, q1, q2, q3, q4, qf⟩ := cells5 HR0.out
  by_cases h1 : cc < 0
  · rw [if_pos (.inl h1)] at HSE
    go_enter Tryz.func11, Tryz.ntmps11
    go_upto_region 1 with fail
    rw [← hw0]
    clear hw0
    go_wp2_with fail
    go_ret
    refine ⟨_, rfl, ?_, HB0.out⟩
    rw [HSE.out]
    rfl
  by_cases h2 : cc > 9999
  · rw [if_pos (.inr (.inl h2))] at HSE
    go_enter Tryz.func11, Tryz.ntmps11
    go_upto_region 1 with fail
    rw [← hw0]
    clear hw0
    go_wp2_with fail
    go_ret
    refine ⟨_, rfl, ?_, HB0.out⟩
    rw [HSE.out]
    rfl
  by_cases h3 : cr = 27
  · rw [if_pos (.inr (.inr h3))] at HSE
    have h3b : (cr == 27) = true := by simpa using h3
    clear h3
    go_enter Tryz.func11, Tryz.ntmps11
    go_upto_region 1 with fail
    rw [← hw0]
    clear hw0
    go_wp2_with fail
    go_ret
    refine ⟨_, rfl, ?_, HB0.out⟩
    rw [HSE.out]
    rfl
  rw [if_neg (fun h => h.elim h1 (fun h => h.elim h2 h3))] at HSE
  have h3b : (cr == 27) = false := by simpa using h3
  have HC0 : Hid (0 ≤ cc ∧ cc ≤ 9999) := by unfold Hid; omega
  have HRO := hidIt (fun w => rowsOf_any mode cv w)
  have HKO := hidIt (rwsOf_ok (isl mode) cv)
  generalize rwsOf (isl mode) cv = TT at HSE HRO HKO
  go_enter Tryz.func11, Tryz.ntmps11
  go_upto_region 1 with fail
  rw [← hw0]
  clear hw0
  go_upto_region 5 with (go_at_call 23; refine (HRO.out _).mono ?_; rintro e y ⟨tv, ts, rfl, ho, hm, hb⟩; (try dsimp only); obtain ⟨ta, tn, tc, rfl⟩ := ho.form; have HTO := hidIt ho; have HTM := hidIt hm.out; have HBY := hidIt (ext_trans HB0.out hb); have HRY := hidIt ((hb.block _ (Array.getElem?_eq_some_iff.1 HR0.out).1).trans HR0.out); clear ho hm hb)
  clear h1 h2 h3 h3b q0 q1 q2 q3 q4 qf HRO
  obtain ⟨hnt, htc⟩ : tn = ts.length ∧ ts.length ≤ tc := by
    obtain ⟨⟨ao', cap', e, r1, _⟩, _⟩ := HTO.out.rd
    injection e with e1 e2 e3
    exact ⟨e2, by omega⟩
  subst hnt
  have HLT : Hid (tc ≤ 9223372036854775807) := by
    obtain ⟨⟨ao', cap', e, r1, r2, _⟩, _⟩ := HTO.out.rd
    injection e with e1 e2 e3
    unfold Hid
    omega
  have hwy : w.heap.size < y.heap.size := (Array.getElem?_eq_some_iff.1 HRY.out).1
  have hlt2 : ts.length ≤ 9223372036854775807 := by have := HLT.out; omega
  go_loopw [5, 27] (fun rv iv wr => ∃ (p : Nat) (ao : Option Addr) (n c : Nat) (bo : Option (List Int)), p ≤ ts.length ∧ iv = .int .i64 p ∧ rv = .slice ao n c ∧ Hid (OptI wr y.heap.size (.slice ao n c) bo) ∧ Hid (bo = (TT.take p).foldl (bstF ⟨cr, cc, cv, cm, ca⟩) none) ∧ Hid (Below y.heap.size y wr)) (fun _ iv _ => ts.length - (RowKit.intOf iv).toNat)
  case atStart => exact ⟨0, none, 0, 0, none, Nat.zero_le _, rfl, rfl, rfl, rfl, Below.refl _ _⟩
  case round =>
    obtain ⟨p, ao, n, c, bo, hp, rfl, rfl, HO, HM, HB⟩ := hrel
    by_cases hlt : p < ts.length
    · have hltI : (p : Int) < (ts.length : Int) := by omega
      obtain ⟨_, _, g, rfl, x, hx, hxk, d0, d1, d2, d3, d4⟩ := (HTO.out.ext HB.out).at hlt
      have hTp : TT[p]? = some x.1 := by rw [← HTM.out, List.getElem?_map, hx]; rfl
      have HKX := hidIt (HKO.out _ (List.mem_of_getElem? hTp))
      have HNX := hidIt (fold_take (c := ⟨cr, cc, cv, cm, ca⟩) hTp)
      rw [← HM.out] at HNX
      obtain ⟨⟨⟨tv, tm, ta, tt⟩, tks⟩, tkv⟩ := x
      dsimp only at *
      obtain ⟨xa, xc, rfl, _⟩ := hxk.1.len
      have HXK := hidIt hxk
      have lr : w.heap.size < wr.heap.size := Nat.lt_of_lt_of_le hwy HB.out.size
      obtain ⟨w5, hw5⟩ : ∃ w5, w5 = wr.alloc (.cells #[.int .i64 tv, .int .i64 tm, .int .i64 ta, .int .i64 tt, .slice xa tks.length xc] 64) := ⟨_, rfl⟩
      have hb5 : Below wr.heap.size wr w5 := by rw [hw5]; exact ext_alloc (Below.refl _ _) _
      have HC5 : Hid (w5.heap[wr.heap.size]? = some (.cells #[.int .i64 tv, .int .i64 tm, .int .i64 ta, .int .i64 tt, .slice xa tks.length xc] 64 (0, 0))) := by unfold Hid; rw [hw5]; exact heap_alloc_new _ _
      have HR5 := hidIt ((hb5.block _ lr).trans ((HB.out.block _ hwy).trans HRY.out))
      have HB5 := hidIt hb5
      clear hx hxk hTp hb5
      go_upto_region 7 with fail
      rw [← hw5]
      clear hw5 d0 d1 d2 d3 d4
      obtain ⟨_, e0, e1, e2, e3, e4, ef⟩ := cells5 HC5.out
      obtain ⟨_, r0, r1, r2, r3, r4, rf⟩ := cells5 HR5.out
      have HBW5 : Hid (Below w.heap.size w w5) := ext_trans (HBY.out.trans (HB.out.mono HBY.out.size)) HB5.out
      have HSR := hidIt (rspell_any tv tm ta tt tks (.slice xa tks.length xc) ⟨cr, cc, cv, cm, ca⟩ w5 (HXK.out.1.ext HB5.out) HKX.out.1 (by have := HKX.out.2; omega) HC0.out.1 HC0.out.2 (HTb.out.ext HBW5.out))
      have HBF : Hid (∀ b, bstF ⟨cr, cc, cv, cm, ca⟩ b ⟨⟨tv, tm, ta, tt⟩, tks⟩ = match spR ⟨cr, cc, cv, cm, ca⟩ ⟨⟨tv, tm, ta, tt⟩, tks⟩, b with | none, b => b | some k, none => some k | some k, some b => if bfr k b = true then some k else some b) := fun b => rfl
      generalize spR ⟨cr, cc, cv, cm, ca⟩ ⟨⟨tv, tm, ta, tt⟩, tks⟩ = SR at HSR HBF
      rw [HBF.out] at HNX
      clear HBF
      go_upto_region 8 with (go_at_call 24; refine HSR.out.mono ?_; rintro e y6 ⟨kv, rfl, ho6, hb6⟩; (try dsimp only); have HO6 := hidIt ho6; have HB6 := hidIt (ext_trans HB5.out hb6); clear ho6 hb6 e0 e1 e2 e3 e4 ef r0 r1 r2 r3 r4 rf)
      have HBN : Hid (Below y.heap.size y y6) := ext_trans HB.out HB6.out
      have HLW : Hid (y.heap.size ≤ w5.heap.size) := Nat.le_trans HB.out.size HB5.out.size
      cases SR with
      | none =>
        obtain rfl : kv = .slice none 0 0 := HO6.out
        go_wp2_with fail
        go_roundw
        case rel => exact ⟨p + 1, ao, n, c, bo, by omega, rfl, rfl, HO.out.ext HB6.out, HNX.out.symm, HBN.out⟩
        case measure => simp [RowKit.intOf]; omega
      | some k =>
        obtain ⟨ka, kn, kc, rfl, hkr⟩ := HO6.out.some
        have HKR := hidIt hkr
        clear hkr
        cases bo with
        | none =>
          obtain ⟨rfl, rfl, rfl⟩ : ao = none ∧ n = 0 ∧ c = 0 := by have := HO.out; injection (show Value.slice ao n c = .slice none 0 0 from this) with a b d; exact ⟨a, b, d⟩
          have he := Lib.run_eql_slice_nil (P := Tryz.prog) y6 38 3 none 0 0 0 0 Tryz.underlying38
          go_wp2_with fail
          go_roundw
          case rel => exact ⟨p + 1, some ka, kn, kc, some k, by omega, rfl, rfl, HO6.out.le HLW.out, HNX.out.symm, HBN.out⟩
          case measure => simp [RowKit.intOf]; omega
        | some b =>
          obtain ⟨ba, bn, bc, hbe, hbr⟩ := HO.out.some
          injection hbe with f1 f2 f3
          subst f1 f2 f3
          have HIB := hidIt (isBefore_any _ _ k b y6 HKR.out (hbr.ext HB6.out))
          clear hbr
          have HNY : Hid ((TT.take (p + 1)).foldl (bstF ⟨cr, cc, cv, cm, ca⟩) none = if bfr k b = true then some k else some b) := HNX.out
          clear HNX
          generalize bfr k b = bb at HIB HNY
          have he := Lib.run_eql_slice_nil (P := Tryz.prog) y6 38 3 (some ba) n c 0 0 Tryz.underlying38
          cases bb
          · rw [if_neg (by decide)] at HNY
            go_wp2_with (go_at_call 25; refine HIB.out.mono ?_; rintro e y9 ⟨rfl, rfl⟩; (try dsimp only))
            go_roundw
            case rel => exact ⟨p + 1, some ba, n, c, some b, by omega, rfl, rfl, HO.out.ext HB6.out, HNY.out.symm, HBN.out⟩
            case measure => simp [RowKit.intOf]; omega
          · rw [if_pos rfl] at HNY
            go_wp2_with (go_at_call 25; refine HIB.out.mono ?_; rintro e y9 ⟨rfl, rfl⟩; (try dsimp only))
            go_roundw
            case rel => exact ⟨p + 1, some ka, kn, kc, some k, by omega, rfl, rfl, HO6.out.le HLW.out, HNY.out.symm, HBN.out⟩
            case measure => simp [RowKit.intOf]; omega
    · have hltI : ¬ (p : Int) < (ts.length : Int) := by omega
      have HE : Hid (bo = RES) := by
        have h1 := congrArg List.length HTM.out
        rw [List.length_map] at h1
        unfold Hid
        rw [HSE.out, HM.out, List.take_of_length_le (by omega)]
      go_wp2_with fail
      go_ret
      refine ⟨_, rfl, ?_, HBY.out.trans (HB.out.mono HBY.out.size)⟩
      rw [← HE.out]
      exact HO.out.le HBY.out.size
end Go.Proofs.YtfdceljdhgbkcaaGreatDoor
