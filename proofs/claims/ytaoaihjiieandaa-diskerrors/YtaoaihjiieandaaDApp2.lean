/- What the steps do: Append's two closures. -/
import Derived.Test.YtaoaihjiieandaaDApp
namespace Go.Proofs.Ytaoaihjiieandaa
open Go.RowKit

set_option maxRecDepth 100000 in
set_option maxHeartbeats 2000000 in
theorem part_any {F : Nat → Prop} {w : World} {d : Nat} {n : Nm} {vb : Value} {b : List Int} (hn : n.length ≤ 9223372036854775807) {bd bn bb bc : Nat} (hbd : Bx F (some bc) w bd (pp d)) (hbn : Bx F (some bc) w bn (sv n)) (hbb : Bx F (some bc) w bb vb) (hbc : w.heap[bc]? = some (.cells #[.int .i64 0] 3 (0, 0))) (hFc : F bc) (hrb : RdU w vb b) (hbl : b.length ≤ 1099511627776) (h256 : ∀ x ∈ b, 0 ≤ x ∧ x < 256) (hvF : b ≠ [] → ∀ g, vb.ownBlock = some g → F g ∧ g ≠ bc) (M : Nat) (w1 : World) (D1 : Dk) (most : Int) (h : Dsk F M w1 d D1) (hM : M + 2 ≤ 1099511627776) (hk : Kd F w w1) :
    Calls Try.prog 53 #[.int .i64 most, pp bd, pp bn, pp bb, pp bc] w1 fun e w' => e = .returned (.int .i64 (opPart n b most D1).e) ∧ Dsk F (M + 2) w' d (opPart n b most D1).d ∧ Kn True F (some bc) w1 w' ∧ AppAx F bc (opPart n b most D1) w' := by
  obtain ⟨bdc, bdf, bdo⟩ := hbd.kn (hk.kn (U := True) _)
  obtain ⟨bnc, bnf, bno⟩ := hbn.kn (hk.kn (U := True) _)
  obtain ⟨bbc, bbf, bbo⟩ := hbb.kn (hk.kn (U := True) _)
  have hbc1 := (hk.same bc (Array.getElem?_eq_some_iff.1 hbc).1 (fun e => e.1 hFc)).trans hbc
  have hr1 := hrb.kn (hk.kn (U := True) (some bc)) (fun hn g hg => ⟨(hvF hn g hg).1, fun e => (hvF hn g hg).2 (by cases e; rfl)⟩)
  obtain ⟨ms, ml, mp, va, fq, fv, hx⟩ := h.open
  obtain ⟨w2, hw2, k2, hb2⟩ : ∃ w2, w2 = w1.alloc (.cells #[.int .i64 most] 3) ∧ w2.heap[w1.heap.size]? = some (.cells #[.int .i64 most] 3 (0, 0)) ∧ Below w1.heap.size w1 w2 := ⟨_, rfl, heap_alloc_new _ _, ext_alloc (Below.refl _ _) _⟩
  have x2 := hx.ext hb2
  obtain ⟨c0, c1, c2, c3, c4, c5, c6, c7, fr⟩ := dC_cells x2.1
  have hbcl := (Array.getElem?_eq_some_iff.1 hbc1).1
  have WT : Hid (Calls Try.prog 49 #[.map (some ms), sv n, .func (.func 54) #[] #[pp w1.heap.size, pp bb, pp bd, pp bc]] w2.drew fun e w' => ∃ r, e = .returned (.int .i64 r) ∧ (r = (opPart n b most D1).e ∧ Dsk F (M + 2) w' d (opPart n b most D1).d ∧ Kn True F (some bc) w2 w' ∧ AppAx F bc (opPart n b most D1) w')) := by
    refine with_ap (w := w2.drew) (x2.drew.2.1.hs) n hn (pp w1.heap.size) (pp bb) (pp bd) (pp bc) (fun r w' => r = (opPart n b most D1).e ∧ Dsk F (M + 2) w' d (opPart n b most D1).d ∧ Kn True F (some bc) w2 w' ∧ AppAx F bc (opPart n b most D1) w') (fun hbad w3 hb3 => ?_) (fun i hz hg w3 hb3 => ?_)
    · have hb := below_drew hb3
      have e : (opPart n b most D1) = .err D1 (fndE D1.se n) := opWith_bad _ hbad
      rw [e]
      exact ⟨rfl, ((x2.ext hb).dsk).monoN (by omega) hM, Kn.of hb, hFc, 0, (hb.block bc (Nat.lt_of_lt_of_le hbcl hb2.size)).trans ((hb2.block bc hbcl).trans hbc1), fun _ => rfl⟩
    · have hb := below_drew hb3
      have hbb3 := ext_trans hb2 hb
      have hi : i < D1.fi.length := (x2.2.2.1.seen.ok _ (get_mem hg)).2
      have e : (opPart n b most D1) = ⟨D1.setF i (wrF (fiAt D1.fi i) (b.take (partK D1 b most))), 0, partK D1 b most, [], (0, 0, 0)⟩ := opWith_ok _ hz hg
      rw [e]
      have hm3 : w3.cell? ⟨w1.heap.size, 0, none⟩ = some (.int .i64 most) := (hb.cell (p := ⟨w1.heap.size, 0, none⟩) (Array.getElem?_eq_some_iff.1 k2).1).trans (by simp [World.cell?, k2])
      refine (ap1_any (x2.ext hb) n hi most vb b (hr1.ext hbb3) hbl h256 hm3 ((hbb3.cell (p := ⟨bb, 0, none⟩) (cell_lt bbc)).trans bbc) ((hbb3.cell (p := ⟨bd, 0, none⟩) (cell_lt bdc)).trans bdc) 0 ((hbb3.block bc hbcl).trans hbc1) hFc bbf ⟨fun e => bbo (by rw [e]), fun e => bdo (by rw [e]), by omega⟩ hvF (by omega) (get_mem hg)).mono ?_
      rintro e w4 ⟨rfl, h4, k4, b4⟩
      exact ⟨0, rfl, rfl, h4.monoN (by omega) hM, Kn.below_trans hb k4, hFc, _, b4, fun _ => rfl⟩
  have bdc := (hb2.cell (p := ⟨bd, 0, none⟩) (cell_lt bdc)).trans bdc
  have bnc := (hb2.cell (p := ⟨bn, 0, none⟩) (cell_lt bnc)).trans bnc
  have HB := hidIt hb2
  clear h hx hk c0 c1 c3 c4 c5 c6 c7 fr x2 hb2 hr1 hbc1
  generalize (opPart n b most D1) = RS at *
  go_enter Try.func53, Try.ntmps53
  go_upto_region 1 with fail
  rw [← hw2]
  clear hw2
  refine wp_region_held_drew (S := fun w' => w'.cell? ⟨bd, 0, none⟩ = some (pp d) ∧ w'.cell? ⟨bn, 0, none⟩ = some (sv n)) (by kernel_rfl) (by first | exact ⟨bdc, bnc⟩ | (simp only [World.cell?_drew]; exact ⟨bdc, bnc⟩)) (fun hHeld => ?_)
  refine wpAnyH_take (i := 0) (oi := _) (v := ?_) rfl (by kernel_rfl) (by kernel_rfl) (by kernel_rfl) (fun _ _ _ h => h) (Or.inl ⟨by rfl, ?_⟩) (by assumption) ?_
  rotate_left 1
  · intro wq hSw; (try dsimp only at hSw); go_simp; try (with_reducible rfl)
  try simp only [Act.put, List.getElem_toArray, List.getElem_cons_zero, List.setIfInBounds_toArray, List.set_cons_zero, List.set_cons_succ]
  refine wpAnyH_take (i := 1) (oi := _) (v := ?_) rfl (by kernel_rfl) (by kernel_rfl) (by kernel_rfl) (fun _ _ _ h => h) (Or.inl ⟨by rfl, ?_⟩) (by assumption) ?_
  rotate_left 1
  · intro wq hSw; (try dsimp only at hSw); go_simp; try (with_reducible rfl)
  try simp only [Act.put, List.getElem_toArray, List.getElem_cons_succ, List.getElem_cons_zero, List.setIfInBounds_toArray, List.set_cons_zero, List.set_cons_succ]
  refine wpAnyH_take (i := 2) (oi := _) (v := ?_) rfl (by kernel_rfl) (by kernel_rfl) (by kernel_rfl) (fun _ _ _ h => h) (Or.inl ⟨by rfl, ?_⟩) (by assumption) ?_
  rotate_left 1
  · intro wq hSw; (try dsimp only at hSw); go_simp; try (with_reducible rfl)
  try simp only [Act.put, List.getElem_toArray, List.getElem_cons_succ, List.getElem_cons_zero, List.setIfInBounds_toArray, List.set_cons_zero, List.set_cons_succ]
  refine wpAnyH_take (i := 4) (oi := _) (v := ?_) rfl (by kernel_rfl) (by kernel_rfl) (by kernel_rfl) (fun _ _ _ h => h) (Or.inl ⟨by rfl, ?_⟩) (by assumption) ?_
  rotate_left 1
  · intro wq hSw; (try dsimp only at hSw); go_simp; try (with_reducible rfl)
  try simp only [Act.put, List.getElem_toArray, List.getElem_cons_succ, List.getElem_cons_zero, List.setIfInBounds_toArray, List.set_cons_zero, List.set_cons_succ]
  refine wpAnyH_take (i := 5) (oi := _) (v := ?_) rfl (by kernel_rfl) (by kernel_rfl) (by kernel_rfl) (fun _ _ _ h => h) (Or.inl ⟨by rfl, ?_⟩) (by assumption) ?_
  rotate_left 1
  · intro wq hSw; (try dsimp only at hSw); go_simp; try (with_reducible rfl)
  try simp only [Act.put, List.getElem_toArray, List.getElem_cons_succ, List.getElem_cons_zero, List.setIfInBounds_toArray, List.set_cons_zero, List.set_cons_succ]
  refine wpAnyH_ready (rs := [3]) (by kernel_rfl) (by simp) ?_
  refine AllReadyH.cons (o := _) rfl (fun K hK => ?_) AllReadyH.nil
  go_simp
  refine hK.out _ _ ?_ (fun hHeld => ?_)
  · first | exact ⟨bdc, bnc⟩ | (simp only [World.cell?_drew]; exact ⟨bdc, bnc⟩)
  clear hK K
  try simp only [Act.put, List.getElem_toArray, List.getElem_cons_succ, List.getElem_cons_zero, List.setIfInBounds_toArray, List.set_cons_zero, List.set_cons_succ]
  refine wpAnyH_ready (rs := [6]) (by kernel_rfl) (by simp) ?_
  refine AllReadyH.cons (o := _) rfl (fun K hK => ?_) AllReadyH.nil
  go_simp
  refine WT.out.mono ?_; rintro e w3 ⟨r, rfl, hr, hd, hk, ha⟩; have HR := hidIt hr; have HD := hidIt hd; have HK := hidIt hk; have HA := hidIt ha; clear hr hd hk ha; try dsimp only
  refine hK.out _ _ ?_ (fun hHeld => ?_)
  · exact ⟨HK.out.cell bdc bdf bdo, HK.out.cell bnc bnf bno⟩
  clear hK K
  try simp only [Act.put, List.getElem_toArray, List.getElem_cons_succ, List.getElem_cons_zero, List.setIfInBounds_toArray, List.set_cons_zero, List.set_cons_succ]
  refine wpAnyH_take (i := 7) (oi := _) (v := ?_) rfl (by kernel_rfl) (by kernel_rfl) (by kernel_rfl) (fun _ _ _ h => h) (Or.inl ⟨by rfl, ?_⟩) (by assumption) ?_
  rotate_left 1
  · intro wq hSw; (try dsimp only at hSw); go_simp; try (with_reducible rfl)
  try simp only [Act.put, List.getElem_toArray, List.getElem_cons_succ, List.getElem_cons_zero, List.setIfInBounds_toArray, List.set_cons_zero, List.set_cons_succ]
  refine wpAnyH_done (by kernel_rfl) ?_ _
  go_wp2_with fail
  go_ret
  exact ⟨ret_int HR.out, HD.out, Kn.below_trans HB.out HK.out, HA.out⟩

set_option maxRecDepth 100000 in
set_option maxHeartbeats 2000000 in
theorem do_app {F : Nat → Prop} {w : World} {d : Nat} {n : Nm} {vb : Value} {b : List Int} (hn : n.length ≤ 9223372036854775807) {bd bn bb bc : Nat} (hbd : Bx F (some bc) w bd (pp d)) (hbn : Bx F (some bc) w bn (sv n)) (hbb : Bx F (some bc) w bb vb) (hbc : w.heap[bc]? = some (.cells #[.int .i64 0] 3 (0, 0))) (hFc : F bc) (hrb : RdU w vb b) (hbl : b.length ≤ 1099511627776) (h256 : ∀ x ∈ b, 0 ≤ x ∧ x < 256) (hvF : b ≠ [] → ∀ g, vb.ownBlock = some g → F g ∧ g ≠ bc) {bp : Nat} (hbp : Bx F (some bc) w bp (.func (.func 53) #[] #[pp bd, pp bn, pp bb, pp bc])) : DoOk True F (some bc) w d 57 #[pp bp, pp bb, pp bc] (opApp n b) (AppAx F bc) := by
  intro M w1 D1 h hM hk
  have PA := hidIt (part_any hn hbd hbn hbb hbc hFc hrb hbl h256 hvF M w1 D1 (b.length : Int) h hM hk)
  obtain ⟨bbc, bbf, bbo⟩ := hbb.kn (hk.kn (U := True) _)
  obtain ⟨bpc, bpf, bpo⟩ := hbp.kn (hk.kn (U := True) _)
  obtain ⟨ao, vc, hv, _⟩ := hrb.take (Nat.le_refl _)
  rw [hv] at bbc
  have HO : Hid (opApp n b D1 = if (opPart n b (b.length : Int) D1).e = 0 ∧ (opPart n b (b.length : Int) D1).n < b.length then { (opPart n b (b.length : Int) D1) with e := 161 } else (opPart n b (b.length : Int) D1)) := rfl
  have HN : Hid ((opPart n b (b.length : Int) D1).n ≤ b.length) := by
    unfold Hid opPart opWith
    split
    · split
      · exact Nat.zero_le _
      · simp only; unfold clip; omega
    · exact Nat.zero_le _
  clear h
  generalize opPart n b (b.length : Int) D1 = RS at *
  generalize opApp n b D1 = RT at *
  go_enter Try.func57, Try.ntmps57
  go_upto_region 2 with (go_at_call 53; refine PA.out.mono ?_; rintro e w2 ⟨rfl, hd, hk2, hF2, k2, hb2, ha2⟩; have HD := hidIt hd; have HK := hidIt hk2; have HA := hidIt (⟨hF2, k2, hb2, ha2⟩ : AppAx F bc RS w2); have HB2 := hidIt hb2; have HA2 := hidIt ha2; clear hd hk2 hb2 ha2)
  have b2 := HK.out.cell bbc bbf bbo
  have c2 : w2.cell? ⟨bc, 0, none⟩ = some (.int .i64 k2) := by simp [World.cell?, HB2.out]
  by_cases he : RS.e = 0
  · have hk2 : k2 = (RS.n : Int) := HA2.out (by omega)
    subst hk2
    by_cases hl : RS.n < b.length
    · have E := hidIt (show RT = { RS with e := 161 } by have := HO.out; rw [if_pos ⟨he, hl⟩] at this; exact this)
      have hlI : (RS.n : Int) < (b.length : Int) := by omega
      clear HO
      go_wp2_with fail
      go_ret
      rw [E.out]
      exact ⟨rfl, HD.out, HK.out, hF2, _, HB2.out, fun _ => rfl⟩
    · have E := hidIt (show RT = RS by have := HO.out; rw [if_neg (fun e => hl e.2)] at this; exact this)
      have hlI : ¬ (RS.n : Int) < (b.length : Int) := by omega
      clear HO
      go_wp2_with fail
      go_ret
      rw [E.out]
      exact ⟨ret_int (by rw [he]), HD.out, HK.out, HA.out⟩
  · have E := hidIt (show RT = RS by have := HO.out; rw [if_neg (fun e => he e.1)] at this; exact this)
    have hb : (RS.e == 0) = false := by simpa using he
    clear HO
    go_wp2_with fail
    go_ret
    rw [E.out]
    exact ⟨rfl, HD.out, HK.out, HA.out⟩
end Go.Proofs.Ytaoaihjiieandaa
