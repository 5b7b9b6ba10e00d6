/- What the steps do: the closures of Rename and Make. -/
import Derived.Test.YtaoaihjiieandaaDDo2
import Derived.Deep.CutRange
namespace Go.Proofs.Ytaoaihjiieandaa
open Go.RowKit

theorem cell_other {w : World} {a b i j : Nat} {v : Value} (h : a ≠ b) : (w.setCell ⟨b, j, none⟩ v).cell? ⟨a, i, none⟩ = w.cell? ⟨a, i, none⟩ :=
  World.cell?_setCell_other _ _ _ _ (fun e => by simp only [Addr.mk.injEq] at e; exact h (by first | exact e.1 | exact e.1.symm))
set_option maxRecDepth 100000 in
theorem do_ren {F : Nat → Prop} {w : World} {d : Nat} {n m : Nm} (hn : n.length ≤ 9223372036854775807) (hm : m.length ≤ 9223372036854775807) {bd bn bm : Nat} (hbd : Bx F none w bd (pp d)) (hbn : Bx F none w bn (sv n)) (hbm : Bx F none w bm (sv m)) : DoOk False F none w d 77 #[pp bm, pp bd, pp bn] (opRen n m) NoAx := by
  intro M w1 D1 h hM hk
  obtain ⟨bdc, bdf, bdo⟩ := hbd.kn (hk.kn (U := False) _)
  obtain ⟨bnc, bnf, bno⟩ := hbn.kn (hk.kn (U := False) _)
  obtain ⟨bmc, bmf, bmo⟩ := hbm.kn (hk.kn (U := False) _)
  obtain ⟨ms, ml, mp, va, fq, fv, hx⟩ := h.open
  obtain ⟨c0, c1, c2, c3, c4, c5, c6, c7, fr⟩ := dC_cells hx.1
  have NM := fun w => hidIt (isName_any m hm w)
  by_cases hkm : okN m = true
  · have hop : opRen n m D1 = (opWith n (fun i D => .err (if n = m then D else D.act ⟨n, m, some i⟩) 0) D1) := by unfold opRen; rw [if_pos hkm]
    rw [hop]
    have WT : Hid (Calls Try.prog 49 #[.map (some ms), sv n, .func (.func 79) #[] #[pp bn, pp bm, pp bd]] w1.drew fun e w' => ∃ r, e = .returned (.int .i64 r) ∧ (r = (opWith n (fun i D => .err (if n = m then D else D.act ⟨n, m, some i⟩) 0) D1).e ∧ Dsk F (M + 2) w' d (opWith n (fun i D => .err (if n = m then D else D.act ⟨n, m, some i⟩) 0) D1).d ∧ Kn False F none w1 w')) := by
      refine with_rn (w := w1.drew) (hx.drew.2.1.hs) n hn (pp bn) (pp bm) (pp bd) (fun r w' => r = (opWith n (fun i D => .err (if n = m then D else D.act ⟨n, m, some i⟩) 0) D1).e ∧ Dsk F (M + 2) w' d (opWith n (fun i D => .err (if n = m then D else D.act ⟨n, m, some i⟩) 0) D1).d ∧ Kn False F none w1 w') (fun hbad w2 hb2 => ?_) (fun i hz hg w2 hb2 => ?_)
      · have hb := below_drew hb2
        rw [opWith_bad _ hbad]
        exact ⟨rfl, ((hx.ext hb).dsk).monoN (by omega) hM, Kn.of hb⟩
      · have hb := below_drew hb2
        have hki := get_of_fnd hz
        have x2 := hx.ext hb
        rw [opWith_ok _ hz hg]
        refine (ren1_any x2 n m hki.1 hkm hg bd bn bm ((hb.cell (p := ⟨bd, 0, none⟩) (cell_lt bdc)).trans bdc) ((hb.cell (p := ⟨bn, 0, none⟩) (cell_lt bnc)).trans bnc) ((hb.cell (p := ⟨bm, 0, none⟩) (cell_lt bmc)).trans bmc) (by omega)).mono ?_
        rintro e w3 ⟨rfl, h3, k3⟩
        exact ⟨0, rfl, rfl, h3.monoN (by omega) hM, Kn.below_trans hb (k3.kn none)⟩
    rw [hkm] at NM
    clear h hx hk c0 c1 c3 c4 c5 c6 c7 fr hop hkm
    generalize (opWith n (fun i D => .err (if n = m then D else D.act ⟨n, m, some i⟩) 0) D1) = RS at *
    go_enter Try.func77, Try.ntmps77
    go_upto_region 3 with (go_at_call 78; refine (NM _).out.mono ?_; rintro e w2 ⟨rfl, rfl⟩)
    refine wp_region_held_drew (S := fun w' => w'.cell? ⟨bd, 0, none⟩ = some (pp d) ∧ w'.cell? ⟨bn, 0, none⟩ = some (sv n) ∧ w'.cell? ⟨bm, 0, none⟩ = some (sv m)) (by kernel_rfl) (by first | exact ⟨bdc, bnc, bmc⟩ | (simp only [World.cell?_drew]; exact ⟨bdc, bnc, bmc⟩)) (fun hHeld => ?_)
    refine wpAnyH_take (i := 0) (oi := _) (v := ?_) rfl (by kernel_rfl) (by kernel_rfl) (by kernel_rfl) (fun _ _ _ h => h) (Or.inl ⟨by rfl, ?_⟩) (by assumption) ?_
    rotate_left 1
    · intro wq hSw; (try dsimp only at hSw); go_simp; try (with_reducible rfl)
    try simp only [Act.put, List.getElem_toArray, List.getElem_cons_zero, List.setIfInBounds_toArray, List.set_cons_zero, List.set_cons_succ]
    refine wpAnyH_take (i := 1) (oi := _) (v := ?_) rfl (by kernel_rfl) (by kernel_rfl) (by kernel_rfl) (fun _ _ _ h => h) (Or.inl ⟨by rfl, ?_⟩) (by assumption) ?_
    rotate_left 1
    · intro wq hSw; (try dsimp only at hSw); go_simp; try (with_reducible rfl)
    try simp only [Act.put, List.getElem_toArray, List.getElem_cons_succ, List.getElem_cons_zero, List.setIfInBounds_toArray, List.set_cons_zero, List.set_cons_succ]
    refine wpAnyH_take (i := 2) (oi := _) (v := ?_) rfl (by kernel_rfl) (by kernel_rfl) (by kernel_rfl) (fun _ _ _ h => h) (Or.inl ⟨by rfl, ?_⟩) (by assumption) ?_
    rotate_left 1
    · intro wq hSw; (try dsimp only at hSw); go_simp; try (with_reducible rfl)
    try simp only [Act.put, List.getElem_toArray, List.getElem_cons_succ, List.getElem_cons_zero, List.setIfInBounds_toArray, List.set_cons_zero, List.set_cons_succ]
    refine wpAnyH_take (i := 4) (oi := _) (v := ?_) rfl (by kernel_rfl) (by kernel_rfl) (by kernel_rfl) (fun _ _ _ h => h) (Or.inl ⟨by rfl, ?_⟩) (by assumption) ?_
    rotate_left 1
    · intro wq hSw; (try dsimp only at hSw); go_simp; try (with_reducible rfl)
    try simp only [Act.put, List.getElem_toArray, List.getElem_cons_succ, List.getElem_cons_zero, List.setIfInBounds_toArray, List.set_cons_zero, List.set_cons_succ]
    refine wpAnyH_take (i := 5) (oi := _) (v := ?_) rfl (by kernel_rfl) (by kernel_rfl) (by kernel_rfl) (fun _ _ _ h => h) (Or.inl ⟨by rfl, ?_⟩) (by assumption) ?_
    rotate_left 1
    · intro wq hSw; (try dsimp only at hSw); go_simp; try (with_reducible rfl)
    try simp only [Act.put, List.getElem_toArray, List.getElem_cons_succ, List.getElem_cons_zero, List.setIfInBounds_toArray, List.set_cons_zero, List.set_cons_succ]
    refine wpAnyH_ready (rs := [3]) (by kernel_rfl) (by simp) ?_
    refine AllReadyH.cons (o := _) rfl (fun K hK => ?_) AllReadyH.nil
    go_simp
    refine hK.out _ _ ?_ (fun hHeld => ?_)
    · first | exact ⟨bdc, bnc, bmc⟩ | (simp only [World.cell?_drew]; exact ⟨bdc, bnc, bmc⟩)
    clear hK K
    try simp only [Act.put, List.getElem_toArray, List.getElem_cons_succ, List.getElem_cons_zero, List.setIfInBounds_toArray, List.set_cons_zero, List.set_cons_succ]
    refine wpAnyH_ready (rs := [6]) (by kernel_rfl) (by simp) ?_
    refine AllReadyH.cons (o := _) rfl (fun K hK => ?_) AllReadyH.nil
    go_simp
    refine WT.out.mono ?_; rintro e w2 ⟨r, rfl, hr, hd, hk⟩; have HR := hidIt hr; have HD := hidIt hd; have HK := hidIt hk; clear hr hd hk; try dsimp only
    refine hK.out _ _ ?_ (fun hHeld => ?_)
    · exact ⟨HK.out.cell bdc bdf bdo, HK.out.cell bnc bnf bno, HK.out.cell bmc bmf bmo⟩
    clear hK K
    try simp only [Act.put, List.getElem_toArray, List.getElem_cons_succ, List.getElem_cons_zero, List.setIfInBounds_toArray, List.set_cons_zero, List.set_cons_succ]
    refine wpAnyH_take (i := 7) (oi := _) (v := ?_) rfl (by kernel_rfl) (by kernel_rfl) (by kernel_rfl) (fun _ _ _ h => h) (Or.inl ⟨by rfl, ?_⟩) (by assumption) ?_
    rotate_left 1
    · intro wq hSw; (try dsimp only at hSw); go_simp; try (with_reducible rfl)
    try simp only [Act.put, List.getElem_toArray, List.getElem_cons_succ, List.getElem_cons_zero, List.setIfInBounds_toArray, List.set_cons_zero, List.set_cons_succ]
    refine wpAnyH_done (by kernel_rfl) ?_ _
    go_wp2_with fail
    go_ret
    exact ⟨ret_int HR.out, HD.out, HK.out, trivial⟩

  · have hop : opRen n m D1 = .err D1 164 := by unfold opRen; rw [if_neg hkm]
    rw [hop]
    have hkf : okN m = false := by simpa using hkm
    rw [hkf] at NM
    have FIN : Hid (Dsk F (M + 2) w1 d D1) := h.monoN (by omega) hM
    clear h hx hk c0 c1 c3 c4 c5 c6 c7 fr hop hkm hkf
    go_enter Try.func77, Try.ntmps77
    go_wp2_with (go_at_call 78; refine (NM _).out.mono ?_; rintro e w2 ⟨rfl, rfl⟩)
    go_ret
    exact ⟨rfl, FIN.out, Kn.of (Below.refl _ _), trivial⟩

set_option maxRecDepth 100000 in
set_option maxHeartbeats 2000000 in
theorem do_make {F : Nat → Prop} {w : World} {d : Nat} {n : Nm} (hn : n.length ≤ 9223372036854775807) {bd bn : Nat} (hbd : Bx F none w bd (pp d)) (hbn : Bx F none w bn (sv n)) : DoOk False F none w d 76 #[pp bd, pp bn] (opMake n) NoAx := by
  intro M w1 D1 h hM hk
  obtain ⟨bdc, bdf, bdo⟩ := hbd.kn (hk.kn (U := False) _)
  obtain ⟨bnc, bnf, bno⟩ := hbn.kn (hk.kn (U := False) _)
  obtain ⟨ms, ml, mp, va, fq, fv, hx⟩ := h.open
  obtain ⟨c0, c1, c2, c3, c4, c5, c6, c7, fr⟩ := dC_cells hx.1
  obtain ⟨hv1, hv2, hV⟩ : ∃ a b, (hdV fq D1.se n = .agg #[.string a, .pointer b]) := by
    unfold hdV
    split
    · cases Dir.get n D1.se <;> exact ⟨_, _, rfl⟩
    · exact ⟨_, _, rfl⟩
  have FN : Hid (∀ w' : World, Below w1.heap.size w1 w' → Calls Try.prog 71 #[.map (some ms), sv n] w' fun e w2 => e = .returned (.tuple #[.agg #[.string hv1, .pointer hv2], .int .i64 (fndE D1.se n)]) ∧ Below w'.heap.size w' w2 ∧ w2.cell? ⟨bd, 0, none⟩ = some (pp d) ∧ w2.cell? ⟨bn, 0, none⟩ = some (sv n) ∧ w2.cell? ⟨d, 2, none⟩ = some (.map (some ms))) := fun w' e1 => by
    refine (find_any n hn w' ((hx.ext e1).2.1.hs)).mono ?_
    rintro e w2 ⟨rfl, hb⟩
    have hb' := ext_trans e1 hb
    exact ⟨by rw [hV], hb, (hb'.cell (p := ⟨bd, 0, none⟩) (cell_lt bdc)).trans bdc, (hb'.cell (p := ⟨bn, 0, none⟩) (cell_lt bnc)).trans bnc, (hb'.cell (p := ⟨d, 2, none⟩) (cell_lt c2)).trans c2⟩
  have HX := hidIt hx
  have HE : Hid (opMake n D1 = if fndE D1.se n = 0 then .err D1 163 else if fndE D1.se n ≠ 162 then .err D1 (fndE D1.se n) else if D1.full = true then .err D1 161 else .err (D1.fresh.act ⟨[], n, some D1.fi.length⟩) 0) := rfl
  generalize hz : fndE D1.se n = z at *
  generalize opMake n D1 = RS at *
  clear h hx hk c0 c1 c3 c4 c5 c6 c7 fr hV
  go_enter Try.func76, Try.ntmps76
  go_upto_region 1 with fail
  have n0 : bd ≠ w1.heap.size := by have := cell_lt bdc; omega
  have n1 : bn ≠ w1.heap.size := by have := cell_lt bnc; omega
  have n2 : d ≠ w1.heap.size := by have := cell_lt c2; omega
  have SK : Hid (∀ (y : World) (g : Nat) (u v : Value), g = w1.heap.size → (y.cell? ⟨bd, 0, none⟩ = some (pp d) ∧ y.cell? ⟨bn, 0, none⟩ = some (sv n) ∧ y.cell? ⟨d, 2, none⟩ = some (.map (some ms))) → (((y.setCell ⟨g, 0, none⟩ u).setCell ⟨g, 1, none⟩ v).cell? ⟨bd, 0, none⟩ = some (pp d) ∧ ((y.setCell ⟨g, 0, none⟩ u).setCell ⟨g, 1, none⟩ v).cell? ⟨bn, 0, none⟩ = some (sv n) ∧ ((y.setCell ⟨g, 0, none⟩ u).setCell ⟨g, 1, none⟩ v).cell? ⟨d, 2, none⟩ = some (.map (some ms)))) := by
    rintro y g u v rfl ⟨a, b, c⟩
    refine ⟨?_, ?_, ?_⟩
    · rw [cell_other n0, cell_other n0]; exact a
    · rw [cell_other n1, cell_other n1]; exact b
    · rw [cell_other n2, cell_other n2]; exact c
  go_cut [4] from 3 to 13 (fun v4 wF => v4 = .int .i64 z ∧ Hid (Below w1.heap.size w1 wF))
  case first =>
    go_region_held3 (fun w' => w'.cell? ⟨bd, 0, none⟩ = some (pp d) ∧ w'.cell? ⟨bn, 0, none⟩ = some (sv n) ∧ w'.cell? ⟨d, 2, none⟩ = some (.map (some ms))) (first | exact ⟨y0, y1, y2⟩ | exact SK.out _ _ _ _ rfl ⟨y0, y1, y2⟩ | go_keep) (
      (go_at_call 71; first
        | (refine (FN.out _ (Below.refl _ w1).drew).mono ?_; rintro e w2 ⟨rfl, hb2, y0, y1, y2⟩; have HB2 := hidIt ((Below.refl _ w1).drew.trans hb2); clear hb2)
        | (refine (FN.out _ (ext_alloc (Below.refl _ w1) _).drew).mono ?_; rintro e w2 ⟨rfl, hb2, y0, y1, y2⟩; have z0 := (hb2.cell (p := ⟨w1.heap.size, 0, none⟩) (by simp)).trans (show _ = some (Value.string ⟨#[]⟩) by simp); have z1 := (hb2.cell (p := ⟨w1.heap.size, 1, none⟩) (by simp)).trans (show _ = some (Value.pointer none) by simp); have zf0 := (hb2.frozen (p := ⟨w1.heap.size, 0, none⟩) (by simp)).trans (show _ = false by simp); have zf1 := (hb2.frozen (p := ⟨w1.heap.size, 1, none⟩) (by simp)).trans (show _ = false by simp); have HB2 := hidIt (ext_trans (ext_alloc (Below.refl _ w1) _).drew hb2); clear hb2)))
    all_goals
      go_wp2_with fail
      go_meet
      case rel => exact ⟨rfl, by first | exact Below.setCell (Below.setCell HB2.out (p := ⟨w1.heap.size, 0, none⟩) (Nat.le_refl _) _) (p := ⟨w1.heap.size, 1, none⟩) (Nat.le_refl _) _ | exact (ext_alloc HB2.out _)⟩
  obtain ⟨rfl, HBF⟩ := hcut
  clear FN
  have q0 := (HBF.out.cell (p := ⟨bd, 0, none⟩) (cell_lt bdc)).trans bdc
  have q1 := (HBF.out.cell (p := ⟨bn, 0, none⟩) (cell_lt bnc)).trans bnc
  have xF := hidIt (HX.out.ext HBF.out)
  clear bdc bnc c2 n0 n1 n2
  by_cases hz0 : z = 0
  · subst hz0
    have E := hidIt (show RS = .err D1 163 by have := HE.out; rw [if_pos rfl] at this; exact this)
    clear HE
    go_wp2_with fail
    go_ret
    rw [E.out]
    exact ⟨rfl, xF.out.dsk.monoN (by omega) hM, Kn.of HBF.out, trivial⟩
  have b0 : (z == 0) = false := by simpa using hz0
  by_cases hz2 : z = 162
  · subst hz2
    have IF := hidIt (isFull_any xF.out.dsk)
    cases hfl : D1.full with
    | true =>
      rw [hfl] at IF
      have E := hidIt (show RS = .err D1 161 by have := HE.out; rw [if_neg (by decide), if_neg (by decide), if_pos hfl] at this; exact this)
      clear HE
      go_wp2_with (go_at_call 72; refine IF.out.mono ?_; rintro e w3 ⟨rfl, rfl⟩)
      go_ret
      rw [E.out]
      exact ⟨rfl, xF.out.dsk.monoN (by omega) hM, Kn.of HBF.out, trivial⟩
    | false =>
      rw [hfl] at IF
      have E := hidIt (show RS = .err (D1.fresh.act ⟨[], n, some D1.fi.length⟩) 0 by have := HE.out; rw [if_neg (by decide), if_neg (by decide), if_neg (by rw [hfl]; decide)] at this; exact this)
      have hk : okN n = true := by
        unfold fndE at hz
        split at hz
        · assumption
        · cases hz
      have NF := hidIt (newFile_any xF.out.drew (by omega))
      have e0 : sv [] = .string ⟨#[]⟩ := rfl
      have AC : Hid (∀ w3, Dx F (M + 1) w3 d D1.fresh ms ml mp va (fun j => if j = D1.fi.length then wc.drew.heap.size else fq j) (fun j => if j = D1.fi.length then .slice none 0 0 else fv j) → Calls Try.prog 64 #[pp d, .agg #[.string ⟨#[]⟩, sv n, pp wc.heap.size]] w3 fun e w' => e = .returned (.tuple #[]) ∧ Dsk F (M + 2) w' d (D1.fresh.act ⟨[], n, some D1.fi.length⟩) ∧ Kd F w3 w') := fun w3 x3 => by
        have hl : D1.fresh.fi.length = D1.fi.length + 1 := by simp [Dk.fresh]
        have A := act_any x3 ⟨[], n, some D1.fi.length⟩ (xF.out.2.2.1.make hk hfl).seen ⟨by simp, len_of_ok hk, fun i e => by cases e; rw [hl]; exact Nat.lt_succ_self _⟩ (by omega)
        simp only [acP, if_true] at A
        rw [e0] at A
        refine A.mono ?_
        rintro e w4 ⟨rfl, ⟨va4, x4⟩, k4⟩
        exact ⟨rfl, x4.dsk, k4⟩
      clear HE hz0 hz
      go_upto_region 8 with (go_at_call 72; refine IF.out.mono ?_; rintro e w3 ⟨rfl, rfl⟩)
      go_region_held3 (fun w' => w'.cell? ⟨bd, 0, none⟩ = some (pp d) ∧ w'.cell? ⟨bn, 0, none⟩ = some (sv n)) (first | exact ⟨((HK4.out.trans HK5.out).kn (U := False) none).cell q0 bdf bdo, ((HK4.out.trans HK5.out).kn (U := False) none).cell q1 bnf bno⟩ | exact ⟨(HK4.out.kn (U := False) none).cell q0 bdf bdo, (HK4.out.kn (U := False) none).cell q1 bnf bno⟩ | go_keep) (first
        | (go_at_call 36; refine NF.out.mono ?_; rintro e w4 ⟨rfl, hx4, hk4⟩; have HX4 := hidIt hx4; have HK4 := hidIt ((Kd.of (Below.refl _ wc).drew).trans hk4); clear hx4 hk4)
        | (go_at_call 64; refine (AC.out _ HX4.out).mono ?_; rintro e w5 ⟨rfl, hx5, hk5⟩; have HX5 := hidIt hx5; have HK5 := hidIt hk5; clear hx5 hk5))
      all_goals
        go_wp2_with fail
        go_ret
        rw [E.out]
        exact ⟨rfl, HX5.out, Kn.below_trans HBF.out ((HK4.out.trans HK5.out).kn _), trivial⟩
  · have b2 : (z == 162) = false := by simpa using hz2
    have E := hidIt (show RS = .err D1 z by have := HE.out; rw [if_neg hz0, if_pos hz2] at this; exact this)
    clear HE
    go_wp2_with fail
    go_ret
    rw [E.out]
    exact ⟨rfl, xF.out.dsk.monoN (by omega) hM, Kn.of HBF.out, trivial⟩
end Go.Proofs.Ytaoaihjiieandaa
