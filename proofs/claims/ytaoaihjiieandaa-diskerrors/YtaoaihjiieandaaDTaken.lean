/- A shot is taken. -/
import Derived.Test.YtaoaihjiieandaaDTk
namespace Go.Proofs.Ytaoaihjiieandaa
open Go.RowKit

/-- append(nil, l...), of strings. -/
theorem wp_append_strs {W : World} {op : Oper} {a : Act} {K : Act → World → Prop} {Q : Exit → Act → World → Prop} (s x : Operand) (ho : op.op = .call { callee := .builtin .append, args := #[s, x], argTypes := #[40, 40] }) (hs : a.eval s = .slice none 0 0) (u : Value) (hx : a.eval x = u) (l : List Nm) {base : Nat} (hu : OwnS W base u l) (hl : l.length ≤ 1000)
    (h : ∀ v' w', OwnS w' W.heap.size v' l → Below W.heap.size W w' → K (a.put op.dst v') w') : op.wp Try.prog a W K Q := by
  obtain ⟨i0, hi, hz0, hz1, hz2⟩ := info_parts info_str
  have hnil : W.ownsRow W.heap.size 9 1 (.slice none 0 0) 0 [] := ⟨rfl, .inl ⟨rfl, rfl⟩⟩
  rcases hu.2 with ⟨hv, h0⟩ | ⟨g, cap, cur, hv, _, hc, h1, h2, h3, h4⟩
  · have hl0 : l = [] := List.length_eq_zero_iff.1 h0
    subst hl0
    subst hv
    have hrun := run_append_owned_none (P := Try.prog) (w := W) W.heap.size 40 op.type 9 i0 1 Try.underlying40 hi (.slice none 0 0) 0 [] hnil
    unfold Oper.wp execOp
    simp only [ho, resolve, invoke, builtin, Sem.run_bind, Sem.run_pure, Result.andThen_ok, List.map_toArray, List.map_cons, List.map_nil, hs, hx, hrun]
    exact h _ W ⟨rfl, .inl ⟨rfl, rfl⟩⟩ (Below.refl _ _)
  · subst hv
    obtain ⟨v', w', hr, o2, g2, _⟩ := run_append_own (P := Try.prog) W W.heap.size 40 op.type 9 i0 (.string ⟨#[]⟩) 1 16 Try.underlying40 hi hz0 hz1 hz2 rfl (by decide) (.slice none 0 0) 0 [] hnil ⟨g, 0, none⟩ l.length cap (l.map sv) (by simp) (fun j u hj => by
      simp only [Nat.mul_one] at h4
      rw [← h4, List.getElem?_take] at hj
      split at hj
      · rw [Addr.add_lit, Nat.zero_add]
        simpa [World.cell?, hc] using hj
      · cases hj) (by intro u hu; obtain ⟨n, _, rfl⟩ := List.mem_map.1 hu; rfl) (by unfold maxLen; omega) (by omega) (Nat.le_refl _)
    unfold Oper.wp execOp
    simp only [ho, resolve, invoke, builtin, Sem.run_bind, Sem.run_pure, Result.andThen_ok, List.map_toArray, List.map_cons, List.map_nil, hs, hx, hr]
    refine h v' w' (by unfold OwnS; simpa using o2) ⟨g2.os, g2.tape, g2.output, g2.size, fun k hk => g2.block k hk (by simp [Value.ownBlock])⟩
set_option maxRecDepth 100000 in
set_option maxHeartbeats 4000000 in
theorem taken_any (CR : CrashOk) {F : Nat → Prop} {M : Nat} {w : World} {d : Nat} {D : Dk} (h : Dsk F M w d D) (hM : M + 200 ≤ 1099511627776) (hdn : D.dn = false) (hpl : ∀ k, D.pl k = none) :
    Calls Try.prog 22 #[pp d] w fun e w' => ∃ vn vd vs D', e = .returned (.tuple #[.agg #[vn, vd, vs], .bool true]) ∧ Shot w' vn vd vs D ∧ Still D D' ∧ Dsk F (M + 200) w' d D' ∧ Kd F w w' := by
  obtain ⟨w1, hw1, k0, k1, hb1⟩ : ∃ w1, w1 = (w.alloc (.cells #[.slice none 0 0, .slice none 0 0, .slice none 0 0] 51)).alloc (.cells #[.slice none 0 0, .slice none 0 0, .slice none 0 0] 51) ∧ w1.heap[w.heap.size]? = some (.cells #[.slice none 0 0, .slice none 0 0, .slice none 0 0] 51 (0, 0)) ∧ w1.heap[w.heap.size + 1]? = some (.cells #[.slice none 0 0, .slice none 0 0, .slice none 0 0] 51 (0, 0)) ∧ Below w.heap.size w w1 :=
    ⟨_, rfl, (heap_alloc_old _ _ (by simp)).trans (heap_alloc_new _ _), by have := heap_alloc_new (w.alloc (.cells #[.slice none 0 0, .slice none 0 0, .slice none 0 0] 51)) (.cells #[.slice none 0 0, .slice none 0 0, .slice none 0 0] 51); simpa using this, ext_alloc (ext_alloc (Below.refl _ _) _) _⟩
  obtain ⟨z0, z1, z2, zf⟩ := cells3 k1
  have x1 := h.pen hb1
  have hfew := h.wf.seen.few
  have NM : Hid (∀ w', Below w1.heap.size w1 w' → Calls Try.prog 18 #[pp d] w' fun e w'' => ∃ v, e = .returned v ∧ OwnS w'' w'.heap.size v (D.se.map (·.1)) ∧ Below w'.heap.size w' w'') := fun w' hb => Names_any (x1.ext hb) hdn
  have X1 := hidIt x1
  have HB1 := hidIt hb1
  have K0 := hidIt k0
  have K1 := hidIt k1
  clear h x1 hb1 k0 k1
  obtain ⟨is0, his, hs0, hs1, hs2⟩ := info_parts info_str
  obtain ⟨it0, hit, ht0, ht1, ht2⟩ := info_parts info_stamp
  go_enter Try.func22, Try.ntmps22
  go_upto_region 2 with fail
  rw [← hw1]
  clear hw1
  have b0 := (cells3 K0.out).1
  have PH : Hid (∀ v5 w4 w5, Below w1.heap.size w1 w4 → Below w4.heap.size w4 w5 → OwnS w5 w4.heap.size v5 (D.se.map (·.1)) → (w5.heap[w.heap.size + 1]? = some (.cells #[.slice none 0 0, .slice none 0 0, .slice none 0 0] 51 (0, 0)) ∧ w5.cell? ⟨w.heap.size, 0, none⟩ = some (.slice none 0 0) ∧ ((w5.setCell ⟨w.heap.size + 1, 0, none⟩ v5).heap[w.heap.size + 1]? = some (.cells #[v5, .slice none 0 0, .slice none 0 0] 51 (0, 0)) ∧ (w5.setCell ⟨w.heap.size + 1, 0, none⟩ v5).heap[w.heap.size]? = some (.cells #[.slice none 0 0, .slice none 0 0, .slice none 0 0] 51 (0, 0)) ∧ OwnS (w5.setCell ⟨w.heap.size + 1, 0, none⟩ v5) 0 v5 (D.se.map (·.1)) ∧ Dsk (Fx F w w1) M (w5.setCell ⟨w.heap.size + 1, 0, none⟩ v5) d D ∧ Below w.heap.size w (w5.setCell ⟨w.heap.size + 1, 0, none⟩ v5)))) := by
    intro v5 w4 w5 hb4 hb5 ho5
    have hb15 := ext_trans hb4 hb5
    have k5 := (hb15.block _ (Array.getElem?_eq_some_iff.1 K1.out).1).trans K1.out
    have k50 := (hb15.block _ (Array.getElem?_eq_some_iff.1 K0.out).1).trans K0.out
    obtain ⟨s6, g6⟩ := set1 k5 0 v5
    have hx := (X1.out.ext hb15)
    have hbw := ext_trans HB1.out hb15
    have hdl := X1.out.lt
    refine ⟨k5, (cells3 k50).1, by rw [s6]; rfl, (g6.block _ (Array.getElem?_eq_some_iff.1 k50).1 (by simp)).trans k50, own_same (own_zero ho5) (fun g hg => ?_), ?_, hbw.grown g6 hbw.size (fun k e => by cases e; omega)⟩
    · obtain ⟨cur, hc⟩ := own_lt (own_zero ho5) hg
      exact g6.block g (Array.getElem?_eq_some_iff.1 hc).1 (by simpa using ne_obj hc k5 (by simp))
    · exact hx.kps (Kps.grown (o := fun k => k = w.heap.size + 1) g6 (fun k e _ => by cases e; rfl)) (fun k _ e => by rw [e]; exact .inr ⟨by omega, (Array.getElem?_eq_some_iff.1 K1.out).1⟩)
  go_cut [] from 10 to 15 (fun wF => Hid (∃ xa xn xc, (wF.heap[w.heap.size + 1]? = some (.cells #[.slice xa xn xc, .slice none 0 0, .slice none 0 0] 51 (0, 0)) ∧ wF.heap[w.heap.size]? = some (.cells #[.slice none 0 0, .slice none 0 0, .slice none 0 0] 51 (0, 0)) ∧ OwnS wF 0 (.slice xa xn xc) (D.se.map (·.1)) ∧ Dsk (Fx F w w1) M wF d D ∧ Below w.heap.size w wF)))
  case first =>
    refine wp_region_held_drew (S := fun w' => w'.cell? ⟨w.heap.size, 0, none⟩ = some (.slice none 0 0)) (by kernel_rfl) (by first | exact b0 | (simp only [World.cell?_drew]; exact b0)) (fun hHeld => ?_)
    refine wpAnyH_take (i := 0) (oi := _) (v := ?_) rfl (by kernel_rfl) (by kernel_rfl) (by kernel_rfl) (fun _ _ _ h => h) (Or.inl ⟨by rfl, ?_⟩) (by assumption) ?_
    rotate_left 1
    · intro wq hSw; (try dsimp only at hSw); go_simp; try (with_reducible rfl)
    try simp only [Act.put, List.getElem_toArray, List.getElem_cons_zero, List.setIfInBounds_toArray, List.set_cons_zero, List.set_cons_succ]
    refine wpAnyH_take (i := 2) (oi := _) (v := ?_) rfl (by kernel_rfl) (by kernel_rfl) (by kernel_rfl) (fun _ _ _ h => h) (Or.inl ⟨by rfl, ?_⟩) (by assumption) ?_
    rotate_left 1
    · intro wq hSw; (try dsimp only at hSw); go_simp; try (with_reducible rfl)
    try simp only [Act.put, List.getElem_toArray, List.getElem_cons_succ, List.getElem_cons_zero, List.setIfInBounds_toArray, List.set_cons_zero, List.set_cons_succ]
    refine wpAnyH_ready (rs := [1, 3]) (by kernel_rfl) (by simp) ?_
    refine (AllReadyH.cons (o := _) rfl (fun K hK => ?_) (AllReadyH.cons (o := _) rfl (fun K hK => ?_) AllReadyH.nil))
    · skip
      go_simp
      refine hK.out _ _ ?_ (fun hHeld => ?_)
      · first | exact b0 | (simp only [World.cell?_drew]; exact b0)
      clear hK K
      try simp only [Act.put, List.getElem_toArray, List.getElem_cons_succ, List.getElem_cons_zero, List.setIfInBounds_toArray, List.set_cons_zero, List.set_cons_succ]
      refine wpAnyH_ready (rs := [3]) (by kernel_rfl) (by simp) ?_
      refine AllReadyH.cons (o := _) rfl (fun K hK => ?_) AllReadyH.nil
      go_simp
      refine (NM.out _ (Below.refl _ w1).drew).mono ?_; rintro e w4 ⟨v4, rfl, ho4, hb4⟩; obtain ⟨xa4, xn4, xc4, rfl⟩ := form_own ho4; have b4 := ((below_drew hb4).cell (p := ⟨w.heap.size, 0, none⟩) (cell_lt b0)).trans b0; have z4 := ((below_drew hb4).cell (p := ⟨w.heap.size + 1, 0, none⟩) (cell_lt z0)).trans z0; have HO4 := hidIt ho4; have HB4 := hidIt (below_drew hb4); clear ho4 hb4; try dsimp only
      refine hK.out _ _ ?_ (fun hHeld => ?_)
      · exact b4
      clear hK K
      try simp only [Act.put, List.getElem_toArray, List.getElem_cons_succ, List.getElem_cons_zero, List.setIfInBounds_toArray, List.set_cons_zero, List.set_cons_succ]
      refine wpAnyH_ready (rs := [4]) (by kernel_rfl) (by simp) ?_
      refine AllReadyH.cons (o := _) rfl (fun K hK => ?_) AllReadyH.nil
      rw [if_pos (by rfl)]
      refine wp_append_strs _ _ (by rfl) (by rfl) _ (by rfl) _ HO4.out (by simp; omega) ?_; intro v5 w5 ho5 hb5; obtain ⟨xa5, xn5, xc5, rfl⟩ := form_own ho5; obtain ⟨k5, b5, FI5⟩ := PH.out _ _ _ HB4.out hb5 ho5; obtain ⟨y0, _, _, yf⟩ := cells3 k5; have yf0 := yf 0; have F5 := hidIt FI5; clear FI5 ho5 hb5 yf
      refine hK.out _ _ ?_ (fun hHeld => ?_)
      · exact b5
      clear hK K
      try simp only [Act.put, List.getElem_toArray, List.getElem_cons_succ, List.getElem_cons_zero, List.setIfInBounds_toArray, List.set_cons_zero, List.set_cons_succ]
      refine wpAnyH_take (i := 5) (oi := _) (v := ?_) rfl (by kernel_rfl) (by kernel_rfl) (by kernel_rfl) (fun _ _ _ h => h) (Or.inl ⟨by rfl, ?_⟩) (by assumption) ?_
      rotate_left 1
      · intro wq hSw; (try dsimp only at hSw); go_simp; try (with_reducible rfl)
      try simp only [Act.put, List.getElem_toArray, List.getElem_cons_succ, List.getElem_cons_zero, List.setIfInBounds_toArray, List.set_cons_zero, List.set_cons_succ]
      refine wpAnyH_ready (rs := [6]) (by kernel_rfl) (by simp) ?_
      refine AllReadyH.cons (o := _) rfl (fun K hK => ?_) AllReadyH.nil
      go_simp
      refine hK.out _ _ ?_ (fun hHeld => ?_)
      · rw [cell_other (by omega)]; exact b5
      clear hK K
      try simp only [Act.put, List.getElem_toArray, List.getElem_cons_succ, List.getElem_cons_zero, List.setIfInBounds_toArray, List.set_cons_zero, List.set_cons_succ]
      refine wpAnyH_done (by kernel_rfl) ?_ _
      go_wp2_with fail
      go_meet
      case rel => exact ⟨_, _, _, F5.out⟩
    · skip
      go_simp
      refine (NM.out _ (Below.refl _ w1).drew).mono ?_; rintro e w4 ⟨v4, rfl, ho4, hb4⟩; obtain ⟨xa4, xn4, xc4, rfl⟩ := form_own ho4; have b4 := ((below_drew hb4).cell (p := ⟨w.heap.size, 0, none⟩) (cell_lt b0)).trans b0; have z4 := ((below_drew hb4).cell (p := ⟨w.heap.size + 1, 0, none⟩) (cell_lt z0)).trans z0; have HO4 := hidIt ho4; have HB4 := hidIt (below_drew hb4); clear ho4 hb4; try dsimp only
      refine hK.out _ _ ?_ (fun hHeld => ?_)
      · exact b4
      clear hK K
      try simp only [Act.put, List.getElem_toArray, List.getElem_cons_succ, List.getElem_cons_zero, List.setIfInBounds_toArray, List.set_cons_zero, List.set_cons_succ]
      refine wpAnyH_ready (rs := [1]) (by kernel_rfl) (by simp) ?_
      refine AllReadyH.cons (o := _) rfl (fun K hK => ?_) AllReadyH.nil
      go_simp
      refine hK.out _ _ ?_ (fun hHeld => ?_)
      · exact b4
      clear hK K
      try simp only [Act.put, List.getElem_toArray, List.getElem_cons_succ, List.getElem_cons_zero, List.setIfInBounds_toArray, List.set_cons_zero, List.set_cons_succ]
      refine wpAnyH_ready (rs := [4]) (by kernel_rfl) (by simp) ?_
      refine AllReadyH.cons (o := _) rfl (fun K hK => ?_) AllReadyH.nil
      rw [if_pos (by rfl)]
      refine wp_append_strs _ _ (by rfl) (by rfl) _ (by rfl) _ HO4.out (by simp; omega) ?_; intro v5 w5 ho5 hb5; obtain ⟨xa5, xn5, xc5, rfl⟩ := form_own ho5; obtain ⟨k5, b5, FI5⟩ := PH.out _ _ _ HB4.out hb5 ho5; obtain ⟨y0, _, _, yf⟩ := cells3 k5; have yf0 := yf 0; have F5 := hidIt FI5; clear FI5 ho5 hb5 yf
      refine hK.out _ _ ?_ (fun hHeld => ?_)
      · exact b5
      clear hK K
      try simp only [Act.put, List.getElem_toArray, List.getElem_cons_succ, List.getElem_cons_zero, List.setIfInBounds_toArray, List.set_cons_zero, List.set_cons_succ]
      refine wpAnyH_take (i := 5) (oi := _) (v := ?_) rfl (by kernel_rfl) (by kernel_rfl) (by kernel_rfl) (fun _ _ _ h => h) (Or.inl ⟨by rfl, ?_⟩) (by assumption) ?_
      rotate_left 1
      · intro wq hSw; (try dsimp only at hSw); go_simp; try (with_reducible rfl)
      try simp only [Act.put, List.getElem_toArray, List.getElem_cons_succ, List.getElem_cons_zero, List.setIfInBounds_toArray, List.set_cons_zero, List.set_cons_succ]
      refine wpAnyH_ready (rs := [6]) (by kernel_rfl) (by simp) ?_
      refine AllReadyH.cons (o := _) rfl (fun K hK => ?_) AllReadyH.nil
      go_simp
      refine hK.out _ _ ?_ (fun hHeld => ?_)
      · rw [cell_other (by omega)]; exact b5
      clear hK K
      try simp only [Act.put, List.getElem_toArray, List.getElem_cons_succ, List.getElem_cons_zero, List.setIfInBounds_toArray, List.set_cons_zero, List.set_cons_succ]
      refine wpAnyH_done (by kernel_rfl) ?_ _
      go_wp2_with fail
      go_meet
      case rel => exact ⟨_, _, _, F5.out⟩

  obtain ⟨xa, xn, xc, c1, c0, hon, hds, hbw⟩ := hcut.out
  have hxn : xn = D.se.length := by
    rcases hon.2 with ⟨hv, h0⟩ | ⟨_, _, _, hv, _⟩
    · cases hv; simpa using h0.symm
    · cases hv; simp
  subst hxn
  have hon : wc.ownsRow 0 9 1 (.slice xa D.se.length xc) D.se.length (D.se.map (fun p => sv p.1)) := by
    have e : (D.se.map (·.1)).map sv = D.se.map (fun p => sv p.1) := by rw [List.map_map]; rfl
    unfold OwnS at hon
    rw [e] at hon
    simpa using hon
  have HNL := hidIt (fun g (hg : (Value.slice xa D.se.length xc).ownBlock = some g) => (World.ownsRow.lt hon g hg).2)
  have hok := hidIt X1.out.wf.seen
  have ST0 : Hid (Still D D) := ⟨rfl, rfl, rfl, rfl, rfl, hdn, hpl⟩
  have HC1 := hidIt c1
  have HC0 := hidIt c0
  have HON := hidIt hon
  have HDS := hidIt hds
  have HBW := hidIt hbw
  have HBB : Hid (w.heap.size + 2 ≤ wc.heap.size) := by have := (Array.getElem?_eq_some_iff.1 c1).1; unfold Hid; omega
  have FXW : Hid (∀ k, w.heap.size ≤ k → k < w.heap.size + 2 → Fx F w w1 k) := fun k h1 h2 => .inr ⟨h1, by have := (Array.getElem?_eq_some_iff.1 K1.out).1; omega⟩
  clear hcut c1 c0 hon hds hbw z0 z1 z2 zf b0 PH NM
  go_wp2_with fail
  have HCZ : Hid (w.heap.size ≤ wc.heap.size) := by have := HBB.out; unfold Hid; omega
  have hfew' := hok.out.few
  go_loopw [5] (fun i wr => ∃ j : Nat, j ≤ D.se.length ∧ i = .int .i64 j ∧ Hid (∃ G Dj vd vs, Tk F G (M + 6 * j) w d Dj wc.heap.size wr (.slice xa D.se.length xc) vd vs D.se.length j j (D.se.map (fun p => sv p.1)) ((D.se.take j).map (dat D)) ((D.se.take j).flatMap (stm D)) ∧ Still D Dj)) (fun i _ => D.se.length - (RowKit.intOf i).toNat)
  case atStart => exact ⟨0, Nat.zero_le _, rfl, Fx F w w1, D, _, _, ⟨HC1.out, HC0.out, HON.out, HNL.out, ⟨rfl, .inl ⟨rfl, rfl⟩⟩, ⟨rfl, .inl ⟨rfl, rfl⟩⟩, (fun g hg => by cases hg), (fun g hg => by cases hg), FXW.out _ (by omega) (by omega), FXW.out _ (by omega) (by omega), fun q hq => .inl hq, HDS.out, Kd.of HBW.out, Nat.le_refl _, HCZ.out⟩, ST0.out⟩
  case round =>
    obtain ⟨j, hj, rfl, HX⟩ := hrel
    obtain ⟨G, Dj, vd, vs, T0, hst⟩ := HX.out
    obtain ⟨da, dn, dc, rfl⟩ := form_own T0.od
    obtain ⟨sa, sn, sc, rfl⟩ := form_own T0.os
    obtain ⟨y0, y1, y2, yf⟩ := cells3 T0.e1
    have T := hidIt T0
    have ST := hidIt hst
    clear HX HC1 HC0 HON HNL HDS HBW FXW ST0 X1 HB1 K0 K1
    by_cases hlt : j < D.se.length
    · have hlt' : (j : Int) < (D.se.length : Int) := by omega
      obtain ⟨p, hp⟩ : ∃ p, D.se[j]? = some p := ⟨D.se[j], by simp [hlt]⟩
      obtain ⟨g, hg3, HCL⟩ : ∃ g, xa = some ⟨g, 0, none⟩ ∧ Hid (∀ w' : World, w'.ownsRow 0 9 1 (.slice xa D.se.length xc) D.se.length (D.se.map (fun p => sv p.1)) → w'.cell? ⟨g, j, none⟩ = some (sv p.1)) := by
        rcases T0.on.2 with ⟨_, h0⟩ | ⟨g, cap, cur, hv, _, hc, h1, h2, h3, h4⟩
        · omega
        · cases hv
          refine ⟨g, rfl, fun w' hw' => ?_⟩
          rcases hw'.2 with ⟨_, h0⟩ | ⟨g, cap, cur, hv, _, hc, h1, h2, h3, h4⟩
          · omega
          · cases hv
            simp only [Nat.mul_one] at h4
            have e : (cur.toList.take D.se.length)[j]? = some (sv p.1) := by rw [h4, List.getElem?_map, hp]; rfl
            rw [List.getElem?_take, if_pos hlt] at e
            simpa [World.cell?, hc] using e
      subst hg3
      have hcell := HCL.out _ T0.on
      have RD := hidIt (calm_read CR T0.dk (by omega) hst hok.out hp)
      have HP := hidIt hp
      clear T0 hst hp yf
      go_upto_region 7 with (go_at_call 17; refine RD.out.mono ?_; rintro e w4 ⟨u, rfl, hu, hd4, hk4⟩; have HU := hidIt hu; have HD4 := hidIt hd4; have HK4 := hidIt hk4; clear hu hd4 hk4)
      have T4 := hidIt (T.out.call HK4.out HD4.out)
      obtain ⟨ua, un, uc, rfl⟩ := form_own HU.out
      have hun : un = (fiAt D.fi p.2).bs.length := by
        have := HU.out
        rcases this.2 with ⟨hv, h0⟩ | ⟨_, _, _, hv, _⟩
        · cases hv; exact h0.symm
        · cases hv; rfl
      subst hun
      have hcell4 := HCL.out _ T4.out.on
      obtain ⟨u0, u1, u2, uf⟩ := cells3 T4.out.e1
      have SD := hidIt (calm_stamp CR T4.out.dk (by omega) ST.out.tick hok.out HP.out)
      clear y0 y1 y2 hcell uf RD
      go_upto_region 8 with (go_at_call 52; refine SD.out.mono ?_; rintro e w5 ⟨rfl, hd5, hk5⟩; have HD5 := hidIt hd5; have HK5 := hidIt hk5; clear hd5 hk5)
      generalize hbs : (fiAt D.fi p.2).bs = bs at *
      obtain ⟨w6, hw6, k6, hb6⟩ : ∃ w6, w6 = w5.alloc (.cells #[.int .i64 ((p.2 : Int) + 1), .int .i64 (bs.length : Int), .int .i64 ((fiAt D.fi p.2).ct : Int)] 55) ∧ w6.heap[w5.heap.size]? = some (.cells #[.int .i64 ((p.2 : Int) + 1), .int .i64 (bs.length : Int), .int .i64 ((fiAt D.fi p.2).ct : Int)] 55 (0, 0)) ∧ Below w5.heap.size w5 w6 := ⟨_, rfl, heap_alloc_new _ _, ext_alloc (Below.refl _ _) _⟩
      rw [← hw6]
      have T6 := hidIt ((T4.out.call HK5.out HD5.out).ext hb6)
      have hu6 : OwnU w6 0 (.slice ua bs.length uc) bs := own_ext (own_same HU.out (fun g hg => by obtain ⟨cur, hc⟩ := own_lt HU.out hg; exact HK5.out.keep hc (by decide))) hb6
      have hcv := conv_Rd (Rd.of_own hu6)
      obtain ⟨a0, a1, a2, af⟩ := cells3 k6
      obtain ⟨y0, y1, y2, yf⟩ := cells3 T6.out.e1
      have hp2 : ¬ ((p.2 : Int) + 1 < 1) := by omega
      have K6 := hidIt k6
      have E1 : Hid ((D.se.take (j + 1)).map (dat D) = (D.se.take j).map (dat D) ++ [.string (strOfNums bs)]) := by
        unfold Hid
        rw [List.take_add_one, HP.out, List.map_append, ← hbs]
        rfl
      have E2 : Hid ((D.se.take (j + 1)).flatMap (stm D) = (D.se.take j).flatMap (stm D) ++ [.int .i64 ((p.2 : Int) + 1), .int .i64 (bs.length : Int), .int .i64 ((fiAt D.fi p.2).ct : Int)]) := by
        unfold Hid
        rw [List.take_add_one, HP.out, ← hbs]
        simp [stm, List.flatMap_append]
      have T7 : Hid _ := hidIt (T6.out.ext (ext_alloc (Below.refl _ _) (.cells #[.string (strOfNums bs)] 9)))
      have ST2 := hidIt ST.out.tick.tick
      generalize hct : ((fiAt D.fi p.2).ct : Int) = ct at *
      generalize strOfNums bs = sb at *
      clear hw6 hb6 hu6 k6 af yf u0 u1 u2 hcell4 HU HK4 HK5 HD4 HD5 T T4 SD hbs hct ST HCL HP
      generalize w5.heap.size = z5 at *
      go_upto_region 10 with fail
      go_upto_region 11 with (first
        | (at_builtin; refine wpList_append_blk _ rfl _ _ 40 rfl wc.heap.size 9 is0 (.string ⟨#[]⟩) 1 16 Try.underlying40 his hs0 hs1 hs2 rfl (by decide) _ _ _ rfl T7.out.od ⟨w6.heap.size, 0, none⟩ 1 1 [.string sb] rfl rfl (cell1_new _ _ _) (by intro u hu; simp only [List.mem_cons, List.not_mem_nil, or_false] at hu; rw [hu]; rfl) (by unfold maxLen; omega) (by omega) T7.out.sz (by first | exact Nat.one_pos | exact fun _ => Nat.one_pos) ?_; intro v8 w8 ho8 hg8 hv8; obtain ⟨xa8, xn8, xc8, rfl⟩ := form_own ho8; obtain ⟨f1, fk, G8, T8⟩ := T7.out.pushD ho8 hg8 hv8; obtain ⟨_, b1, _, bf⟩ := cells3 f1; have bf1 := bf 1; have HT8 := hidIt T8; have HFK := hidIt fk; clear f1 fk T8 ho8 hg8 hv8 bf))
      have k7 : (w6.alloc (.cells #[.string sb] 9)).heap[z5]? = some (.cells #[.int .i64 ((p.2 : Int) + 1), .int .i64 (bs.length : Int), .int .i64 ct] 55 (0, 0)) := (heap_alloc_old _ _ (Array.getElem?_eq_some_iff.1 K6.out).1).trans K6.out
      have k9 := (HFK.out _ _ k7).trans k7
      clear b1 bf1 a0 a1 a2 y0 y1 y2 hcv T6 T7 HFK k7 K6
      generalize w8.setCell ⟨w.heap.size + 1, 1, none⟩ (.slice xa8 xn8 xc8) = w9 at *
      obtain ⟨y0, y1, y2, yf⟩ := cells3 HT8.out.e1
      obtain ⟨a0, a1, a2, af⟩ := cells3 k9
      have T10 := hidIt (HT8.out.ext (ext_alloc (Below.refl _ _) (.cells #[.int .i64 ((p.2 : Int) + 1), .int .i64 (bs.length : Int), .int .i64 ct] 55)))
      clear k9 af yf HT8
      go_wp2_with (first
        | (at_builtin; refine wpList_append_blk _ rfl _ _ 49 rfl wc.heap.size 55 it0 (.agg #[.int .i64 0, .int .i64 0, .int .i64 0]) 3 24 Try.underlying49 hit ht0 ht1 ht2 rfl (by decide) _ _ _ rfl T10.out.os ⟨w9.heap.size, 0, none⟩ 1 1 [.int .i64 ((p.2 : Int) + 1), .int .i64 (bs.length : Int), .int .i64 ct] rfl rfl (cell3_new _ _ _ _ _) (by intro u hu; simp only [List.mem_cons, List.not_mem_nil, or_false] at hu; rcases hu with rfl | rfl | rfl <;> rfl) (by unfold maxLen; omega) (by omega) T10.out.sz (by first | exact Nat.one_pos | exact fun _ => Nat.one_pos) ?_; intro vb wb hob hgb hvb; obtain ⟨xab, xnb, xcb, rfl⟩ := form_own hob; obtain ⟨f1, GB, TB⟩ := T10.out.pushS hob hgb hvb; obtain ⟨_, _, b2, bf⟩ := cells3 f1; have bf2 := bf 2; have HTB := hidIt TB; clear f1 TB hob hgb hvb bf))
      go_roundw
      case rel =>
        refine ⟨j + 1, by omega, by go_num, GB, Dj.tick.tick, .slice xa8 xn8 xc8, .slice xab xnb xcb, ?_, ST2.out⟩
        rw [E1.out, E2.out, show M + 6 * (j + 1) = M + 6 * j + 3 + 3 by omega]
        exact HTB.out
      case measure => simp [RowKit.intOf]; omega
    · have ejk : D.se.length = j := by omega
      subst ejk
      have hge : ¬ (D.se.length : Int) < (D.se.length : Int) := by omega
      obtain ⟨x0, x1, x2, xf⟩ := cells3 T0.e0
      have xf0 := xf 0
      have xf1 := xf 1
      have xf2 := xf 2
      have FI := hidIt T0.leave
      clear T0 hst xf yf
      go_wp2_with fail
      (try simp only [Exit.inBlock, Exit.then])
      obtain ⟨⟨q1, q2, q3, q4, q5⟩, r0, r1, r2⟩ := FI.out _ rfl
      rw [List.take_length] at q2 q3
      refine bodyPost_ret (v := .tuple #[.agg #[.slice xa D.se.length xc, .slice da dn dc, .slice sa sn sc], .bool true]) ?_ rfl ⟨_, _, _, rfl, ⟨q1, q2, q3⟩, Dj, ST.out, q4.monoN (by omega) (by omega), q5⟩
      rw [results_cell_tmp rfl]
      go_simp
end Go.Proofs.Ytaoaihjiieandaa
