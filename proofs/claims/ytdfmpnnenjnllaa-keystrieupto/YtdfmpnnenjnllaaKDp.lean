/- Put of the document's trie. -/
import Derived.Test.YtdfmpnnenjnllaaKDr
namespace Go.Proofs.Ytdfmpnnenjnllaa
open Go.RowKit
theorem slice_form {w : World} {base : Nat} {e : TypeId} {size n : Nat} {v : Value} {xs : List Value} (h : w.ownsRow base e size v n xs) : ∃ ao m c, v = .slice ao m c := by
  rcases row_form h with ⟨e, _⟩ | ⟨g, c, e, _⟩
  · exact ⟨_, _, _, e⟩
  · exact ⟨_, _, _, e⟩
theorem DT.mono {w : World} {q : Nat} {S S' : Nat → Prop} {L : List (List Int × Int)} {vr vv : Value} {us : List Value} (h : DT w q S L vr vv us) (hs : ∀ k, S k → S' k) (hl : ∀ k, S' k → k < w.heap.size) : DT w q S' L vr vv us :=
  ⟨h.blk, hs _ h.sq, h.len, h.rows, h.vals, fun g e => hs _ (h.sr g e), fun g e => hs _ (h.sv g e), fun i u r hu hr => ⟨(h.each i u r hu hr).1, fun g e => ⟨hs _ ((h.each i u r hu hr).2 g e).1, ((h.each i u r hu hr).2 g e).2⟩⟩, h.sl, hl⟩
/-- What Put leaves. -/
def RP (w w' : World) (q : Nat) (S : Nat → Prop) (L : List (List Int × Int)) : Prop := ∃ vr' vv' us', DT w' q (Sn w w' S) L vr' vv' us' ∧ Kps S w w'
set_option maxRecDepth 100000 in
set_option maxHeartbeats 2000000 in
theorem rput_any (q : Nat) (S : Nat → Prop) (L : List (List Int × Int)) (vr vv : Value) (us : List Value) (l : Value) (ks : List Int) (v : Int) (w : World) (h : DT w q S L vr vv us) (hk : Rd .i64 w l ks) (hks : ks.length * 8 ≤ 140737488355328) (hL : (L.length + 1) * 24 ≤ 140737488355328) :
    Calls Try.prog 11 #[.pointer (some ⟨q, 0, none⟩), .int .i64 v, l] w fun e w' => e = .returned (.bool (can L ks)) ∧ RP w w' q S (if can L ks = true then L ++ [(ks, v)] else L) := by
  have hlen := hk.len
  obtain ⟨lo, cap, hl⟩ : ∃ lo cap, l = .slice lo ks.length cap := by obtain ⟨ao, cap, e, _⟩ := hk; exact ⟨ao, cap, e⟩
  subst hl
  have same : ∀ wf, Below w.heap.size w wf → RP w wf q S L := fun wf hf => by
    have D := h.ext hf
    exact ⟨vr, vv, us, ⟨D.blk, ⟨.inl D.sq, D.lt _ D.sq⟩, D.len, D.rows, D.vals, fun g e => ⟨.inl (D.sr g e), D.lt _ (D.sr g e)⟩, fun g e => ⟨.inl (D.sv g e), D.lt _ (D.sv g e)⟩, fun i u r hu hr => ⟨(D.each i u r hu hr).1, fun g e => ⟨⟨.inl ((D.each i u r hu hr).2 g e).1, D.lt _ ((D.each i u r hu hr).2 g e).1⟩, ((D.each i u r hu hr).2 g e).2⟩⟩, D.sl, fun k hk => hk.2⟩, Kps.of_below _ hf⟩
  have SM := hidIt same
  have H := hidIt h
  have HK := hidIt hk
  obtain ⟨ar, nr, cr, er⟩ : ∃ ar nr cr, vr = .slice ar nr cr ∧ nr = L.length := by
    rcases row_form h.rows with ⟨e, hn⟩ | ⟨g, c, hv, _⟩
    · exact ⟨none, 0, 0, e, by have := h.len; omega⟩
    · exact ⟨_, _, _, hv, h.len⟩
  obtain ⟨er, rfl⟩ := er
  subst er
  obtain ⟨av, nv, cv, ev⟩ := own_form h.vals
  subst ev
  have hus := h.len
  clear h hk same
  by_cases hn0 : ks = []
  · subst hn0
    have e : can L [] = false := rfl
    rw [e]
    simp only [List.length_nil] at *
    go_enter Try.func11, Try.ntmps11
    go_wp2
    go_ret
    exact ⟨rfl, SM.out _ (Below.refl _ _)⟩
  have hz : ((ks.length : Int) == 0) = false := by
    have : 0 < ks.length := List.length_pos_iff.2 hn0
    simpa using (show ¬ (ks.length : Int) = 0 by omega)
  have HN0 := hidIt hn0
  have HKB := hidIt hks
  have HLB := hidIt hL
  have HUS := hidIt hus
  have hL2 : L.length ≤ 4611686018427387904 := by omega
  clear hn0 hks hL hus
  generalize hC : can L ks = C
  have HC := hidIt hC
  clear hC
  generalize hL1 : (if C = true then L ++ [(ks, v)] else L) = L1
  have HL1 := hidIt hL1
  clear hL1
  go_enter Try.func11, Try.ntmps11
  go_wp2
  go_loopw [7] (fun i wr => ∃ k : Nat, k ≤ L.length ∧ i = .int .i64 k ∧ Below w.heap.size w wr ∧ Hid (∀ r ∈ L.take k, (ks.isPrefixOf r.1 || r.1.isPrefixOf ks) = false)) (fun i _ => L.length - (RowKit.intOf i).toNat)
  case atStart => exact ⟨0, Nat.zero_le _, rfl, Below.refl _ _, fun r hr => by simp at hr⟩
  case round =>
    obtain ⟨k, hk, rfl, hbw, HT⟩ := hrel
    have HD := hidIt (H.out.ext hbw)
    obtain ⟨_, q0, q1, _⟩ := cells2 HD.out.blk
    by_cases hlt : k < L.length
    · obtain ⟨g, c, ev, ao, n, c', hc, hrd⟩ := HD.out.row k hlt
      cases ev
      have HB := hidIt (begins_any (.slice ao n c') (.slice lo ks.length cap) L[k].1 ks wr hrd (HK.out.ext hbw))
      have HB2 := hidIt (fun y (hy : Below wr.heap.size wr y) => begins_any (.slice lo ks.length cap) (.slice ao n c') ks L[k].1 y ((HK.out.ext hbw).ext hy) (hrd.ext hy))
      have hi1 : (k : Int) < (L.length : Int) := by omega
      have CV := hidIt (show ∀ y, Below wr.heap.size wr y → y.cell? ⟨g, k, none⟩ = some (.slice ao n c') ∧ y.cell? ⟨q, 0, none⟩ = some (.slice (some ⟨g, 0, none⟩) L.length cr) from fun y hy => ⟨(hy.cell (p := ⟨g, k, none⟩) (World.block_lt_of_cell? _ _ hc)).trans hc, (cells2 (HD.out.ext hy).blk).2.1⟩)
      have HBW := hidIt hbw
      have hcan : (ks.isPrefixOf L[k].1 || L[k].1.isPrefixOf ks) = true → can L ks = false := fun e => by
        unfold can
        have : (L.any fun r => ks.isPrefixOf r.1 || r.1.isPrefixOf ks) = true := List.any_eq_true.2 ⟨L[k], List.getElem_mem hlt, e⟩
        rw [this]; simp
      clear hrd
      cases hp : ks.isPrefixOf L[k].1 with
      | true =>
        have HCF := hidIt ((hcan (by rw [hp]; rfl)).symm.trans HC.out)
        have HLL : Hid (L = L1) := by unfold Hid; rw [← HL1.out, ← HCF.out]; rfl
        rw [hp] at HB
        clear hp hcan HT HB2
        go_wp2_with (go_at_call 23; refine HB.out.mono ?_; rintro e y ⟨rfl, hy⟩; (try dsimp only); have HY := hidIt hy; clear hy)
        go_ret
        exact ⟨ret_bool HCF.out, by rw [← HLL.out]; exact SM.out _ (ext_trans HBW.out HY.out)⟩
      | false =>
        rw [hp] at HB
        cases hp2 : L[k].1.isPrefixOf ks with
        | true =>
          have HCF := hidIt ((hcan (by rw [hp2]; simp)).symm.trans HC.out)
          have HLL : Hid (L = L1) := by unfold Hid; rw [← HL1.out, ← HCF.out]; rfl
          rw [hp2] at HB2
          clear hp hp2 hcan HT
          go_wp2_with (first | (go_at_call 23; refine HB.out.mono ?_; rintro e y ⟨rfl, hy⟩; (try dsimp only); obtain ⟨m0, m1⟩ := CV.out _ hy; have HY := hidIt hy; clear hy HB) | (go_at_call 23; refine (HB2.out _ HY.out).mono ?_; rintro e y2 ⟨rfl, hy2⟩; (try dsimp only); have HY2 := hidIt hy2; clear hy2 HB2))
          go_ret
          exact ⟨ret_bool HCF.out, by rw [← HLL.out]; exact SM.out _ (ext_trans HBW.out (ext_trans HY.out HY2.out))⟩
        | false =>
          rw [hp2] at HB2
          have HT2 := hidIt (show ∀ r ∈ L.take (k + 1), (ks.isPrefixOf r.1 || r.1.isPrefixOf ks) = false by
            intro r hr
            rw [List.take_succ_eq_append_getElem hlt] at hr
            rcases List.mem_append.1 hr with hr | hr
            · exact HT.out r hr
            · simp only [List.mem_singleton] at hr
              rw [hr, hp, hp2]; rfl)
          clear hp hp2 hcan HT
          go_wp2_with (first | (go_at_call 23; refine HB.out.mono ?_; rintro e y ⟨rfl, hy⟩; (try dsimp only); obtain ⟨m0, m1⟩ := CV.out _ hy; have HY := hidIt hy; clear hy HB) | (go_at_call 23; refine (HB2.out _ HY.out).mono ?_; rintro e y2 ⟨rfl, hy2⟩; (try dsimp only); have HY2 := hidIt hy2; clear hy2 HB2))
          go_roundw
          case rel => exact ⟨k + 1, by omega, by go_num, ext_trans HBW.out (ext_trans HY.out HY2.out), HT2.out⟩
          case measure => simp [RowKit.intOf]; omega
    · have hcan : can L ks = true := by
        unfold can
        have h1 : (L.any fun r => ks.isPrefixOf r.1 || r.1.isPrefixOf ks) = false := by
          rw [List.any_eq_false]
          intro r hr
          have := HT.out r (by rw [List.take_of_length_le (by omega)]; exact hr)
          rw [this]
          simp
        rw [h1]
        have := HN0.out
        cases ks with
        | nil => exact absurd rfl this
        | cons a b => rfl
      have HCT := hidIt (hcan.symm.trans HC.out)
      have HLL : Hid (L ++ [(ks, v)] = L1) := by unfold Hid; rw [← HL1.out, ← HCT.out]; rfl
      clear HT hcan
      have HBW := hidIt hbw
      have HJ := hidIt (fun y (hy : Below wr.heap.size wr y) => (joined_any (.slice lo ks.length cap) (.slice none 0 0) (.slice none 0 0) ks [] [] y ((HK.out.ext hbw).ext hy) (OwnI.nil y 0).rd (OwnI.nil y 0).rd (by have := HKB.out; simp only [List.length_nil]; omega)).mono (R' := fun e w' => ∃ u, e = .returned u ∧ OwnI w' wr.heap.size u ks ∧ Below wr.heap.size wr w') (fun e w' ⟨u, e1, e2, e3⟩ => ⟨u, e1, by simpa using e2.le hy.size, ext_trans hy e3⟩))
      have HB24 := hidIt (show (us.length + 1) * 24 ≤ 140737488355328 by have := HUS.out; have := HLB.out; omega)
      go_wp2
      refine wp_region_held_drew (S := fun _ => True) (by kernel_rfl) (trivial) (fun hHeld => ?_)
      refine wpAnyH_take (i := 0) (oi := _) (v := ?_) rfl (by kernel_rfl) (by kernel_rfl) (by kernel_rfl) (fun _ _ _ h => h) (Or.inl ⟨by rfl, ?_⟩) (by assumption) ?_
      rotate_left 1
      · intro wq hSw; (try dsimp only at hSw); go_simp; try (with_reducible rfl)
      try simp only [Act.put, List.getElem_toArray, List.getElem_cons_zero, List.setIfInBounds_toArray, List.set_cons_zero, List.set_cons_succ]
      refine wpAnyH_take (i := 1) (oi := _) (v := ?_) rfl (by kernel_rfl) (by kernel_rfl) (by kernel_rfl) (fun _ _ _ h => h) (Or.inl ⟨by rfl, ?_⟩) (by assumption) ?_
      rotate_left 1
      · intro wq hSw; (try dsimp only at hSw); go_simp; try (with_reducible rfl)
      try simp only [Act.put, List.getElem_toArray, List.getElem_cons_succ, List.getElem_cons_zero, List.setIfInBounds_toArray, List.set_cons_zero, List.set_cons_succ]
      refine wpAnyH_take (i := 2) (oi := _) (v := ?_) rfl (by kernel_rfl) (by kernel_rfl) (by kernel_rfl) (fun _ _ _ h => h) (Or.inl ⟨by rfl, ?_⟩) (by assumption) ?_
      rotate_left 1
      · intro wq hSw; (try dsimp only at hSw); go_simp; try (with_reducible rfl)
      try simp only [Act.put, List.getElem_toArray, List.getElem_cons_succ, List.getElem_cons_zero, List.setIfInBounds_toArray, List.set_cons_zero, List.set_cons_succ]
      refine wpAnyH_take (i := 3) (oi := _) (v := ?_) rfl (by kernel_rfl) (by kernel_rfl) (by kernel_rfl) (fun _ _ _ h => h) (Or.inl ⟨by rfl, ?_⟩) (by assumption) ?_
      rotate_left 1
      · intro wq hSw; (try dsimp only at hSw); go_simp; try (with_reducible rfl)
      try simp only [Act.put, List.getElem_toArray, List.getElem_cons_succ, List.getElem_cons_zero, List.setIfInBounds_toArray, List.set_cons_zero, List.set_cons_succ]
      refine wpAnyH_take (i := 5) (oi := _) (v := ?_) rfl (by kernel_rfl) (by kernel_rfl) (by kernel_rfl) (fun _ _ _ h => h) (Or.inl ⟨by rfl, ?_⟩) (by assumption) ?_
      rotate_left 1
      · intro wq hSw; (try dsimp only at hSw); go_simp; try (with_reducible rfl)
      try simp only [Act.put, List.getElem_toArray, List.getElem_cons_succ, List.getElem_cons_zero, List.setIfInBounds_toArray, List.set_cons_zero, List.set_cons_succ]
      refine wpAnyH_ready (rs := [4, 6]) (by kernel_rfl) (by simp) ?_
      refine (AllReadyH.cons (o := _) rfl (fun K hK => ?_) (AllReadyH.cons (o := _) rfl (fun K hK => ?_) AllReadyH.nil))
      · skip
        go_simp
        refine hK.out _ _ ?_ (fun hHeld => ?_)
        · trivial
        clear hK K
        try simp only [Act.put, List.getElem_toArray, List.getElem_cons_succ, List.getElem_cons_zero, List.setIfInBounds_toArray, List.set_cons_zero, List.set_cons_succ]
        refine wpAnyH_ready (rs := [6]) (by kernel_rfl) (by simp) ?_
        refine AllReadyH.cons (o := _) rfl (fun K hK => ?_) AllReadyH.nil
        go_simp
        go_at_call 24; refine (HJ.out _ (by first | exact (Below.refl _ _).drew | exact Below.refl _ _)).mono ?_; rintro e y ⟨u, rfl, hu, hy⟩; obtain ⟨au, nu, cu, eu⟩ := own_form hu; subst eu; have HU := hidIt hu; have HY := hidIt hy; clear hu hy; obtain ⟨_, m0, _, _⟩ := cells2 (HD.out.ext HY.out).blk; have HAL := hidIt (fun ob => (cells2 (HD.out.ext (ext_alloc HY.out ob)).blk).2.1)
        refine hK.out _ _ ?_ (fun hHeld => ?_)
        · trivial
        clear hK K
        try simp only [Act.put, List.getElem_toArray, List.getElem_cons_succ, List.getElem_cons_zero, List.setIfInBounds_toArray, List.set_cons_zero, List.set_cons_succ]
        refine wpAnyH_ready (rs := [7]) (by kernel_rfl) (by simp) ?_
        refine AllReadyH.cons (o := _) rfl (fun K hK => ?_) AllReadyH.nil
        go_simp
        refine hK.out _ _ ?_ (fun hHeld => ?_)
        · trivial
        clear hK K
        try simp only [Act.put, List.getElem_toArray, List.getElem_cons_succ, List.getElem_cons_zero, List.setIfInBounds_toArray, List.set_cons_zero, List.set_cons_succ]
        refine wpAnyH_ready (rs := [8]) (by kernel_rfl) (by simp) ?_
        refine AllReadyH.cons (o := _) rfl (fun K hK => ?_) AllReadyH.nil
        rw [if_pos (by rfl)]
        refine wp_append_sl _ _ rfl (.slice ar L.length cr) us rfl ((HD.out.ext (ext_alloc HY.out _)).rows) y.heap.size (.slice au nu cu) ⟨_, _, _, rfl⟩ rfl (by rw [cell_of_row _ _ _ _ _ _ (heap_alloc_new _ _)]; rfl) HB24.out ?_; intro vr2 w2 h2 hg2 hn2; obtain ⟨hq2, hd2⟩ := HD.out.rowin HY.out HU.out _ h2 hg2 hn2; obtain ⟨a2, n2, c2, e2⟩ := slice_form h2; subst e2; have HD2 := hidIt hd2; obtain ⟨_, z0, z1, zf⟩ := cells2 hq2; clear hd2 h2 hg2 hn2 hq2
        refine hK.out _ _ ?_ (fun hHeld => ?_)
        · trivial
        clear hK K
        try simp only [Act.put, List.getElem_toArray, List.getElem_cons_succ, List.getElem_cons_zero, List.setIfInBounds_toArray, List.set_cons_zero, List.set_cons_succ]
        refine wpAnyH_take (i := 9) (oi := _) (v := ?_) rfl (by kernel_rfl) (by kernel_rfl) (by kernel_rfl) (fun _ _ _ h => h) (Or.inl ⟨by rfl, ?_⟩) (by assumption) ?_
        rotate_left 1
        · intro wq hSw; (try dsimp only at hSw); go_simp; try (with_reducible rfl)
        try simp only [Act.put, List.getElem_toArray, List.getElem_cons_succ, List.getElem_cons_zero, List.setIfInBounds_toArray, List.set_cons_zero, List.set_cons_succ]
        refine wpAnyH_take (i := 10) (oi := _) (v := ?_) rfl (by kernel_rfl) (by kernel_rfl) (by kernel_rfl) (fun _ _ _ h => h) (Or.inl ⟨by rfl, ?_⟩) (by assumption) ?_
        rotate_left 1
        · intro wq hSw; (try dsimp only at hSw); go_simp; try (with_reducible rfl)
        try simp only [Act.put, List.getElem_toArray, List.getElem_cons_succ, List.getElem_cons_zero, List.setIfInBounds_toArray, List.set_cons_zero, List.set_cons_succ]
        refine wpAnyH_ready (rs := [11]) (by kernel_rfl) (by simp) ?_
        refine AllReadyH.cons (o := _) rfl (fun K hK => ?_) AllReadyH.nil
        go_simp
        refine hK.out _ _ ?_ (fun hHeld => ?_)
        · trivial
        clear hK K
        try simp only [Act.put, List.getElem_toArray, List.getElem_cons_succ, List.getElem_cons_zero, List.setIfInBounds_toArray, List.set_cons_zero, List.set_cons_succ]
        refine wpAnyH_done (by kernel_rfl) ?_ _
        generalize hwz : World.setCell _ _ _ = wz
        have HZ : Hid (D1 wr wz q S L (.slice a2 n2 c2) (.slice av nv cv) (.slice au nu cu) us ks) := by unfold Hid; rw [← hwz]; exact HD2.out.same (fun _ => rfl) rfl rfl rfl rfl
        obtain ⟨_, y0, y1, yf⟩ := cells2 HZ.out.blk
        clear hwz z0 z1 zf
        have HVB := hidIt (show ((L.map (·.2)).length + 1) * 8 ≤ 140737488355328 by have := HLB.out; rw [List.length_map]; omega)
        go_wp2_with (at_builtin; refine wpl_int rfl _ _ rfl (.slice av nv cv) (L.map (·.2)) rfl (HZ.out.vals.ext (ext_alloc (Below.refl _ _) _)) wz.heap.size v rfl (by rw [cell_of_row _ _ _ _ _ _ (heap_alloc_new _ _)]; rfl) HVB.out ?_; intro vv2 w4 h4 hg4 hn4; obtain ⟨hq4, hd4, hk4⟩ := HZ.out.fin HUS.out HD.out.sq HD.out.lt HD.out.sl _ h4 hg4 hn4; obtain ⟨_, b0, b1, bf⟩ := cells2 hq4; obtain ⟨a4, n4, c4, e4⟩ := slice_form h4; subst e4; have HD4 := hidIt hd4; have HK4 := hidIt hk4; clear hd4 hk4 h4 hg4 hn4 hq4)
        go_ret
        exact ⟨ret_bool HCT.out, by rw [← HLL.out]; exact ⟨_, _, _, HD4.out.mono (fun k hk => ⟨hk.1.imp id (fun h => Nat.le_trans HBW.out.size h), hk.2⟩) (fun k hk => hk.2), Kps.trans (Kps.of_below _ HBW.out) HK4.out (fun _ _ e => e)⟩⟩
      · skip
        go_simp
        go_at_call 24; refine (HJ.out _ (by first | exact (Below.refl _ _).drew | exact Below.refl _ _)).mono ?_; rintro e y ⟨u, rfl, hu, hy⟩; obtain ⟨au, nu, cu, eu⟩ := own_form hu; subst eu; have HU := hidIt hu; have HY := hidIt hy; clear hu hy; obtain ⟨_, m0, _, _⟩ := cells2 (HD.out.ext HY.out).blk; have HAL := hidIt (fun ob => (cells2 (HD.out.ext (ext_alloc HY.out ob)).blk).2.1)
        refine hK.out _ _ ?_ (fun hHeld => ?_)
        · trivial
        clear hK K
        try simp only [Act.put, List.getElem_toArray, List.getElem_cons_succ, List.getElem_cons_zero, List.setIfInBounds_toArray, List.set_cons_zero, List.set_cons_succ]
        refine wpAnyH_ready (rs := [4, 7]) (by kernel_rfl) (by simp) ?_
        refine (AllReadyH.cons (o := _) rfl (fun K hK => ?_) (AllReadyH.cons (o := _) rfl (fun K hK => ?_) AllReadyH.nil))
        · skip
          go_simp
          refine hK.out _ _ ?_ (fun hHeld => ?_)
          · trivial
          clear hK K
          try simp only [Act.put, List.getElem_toArray, List.getElem_cons_succ, List.getElem_cons_zero, List.setIfInBounds_toArray, List.set_cons_zero, List.set_cons_succ]
          refine wpAnyH_ready (rs := [7]) (by kernel_rfl) (by simp) ?_
          refine AllReadyH.cons (o := _) rfl (fun K hK => ?_) AllReadyH.nil
          go_simp
          refine hK.out _ _ ?_ (fun hHeld => ?_)
          · trivial
          clear hK K
          try simp only [Act.put, List.getElem_toArray, List.getElem_cons_succ, List.getElem_cons_zero, List.setIfInBounds_toArray, List.set_cons_zero, List.set_cons_succ]
          refine wpAnyH_ready (rs := [8]) (by kernel_rfl) (by simp) ?_
          refine AllReadyH.cons (o := _) rfl (fun K hK => ?_) AllReadyH.nil
          rw [if_pos (by rfl)]
          refine wp_append_sl _ _ rfl (.slice ar L.length cr) us rfl ((HD.out.ext (ext_alloc HY.out _)).rows) y.heap.size (.slice au nu cu) ⟨_, _, _, rfl⟩ rfl (by rw [cell_of_row _ _ _ _ _ _ (heap_alloc_new _ _)]; rfl) HB24.out ?_; intro vr2 w2 h2 hg2 hn2; obtain ⟨hq2, hd2⟩ := HD.out.rowin HY.out HU.out _ h2 hg2 hn2; obtain ⟨a2, n2, c2, e2⟩ := slice_form h2; subst e2; have HD2 := hidIt hd2; obtain ⟨_, z0, z1, zf⟩ := cells2 hq2; clear hd2 h2 hg2 hn2 hq2
          refine hK.out _ _ ?_ (fun hHeld => ?_)
          · trivial
          clear hK K
          try simp only [Act.put, List.getElem_toArray, List.getElem_cons_succ, List.getElem_cons_zero, List.setIfInBounds_toArray, List.set_cons_zero, List.set_cons_succ]
          refine wpAnyH_take (i := 9) (oi := _) (v := ?_) rfl (by kernel_rfl) (by kernel_rfl) (by kernel_rfl) (fun _ _ _ h => h) (Or.inl ⟨by rfl, ?_⟩) (by assumption) ?_
          rotate_left 1
          · intro wq hSw; (try dsimp only at hSw); go_simp; try (with_reducible rfl)
          try simp only [Act.put, List.getElem_toArray, List.getElem_cons_succ, List.getElem_cons_zero, List.setIfInBounds_toArray, List.set_cons_zero, List.set_cons_succ]
          refine wpAnyH_take (i := 10) (oi := _) (v := ?_) rfl (by kernel_rfl) (by kernel_rfl) (by kernel_rfl) (fun _ _ _ h => h) (Or.inl ⟨by rfl, ?_⟩) (by assumption) ?_
          rotate_left 1
          · intro wq hSw; (try dsimp only at hSw); go_simp; try (with_reducible rfl)
          try simp only [Act.put, List.getElem_toArray, List.getElem_cons_succ, List.getElem_cons_zero, List.setIfInBounds_toArray, List.set_cons_zero, List.set_cons_succ]
          refine wpAnyH_ready (rs := [11]) (by kernel_rfl) (by simp) ?_
          refine AllReadyH.cons (o := _) rfl (fun K hK => ?_) AllReadyH.nil
          go_simp
          refine hK.out _ _ ?_ (fun hHeld => ?_)
          · trivial
          clear hK K
          try simp only [Act.put, List.getElem_toArray, List.getElem_cons_succ, List.getElem_cons_zero, List.setIfInBounds_toArray, List.set_cons_zero, List.set_cons_succ]
          refine wpAnyH_done (by kernel_rfl) ?_ _
          generalize hwz : World.setCell _ _ _ = wz
          have HZ : Hid (D1 wr wz q S L (.slice a2 n2 c2) (.slice av nv cv) (.slice au nu cu) us ks) := by unfold Hid; rw [← hwz]; exact HD2.out.same (fun _ => rfl) rfl rfl rfl rfl
          obtain ⟨_, y0, y1, yf⟩ := cells2 HZ.out.blk
          clear hwz z0 z1 zf
          have HVB := hidIt (show ((L.map (·.2)).length + 1) * 8 ≤ 140737488355328 by have := HLB.out; rw [List.length_map]; omega)
          go_wp2_with (at_builtin; refine wpl_int rfl _ _ rfl (.slice av nv cv) (L.map (·.2)) rfl (HZ.out.vals.ext (ext_alloc (Below.refl _ _) _)) wz.heap.size v rfl (by rw [cell_of_row _ _ _ _ _ _ (heap_alloc_new _ _)]; rfl) HVB.out ?_; intro vv2 w4 h4 hg4 hn4; obtain ⟨hq4, hd4, hk4⟩ := HZ.out.fin HUS.out HD.out.sq HD.out.lt HD.out.sl _ h4 hg4 hn4; obtain ⟨_, b0, b1, bf⟩ := cells2 hq4; obtain ⟨a4, n4, c4, e4⟩ := slice_form h4; subst e4; have HD4 := hidIt hd4; have HK4 := hidIt hk4; clear hd4 hk4 h4 hg4 hn4 hq4)
          go_ret
          exact ⟨ret_bool HCT.out, by rw [← HLL.out]; exact ⟨_, _, _, HD4.out.mono (fun k hk => ⟨hk.1.imp id (fun h => Nat.le_trans HBW.out.size h), hk.2⟩) (fun k hk => hk.2), Kps.trans (Kps.of_below _ HBW.out) HK4.out (fun _ _ e => e)⟩⟩
        · skip
          go_simp
          have al0 := HAL.out (.cells #[.slice au nu cu] 32)
          refine hK.out _ _ ?_ (fun hHeld => ?_)
          · trivial
          clear hK K
          try simp only [Act.put, List.getElem_toArray, List.getElem_cons_succ, List.getElem_cons_zero, List.setIfInBounds_toArray, List.set_cons_zero, List.set_cons_succ]
          refine wpAnyH_ready (rs := [4]) (by kernel_rfl) (by simp) ?_
          refine AllReadyH.cons (o := _) rfl (fun K hK => ?_) AllReadyH.nil
          go_simp
          refine hK.out _ _ ?_ (fun hHeld => ?_)
          · trivial
          clear hK K
          try simp only [Act.put, List.getElem_toArray, List.getElem_cons_succ, List.getElem_cons_zero, List.setIfInBounds_toArray, List.set_cons_zero, List.set_cons_succ]
          refine wpAnyH_ready (rs := [8]) (by kernel_rfl) (by simp) ?_
          refine AllReadyH.cons (o := _) rfl (fun K hK => ?_) AllReadyH.nil
          rw [if_pos (by rfl)]
          refine wp_append_sl _ _ rfl (.slice ar L.length cr) us rfl ((HD.out.ext (ext_alloc HY.out _)).rows) y.heap.size (.slice au nu cu) ⟨_, _, _, rfl⟩ rfl (by rw [cell_of_row _ _ _ _ _ _ (heap_alloc_new _ _)]; rfl) HB24.out ?_; intro vr2 w2 h2 hg2 hn2; obtain ⟨hq2, hd2⟩ := HD.out.rowin HY.out HU.out _ h2 hg2 hn2; obtain ⟨a2, n2, c2, e2⟩ := slice_form h2; subst e2; have HD2 := hidIt hd2; obtain ⟨_, z0, z1, zf⟩ := cells2 hq2; clear hd2 h2 hg2 hn2 hq2
          refine hK.out _ _ ?_ (fun hHeld => ?_)
          · trivial
          clear hK K
          try simp only [Act.put, List.getElem_toArray, List.getElem_cons_succ, List.getElem_cons_zero, List.setIfInBounds_toArray, List.set_cons_zero, List.set_cons_succ]
          refine wpAnyH_take (i := 9) (oi := _) (v := ?_) rfl (by kernel_rfl) (by kernel_rfl) (by kernel_rfl) (fun _ _ _ h => h) (Or.inl ⟨by rfl, ?_⟩) (by assumption) ?_
          rotate_left 1
          · intro wq hSw; (try dsimp only at hSw); go_simp; try (with_reducible rfl)
          try simp only [Act.put, List.getElem_toArray, List.getElem_cons_succ, List.getElem_cons_zero, List.setIfInBounds_toArray, List.set_cons_zero, List.set_cons_succ]
          refine wpAnyH_take (i := 10) (oi := _) (v := ?_) rfl (by kernel_rfl) (by kernel_rfl) (by kernel_rfl) (fun _ _ _ h => h) (Or.inl ⟨by rfl, ?_⟩) (by assumption) ?_
          rotate_left 1
          · intro wq hSw; (try dsimp only at hSw); go_simp; try (with_reducible rfl)
          try simp only [Act.put, List.getElem_toArray, List.getElem_cons_succ, List.getElem_cons_zero, List.setIfInBounds_toArray, List.set_cons_zero, List.set_cons_succ]
          refine wpAnyH_ready (rs := [11]) (by kernel_rfl) (by simp) ?_
          refine AllReadyH.cons (o := _) rfl (fun K hK => ?_) AllReadyH.nil
          go_simp
          refine hK.out _ _ ?_ (fun hHeld => ?_)
          · trivial
          clear hK K
          try simp only [Act.put, List.getElem_toArray, List.getElem_cons_succ, List.getElem_cons_zero, List.setIfInBounds_toArray, List.set_cons_zero, List.set_cons_succ]
          refine wpAnyH_done (by kernel_rfl) ?_ _
          generalize hwz : World.setCell _ _ _ = wz
          have HZ : Hid (D1 wr wz q S L (.slice a2 n2 c2) (.slice av nv cv) (.slice au nu cu) us ks) := by unfold Hid; rw [← hwz]; exact HD2.out.same (fun _ => rfl) rfl rfl rfl rfl
          obtain ⟨_, y0, y1, yf⟩ := cells2 HZ.out.blk
          clear hwz z0 z1 zf
          have HVB := hidIt (show ((L.map (·.2)).length + 1) * 8 ≤ 140737488355328 by have := HLB.out; rw [List.length_map]; omega)
          go_wp2_with (at_builtin; refine wpl_int rfl _ _ rfl (.slice av nv cv) (L.map (·.2)) rfl (HZ.out.vals.ext (ext_alloc (Below.refl _ _) _)) wz.heap.size v rfl (by rw [cell_of_row _ _ _ _ _ _ (heap_alloc_new _ _)]; rfl) HVB.out ?_; intro vv2 w4 h4 hg4 hn4; obtain ⟨hq4, hd4, hk4⟩ := HZ.out.fin HUS.out HD.out.sq HD.out.lt HD.out.sl _ h4 hg4 hn4; obtain ⟨_, b0, b1, bf⟩ := cells2 hq4; obtain ⟨a4, n4, c4, e4⟩ := slice_form h4; subst e4; have HD4 := hidIt hd4; have HK4 := hidIt hk4; clear hd4 hk4 h4 hg4 hn4 hq4)
          go_ret
          exact ⟨ret_bool HCT.out, by rw [← HLL.out]; exact ⟨_, _, _, HD4.out.mono (fun k hk => ⟨hk.1.imp id (fun h => Nat.le_trans HBW.out.size h), hk.2⟩) (fun k hk => hk.2), Kps.trans (Kps.of_below _ HBW.out) HK4.out (fun _ _ e => e)⟩⟩
end Go.Proofs.Ytdfmpnnenjnllaa
