/- Upto. -/
import Derived.Test.YtcdamhgblolofaaWMeth
import Derived.Deep.CutRange
import Derived.Deep.LoopGhost
namespace Go.Proofs.Ytcdamhgblolofaa.W
open Go.RowKit

set_option maxRecDepth 100000 in
set_option maxHeartbeats 4000000 in
theorem Upto_any (u : Option Addr) (xs : List It) (i : Int) (w : World) (h : TT w (.agg #[.pointer u]) xs) (hw : wt xs ≤ 4611686018427387904) (hi : i ≤ 9223372036854775807) :
    Calls Try.prog 51 #[.agg #[.pointer u], .int .i64 i] w fun e w' => ∃ s, Hid (s = wA.su (xs.take i.toNat)) ∧ e = .returned (.agg #[.string s.t, .int .i64 s.n]) ∧ Below w.heap.size w w' := by
  obtain ⟨u', tr, hu, ht, hl, _⟩ := h
  obtain rfl : u = u' := by simpa using hu
  obtain ⟨w0, hw0⟩ : ∃ w0, w0 = ((w.alloc (.cells #[.pointer u] 62)).alloc (.cells #[.string (ByteArray.mk #[]), .int .i64 0] 65)).alloc (.cells #[.string (ByteArray.mk #[]), .int .i64 0] 65) := ⟨_, rfl⟩
  have hb0 : Below w.heap.size w w0 := by rw [hw0]; exact ext_alloc (ext_alloc (ext_alloc (Below.refl _ _) _) _) _
  have hA : Blk 65 w0 (w.heap.size + 1) Ws.zero := by
    have := Blk.new 65 (w.alloc (.cells #[.pointer u] 62)) Ws.zero
    rw [World.size_alloc] at this
    rw [hw0]; exact this.ext (ext_alloc (Below.refl _ _) _)
  have hB : Blk 65 w0 (w.heap.size + 2) Ws.zero := by
    have := Blk.new 65 ((w.alloc (.cells #[.pointer u] 62)).alloc (.cells #[.string (ByteArray.mk #[]), .int .i64 0] 65)) Ws.zero
    rw [World.size_alloc, World.size_alloc] at this
    rw [hw0]; exact this
  have HT := hidIt (ht.ext hb0)
  have HL := hidIt hl
  have HB0 := hidIt hb0
  have HA := hidIt hA
  have HBB := hidIt hB
  have HW := hidIt hw
  clear ht hl hb0 hu hw hA hB
  have hmt1 := m_meas
  have hmt2 := m_add
  have hnt1 := n_meas
  have hnt2 := n_add
  go_enter Try.func51, Try.ntmps51
  go_wp2_with fail
  rw [← hw0]
  clear hw0
  go_loopg [1, 6] xs.length (fun gk c p wr => ∃ (t : Tr It) (q : Option Addr) (d : List It) (j : Int), t.list.length ≤ gk ∧ c = .int .i64 j ∧ p = .pointer q ∧ Tin wr t q ∧ Hid (xs.take i.toNat = d ++ t.list.take j.toNat ∧ wt (d ++ t.list) ≤ 4611686018427387904 ∧ j ≤ 9223372036854775807) ∧ Blk 65 wr (w.heap.size + 2) (wA.su d) ∧ Blk 65 wr (w.heap.size + 1) Ws.zero ∧ Below w.heap.size w wr)
  case atStart => exact ⟨tr, u, [], i, by rw [HL.out]; exact Nat.le_refl _, rfl, rfl, HT.out, ⟨by rw [HL.out]; rfl, by rw [HL.out]; exact HW.out, hi⟩, HBB.out, HA.out, HB0.out⟩
  case round =>
    obtain ⟨t, q, d, j, hgk, rfl, rfl, htq, HI, hB, hA, hb⟩ := hrel
    have hszB := hB.lt
    cases t using Tr.ind with
    | nil =>
      simp only [Tin] at htq
      subst htq
      obtain ⟨b0, b1, b2, b3, _⟩ := hB.cells
      obtain ⟨a0, a1, a2, a3, af⟩ := hA.cells
      have HE : Hid (wA.su d = wA.su (xs.take i.toNat)) := by rw [HI.out.1]; simp [Tr.list, Hid]
      obtain ⟨p1, p2⟩ := hA.put (wA.su d)
      have HP := hidIt (below_put hb (by omega) p2 (by omega))
      clear p1 p2
      generalize wA.su d = sd at *
      go_wp2_with fail
      exact bodyPost_ret (v := .agg #[.string sd.t, .int .i64 sd.n]) (by simp [results, Try.results51, go_sem, a0, a1]) rfl ⟨sd, HE, rfl, HP.out⟩
    | node l x r =>
      obtain ⟨g, lu, ru, rfl, hgl, h2, h3, c0, c1, c2, c3⟩ := htq.lt
      have HGK : Hid (l.list.length < gk ∧ r.list.length < gk) := by rw [Tr.list] at hgk; simp only [List.length_append, List.length_cons] at hgk; unfold Hid; omega
      clear hgk
      obtain ⟨i1, i2, i3⟩ := HI.out
      rw [Tr.list] at i1 i2
      have ew := i2
      simp only [wt_app, wt_cons] at ew
      have b2 := wt_len l.list
      have hn2 : ¬ g = w.heap.size + 2 := by
        intro e
        obtain ⟨g', lv', rv', e1, hg', _⟩ := htq
        obtain rfl : g = g' := by simpa using e1
        unfold Blk at hB
        rw [e, hB] at hg'
        simp at hg'
      have CL : Hid (Calls Try.prog 59 #[.pointer lu] wr fun e w'' => e = .returned (.int .i64 l.list.length) ∧ w'' = wr) := count_any l lu wr h2
      by_cases hj : j ≤ (l.list.length : Int)
      · have HG : Hid (xs.take i.toNat = d ++ l.list.take j.toNat ∧ wt (d ++ l.list) ≤ 4611686018427387904 ∧ j ≤ 9223372036854775807) := ⟨by rw [i1, List.take_append_of_le_length (by omega)], by rw [wt_app]; omega, i3⟩
        have H2 := hidIt h2
        clear h2 h3 htq hn2
        generalize hX : l.list.length = nl at *
        have ENL := hidIt hX
        clear hX
        go_wp2_with fail
        refine CL.out.mono ?_
        rintro e w' ⟨rfl, rfl⟩
        go_wp2_with fail
        go_roundg l.list.length
        case measure => rw [ENL.out]; exact HGK.out.1
        case rel => exact ⟨l, lu, d, j, Nat.le_refl _, rfl, rfl, H2.out, HG.out, hB, hA, hb⟩
      · have hj' : (l.list.length : Int) < j := Int.not_le.1 hj
        have HG : Hid (xs.take i.toNat = (d ++ l.list ++ [x]) ++ r.list.take (j - (l.list.length + 1)).toNat ∧ wt ((d ++ l.list ++ [x]) ++ r.list) ≤ 4611686018427387904 ∧ j - (l.list.length + 1) ≤ 9223372036854775807) := ⟨by rw [i1, show j.toNat = l.list.length + ((j - (l.list.length + 1)).toNat + 1) by omega, List.take_length_add_append, List.take_succ_cons]; simp, by simpa using i2, by omega⟩
        have TL : Hid (∀ w', Below wr.heap.size wr w' → Calls Try.prog 70 #[.pointer lu] w' fun e w'' => ∃ s, Hid (s = wA.su l.list) ∧ e = .returned (.agg #[.string s.t, .int .i64 s.n]) ∧ Below w'.heap.size w' w'') := fun w' hb' => total_any l lu w' (h2.ext hb')
        have A1 : Hid (∀ s w', Hid (s = wA.su l.list) → Calls Try.prog 53 #[.agg #[.string (wA.su d).t, .int .i64 (wA.su d).n], .agg #[.string s.t, .int .i64 s.n]] w' fun e w'' => ∃ q, Hid (q = wA.su (d ++ l.list)) ∧ e = .returned (.agg #[.string q.t, .int .i64 q.n]) ∧ Below w'.heap.size w' w'') := fun s w' hs => add_su d l.list _ s w' rfl hs (by rw [wt_app]; omega)
        have MM : Hid (∀ w', Calls Try.prog 54 #[.agg #[.string x]] w' fun e w'' => ∃ s, Hid (s = wA.su [x]) ∧ e = .returned (.agg #[.string s.t, .int .i64 s.n]) ∧ Below w'.heap.size w' w'') := fun w' => (Measure_any x w').mono fun _ _ ⟨s, k1, k2, k3⟩ => ⟨s, k1.out.trans (su_one x).symm, k2, k3⟩
        have A2 : Hid (∀ q s w', Hid (q = wA.su (d ++ l.list)) → Hid (s = wA.su [x]) → Calls Try.prog 53 #[.agg #[.string q.t, .int .i64 q.n], .agg #[.string s.t, .int .i64 s.n]] w' fun e w'' => ∃ q, Hid (q = wA.su (d ++ l.list ++ [x])) ∧ e = .returned (.agg #[.string q.t, .int .i64 q.n]) ∧ Below w'.heap.size w' w'') := fun q s w' hq hs => add_su (d ++ l.list) [x] q s w' hq hs (by simp only [wt_app, wt_cons, wt_nil]; omega)
        have HCC : Hid (∀ w', Below wr.heap.size wr w' → (w'.cell? ⟨g, 0, none⟩ = some (.string x) ∧ w'.cell? ⟨g, 0, none⟩ = some (.string x) ∧ w'.cell? ⟨g, 1, none⟩ = some (.pointer lu) ∧ w'.cell? ⟨g, 2, none⟩ = some (.pointer ru)) ∧ Blk 65 w' (w.heap.size + 2) (wA.su d) ∧ Blk 65 w' (w.heap.size + 1) Ws.zero ∧ Tin w' r ru) := fun w' hb' => ⟨⟨(hb'.cell (p := ⟨g, 0, none⟩) hgl).trans c0, (hb'.cell (p := ⟨g, 0, none⟩) hgl).trans c1, (hb'.cell (p := ⟨g, 1, none⟩) hgl).trans c2, (hb'.cell (p := ⟨g, 2, none⟩) hgl).trans c3⟩, hB.ext hb', hA.ext hb', h3.ext hb'⟩
        have HB := hidIt hb
        have HN2 := hidIt hn2
        have hjb : j ≤ 9223372036854775807 := i3
        have hnb : (l.list.length : Int) ≤ 4611686018427387904 := by omega
        obtain ⟨z0, z1, z2, z3, zf⟩ := hB.cells
        clear h2 h3 htq hn2 i1 i2 i3 ew b2 hb hB hA
        generalize hX1 : wA.su d = sd at *
        generalize wA.su (d ++ l.list) = s1 at *
        generalize hX2 : wA.su (d ++ l.list ++ [x]) = s2 at *
        generalize wA.su l.list = sl at *
        generalize wA.su [x] = sx at *
        generalize l.list.length = nl at *
        have ES2 := hidIt hX2
        clear hX1 hX2
        go_wp2_with fail
        refine CL.out.mono ?_
        rintro e w' ⟨rfl, rfl⟩
        go_upto_region 7 with fail
        go_cut [] from 10 to 47 (fun wF => Hid (Blk 65 wF (w.heap.size + 2) s2 ∧ Blk 65 wF (w.heap.size + 1) Ws.zero ∧ Tin wF r ru ∧ Below w.heap.size w wF ∧ wF.cell? ⟨g, 2, none⟩ = some (.pointer ru)))
        case first =>
          refine wp_region_held_drew (S := fun w'' => w''.cell? ⟨g, 0, none⟩ = some (.string x) ∧ w''.cell? ⟨g, 0, none⟩ = some (.string x) ∧ w''.cell? ⟨g, 1, none⟩ = some (.pointer lu)) (by kernel_rfl) (by first | exact ⟨c0, c1, c2⟩ | (dsimp only; go_keep)) (fun hHeld => ?_)
          refine wpAnyH_take (i := 2) (oi := _) (v := ?_) rfl (by kernel_rfl) (by kernel_rfl) (by kernel_rfl) (fun _ _ _ h => h) (Or.inl ⟨by rfl, ?_⟩) (by assumption) ?_
          rotate_left 1
          · intro wq hSw; (try dsimp only at hSw); go_simp; try (with_reducible rfl)
          try simp only [Act.put, List.setIfInBounds_toArray]
          refine wpAnyH_take (i := 3) (oi := _) (v := ?_) rfl (by kernel_rfl) (by kernel_rfl) (by kernel_rfl) (fun _ _ _ h => h) (Or.inl ⟨by rfl, ?_⟩) (by assumption) ?_
          rotate_left 1
          · intro wq hSw; (try dsimp only at hSw); go_simp; try (with_reducible rfl)
          try simp only [Act.put]
          refine wpAnyH_take (i := 4) (oi := _) (v := ?_) rfl (by kernel_rfl) (by kernel_rfl) (by kernel_rfl) (fun _ _ _ h => h) (Or.inl ⟨by rfl, ?_⟩) (by assumption) ?_
          rotate_left 1
          · intro wq hSw; (try dsimp only at hSw); go_simp; try (with_reducible rfl)
          try simp only [Act.put]
          refine wpAnyH_take (i := 5) (oi := _) (v := ?_) rfl (by kernel_rfl) (by kernel_rfl) (by kernel_rfl) (fun _ _ _ h => h) (Or.inl ⟨by rfl, ?_⟩) (by assumption) ?_
          rotate_left 1
          · intro wq hSw; (try dsimp only at hSw); go_simp; try (with_reducible rfl)
          try simp only [Act.put]
          refine wpAnyH_take (i := 9) (oi := _) (v := ?_) rfl (by kernel_rfl) (by kernel_rfl) (by kernel_rfl) (fun _ _ _ h => h) (Or.inl ⟨by rfl, ?_⟩) (by assumption) ?_
          rotate_left 1
          · intro wq hSw; (try dsimp only at hSw); go_simp; try (with_reducible rfl)
          try simp only [Act.put]
          refine wpAnyH_take (i := 10) (oi := _) (v := ?_) rfl (by kernel_rfl) (by kernel_rfl) (by kernel_rfl) (fun _ _ _ h => h) (Or.inl ⟨by rfl, ?_⟩) (by assumption) ?_
          rotate_left 1
          · intro wq hSw; (try dsimp only at hSw); go_simp; try (with_reducible rfl)
          try simp only [Act.put]
          refine wpAnyH_take (i := 11) (oi := _) (v := ?_) rfl (by kernel_rfl) (by kernel_rfl) (by kernel_rfl) (fun _ _ _ h => h) (Or.inl ⟨by rfl, ?_⟩) (by assumption) ?_
          rotate_left 1
          · intro wq hSw; (try dsimp only at hSw); go_simp; try (with_reducible rfl)
          try simp only [Act.put]
          refine wpAnyH_take (i := 12) (oi := _) (v := ?_) rfl (by kernel_rfl) (by kernel_rfl) (by kernel_rfl) (fun _ _ _ h => h) (Or.inl ⟨by rfl, ?_⟩) (by assumption) ?_
          rotate_left 1
          · intro wq hSw; (try dsimp only at hSw); go_simp; try (with_reducible rfl)
          try simp only [Act.put]
          refine wpAnyH_take (i := 13) (oi := _) (v := ?_) rfl (by kernel_rfl) (by kernel_rfl) (by kernel_rfl) (fun _ _ _ h => h) (Or.inl ⟨by rfl, ?_⟩) (by assumption) ?_
          rotate_left 1
          · intro wq hSw; (try dsimp only at hSw); go_simp; try (with_reducible rfl)
          try simp only [Act.put]
          refine wpAnyH_ready (rs := [0, 6]) (by kernel_rfl) (by simp) ?_
          refine AllReadyH.cons (o := _) rfl (fun K hK => ?_) ?_
          · go_simp
            refine hK.out _ _ (by first | exact ⟨c0, c1, c2⟩ | go_keep) (fun hHeld => ?_)
            clear hK K
            try simp only [Act.put, List.setIfInBounds_toArray, List.set_cons_zero, List.set_cons_succ]
            refine wpAnyH_take (i := 1) (oi := _) (v := ?_) rfl (by kernel_rfl) (by kernel_rfl) (by kernel_rfl) (fun _ _ _ h => h) (Or.inl ⟨by rfl, ?_⟩) (by assumption) ?_
            rotate_left 1
            · intro wq hSw; (try dsimp only at hSw); go_simp; try (with_reducible rfl)
            try simp only [Act.put, List.setIfInBounds_toArray]
            refine wpAnyH_ready (rs := [6]) (by kernel_rfl) (by simp) ?_
            refine AllReadyH.cons (o := _) rfl (fun K hK => ?_) AllReadyH.nil
            go_simp
            refine (TL.out _ (by repeat (first | exact HB4.out | exact HB3.out | exact HB2.out | exact HB1.out | exact Below.refl _ _ | apply Below.drew))).mono ?_; rintro e w1 ⟨q1, HL1, rfl, hbb⟩; have HB1 : Hid (Below w'.heap.size w' w1) := ext_trans (by repeat (first | exact HB4.out | exact HB3.out | exact HB2.out | exact HB1.out | exact Below.refl _ _ | apply Below.drew)) hbb; clear hbb c0 c1 c2 z0 z1 z2 z3 zf; obtain ⟨⟨c0, c1, c2, _⟩, hkk, _⟩ := HCC.out w1 HB1.out; obtain ⟨z0, z1, z2, z3, zf⟩ := hkk.cells; try go_wp2_with fail
            refine hK.out _ _ (⟨c0, c1, c2⟩) (fun hHeld => ?_)
            clear hK K
            try simp only [Act.put, List.setIfInBounds_toArray, List.set_cons_zero, List.set_cons_succ]
            refine wpAnyH_ready (rs := [7]) (by kernel_rfl) (by simp) ?_
            refine AllReadyH.cons (o := _) rfl (fun K hK => ?_) AllReadyH.nil
            go_simp
            refine (A1.out _ _ HL1).mono ?_; rintro e w2 ⟨q2, HQ2, rfl, hbb⟩; have HB2 : Hid (Below w'.heap.size w' w2) := ext_trans (by repeat (first | exact HB4.out | exact HB3.out | exact HB2.out | exact HB1.out | exact Below.refl _ _ | apply Below.drew)) hbb; clear hbb c0 c1 c2 z0 z1 z2 z3 zf; obtain ⟨⟨c0, c1, c2, _⟩, hkk, _⟩ := HCC.out w2 HB2.out; obtain ⟨z0, z1, z2, z3, zf⟩ := hkk.cells; try go_wp2_with fail
            refine hK.out _ _ (⟨c0, c1, c2⟩) (fun hHeld => ?_)
            clear hK K
            try simp only [Act.put, List.setIfInBounds_toArray, List.set_cons_zero, List.set_cons_succ]
            refine wpAnyH_take (i := 8) (oi := _) (v := ?_) rfl (by kernel_rfl) (by kernel_rfl) (by kernel_rfl) (fun _ _ _ h => h) (Or.inl ⟨by rfl, ?_⟩) (by assumption) ?_
            rotate_left 1
            · intro wq hSw; (try dsimp only at hSw); go_simp; try (with_reducible rfl)
            try simp only [Act.put, List.setIfInBounds_toArray]
            refine wpAnyH_ready (rs := [14]) (by kernel_rfl) (by simp) ?_
            refine AllReadyH.cons (o := _) rfl (fun K hK => ?_) AllReadyH.nil
            go_simp
            refine (MM.out _).mono ?_; rintro e w3 ⟨q3, HQ3, rfl, hbb⟩; have HB3 : Hid (Below w'.heap.size w' w3) := ext_trans (by repeat (first | exact HB4.out | exact HB3.out | exact HB2.out | exact HB1.out | exact Below.refl _ _ | apply Below.drew)) hbb; clear hbb c0 c1 c2 z0 z1 z2 z3 zf; obtain ⟨⟨c0, c1, c2, _⟩, hkk, _⟩ := HCC.out w3 HB3.out; obtain ⟨z0, z1, z2, z3, zf⟩ := hkk.cells; try go_wp2_with fail
            refine hK.out _ _ (⟨c0, c1, c2⟩) (fun hHeld => ?_)
            clear hK K
            try simp only [Act.put, List.setIfInBounds_toArray, List.set_cons_zero, List.set_cons_succ]
            refine wpAnyH_ready (rs := [15]) (by kernel_rfl) (by simp) ?_
            refine AllReadyH.cons (o := _) rfl (fun K hK => ?_) AllReadyH.nil
            go_simp
            refine (A2.out _ _ _ HQ2 HQ3).mono ?_; rintro e w4 ⟨q4, HQ4, rfl, hbb⟩; have HB4 : Hid (Below w'.heap.size w' w4) := ext_trans (by repeat (first | exact HB4.out | exact HB3.out | exact HB2.out | exact HB1.out | exact Below.refl _ _ | apply Below.drew)) hbb; clear hbb c0 c1 c2 z0 z1 z2 z3 zf; obtain ⟨⟨c0, c1, c2, _⟩, hkk, _⟩ := HCC.out w4 HB4.out; obtain ⟨z0, z1, z2, z3, zf⟩ := hkk.cells; try go_wp2_with fail
            refine hK.out _ _ (⟨c0, c1, c2⟩) (fun hHeld => ?_)
            clear hK K
            try simp only [Act.put, List.setIfInBounds_toArray, List.set_cons_zero, List.set_cons_succ]
            refine wpAnyH_ready (rs := [16]) (by kernel_rfl) (by simp) ?_
            refine AllReadyH.cons (o := _) rfl (fun K hK => ?_) AllReadyH.nil
            go_simp
            refine hK.out _ _ (by simp only [cell_set_other HN2.out]; exact ⟨c0, c1, c2⟩) (fun hHeld => ?_)
            clear hK K
            try simp only [Act.put, List.setIfInBounds_toArray, List.set_cons_zero, List.set_cons_succ]
            refine wpAnyH_done (by kernel_rfl) ?_ _
            go_wp2_with fail
            go_meet
            case rel =>
              obtain ⟨⟨_, _, _, k3⟩, hk, hk0, hr⟩ := HCC.out w4 HB4.out
              obtain ⟨p1, p2⟩ := hk.put q4
              have E := HQ4.out
              subst E
              exact ⟨p1, hk0.other p2 (by omega), hr.put hk (by decide) p2, below_put (HB.out.trans (HB4.out.mono (by omega))) (by have := HB4.out.size; omega) p2 (by omega), by simp only [cell_set_other HN2.out]; exact k3⟩
          refine AllReadyH.cons (o := _) rfl (fun K hK => ?_) AllReadyH.nil
          go_simp
          refine (TL.out _ (by repeat (first | exact HB4.out | exact HB3.out | exact HB2.out | exact HB1.out | exact Below.refl _ _ | apply Below.drew))).mono ?_; rintro e w1 ⟨q1, HL1, rfl, hbb⟩; have HB1 : Hid (Below w'.heap.size w' w1) := ext_trans (by repeat (first | exact HB4.out | exact HB3.out | exact HB2.out | exact HB1.out | exact Below.refl _ _ | apply Below.drew)) hbb; clear hbb c0 c1 c2 z0 z1 z2 z3 zf; obtain ⟨⟨c0, c1, c2, _⟩, hkk, _⟩ := HCC.out w1 HB1.out; obtain ⟨z0, z1, z2, z3, zf⟩ := hkk.cells; try go_wp2_with fail
          refine hK.out _ _ (⟨c0, c1, c2⟩) (fun hHeld => ?_)
          clear hK K
          try simp only [Act.put, List.setIfInBounds_toArray, List.set_cons_zero, List.set_cons_succ]
          refine wpAnyH_ready (rs := [0]) (by kernel_rfl) (by simp) ?_
          refine AllReadyH.cons (o := _) rfl (fun K hK => ?_) AllReadyH.nil
          go_simp
          refine hK.out _ _ (⟨c0, c1, c2⟩) (fun hHeld => ?_)
          clear hK K
          try simp only [Act.put, List.setIfInBounds_toArray, List.set_cons_zero, List.set_cons_succ]
          refine wpAnyH_take (i := 1) (oi := _) (v := ?_) rfl (by kernel_rfl) (by kernel_rfl) (by kernel_rfl) (fun _ _ _ h => h) (Or.inl ⟨by rfl, ?_⟩) (by assumption) ?_
          rotate_left 1
          · intro wq hSw; (try dsimp only at hSw); go_simp; try (with_reducible rfl)
          try simp only [Act.put, List.setIfInBounds_toArray]
          refine wpAnyH_ready (rs := [7]) (by kernel_rfl) (by simp) ?_
          refine AllReadyH.cons (o := _) rfl (fun K hK => ?_) AllReadyH.nil
          go_simp
          refine (A1.out _ _ HL1).mono ?_; rintro e w2 ⟨q2, HQ2, rfl, hbb⟩; have HB2 : Hid (Below w'.heap.size w' w2) := ext_trans (by repeat (first | exact HB4.out | exact HB3.out | exact HB2.out | exact HB1.out | exact Below.refl _ _ | apply Below.drew)) hbb; clear hbb c0 c1 c2 z0 z1 z2 z3 zf; obtain ⟨⟨c0, c1, c2, _⟩, hkk, _⟩ := HCC.out w2 HB2.out; obtain ⟨z0, z1, z2, z3, zf⟩ := hkk.cells; try go_wp2_with fail
          refine hK.out _ _ (⟨c0, c1, c2⟩) (fun hHeld => ?_)
          clear hK K
          try simp only [Act.put, List.setIfInBounds_toArray, List.set_cons_zero, List.set_cons_succ]
          refine wpAnyH_take (i := 8) (oi := _) (v := ?_) rfl (by kernel_rfl) (by kernel_rfl) (by kernel_rfl) (fun _ _ _ h => h) (Or.inl ⟨by rfl, ?_⟩) (by assumption) ?_
          rotate_left 1
          · intro wq hSw; (try dsimp only at hSw); go_simp; try (with_reducible rfl)
          try simp only [Act.put, List.setIfInBounds_toArray]
          refine wpAnyH_ready (rs := [14]) (by kernel_rfl) (by simp) ?_
          refine AllReadyH.cons (o := _) rfl (fun K hK => ?_) AllReadyH.nil
          go_simp
          refine (MM.out _).mono ?_; rintro e w3 ⟨q3, HQ3, rfl, hbb⟩; have HB3 : Hid (Below w'.heap.size w' w3) := ext_trans (by repeat (first | exact HB4.out | exact HB3.out | exact HB2.out | exact HB1.out | exact Below.refl _ _ | apply Below.drew)) hbb; clear hbb c0 c1 c2 z0 z1 z2 z3 zf; obtain ⟨⟨c0, c1, c2, _⟩, hkk, _⟩ := HCC.out w3 HB3.out; obtain ⟨z0, z1, z2, z3, zf⟩ := hkk.cells; try go_wp2_with fail
          refine hK.out _ _ (⟨c0, c1, c2⟩) (fun hHeld => ?_)
          clear hK K
          try simp only [Act.put, List.setIfInBounds_toArray, List.set_cons_zero, List.set_cons_succ]
          refine wpAnyH_ready (rs := [15]) (by kernel_rfl) (by simp) ?_
          refine AllReadyH.cons (o := _) rfl (fun K hK => ?_) AllReadyH.nil
          go_simp
          refine (A2.out _ _ _ HQ2 HQ3).mono ?_; rintro e w4 ⟨q4, HQ4, rfl, hbb⟩; have HB4 : Hid (Below w'.heap.size w' w4) := ext_trans (by repeat (first | exact HB4.out | exact HB3.out | exact HB2.out | exact HB1.out | exact Below.refl _ _ | apply Below.drew)) hbb; clear hbb c0 c1 c2 z0 z1 z2 z3 zf; obtain ⟨⟨c0, c1, c2, _⟩, hkk, _⟩ := HCC.out w4 HB4.out; obtain ⟨z0, z1, z2, z3, zf⟩ := hkk.cells; try go_wp2_with fail
          refine hK.out _ _ (⟨c0, c1, c2⟩) (fun hHeld => ?_)
          clear hK K
          try simp only [Act.put, List.setIfInBounds_toArray, List.set_cons_zero, List.set_cons_succ]
          refine wpAnyH_ready (rs := [16]) (by kernel_rfl) (by simp) ?_
          refine AllReadyH.cons (o := _) rfl (fun K hK => ?_) AllReadyH.nil
          go_simp
          refine hK.out _ _ (by simp only [cell_set_other HN2.out]; exact ⟨c0, c1, c2⟩) (fun hHeld => ?_)
          clear hK K
          try simp only [Act.put, List.setIfInBounds_toArray, List.set_cons_zero, List.set_cons_succ]
          refine wpAnyH_done (by kernel_rfl) ?_ _
          go_wp2_with fail
          go_meet
          case rel =>
            obtain ⟨⟨_, _, _, k3⟩, hk, hk0, hr⟩ := HCC.out w4 HB4.out
            obtain ⟨p1, p2⟩ := hk.put q4
            have E := HQ4.out
            subst E
            exact ⟨p1, hk0.other p2 (by omega), hr.put hk (by decide) p2, below_put (HB.out.trans (HB4.out.mono (by omega))) (by have := HB4.out.size; omega) p2 (by omega), by simp only [cell_set_other HN2.out]; exact k3⟩
        have HQ := hcut
        obtain ⟨f1, f2, f3, f4, f5⟩ := HQ.out
        have F1 := hidIt f1
        have F2 := hidIt f2
        have F3 := hidIt f3
        have F4 := hidIt f4
        clear f1 f2 f3 f4 hcut HQ c0 c1 c2 c3 z0 z1 z2 z3 zf
        go_wp2_with fail
        go_roundg r.list.length
        case measure => exact HGK.out.2
        case rel => exact ⟨r, ru, d ++ l.list ++ [x], _, Nat.le_refl _, rfl, rfl, F3.out, HG.out, by rw [ES2.out]; exact F1.out, F2.out, F4.out⟩
end Go.Proofs.Ytcdamhgblolofaa.W
