import Derived.Test.YtfdceljdhgbkcaaGreatDoorJ06
import Derived.Test.YtfdceljdhgbkcaaGreatDoorJ07
/- blocks: the rows of a pair of brackets. -/
namespace Go.Proofs.YtfdceljdhgbkcaaGreatDoor
open Go.RowKit
theorem AccB.push2 {w w' : World} {l : List (Nat × Array Value)} {cs cs' : Array Value} (h : AccB w l) (hb : Below ((w.alloc (.cells cs 3)).alloc (.cells cs' 3)).heap.size ((w.alloc (.cells cs 3)).alloc (.cells cs' 3)) w') : AccB w' ((w.heap.size + 1, cs') :: (w.heap.size, cs) :: l) := by
  have h1 : AccB (w.alloc (.cells cs 3)) ((w.heap.size, cs) :: l) := h.push (Below.refl _ _)
  have h2 := h1.push hb
  rwa [World.size_alloc] at h2
theorem ki_of {w : World} {l : List (Nat × Array Value)} (h : AccB w l) {g : Nat} {cs : Array Value} (hm : (g, cs) ∈ l) {ks : List Int} (hk : cs = (ks.map (Value.int .i64)).toArray) (hl : ks.length ≤ 100) : KI w (.slice (some ⟨g, 0, none⟩) ks.length ks.length) ks := by
  have hg := h _ hm
  subst hk
  refine ⟨⟨⟨_, ks.length, rfl, Nat.le_refl _, by unfold maxLen; omega, fun _ => ⟨g, 0, rfl, (Array.getElem?_eq_some_iff.1 hg).1, fun i hi => ?_⟩⟩, .inr ⟨_, _, _, rfl⟩⟩, fun a n c e => ?_⟩
  · rw [cell_of_row _ _ _ _ _ _ hg, Nat.zero_add]
    simp [hi]
  · cases e
    exact ⟨_, _, hg⟩
theorem acc2 {w : World} {l : List (Nat × Array Value)} (h : AccB w l) {g1 g2 : Nat} {c1 c2 : Array Value} {b1 b2 : Bd} {k1 k2 m1 m2 : Int} (h1 : (g1, c1) ∈ l) (h2 : (g2, c2) ∈ l) (e1 : c1 = #[.int .i64 k1, .int .i64 m1]) (e2 : c2 = #[.int .i64 k2, .int .i64 m2]) : Acc w [(⟨b1, [k1, m1]⟩, .slice (some ⟨g1, 0, none⟩) 2 2), (⟨b2, [k2, m2]⟩, .slice (some ⟨g2, 0, none⟩) 2 2)] := by
  intro x hx
  simp only [List.mem_cons, List.not_mem_nil, or_false] at hx
  rcases hx with rfl | rfl
  · exact ki_of h h1 (ks := [k1, m1]) e1 (by simp)
  · exact ki_of h h2 (ks := [k2, m2]) e2 (by simp)
/-- The rows of some keys, k0 their argument. -/
def blkR (k0 : Int) (ks : List Int) : List Rw := ks.flatMap fun k => [⟨⟨1, 67, k0, 0⟩, [105, k]⟩, ⟨⟨1, 68, k0, 0⟩, [97, k]⟩]
theorem blkR_succ (k0 : Int) (ks : List Int) (i : Nat) (h : i < ks.length) : blkR k0 (ks.take (i + 1)) = blkR k0 (ks.take i) ++ [⟨⟨1, 67, k0, 0⟩, [105, ks[i]]⟩, ⟨⟨1, 68, k0, 0⟩, [97, ks[i]]⟩] := by
  unfold blkR
  rw [List.take_succ_eq_append_getElem h, List.flatMap_append]
  rfl
set_option maxRecDepth 100000 in
set_option maxHeartbeats 4000000 in
theorem blocks_any (l : Value) (k0 : Int) (ks : List Int) (w : World) (h : Rd .i64 w l (k0 :: ks)) (hl : ks.length ≤ 100) :
    Calls Tryz.prog 88 #[l] w fun e w' => ∃ v xs, e = .returned v ∧ OwnW w' w.heap.size v xs ∧ Hid (xs.map Prod.fst = blkR k0 (k0 :: ks)) ∧ Below w.heap.size w w' := by
  obtain ⟨ao, cap, rfl, hl1, hc1, hcl⟩ := h
  obtain ⟨kb, off, rfl, hkb, hcl⟩ := hcl (by simp)
  have HCL := hidIt hcl
  have hkl : (k0 :: ks).length ≤ 101 := by simp; omega
  generalize hzs : k0 :: ks = zs at *
  have hz0 : zs[0]?.getD 0 = k0 := by rw [← hzs]; rfl
  have hzl : 0 < zs.length := by rw [← hzs]; simp
  have HZ0 := hidIt hz0
  clear hzs hcl hl hz0
  go_enter Tryz.func88, Tryz.ntmps88
  go_wp2
  go_loopw [3, 8] (fun v i wr => ∃ (p : Nat) (ao : Option Addr) (n c : Nat) (xs : List (Rw × Value)), p ≤ zs.length ∧ i = .int .i64 p ∧ v = .slice ao n c ∧ Hid (OwnW wr w.heap.size (.slice ao n c) xs) ∧ Hid (xs.map Prod.fst = blkR k0 (zs.take p)) ∧ Below w.heap.size w wr) (fun _ i _ => zs.length - (RowKit.intOf i).toNat)
  case atStart => exact ⟨0, none, 0, 0, [], Nat.zero_le _, rfl, rfl, OwnW.nil _ _, rfl, Below.refl _ _⟩
  case round =>
    obtain ⟨p, ao, n, c, xs, hp, rfl, rfl, HO, HM, hbw⟩ := hrel
    by_cases hlt : p < zs.length
    · have c1 : wr.cell? ⟨kb, off + p, none⟩ = some (.int .i64 zs[p]) := by rw [(hbw.cell (p := ⟨kb, off + p, none⟩) hkb).trans (HCL.out _ hlt)]; simp [hlt]
      have c0 : wr.cell? ⟨kb, off, none⟩ = some (.int .i64 k0) := by have := (hbw.cell (p := ⟨kb, off + 0, none⟩) hkb).trans (HCL.out 0 hzl); rw [HZ0.out] at this; exact this
      have hi1 : (p : Int) < (zs.length : Int) := by omega
      have hi0 : (0 : Int) < (zs.length : Int) := by omega
      have HM2 := hidIt (blkR_succ k0 zs p hlt)
      have HKB : Hid (∀ y, Below wr.heap.size wr y → y.cell? ⟨kb, off, none⟩ = some (.int .i64 k0)) := fun y hy => (hy.cell (p := ⟨kb, off, none⟩) (Nat.lt_of_lt_of_le hkb hbw.size)).trans c0
      have HBW := hidIt hbw
      have HXL := hidIt (show xs.length ≤ 202 by
        have := congrArg List.length HM.out
        have h2 : (blkR k0 (zs.take p)).length = 2 * (zs.take p).length := by
          unfold blkR
          generalize zs.take p = q
          induction q with
          | nil => rfl
          | cons a b ih => simp only [List.flatMap_cons, List.length_append, ih, List.length_cons, List.length_nil]; omega
        rw [List.length_map, h2, List.length_take] at this
        omega)
      generalize zs[p] = x at *
      have HKL := hidIt hkb
      have HB : Hid (Below wr.heap.size wr wr.drew) := (Below.refl _ _).drew
      have HA : Hid (AccB wr.drew []) := AccB.nil _
      go_upto_region 5 with fail
      refine wp_region_held_drew (S := fun w' => w'.cell? ⟨kb, off, none⟩ = some (.int .i64 k0)) (by kernel_rfl) (HKB.out _ HB.out) (fun hHeld => ?_)
      refine wpAnyH_take (i := 0) (oi := _) (v := ?_) rfl (by kernel_rfl) (by kernel_rfl) (by kernel_rfl) (fun _ _ _ h => h) (Or.inl ⟨by rfl, ?_⟩) (by assumption) ?_
      rotate_left 1
      · intro wq hSw; (try dsimp only at hSw); go_simp; try (with_reducible rfl)
      try simp only [Act.put, List.getElem_toArray, List.getElem_cons_zero, List.setIfInBounds_toArray, List.set_cons_zero, List.set_cons_succ]
      refine wpAnyH_take (i := 1) (oi := _) (v := ?_) rfl (by kernel_rfl) (by kernel_rfl) (by kernel_rfl) (fun _ _ _ h => h) (Or.inl ⟨by rfl, ?_⟩) (by assumption) ?_
      rotate_left 1
      · intro wq hSw; (try dsimp only at hSw); go_simp; try (with_reducible rfl)
      try simp only [Act.put, List.getElem_toArray, List.getElem_cons_succ, List.getElem_cons_zero, List.setIfInBounds_toArray, List.set_cons_zero, List.set_cons_succ]
      refine wpAnyH_take (i := 4) (oi := _) (v := ?_) rfl (by kernel_rfl) (by kernel_rfl) (by kernel_rfl) (fun _ _ _ h => h) (Or.inl ⟨by rfl, ?_⟩) (by assumption) ?_
      rotate_left 1
      · intro wq hSw; (try dsimp only at hSw); go_simp; try (with_reducible rfl)
      try simp only [Act.put, List.getElem_toArray, List.getElem_cons_succ, List.getElem_cons_zero, List.setIfInBounds_toArray, List.set_cons_zero, List.set_cons_succ]
      refine wpAnyH_take (i := 5) (oi := _) (v := ?_) rfl (by kernel_rfl) (by kernel_rfl) (by kernel_rfl) (fun _ _ _ h => h) (Or.inl ⟨by rfl, ?_⟩) (by assumption) ?_
      rotate_left 1
      · intro wq hSw; (try dsimp only at hSw); go_simp; try (with_reducible rfl)
      try simp only [Act.put, List.getElem_toArray, List.getElem_cons_succ, List.getElem_cons_zero, List.setIfInBounds_toArray, List.set_cons_zero, List.set_cons_succ]
      refine wpAnyH_take (i := 6) (oi := _) (v := ?_) rfl (by kernel_rfl) (by kernel_rfl) (by kernel_rfl) (fun _ _ _ h => h) (Or.inl ⟨by rfl, ?_⟩) (by assumption) ?_
      rotate_left 1
      · intro wq hSw; (try dsimp only at hSw); go_simp; try (with_reducible rfl)
      try simp only [Act.put, List.getElem_toArray, List.getElem_cons_succ, List.getElem_cons_zero, List.setIfInBounds_toArray, List.set_cons_zero, List.set_cons_succ]
      refine wpAnyH_take (i := 8) (oi := _) (v := ?_) rfl (by kernel_rfl) (by kernel_rfl) (by kernel_rfl) (fun _ _ _ h => h) (Or.inl ⟨by rfl, ?_⟩) (by assumption) ?_
      rotate_left 1
      · intro wq hSw; (try dsimp only at hSw); go_simp; try (with_reducible rfl)
      try simp only [Act.put, List.getElem_toArray, List.getElem_cons_succ, List.getElem_cons_zero, List.setIfInBounds_toArray, List.set_cons_zero, List.set_cons_succ]
      refine wpAnyH_take (i := 11) (oi := _) (v := ?_) rfl (by kernel_rfl) (by kernel_rfl) (by kernel_rfl) (fun _ _ _ h => h) (Or.inl ⟨by rfl, ?_⟩) (by assumption) ?_
      rotate_left 1
      · intro wq hSw; (try dsimp only at hSw); go_simp; try (with_reducible rfl)
      try simp only [Act.put, List.getElem_toArray, List.getElem_cons_succ, List.getElem_cons_zero, List.setIfInBounds_toArray, List.set_cons_zero, List.set_cons_succ]
      refine wpAnyH_take (i := 12) (oi := _) (v := ?_) rfl (by kernel_rfl) (by kernel_rfl) (by kernel_rfl) (fun _ _ _ h => h) (Or.inl ⟨by rfl, ?_⟩) (by assumption) ?_
      rotate_left 1
      · intro wq hSw; (try dsimp only at hSw); go_simp; try (with_reducible rfl)
      try simp only [Act.put, List.getElem_toArray, List.getElem_cons_succ, List.getElem_cons_zero, List.setIfInBounds_toArray, List.set_cons_zero, List.set_cons_succ]
      refine wpAnyH_take (i := 13) (oi := _) (v := ?_) rfl (by kernel_rfl) (by kernel_rfl) (by kernel_rfl) (fun _ _ _ h => h) (Or.inl ⟨by rfl, ?_⟩) (by assumption) ?_
      rotate_left 1
      · intro wq hSw; (try dsimp only at hSw); go_simp; try (with_reducible rfl)
      try simp only [Act.put, List.getElem_toArray, List.getElem_cons_succ, List.getElem_cons_zero, List.setIfInBounds_toArray, List.set_cons_zero, List.set_cons_succ]
      refine wpAnyH_ready (rs := [2, 9]) (by kernel_rfl) (by simp) ?_
      refine (AllReadyH.cons (o := _) rfl (fun K hK => ?_) (AllReadyH.cons (o := _) rfl (fun K hK => ?_) AllReadyH.nil))
      · skip
        go_simp
        refine hK.out _ _ ?_ (fun hHeld => ?_)
        · first | assumption | exact HKB.out _ HB.out | exact HKB.out _ (ext_alloc HB.out _) | exact HKB.out _ (ext_alloc (ext_alloc HB.out _) _)
        clear hK K
        try simp only [Act.put, List.getElem_toArray, List.getElem_cons_succ, List.getElem_cons_zero, List.setIfInBounds_toArray, List.set_cons_zero, List.set_cons_succ]
        refine wpAnyH_ready (rs := [3, 9]) (by kernel_rfl) (by simp) ?_
        refine (AllReadyH.cons (o := _) rfl (fun K hK => ?_) (AllReadyH.cons (o := _) rfl (fun K hK => ?_) AllReadyH.nil))
        · skip
          go_simp
          go_at_call 83; refine (moves_any _ _ _ _ _).mono ?_; rintro e y ⟨rfl, hb⟩; (try dsimp only); first | (replace HA := hidIt (HA.out.push2 hb); replace HB := hidIt (ext_trans (ext_alloc (ext_alloc HB.out _) _) hb)) | (replace HA := hidIt (HA.out.push hb); replace HB := hidIt (ext_trans (ext_alloc HB.out _) hb)) | (replace HA := hidIt (HA.out.ext hb); replace HB := hidIt (ext_trans HB.out hb)); clear hb
          refine hK.out _ _ ?_ (fun hHeld => ?_)
          · first | assumption | exact HKB.out _ HB.out | exact HKB.out _ (ext_alloc HB.out _) | exact HKB.out _ (ext_alloc (ext_alloc HB.out _) _)
          clear hK K
          try simp only [Act.put, List.getElem_toArray, List.getElem_cons_succ, List.getElem_cons_zero, List.setIfInBounds_toArray, List.set_cons_zero, List.set_cons_succ]
          refine wpAnyH_ready (rs := [7, 9]) (by kernel_rfl) (by simp) ?_
          refine (AllReadyH.cons (o := _) rfl (fun K hK => ?_) (AllReadyH.cons (o := _) rfl (fun K hK => ?_) AllReadyH.nil))
          · skip
            go_simp
            go_at_call 87; refine (with_any _ _ _ _ _ _ _ _ _).mono ?_; rintro e y ⟨rfl, hb⟩; (try dsimp only); first | (replace HA := hidIt (HA.out.push2 hb); replace HB := hidIt (ext_trans (ext_alloc (ext_alloc HB.out _) _) hb)) | (replace HA := hidIt (HA.out.push hb); replace HB := hidIt (ext_trans (ext_alloc HB.out _) hb)) | (replace HA := hidIt (HA.out.ext hb); replace HB := hidIt (ext_trans HB.out hb)); clear hb
            refine hK.out _ _ ?_ (fun hHeld => ?_)
            · first | assumption | exact HKB.out _ HB.out | exact HKB.out _ (ext_alloc HB.out _) | exact HKB.out _ (ext_alloc (ext_alloc HB.out _) _)
            clear hK K
            try simp only [Act.put, List.getElem_toArray, List.getElem_cons_succ, List.getElem_cons_zero, List.setIfInBounds_toArray, List.set_cons_zero, List.set_cons_succ]
            refine wpAnyH_ready (rs := [9]) (by kernel_rfl) (by simp) ?_
            refine AllReadyH.cons (o := _) rfl (fun K hK => ?_) AllReadyH.nil
            go_simp
            refine hK.out _ _ ?_ (fun hHeld => ?_)
            · first | assumption | exact HKB.out _ HB.out | exact HKB.out _ (ext_alloc HB.out _) | exact HKB.out _ (ext_alloc (ext_alloc HB.out _) _)
            clear hK K
            try simp only [Act.put, List.getElem_toArray, List.getElem_cons_succ, List.getElem_cons_zero, List.setIfInBounds_toArray, List.set_cons_zero, List.set_cons_succ]
            refine wpAnyH_ready (rs := [10]) (by kernel_rfl) (by simp) ?_
            refine AllReadyH.cons (o := _) rfl (fun K hK => ?_) AllReadyH.nil
            go_simp
            go_at_call 83; refine (moves_any _ _ _ _ _).mono ?_; rintro e y ⟨rfl, hb⟩; (try dsimp only); first | (replace HA := hidIt (HA.out.push2 hb); replace HB := hidIt (ext_trans (ext_alloc (ext_alloc HB.out _) _) hb)) | (replace HA := hidIt (HA.out.push hb); replace HB := hidIt (ext_trans (ext_alloc HB.out _) hb)) | (replace HA := hidIt (HA.out.ext hb); replace HB := hidIt (ext_trans HB.out hb)); clear hb
            refine hK.out _ _ ?_ (fun hHeld => ?_)
            · first | assumption | exact HKB.out _ HB.out | exact HKB.out _ (ext_alloc HB.out _) | exact HKB.out _ (ext_alloc (ext_alloc HB.out _) _)
            clear hK K
            try simp only [Act.put, List.getElem_toArray, List.getElem_cons_succ, List.getElem_cons_zero, List.setIfInBounds_toArray, List.set_cons_zero, List.set_cons_succ]
            refine wpAnyH_ready (rs := [14]) (by kernel_rfl) (by simp) ?_
            refine AllReadyH.cons (o := _) rfl (fun K hK => ?_) AllReadyH.nil
            go_simp
            go_at_call 87; refine (with_any _ _ _ _ _ _ _ _ _).mono ?_; rintro e y ⟨rfl, hb⟩; (try dsimp only); first | (replace HA := hidIt (HA.out.push2 hb); replace HB := hidIt (ext_trans (ext_alloc (ext_alloc HB.out _) _) hb)) | (replace HA := hidIt (HA.out.push hb); replace HB := hidIt (ext_trans (ext_alloc HB.out _) hb)) | (replace HA := hidIt (HA.out.ext hb); replace HB := hidIt (ext_trans HB.out hb)); clear hb
            refine hK.out _ _ ?_ (fun hHeld => ?_)
            · first | assumption | exact HKB.out _ HB.out | exact HKB.out _ (ext_alloc HB.out _) | exact HKB.out _ (ext_alloc (ext_alloc HB.out _) _)
            clear hK K
            try simp only [Act.put, List.getElem_toArray, List.getElem_cons_succ, List.getElem_cons_zero, List.setIfInBounds_toArray, List.set_cons_zero, List.set_cons_succ]
            refine wpAnyH_ready (rs := [15]) (by kernel_rfl) (by simp) ?_
            refine AllReadyH.cons (o := _) rfl (fun K hK => ?_) AllReadyH.nil
            go_simp
            refine hK.out _ _ ?_ (fun hHeld => ?_)
            · first | assumption | exact HKB.out _ HB.out | exact HKB.out _ (ext_alloc HB.out _) | exact HKB.out _ (ext_alloc (ext_alloc HB.out _) _)
            clear hK K
            try simp only [Act.put, List.getElem_toArray, List.getElem_cons_succ, List.getElem_cons_zero, List.setIfInBounds_toArray, List.set_cons_zero, List.set_cons_succ]
            refine wpAnyH_ready (rs := [16]) (by kernel_rfl) (by simp) ?_
            refine AllReadyH.cons (o := _) rfl (fun K hK => ?_) AllReadyH.nil
            rw [if_pos (by rfl)]
            refine wp_append_rows _ _ rfl w.heap.size (.slice ao n c) xs rfl ((HO.out.ext HB.out).ext (ext_alloc (Below.refl _ _) _)) _ [(⟨⟨1, 67, k0, 0⟩, [105, x]⟩, _), (⟨⟨1, 68, k0, 0⟩, [97, x]⟩, _)] rfl (OwnW.lit _ rfl (acc2 HA.out (by simp) (by simp) rfl rfl) (by simp)).rd (by have := HXL.out; simp only [List.length_cons, List.length_nil]; omega) (by have := HB.out.size; have := HBW.out.size; rw [World.size_alloc]; omega) ?_; intro v' w' ho' hb'; obtain ⟨a', n', c', e'⟩ := ho'.form; subst e'; have HO' := hidIt ho'; have HB' := hidIt hb'; clear ho' hb'
            refine hK.out _ _ ?_ (fun hHeld => ?_)
            · exact (HB'.out.cell (p := ⟨kb, off, none⟩) HKL.out).trans (HKB.out _ (ext_alloc HB.out _))
            clear hK K
            try simp only [Act.put, List.getElem_toArray, List.getElem_cons_succ, List.getElem_cons_zero, List.setIfInBounds_toArray, List.set_cons_zero, List.set_cons_succ]
            refine wpAnyH_ready (rs := [17]) (by kernel_rfl) (by simp) ?_
            refine AllReadyH.cons (o := _) rfl (fun K hK => ?_) AllReadyH.nil
            go_simp
            refine hK.out _ _ ?_ (fun hHeld => ?_)
            · exact (HB'.out.cell (p := ⟨kb, off, none⟩) HKL.out).trans (HKB.out _ (ext_alloc HB.out _))
            clear hK K
            try simp only [Act.put, List.getElem_toArray, List.getElem_cons_succ, List.getElem_cons_zero, List.setIfInBounds_toArray, List.set_cons_zero, List.set_cons_succ]
            refine wpAnyH_done (by kernel_rfl) ?_ _
            go_wp2
            go_roundw
            case rel => exact ⟨p + 1, _, _, _, _, by omega, by go_num, rfl, HO'.out, by unfold Hid; rw [List.map_append, HM.out, HM2.out]; rfl, HBW.out.trans ((HB.out.mono HBW.out.size).trans (((Below.refl _ _).alloc (by have := HB.out.size; have := HBW.out.size; omega) _).trans HB'.out))⟩
            case measure => simp [RowKit.intOf]; omega
          · skip
            go_simp
            refine hK.out _ _ ?_ (fun hHeld => ?_)
            · first | assumption | exact HKB.out _ HB.out | exact HKB.out _ (ext_alloc HB.out _) | exact HKB.out _ (ext_alloc (ext_alloc HB.out _) _)
            clear hK K
            try simp only [Act.put, List.getElem_toArray, List.getElem_cons_succ, List.getElem_cons_zero, List.setIfInBounds_toArray, List.set_cons_zero, List.set_cons_succ]
            refine wpAnyH_ready (rs := [7]) (by kernel_rfl) (by simp) ?_
            refine AllReadyH.cons (o := _) rfl (fun K hK => ?_) AllReadyH.nil
            go_simp
            go_at_call 87; refine (with_any _ _ _ _ _ _ _ _ _).mono ?_; rintro e y ⟨rfl, hb⟩; (try dsimp only); first | (replace HA := hidIt (HA.out.push2 hb); replace HB := hidIt (ext_trans (ext_alloc (ext_alloc HB.out _) _) hb)) | (replace HA := hidIt (HA.out.push hb); replace HB := hidIt (ext_trans (ext_alloc HB.out _) hb)) | (replace HA := hidIt (HA.out.ext hb); replace HB := hidIt (ext_trans HB.out hb)); clear hb
            refine hK.out _ _ ?_ (fun hHeld => ?_)
            · first | assumption | exact HKB.out _ HB.out | exact HKB.out _ (ext_alloc HB.out _) | exact HKB.out _ (ext_alloc (ext_alloc HB.out _) _)
            clear hK K
            try simp only [Act.put, List.getElem_toArray, List.getElem_cons_succ, List.getElem_cons_zero, List.setIfInBounds_toArray, List.set_cons_zero, List.set_cons_succ]
            refine wpAnyH_ready (rs := [10]) (by kernel_rfl) (by simp) ?_
            refine AllReadyH.cons (o := _) rfl (fun K hK => ?_) AllReadyH.nil
            go_simp
            go_at_call 83; refine (moves_any _ _ _ _ _).mono ?_; rintro e y ⟨rfl, hb⟩; (try dsimp only); first | (replace HA := hidIt (HA.out.push2 hb); replace HB := hidIt (ext_trans (ext_alloc (ext_alloc HB.out _) _) hb)) | (replace HA := hidIt (HA.out.push hb); replace HB := hidIt (ext_trans (ext_alloc HB.out _) hb)) | (replace HA := hidIt (HA.out.ext hb); replace HB := hidIt (ext_trans HB.out hb)); clear hb
            refine hK.out _ _ ?_ (fun hHeld => ?_)
            · first | assumption | exact HKB.out _ HB.out | exact HKB.out _ (ext_alloc HB.out _) | exact HKB.out _ (ext_alloc (ext_alloc HB.out _) _)
            clear hK K
            try simp only [Act.put, List.getElem_toArray, List.getElem_cons_succ, List.getElem_cons_zero, List.setIfInBounds_toArray, List.set_cons_zero, List.set_cons_succ]
            refine wpAnyH_ready (rs := [14]) (by kernel_rfl) (by simp) ?_
            refine AllReadyH.cons (o := _) rfl (fun K hK => ?_) AllReadyH.nil
            go_simp
            go_at_call 87; refine (with_any _ _ _ _ _ _ _ _ _).mono ?_; rintro e y ⟨rfl, hb⟩; (try dsimp only); first | (replace HA := hidIt (HA.out.push2 hb); replace HB := hidIt (ext_trans (ext_alloc (ext_alloc HB.out _) _) hb)) | (replace HA := hidIt (HA.out.push hb); replace HB := hidIt (ext_trans (ext_alloc HB.out _) hb)) | (replace HA := hidIt (HA.out.ext hb); replace HB := hidIt (ext_trans HB.out hb)); clear hb
            refine hK.out _ _ ?_ (fun hHeld => ?_)
            · first | assumption | exact HKB.out _ HB.out | exact HKB.out _ (ext_alloc HB.out _) | exact HKB.out _ (ext_alloc (ext_alloc HB.out _) _)
            clear hK K
            try simp only [Act.put, List.getElem_toArray, List.getElem_cons_succ, List.getElem_cons_zero, List.setIfInBounds_toArray, List.set_cons_zero, List.set_cons_succ]
            refine wpAnyH_ready (rs := [15]) (by kernel_rfl) (by simp) ?_
            refine AllReadyH.cons (o := _) rfl (fun K hK => ?_) AllReadyH.nil
            go_simp
            refine hK.out _ _ ?_ (fun hHeld => ?_)
            · first | assumption | exact HKB.out _ HB.out | exact HKB.out _ (ext_alloc HB.out _) | exact HKB.out _ (ext_alloc (ext_alloc HB.out _) _)
            clear hK K
            try simp only [Act.put, List.getElem_toArray, List.getElem_cons_succ, List.getElem_cons_zero, List.setIfInBounds_toArray, List.set_cons_zero, List.set_cons_succ]
            refine wpAnyH_ready (rs := [16]) (by kernel_rfl) (by simp) ?_
            refine AllReadyH.cons (o := _) rfl (fun K hK => ?_) AllReadyH.nil
            rw [if_pos (by rfl)]
            refine wp_append_rows _ _ rfl w.heap.size (.slice ao n c) xs rfl ((HO.out.ext HB.out).ext (ext_alloc (Below.refl _ _) _)) _ [(⟨⟨1, 67, k0, 0⟩, [105, x]⟩, _), (⟨⟨1, 68, k0, 0⟩, [97, x]⟩, _)] rfl (OwnW.lit _ rfl (acc2 HA.out (by simp) (by simp) rfl rfl) (by simp)).rd (by have := HXL.out; simp only [List.length_cons, List.length_nil]; omega) (by have := HB.out.size; have := HBW.out.size; rw [World.size_alloc]; omega) ?_; intro v' w' ho' hb'; obtain ⟨a', n', c', e'⟩ := ho'.form; subst e'; have HO' := hidIt ho'; have HB' := hidIt hb'; clear ho' hb'
            refine hK.out _ _ ?_ (fun hHeld => ?_)
            · exact (HB'.out.cell (p := ⟨kb, off, none⟩) HKL.out).trans (HKB.out _ (ext_alloc HB.out _))
            clear hK K
            try simp only [Act.put, List.getElem_toArray, List.getElem_cons_succ, List.getElem_cons_zero, List.setIfInBounds_toArray, List.set_cons_zero, List.set_cons_succ]
            refine wpAnyH_ready (rs := [17]) (by kernel_rfl) (by simp) ?_
            refine AllReadyH.cons (o := _) rfl (fun K hK => ?_) AllReadyH.nil
            go_simp
            refine hK.out _ _ ?_ (fun hHeld => ?_)
            · exact (HB'.out.cell (p := ⟨kb, off, none⟩) HKL.out).trans (HKB.out _ (ext_alloc HB.out _))
            clear hK K
            try simp only [Act.put, List.getElem_toArray, List.getElem_cons_succ, List.getElem_cons_zero, List.setIfInBounds_toArray, List.set_cons_zero, List.set_cons_succ]
            refine wpAnyH_done (by kernel_rfl) ?_ _
            go_wp2
            go_roundw
            case rel => exact ⟨p + 1, _, _, _, _, by omega, by go_num, rfl, HO'.out, by unfold Hid; rw [List.map_append, HM.out, HM2.out]; rfl, HBW.out.trans ((HB.out.mono HBW.out.size).trans (((Below.refl _ _).alloc (by have := HB.out.size; have := HBW.out.size; omega) _).trans HB'.out))⟩
            case measure => simp [RowKit.intOf]; omega
        · skip
          go_simp
          refine hK.out _ _ ?_ (fun hHeld => ?_)
          · first | assumption | exact HKB.out _ HB.out | exact HKB.out _ (ext_alloc HB.out _) | exact HKB.out _ (ext_alloc (ext_alloc HB.out _) _)
          clear hK K
          try simp only [Act.put, List.getElem_toArray, List.getElem_cons_succ, List.getElem_cons_zero, List.setIfInBounds_toArray, List.set_cons_zero, List.set_cons_succ]
          refine wpAnyH_ready (rs := [3]) (by kernel_rfl) (by simp) ?_
          refine AllReadyH.cons (o := _) rfl (fun K hK => ?_) AllReadyH.nil
          go_simp
          go_at_call 83; refine (moves_any _ _ _ _ _).mono ?_; rintro e y ⟨rfl, hb⟩; (try dsimp only); first | (replace HA := hidIt (HA.out.push2 hb); replace HB := hidIt (ext_trans (ext_alloc (ext_alloc HB.out _) _) hb)) | (replace HA := hidIt (HA.out.push hb); replace HB := hidIt (ext_trans (ext_alloc HB.out _) hb)) | (replace HA := hidIt (HA.out.ext hb); replace HB := hidIt (ext_trans HB.out hb)); clear hb
          refine hK.out _ _ ?_ (fun hHeld => ?_)
          · first | assumption | exact HKB.out _ HB.out | exact HKB.out _ (ext_alloc HB.out _) | exact HKB.out _ (ext_alloc (ext_alloc HB.out _) _)
          clear hK K
          try simp only [Act.put, List.getElem_toArray, List.getElem_cons_succ, List.getElem_cons_zero, List.setIfInBounds_toArray, List.set_cons_zero, List.set_cons_succ]
          refine wpAnyH_ready (rs := [7]) (by kernel_rfl) (by simp) ?_
          refine AllReadyH.cons (o := _) rfl (fun K hK => ?_) AllReadyH.nil
          go_simp
          go_at_call 87; refine (with_any _ _ _ _ _ _ _ _ _).mono ?_; rintro e y ⟨rfl, hb⟩; (try dsimp only); first | (replace HA := hidIt (HA.out.push2 hb); replace HB := hidIt (ext_trans (ext_alloc (ext_alloc HB.out _) _) hb)) | (replace HA := hidIt (HA.out.push hb); replace HB := hidIt (ext_trans (ext_alloc HB.out _) hb)) | (replace HA := hidIt (HA.out.ext hb); replace HB := hidIt (ext_trans HB.out hb)); clear hb
          refine hK.out _ _ ?_ (fun hHeld => ?_)
          · first | assumption | exact HKB.out _ HB.out | exact HKB.out _ (ext_alloc HB.out _) | exact HKB.out _ (ext_alloc (ext_alloc HB.out _) _)
          clear hK K
          try simp only [Act.put, List.getElem_toArray, List.getElem_cons_succ, List.getElem_cons_zero, List.setIfInBounds_toArray, List.set_cons_zero, List.set_cons_succ]
          refine wpAnyH_ready (rs := [10]) (by kernel_rfl) (by simp) ?_
          refine AllReadyH.cons (o := _) rfl (fun K hK => ?_) AllReadyH.nil
          go_simp
          go_at_call 83; refine (moves_any _ _ _ _ _).mono ?_; rintro e y ⟨rfl, hb⟩; (try dsimp only); first | (replace HA := hidIt (HA.out.push2 hb); replace HB := hidIt (ext_trans (ext_alloc (ext_alloc HB.out _) _) hb)) | (replace HA := hidIt (HA.out.push hb); replace HB := hidIt (ext_trans (ext_alloc HB.out _) hb)) | (replace HA := hidIt (HA.out.ext hb); replace HB := hidIt (ext_trans HB.out hb)); clear hb
          refine hK.out _ _ ?_ (fun hHeld => ?_)
          · first | assumption | exact HKB.out _ HB.out | exact HKB.out _ (ext_alloc HB.out _) | exact HKB.out _ (ext_alloc (ext_alloc HB.out _) _)
          clear hK K
          try simp only [Act.put, List.getElem_toArray, List.getElem_cons_succ, List.getElem_cons_zero, List.setIfInBounds_toArray, List.set_cons_zero, List.set_cons_succ]
          refine wpAnyH_ready (rs := [14]) (by kernel_rfl) (by simp) ?_
          refine AllReadyH.cons (o := _) rfl (fun K hK => ?_) AllReadyH.nil
          go_simp
          go_at_call 87; refine (with_any _ _ _ _ _ _ _ _ _).mono ?_; rintro e y ⟨rfl, hb⟩; (try dsimp only); first | (replace HA := hidIt (HA.out.push2 hb); replace HB := hidIt (ext_trans (ext_alloc (ext_alloc HB.out _) _) hb)) | (replace HA := hidIt (HA.out.push hb); replace HB := hidIt (ext_trans (ext_alloc HB.out _) hb)) | (replace HA := hidIt (HA.out.ext hb); replace HB := hidIt (ext_trans HB.out hb)); clear hb
          refine hK.out _ _ ?_ (fun hHeld => ?_)
          · first | assumption | exact HKB.out _ HB.out | exact HKB.out _ (ext_alloc HB.out _) | exact HKB.out _ (ext_alloc (ext_alloc HB.out _) _)
          clear hK K
          try simp only [Act.put, List.getElem_toArray, List.getElem_cons_succ, List.getElem_cons_zero, List.setIfInBounds_toArray, List.set_cons_zero, List.set_cons_succ]
          refine wpAnyH_ready (rs := [15]) (by kernel_rfl) (by simp) ?_
          refine AllReadyH.cons (o := _) rfl (fun K hK => ?_) AllReadyH.nil
          go_simp
          refine hK.out _ _ ?_ (fun hHeld => ?_)
          · first | assumption | exact HKB.out _ HB.out | exact HKB.out _ (ext_alloc HB.out _) | exact HKB.out _ (ext_alloc (ext_alloc HB.out _) _)
          clear hK K
          try simp only [Act.put, List.getElem_toArray, List.getElem_cons_succ, List.getElem_cons_zero, List.setIfInBounds_toArray, List.set_cons_zero, List.set_cons_succ]
          refine wpAnyH_ready (rs := [16]) (by kernel_rfl) (by simp) ?_
          refine AllReadyH.cons (o := _) rfl (fun K hK => ?_) AllReadyH.nil
          rw [if_pos (by rfl)]
          refine wp_append_rows _ _ rfl w.heap.size (.slice ao n c) xs rfl ((HO.out.ext HB.out).ext (ext_alloc (Below.refl _ _) _)) _ [(⟨⟨1, 67, k0, 0⟩, [105, x]⟩, _), (⟨⟨1, 68, k0, 0⟩, [97, x]⟩, _)] rfl (OwnW.lit _ rfl (acc2 HA.out (by simp) (by simp) rfl rfl) (by simp)).rd (by have := HXL.out; simp only [List.length_cons, List.length_nil]; omega) (by have := HB.out.size; have := HBW.out.size; rw [World.size_alloc]; omega) ?_; intro v' w' ho' hb'; obtain ⟨a', n', c', e'⟩ := ho'.form; subst e'; have HO' := hidIt ho'; have HB' := hidIt hb'; clear ho' hb'
          refine hK.out _ _ ?_ (fun hHeld => ?_)
          · exact (HB'.out.cell (p := ⟨kb, off, none⟩) HKL.out).trans (HKB.out _ (ext_alloc HB.out _))
          clear hK K
          try simp only [Act.put, List.getElem_toArray, List.getElem_cons_succ, List.getElem_cons_zero, List.setIfInBounds_toArray, List.set_cons_zero, List.set_cons_succ]
          refine wpAnyH_ready (rs := [17]) (by kernel_rfl) (by simp) ?_
          refine AllReadyH.cons (o := _) rfl (fun K hK => ?_) AllReadyH.nil
          go_simp
          refine hK.out _ _ ?_ (fun hHeld => ?_)
          · exact (HB'.out.cell (p := ⟨kb, off, none⟩) HKL.out).trans (HKB.out _ (ext_alloc HB.out _))
          clear hK K
          try simp only [Act.put, List.getElem_toArray, List.getElem_cons_succ, List.getElem_cons_zero, List.setIfInBounds_toArray, List.set_cons_zero, List.set_cons_succ]
          refine wpAnyH_done (by kernel_rfl) ?_ _
          go_wp2
          go_roundw
          case rel => exact ⟨p + 1, _, _, _, _, by omega, by go_num, rfl, HO'.out, by unfold Hid; rw [List.map_append, HM.out, HM2.out]; rfl, HBW.out.trans ((HB.out.mono HBW.out.size).trans (((Below.refl _ _).alloc (by have := HB.out.size; have := HBW.out.size; omega) _).trans HB'.out))⟩
          case measure => simp [RowKit.intOf]; omega
      · skip
        go_simp
        refine hK.out _ _ ?_ (fun hHeld => ?_)
        · first | assumption | exact HKB.out _ HB.out | exact HKB.out _ (ext_alloc HB.out _) | exact HKB.out _ (ext_alloc (ext_alloc HB.out _) _)
        clear hK K
        try simp only [Act.put, List.getElem_toArray, List.getElem_cons_succ, List.getElem_cons_zero, List.setIfInBounds_toArray, List.set_cons_zero, List.set_cons_succ]
        refine wpAnyH_ready (rs := [2]) (by kernel_rfl) (by simp) ?_
        refine AllReadyH.cons (o := _) rfl (fun K hK => ?_) AllReadyH.nil
        go_simp
        refine hK.out _ _ ?_ (fun hHeld => ?_)
        · first | assumption | exact HKB.out _ HB.out | exact HKB.out _ (ext_alloc HB.out _) | exact HKB.out _ (ext_alloc (ext_alloc HB.out _) _)
        clear hK K
        try simp only [Act.put, List.getElem_toArray, List.getElem_cons_succ, List.getElem_cons_zero, List.setIfInBounds_toArray, List.set_cons_zero, List.set_cons_succ]
        refine wpAnyH_ready (rs := [3]) (by kernel_rfl) (by simp) ?_
        refine AllReadyH.cons (o := _) rfl (fun K hK => ?_) AllReadyH.nil
        go_simp
        go_at_call 83; refine (moves_any _ _ _ _ _).mono ?_; rintro e y ⟨rfl, hb⟩; (try dsimp only); first | (replace HA := hidIt (HA.out.push2 hb); replace HB := hidIt (ext_trans (ext_alloc (ext_alloc HB.out _) _) hb)) | (replace HA := hidIt (HA.out.push hb); replace HB := hidIt (ext_trans (ext_alloc HB.out _) hb)) | (replace HA := hidIt (HA.out.ext hb); replace HB := hidIt (ext_trans HB.out hb)); clear hb
        refine hK.out _ _ ?_ (fun hHeld => ?_)
        · first | assumption | exact HKB.out _ HB.out | exact HKB.out _ (ext_alloc HB.out _) | exact HKB.out _ (ext_alloc (ext_alloc HB.out _) _)
        clear hK K
        try simp only [Act.put, List.getElem_toArray, List.getElem_cons_succ, List.getElem_cons_zero, List.setIfInBounds_toArray, List.set_cons_zero, List.set_cons_succ]
        refine wpAnyH_ready (rs := [7]) (by kernel_rfl) (by simp) ?_
        refine AllReadyH.cons (o := _) rfl (fun K hK => ?_) AllReadyH.nil
        go_simp
        go_at_call 87; refine (with_any _ _ _ _ _ _ _ _ _).mono ?_; rintro e y ⟨rfl, hb⟩; (try dsimp only); first | (replace HA := hidIt (HA.out.push2 hb); replace HB := hidIt (ext_trans (ext_alloc (ext_alloc HB.out _) _) hb)) | (replace HA := hidIt (HA.out.push hb); replace HB := hidIt (ext_trans (ext_alloc HB.out _) hb)) | (replace HA := hidIt (HA.out.ext hb); replace HB := hidIt (ext_trans HB.out hb)); clear hb
        refine hK.out _ _ ?_ (fun hHeld => ?_)
        · first | assumption | exact HKB.out _ HB.out | exact HKB.out _ (ext_alloc HB.out _) | exact HKB.out _ (ext_alloc (ext_alloc HB.out _) _)
        clear hK K
        try simp only [Act.put, List.getElem_toArray, List.getElem_cons_succ, List.getElem_cons_zero, List.setIfInBounds_toArray, List.set_cons_zero, List.set_cons_succ]
        refine wpAnyH_ready (rs := [10]) (by kernel_rfl) (by simp) ?_
        refine AllReadyH.cons (o := _) rfl (fun K hK => ?_) AllReadyH.nil
        go_simp
        go_at_call 83; refine (moves_any _ _ _ _ _).mono ?_; rintro e y ⟨rfl, hb⟩; (try dsimp only); first | (replace HA := hidIt (HA.out.push2 hb); replace HB := hidIt (ext_trans (ext_alloc (ext_alloc HB.out _) _) hb)) | (replace HA := hidIt (HA.out.push hb); replace HB := hidIt (ext_trans (ext_alloc HB.out _) hb)) | (replace HA := hidIt (HA.out.ext hb); replace HB := hidIt (ext_trans HB.out hb)); clear hb
        refine hK.out _ _ ?_ (fun hHeld => ?_)
        · first | assumption | exact HKB.out _ HB.out | exact HKB.out _ (ext_alloc HB.out _) | exact HKB.out _ (ext_alloc (ext_alloc HB.out _) _)
        clear hK K
        try simp only [Act.put, List.getElem_toArray, List.getElem_cons_succ, List.getElem_cons_zero, List.setIfInBounds_toArray, List.set_cons_zero, List.set_cons_succ]
        refine wpAnyH_ready (rs := [14]) (by kernel_rfl) (by simp) ?_
        refine AllReadyH.cons (o := _) rfl (fun K hK => ?_) AllReadyH.nil
        go_simp
        go_at_call 87; refine (with_any _ _ _ _ _ _ _ _ _).mono ?_; rintro e y ⟨rfl, hb⟩; (try dsimp only); first | (replace HA := hidIt (HA.out.push2 hb); replace HB := hidIt (ext_trans (ext_alloc (ext_alloc HB.out _) _) hb)) | (replace HA := hidIt (HA.out.push hb); replace HB := hidIt (ext_trans (ext_alloc HB.out _) hb)) | (replace HA := hidIt (HA.out.ext hb); replace HB := hidIt (ext_trans HB.out hb)); clear hb
        refine hK.out _ _ ?_ (fun hHeld => ?_)
        · first | assumption | exact HKB.out _ HB.out | exact HKB.out _ (ext_alloc HB.out _) | exact HKB.out _ (ext_alloc (ext_alloc HB.out _) _)
        clear hK K
        try simp only [Act.put, List.getElem_toArray, List.getElem_cons_succ, List.getElem_cons_zero, List.setIfInBounds_toArray, List.set_cons_zero, List.set_cons_succ]
        refine wpAnyH_ready (rs := [15]) (by kernel_rfl) (by simp) ?_
        refine AllReadyH.cons (o := _) rfl (fun K hK => ?_) AllReadyH.nil
        go_simp
        refine hK.out _ _ ?_ (fun hHeld => ?_)
        · first | assumption | exact HKB.out _ HB.out | exact HKB.out _ (ext_alloc HB.out _) | exact HKB.out _ (ext_alloc (ext_alloc HB.out _) _)
        clear hK K
        try simp only [Act.put, List.getElem_toArray, List.getElem_cons_succ, List.getElem_cons_zero, List.setIfInBounds_toArray, List.set_cons_zero, List.set_cons_succ]
        refine wpAnyH_ready (rs := [16]) (by kernel_rfl) (by simp) ?_
        refine AllReadyH.cons (o := _) rfl (fun K hK => ?_) AllReadyH.nil
        rw [if_pos (by rfl)]
        refine wp_append_rows _ _ rfl w.heap.size (.slice ao n c) xs rfl ((HO.out.ext HB.out).ext (ext_alloc (Below.refl _ _) _)) _ [(⟨⟨1, 67, k0, 0⟩, [105, x]⟩, _), (⟨⟨1, 68, k0, 0⟩, [97, x]⟩, _)] rfl (OwnW.lit _ rfl (acc2 HA.out (by simp) (by simp) rfl rfl) (by simp)).rd (by have := HXL.out; simp only [List.length_cons, List.length_nil]; omega) (by have := HB.out.size; have := HBW.out.size; rw [World.size_alloc]; omega) ?_; intro v' w' ho' hb'; obtain ⟨a', n', c', e'⟩ := ho'.form; subst e'; have HO' := hidIt ho'; have HB' := hidIt hb'; clear ho' hb'
        refine hK.out _ _ ?_ (fun hHeld => ?_)
        · exact (HB'.out.cell (p := ⟨kb, off, none⟩) HKL.out).trans (HKB.out _ (ext_alloc HB.out _))
        clear hK K
        try simp only [Act.put, List.getElem_toArray, List.getElem_cons_succ, List.getElem_cons_zero, List.setIfInBounds_toArray, List.set_cons_zero, List.set_cons_succ]
        refine wpAnyH_ready (rs := [17]) (by kernel_rfl) (by simp) ?_
        refine AllReadyH.cons (o := _) rfl (fun K hK => ?_) AllReadyH.nil
        go_simp
        refine hK.out _ _ ?_ (fun hHeld => ?_)
        · exact (HB'.out.cell (p := ⟨kb, off, none⟩) HKL.out).trans (HKB.out _ (ext_alloc HB.out _))
        clear hK K
        try simp only [Act.put, List.getElem_toArray, List.getElem_cons_succ, List.getElem_cons_zero, List.setIfInBounds_toArray, List.set_cons_zero, List.set_cons_succ]
        refine wpAnyH_done (by kernel_rfl) ?_ _
        go_wp2
        go_roundw
        case rel => exact ⟨p + 1, _, _, _, _, by omega, by go_num, rfl, HO'.out, by unfold Hid; rw [List.map_append, HM.out, HM2.out]; rfl, HBW.out.trans ((HB.out.mono HBW.out.size).trans (((Below.refl _ _).alloc (by have := HB.out.size; have := HBW.out.size; omega) _).trans HB'.out))⟩
        case measure => simp [RowKit.intOf]; omega
    · have HOE := hidIt HO.out
      have HME := hidIt (show xs.map Prod.fst = blkR k0 zs by have := HM.out; rwa [List.take_of_length_le (by omega)] at this)
      clear HO HM
      go_wp2
      go_ret
      exact ⟨_, xs, rfl, HOE.out, HME.out, hbw⟩
end Go.Proofs.YtfdceljdhgbkcaaGreatDoor
