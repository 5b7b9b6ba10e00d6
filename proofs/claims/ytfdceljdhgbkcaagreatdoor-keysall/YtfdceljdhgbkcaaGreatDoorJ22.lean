import Derived.Test.YtfdceljdhgbkcaaGreatDoorJ21
/- The document's objects. -/
namespace Go.Proofs.YtfdceljdhgbkcaaGreatDoor
open Go.RowKit
def sOb : List ByteArray := [⟨#[119]⟩, ⟨#[87]⟩, ⟨#[112]⟩, ⟨#[34]⟩, ⟨#[39]⟩, ⟨#[96]⟩, ⟨#[40]⟩, ⟨#[41]⟩, ⟨#[98]⟩, ⟨#[91]⟩, ⟨#[93]⟩, ⟨#[123]⟩, ⟨#[125]⟩, ⟨#[66]⟩, ⟨#[60]⟩]
def mOb : List Int := [61, 63, 69, 65, 65, 65, 67, 67, 67, 67, 67, 67, 67, 67, 67]
def aOb : List Int := [0, 0, 0, 34, 39, 96, 40, 40, 40, 91, 91, 123, 123, 123, 60]
def fOb (p : Nat) : List DRw := [⟨bys (⟨#[105]⟩ ++ (sOb[p]?.getD ⟨#[]⟩)), 1, mOb[p]?.getD 0, aOb[p]?.getD 0, false⟩, ⟨bys (⟨#[97]⟩ ++ (sOb[p]?.getD ⟨#[]⟩)), 1, mOb[p]?.getD 0 + 1, aOb[p]?.getD 0, false⟩]
theorem tOb : (List.range 15).flatMap fOb ++ [⟨bys ⟨#[105, 62]⟩, 1, 67, 60, false⟩] ++ [⟨bys ⟨#[97, 62]⟩, 1, 68, 60, false⟩] = dObj := by rfl
theorem sOb_sz : ∀ s ∈ sOb, s.size ≤ 90 := by decide
theorem mOb_sz : ∀ s ∈ mOb, 0 ≤ s ∧ s ≤ 100 := by decide
theorem size_one (k : UInt8) (t : ByteArray) (h : t.size ≤ 90) : ((⟨#[k]⟩ : ByteArray) ++ t).size ≤ 100 := by
  rw [ByteArray.size_append]
  show 1 + t.size ≤ 100
  omega
set_option maxRecDepth 100000 in
set_option maxHeartbeats 8000000 in
theorem r_objects_any (w : World) : Calls Tryz.prog 32 #[] w fun e w' => DrP w w' dObj e := by
  obtain ⟨B0, hB0⟩ : ∃ B0, B0 = w.heap.size := ⟨_, rfl⟩
  have HBE := hidIt hB0
  go_enter Tryz.func32, Tryz.ntmps32
  go_upto_region 2 with fail
  refine wp_region_lit ?_
  refine wpl_run rfl _ rfl (.agg (arS sOb)) w (by kernel_rfl) ?_
  refine wpl_run rfl _ rfl (.pointer (some ⟨w.heap.size, 0, none⟩)) (w.alloc (.cells (arS (zS 15)) 100)) (by kernel_rfl) ?_
  refine wpl_store_new w rfl 100 _ _ rfl (arS (zS 15)) (arS sOb) rfl rfl (by kernel_rfl) (by kernel_rfl) (by kernel_rfl) ?_
  refine wpList_nil ?_
  go_upto_region 3 with fail
  obtain ⟨w1, hw1⟩ : ∃ w1, w1 = w.alloc (.cells (arS sOb) 100) := ⟨_, rfl⟩
  rw [← hw1]
  have Bw1 : Hid (Below w.heap.size w w1) := by unfold Hid; rw [hw1]; exact ext_alloc (Below.refl _ _) _
  have Rw1 : Hid (w1.heap[w.heap.size]? = some (.cells (arS sOb) 100 (0, 0))) := by unfold Hid; rw [hw1]; exact heap_alloc_new _ _
  clear hw1
  refine wp_region_lit ?_
  refine wpl_run rfl _ rfl (.agg (arI mOb)) w1 (by kernel_rfl) ?_
  refine wpl_run rfl _ rfl (.pointer (some ⟨w1.heap.size, 0, none⟩)) (w1.alloc (.cells (arI (zI 15)) 101)) (by kernel_rfl) ?_
  refine wpl_store_new w1 rfl 101 _ _ rfl (arI (zI 15)) (arI mOb) rfl rfl (by kernel_rfl) (by kernel_rfl) (by kernel_rfl) ?_
  refine wpList_nil ?_
  go_upto_region 4 with fail
  obtain ⟨w2, hw2⟩ : ∃ w2, w2 = w1.alloc (.cells (arI mOb) 101) := ⟨_, rfl⟩
  rw [← hw2]
  have Bw2 : Hid (Below w1.heap.size w1 w2) := by unfold Hid; rw [hw2]; exact ext_alloc (Below.refl _ _) _
  have Rw2 : Hid (w2.heap[w1.heap.size]? = some (.cells (arI mOb) 101 (0, 0))) := by unfold Hid; rw [hw2]; exact heap_alloc_new _ _
  clear hw2
  refine wp_region_lit ?_
  refine wpl_run rfl _ rfl (.agg (arI aOb)) w2 (by kernel_rfl) ?_
  refine wpl_run rfl _ rfl (.pointer (some ⟨w2.heap.size, 0, none⟩)) (w2.alloc (.cells (arI (zI 15)) 101)) (by kernel_rfl) ?_
  refine wpl_store_new w2 rfl 101 _ _ rfl (arI (zI 15)) (arI aOb) rfl rfl (by kernel_rfl) (by kernel_rfl) (by kernel_rfl) ?_
  refine wpList_nil ?_
  go_upto_region 5 with fail
  obtain ⟨w3, hw3⟩ : ∃ w3, w3 = w2.alloc (.cells (arI aOb) 101) := ⟨_, rfl⟩
  rw [← hw3]
  have Bw3 : Hid (Below w2.heap.size w2 w3) := by unfold Hid; rw [hw3]; exact ext_alloc (Below.refl _ _) _
  have Rw3 : Hid (w3.heap[w2.heap.size]? = some (.cells (arI aOb) 101 (0, 0))) := by unfold Hid; rw [hw3]; exact heap_alloc_new _ _
  clear hw3
  have RS := hidIt (((Bw3.out.block _ (Array.getElem?_eq_some_iff.1 ((Bw2.out.block _ (Array.getElem?_eq_some_iff.1 Rw1.out).1).trans Rw1.out)).1).trans ((Bw2.out.block _ (Array.getElem?_eq_some_iff.1 Rw1.out).1).trans Rw1.out)))
  have Rx1 := hidIt (((Bw3.out.block _ (Array.getElem?_eq_some_iff.1 Rw2.out).1).trans Rw2.out))
  have Rx2 := Rw3
  have HBW : Hid (Below B0 w w3) := by unfold Hid; rw [hB0]; exact (ext_trans (ext_trans Bw1.out Bw2.out) Bw3.out)
  have HOV : Hid (OwnD w3 B0 (.slice none 0 0) []) := OwnD.nil _ _
  have HB0 : Hid (B0 ≤ w3.heap.size) := by unfold Hid; rw [hB0]; exact HBW.out.size
  have FsN : Hid (¬ (Value.slice none 0 0).ownBlock = some w.heap.size) := own_far HOV.out RS.out (by decide)
  have Fx1 : Hid (¬ (Value.slice none 0 0).ownBlock = some w1.heap.size) := own_far HOV.out Rx1.out (by decide)
  have Fx2 : Hid (¬ (Value.slice none 0 0).ownBlock = some w2.heap.size) := own_far HOV.out Rx2.out (by decide)
  clear Bw1 Rw1 Bw2 Rw2 Bw3 hB0
  generalize w.heap.size = gs at RS FsN
  generalize w1.heap.size = gx1 at Rx1 Fx1
  generalize w2.heap.size = gx2 at Rx2 Fx2
  go_wp2_with fail
  go_loopw [1, 5] (fun rv iv wr => ∃ (p : Nat) (ao : Option Addr) (cn c : Nat) (xs : List (DRw × Value)), p ≤ 15 ∧ iv = .int .i64 p ∧ rv = .slice ao cn c ∧ Hid (Gro w3 (.slice none 0 0) B0 wr (.slice ao cn c) xs) ∧ Hid (xs.map Prod.fst = (List.range p).flatMap fOb) ∧ Hid (xs.length ≤ 2 * p)) (fun _ iv _ => 15 - (RowKit.intOf iv).toNat)
  case atStart => exact ⟨0, none, 0, 0, [], Nat.zero_le _, rfl, rfl, Gro.init HOV.out, rfl, Nat.zero_le _⟩
  case round =>
    obtain ⟨p, ao, cn, c, xs, hp, rfl, rfl, HG, HM, HXL⟩ := hrel
    by_cases hlt : p < 15
    · have hltI : (p : Int) < 15 := by omega
      have HNX : Hid ((List.range (p + 1)).flatMap fOb = (List.range p).flatMap fOb ++ [⟨bys (⟨#[105]⟩ ++ (sOb[p]?.getD ⟨#[]⟩)), 1, mOb[p]?.getD 0, aOb[p]?.getD 0, false⟩, ⟨bys (⟨#[97]⟩ ++ (sOb[p]?.getD ⟨#[]⟩)), 1, mOb[p]?.getD 0 + 1, aOb[p]?.getD 0, false⟩]) := by unfold Hid; rw [List.range_succ, List.flatMap_append]; simp [fOb]
      have hsz : (sOb[p]?.getD ⟨#[]⟩).size ≤ 90 := by rw [List.getElem?_eq_getElem (show p < sOb.length from hlt)]; exact sOb_sz _ (List.getElem_mem _)
      have HT105 : Hid (((⟨#[105]⟩ : ByteArray) ++ (sOb[p]?.getD ⟨#[]⟩)).size ≤ 100) := size_one _ _ hsz
      have HT97 : Hid (((⟨#[97]⟩ : ByteArray) ++ (sOb[p]?.getD ⟨#[]⟩)).size ≤ 100) := size_one _ _ hsz
      have hwr : IntKind.i64.wrap (mOb[p]?.getD 0 + 1) = mOb[p]?.getD 0 + 1 := by
        have h1 : 0 ≤ mOb[p]?.getD 0 ∧ mOb[p]?.getD 0 ≤ 100 := by rw [List.getElem?_eq_getElem (show p < mOb.length from hlt)]; exact mOb_sz _ (List.getElem_mem _)
        rw [IntKind.wrap_i64]
        omega
      have HS : Hid (∀ W : World, Kps (fun k => (Value.slice none 0 0).ownBlock = some k) w3 W → W.cell? ⟨gs, p, none⟩ = some (.string (sOb[p]?.getD ⟨#[]⟩)) ∧ W.cell? ⟨gx1, p, none⟩ = some (.int .i64 (mOb[p]?.getD 0)) ∧ W.cell? ⟨gx2, p, none⟩ = some (.int .i64 (aOb[p]?.getD 0))) := fun W hW => ⟨arS_at ((hW.same _ (Array.getElem?_eq_some_iff.1 RS.out).1 FsN.out).trans RS.out) hlt, arI_at ((hW.same _ (Array.getElem?_eq_some_iff.1 Rx1.out).1 Fx1.out).trans Rx1.out) (show p < mOb.length from hlt), arI_at ((hW.same _ (Array.getElem?_eq_some_iff.1 Rx2.out).1 Fx2.out).trans Rx2.out) (show p < aOb.length from hlt)⟩
      have hcat : ¬ 9223372036854775807 < 1 + (sOb[p]?.getD ⟨#[]⟩).size := by omega
      clear hsz
      generalize sOb[p]?.getD ⟨#[]⟩ = t at HNX HT105 HT97 HS hcat
      obtain ⟨t105, h105⟩ : ∃ z, (⟨#[105]⟩ : ByteArray) ++ t = z := ⟨_, rfl⟩
      obtain ⟨t97, h97⟩ : ∃ z, (⟨#[97]⟩ : ByteArray) ++ t = z := ⟨_, rfl⟩
      rw [h105] at HT105 HNX
      rw [h97] at HT97 HNX
      generalize mOb[p]?.getD 0 = x1 at HNX HS hwr
      generalize aOb[p]?.getD 0 = x2 at HNX HS
      go_upto_region 8 with fail
      refine wp_region_held_drew (S := fun w' => w'.cell? ⟨gs, p, none⟩ = some (.string t) ∧ w'.cell? ⟨gx1, p, none⟩ = some (.int .i64 x1) ∧ w'.cell? ⟨gx2, p, none⟩ = some (.int .i64 x2)) (by kernel_rfl) (by first | exact HS.out _ HG.out.kp | exact HS.out _ (HG.out.ext (Below.refl _ _).drew).kp) (fun hHeld => ?_)
      refine wpAnyH_take (i := 0) (oi := _) (v := ?_) rfl (by kernel_rfl) (by kernel_rfl) (by kernel_rfl) (fun _ _ _ h => h) (Or.inl ⟨by rfl, ?_⟩) (by assumption) ?_
      rotate_left 1
      · intro wq hSw; (try dsimp only at hSw); go_simp; try (with_reducible rfl)
      try simp only [Act.put, List.getElem_toArray, List.getElem_cons_zero, List.setIfInBounds_toArray, List.set_cons_zero, List.set_cons_succ]
      refine wpAnyH_take (i := 1) (oi := _) (v := ?_) rfl (by kernel_rfl) (by kernel_rfl) (by kernel_rfl) (fun _ _ _ h => h) (Or.inl ⟨by rfl, ?_⟩) (by assumption) ?_
      rotate_left 1
      · intro wq hSw; (try dsimp only at hSw); go_simp; try (with_reducible rfl)
      try simp only [Act.put, List.getElem_toArray, List.getElem_cons_succ, List.getElem_cons_zero, List.setIfInBounds_toArray, List.set_cons_zero, List.set_cons_succ]
      refine wpAnyH_take (i := 2) (oi := _) (v := ?_) rfl (by kernel_rfl) (by kernel_rfl) (by kernel_rfl) (fun _ _ _ h => h) (Or.inl ⟨by rfl, ?_⟩) (by assumption) ?_
      rotate_left 1
      · intro wq hSw; (try dsimp only at hSw); go_simp; try (with_reducible rfl)
      try simp only [Act.put, List.getElem_toArray, List.getElem_cons_succ, List.getElem_cons_zero, List.setIfInBounds_toArray, List.set_cons_zero, List.set_cons_succ]
      refine wpAnyH_take (i := 3) (oi := _) (v := ?_) rfl (by kernel_rfl) (by kernel_rfl) (by kernel_rfl) (fun _ _ _ h => h) (Or.inl ⟨by rfl, ?_⟩) (by assumption) ?_
      rotate_left 1
      · intro wq hSw; (try dsimp only at hSw); go_simp; try (with_reducible rfl)
      try simp only [Act.put, List.getElem_toArray, List.getElem_cons_succ, List.getElem_cons_zero, List.setIfInBounds_toArray, List.set_cons_zero, List.set_cons_succ]
      refine wpAnyH_take (i := 4) (oi := _) (v := ?_) rfl (by kernel_rfl) (by kernel_rfl) (by kernel_rfl) (fun _ _ _ h => h) (Or.inl ⟨by rfl, ?_⟩) (by assumption) ?_
      rotate_left 1
      · intro wq hSw; (try dsimp only at hSw); go_simp; try (with_reducible rfl)
      try simp only [Act.put, List.getElem_toArray, List.getElem_cons_succ, List.getElem_cons_zero, List.setIfInBounds_toArray, List.set_cons_zero, List.set_cons_succ]
      refine wpAnyH_take (i := 6) (oi := _) (v := ?_) rfl (by kernel_rfl) (by kernel_rfl) (by kernel_rfl) (fun _ _ _ h => h) (Or.inl ⟨by rfl, ?_⟩) (by assumption) ?_
      rotate_left 1
      · intro wq hSw; (try dsimp only at hSw); go_simp; try (with_reducible rfl)
      try simp only [Act.put, List.getElem_toArray, List.getElem_cons_succ, List.getElem_cons_zero, List.setIfInBounds_toArray, List.set_cons_zero, List.set_cons_succ]
      refine wpAnyH_take (i := 7) (oi := _) (v := ?_) rfl (by kernel_rfl) (by kernel_rfl) (by kernel_rfl) (fun _ _ _ h => h) (Or.inl ⟨by rfl, ?_⟩) (by assumption) ?_
      rotate_left 1
      · intro wq hSw; (try dsimp only at hSw); go_simp; try (with_reducible rfl)
      try simp only [Act.put, List.getElem_toArray, List.getElem_cons_succ, List.getElem_cons_zero, List.setIfInBounds_toArray, List.set_cons_zero, List.set_cons_succ]
      refine wpAnyH_take (i := 8) (oi := _) (v := ?_) rfl (by kernel_rfl) (by kernel_rfl) (by kernel_rfl) (fun _ _ _ h => h) (Or.inl ⟨by rfl, ?_⟩) (by assumption) ?_
      rotate_left 1
      · intro wq hSw; (try dsimp only at hSw); go_simp; try (with_reducible rfl)
      try simp only [Act.put, List.getElem_toArray, List.getElem_cons_succ, List.getElem_cons_zero, List.setIfInBounds_toArray, List.set_cons_zero, List.set_cons_succ]
      refine wpAnyH_take (i := 9) (oi := _) (v := ?_) rfl (by kernel_rfl) (by kernel_rfl) (by kernel_rfl) (fun _ _ _ h => h) (Or.inl ⟨by rfl, ?_⟩) (by assumption) ?_
      rotate_left 1
      · intro wq hSw; (try dsimp only at hSw); go_simp; try (with_reducible rfl)
      try simp only [Act.put, List.getElem_toArray, List.getElem_cons_succ, List.getElem_cons_zero, List.setIfInBounds_toArray, List.set_cons_zero, List.set_cons_succ]
      refine wpAnyH_take (i := 10) (oi := _) (v := ?_) rfl (by kernel_rfl) (by kernel_rfl) (by kernel_rfl) (fun _ _ _ h => h) (Or.inl ⟨by rfl, ?_⟩) (by assumption) ?_
      rotate_left 1
      · intro wq hSw; (try dsimp only at hSw); go_simp; try (with_reducible rfl)
      try simp only [Act.put, List.getElem_toArray, List.getElem_cons_succ, List.getElem_cons_zero, List.setIfInBounds_toArray, List.set_cons_zero, List.set_cons_succ]
      refine wpAnyH_take (i := 11) (oi := _) (v := ?_) rfl (by kernel_rfl) (by kernel_rfl) (by kernel_rfl) (fun _ _ _ h => h) (Or.inl ⟨by rfl, ?_⟩) (by assumption) ?_
      rotate_left 1
      · intro wq hSw; (try dsimp only at hSw); go_simp; try (with_reducible rfl)
      try simp only [Act.put, List.getElem_toArray, List.getElem_cons_succ, List.getElem_cons_zero, List.setIfInBounds_toArray, List.set_cons_zero, List.set_cons_succ]
      refine wpAnyH_ready (rs := [5]) (by kernel_rfl) (by simp) ?_
      refine AllReadyH.cons (o := _) rfl (fun K hK => ?_) AllReadyH.nil
      go_simp
      refine (ints_any t105 _ HT105.out).mono ?_; rintro e y1 ⟨v1, rfl, ho1, hb1⟩; obtain ⟨xa1, xc1, rfl, _⟩ := ho1.rds.len; have HO1 := hidIt ho1; have HB1 : Hid (Below wr.heap.size wr y1) := (by first | exact hb1 | exact ext_trans (Below.refl _ _).drew hb1); clear ho1 hb1; have HG1 := hidIt (HG.out.ext HB1.out); try dsimp only
      refine hK.out _ _ ?_ (fun hHeld => ?_)
      · exact HS.out _ HG1.out.kp
      clear hK K
      try simp only [Act.put, List.getElem_toArray, List.getElem_cons_succ, List.getElem_cons_zero, List.setIfInBounds_toArray, List.set_cons_zero, List.set_cons_succ]
      refine wpAnyH_take (i := 12) (oi := _) (v := ?_) rfl (by kernel_rfl) (by kernel_rfl) (by kernel_rfl) (fun _ _ _ h => h) (Or.inl ⟨by rfl, ?_⟩) (by assumption) ?_
      rotate_left 1
      · intro wq hSw; (try dsimp only at hSw); go_simp; try (with_reducible rfl)
      try simp only [Act.put, List.getElem_toArray, List.getElem_cons_succ, List.getElem_cons_zero, List.setIfInBounds_toArray, List.set_cons_zero, List.set_cons_succ]
      refine wpAnyH_ready (rs := [13]) (by kernel_rfl) (by simp) ?_
      refine AllReadyH.cons (o := _) rfl (fun K hK => ?_) AllReadyH.nil
      go_simp
      refine hK.out _ _ ?_ (fun hHeld => ?_)
      · exact HS.out _ (HG1.out.ext (ext_alloc (Below.refl _ _) _)).kp
      clear hK K
      try simp only [Act.put, List.getElem_toArray, List.getElem_cons_succ, List.getElem_cons_zero, List.setIfInBounds_toArray, List.set_cons_zero, List.set_cons_succ]
      refine wpAnyH_ready (rs := [14]) (by kernel_rfl) (by simp) ?_
      refine AllReadyH.cons (o := _) rfl (fun K hK => ?_) AllReadyH.nil
      rw [if_pos (by rfl)]
      refine wp_append_drowsB _ _ (by rfl) B0 (.slice ao cn c) xs (by rfl) ((HG1.out.ext (ext_alloc (Below.refl _ _) _)).ow) _ [(⟨bys t105, 1, x1, x2, false⟩, .slice xa1 (bys t105).length xc1)] (by rfl) (drow_lit ⟨bys t105, 1, x1, x2, false⟩ _ HO1.out.ki) (by have := HXL.out; simp; omega) (Nat.le_trans HB0.out (HG1.out.ext (ext_alloc (Below.refl _ _) _)).kp.size) (by simp) ?_; intro v9 w7 ho9 hb9 hg9 hn9; clear hb9; obtain ⟨ao7, n7, c7, rfl⟩ := ho9.form; have HG7 := hidIt ((HG1.out.ext (ext_alloc (Below.refl _ _) _)).push ho9 hg9 hn9); clear ho9 hg9 hn9; try dsimp only
      refine hK.out _ _ ?_ (fun hHeld => ?_)
      · exact HS.out _ HG7.out.kp
      clear hK K
      try simp only [Act.put, List.getElem_toArray, List.getElem_cons_succ, List.getElem_cons_zero, List.setIfInBounds_toArray, List.set_cons_zero, List.set_cons_succ]
      refine wpAnyH_take (i := 15) (oi := _) (v := ?_) rfl (by kernel_rfl) (by kernel_rfl) (by kernel_rfl) (fun _ _ _ h => h) (Or.inl ⟨by rfl, ?_⟩) (by assumption) ?_
      rotate_left 1
      · intro wq hSw; (try dsimp only at hSw); go_simp; try (with_reducible rfl)
      try simp only [Act.put, List.getElem_toArray, List.getElem_cons_succ, List.getElem_cons_zero, List.setIfInBounds_toArray, List.set_cons_zero, List.set_cons_succ]
      refine wpAnyH_done (by kernel_rfl) ?_ _
      go_upto_region 9 with fail
      refine wp_region_held_drew (S := fun w' => w'.cell? ⟨gs, p, none⟩ = some (.string t) ∧ w'.cell? ⟨gx1, p, none⟩ = some (.int .i64 x1) ∧ w'.cell? ⟨gx2, p, none⟩ = some (.int .i64 x2)) (by kernel_rfl) (by first | exact HS.out _ HG7.out.kp | exact HS.out _ (HG7.out.ext (Below.refl _ _).drew).kp) (fun hHeld => ?_)
      refine wpAnyH_take (i := 0) (oi := _) (v := ?_) rfl (by kernel_rfl) (by kernel_rfl) (by kernel_rfl) (fun _ _ _ h => h) (Or.inl ⟨by rfl, ?_⟩) (by assumption) ?_
      rotate_left 1
      · intro wq hSw; (try dsimp only at hSw); go_simp; try (with_reducible rfl)
      try simp only [Act.put, List.getElem_toArray, List.getElem_cons_zero, List.setIfInBounds_toArray, List.set_cons_zero, List.set_cons_succ]
      refine wpAnyH_take (i := 1) (oi := _) (v := ?_) rfl (by kernel_rfl) (by kernel_rfl) (by kernel_rfl) (fun _ _ _ h => h) (Or.inl ⟨by rfl, ?_⟩) (by assumption) ?_
      rotate_left 1
      · intro wq hSw; (try dsimp only at hSw); go_simp; try (with_reducible rfl)
      try simp only [Act.put, List.getElem_toArray, List.getElem_cons_succ, List.getElem_cons_zero, List.setIfInBounds_toArray, List.set_cons_zero, List.set_cons_succ]
      refine wpAnyH_take (i := 2) (oi := _) (v := ?_) rfl (by kernel_rfl) (by kernel_rfl) (by kernel_rfl) (fun _ _ _ h => h) (Or.inl ⟨by rfl, ?_⟩) (by assumption) ?_
      rotate_left 1
      · intro wq hSw; (try dsimp only at hSw); go_simp; try (with_reducible rfl)
      try simp only [Act.put, List.getElem_toArray, List.getElem_cons_succ, List.getElem_cons_zero, List.setIfInBounds_toArray, List.set_cons_zero, List.set_cons_succ]
      refine wpAnyH_take (i := 3) (oi := _) (v := ?_) rfl (by kernel_rfl) (by kernel_rfl) (by kernel_rfl) (fun _ _ _ h => h) (Or.inl ⟨by rfl, ?_⟩) (by assumption) ?_
      rotate_left 1
      · intro wq hSw; (try dsimp only at hSw); go_simp; try (with_reducible rfl)
      try simp only [Act.put, List.getElem_toArray, List.getElem_cons_succ, List.getElem_cons_zero, List.setIfInBounds_toArray, List.set_cons_zero, List.set_cons_succ]
      refine wpAnyH_take (i := 4) (oi := _) (v := ?_) rfl (by kernel_rfl) (by kernel_rfl) (by kernel_rfl) (fun _ _ _ h => h) (Or.inl ⟨by rfl, ?_⟩) (by assumption) ?_
      rotate_left 1
      · intro wq hSw; (try dsimp only at hSw); go_simp; try (with_reducible rfl)
      try simp only [Act.put, List.getElem_toArray, List.getElem_cons_succ, List.getElem_cons_zero, List.setIfInBounds_toArray, List.set_cons_zero, List.set_cons_succ]
      refine wpAnyH_take (i := 6) (oi := _) (v := ?_) rfl (by kernel_rfl) (by kernel_rfl) (by kernel_rfl) (fun _ _ _ h => h) (Or.inl ⟨by rfl, ?_⟩) (by assumption) ?_
      rotate_left 1
      · intro wq hSw; (try dsimp only at hSw); go_simp; try (with_reducible rfl)
      try simp only [Act.put, List.getElem_toArray, List.getElem_cons_succ, List.getElem_cons_zero, List.setIfInBounds_toArray, List.set_cons_zero, List.set_cons_succ]
      refine wpAnyH_take (i := 7) (oi := _) (v := ?_) rfl (by kernel_rfl) (by kernel_rfl) (by kernel_rfl) (fun _ _ _ h => h) (Or.inl ⟨by rfl, ?_⟩) (by assumption) ?_
      rotate_left 1
      · intro wq hSw; (try dsimp only at hSw); go_simp; try (with_reducible rfl)
      try simp only [Act.put, List.getElem_toArray, List.getElem_cons_succ, List.getElem_cons_zero, List.setIfInBounds_toArray, List.set_cons_zero, List.set_cons_succ]
      refine wpAnyH_take (i := 8) (oi := _) (v := ?_) rfl (by kernel_rfl) (by kernel_rfl) (by kernel_rfl) (fun _ _ _ h => h) (Or.inl ⟨by rfl, ?_⟩) (by assumption) ?_
      rotate_left 1
      · intro wq hSw; (try dsimp only at hSw); go_simp; try (with_reducible rfl)
      try simp only [Act.put, List.getElem_toArray, List.getElem_cons_succ, List.getElem_cons_zero, List.setIfInBounds_toArray, List.set_cons_zero, List.set_cons_succ]
      refine wpAnyH_take (i := 9) (oi := _) (v := ?_) rfl (by kernel_rfl) (by kernel_rfl) (by kernel_rfl) (fun _ _ _ h => h) (Or.inl ⟨by rfl, ?_⟩) (by assumption) ?_
      rotate_left 1
      · intro wq hSw; (try dsimp only at hSw); go_simp; try (with_reducible rfl)
      try simp only [Act.put, List.getElem_toArray, List.getElem_cons_succ, List.getElem_cons_zero, List.setIfInBounds_toArray, List.set_cons_zero, List.set_cons_succ]
      refine wpAnyH_take (i := 10) (oi := _) (v := ?_) rfl (by kernel_rfl) (by kernel_rfl) (by kernel_rfl) (fun _ _ _ h => h) (Or.inl ⟨by rfl, ?_⟩) (by assumption) ?_
      rotate_left 1
      · intro wq hSw; (try dsimp only at hSw); go_simp; try (with_reducible rfl)
      try simp only [Act.put, List.getElem_toArray, List.getElem_cons_succ, List.getElem_cons_zero, List.setIfInBounds_toArray, List.set_cons_zero, List.set_cons_succ]
      refine wpAnyH_take (i := 11) (oi := _) (v := ?_) rfl (by kernel_rfl) (by kernel_rfl) (by kernel_rfl) (fun _ _ _ h => h) (Or.inl ⟨by rfl, ?_⟩) (by assumption) ?_
      rotate_left 1
      · intro wq hSw; (try dsimp only at hSw); go_simp; try (with_reducible rfl)
      try simp only [Act.put, List.getElem_toArray, List.getElem_cons_succ, List.getElem_cons_zero, List.setIfInBounds_toArray, List.set_cons_zero, List.set_cons_succ]
      refine wpAnyH_take (i := 12) (oi := _) (v := ?_) rfl (by kernel_rfl) (by kernel_rfl) (by kernel_rfl) (fun _ _ _ h => h) (Or.inl ⟨by rfl, ?_⟩) (by assumption) ?_
      rotate_left 1
      · intro wq hSw; (try dsimp only at hSw); go_simp; try (with_reducible rfl)
      try simp only [Act.put, List.getElem_toArray, List.getElem_cons_succ, List.getElem_cons_zero, List.setIfInBounds_toArray, List.set_cons_zero, List.set_cons_succ]
      refine wpAnyH_ready (rs := [5]) (by kernel_rfl) (by simp) ?_
      refine AllReadyH.cons (o := _) rfl (fun K hK => ?_) AllReadyH.nil
      go_simp
      refine (ints_any t97 _ HT97.out).mono ?_; rintro e y2 ⟨v2, rfl, ho2, hb2⟩; obtain ⟨xa2, xc2, rfl, _⟩ := ho2.rds.len; have HO2 := hidIt ho2; have HB2 : Hid (Below w7.heap.size w7 y2) := (by first | exact hb2 | exact ext_trans (Below.refl _ _).drew hb2); clear ho2 hb2; have HG2 := hidIt (HG7.out.ext HB2.out); try dsimp only
      refine hK.out _ _ ?_ (fun hHeld => ?_)
      · exact HS.out _ HG2.out.kp
      clear hK K
      try simp only [Act.put, List.getElem_toArray, List.getElem_cons_succ, List.getElem_cons_zero, List.setIfInBounds_toArray, List.set_cons_zero, List.set_cons_succ]
      refine wpAnyH_take (i := 13) (oi := _) (v := ?_) rfl (by kernel_rfl) (by kernel_rfl) (by kernel_rfl) (fun _ _ _ h => h) (Or.inl ⟨by rfl, ?_⟩) (by assumption) ?_
      rotate_left 1
      · intro wq hSw; (try dsimp only at hSw); go_simp; try (with_reducible rfl)
      try simp only [Act.put, List.getElem_toArray, List.getElem_cons_succ, List.getElem_cons_zero, List.setIfInBounds_toArray, List.set_cons_zero, List.set_cons_succ]
      refine wpAnyH_ready (rs := [14]) (by kernel_rfl) (by simp) ?_
      refine AllReadyH.cons (o := _) rfl (fun K hK => ?_) AllReadyH.nil
      go_simp
      refine hK.out _ _ ?_ (fun hHeld => ?_)
      · exact HS.out _ (HG2.out.ext (ext_alloc (Below.refl _ _) _)).kp
      clear hK K
      try simp only [Act.put, List.getElem_toArray, List.getElem_cons_succ, List.getElem_cons_zero, List.setIfInBounds_toArray, List.set_cons_zero, List.set_cons_succ]
      refine wpAnyH_ready (rs := [15]) (by kernel_rfl) (by simp) ?_
      refine AllReadyH.cons (o := _) rfl (fun K hK => ?_) AllReadyH.nil
      rw [if_pos (by rfl)]
      refine wp_append_drowsB _ _ (by rfl) B0 (.slice ao7 n7 c7) (xs ++ [(⟨bys t105, 1, x1, x2, false⟩, .slice xa1 (bys t105).length xc1)]) (by rfl) ((HG2.out.ext (ext_alloc (Below.refl _ _) _)).ow) _ [(⟨bys t97, 1, (x1 + 1), x2, false⟩, .slice xa2 (bys t97).length xc2)] (by rfl) (drow_lit ⟨bys t97, 1, (x1 + 1), x2, false⟩ _ HO2.out.ki) (by have := HXL.out; simp; omega) (Nat.le_trans HB0.out (HG2.out.ext (ext_alloc (Below.refl _ _) _)).kp.size) (by simp) ?_; intro v9 w8 ho9 hb9 hg9 hn9; clear hb9; obtain ⟨ao8, n8, c8, rfl⟩ := ho9.form; have HG8 := hidIt ((HG2.out.ext (ext_alloc (Below.refl _ _) _)).push ho9 hg9 hn9); clear ho9 hg9 hn9; try dsimp only
      refine hK.out _ _ ?_ (fun hHeld => ?_)
      · exact HS.out _ HG8.out.kp
      clear hK K
      try simp only [Act.put, List.getElem_toArray, List.getElem_cons_succ, List.getElem_cons_zero, List.setIfInBounds_toArray, List.set_cons_zero, List.set_cons_succ]
      refine wpAnyH_take (i := 16) (oi := _) (v := ?_) rfl (by kernel_rfl) (by kernel_rfl) (by kernel_rfl) (fun _ _ _ h => h) (Or.inl ⟨by rfl, ?_⟩) (by assumption) ?_
      rotate_left 1
      · intro wq hSw; (try dsimp only at hSw); go_simp; try (with_reducible rfl)
      try simp only [Act.put, List.getElem_toArray, List.getElem_cons_succ, List.getElem_cons_zero, List.setIfInBounds_toArray, List.set_cons_zero, List.set_cons_succ]
      refine wpAnyH_done (by kernel_rfl) ?_ _
      go_wp2_with fail
      go_roundw
      case rel => exact ⟨p + 1, ao8, n8, c8, _, by omega, rfl, rfl, HG8.out, by unfold Hid; rw [HNX.out, List.map_append, List.map_append, HM.out, List.append_assoc]; rfl, by unfold Hid; have := HXL.out; simp only [List.length_append, List.length_singleton]; omega⟩
      case measure => simp [RowKit.intOf]; omega
    · obtain rfl : p = 15 := by omega
      have hge : ¬ ((15 : Nat) : Int) < 15 := by omega
      have HL2 : Hid (xs.length ≤ 30) := HXL.out
      go_upto_region 11 with (first | (go_at_call 57; refine (ints_any ⟨#[105, 62]⟩ _ (by decide)).mono ?_; rintro e y3 ⟨v3, rfl, ho3, hb3⟩; obtain ⟨xa3, xc3, rfl, _⟩ := ho3.rds.len; have HO3 := hidIt ho3; have HG3 := hidIt (HG.out.ext hb3); clear ho3 hb3; (try dsimp only)) | (at_builtin; refine wpl_drows rfl _ _ rfl B0 (.slice ao cn c) xs rfl (HG3.out.ext (ext_alloc (Below.refl _ _) _)).ow _ [(⟨bys ⟨#[105, 62]⟩, 1, 67, 60, false⟩, .slice xa3 (bys ⟨#[105, 62]⟩).length xc3)] rfl (drow_lit ⟨bys ⟨#[105, 62]⟩, 1, 67, 60, false⟩ _ HO3.out.ki) (by have := HL2.out; simp; omega) (Nat.le_trans HB0.out (HG3.out.ext (ext_alloc (Below.refl _ _) _)).kp.size) (by simp) ?_; intro v9 w7 ho9 hb9 hg9 hn9; clear hb9; obtain ⟨ao7, n7, c7, rfl⟩ := ho9.form; have HG7 := hidIt ((HG3.out.ext (ext_alloc (Below.refl _ _) _)).push ho9 hg9 hn9); clear ho9 hg9 hn9; (try dsimp only)))
      go_wp2_with (first | (go_at_call 57; refine (ints_any ⟨#[97, 62]⟩ _ (by decide)).mono ?_; rintro e y4 ⟨v4, rfl, ho4, hb4⟩; obtain ⟨xa4, xc4, rfl, _⟩ := ho4.rds.len; have HO4 := hidIt ho4; have HG4 := hidIt (HG7.out.ext hb4); clear ho4 hb4; (try dsimp only)) | (at_builtin; refine wpl_drows rfl _ _ rfl B0 (.slice ao7 n7 c7) (xs ++ [(⟨bys ⟨#[105, 62]⟩, 1, 67, 60, false⟩, .slice xa3 (bys ⟨#[105, 62]⟩).length xc3)]) rfl (HG4.out.ext (ext_alloc (Below.refl _ _) _)).ow _ [(⟨bys ⟨#[97, 62]⟩, 1, 68, 60, false⟩, .slice xa4 (bys ⟨#[97, 62]⟩).length xc4)] rfl (drow_lit ⟨bys ⟨#[97, 62]⟩, 1, 68, 60, false⟩ _ HO4.out.ki) (by have := HL2.out; simp; omega) (Nat.le_trans HB0.out (HG4.out.ext (ext_alloc (Below.refl _ _) _)).kp.size) (by simp) ?_; intro v9 w8 ho9 hb9 hg9 hn9; clear hb9; obtain ⟨ao8, n8, c8, rfl⟩ := ho9.form; have HG8 := hidIt ((HG4.out.ext (ext_alloc (Below.refl _ _) _)).push ho9 hg9 hn9); clear ho9 hg9 hn9; (try dsimp only)))
      go_ret
      exact ⟨_, _, rfl, by rw [← HBE.out]; exact HG8.out.ow, by unfold Hid; rw [List.map_append, List.map_append, HM.out]; exact tOb, by rw [← HBE.out]; exact HBW.out.trans (HG8.out.below HOV.out HB0.out)⟩
end Go.Proofs.YtfdceljdhgbkcaaGreatDoor
