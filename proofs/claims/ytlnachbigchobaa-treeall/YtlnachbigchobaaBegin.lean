/- begin, alive, fits. -/
import Derived.Test.YtlnachbigchobaaWood
namespace Go.Proofs.Ytlnachbigchobaa
open Go.RowKit

theorem Try.info_tree : (Try.prog.info? 39).map (fun i => (i.zero, i.size, i.bytes)) = some (some (.agg #[.pointer none]), 1, 8) := by kernel_rfl
theorem Try.info_list : (Try.prog.info? 31).map (fun i => (i.zero, i.size, i.bytes)) = some (some (.slice none 0 0), 1, 24) := by kernel_rfl
theorem cell1_new (w : World) (a : Value) (T : TypeId) : ∀ (j : Nat) (u : Value), [a][j]? = some u → ((w.alloc (.cells #[a] T)).drew).cell? ((⟨w.heap.size, 0, none⟩ : Addr).add j) = some u := by
  intro j u h
  show (w.alloc (.cells #[a] T)).cell? _ = _
  match j with
  | 0 => simp at h; subst h; rw [Addr.add_lit]; simp
  | j + 1 => simp at h
theorem cell1_new' (w : World) (a : Value) (T : TypeId) : ∀ (j : Nat) (u : Value), [a][j]? = some u → (w.alloc (.cells #[a] T)).cell? ((⟨w.heap.size, 0, none⟩ : Addr).add j) = some u := cell1_new w a T

set_option maxRecDepth 100000 in
set_option maxHeartbeats 2000000 in
theorem begin_any (w : World) : Calls Try.prog 61 #[] w fun e w' => ∃ gw, e = .returned (.pointer (some ⟨gw, 0, none⟩)) ∧ Hid (∃ gt ct gl cl, Wd w' w.heap.size gw gt ct gl cl [none] [.slice none 0 0] [[]] [[]]) ∧ Below w.heap.size w w' := by
  obtain ⟨i0, hi, hz0, hz1, hz2⟩ := info_parts Try.info_tree
  obtain ⟨i1, hj, hy0, hy1, hy2⟩ := info_parts Try.info_list
  obtain ⟨w0, hw0⟩ : ∃ w0, w0 = (w.alloc (.cells #[.slice none 0 0, .slice none 0 0] 116)).alloc (.cells #[.pointer none] 39) := ⟨_, rfl⟩
  have hb0 : Below w.heap.size w w0 := by rw [hw0]; exact ext_alloc (ext_alloc (Below.refl _ _) _) _
  have hA : w0.heap[w.heap.size]? = some (.cells #[.slice none 0 0, .slice none 0 0] 116 (0, 0)) := by
    rw [hw0, heap_alloc_old _ _ (by simp)]; exact heap_alloc_new _ _
  have hs : w.heap.size + 1 < w0.heap.size := by rw [hw0]; simp
  have c0 : w0.cell? ⟨w.heap.size, 0, none⟩ = some (.slice none 0 0) := by rw [cell_of_row w0 _ 0 _ _ _ hA]; rfl
  have c1 : w0.cell? ⟨w.heap.size + 1, 0, none⟩ = some (.pointer none) := by
    have hB : w0.heap[w.heap.size + 1]? = some (.cells #[.pointer none] 39 (0, 0)) := by
      have := heap_alloc_new (w.alloc (.cells #[.slice none 0 0, .slice none 0 0] 116)) (.cells #[.pointer none] 39)
      rw [World.size_alloc] at this
      rw [hw0]; exact this
    rw [cell_of_row w0 _ 0 _ _ _ hB]; rfl
  have c0a : (w0.alloc (.cells #[.pointer none] 39)).cell? ⟨w.heap.size, 0, none⟩ = some (.slice none 0 0) := ((ext_alloc (Below.refl w0.heap.size w0) _).cell (p := ⟨w.heap.size, 0, none⟩) (by simp only; omega)).trans c0
  have hne1 := World.new_ne w0 ⟨w.heap.size + 1, 0, none⟩ c1
  have HA := hidIt hA
  have HB0 := hidIt hb0
  clear hA hb0
  go_enter Try.func61, Try.ntmps61
  go_wp2_with fail
  rw [← hw0]
  clear hw0
  refine wp_region_held_drew (S := fun w' => w'.cell? ⟨w.heap.size + 1, 0, none⟩ = some (.pointer none)) (by kernel_rfl) (by first | exact c1 | (dsimp only; go_keep)) (fun hHeld => ?_)
  refine wpAnyH_take (i := 0) (oi := _) (v := ?_) rfl (by kernel_rfl) (by kernel_rfl) (by kernel_rfl) (fun _ _ _ h => h) (Or.inl ⟨by rfl, ?_⟩) (by assumption) ?_
  rotate_left 1
  · intro wq hSw; (try dsimp only at hSw); go_simp; try (with_reducible rfl)
  try simp only [Act.put, List.setIfInBounds_toArray]
  refine wpAnyH_take (i := 1) (oi := _) (v := ?_) rfl (by kernel_rfl) (by kernel_rfl) (by kernel_rfl) (fun _ _ _ h => h) (Or.inl ⟨by rfl, ?_⟩) (by assumption) ?_
  rotate_left 1
  · intro wq hSw; (try dsimp only at hSw); go_simp; try (with_reducible rfl)
  try simp only [Act.put]
  refine wpAnyH_take (i := 2) (oi := _) (v := ?_) rfl (by kernel_rfl) (by kernel_rfl) (by kernel_rfl) (fun _ _ _ h => h) (Or.inl ⟨by rfl, ?_⟩) (by assumption) ?_
  rotate_left 1
  · intro wq hSw; (try dsimp only at hSw); go_simp; try (with_reducible rfl)
  try simp only [Act.put]
  refine wpAnyH_take (i := 3) (oi := _) (v := ?_) rfl (by kernel_rfl) (by kernel_rfl) (by kernel_rfl) (fun _ _ _ h => h) (Or.inl ⟨by rfl, ?_⟩) (by assumption) ?_
  rotate_left 1
  · intro wq hSw; (try dsimp only at hSw); go_simp; try (with_reducible rfl)
  try simp only [Act.put]
  refine wpAnyH_take (i := 5) (oi := _) (v := ?_) rfl (by kernel_rfl) (by kernel_rfl) (by kernel_rfl) (fun _ _ _ h => h) (Or.inl ⟨by rfl, ?_⟩) (by assumption) ?_
  rotate_left 1
  · intro wq hSw; (try dsimp only at hSw); go_simp; try (with_reducible rfl)
  try simp only [Act.put]
  refine wpAnyH_ready (rs := [4, 6]) (by kernel_rfl) (by simp) ?_
  refine AllReadyH.cons (o := _) rfl (fun K hK => ?_) (AllReadyH.cons (o := _) rfl (fun K hK => ?_) AllReadyH.nil)
  · skip
    go_simp
    refine hK.out _ _ ?_ (fun hHeld => ?_)
    · first | exact d1 | exact c1 | ((try dsimp only); go_keep)
    clear hK K
    try simp only [Act.put, List.setIfInBounds_toArray, List.set_cons_zero, List.set_cons_succ]
    refine wpAnyH_ready (rs := [6]) (by kernel_rfl) (by simp) ?_
    refine AllReadyH.cons (o := _) rfl (fun K hK => ?_) AllReadyH.nil
    go_simp
    refine hK.out _ _ ?_ (fun hHeld => ?_)
    · first | exact d1 | exact c1 | ((try dsimp only); go_keep)
    clear hK K
    try simp only [Act.put, List.setIfInBounds_toArray, List.set_cons_zero, List.set_cons_succ]
    refine wpAnyH_ready (rs := [7]) (by kernel_rfl) (by simp) ?_
    refine AllReadyH.cons (o := _) rfl (fun K hK => ?_) AllReadyH.nil
    rw [if_pos (by rfl)]
    refine wp_append_own _ _ _ 113 rfl w.heap.size 39 i0 _ 1 8 Try.underlying113 hi hz0 hz1 hz2 rfl (by decide) (.slice none 0 0) 0 [] rfl (World.ownsRow_nil _ _ _ _) ⟨w0.heap.size, 0, none⟩ 1 1 [.pointer none] rfl rfl (cell1_new _ _ _) (by simp [Value.oneCell']) (by simp [maxLen]) (by decide) (Nat.le_trans HB0.out.size (size_ad _ _)) ?_; intro v' w1 hown' hg' _; obtain ⟨gt, ct, rfl, hbt, hlt⟩ := form_pos (n := 0) hown'; have HO := hidIt hown'; have HG := hidIt hg'; have HBb : Hid (w1.heap[w.heap.size]? = some (.cells #[.slice none 0 0, .slice none 0 0] 116 (0, 0))) := (by unfold Hid; rw [hg'.block _ (Nat.lt_of_lt_of_le (show w.heap.size < w0.heap.size by omega) (size_ad _ _)) (by simp [Value.ownBlock])]; show (w0.alloc _).heap[_]? = _; rw [heap_alloc_old _ _ (by omega)]; exact HA.out); have d0 : w1.cell? ⟨w.heap.size, 0, none⟩ = some (.slice none 0 0) := (by rw [cell_of_row w1 _ 0 _ _ _ HBb.out]; rfl); have df : ∀ i, w1.frozen? ⟨w.heap.size, i, none⟩ = false := (by intro i; simp [World.frozen?, HBb.out]); have d1 : w1.cell? ⟨w.heap.size + 1, 0, none⟩ = some (.pointer none) := hg'.cell (((ext_alloc (Below.refl w0.heap.size w0) _).cell (p := ⟨w.heap.size + 1, 0, none⟩) hs).trans c1) (by simp [Value.ownBlock]); clear hown' hg'
    refine hK.out _ _ ?_ (fun hHeld => ?_)
    · first | exact d1 | exact c1 | ((try dsimp only); go_keep)
    clear hK K
    try simp only [Act.put, List.setIfInBounds_toArray]
    refine wpAnyH_take (i := 8) (oi := _) (v := ?_) rfl (by kernel_rfl) (by kernel_rfl) (by kernel_rfl) (fun _ _ _ h => h) (Or.inl ⟨by rfl, ?_⟩) (by assumption) ?_
    rotate_left 1
    · intro wq hSw; (try dsimp only at hSw); go_simp; try (with_reducible rfl)
    try simp only [Act.put]
    refine wpAnyH_take (i := 9) (oi := _) (v := ?_) rfl (by kernel_rfl) (by kernel_rfl) (by kernel_rfl) (fun _ _ _ h => h) (Or.inl ⟨by rfl, ?_⟩) (by assumption) ?_
    rotate_left 1
    · intro wq hSw; (try dsimp only at hSw); go_simp; try (with_reducible rfl)
    try simp only [Act.put]
    refine wpAnyH_ready (rs := [10]) (by kernel_rfl) (by simp) ?_
    refine AllReadyH.cons (o := _) rfl (fun K hK => ?_) AllReadyH.nil
    go_simp
    refine hK.out _ _ ?_ (fun hHeld => ?_)
    · first | exact d1 | exact c1 | ((try dsimp only); go_keep)
    clear hK K
    try simp only [Act.put, List.setIfInBounds_toArray, List.set_cons_zero, List.set_cons_succ]
    refine wpAnyH_done (by kernel_rfl) ?_ _
    obtain ⟨p1, p2⟩ := set1 HBb.out 0 (.slice (some ⟨gt, 0, none⟩) 1 ct)
    obtain ⟨w2, hw2⟩ : ∃ w2, w2 = w1.setCell ⟨w.heap.size, 0, none⟩ (.slice (some ⟨gt, 0, none⟩) 1 ct) := ⟨_, rfl⟩
    rw [← hw2] at p1 p2
    have e0 : w2.cell? ⟨w.heap.size, 0, none⟩ = some (.slice (some ⟨gt, 0, none⟩) 1 ct) := by rw [cell_of_row w2 _ 0 _ _ _ p1]; rfl
    have e1 : w2.cell? ⟨w.heap.size, 1, none⟩ = some (.slice none 0 0) := by rw [cell_of_row w2 _ 1 _ _ _ p1]; rfl
    have ef : ∀ i, w2.frozen? ⟨w.heap.size, i, none⟩ = false := by intro i; simp [World.frozen?, p1]
    have P1 := hidIt p1
    have P2 := hidIt p2
    have hs1 : w.heap.size < w1.heap.size := (Array.getElem?_eq_some_iff.1 HBb.out).1
    have hs2 : w.heap.size < w2.heap.size := (Array.getElem?_eq_some_iff.1 p1).1
    have OT : Hid (w2.ownsRow w.heap.size 39 1 (.slice (some ⟨gt, 0, none⟩) 1 ct) 1 [.pointer none]) := own_fr HO.out (Fr.of_grown (S := [116]) HBb.out (by simp) p2) (by decide)
    have HW2 : Hid (Below w.heap.size w w2) := below_put (Below.grown (ext_alloc HB0.out (.cells #[.pointer none] 39)).drew HG.out (Nat.le_trans HB0.out.size (size_ad _ _)) (by simp [Value.ownBlock])) (by omega) p2 (Nat.le_refl _)
    clear p1 p2 d0 d1 df
    go_upto_region 4 with fail
    rw [← hw2]
    clear hw2
    go_wp2_with (at_builtin; refine wpList_append_own _ rfl _ _ 114 rfl w.heap.size 31 i1 _ 1 24 Try.underlying114 hj hy0 hy1 hy2 rfl (by decide) (.slice none 0 0) 0 [] rfl (World.ownsRow_nil _ _ _ _) ⟨w2.heap.size, 0, none⟩ 1 1 [.slice none 0 0] rfl rfl (cell1_new' _ _ _) (by simp [Value.oneCell']) (by unfold maxLen; omega) (by decide) (by simp; omega) ?_; intro v2 w3 hown3 hg3 _; obtain ⟨gl, cl, rfl, hbl, hll⟩ := form_pos (n := 0) hown3; have HO3 := hidIt hown3; have HG3 := hidIt hg3; have HB3 : Hid (w3.heap[w.heap.size]? = some (.cells #[.slice (some ⟨gt, 0, none⟩) 1 ct, .slice none 0 0] 116 (0, 0))) := (by unfold Hid; rw [hg3.block _ (by simp; omega) (by simp [Value.ownBlock]), heap_alloc_old _ _ hs2, P1.out]; rfl); have k1 : w3.cell? ⟨w.heap.size, 1, none⟩ = some (.slice none 0 0) := (by rw [cell_of_row w3 _ 1 _ _ _ HB3.out]; rfl); have kf : ∀ i, w3.frozen? ⟨w.heap.size, i, none⟩ = false := (by intro i; simp [World.frozen?, HB3.out]); clear hown3 hg3)
    go_ret
    obtain ⟨r1, r2⟩ := set1 HB3.out 1 (.slice (some ⟨gl, 0, none⟩) 1 cl)
    have hF : Fr [116] w2 (w3.setCell ⟨w.heap.size, 1, none⟩ (.slice (some ⟨gl, 0, none⟩) 1 cl)) := (Fr.of_below (ext_alloc (Below.refl _ _) _)).trans ((Fr.of_own (World.ownsRow_nil _ w.heap.size 116 1) (by simp) HG3.out).trans (Fr.of_grown HB3.out (by simp) r2))
    refine ⟨w.heap.size, rfl, ⟨gt, ct, gl, cl, Nat.le_refl _, r1, own_fr OT.out hF (by decide), own_fr HO3.out (Fr.of_grown (S := [116]) HB3.out (by simp) r2) (by decide), rfl, rfl, ?_, ?_⟩, below_put (Below.grown (ext_alloc HW2.out _) HG3.out (by simp; omega) (by simp [Value.ownBlock])) (by have := (Array.getElem?_eq_some_iff.1 HB3.out).1; omega) r2 (Nat.le_refl _)⟩
    · intro i u xs h1 h2
      have hi0 : i = 0 := by have := (List.getElem?_eq_some_iff.1 h1).1; simp at this; exact this
      subst hi0
      simp at h1 h2
      subst h1; subst h2
      exact TT.nil _
    · intro i u xs h1 h2
      have hi0 : i = 0 := by have := (List.getElem?_eq_some_iff.1 h1).1; simp at this; exact this
      subst hi0
      simp at h1 h2
      subst h1; subst h2
      exact OwnR.nil _ _ _
  · skip
    go_simp
    refine hK.out _ _ ?_ (fun hHeld => ?_)
    · first | exact d1 | exact c1 | ((try dsimp only); go_keep)
    clear hK K
    try simp only [Act.put, List.setIfInBounds_toArray, List.set_cons_zero, List.set_cons_succ]
    refine wpAnyH_ready (rs := [4]) (by kernel_rfl) (by simp) ?_
    refine AllReadyH.cons (o := _) rfl (fun K hK => ?_) AllReadyH.nil
    go_simp
    refine hK.out _ _ ?_ (fun hHeld => ?_)
    · first | exact d1 | exact c1 | ((try dsimp only); go_keep)
    clear hK K
    try simp only [Act.put, List.setIfInBounds_toArray, List.set_cons_zero, List.set_cons_succ]
    refine wpAnyH_ready (rs := [7]) (by kernel_rfl) (by simp) ?_
    refine AllReadyH.cons (o := _) rfl (fun K hK => ?_) AllReadyH.nil
    rw [if_pos (by rfl)]
    refine wp_append_own _ _ _ 113 rfl w.heap.size 39 i0 _ 1 8 Try.underlying113 hi hz0 hz1 hz2 rfl (by decide) (.slice none 0 0) 0 [] rfl (World.ownsRow_nil _ _ _ _) ⟨w0.heap.size, 0, none⟩ 1 1 [.pointer none] rfl rfl (cell1_new _ _ _) (by simp [Value.oneCell']) (by simp [maxLen]) (by decide) (Nat.le_trans HB0.out.size (size_ad _ _)) ?_; intro v' w1 hown' hg' _; obtain ⟨gt, ct, rfl, hbt, hlt⟩ := form_pos (n := 0) hown'; have HO := hidIt hown'; have HG := hidIt hg'; have HBb : Hid (w1.heap[w.heap.size]? = some (.cells #[.slice none 0 0, .slice none 0 0] 116 (0, 0))) := (by unfold Hid; rw [hg'.block _ (Nat.lt_of_lt_of_le (show w.heap.size < w0.heap.size by omega) (size_ad _ _)) (by simp [Value.ownBlock])]; show (w0.alloc _).heap[_]? = _; rw [heap_alloc_old _ _ (by omega)]; exact HA.out); have d0 : w1.cell? ⟨w.heap.size, 0, none⟩ = some (.slice none 0 0) := (by rw [cell_of_row w1 _ 0 _ _ _ HBb.out]; rfl); have df : ∀ i, w1.frozen? ⟨w.heap.size, i, none⟩ = false := (by intro i; simp [World.frozen?, HBb.out]); have d1 : w1.cell? ⟨w.heap.size + 1, 0, none⟩ = some (.pointer none) := hg'.cell (((ext_alloc (Below.refl w0.heap.size w0) _).cell (p := ⟨w.heap.size + 1, 0, none⟩) hs).trans c1) (by simp [Value.ownBlock]); clear hown' hg'
    refine hK.out _ _ ?_ (fun hHeld => ?_)
    · first | exact d1 | exact c1 | ((try dsimp only); go_keep)
    clear hK K
    try simp only [Act.put, List.setIfInBounds_toArray]
    refine wpAnyH_take (i := 8) (oi := _) (v := ?_) rfl (by kernel_rfl) (by kernel_rfl) (by kernel_rfl) (fun _ _ _ h => h) (Or.inl ⟨by rfl, ?_⟩) (by assumption) ?_
    rotate_left 1
    · intro wq hSw; (try dsimp only at hSw); go_simp; try (with_reducible rfl)
    try simp only [Act.put]
    refine wpAnyH_take (i := 9) (oi := _) (v := ?_) rfl (by kernel_rfl) (by kernel_rfl) (by kernel_rfl) (fun _ _ _ h => h) (Or.inl ⟨by rfl, ?_⟩) (by assumption) ?_
    rotate_left 1
    · intro wq hSw; (try dsimp only at hSw); go_simp; try (with_reducible rfl)
    try simp only [Act.put]
    refine wpAnyH_ready (rs := [10]) (by kernel_rfl) (by simp) ?_
    refine AllReadyH.cons (o := _) rfl (fun K hK => ?_) AllReadyH.nil
    go_simp
    refine hK.out _ _ ?_ (fun hHeld => ?_)
    · first | exact d1 | exact c1 | ((try dsimp only); go_keep)
    clear hK K
    try simp only [Act.put, List.setIfInBounds_toArray, List.set_cons_zero, List.set_cons_succ]
    refine wpAnyH_done (by kernel_rfl) ?_ _
    obtain ⟨p1, p2⟩ := set1 HBb.out 0 (.slice (some ⟨gt, 0, none⟩) 1 ct)
    obtain ⟨w2, hw2⟩ : ∃ w2, w2 = w1.setCell ⟨w.heap.size, 0, none⟩ (.slice (some ⟨gt, 0, none⟩) 1 ct) := ⟨_, rfl⟩
    rw [← hw2] at p1 p2
    have e0 : w2.cell? ⟨w.heap.size, 0, none⟩ = some (.slice (some ⟨gt, 0, none⟩) 1 ct) := by rw [cell_of_row w2 _ 0 _ _ _ p1]; rfl
    have e1 : w2.cell? ⟨w.heap.size, 1, none⟩ = some (.slice none 0 0) := by rw [cell_of_row w2 _ 1 _ _ _ p1]; rfl
    have ef : ∀ i, w2.frozen? ⟨w.heap.size, i, none⟩ = false := by intro i; simp [World.frozen?, p1]
    have P1 := hidIt p1
    have P2 := hidIt p2
    have hs1 : w.heap.size < w1.heap.size := (Array.getElem?_eq_some_iff.1 HBb.out).1
    have hs2 : w.heap.size < w2.heap.size := (Array.getElem?_eq_some_iff.1 p1).1
    have OT : Hid (w2.ownsRow w.heap.size 39 1 (.slice (some ⟨gt, 0, none⟩) 1 ct) 1 [.pointer none]) := own_fr HO.out (Fr.of_grown (S := [116]) HBb.out (by simp) p2) (by decide)
    have HW2 : Hid (Below w.heap.size w w2) := below_put (Below.grown (ext_alloc HB0.out (.cells #[.pointer none] 39)).drew HG.out (Nat.le_trans HB0.out.size (size_ad _ _)) (by simp [Value.ownBlock])) (by omega) p2 (Nat.le_refl _)
    clear p1 p2 d0 d1 df
    go_upto_region 4 with fail
    rw [← hw2]
    clear hw2
    go_wp2_with (at_builtin; refine wpList_append_own _ rfl _ _ 114 rfl w.heap.size 31 i1 _ 1 24 Try.underlying114 hj hy0 hy1 hy2 rfl (by decide) (.slice none 0 0) 0 [] rfl (World.ownsRow_nil _ _ _ _) ⟨w2.heap.size, 0, none⟩ 1 1 [.slice none 0 0] rfl rfl (cell1_new' _ _ _) (by simp [Value.oneCell']) (by unfold maxLen; omega) (by decide) (by simp; omega) ?_; intro v2 w3 hown3 hg3 _; obtain ⟨gl, cl, rfl, hbl, hll⟩ := form_pos (n := 0) hown3; have HO3 := hidIt hown3; have HG3 := hidIt hg3; have HB3 : Hid (w3.heap[w.heap.size]? = some (.cells #[.slice (some ⟨gt, 0, none⟩) 1 ct, .slice none 0 0] 116 (0, 0))) := (by unfold Hid; rw [hg3.block _ (by simp; omega) (by simp [Value.ownBlock]), heap_alloc_old _ _ hs2, P1.out]; rfl); have k1 : w3.cell? ⟨w.heap.size, 1, none⟩ = some (.slice none 0 0) := (by rw [cell_of_row w3 _ 1 _ _ _ HB3.out]; rfl); have kf : ∀ i, w3.frozen? ⟨w.heap.size, i, none⟩ = false := (by intro i; simp [World.frozen?, HB3.out]); clear hown3 hg3)
    go_ret
    obtain ⟨r1, r2⟩ := set1 HB3.out 1 (.slice (some ⟨gl, 0, none⟩) 1 cl)
    have hF : Fr [116] w2 (w3.setCell ⟨w.heap.size, 1, none⟩ (.slice (some ⟨gl, 0, none⟩) 1 cl)) := (Fr.of_below (ext_alloc (Below.refl _ _) _)).trans ((Fr.of_own (World.ownsRow_nil _ w.heap.size 116 1) (by simp) HG3.out).trans (Fr.of_grown HB3.out (by simp) r2))
    refine ⟨w.heap.size, rfl, ⟨gt, ct, gl, cl, Nat.le_refl _, r1, own_fr OT.out hF (by decide), own_fr HO3.out (Fr.of_grown (S := [116]) HB3.out (by simp) r2) (by decide), rfl, rfl, ?_, ?_⟩, below_put (Below.grown (ext_alloc HW2.out _) HG3.out (by simp; omega) (by simp [Value.ownBlock])) (by have := (Array.getElem?_eq_some_iff.1 HB3.out).1; omega) r2 (Nat.le_refl _)⟩
    · intro i u xs h1 h2
      have hi0 : i = 0 := by have := (List.getElem?_eq_some_iff.1 h1).1; simp at this; exact this
      subst hi0
      simp at h1 h2
      subst h1; subst h2
      exact TT.nil _
    · intro i u xs h1 h2
      have hi0 : i = 0 := by have := (List.getElem?_eq_some_iff.1 h1).1; simp at this; exact this
      subst hi0
      simp at h1 h2
      subst h1; subst h2
      exact OwnR.nil _ _ _
end Go.Proofs.Ytlnachbigchobaa
