/- The law's do: Append and Put. -/
import Derived.Test.YtaoaihjiieandaaDLDo
namespace Go.Proofs.Ytaoaihjiieandaa
open Go.RowKit

theorem Ku.of {U : Prop} {F : Nat → Prop} {w w' : World} (hb : Below w.heap.size w w') : Ku U F w w' := Kps.of_below _ hb
theorem Ku.trans {U : Prop} {F : Nat → Prop} {w w' w'' : World} (h : Ku U F w w') (k : Ku U F w' w'') : Ku U F w w'' :=
  Kps.trans h k (fun i hi e => ⟨e.1, Classical.byContradiction fun hn => hn (by
    have hs := h.same i hi (fun o => hn o.2)
    exact e.2.elim (fun e => .inl (e.same hs)) (fun e => .inr ⟨e.1, e.2.same hs⟩))⟩)
theorem Ku.less {U : Prop} {F F' : Nat → Prop} {w w' : World} (h : Ku U F w w') (hF : ∀ q, F' q → F q) : Ku U F' w w' := h.mono (fun k _ e => ⟨fun f => e.1 (hF k f), e.2⟩)
theorem Ku.keep {U : Prop} {F : Nat → Prop} {w w' : World} (h : Ku U F w w') {k : Nat} {cs : Array Value} {T : TypeId} (hc : w.heap[k]? = some (.cells cs T (0, 0))) (hT : ¬ DK T) (hU : T ≠ 5) : w'.heap[k]? = w.heap[k]? :=
  h.same k (Array.getElem?_eq_some_iff.1 hc).1 (fun e => e.2.elim (NI.not hc hT) (fun e => by obtain ⟨_, cs', e⟩ := e; rw [hc] at e; cases e; exact hU rfl))
theorem Ku.below {U : Prop} {F : Nat → Prop} {w w' : World} (h : Ku U F w w') {n : Nat} (hn : n ≤ w.heap.size) (hF : ∀ k, k < n → F k) : Below n w w' := Kps.below h hn (fun k e => Classical.byContradiction fun h0 => e.1 (hF k (by omega)))
theorem own_ge {w : World} {base : Nat} {e : TypeId} {size n : Nat} {v : Value} {xs : List Value} (h : w.ownsRow base e size v n xs) {g : Nat} (hg : v.ownBlock = some g) : base ≤ g ∧ g < w.heap.size := by
  rcases h.2 with ⟨rfl, _⟩ | ⟨g', cap, cur, rfl, h0, hc, _⟩
  · cases hg
  · cases hg
    exact ⟨h0, (Array.getElem?_eq_some_iff.1 hc).1⟩
theorem op_cell {w w' : World} {b : Nat} {cs : Array Value} {T : TypeId} (h : w.heap[b]? = some (.cells cs T (0, 0))) (e : w'.heap[b]? = w.heap[b]?) (i : Nat) : w'.cell? ⟨b, i, none⟩ = cs[i]? := by
  simp [World.cell?, e.trans h]
set_option maxRecDepth 100000 in
set_option maxHeartbeats 4000000 in
theorem law_put {F : Nat → Prop} {M : Nat} {w : World} {d : Nat} {D : Dk} (h : Dsk F M w d D) (hM : M + 3 ≤ 1099511627776) (x : So) (hn : x.nm.length ≤ 9223372036854775807) (hr : RdU w x.bv x.b) (hbl : x.b.length ≤ 1099511627776) (h256 : ∀ z ∈ x.b, 0 ≤ z ∧ z < 256) (hk : x.k = 9) :
    Calls Try.prog 21 #[pp d, opV x] w fun e w' => DoneE (opPut x.nm x.b D).e e ∧ Dsk F (M + 3) w' d (opPut x.nm x.b D).d ∧ Kd F w w' := by
  unfold opV
  rw [hk]
  obtain ⟨va, vc, hv⟩ := hr.form
  rw [hv] at hr ⊢
  obtain ⟨w1, hw1, k1, hb1⟩ : ∃ w1, w1 = w.alloc (.cells #[.int .i64 9, .int .i64 x.who, sv x.nm, sv x.tn, .slice va x.b.length vc, .slice x.fa x.fn x.fc, .int .i64 x.cn, .slice x.ca x.cl x.cc] 48) ∧ w1.heap[w.heap.size]? = some (.cells #[.int .i64 9, .int .i64 x.who, sv x.nm, sv x.tn, .slice va x.b.length vc, .slice x.fa x.fn x.fc, .int .i64 x.cn, .slice x.ca x.cl x.cc] 48 (0, 0)) ∧ Below w.heap.size w w1 := ⟨_, rfl, heap_alloc_new _ _, ext_alloc (Below.refl _ _) _⟩
  have z0 : w1.cell? ⟨w.heap.size, 0, none⟩ = some (.int .i64 9) := op_cell k1 rfl 0
  have HR := hidIt (hr.ext hb1)
  have HB := hidIt hb1
  have HS : Hid (∀ w9, Below w1.heap.size w1 w9 → w9.cell? ⟨w.heap.size, 2, none⟩ = some (sv x.nm) ∧ w9.cell? ⟨w.heap.size, 4, none⟩ = some (.slice va x.b.length vc)) := fun w9 hb => by
    have e := hb.block w.heap.size (Array.getElem?_eq_some_iff.1 k1).1
    exact ⟨op_cell k1 e 2, op_cell k1 e 4⟩
  have PT : Hid (∀ w9, Below w1.heap.size w1 w9 → ∀ v, OwnU w9 w1.heap.size v x.b → Calls Try.prog 10 #[pp d, sv x.nm, v] w9 fun e w' => ∃ u, e = .returned u ∧ ErrV w' w9.heap.size u ⟨#[112, 117, 116]⟩ (bsOf x.nm) ((0 : Nat) : Int) (opPut x.nm x.b D).e ∧ (Dsk F (M + 3) w' d (opPut x.nm x.b D).d ∧ Kd F w w') ∧ (w'.cell? ⟨w.heap.size, 2, none⟩ = some (sv x.nm) ∧ w'.cell? ⟨w.heap.size, 4, none⟩ = some (.slice va x.b.length vc))) := fun w9 hb9 v ho => by
    refine (Put_any ((h.ext hb1).pen hb9) hM x.nm hn v x.b ho.rdu hbl h256 (fun g hg => .inr (own_ge ho hg))).mono ?_
    rintro e w' ⟨u, rfl, p1, p2, p3⟩
    have e8 := (hb9.block w.heap.size (Array.getElem?_eq_some_iff.1 k1).1)
    have e9 := (p3.keep (e8.trans k1) (by decide) (by decide)).trans e8
    exact ⟨u, rfl, p1, ⟨p2.less (fun _ hq => .inl hq), ((Kd.of HB.out).trans (((Kd.of hb9).trans (p3.kd.less (fun _ hq => .inl hq)))))⟩, op_cell k1 e9 2, op_cell k1 e9 4⟩
  have ks := HS.out w1 (Below.refl _ _)
  clear k1 hb1 h hr hv
  go_enter Try.func21, Try.ntmps21
  go_upto_region 1 with fail
  rw [← hw1]
  clear hw1
  go_upto_region 20 with fail
  refine wp_region_held_drew (S := fun w'' => w''.cell? ⟨w.heap.size, 2, none⟩ = some (sv x.nm) ∧ w''.cell? ⟨w.heap.size, 4, none⟩ = some (.slice va x.b.length vc)) (by kernel_rfl) (ks) (fun hHeld => ?_)
  refine wpAnyH_take (i := 0) (oi := _) (v := ?_) rfl (by kernel_rfl) (by kernel_rfl) (by kernel_rfl) (fun _ _ _ h => h) (Or.inl ⟨by rfl, ?_⟩) (by assumption) ?_
  rotate_left 1
  · intro wq hSw; (try dsimp only at hSw); go_simp; try (with_reducible rfl)
  try simp only [Act.put, List.getElem_toArray, List.getElem_cons_zero, List.setIfInBounds_toArray, List.set_cons_zero, List.set_cons_succ]
  refine wpAnyH_take (i := 1) (oi := _) (v := ?_) rfl (by kernel_rfl) (by kernel_rfl) (by kernel_rfl) (fun _ _ _ h => h) (Or.inl ⟨by rfl, ?_⟩) (by assumption) ?_
  rotate_left 1
  · intro wq hSw; (try dsimp only at hSw); go_simp; try (with_reducible rfl)
  try simp only [Act.put, List.getElem_toArray, List.getElem_cons_succ, List.getElem_cons_zero, List.setIfInBounds_toArray, List.set_cons_zero, List.set_cons_succ]
  refine wpAnyH_take (i := 2) (oi := _) (v := ?_) rfl (by kernel_rfl) (by kernel_rfl) (by kernel_rfl) (fun _ _ _ h => h) (Or.inl ⟨by rfl, ?_⟩) (by assumption) ?_
  rotate_left 1
  · intro wq hSw; (try dsimp only at hSw); go_simp; try (with_reducible rfl)
  try simp only [Act.put, List.getElem_toArray, List.getElem_cons_succ, List.getElem_cons_zero, List.setIfInBounds_toArray, List.set_cons_zero, List.set_cons_succ]
  refine wpAnyH_take (i := 3) (oi := _) (v := ?_) rfl (by kernel_rfl) (by kernel_rfl) (by kernel_rfl) (fun _ _ _ h => h) (Or.inl ⟨by rfl, ?_⟩) (by assumption) ?_
  rotate_left 1
  · intro wq hSw; (try dsimp only at hSw); go_simp; try (with_reducible rfl)
  try simp only [Act.put, List.getElem_toArray, List.getElem_cons_succ, List.getElem_cons_zero, List.setIfInBounds_toArray, List.set_cons_zero, List.set_cons_succ]
  refine wpAnyH_take (i := 4) (oi := _) (v := ?_) rfl (by kernel_rfl) (by kernel_rfl) (by kernel_rfl) (fun _ _ _ h => h) (Or.inl ⟨by rfl, ?_⟩) (by assumption) ?_
  rotate_left 1
  · intro wq hSw; (try dsimp only at hSw); go_simp; try (with_reducible rfl)
  try simp only [Act.put, List.getElem_toArray, List.getElem_cons_succ, List.getElem_cons_zero, List.setIfInBounds_toArray, List.set_cons_zero, List.set_cons_succ]
  refine wpAnyH_ready (rs := [5]) (by kernel_rfl) (by simp) ?_
  refine AllReadyH.cons (o := _) rfl (fun K hK => ?_) AllReadyH.nil
  rw [if_pos (by rfl)]
  refine wp_append_copy _ _ (by rfl) (by rfl) (by kernel_rfl) _ (by rfl) x.b (HR.out.ext (Below.drew (Below.refl _ _))) (by omega) ?_; intro v9 w9 ho9 hb9; have HO9 : Hid (OwnU w9 w1.heap.size v9 x.b) := ho9; have HB9 := hidIt (ext_trans (Below.drew (Below.refl w1.heap.size w1)) hb9); clear ho9 hb9 ks; have ks := HS.out w9 HB9.out
  refine hK.out _ _ ?_ (fun hHeld => ?_)
  · (try simp only [World.cell?_drew]); exact ks
  clear hK K
  try simp only [Act.put, List.getElem_toArray, List.getElem_cons_succ, List.getElem_cons_zero, List.setIfInBounds_toArray, List.set_cons_zero, List.set_cons_succ]
  refine wpAnyH_ready (rs := [6]) (by kernel_rfl) (by simp) ?_
  refine AllReadyH.cons (o := _) rfl (fun K hK => ?_) AllReadyH.nil
  go_simp
  refine (PT.out w9 HB9.out v9 HO9.out).mono ?_; rintro e y2 ⟨u, rfl, h1, h2, h3⟩; have H1 := hidIt h1; have H2 := hidIt h2; clear h1 h2 ks; have ks := h3; clear h3; try dsimp only
  refine hK.out _ _ ?_ (fun hHeld => ?_)
  · (try simp only [World.cell?_drew]); exact ks
  clear hK K
  try simp only [Act.put, List.getElem_toArray, List.getElem_cons_succ, List.getElem_cons_zero, List.setIfInBounds_toArray, List.set_cons_zero, List.set_cons_succ]
  refine wpAnyH_take (i := 7) (oi := _) (v := ?_) rfl (by kernel_rfl) (by kernel_rfl) (by kernel_rfl) (fun _ _ _ h => h) (Or.inl ⟨by rfl, ?_⟩) (by assumption) ?_
  rotate_left 1
  · intro wq hSw; (try dsimp only at hSw); go_simp; try (with_reducible rfl)
  try simp only [Act.put, List.getElem_toArray, List.getElem_cons_succ, List.getElem_cons_zero, List.setIfInBounds_toArray, List.set_cons_zero, List.set_cons_succ]
  refine wpAnyH_done (by kernel_rfl) ?_ _
  rcases H1.out with ⟨he, rfl⟩ | ⟨he, q, hq, rfl, hqc⟩
  · have HE := hidIt he
    clear he H1 PT HS
    go_wp2_with fail
    go_ret
    exact ⟨⟨_, rfl, by rw [HE.out]; simp⟩, H2.out⟩
  · have HE := hidIt he
    clear he hq hqc H1 PT HS
    go_wp2_with fail
    go_ret
    exact ⟨⟨_, rfl, fun _ => HE.out, fun _ => rfl⟩, H2.out⟩
set_option maxRecDepth 100000 in
set_option maxHeartbeats 4000000 in
theorem law_app (CR : CrashOk) {F : Nat → Prop} {M : Nat} {w : World} {d : Nat} {D : Dk} (h : Dsk F M w d D) (hM : M + 3 ≤ 1099511627776) (x : So) (hn : x.nm.length ≤ 9223372036854775807) (hr : RdU w x.bv x.b) (hbl : x.b.length ≤ 1099511627776) (h256 : ∀ z ∈ x.b, 0 ≤ z ∧ z < 256) (hk : x.k = 2) :
    Calls Try.prog 21 #[pp d, opV x] w fun e w' => DoneE (take (opApp x.nm x.b) (some (opPart x.nm x.b)) D).e e ∧ Dsk F (M + 3) w' d (take (opApp x.nm x.b) (some (opPart x.nm x.b)) D).d ∧ Ku True F w w' := by
  unfold opV
  rw [hk]
  obtain ⟨va, vc, hv⟩ := hr.form
  rw [hv] at hr ⊢
  obtain ⟨w1, hw1, k1, hb1⟩ : ∃ w1, w1 = w.alloc (.cells #[.int .i64 2, .int .i64 x.who, sv x.nm, sv x.tn, .slice va x.b.length vc, .slice x.fa x.fn x.fc, .int .i64 x.cn, .slice x.ca x.cl x.cc] 48) ∧ w1.heap[w.heap.size]? = some (.cells #[.int .i64 2, .int .i64 x.who, sv x.nm, sv x.tn, .slice va x.b.length vc, .slice x.fa x.fn x.fc, .int .i64 x.cn, .slice x.ca x.cl x.cc] 48 (0, 0)) ∧ Below w.heap.size w w1 := ⟨_, rfl, heap_alloc_new _ _, ext_alloc (Below.refl _ _) _⟩
  have z0 : w1.cell? ⟨w.heap.size, 0, none⟩ = some (.int .i64 2) := op_cell k1 rfl 0
  have HR := hidIt (hr.ext hb1)
  have HB := hidIt hb1
  have HS : Hid (∀ w9, Below w1.heap.size w1 w9 → w9.cell? ⟨w.heap.size, 2, none⟩ = some (sv x.nm) ∧ w9.cell? ⟨w.heap.size, 4, none⟩ = some (.slice va x.b.length vc)) := fun w9 hb => by
    have e := hb.block w.heap.size (Array.getElem?_eq_some_iff.1 k1).1
    exact ⟨op_cell k1 e 2, op_cell k1 e 4⟩
  have PT : Hid (∀ w9, Below w1.heap.size w1 w9 → ∀ v, OwnU w9 w1.heap.size v x.b → Calls Try.prog 23 #[pp d, sv x.nm, v] w9 fun e w' => ∃ u, e = .returned (.tuple #[.int .i64 ((take (opApp x.nm x.b) (some (opPart x.nm x.b)) D).n : Nat), u]) ∧ ErrV w' w9.heap.size u ⟨#[97, 112, 112, 101, 110, 100]⟩ (bsOf x.nm) (stepNo D : Int) (take (opApp x.nm x.b) (some (opPart x.nm x.b)) D).e ∧ (Dsk F (M + 3) w' d (take (opApp x.nm x.b) (some (opPart x.nm x.b)) D).d ∧ Ku True F w w') ∧ (w'.cell? ⟨w.heap.size, 2, none⟩ = some (sv x.nm) ∧ w'.cell? ⟨w.heap.size, 4, none⟩ = some (.slice va x.b.length vc))) := fun w9 hb9 v ho => by
    refine (Append_any CR ((h.ext hb1).pen hb9) hM x.nm hn v x.b ho.rdu hbl h256 (fun g hg => .inr (own_ge ho hg))).mono ?_
    rintro e w' ⟨u, rfl, p1, p2, p3⟩
    have e8 := (hb9.block w.heap.size (Array.getElem?_eq_some_iff.1 k1).1)
    have e9 := (p3.keep (e8.trans k1) (by decide) (by decide)).trans e8
    exact ⟨u, rfl, p1, ⟨p2.less (fun _ hq => .inl hq), ((Ku.of HB.out).trans (((Ku.of hb9).trans (p3.less (fun _ hq => .inl hq)))))⟩, op_cell k1 e9 2, op_cell k1 e9 4⟩
  have ks := HS.out w1 (Below.refl _ _)
  clear k1 hb1 h hr hv
  go_enter Try.func21, Try.ntmps21
  go_upto_region 1 with fail
  rw [← hw1]
  clear hw1
  go_upto_region 6 with fail
  refine wp_region_held_drew (S := fun w'' => w''.cell? ⟨w.heap.size, 2, none⟩ = some (sv x.nm) ∧ w''.cell? ⟨w.heap.size, 4, none⟩ = some (.slice va x.b.length vc)) (by kernel_rfl) (ks) (fun hHeld => ?_)
  refine wpAnyH_take (i := 0) (oi := _) (v := ?_) rfl (by kernel_rfl) (by kernel_rfl) (by kernel_rfl) (fun _ _ _ h => h) (Or.inl ⟨by rfl, ?_⟩) (by assumption) ?_
  rotate_left 1
  · intro wq hSw; (try dsimp only at hSw); go_simp; try (with_reducible rfl)
  try simp only [Act.put, List.getElem_toArray, List.getElem_cons_zero, List.setIfInBounds_toArray, List.set_cons_zero, List.set_cons_succ]
  refine wpAnyH_take (i := 1) (oi := _) (v := ?_) rfl (by kernel_rfl) (by kernel_rfl) (by kernel_rfl) (fun _ _ _ h => h) (Or.inl ⟨by rfl, ?_⟩) (by assumption) ?_
  rotate_left 1
  · intro wq hSw; (try dsimp only at hSw); go_simp; try (with_reducible rfl)
  try simp only [Act.put, List.getElem_toArray, List.getElem_cons_succ, List.getElem_cons_zero, List.setIfInBounds_toArray, List.set_cons_zero, List.set_cons_succ]
  refine wpAnyH_take (i := 2) (oi := _) (v := ?_) rfl (by kernel_rfl) (by kernel_rfl) (by kernel_rfl) (fun _ _ _ h => h) (Or.inl ⟨by rfl, ?_⟩) (by assumption) ?_
  rotate_left 1
  · intro wq hSw; (try dsimp only at hSw); go_simp; try (with_reducible rfl)
  try simp only [Act.put, List.getElem_toArray, List.getElem_cons_succ, List.getElem_cons_zero, List.setIfInBounds_toArray, List.set_cons_zero, List.set_cons_succ]
  refine wpAnyH_take (i := 3) (oi := _) (v := ?_) rfl (by kernel_rfl) (by kernel_rfl) (by kernel_rfl) (fun _ _ _ h => h) (Or.inl ⟨by rfl, ?_⟩) (by assumption) ?_
  rotate_left 1
  · intro wq hSw; (try dsimp only at hSw); go_simp; try (with_reducible rfl)
  try simp only [Act.put, List.getElem_toArray, List.getElem_cons_succ, List.getElem_cons_zero, List.setIfInBounds_toArray, List.set_cons_zero, List.set_cons_succ]
  refine wpAnyH_take (i := 4) (oi := _) (v := ?_) rfl (by kernel_rfl) (by kernel_rfl) (by kernel_rfl) (fun _ _ _ h => h) (Or.inl ⟨by rfl, ?_⟩) (by assumption) ?_
  rotate_left 1
  · intro wq hSw; (try dsimp only at hSw); go_simp; try (with_reducible rfl)
  try simp only [Act.put, List.getElem_toArray, List.getElem_cons_succ, List.getElem_cons_zero, List.setIfInBounds_toArray, List.set_cons_zero, List.set_cons_succ]
  refine wpAnyH_ready (rs := [5]) (by kernel_rfl) (by simp) ?_
  refine AllReadyH.cons (o := _) rfl (fun K hK => ?_) AllReadyH.nil
  rw [if_pos (by rfl)]
  refine wp_append_copy _ _ (by rfl) (by rfl) (by kernel_rfl) _ (by rfl) x.b (HR.out.ext (Below.drew (Below.refl _ _))) (by omega) ?_; intro v9 w9 ho9 hb9; have HO9 : Hid (OwnU w9 w1.heap.size v9 x.b) := ho9; have HB9 := hidIt (ext_trans (Below.drew (Below.refl w1.heap.size w1)) hb9); clear ho9 hb9 ks; have ks := HS.out w9 HB9.out
  refine hK.out _ _ ?_ (fun hHeld => ?_)
  · (try simp only [World.cell?_drew]); exact ks
  clear hK K
  try simp only [Act.put, List.getElem_toArray, List.getElem_cons_succ, List.getElem_cons_zero, List.setIfInBounds_toArray, List.set_cons_zero, List.set_cons_succ]
  refine wpAnyH_ready (rs := [6]) (by kernel_rfl) (by simp) ?_
  refine AllReadyH.cons (o := _) rfl (fun K hK => ?_) AllReadyH.nil
  go_simp
  refine (PT.out w9 HB9.out v9 HO9.out).mono ?_; rintro e y2 ⟨u, rfl, h1, h2, h3⟩; have H1 := hidIt h1; have H2 := hidIt h2; clear h1 h2 ks; have ks := h3; clear h3; try dsimp only
  refine hK.out _ _ ?_ (fun hHeld => ?_)
  · (try simp only [World.cell?_drew]); exact ks
  clear hK K
  try simp only [Act.put, List.getElem_toArray, List.getElem_cons_succ, List.getElem_cons_zero, List.setIfInBounds_toArray, List.set_cons_zero, List.set_cons_succ]
  refine wpAnyH_take (i := 7) (oi := _) (v := ?_) rfl (by kernel_rfl) (by kernel_rfl) (by kernel_rfl) (fun _ _ _ h => h) (Or.inl ⟨by rfl, ?_⟩) (by assumption) ?_
  rotate_left 1
  · intro wq hSw; (try dsimp only at hSw); go_simp; try (with_reducible rfl)
  try simp only [Act.put, List.getElem_toArray, List.getElem_cons_succ, List.getElem_cons_zero, List.setIfInBounds_toArray, List.set_cons_zero, List.set_cons_succ]
  refine wpAnyH_take (i := 8) (oi := _) (v := ?_) rfl (by kernel_rfl) (by kernel_rfl) (by kernel_rfl) (fun _ _ _ h => h) (Or.inl ⟨by rfl, ?_⟩) (by assumption) ?_
  rotate_left 1
  · intro wq hSw; (try dsimp only at hSw); go_simp; try (with_reducible rfl)
  try simp only [Act.put, List.getElem_toArray, List.getElem_cons_succ, List.getElem_cons_zero, List.setIfInBounds_toArray, List.set_cons_zero, List.set_cons_succ]
  refine wpAnyH_take (i := 9) (oi := _) (v := ?_) rfl (by kernel_rfl) (by kernel_rfl) (by kernel_rfl) (fun _ _ _ h => h) (Or.inl ⟨by rfl, ?_⟩) (by assumption) ?_
  rotate_left 1
  · intro wq hSw; (try dsimp only at hSw); go_simp; try (with_reducible rfl)
  try simp only [Act.put, List.getElem_toArray, List.getElem_cons_succ, List.getElem_cons_zero, List.setIfInBounds_toArray, List.set_cons_zero, List.set_cons_succ]
  refine wpAnyH_take (i := 10) (oi := _) (v := ?_) rfl (by kernel_rfl) (by kernel_rfl) (by kernel_rfl) (fun _ _ _ h => h) (Or.inl ⟨by rfl, ?_⟩) (by assumption) ?_
  rotate_left 1
  · intro wq hSw; (try dsimp only at hSw); go_simp; try (with_reducible rfl)
  try simp only [Act.put, List.getElem_toArray, List.getElem_cons_succ, List.getElem_cons_zero, List.setIfInBounds_toArray, List.set_cons_zero, List.set_cons_succ]
  refine wpAnyH_done (by kernel_rfl) ?_ _
  rcases H1.out with ⟨he, rfl⟩ | ⟨he, q, hq, rfl, hqc⟩
  · have HE := hidIt he
    clear he H1 PT HS
    go_wp2_with fail
    go_ret
    exact ⟨⟨_, rfl, by rw [HE.out]; simp⟩, H2.out⟩
  · have HE := hidIt he
    clear he hq hqc H1 PT HS
    go_wp2_with fail
    go_ret
    exact ⟨⟨_, rfl, fun _ => HE.out, fun _ => rfl⟩, H2.out⟩
end Go.Proofs.Ytaoaihjiieandaa
