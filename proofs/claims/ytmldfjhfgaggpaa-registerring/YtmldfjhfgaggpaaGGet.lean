/- register's Get. -/
import Derived.Test.YtmldfjhfgaggpaaGTak2
namespace Go.Proofs.Ytmldfjhfgaggpaa
open Go.RowKit
variable {F : Nat → Prop}

/-- Get: the error, what is told. -/
def getB (m : Int → Option Rg) (p n : Int) : Int × Option Rg := if nmB n = true then (match m (sml (if unB n = true then p else n)) with
  | none => (112, none)
  | some x => (0, some x)) else (110, none)
def GtR (w : World) (x : Int × Option Rg) (e : Ending) (w' : World) : Prop := (match x with
  | (er, none) => e = .returned (.tuple #[.agg #[.int .i64 0, .slice none 0 0], .int .i64 er])
  | (er, some y) => ∃ u, e = .returned (.tuple #[.agg #[.int .i64 y.k, u], .int .i64 er]) ∧ OwnI w' w.heap.size u y.t) ∧ Below w.heap.size w w'
theorem Bk.pin {w : World} {b bm N : Nat} {m : Int → Option Rg} {p : Int} (h : Bk F w b bm N m p) : In64 p := h.2.1

set_option maxRecDepth 100000 in
set_option maxHeartbeats 4000000 in
theorem Get_any (w : World) (b bm N : Nat) (m : Int → Option Rg) (p n : Int) (hB : Bk F w b bm N m p) (hn : In64 n) :
    Calls Try.prog 20 #[.pointer (some ⟨b, 0, none⟩), .int .i64 n] w (GtR w (getB m p n)) := by
  obtain ⟨w1, hw1, k0, hb1⟩ : ∃ w1, w1 = w.alloc (.cells #[.int .i64 0, .slice none 0 0] 31) ∧ w1.heap[w.heap.size]? = some (.cells #[.int .i64 0, .slice none 0 0] 31 (0, 0)) ∧ Below w.heap.size w w1 := ⟨_, rfl, heap_alloc_new _ _, ext_alloc (Below.refl _ _) _⟩
  have HBK := hidIt hB
  have HB1 := hidIt hb1
  have HBL := hidIt hB.lt
  have HLT := hidIt (Array.getElem?_eq_some_iff.1 k0).1
  have HZ : Hid (∀ w', Below w1.heap.size w1 w' → w'.heap[w.heap.size]? = some (.cells #[.int .i64 0, .slice none 0 0] 31 (0, 0))) := fun w' hb => (hb.block _ HLT.out).trans k0
  have NM := hidIt (isName_any n w1)
  have UN := hidIt (isUnnamed_any n w1)
  have hpi := hB.pin
  clear hB hb1 k0
  cases hnm : nmB n
  · have HG := hidIt (show getB m p n = (110, none) by unfold getB; rw [hnm]; rfl)
    rw [hnm] at NM
    obtain ⟨_, q0, q1, qf⟩ := cells2 (HZ.out w1 (Below.refl _ _))
    go_enter Try.func20, Try.ntmps20
    go_upto_region 1 with fail
    rw [← hw1]
    clear hw1
    go_wp2_with (go_at_call 38; refine NM.out.mono ?_; rintro e y8 ⟨rfl, rfl⟩; (try dsimp only))
    refine bodyPost_ret (v := .tuple #[.agg #[.int .i64 0, .slice none 0 0], .int .i64 110]) (by simp [results, Try.results20, go_sem, q0, q1]) rfl ⟨by rw [HG.out], ?_⟩
    exact below_put HB1.out HB1.out.size (put2 (HZ.out w1 (Below.refl _ _)) _ _).2 (Nat.le_refl _)
  cases hun : unB n
  · have HS : Hid (∀ w', Below w1.heap.size w1 w' → w'.cell? ⟨b, 0, none⟩ = some (.map (some bm)) ∧ w'.heap[bm]? = w.heap[bm]?) := fun w' hb => by
      have hbb := ext_trans HB1.out hb
      exact ⟨(hbb.cell (p := ⟨b, 0, none⟩) HBL.out.1).trans HBK.out.cells.1, hbb.block _ HBL.out.2.1⟩
    have ks := HS.out w1 (Below.refl _ _)
    have c1 := (HBK.out.ext HB1.out).cells.2.1
    obtain ⟨lv, hlook, hshw⟩ := HBK.out.look (sml_in hn)
    have SMA : Hid (∀ y, Calls Try.prog 42 #[.int .i64 n] y fun e w' => e = .returned (.int .i64 (sml n)) ∧ y = w') := fun y => small_any n y
    cases hm : m (sml n) with
    | none =>
      have HG := hidIt (show getB m p n = (112, none) by unfold getB; rw [hnm, hun]; simp only [if_true, Bool.false_eq_true, if_false]; rw [hm])
      have hlk : ∀ wq : World, wq.heap[bm]? = w.heap[bm]? → (Instr.lookup 68 (.map (some bm)) (.int .i64 (sml n)) true).run Try.prog wq = .ok (.tuple #[.agg #[.int .i64 0, .int .i64 0, .pointer none], .bool false]) wq := by
        rw [hm] at hlook hshw
        have h3 : lv = .agg #[.int .i64 0, .int .i64 0, .pointer none] := hshw
        rw [h3] at hlook
        exact hlook
      rw [hnm] at NM
      rw [hun] at UN
      clear hm hlook hshw
      go_enter Try.func20, Try.ntmps20
      go_upto_region 1 with fail
      rw [← hw1]
      clear hw1
      go_upto_region 5 with (first | (go_at_call 38; refine NM.out.mono ?_; rintro e y8 ⟨rfl, rfl⟩; (try dsimp only)) | (go_at_call 33; refine UN.out.mono ?_; rintro e y8 ⟨rfl, rfl⟩; (try dsimp only)))
      refine wp_region_held_drew (S := fun w'' => w''.cell? ⟨b, 0, none⟩ = some (.map (some bm)) ∧ w''.heap[bm]? = w.heap[bm]?) (by kernel_rfl) (ks) (fun hHeld => ?_)
      refine wpAnyH_take (i := 0) (oi := _) (v := ?_) rfl (by kernel_rfl) (by kernel_rfl) (by kernel_rfl) (fun _ _ _ h => h) (Or.inl ⟨by rfl, ?_⟩) (by assumption) ?_
      rotate_left 1
      · intro wq hSw; (try dsimp only at hSw); go_simp; try (with_reducible rfl)
      try simp only [Act.put, List.getElem_toArray, List.getElem_cons_zero, List.setIfInBounds_toArray, List.set_cons_zero, List.set_cons_succ]
      refine wpAnyH_take (i := 1) (oi := _) (v := ?_) rfl (by kernel_rfl) (by kernel_rfl) (by kernel_rfl) (fun _ _ _ h => h) (Or.inl ⟨by rfl, ?_⟩) (by assumption) ?_
      rotate_left 1
      · intro wq hSw; (try dsimp only at hSw); go_simp; try (with_reducible rfl)
      try simp only [Act.put, List.getElem_toArray, List.getElem_cons_succ, List.getElem_cons_zero, List.setIfInBounds_toArray, List.set_cons_zero, List.set_cons_succ]
      refine wpAnyH_take (i := 2) (oi := _) (v := ?_) rfl (by kernel_rfl) (by kernel_rfl) (by kernel_rfl) (fun _ _ _ h => h) (Or.inl ⟨by rfl, ?_⟩) (by assumption) ?_
      rotate_left 1
      · intro wq hSw; (try dsimp only at hSw); go_simp; try (with_reducible rfl)
      try simp only [Act.put, List.getElem_toArray, List.getElem_cons_succ, List.getElem_cons_zero, List.setIfInBounds_toArray, List.set_cons_zero, List.set_cons_succ]
      refine wpAnyH_take (i := 3) (oi := _) (v := ?_) rfl (by kernel_rfl) (by kernel_rfl) (by kernel_rfl) (fun _ _ _ h => h) (Or.inl ⟨by rfl, ?_⟩) (by assumption) ?_
      rotate_left 1
      · intro wq hSw; (try dsimp only at hSw); go_simp; try (with_reducible rfl)
      try simp only [Act.put, List.getElem_toArray, List.getElem_cons_succ, List.getElem_cons_zero, List.setIfInBounds_toArray, List.set_cons_zero, List.set_cons_succ]
      refine wpAnyH_take (i := 4) (oi := _) (v := ?_) rfl (by kernel_rfl) (by kernel_rfl) (by kernel_rfl) (fun _ _ _ h => h) (Or.inl ⟨by rfl, ?_⟩) (by assumption) ?_
      rotate_left 1
      · intro wq hSw; (try dsimp only at hSw); go_simp; try (with_reducible rfl)
      try simp only [Act.put, List.getElem_toArray, List.getElem_cons_succ, List.getElem_cons_zero, List.setIfInBounds_toArray, List.set_cons_zero, List.set_cons_succ]
      refine wpAnyH_ready (rs := [5, 10]) (by kernel_rfl) (by simp) ?_
      refine (AllReadyH.cons (o := _) rfl (fun K hK => ?_) (AllReadyH.cons (o := _) rfl (fun K hK => ?_) AllReadyH.nil))
      · skip
        go_simp
        refine (SMA.out _).mono ?_; rintro e y9 ⟨rfl, rfl⟩; try dsimp only
        refine hK.out _ _ ?_ (fun hHeld => ?_)
        · (try simp only [World.cell?_drew]); exact ks
        clear hK K
        try simp only [Act.put, List.getElem_toArray, List.getElem_cons_succ, List.getElem_cons_zero, List.setIfInBounds_toArray, List.set_cons_zero, List.set_cons_succ]
        refine wpAnyH_take (i := 6) (oi := _) (v := ?_) rfl (by kernel_rfl) (by kernel_rfl) (by kernel_rfl) (fun _ _ _ h => h) (Or.inl ⟨by rfl, ?_⟩) (by assumption) ?_
        rotate_left 1
        · intro wq hSw; (try dsimp only at hSw); go_simp; try (with_reducible rfl)
        try simp only [Act.put, List.getElem_toArray, List.getElem_cons_succ, List.getElem_cons_zero, List.setIfInBounds_toArray, List.set_cons_zero, List.set_cons_succ]
        refine wpAnyH_take (i := 7) (oi := _) (v := ?_) rfl (by kernel_rfl) (by kernel_rfl) (by kernel_rfl) (fun _ _ _ h => h) (Or.inl ⟨by rfl, ?_⟩) (by assumption) ?_
        rotate_left 1
        · intro wq hSw; (try dsimp only at hSw); go_simp; try (with_reducible rfl)
        try simp only [Act.put, List.getElem_toArray, List.getElem_cons_succ, List.getElem_cons_zero, List.setIfInBounds_toArray, List.set_cons_zero, List.set_cons_succ]
        refine wpAnyH_take (i := 8) (oi := _) (v := ?_) rfl (by kernel_rfl) (by kernel_rfl) (by kernel_rfl) (fun _ _ _ h => h) (Or.inl ⟨by rfl, ?_⟩) (by assumption) ?_
        rotate_left 1
        · intro wq hSw; (try dsimp only at hSw); go_simp; try (with_reducible rfl)
        try simp only [Act.put, List.getElem_toArray, List.getElem_cons_succ, List.getElem_cons_zero, List.setIfInBounds_toArray, List.set_cons_zero, List.set_cons_succ]
        refine wpAnyH_take (i := 9) (oi := _) (v := ?_) rfl (by kernel_rfl) (by kernel_rfl) (by kernel_rfl) (fun _ _ _ h => h) (Or.inl ⟨by rfl, ?_⟩) (by assumption) ?_
        rotate_left 1
        · intro wq hSw; (try dsimp only at hSw); go_simp; try (with_reducible rfl)
        try simp only [Act.put, List.getElem_toArray, List.getElem_cons_succ, List.getElem_cons_zero, List.setIfInBounds_toArray, List.set_cons_zero, List.set_cons_succ]
        refine wpAnyH_ready (rs := [10]) (by kernel_rfl) (by simp) ?_
        refine AllReadyH.cons (o := _) rfl (fun K hK => ?_) AllReadyH.nil
        go_simp
        generalize hwN : World.alloc _ _ = y2; have Hy2 : Hid (Below w1.heap.size w1 y2) := (by unfold Hid; rw [← hwN]; exact ext_alloc (Below.refl _ _) _); have HL2 : Hid (y2.heap[w1.heap.size]? = some (.cells #[.int .i64 0, .int .i64 0, .pointer none] 73 (0, 0))) := (by unfold Hid; rw [← hwN]; exact heap_alloc_new _ _); clear hwN ks; have ks := HS.out y2 Hy2.out; obtain ⟨hl2, d0, d1, d2, df⟩ := cells3 HL2.out; try dsimp only
        refine hK.out _ _ ?_ (fun hHeld => ?_)
        · (try simp only [World.cell?_drew]); exact ks
        clear hK K
        try simp only [Act.put, List.getElem_toArray, List.getElem_cons_succ, List.getElem_cons_zero, List.setIfInBounds_toArray, List.set_cons_zero, List.set_cons_succ]
        refine wpAnyH_ready (rs := [11]) (by kernel_rfl) (by simp) ?_
        refine AllReadyH.cons (o := _) rfl (fun K hK => ?_) AllReadyH.nil
        go_simp
        generalize hwF : World.setCell (World.setCell (World.setCell _ _ _) _ _) _ _ = yF; have HL3 : Hid (yF.heap[w1.heap.size]? = some (.cells #[.int .i64 0, .int .i64 0, .pointer none] 73 (0, 0))) := (by unfold Hid; rw [← hwF]; exact (put3 HL2.out _ _ _).1); have HyF : Hid (Below w1.heap.size w1 yF) := (by unfold Hid; rw [← hwF]; exact below_put Hy2.out Hy2.out.size (put3 HL2.out _ _ _).2 (Nat.le_refl _)); clear hwF d0 d1 d2 df ks; have ks := HS.out yF HyF.out; try dsimp only
        refine hK.out _ _ ?_ (fun hHeld => ?_)
        · (try simp only [World.cell?_drew]); exact ks
        clear hK K
        try simp only [Act.put, List.getElem_toArray, List.getElem_cons_succ, List.getElem_cons_zero, List.setIfInBounds_toArray, List.set_cons_zero, List.set_cons_succ]
        refine wpAnyH_take (i := 12) (oi := _) (v := ?_) rfl (by kernel_rfl) (by kernel_rfl) (by kernel_rfl) (fun _ _ _ h => h) (Or.inl ⟨by rfl, ?_⟩) (by assumption) ?_
        rotate_left 1
        · intro wq hSw; (try dsimp only at hSw); go_simp; try (with_reducible rfl)
        try simp only [Act.put, List.getElem_toArray, List.getElem_cons_succ, List.getElem_cons_zero, List.setIfInBounds_toArray, List.set_cons_zero, List.set_cons_succ]
        refine wpAnyH_done (by kernel_rfl) ?_ _
        generalize hwD : World.drew yF = yD
        have HyD : Hid (Below w1.heap.size w1 yD) := by unfold Hid; rw [← hwD]; exact HyF.out.drew
        have HLD : Hid (yD.heap[w1.heap.size]? = yF.heap[w1.heap.size]?) := by unfold Hid; rw [← hwD]; rfl
        clear hwD
        obtain ⟨_, q0, q1, qf⟩ := cells2 (HZ.out yD HyD.out)
        go_wp2_with fail
        refine bodyPost_ret (v := .tuple #[.agg #[.int .i64 0, .slice none 0 0], .int .i64 112]) (by simp [results, Try.results20, go_sem, q0, q1]) rfl ⟨by rw [HG.out], ?_⟩
        exact below_put (ext_trans HB1.out HyD.out) (ext_trans HB1.out HyD.out).size (put2 (HZ.out yD HyD.out) _ _).2 (Nat.le_refl _)
      · skip
        go_simp
        generalize hwN : World.alloc _ _ = y2; have Hy2 : Hid (Below w1.heap.size w1 y2) := (by unfold Hid; rw [← hwN]; exact ext_alloc (Below.refl _ _) _); have HL2 : Hid (y2.heap[w1.heap.size]? = some (.cells #[.int .i64 0, .int .i64 0, .pointer none] 73 (0, 0))) := (by unfold Hid; rw [← hwN]; exact heap_alloc_new _ _); clear hwN ks; have ks := HS.out y2 Hy2.out; obtain ⟨hl2, d0, d1, d2, df⟩ := cells3 HL2.out; try dsimp only
        refine hK.out _ _ ?_ (fun hHeld => ?_)
        · (try simp only [World.cell?_drew]); exact ks
        clear hK K
        try simp only [Act.put, List.getElem_toArray, List.getElem_cons_succ, List.getElem_cons_zero, List.setIfInBounds_toArray, List.set_cons_zero, List.set_cons_succ]
        refine wpAnyH_ready (rs := [5]) (by kernel_rfl) (by simp) ?_
        refine AllReadyH.cons (o := _) rfl (fun K hK => ?_) AllReadyH.nil
        go_simp
        refine (SMA.out _).mono ?_; rintro e y9 ⟨rfl, rfl⟩; try dsimp only
        refine hK.out _ _ ?_ (fun hHeld => ?_)
        · (try simp only [World.cell?_drew]); exact ks
        clear hK K
        try simp only [Act.put, List.getElem_toArray, List.getElem_cons_succ, List.getElem_cons_zero, List.setIfInBounds_toArray, List.set_cons_zero, List.set_cons_succ]
        refine wpAnyH_take (i := 6) (oi := _) (v := ?_) rfl (by kernel_rfl) (by kernel_rfl) (by kernel_rfl) (fun _ _ _ h => h) (Or.inl ⟨by rfl, ?_⟩) (by assumption) ?_
        rotate_left 1
        · intro wq hSw; (try dsimp only at hSw); go_simp; try (with_reducible rfl)
        try simp only [Act.put, List.getElem_toArray, List.getElem_cons_succ, List.getElem_cons_zero, List.setIfInBounds_toArray, List.set_cons_zero, List.set_cons_succ]
        refine wpAnyH_take (i := 7) (oi := _) (v := ?_) rfl (by kernel_rfl) (by kernel_rfl) (by kernel_rfl) (fun _ _ _ h => h) (Or.inl ⟨by rfl, ?_⟩) (by assumption) ?_
        rotate_left 1
        · intro wq hSw; (try dsimp only at hSw); go_simp; try (with_reducible rfl)
        try simp only [Act.put, List.getElem_toArray, List.getElem_cons_succ, List.getElem_cons_zero, List.setIfInBounds_toArray, List.set_cons_zero, List.set_cons_succ]
        refine wpAnyH_take (i := 8) (oi := _) (v := ?_) rfl (by kernel_rfl) (by kernel_rfl) (by kernel_rfl) (fun _ _ _ h => h) (Or.inl ⟨by rfl, ?_⟩) (by assumption) ?_
        rotate_left 1
        · intro wq hSw; (try dsimp only at hSw); go_simp; try (with_reducible rfl)
        try simp only [Act.put, List.getElem_toArray, List.getElem_cons_succ, List.getElem_cons_zero, List.setIfInBounds_toArray, List.set_cons_zero, List.set_cons_succ]
        refine wpAnyH_take (i := 9) (oi := _) (v := ?_) rfl (by kernel_rfl) (by kernel_rfl) (by kernel_rfl) (fun _ _ _ h => h) (Or.inl ⟨by rfl, ?_⟩) (by assumption) ?_
        rotate_left 1
        · intro wq hSw; (try dsimp only at hSw); go_simp; try (with_reducible rfl)
        try simp only [Act.put, List.getElem_toArray, List.getElem_cons_succ, List.getElem_cons_zero, List.setIfInBounds_toArray, List.set_cons_zero, List.set_cons_succ]
        refine wpAnyH_ready (rs := [11]) (by kernel_rfl) (by simp) ?_
        refine AllReadyH.cons (o := _) rfl (fun K hK => ?_) AllReadyH.nil
        go_simp
        generalize hwF : World.setCell (World.setCell (World.setCell _ _ _) _ _) _ _ = yF; have HL3 : Hid (yF.heap[w1.heap.size]? = some (.cells #[.int .i64 0, .int .i64 0, .pointer none] 73 (0, 0))) := (by unfold Hid; rw [← hwF]; exact (put3 HL2.out _ _ _).1); have HyF : Hid (Below w1.heap.size w1 yF) := (by unfold Hid; rw [← hwF]; exact below_put Hy2.out Hy2.out.size (put3 HL2.out _ _ _).2 (Nat.le_refl _)); clear hwF d0 d1 d2 df ks; have ks := HS.out yF HyF.out; try dsimp only
        refine hK.out _ _ ?_ (fun hHeld => ?_)
        · (try simp only [World.cell?_drew]); exact ks
        clear hK K
        try simp only [Act.put, List.getElem_toArray, List.getElem_cons_succ, List.getElem_cons_zero, List.setIfInBounds_toArray, List.set_cons_zero, List.set_cons_succ]
        refine wpAnyH_take (i := 12) (oi := _) (v := ?_) rfl (by kernel_rfl) (by kernel_rfl) (by kernel_rfl) (fun _ _ _ h => h) (Or.inl ⟨by rfl, ?_⟩) (by assumption) ?_
        rotate_left 1
        · intro wq hSw; (try dsimp only at hSw); go_simp; try (with_reducible rfl)
        try simp only [Act.put, List.getElem_toArray, List.getElem_cons_succ, List.getElem_cons_zero, List.setIfInBounds_toArray, List.set_cons_zero, List.set_cons_succ]
        refine wpAnyH_done (by kernel_rfl) ?_ _
        generalize hwD : World.drew yF = yD
        have HyD : Hid (Below w1.heap.size w1 yD) := by unfold Hid; rw [← hwD]; exact HyF.out.drew
        have HLD : Hid (yD.heap[w1.heap.size]? = yF.heap[w1.heap.size]?) := by unfold Hid; rw [← hwD]; rfl
        clear hwD
        obtain ⟨_, q0, q1, qf⟩ := cells2 (HZ.out yD HyD.out)
        go_wp2_with fail
        refine bodyPost_ret (v := .tuple #[.agg #[.int .i64 0, .slice none 0 0], .int .i64 112]) (by simp [results, Try.results20, go_sem, q0, q1]) rfl ⟨by rw [HG.out], ?_⟩
        exact below_put (ext_trans HB1.out HyD.out) (ext_trans HB1.out HyD.out).size (put2 (HZ.out yD HyD.out) _ _).2 (Nat.le_refl _)
    
    | some x =>
      have HG := hidIt (show getB m p n = (0, some x) by unfold getB; rw [hnm, hun]; simp only [if_true, Bool.false_eq_true, if_false]; rw [hm])
      rw [hm] at hlook hshw
      obtain ⟨au, h3, hu, hxn, hxl⟩ := hshw
      subst h3
      have hlk : ∀ wq : World, wq.heap[bm]? = w.heap[bm]? → (Instr.lookup 68 (.map (some bm)) (.int .i64 (sml n)) true).run Try.prog wq = .ok (.tuple #[.agg #[.int .i64 x.k, .int .i64 x.t.length, .pointer au], .bool true]) wq := hlook
      have HU := hidIt hu
      have HXN := hidIt (And.intro hxn hxl)
      rw [hnm] at NM
      rw [hun] at UN
      clear hm hlook hu hxn hxl
      go_enter Try.func20, Try.ntmps20
      go_upto_region 1 with fail
      rw [← hw1]
      clear hw1
      go_upto_region 5 with (first | (go_at_call 38; refine NM.out.mono ?_; rintro e y8 ⟨rfl, rfl⟩; (try dsimp only)) | (go_at_call 33; refine UN.out.mono ?_; rintro e y8 ⟨rfl, rfl⟩; (try dsimp only)))
      refine wp_region_held_drew (S := fun w'' => w''.cell? ⟨b, 0, none⟩ = some (.map (some bm)) ∧ w''.heap[bm]? = w.heap[bm]?) (by kernel_rfl) (ks) (fun hHeld => ?_)
      refine wpAnyH_take (i := 0) (oi := _) (v := ?_) rfl (by kernel_rfl) (by kernel_rfl) (by kernel_rfl) (fun _ _ _ h => h) (Or.inl ⟨by rfl, ?_⟩) (by assumption) ?_
      rotate_left 1
      · intro wq hSw; (try dsimp only at hSw); go_simp; try (with_reducible rfl)
      try simp only [Act.put, List.getElem_toArray, List.getElem_cons_zero, List.setIfInBounds_toArray, List.set_cons_zero, List.set_cons_succ]
      refine wpAnyH_take (i := 1) (oi := _) (v := ?_) rfl (by kernel_rfl) (by kernel_rfl) (by kernel_rfl) (fun _ _ _ h => h) (Or.inl ⟨by rfl, ?_⟩) (by assumption) ?_
      rotate_left 1
      · intro wq hSw; (try dsimp only at hSw); go_simp; try (with_reducible rfl)
      try simp only [Act.put, List.getElem_toArray, List.getElem_cons_succ, List.getElem_cons_zero, List.setIfInBounds_toArray, List.set_cons_zero, List.set_cons_succ]
      refine wpAnyH_take (i := 2) (oi := _) (v := ?_) rfl (by kernel_rfl) (by kernel_rfl) (by kernel_rfl) (fun _ _ _ h => h) (Or.inl ⟨by rfl, ?_⟩) (by assumption) ?_
      rotate_left 1
      · intro wq hSw; (try dsimp only at hSw); go_simp; try (with_reducible rfl)
      try simp only [Act.put, List.getElem_toArray, List.getElem_cons_succ, List.getElem_cons_zero, List.setIfInBounds_toArray, List.set_cons_zero, List.set_cons_succ]
      refine wpAnyH_take (i := 3) (oi := _) (v := ?_) rfl (by kernel_rfl) (by kernel_rfl) (by kernel_rfl) (fun _ _ _ h => h) (Or.inl ⟨by rfl, ?_⟩) (by assumption) ?_
      rotate_left 1
      · intro wq hSw; (try dsimp only at hSw); go_simp; try (with_reducible rfl)
      try simp only [Act.put, List.getElem_toArray, List.getElem_cons_succ, List.getElem_cons_zero, List.setIfInBounds_toArray, List.set_cons_zero, List.set_cons_succ]
      refine wpAnyH_take (i := 4) (oi := _) (v := ?_) rfl (by kernel_rfl) (by kernel_rfl) (by kernel_rfl) (fun _ _ _ h => h) (Or.inl ⟨by rfl, ?_⟩) (by assumption) ?_
      rotate_left 1
      · intro wq hSw; (try dsimp only at hSw); go_simp; try (with_reducible rfl)
      try simp only [Act.put, List.getElem_toArray, List.getElem_cons_succ, List.getElem_cons_zero, List.setIfInBounds_toArray, List.set_cons_zero, List.set_cons_succ]
      refine wpAnyH_ready (rs := [5, 10]) (by kernel_rfl) (by simp) ?_
      refine (AllReadyH.cons (o := _) rfl (fun K hK => ?_) (AllReadyH.cons (o := _) rfl (fun K hK => ?_) AllReadyH.nil))
      · skip
        go_simp
        refine (SMA.out _).mono ?_; rintro e y9 ⟨rfl, rfl⟩; try dsimp only
        refine hK.out _ _ ?_ (fun hHeld => ?_)
        · (try simp only [World.cell?_drew]); exact ks
        clear hK K
        try simp only [Act.put, List.getElem_toArray, List.getElem_cons_succ, List.getElem_cons_zero, List.setIfInBounds_toArray, List.set_cons_zero, List.set_cons_succ]
        refine wpAnyH_take (i := 6) (oi := _) (v := ?_) rfl (by kernel_rfl) (by kernel_rfl) (by kernel_rfl) (fun _ _ _ h => h) (Or.inl ⟨by rfl, ?_⟩) (by assumption) ?_
        rotate_left 1
        · intro wq hSw; (try dsimp only at hSw); go_simp; try (with_reducible rfl)
        try simp only [Act.put, List.getElem_toArray, List.getElem_cons_succ, List.getElem_cons_zero, List.setIfInBounds_toArray, List.set_cons_zero, List.set_cons_succ]
        refine wpAnyH_take (i := 7) (oi := _) (v := ?_) rfl (by kernel_rfl) (by kernel_rfl) (by kernel_rfl) (fun _ _ _ h => h) (Or.inl ⟨by rfl, ?_⟩) (by assumption) ?_
        rotate_left 1
        · intro wq hSw; (try dsimp only at hSw); go_simp; try (with_reducible rfl)
        try simp only [Act.put, List.getElem_toArray, List.getElem_cons_succ, List.getElem_cons_zero, List.setIfInBounds_toArray, List.set_cons_zero, List.set_cons_succ]
        refine wpAnyH_take (i := 8) (oi := _) (v := ?_) rfl (by kernel_rfl) (by kernel_rfl) (by kernel_rfl) (fun _ _ _ h => h) (Or.inl ⟨by rfl, ?_⟩) (by assumption) ?_
        rotate_left 1
        · intro wq hSw; (try dsimp only at hSw); go_simp; try (with_reducible rfl)
        try simp only [Act.put, List.getElem_toArray, List.getElem_cons_succ, List.getElem_cons_zero, List.setIfInBounds_toArray, List.set_cons_zero, List.set_cons_succ]
        refine wpAnyH_take (i := 9) (oi := _) (v := ?_) rfl (by kernel_rfl) (by kernel_rfl) (by kernel_rfl) (fun _ _ _ h => h) (Or.inl ⟨by rfl, ?_⟩) (by assumption) ?_
        rotate_left 1
        · intro wq hSw; (try dsimp only at hSw); go_simp; try (with_reducible rfl)
        try simp only [Act.put, List.getElem_toArray, List.getElem_cons_succ, List.getElem_cons_zero, List.setIfInBounds_toArray, List.set_cons_zero, List.set_cons_succ]
        refine wpAnyH_ready (rs := [10]) (by kernel_rfl) (by simp) ?_
        refine AllReadyH.cons (o := _) rfl (fun K hK => ?_) AllReadyH.nil
        go_simp
        generalize hwN : World.alloc _ _ = y2; have Hy2 : Hid (Below w1.heap.size w1 y2) := (by unfold Hid; rw [← hwN]; exact ext_alloc (Below.refl _ _) _); have HL2 : Hid (y2.heap[w1.heap.size]? = some (.cells #[.int .i64 0, .int .i64 0, .pointer none] 73 (0, 0))) := (by unfold Hid; rw [← hwN]; exact heap_alloc_new _ _); clear hwN ks; have ks := HS.out y2 Hy2.out; obtain ⟨hl2, d0, d1, d2, df⟩ := cells3 HL2.out; try dsimp only
        refine hK.out _ _ ?_ (fun hHeld => ?_)
        · (try simp only [World.cell?_drew]); exact ks
        clear hK K
        try simp only [Act.put, List.getElem_toArray, List.getElem_cons_succ, List.getElem_cons_zero, List.setIfInBounds_toArray, List.set_cons_zero, List.set_cons_succ]
        refine wpAnyH_ready (rs := [11]) (by kernel_rfl) (by simp) ?_
        refine AllReadyH.cons (o := _) rfl (fun K hK => ?_) AllReadyH.nil
        go_simp
        generalize hwF : World.setCell (World.setCell (World.setCell _ _ _) _ _) _ _ = yF; have HL3 : Hid (yF.heap[w1.heap.size]? = some (.cells #[.int .i64 x.k, .int .i64 x.t.length, .pointer au] 73 (0, 0))) := (by unfold Hid; rw [← hwF]; exact (put3 HL2.out _ _ _).1); have HyF : Hid (Below w1.heap.size w1 yF) := (by unfold Hid; rw [← hwF]; exact below_put Hy2.out Hy2.out.size (put3 HL2.out _ _ _).2 (Nat.le_refl _)); clear hwF d0 d1 d2 df ks; have ks := HS.out yF HyF.out; try dsimp only
        refine hK.out _ _ ?_ (fun hHeld => ?_)
        · (try simp only [World.cell?_drew]); exact ks
        clear hK K
        try simp only [Act.put, List.getElem_toArray, List.getElem_cons_succ, List.getElem_cons_zero, List.setIfInBounds_toArray, List.set_cons_zero, List.set_cons_succ]
        refine wpAnyH_take (i := 12) (oi := _) (v := ?_) rfl (by kernel_rfl) (by kernel_rfl) (by kernel_rfl) (fun _ _ _ h => h) (Or.inl ⟨by rfl, ?_⟩) (by assumption) ?_
        rotate_left 1
        · intro wq hSw; (try dsimp only at hSw); go_simp; try (with_reducible rfl)
        try simp only [Act.put, List.getElem_toArray, List.getElem_cons_succ, List.getElem_cons_zero, List.setIfInBounds_toArray, List.set_cons_zero, List.set_cons_succ]
        refine wpAnyH_done (by kernel_rfl) ?_ _
        generalize hwD : World.drew yF = yD
        have HyD : Hid (Below w1.heap.size w1 yD) := by unfold Hid; rw [← hwD]; exact HyF.out.drew
        have HLD : Hid (yD.heap[w1.heap.size]? = yF.heap[w1.heap.size]?) := by unfold Hid; rw [← hwD]; rfl
        clear hwD
        have HS8 : Hid (∀ w', Below yD.heap.size yD w' → w'.cell? ⟨w1.heap.size, 0, none⟩ = some (.int .i64 x.k) ∧ w'.cell? ⟨w1.heap.size, 1, none⟩ = some (.int .i64 x.t.length) ∧ w'.cell? ⟨w1.heap.size, 2, none⟩ = some (.pointer au)) := fun w' hb => by
          have e := (hb.block _ (Array.getElem?_eq_some_iff.1 (HLD.out.trans HL3.out)).1).trans (HLD.out.trans HL3.out)
          exact ⟨(cells3 e).2.1, (cells3 e).2.2.1, (cells3 e).2.2.2.1⟩
        have CL : Hid (∀ w', Below yD.heap.size yD w' → Calls Try.prog 43 #[.pointer au, .int .i64 x.t.length] w' fun e w'' => ∃ v', e = .returned v' ∧ OwnI w'' w'.heap.size v' x.t ∧ Below w'.heap.size w' w'') := fun w' hb => by
          have := atoms_any w' au x.t x.t.length (((HU.out.ext HB1.out).ext HyD.out).ext hb) (Nat.le_refl _) (by have := HXN.out.2.1; omega)
          rw [Nat.sub_self, List.drop_zero] at this
          exact this
        have ks := HS8.out yD (Below.refl _ _)
        go_upto_region 8 with fail
        refine wp_region_held_drew (S := fun w'' => w''.cell? ⟨w1.heap.size, 0, none⟩ = some (.int .i64 x.k) ∧ w''.cell? ⟨w1.heap.size, 1, none⟩ = some (.int .i64 x.t.length) ∧ w''.cell? ⟨w1.heap.size, 2, none⟩ = some (.pointer au)) (by kernel_rfl) (ks) (fun hHeld => ?_)
        refine wpAnyH_take (i := 0) (oi := _) (v := ?_) rfl (by kernel_rfl) (by kernel_rfl) (by kernel_rfl) (fun _ _ _ h => h) (Or.inl ⟨by rfl, ?_⟩) (by assumption) ?_
        rotate_left 1
        · intro wq hSw; (try dsimp only at hSw); go_simp; try (with_reducible rfl)
        try simp only [Act.put, List.getElem_toArray, List.getElem_cons_zero, List.setIfInBounds_toArray, List.set_cons_zero, List.set_cons_succ]
        refine wpAnyH_take (i := 1) (oi := _) (v := ?_) rfl (by kernel_rfl) (by kernel_rfl) (by kernel_rfl) (fun _ _ _ h => h) (Or.inl ⟨by rfl, ?_⟩) (by assumption) ?_
        rotate_left 1
        · intro wq hSw; (try dsimp only at hSw); go_simp; try (with_reducible rfl)
        try simp only [Act.put, List.getElem_toArray, List.getElem_cons_succ, List.getElem_cons_zero, List.setIfInBounds_toArray, List.set_cons_zero, List.set_cons_succ]
        refine wpAnyH_take (i := 2) (oi := _) (v := ?_) rfl (by kernel_rfl) (by kernel_rfl) (by kernel_rfl) (fun _ _ _ h => h) (Or.inl ⟨by rfl, ?_⟩) (by assumption) ?_
        rotate_left 1
        · intro wq hSw; (try dsimp only at hSw); go_simp; try (with_reducible rfl)
        try simp only [Act.put, List.getElem_toArray, List.getElem_cons_succ, List.getElem_cons_zero, List.setIfInBounds_toArray, List.set_cons_zero, List.set_cons_succ]
        refine wpAnyH_take (i := 3) (oi := _) (v := ?_) rfl (by kernel_rfl) (by kernel_rfl) (by kernel_rfl) (fun _ _ _ h => h) (Or.inl ⟨by rfl, ?_⟩) (by assumption) ?_
        rotate_left 1
        · intro wq hSw; (try dsimp only at hSw); go_simp; try (with_reducible rfl)
        try simp only [Act.put, List.getElem_toArray, List.getElem_cons_succ, List.getElem_cons_zero, List.setIfInBounds_toArray, List.set_cons_zero, List.set_cons_succ]
        refine wpAnyH_take (i := 4) (oi := _) (v := ?_) rfl (by kernel_rfl) (by kernel_rfl) (by kernel_rfl) (fun _ _ _ h => h) (Or.inl ⟨by rfl, ?_⟩) (by assumption) ?_
        rotate_left 1
        · intro wq hSw; (try dsimp only at hSw); go_simp; try (with_reducible rfl)
        try simp only [Act.put, List.getElem_toArray, List.getElem_cons_succ, List.getElem_cons_zero, List.setIfInBounds_toArray, List.set_cons_zero, List.set_cons_succ]
        refine wpAnyH_take (i := 5) (oi := _) (v := ?_) rfl (by kernel_rfl) (by kernel_rfl) (by kernel_rfl) (fun _ _ _ h => h) (Or.inl ⟨by rfl, ?_⟩) (by assumption) ?_
        rotate_left 1
        · intro wq hSw; (try dsimp only at hSw); go_simp; try (with_reducible rfl)
        try simp only [Act.put, List.getElem_toArray, List.getElem_cons_succ, List.getElem_cons_zero, List.setIfInBounds_toArray, List.set_cons_zero, List.set_cons_succ]
        refine wpAnyH_ready (rs := [6]) (by kernel_rfl) (by simp) ?_
        refine AllReadyH.cons (o := _) rfl (fun K hK => ?_) AllReadyH.nil
        go_simp
        refine (CL.out _ (Below.drew (Below.refl _ _))).mono ?_; rintro e y3 ⟨v3, rfl, own3, hb3⟩; obtain ⟨ao3, n3, c3, e3⟩ := own3.form; subst e3; have O3 := hidIt own3; have Hy3 := hidIt (ext_trans (Below.drew (Below.refl yD.heap.size yD)) hb3); clear own3 hb3 ks; have ks := HS8.out y3 Hy3.out; obtain ⟨hlt, q0, q1, qf⟩ := cells2 (HZ.out y3 (ext_trans HyD.out Hy3.out)); try dsimp only
        refine hK.out _ _ ?_ (fun hHeld => ?_)
        · (try simp only [World.cell?_drew]); exact ks
        clear hK K
        try simp only [Act.put, List.getElem_toArray, List.getElem_cons_succ, List.getElem_cons_zero, List.setIfInBounds_toArray, List.set_cons_zero, List.set_cons_succ]
        refine wpAnyH_take (i := 7) (oi := _) (v := ?_) rfl (by kernel_rfl) (by kernel_rfl) (by kernel_rfl) (fun _ _ _ h => h) (Or.inl ⟨by rfl, ?_⟩) (by assumption) ?_
        rotate_left 1
        · intro wq hSw; (try dsimp only at hSw); go_simp; try (with_reducible rfl)
        try simp only [Act.put, List.getElem_toArray, List.getElem_cons_succ, List.getElem_cons_zero, List.setIfInBounds_toArray, List.set_cons_zero, List.set_cons_succ]
        refine wpAnyH_ready (rs := [8]) (by kernel_rfl) (by simp) ?_
        refine AllReadyH.cons (o := _) rfl (fun K hK => ?_) AllReadyH.nil
        go_simp
        try dsimp only
        refine hK.out _ _ ?_ (fun hHeld => ?_)
        · exact ⟨by have := HLT.out; simp [go_sem, ks.1], by have := HLT.out; simp [go_sem, ks.2.1], by have := HLT.out; simp [go_sem, ks.2.2]⟩
        clear hK K
        try simp only [Act.put, List.getElem_toArray, List.getElem_cons_succ, List.getElem_cons_zero, List.setIfInBounds_toArray, List.set_cons_zero, List.set_cons_succ]
        refine wpAnyH_take (i := 9) (oi := _) (v := ?_) rfl (by kernel_rfl) (by kernel_rfl) (by kernel_rfl) (fun _ _ _ h => h) (Or.inl ⟨by rfl, ?_⟩) (by assumption) ?_
        rotate_left 1
        · intro wq hSw; (try dsimp only at hSw); go_simp; try (with_reducible rfl)
        try simp only [Act.put, List.getElem_toArray, List.getElem_cons_succ, List.getElem_cons_zero, List.setIfInBounds_toArray, List.set_cons_zero, List.set_cons_succ]
        refine wpAnyH_done (by kernel_rfl) ?_ _
        go_wp2_with fail
        refine bodyPost_ret (v := .tuple #[.agg #[.int .i64 x.k, .slice ao3 n3 c3], .int .i64 0]) (by simp [results, Try.results20, go_sem, q0, q1]) rfl ⟨by rw [HG.out]; exact ⟨_, rfl, (O3.out.other (put2 (HZ.out y3 (ext_trans HyD.out Hy3.out)) _ _).2 (by have := HyD.out.size; have := HLT.out; simp; omega)).le (by have := HB1.out.size; have := HyD.out.size; simp; omega)⟩, ?_⟩
        exact below_put (ext_trans HB1.out (ext_trans HyD.out Hy3.out)) (ext_trans HB1.out (ext_trans HyD.out Hy3.out)).size (put2 (HZ.out y3 (ext_trans HyD.out Hy3.out)) _ _).2 (Nat.le_refl _)
      · skip
        go_simp
        generalize hwN : World.alloc _ _ = y2; have Hy2 : Hid (Below w1.heap.size w1 y2) := (by unfold Hid; rw [← hwN]; exact ext_alloc (Below.refl _ _) _); have HL2 : Hid (y2.heap[w1.heap.size]? = some (.cells #[.int .i64 0, .int .i64 0, .pointer none] 73 (0, 0))) := (by unfold Hid; rw [← hwN]; exact heap_alloc_new _ _); clear hwN ks; have ks := HS.out y2 Hy2.out; obtain ⟨hl2, d0, d1, d2, df⟩ := cells3 HL2.out; try dsimp only
        refine hK.out _ _ ?_ (fun hHeld => ?_)
        · (try simp only [World.cell?_drew]); exact ks
        clear hK K
        try simp only [Act.put, List.getElem_toArray, List.getElem_cons_succ, List.getElem_cons_zero, List.setIfInBounds_toArray, List.set_cons_zero, List.set_cons_succ]
        refine wpAnyH_ready (rs := [5]) (by kernel_rfl) (by simp) ?_
        refine AllReadyH.cons (o := _) rfl (fun K hK => ?_) AllReadyH.nil
        go_simp
        refine (SMA.out _).mono ?_; rintro e y9 ⟨rfl, rfl⟩; try dsimp only
        refine hK.out _ _ ?_ (fun hHeld => ?_)
        · (try simp only [World.cell?_drew]); exact ks
        clear hK K
        try simp only [Act.put, List.getElem_toArray, List.getElem_cons_succ, List.getElem_cons_zero, List.setIfInBounds_toArray, List.set_cons_zero, List.set_cons_succ]
        refine wpAnyH_take (i := 6) (oi := _) (v := ?_) rfl (by kernel_rfl) (by kernel_rfl) (by kernel_rfl) (fun _ _ _ h => h) (Or.inl ⟨by rfl, ?_⟩) (by assumption) ?_
        rotate_left 1
        · intro wq hSw; (try dsimp only at hSw); go_simp; try (with_reducible rfl)
        try simp only [Act.put, List.getElem_toArray, List.getElem_cons_succ, List.getElem_cons_zero, List.setIfInBounds_toArray, List.set_cons_zero, List.set_cons_succ]
        refine wpAnyH_take (i := 7) (oi := _) (v := ?_) rfl (by kernel_rfl) (by kernel_rfl) (by kernel_rfl) (fun _ _ _ h => h) (Or.inl ⟨by rfl, ?_⟩) (by assumption) ?_
        rotate_left 1
        · intro wq hSw; (try dsimp only at hSw); go_simp; try (with_reducible rfl)
        try simp only [Act.put, List.getElem_toArray, List.getElem_cons_succ, List.getElem_cons_zero, List.setIfInBounds_toArray, List.set_cons_zero, List.set_cons_succ]
        refine wpAnyH_take (i := 8) (oi := _) (v := ?_) rfl (by kernel_rfl) (by kernel_rfl) (by kernel_rfl) (fun _ _ _ h => h) (Or.inl ⟨by rfl, ?_⟩) (by assumption) ?_
        rotate_left 1
        · intro wq hSw; (try dsimp only at hSw); go_simp; try (with_reducible rfl)
        try simp only [Act.put, List.getElem_toArray, List.getElem_cons_succ, List.getElem_cons_zero, List.setIfInBounds_toArray, List.set_cons_zero, List.set_cons_succ]
        refine wpAnyH_take (i := 9) (oi := _) (v := ?_) rfl (by kernel_rfl) (by kernel_rfl) (by kernel_rfl) (fun _ _ _ h => h) (Or.inl ⟨by rfl, ?_⟩) (by assumption) ?_
        rotate_left 1
        · intro wq hSw; (try dsimp only at hSw); go_simp; try (with_reducible rfl)
        try simp only [Act.put, List.getElem_toArray, List.getElem_cons_succ, List.getElem_cons_zero, List.setIfInBounds_toArray, List.set_cons_zero, List.set_cons_succ]
        refine wpAnyH_ready (rs := [11]) (by kernel_rfl) (by simp) ?_
        refine AllReadyH.cons (o := _) rfl (fun K hK => ?_) AllReadyH.nil
        go_simp
        generalize hwF : World.setCell (World.setCell (World.setCell _ _ _) _ _) _ _ = yF; have HL3 : Hid (yF.heap[w1.heap.size]? = some (.cells #[.int .i64 x.k, .int .i64 x.t.length, .pointer au] 73 (0, 0))) := (by unfold Hid; rw [← hwF]; exact (put3 HL2.out _ _ _).1); have HyF : Hid (Below w1.heap.size w1 yF) := (by unfold Hid; rw [← hwF]; exact below_put Hy2.out Hy2.out.size (put3 HL2.out _ _ _).2 (Nat.le_refl _)); clear hwF d0 d1 d2 df ks; have ks := HS.out yF HyF.out; try dsimp only
        refine hK.out _ _ ?_ (fun hHeld => ?_)
        · (try simp only [World.cell?_drew]); exact ks
        clear hK K
        try simp only [Act.put, List.getElem_toArray, List.getElem_cons_succ, List.getElem_cons_zero, List.setIfInBounds_toArray, List.set_cons_zero, List.set_cons_succ]
        refine wpAnyH_take (i := 12) (oi := _) (v := ?_) rfl (by kernel_rfl) (by kernel_rfl) (by kernel_rfl) (fun _ _ _ h => h) (Or.inl ⟨by rfl, ?_⟩) (by assumption) ?_
        rotate_left 1
        · intro wq hSw; (try dsimp only at hSw); go_simp; try (with_reducible rfl)
        try simp only [Act.put, List.getElem_toArray, List.getElem_cons_succ, List.getElem_cons_zero, List.setIfInBounds_toArray, List.set_cons_zero, List.set_cons_succ]
        refine wpAnyH_done (by kernel_rfl) ?_ _
        generalize hwD : World.drew yF = yD
        have HyD : Hid (Below w1.heap.size w1 yD) := by unfold Hid; rw [← hwD]; exact HyF.out.drew
        have HLD : Hid (yD.heap[w1.heap.size]? = yF.heap[w1.heap.size]?) := by unfold Hid; rw [← hwD]; rfl
        clear hwD
        have HS8 : Hid (∀ w', Below yD.heap.size yD w' → w'.cell? ⟨w1.heap.size, 0, none⟩ = some (.int .i64 x.k) ∧ w'.cell? ⟨w1.heap.size, 1, none⟩ = some (.int .i64 x.t.length) ∧ w'.cell? ⟨w1.heap.size, 2, none⟩ = some (.pointer au)) := fun w' hb => by
          have e := (hb.block _ (Array.getElem?_eq_some_iff.1 (HLD.out.trans HL3.out)).1).trans (HLD.out.trans HL3.out)
          exact ⟨(cells3 e).2.1, (cells3 e).2.2.1, (cells3 e).2.2.2.1⟩
        have CL : Hid (∀ w', Below yD.heap.size yD w' → Calls Try.prog 43 #[.pointer au, .int .i64 x.t.length] w' fun e w'' => ∃ v', e = .returned v' ∧ OwnI w'' w'.heap.size v' x.t ∧ Below w'.heap.size w' w'') := fun w' hb => by
          have := atoms_any w' au x.t x.t.length (((HU.out.ext HB1.out).ext HyD.out).ext hb) (Nat.le_refl _) (by have := HXN.out.2.1; omega)
          rw [Nat.sub_self, List.drop_zero] at this
          exact this
        have ks := HS8.out yD (Below.refl _ _)
        go_upto_region 8 with fail
        refine wp_region_held_drew (S := fun w'' => w''.cell? ⟨w1.heap.size, 0, none⟩ = some (.int .i64 x.k) ∧ w''.cell? ⟨w1.heap.size, 1, none⟩ = some (.int .i64 x.t.length) ∧ w''.cell? ⟨w1.heap.size, 2, none⟩ = some (.pointer au)) (by kernel_rfl) (ks) (fun hHeld => ?_)
        refine wpAnyH_take (i := 0) (oi := _) (v := ?_) rfl (by kernel_rfl) (by kernel_rfl) (by kernel_rfl) (fun _ _ _ h => h) (Or.inl ⟨by rfl, ?_⟩) (by assumption) ?_
        rotate_left 1
        · intro wq hSw; (try dsimp only at hSw); go_simp; try (with_reducible rfl)
        try simp only [Act.put, List.getElem_toArray, List.getElem_cons_zero, List.setIfInBounds_toArray, List.set_cons_zero, List.set_cons_succ]
        refine wpAnyH_take (i := 1) (oi := _) (v := ?_) rfl (by kernel_rfl) (by kernel_rfl) (by kernel_rfl) (fun _ _ _ h => h) (Or.inl ⟨by rfl, ?_⟩) (by assumption) ?_
        rotate_left 1
        · intro wq hSw; (try dsimp only at hSw); go_simp; try (with_reducible rfl)
        try simp only [Act.put, List.getElem_toArray, List.getElem_cons_succ, List.getElem_cons_zero, List.setIfInBounds_toArray, List.set_cons_zero, List.set_cons_succ]
        refine wpAnyH_take (i := 2) (oi := _) (v := ?_) rfl (by kernel_rfl) (by kernel_rfl) (by kernel_rfl) (fun _ _ _ h => h) (Or.inl ⟨by rfl, ?_⟩) (by assumption) ?_
        rotate_left 1
        · intro wq hSw; (try dsimp only at hSw); go_simp; try (with_reducible rfl)
        try simp only [Act.put, List.getElem_toArray, List.getElem_cons_succ, List.getElem_cons_zero, List.setIfInBounds_toArray, List.set_cons_zero, List.set_cons_succ]
        refine wpAnyH_take (i := 3) (oi := _) (v := ?_) rfl (by kernel_rfl) (by kernel_rfl) (by kernel_rfl) (fun _ _ _ h => h) (Or.inl ⟨by rfl, ?_⟩) (by assumption) ?_
        rotate_left 1
        · intro wq hSw; (try dsimp only at hSw); go_simp; try (with_reducible rfl)
        try simp only [Act.put, List.getElem_toArray, List.getElem_cons_succ, List.getElem_cons_zero, List.setIfInBounds_toArray, List.set_cons_zero, List.set_cons_succ]
        refine wpAnyH_take (i := 4) (oi := _) (v := ?_) rfl (by kernel_rfl) (by kernel_rfl) (by kernel_rfl) (fun _ _ _ h => h) (Or.inl ⟨by rfl, ?_⟩) (by assumption) ?_
        rotate_left 1
        · intro wq hSw; (try dsimp only at hSw); go_simp; try (with_reducible rfl)
        try simp only [Act.put, List.getElem_toArray, List.getElem_cons_succ, List.getElem_cons_zero, List.setIfInBounds_toArray, List.set_cons_zero, List.set_cons_succ]
        refine wpAnyH_take (i := 5) (oi := _) (v := ?_) rfl (by kernel_rfl) (by kernel_rfl) (by kernel_rfl) (fun _ _ _ h => h) (Or.inl ⟨by rfl, ?_⟩) (by assumption) ?_
        rotate_left 1
        · intro wq hSw; (try dsimp only at hSw); go_simp; try (with_reducible rfl)
        try simp only [Act.put, List.getElem_toArray, List.getElem_cons_succ, List.getElem_cons_zero, List.setIfInBounds_toArray, List.set_cons_zero, List.set_cons_succ]
        refine wpAnyH_ready (rs := [6]) (by kernel_rfl) (by simp) ?_
        refine AllReadyH.cons (o := _) rfl (fun K hK => ?_) AllReadyH.nil
        go_simp
        refine (CL.out _ (Below.drew (Below.refl _ _))).mono ?_; rintro e y3 ⟨v3, rfl, own3, hb3⟩; obtain ⟨ao3, n3, c3, e3⟩ := own3.form; subst e3; have O3 := hidIt own3; have Hy3 := hidIt (ext_trans (Below.drew (Below.refl yD.heap.size yD)) hb3); clear own3 hb3 ks; have ks := HS8.out y3 Hy3.out; obtain ⟨hlt, q0, q1, qf⟩ := cells2 (HZ.out y3 (ext_trans HyD.out Hy3.out)); try dsimp only
        refine hK.out _ _ ?_ (fun hHeld => ?_)
        · (try simp only [World.cell?_drew]); exact ks
        clear hK K
        try simp only [Act.put, List.getElem_toArray, List.getElem_cons_succ, List.getElem_cons_zero, List.setIfInBounds_toArray, List.set_cons_zero, List.set_cons_succ]
        refine wpAnyH_take (i := 7) (oi := _) (v := ?_) rfl (by kernel_rfl) (by kernel_rfl) (by kernel_rfl) (fun _ _ _ h => h) (Or.inl ⟨by rfl, ?_⟩) (by assumption) ?_
        rotate_left 1
        · intro wq hSw; (try dsimp only at hSw); go_simp; try (with_reducible rfl)
        try simp only [Act.put, List.getElem_toArray, List.getElem_cons_succ, List.getElem_cons_zero, List.setIfInBounds_toArray, List.set_cons_zero, List.set_cons_succ]
        refine wpAnyH_ready (rs := [8]) (by kernel_rfl) (by simp) ?_
        refine AllReadyH.cons (o := _) rfl (fun K hK => ?_) AllReadyH.nil
        go_simp
        try dsimp only
        refine hK.out _ _ ?_ (fun hHeld => ?_)
        · exact ⟨by have := HLT.out; simp [go_sem, ks.1], by have := HLT.out; simp [go_sem, ks.2.1], by have := HLT.out; simp [go_sem, ks.2.2]⟩
        clear hK K
        try simp only [Act.put, List.getElem_toArray, List.getElem_cons_succ, List.getElem_cons_zero, List.setIfInBounds_toArray, List.set_cons_zero, List.set_cons_succ]
        refine wpAnyH_take (i := 9) (oi := _) (v := ?_) rfl (by kernel_rfl) (by kernel_rfl) (by kernel_rfl) (fun _ _ _ h => h) (Or.inl ⟨by rfl, ?_⟩) (by assumption) ?_
        rotate_left 1
        · intro wq hSw; (try dsimp only at hSw); go_simp; try (with_reducible rfl)
        try simp only [Act.put, List.getElem_toArray, List.getElem_cons_succ, List.getElem_cons_zero, List.setIfInBounds_toArray, List.set_cons_zero, List.set_cons_succ]
        refine wpAnyH_done (by kernel_rfl) ?_ _
        go_wp2_with fail
        refine bodyPost_ret (v := .tuple #[.agg #[.int .i64 x.k, .slice ao3 n3 c3], .int .i64 0]) (by simp [results, Try.results20, go_sem, q0, q1]) rfl ⟨by rw [HG.out]; exact ⟨_, rfl, (O3.out.other (put2 (HZ.out y3 (ext_trans HyD.out Hy3.out)) _ _).2 (by have := HyD.out.size; have := HLT.out; simp; omega)).le (by have := HB1.out.size; have := HyD.out.size; simp; omega)⟩, ?_⟩
        exact below_put (ext_trans HB1.out (ext_trans HyD.out Hy3.out)) (ext_trans HB1.out (ext_trans HyD.out Hy3.out)).size (put2 (HZ.out y3 (ext_trans HyD.out Hy3.out)) _ _).2 (Nat.le_refl _)
    
  · have HS : Hid (∀ w', Below w1.heap.size w1 w' → w'.cell? ⟨b, 0, none⟩ = some (.map (some bm)) ∧ w'.heap[bm]? = w.heap[bm]?) := fun w' hb => by
      have hbb := ext_trans HB1.out hb
      exact ⟨(hbb.cell (p := ⟨b, 0, none⟩) HBL.out.1).trans HBK.out.cells.1, hbb.block _ HBL.out.2.1⟩
    have ks := HS.out w1 (Below.refl _ _)
    have c1 := (HBK.out.ext HB1.out).cells.2.1
    obtain ⟨lv, hlook, hshw⟩ := HBK.out.look (sml_in hpi)
    have SMA : Hid (∀ y, Calls Try.prog 42 #[.int .i64 p] y fun e w' => e = .returned (.int .i64 (sml p)) ∧ y = w') := fun y => small_any p y
    cases hm : m (sml p) with
    | none =>
      have HG := hidIt (show getB m p n = (112, none) by unfold getB; rw [hnm, hun]; simp only [if_true]; rw [hm])
      have hlk : ∀ wq : World, wq.heap[bm]? = w.heap[bm]? → (Instr.lookup 68 (.map (some bm)) (.int .i64 (sml p)) true).run Try.prog wq = .ok (.tuple #[.agg #[.int .i64 0, .int .i64 0, .pointer none], .bool false]) wq := by
        rw [hm] at hlook hshw
        have h3 : lv = .agg #[.int .i64 0, .int .i64 0, .pointer none] := hshw
        rw [h3] at hlook
        exact hlook
      rw [hnm] at NM
      rw [hun] at UN
      clear hm hlook hshw
      go_enter Try.func20, Try.ntmps20
      go_upto_region 1 with fail
      rw [← hw1]
      clear hw1
      go_upto_region 5 with (first | (go_at_call 38; refine NM.out.mono ?_; rintro e y8 ⟨rfl, rfl⟩; (try dsimp only)) | (go_at_call 33; refine UN.out.mono ?_; rintro e y8 ⟨rfl, rfl⟩; (try dsimp only)))
      refine wp_region_held_drew (S := fun w'' => w''.cell? ⟨b, 0, none⟩ = some (.map (some bm)) ∧ w''.heap[bm]? = w.heap[bm]?) (by kernel_rfl) (ks) (fun hHeld => ?_)
      refine wpAnyH_take (i := 0) (oi := _) (v := ?_) rfl (by kernel_rfl) (by kernel_rfl) (by kernel_rfl) (fun _ _ _ h => h) (Or.inl ⟨by rfl, ?_⟩) (by assumption) ?_
      rotate_left 1
      · intro wq hSw; (try dsimp only at hSw); go_simp; try (with_reducible rfl)
      try simp only [Act.put, List.getElem_toArray, List.getElem_cons_zero, List.setIfInBounds_toArray, List.set_cons_zero, List.set_cons_succ]
      refine wpAnyH_take (i := 1) (oi := _) (v := ?_) rfl (by kernel_rfl) (by kernel_rfl) (by kernel_rfl) (fun _ _ _ h => h) (Or.inl ⟨by rfl, ?_⟩) (by assumption) ?_
      rotate_left 1
      · intro wq hSw; (try dsimp only at hSw); go_simp; try (with_reducible rfl)
      try simp only [Act.put, List.getElem_toArray, List.getElem_cons_succ, List.getElem_cons_zero, List.setIfInBounds_toArray, List.set_cons_zero, List.set_cons_succ]
      refine wpAnyH_take (i := 2) (oi := _) (v := ?_) rfl (by kernel_rfl) (by kernel_rfl) (by kernel_rfl) (fun _ _ _ h => h) (Or.inl ⟨by rfl, ?_⟩) (by assumption) ?_
      rotate_left 1
      · intro wq hSw; (try dsimp only at hSw); go_simp; try (with_reducible rfl)
      try simp only [Act.put, List.getElem_toArray, List.getElem_cons_succ, List.getElem_cons_zero, List.setIfInBounds_toArray, List.set_cons_zero, List.set_cons_succ]
      refine wpAnyH_take (i := 3) (oi := _) (v := ?_) rfl (by kernel_rfl) (by kernel_rfl) (by kernel_rfl) (fun _ _ _ h => h) (Or.inl ⟨by rfl, ?_⟩) (by assumption) ?_
      rotate_left 1
      · intro wq hSw; (try dsimp only at hSw); go_simp; try (with_reducible rfl)
      try simp only [Act.put, List.getElem_toArray, List.getElem_cons_succ, List.getElem_cons_zero, List.setIfInBounds_toArray, List.set_cons_zero, List.set_cons_succ]
      refine wpAnyH_take (i := 4) (oi := _) (v := ?_) rfl (by kernel_rfl) (by kernel_rfl) (by kernel_rfl) (fun _ _ _ h => h) (Or.inl ⟨by rfl, ?_⟩) (by assumption) ?_
      rotate_left 1
      · intro wq hSw; (try dsimp only at hSw); go_simp; try (with_reducible rfl)
      try simp only [Act.put, List.getElem_toArray, List.getElem_cons_succ, List.getElem_cons_zero, List.setIfInBounds_toArray, List.set_cons_zero, List.set_cons_succ]
      refine wpAnyH_ready (rs := [5, 10]) (by kernel_rfl) (by simp) ?_
      refine (AllReadyH.cons (o := _) rfl (fun K hK => ?_) (AllReadyH.cons (o := _) rfl (fun K hK => ?_) AllReadyH.nil))
      · skip
        go_simp
        refine (SMA.out _).mono ?_; rintro e y9 ⟨rfl, rfl⟩; try dsimp only
        refine hK.out _ _ ?_ (fun hHeld => ?_)
        · (try simp only [World.cell?_drew]); exact ks
        clear hK K
        try simp only [Act.put, List.getElem_toArray, List.getElem_cons_succ, List.getElem_cons_zero, List.setIfInBounds_toArray, List.set_cons_zero, List.set_cons_succ]
        refine wpAnyH_take (i := 6) (oi := _) (v := ?_) rfl (by kernel_rfl) (by kernel_rfl) (by kernel_rfl) (fun _ _ _ h => h) (Or.inl ⟨by rfl, ?_⟩) (by assumption) ?_
        rotate_left 1
        · intro wq hSw; (try dsimp only at hSw); go_simp; try (with_reducible rfl)
        try simp only [Act.put, List.getElem_toArray, List.getElem_cons_succ, List.getElem_cons_zero, List.setIfInBounds_toArray, List.set_cons_zero, List.set_cons_succ]
        refine wpAnyH_take (i := 7) (oi := _) (v := ?_) rfl (by kernel_rfl) (by kernel_rfl) (by kernel_rfl) (fun _ _ _ h => h) (Or.inl ⟨by rfl, ?_⟩) (by assumption) ?_
        rotate_left 1
        · intro wq hSw; (try dsimp only at hSw); go_simp; try (with_reducible rfl)
        try simp only [Act.put, List.getElem_toArray, List.getElem_cons_succ, List.getElem_cons_zero, List.setIfInBounds_toArray, List.set_cons_zero, List.set_cons_succ]
        refine wpAnyH_take (i := 8) (oi := _) (v := ?_) rfl (by kernel_rfl) (by kernel_rfl) (by kernel_rfl) (fun _ _ _ h => h) (Or.inl ⟨by rfl, ?_⟩) (by assumption) ?_
        rotate_left 1
        · intro wq hSw; (try dsimp only at hSw); go_simp; try (with_reducible rfl)
        try simp only [Act.put, List.getElem_toArray, List.getElem_cons_succ, List.getElem_cons_zero, List.setIfInBounds_toArray, List.set_cons_zero, List.set_cons_succ]
        refine wpAnyH_take (i := 9) (oi := _) (v := ?_) rfl (by kernel_rfl) (by kernel_rfl) (by kernel_rfl) (fun _ _ _ h => h) (Or.inl ⟨by rfl, ?_⟩) (by assumption) ?_
        rotate_left 1
        · intro wq hSw; (try dsimp only at hSw); go_simp; try (with_reducible rfl)
        try simp only [Act.put, List.getElem_toArray, List.getElem_cons_succ, List.getElem_cons_zero, List.setIfInBounds_toArray, List.set_cons_zero, List.set_cons_succ]
        refine wpAnyH_ready (rs := [10]) (by kernel_rfl) (by simp) ?_
        refine AllReadyH.cons (o := _) rfl (fun K hK => ?_) AllReadyH.nil
        go_simp
        generalize hwN : World.alloc _ _ = y2; have Hy2 : Hid (Below w1.heap.size w1 y2) := (by unfold Hid; rw [← hwN]; exact ext_alloc (Below.refl _ _) _); have HL2 : Hid (y2.heap[w1.heap.size]? = some (.cells #[.int .i64 0, .int .i64 0, .pointer none] 73 (0, 0))) := (by unfold Hid; rw [← hwN]; exact heap_alloc_new _ _); clear hwN ks; have ks := HS.out y2 Hy2.out; obtain ⟨hl2, d0, d1, d2, df⟩ := cells3 HL2.out; try dsimp only
        refine hK.out _ _ ?_ (fun hHeld => ?_)
        · (try simp only [World.cell?_drew]); exact ks
        clear hK K
        try simp only [Act.put, List.getElem_toArray, List.getElem_cons_succ, List.getElem_cons_zero, List.setIfInBounds_toArray, List.set_cons_zero, List.set_cons_succ]
        refine wpAnyH_ready (rs := [11]) (by kernel_rfl) (by simp) ?_
        refine AllReadyH.cons (o := _) rfl (fun K hK => ?_) AllReadyH.nil
        go_simp
        generalize hwF : World.setCell (World.setCell (World.setCell _ _ _) _ _) _ _ = yF; have HL3 : Hid (yF.heap[w1.heap.size]? = some (.cells #[.int .i64 0, .int .i64 0, .pointer none] 73 (0, 0))) := (by unfold Hid; rw [← hwF]; exact (put3 HL2.out _ _ _).1); have HyF : Hid (Below w1.heap.size w1 yF) := (by unfold Hid; rw [← hwF]; exact below_put Hy2.out Hy2.out.size (put3 HL2.out _ _ _).2 (Nat.le_refl _)); clear hwF d0 d1 d2 df ks; have ks := HS.out yF HyF.out; try dsimp only
        refine hK.out _ _ ?_ (fun hHeld => ?_)
        · (try simp only [World.cell?_drew]); exact ks
        clear hK K
        try simp only [Act.put, List.getElem_toArray, List.getElem_cons_succ, List.getElem_cons_zero, List.setIfInBounds_toArray, List.set_cons_zero, List.set_cons_succ]
        refine wpAnyH_take (i := 12) (oi := _) (v := ?_) rfl (by kernel_rfl) (by kernel_rfl) (by kernel_rfl) (fun _ _ _ h => h) (Or.inl ⟨by rfl, ?_⟩) (by assumption) ?_
        rotate_left 1
        · intro wq hSw; (try dsimp only at hSw); go_simp; try (with_reducible rfl)
        try simp only [Act.put, List.getElem_toArray, List.getElem_cons_succ, List.getElem_cons_zero, List.setIfInBounds_toArray, List.set_cons_zero, List.set_cons_succ]
        refine wpAnyH_done (by kernel_rfl) ?_ _
        generalize hwD : World.drew yF = yD
        have HyD : Hid (Below w1.heap.size w1 yD) := by unfold Hid; rw [← hwD]; exact HyF.out.drew
        have HLD : Hid (yD.heap[w1.heap.size]? = yF.heap[w1.heap.size]?) := by unfold Hid; rw [← hwD]; rfl
        clear hwD
        obtain ⟨_, q0, q1, qf⟩ := cells2 (HZ.out yD HyD.out)
        go_wp2_with fail
        refine bodyPost_ret (v := .tuple #[.agg #[.int .i64 0, .slice none 0 0], .int .i64 112]) (by simp [results, Try.results20, go_sem, q0, q1]) rfl ⟨by rw [HG.out], ?_⟩
        exact below_put (ext_trans HB1.out HyD.out) (ext_trans HB1.out HyD.out).size (put2 (HZ.out yD HyD.out) _ _).2 (Nat.le_refl _)
      · skip
        go_simp
        generalize hwN : World.alloc _ _ = y2; have Hy2 : Hid (Below w1.heap.size w1 y2) := (by unfold Hid; rw [← hwN]; exact ext_alloc (Below.refl _ _) _); have HL2 : Hid (y2.heap[w1.heap.size]? = some (.cells #[.int .i64 0, .int .i64 0, .pointer none] 73 (0, 0))) := (by unfold Hid; rw [← hwN]; exact heap_alloc_new _ _); clear hwN ks; have ks := HS.out y2 Hy2.out; obtain ⟨hl2, d0, d1, d2, df⟩ := cells3 HL2.out; try dsimp only
        refine hK.out _ _ ?_ (fun hHeld => ?_)
        · (try simp only [World.cell?_drew]); exact ks
        clear hK K
        try simp only [Act.put, List.getElem_toArray, List.getElem_cons_succ, List.getElem_cons_zero, List.setIfInBounds_toArray, List.set_cons_zero, List.set_cons_succ]
        refine wpAnyH_ready (rs := [5]) (by kernel_rfl) (by simp) ?_
        refine AllReadyH.cons (o := _) rfl (fun K hK => ?_) AllReadyH.nil
        go_simp
        refine (SMA.out _).mono ?_; rintro e y9 ⟨rfl, rfl⟩; try dsimp only
        refine hK.out _ _ ?_ (fun hHeld => ?_)
        · (try simp only [World.cell?_drew]); exact ks
        clear hK K
        try simp only [Act.put, List.getElem_toArray, List.getElem_cons_succ, List.getElem_cons_zero, List.setIfInBounds_toArray, List.set_cons_zero, List.set_cons_succ]
        refine wpAnyH_take (i := 6) (oi := _) (v := ?_) rfl (by kernel_rfl) (by kernel_rfl) (by kernel_rfl) (fun _ _ _ h => h) (Or.inl ⟨by rfl, ?_⟩) (by assumption) ?_
        rotate_left 1
        · intro wq hSw; (try dsimp only at hSw); go_simp; try (with_reducible rfl)
        try simp only [Act.put, List.getElem_toArray, List.getElem_cons_succ, List.getElem_cons_zero, List.setIfInBounds_toArray, List.set_cons_zero, List.set_cons_succ]
        refine wpAnyH_take (i := 7) (oi := _) (v := ?_) rfl (by kernel_rfl) (by kernel_rfl) (by kernel_rfl) (fun _ _ _ h => h) (Or.inl ⟨by rfl, ?_⟩) (by assumption) ?_
        rotate_left 1
        · intro wq hSw; (try dsimp only at hSw); go_simp; try (with_reducible rfl)
        try simp only [Act.put, List.getElem_toArray, List.getElem_cons_succ, List.getElem_cons_zero, List.setIfInBounds_toArray, List.set_cons_zero, List.set_cons_succ]
        refine wpAnyH_take (i := 8) (oi := _) (v := ?_) rfl (by kernel_rfl) (by kernel_rfl) (by kernel_rfl) (fun _ _ _ h => h) (Or.inl ⟨by rfl, ?_⟩) (by assumption) ?_
        rotate_left 1
        · intro wq hSw; (try dsimp only at hSw); go_simp; try (with_reducible rfl)
        try simp only [Act.put, List.getElem_toArray, List.getElem_cons_succ, List.getElem_cons_zero, List.setIfInBounds_toArray, List.set_cons_zero, List.set_cons_succ]
        refine wpAnyH_take (i := 9) (oi := _) (v := ?_) rfl (by kernel_rfl) (by kernel_rfl) (by kernel_rfl) (fun _ _ _ h => h) (Or.inl ⟨by rfl, ?_⟩) (by assumption) ?_
        rotate_left 1
        · intro wq hSw; (try dsimp only at hSw); go_simp; try (with_reducible rfl)
        try simp only [Act.put, List.getElem_toArray, List.getElem_cons_succ, List.getElem_cons_zero, List.setIfInBounds_toArray, List.set_cons_zero, List.set_cons_succ]
        refine wpAnyH_ready (rs := [11]) (by kernel_rfl) (by simp) ?_
        refine AllReadyH.cons (o := _) rfl (fun K hK => ?_) AllReadyH.nil
        go_simp
        generalize hwF : World.setCell (World.setCell (World.setCell _ _ _) _ _) _ _ = yF; have HL3 : Hid (yF.heap[w1.heap.size]? = some (.cells #[.int .i64 0, .int .i64 0, .pointer none] 73 (0, 0))) := (by unfold Hid; rw [← hwF]; exact (put3 HL2.out _ _ _).1); have HyF : Hid (Below w1.heap.size w1 yF) := (by unfold Hid; rw [← hwF]; exact below_put Hy2.out Hy2.out.size (put3 HL2.out _ _ _).2 (Nat.le_refl _)); clear hwF d0 d1 d2 df ks; have ks := HS.out yF HyF.out; try dsimp only
        refine hK.out _ _ ?_ (fun hHeld => ?_)
        · (try simp only [World.cell?_drew]); exact ks
        clear hK K
        try simp only [Act.put, List.getElem_toArray, List.getElem_cons_succ, List.getElem_cons_zero, List.setIfInBounds_toArray, List.set_cons_zero, List.set_cons_succ]
        refine wpAnyH_take (i := 12) (oi := _) (v := ?_) rfl (by kernel_rfl) (by kernel_rfl) (by kernel_rfl) (fun _ _ _ h => h) (Or.inl ⟨by rfl, ?_⟩) (by assumption) ?_
        rotate_left 1
        · intro wq hSw; (try dsimp only at hSw); go_simp; try (with_reducible rfl)
        try simp only [Act.put, List.getElem_toArray, List.getElem_cons_succ, List.getElem_cons_zero, List.setIfInBounds_toArray, List.set_cons_zero, List.set_cons_succ]
        refine wpAnyH_done (by kernel_rfl) ?_ _
        generalize hwD : World.drew yF = yD
        have HyD : Hid (Below w1.heap.size w1 yD) := by unfold Hid; rw [← hwD]; exact HyF.out.drew
        have HLD : Hid (yD.heap[w1.heap.size]? = yF.heap[w1.heap.size]?) := by unfold Hid; rw [← hwD]; rfl
        clear hwD
        obtain ⟨_, q0, q1, qf⟩ := cells2 (HZ.out yD HyD.out)
        go_wp2_with fail
        refine bodyPost_ret (v := .tuple #[.agg #[.int .i64 0, .slice none 0 0], .int .i64 112]) (by simp [results, Try.results20, go_sem, q0, q1]) rfl ⟨by rw [HG.out], ?_⟩
        exact below_put (ext_trans HB1.out HyD.out) (ext_trans HB1.out HyD.out).size (put2 (HZ.out yD HyD.out) _ _).2 (Nat.le_refl _)
    
    | some x =>
      have HG := hidIt (show getB m p n = (0, some x) by unfold getB; rw [hnm, hun]; simp only [if_true]; rw [hm])
      rw [hm] at hlook hshw
      obtain ⟨au, h3, hu, hxn, hxl⟩ := hshw
      subst h3
      have hlk : ∀ wq : World, wq.heap[bm]? = w.heap[bm]? → (Instr.lookup 68 (.map (some bm)) (.int .i64 (sml p)) true).run Try.prog wq = .ok (.tuple #[.agg #[.int .i64 x.k, .int .i64 x.t.length, .pointer au], .bool true]) wq := hlook
      have HU := hidIt hu
      have HXN := hidIt (And.intro hxn hxl)
      rw [hnm] at NM
      rw [hun] at UN
      clear hm hlook hu hxn hxl
      go_enter Try.func20, Try.ntmps20
      go_upto_region 1 with fail
      rw [← hw1]
      clear hw1
      go_upto_region 5 with (first | (go_at_call 38; refine NM.out.mono ?_; rintro e y8 ⟨rfl, rfl⟩; (try dsimp only)) | (go_at_call 33; refine UN.out.mono ?_; rintro e y8 ⟨rfl, rfl⟩; (try dsimp only)))
      refine wp_region_held_drew (S := fun w'' => w''.cell? ⟨b, 0, none⟩ = some (.map (some bm)) ∧ w''.heap[bm]? = w.heap[bm]?) (by kernel_rfl) (ks) (fun hHeld => ?_)
      refine wpAnyH_take (i := 0) (oi := _) (v := ?_) rfl (by kernel_rfl) (by kernel_rfl) (by kernel_rfl) (fun _ _ _ h => h) (Or.inl ⟨by rfl, ?_⟩) (by assumption) ?_
      rotate_left 1
      · intro wq hSw; (try dsimp only at hSw); go_simp; try (with_reducible rfl)
      try simp only [Act.put, List.getElem_toArray, List.getElem_cons_zero, List.setIfInBounds_toArray, List.set_cons_zero, List.set_cons_succ]
      refine wpAnyH_take (i := 1) (oi := _) (v := ?_) rfl (by kernel_rfl) (by kernel_rfl) (by kernel_rfl) (fun _ _ _ h => h) (Or.inl ⟨by rfl, ?_⟩) (by assumption) ?_
      rotate_left 1
      · intro wq hSw; (try dsimp only at hSw); go_simp; try (with_reducible rfl)
      try simp only [Act.put, List.getElem_toArray, List.getElem_cons_succ, List.getElem_cons_zero, List.setIfInBounds_toArray, List.set_cons_zero, List.set_cons_succ]
      refine wpAnyH_take (i := 2) (oi := _) (v := ?_) rfl (by kernel_rfl) (by kernel_rfl) (by kernel_rfl) (fun _ _ _ h => h) (Or.inl ⟨by rfl, ?_⟩) (by assumption) ?_
      rotate_left 1
      · intro wq hSw; (try dsimp only at hSw); go_simp; try (with_reducible rfl)
      try simp only [Act.put, List.getElem_toArray, List.getElem_cons_succ, List.getElem_cons_zero, List.setIfInBounds_toArray, List.set_cons_zero, List.set_cons_succ]
      refine wpAnyH_take (i := 3) (oi := _) (v := ?_) rfl (by kernel_rfl) (by kernel_rfl) (by kernel_rfl) (fun _ _ _ h => h) (Or.inl ⟨by rfl, ?_⟩) (by assumption) ?_
      rotate_left 1
      · intro wq hSw; (try dsimp only at hSw); go_simp; try (with_reducible rfl)
      try simp only [Act.put, List.getElem_toArray, List.getElem_cons_succ, List.getElem_cons_zero, List.setIfInBounds_toArray, List.set_cons_zero, List.set_cons_succ]
      refine wpAnyH_take (i := 4) (oi := _) (v := ?_) rfl (by kernel_rfl) (by kernel_rfl) (by kernel_rfl) (fun _ _ _ h => h) (Or.inl ⟨by rfl, ?_⟩) (by assumption) ?_
      rotate_left 1
      · intro wq hSw; (try dsimp only at hSw); go_simp; try (with_reducible rfl)
      try simp only [Act.put, List.getElem_toArray, List.getElem_cons_succ, List.getElem_cons_zero, List.setIfInBounds_toArray, List.set_cons_zero, List.set_cons_succ]
      refine wpAnyH_ready (rs := [5, 10]) (by kernel_rfl) (by simp) ?_
      refine (AllReadyH.cons (o := _) rfl (fun K hK => ?_) (AllReadyH.cons (o := _) rfl (fun K hK => ?_) AllReadyH.nil))
      · skip
        go_simp
        refine (SMA.out _).mono ?_; rintro e y9 ⟨rfl, rfl⟩; try dsimp only
        refine hK.out _ _ ?_ (fun hHeld => ?_)
        · (try simp only [World.cell?_drew]); exact ks
        clear hK K
        try simp only [Act.put, List.getElem_toArray, List.getElem_cons_succ, List.getElem_cons_zero, List.setIfInBounds_toArray, List.set_cons_zero, List.set_cons_succ]
        refine wpAnyH_take (i := 6) (oi := _) (v := ?_) rfl (by kernel_rfl) (by kernel_rfl) (by kernel_rfl) (fun _ _ _ h => h) (Or.inl ⟨by rfl, ?_⟩) (by assumption) ?_
        rotate_left 1
        · intro wq hSw; (try dsimp only at hSw); go_simp; try (with_reducible rfl)
        try simp only [Act.put, List.getElem_toArray, List.getElem_cons_succ, List.getElem_cons_zero, List.setIfInBounds_toArray, List.set_cons_zero, List.set_cons_succ]
        refine wpAnyH_take (i := 7) (oi := _) (v := ?_) rfl (by kernel_rfl) (by kernel_rfl) (by kernel_rfl) (fun _ _ _ h => h) (Or.inl ⟨by rfl, ?_⟩) (by assumption) ?_
        rotate_left 1
        · intro wq hSw; (try dsimp only at hSw); go_simp; try (with_reducible rfl)
        try simp only [Act.put, List.getElem_toArray, List.getElem_cons_succ, List.getElem_cons_zero, List.setIfInBounds_toArray, List.set_cons_zero, List.set_cons_succ]
        refine wpAnyH_take (i := 8) (oi := _) (v := ?_) rfl (by kernel_rfl) (by kernel_rfl) (by kernel_rfl) (fun _ _ _ h => h) (Or.inl ⟨by rfl, ?_⟩) (by assumption) ?_
        rotate_left 1
        · intro wq hSw; (try dsimp only at hSw); go_simp; try (with_reducible rfl)
        try simp only [Act.put, List.getElem_toArray, List.getElem_cons_succ, List.getElem_cons_zero, List.setIfInBounds_toArray, List.set_cons_zero, List.set_cons_succ]
        refine wpAnyH_take (i := 9) (oi := _) (v := ?_) rfl (by kernel_rfl) (by kernel_rfl) (by kernel_rfl) (fun _ _ _ h => h) (Or.inl ⟨by rfl, ?_⟩) (by assumption) ?_
        rotate_left 1
        · intro wq hSw; (try dsimp only at hSw); go_simp; try (with_reducible rfl)
        try simp only [Act.put, List.getElem_toArray, List.getElem_cons_succ, List.getElem_cons_zero, List.setIfInBounds_toArray, List.set_cons_zero, List.set_cons_succ]
        refine wpAnyH_ready (rs := [10]) (by kernel_rfl) (by simp) ?_
        refine AllReadyH.cons (o := _) rfl (fun K hK => ?_) AllReadyH.nil
        go_simp
        generalize hwN : World.alloc _ _ = y2; have Hy2 : Hid (Below w1.heap.size w1 y2) := (by unfold Hid; rw [← hwN]; exact ext_alloc (Below.refl _ _) _); have HL2 : Hid (y2.heap[w1.heap.size]? = some (.cells #[.int .i64 0, .int .i64 0, .pointer none] 73 (0, 0))) := (by unfold Hid; rw [← hwN]; exact heap_alloc_new _ _); clear hwN ks; have ks := HS.out y2 Hy2.out; obtain ⟨hl2, d0, d1, d2, df⟩ := cells3 HL2.out; try dsimp only
        refine hK.out _ _ ?_ (fun hHeld => ?_)
        · (try simp only [World.cell?_drew]); exact ks
        clear hK K
        try simp only [Act.put, List.getElem_toArray, List.getElem_cons_succ, List.getElem_cons_zero, List.setIfInBounds_toArray, List.set_cons_zero, List.set_cons_succ]
        refine wpAnyH_ready (rs := [11]) (by kernel_rfl) (by simp) ?_
        refine AllReadyH.cons (o := _) rfl (fun K hK => ?_) AllReadyH.nil
        go_simp
        generalize hwF : World.setCell (World.setCell (World.setCell _ _ _) _ _) _ _ = yF; have HL3 : Hid (yF.heap[w1.heap.size]? = some (.cells #[.int .i64 x.k, .int .i64 x.t.length, .pointer au] 73 (0, 0))) := (by unfold Hid; rw [← hwF]; exact (put3 HL2.out _ _ _).1); have HyF : Hid (Below w1.heap.size w1 yF) := (by unfold Hid; rw [← hwF]; exact below_put Hy2.out Hy2.out.size (put3 HL2.out _ _ _).2 (Nat.le_refl _)); clear hwF d0 d1 d2 df ks; have ks := HS.out yF HyF.out; try dsimp only
        refine hK.out _ _ ?_ (fun hHeld => ?_)
        · (try simp only [World.cell?_drew]); exact ks
        clear hK K
        try simp only [Act.put, List.getElem_toArray, List.getElem_cons_succ, List.getElem_cons_zero, List.setIfInBounds_toArray, List.set_cons_zero, List.set_cons_succ]
        refine wpAnyH_take (i := 12) (oi := _) (v := ?_) rfl (by kernel_rfl) (by kernel_rfl) (by kernel_rfl) (fun _ _ _ h => h) (Or.inl ⟨by rfl, ?_⟩) (by assumption) ?_
        rotate_left 1
        · intro wq hSw; (try dsimp only at hSw); go_simp; try (with_reducible rfl)
        try simp only [Act.put, List.getElem_toArray, List.getElem_cons_succ, List.getElem_cons_zero, List.setIfInBounds_toArray, List.set_cons_zero, List.set_cons_succ]
        refine wpAnyH_done (by kernel_rfl) ?_ _
        generalize hwD : World.drew yF = yD
        have HyD : Hid (Below w1.heap.size w1 yD) := by unfold Hid; rw [← hwD]; exact HyF.out.drew
        have HLD : Hid (yD.heap[w1.heap.size]? = yF.heap[w1.heap.size]?) := by unfold Hid; rw [← hwD]; rfl
        clear hwD
        have HS8 : Hid (∀ w', Below yD.heap.size yD w' → w'.cell? ⟨w1.heap.size, 0, none⟩ = some (.int .i64 x.k) ∧ w'.cell? ⟨w1.heap.size, 1, none⟩ = some (.int .i64 x.t.length) ∧ w'.cell? ⟨w1.heap.size, 2, none⟩ = some (.pointer au)) := fun w' hb => by
          have e := (hb.block _ (Array.getElem?_eq_some_iff.1 (HLD.out.trans HL3.out)).1).trans (HLD.out.trans HL3.out)
          exact ⟨(cells3 e).2.1, (cells3 e).2.2.1, (cells3 e).2.2.2.1⟩
        have CL : Hid (∀ w', Below yD.heap.size yD w' → Calls Try.prog 43 #[.pointer au, .int .i64 x.t.length] w' fun e w'' => ∃ v', e = .returned v' ∧ OwnI w'' w'.heap.size v' x.t ∧ Below w'.heap.size w' w'') := fun w' hb => by
          have := atoms_any w' au x.t x.t.length (((HU.out.ext HB1.out).ext HyD.out).ext hb) (Nat.le_refl _) (by have := HXN.out.2.1; omega)
          rw [Nat.sub_self, List.drop_zero] at this
          exact this
        have ks := HS8.out yD (Below.refl _ _)
        go_upto_region 8 with fail
        refine wp_region_held_drew (S := fun w'' => w''.cell? ⟨w1.heap.size, 0, none⟩ = some (.int .i64 x.k) ∧ w''.cell? ⟨w1.heap.size, 1, none⟩ = some (.int .i64 x.t.length) ∧ w''.cell? ⟨w1.heap.size, 2, none⟩ = some (.pointer au)) (by kernel_rfl) (ks) (fun hHeld => ?_)
        refine wpAnyH_take (i := 0) (oi := _) (v := ?_) rfl (by kernel_rfl) (by kernel_rfl) (by kernel_rfl) (fun _ _ _ h => h) (Or.inl ⟨by rfl, ?_⟩) (by assumption) ?_
        rotate_left 1
        · intro wq hSw; (try dsimp only at hSw); go_simp; try (with_reducible rfl)
        try simp only [Act.put, List.getElem_toArray, List.getElem_cons_zero, List.setIfInBounds_toArray, List.set_cons_zero, List.set_cons_succ]
        refine wpAnyH_take (i := 1) (oi := _) (v := ?_) rfl (by kernel_rfl) (by kernel_rfl) (by kernel_rfl) (fun _ _ _ h => h) (Or.inl ⟨by rfl, ?_⟩) (by assumption) ?_
        rotate_left 1
        · intro wq hSw; (try dsimp only at hSw); go_simp; try (with_reducible rfl)
        try simp only [Act.put, List.getElem_toArray, List.getElem_cons_succ, List.getElem_cons_zero, List.setIfInBounds_toArray, List.set_cons_zero, List.set_cons_succ]
        refine wpAnyH_take (i := 2) (oi := _) (v := ?_) rfl (by kernel_rfl) (by kernel_rfl) (by kernel_rfl) (fun _ _ _ h => h) (Or.inl ⟨by rfl, ?_⟩) (by assumption) ?_
        rotate_left 1
        · intro wq hSw; (try dsimp only at hSw); go_simp; try (with_reducible rfl)
        try simp only [Act.put, List.getElem_toArray, List.getElem_cons_succ, List.getElem_cons_zero, List.setIfInBounds_toArray, List.set_cons_zero, List.set_cons_succ]
        refine wpAnyH_take (i := 3) (oi := _) (v := ?_) rfl (by kernel_rfl) (by kernel_rfl) (by kernel_rfl) (fun _ _ _ h => h) (Or.inl ⟨by rfl, ?_⟩) (by assumption) ?_
        rotate_left 1
        · intro wq hSw; (try dsimp only at hSw); go_simp; try (with_reducible rfl)
        try simp only [Act.put, List.getElem_toArray, List.getElem_cons_succ, List.getElem_cons_zero, List.setIfInBounds_toArray, List.set_cons_zero, List.set_cons_succ]
        refine wpAnyH_take (i := 4) (oi := _) (v := ?_) rfl (by kernel_rfl) (by kernel_rfl) (by kernel_rfl) (fun _ _ _ h => h) (Or.inl ⟨by rfl, ?_⟩) (by assumption) ?_
        rotate_left 1
        · intro wq hSw; (try dsimp only at hSw); go_simp; try (with_reducible rfl)
        try simp only [Act.put, List.getElem_toArray, List.getElem_cons_succ, List.getElem_cons_zero, List.setIfInBounds_toArray, List.set_cons_zero, List.set_cons_succ]
        refine wpAnyH_take (i := 5) (oi := _) (v := ?_) rfl (by kernel_rfl) (by kernel_rfl) (by kernel_rfl) (fun _ _ _ h => h) (Or.inl ⟨by rfl, ?_⟩) (by assumption) ?_
        rotate_left 1
        · intro wq hSw; (try dsimp only at hSw); go_simp; try (with_reducible rfl)
        try simp only [Act.put, List.getElem_toArray, List.getElem_cons_succ, List.getElem_cons_zero, List.setIfInBounds_toArray, List.set_cons_zero, List.set_cons_succ]
        refine wpAnyH_ready (rs := [6]) (by kernel_rfl) (by simp) ?_
        refine AllReadyH.cons (o := _) rfl (fun K hK => ?_) AllReadyH.nil
        go_simp
        refine (CL.out _ (Below.drew (Below.refl _ _))).mono ?_; rintro e y3 ⟨v3, rfl, own3, hb3⟩; obtain ⟨ao3, n3, c3, e3⟩ := own3.form; subst e3; have O3 := hidIt own3; have Hy3 := hidIt (ext_trans (Below.drew (Below.refl yD.heap.size yD)) hb3); clear own3 hb3 ks; have ks := HS8.out y3 Hy3.out; obtain ⟨hlt, q0, q1, qf⟩ := cells2 (HZ.out y3 (ext_trans HyD.out Hy3.out)); try dsimp only
        refine hK.out _ _ ?_ (fun hHeld => ?_)
        · (try simp only [World.cell?_drew]); exact ks
        clear hK K
        try simp only [Act.put, List.getElem_toArray, List.getElem_cons_succ, List.getElem_cons_zero, List.setIfInBounds_toArray, List.set_cons_zero, List.set_cons_succ]
        refine wpAnyH_take (i := 7) (oi := _) (v := ?_) rfl (by kernel_rfl) (by kernel_rfl) (by kernel_rfl) (fun _ _ _ h => h) (Or.inl ⟨by rfl, ?_⟩) (by assumption) ?_
        rotate_left 1
        · intro wq hSw; (try dsimp only at hSw); go_simp; try (with_reducible rfl)
        try simp only [Act.put, List.getElem_toArray, List.getElem_cons_succ, List.getElem_cons_zero, List.setIfInBounds_toArray, List.set_cons_zero, List.set_cons_succ]
        refine wpAnyH_ready (rs := [8]) (by kernel_rfl) (by simp) ?_
        refine AllReadyH.cons (o := _) rfl (fun K hK => ?_) AllReadyH.nil
        go_simp
        try dsimp only
        refine hK.out _ _ ?_ (fun hHeld => ?_)
        · exact ⟨by have := HLT.out; simp [go_sem, ks.1], by have := HLT.out; simp [go_sem, ks.2.1], by have := HLT.out; simp [go_sem, ks.2.2]⟩
        clear hK K
        try simp only [Act.put, List.getElem_toArray, List.getElem_cons_succ, List.getElem_cons_zero, List.setIfInBounds_toArray, List.set_cons_zero, List.set_cons_succ]
        refine wpAnyH_take (i := 9) (oi := _) (v := ?_) rfl (by kernel_rfl) (by kernel_rfl) (by kernel_rfl) (fun _ _ _ h => h) (Or.inl ⟨by rfl, ?_⟩) (by assumption) ?_
        rotate_left 1
        · intro wq hSw; (try dsimp only at hSw); go_simp; try (with_reducible rfl)
        try simp only [Act.put, List.getElem_toArray, List.getElem_cons_succ, List.getElem_cons_zero, List.setIfInBounds_toArray, List.set_cons_zero, List.set_cons_succ]
        refine wpAnyH_done (by kernel_rfl) ?_ _
        go_wp2_with fail
        refine bodyPost_ret (v := .tuple #[.agg #[.int .i64 x.k, .slice ao3 n3 c3], .int .i64 0]) (by simp [results, Try.results20, go_sem, q0, q1]) rfl ⟨by rw [HG.out]; exact ⟨_, rfl, (O3.out.other (put2 (HZ.out y3 (ext_trans HyD.out Hy3.out)) _ _).2 (by have := HyD.out.size; have := HLT.out; simp; omega)).le (by have := HB1.out.size; have := HyD.out.size; simp; omega)⟩, ?_⟩
        exact below_put (ext_trans HB1.out (ext_trans HyD.out Hy3.out)) (ext_trans HB1.out (ext_trans HyD.out Hy3.out)).size (put2 (HZ.out y3 (ext_trans HyD.out Hy3.out)) _ _).2 (Nat.le_refl _)
      · skip
        go_simp
        generalize hwN : World.alloc _ _ = y2; have Hy2 : Hid (Below w1.heap.size w1 y2) := (by unfold Hid; rw [← hwN]; exact ext_alloc (Below.refl _ _) _); have HL2 : Hid (y2.heap[w1.heap.size]? = some (.cells #[.int .i64 0, .int .i64 0, .pointer none] 73 (0, 0))) := (by unfold Hid; rw [← hwN]; exact heap_alloc_new _ _); clear hwN ks; have ks := HS.out y2 Hy2.out; obtain ⟨hl2, d0, d1, d2, df⟩ := cells3 HL2.out; try dsimp only
        refine hK.out _ _ ?_ (fun hHeld => ?_)
        · (try simp only [World.cell?_drew]); exact ks
        clear hK K
        try simp only [Act.put, List.getElem_toArray, List.getElem_cons_succ, List.getElem_cons_zero, List.setIfInBounds_toArray, List.set_cons_zero, List.set_cons_succ]
        refine wpAnyH_ready (rs := [5]) (by kernel_rfl) (by simp) ?_
        refine AllReadyH.cons (o := _) rfl (fun K hK => ?_) AllReadyH.nil
        go_simp
        refine (SMA.out _).mono ?_; rintro e y9 ⟨rfl, rfl⟩; try dsimp only
        refine hK.out _ _ ?_ (fun hHeld => ?_)
        · (try simp only [World.cell?_drew]); exact ks
        clear hK K
        try simp only [Act.put, List.getElem_toArray, List.getElem_cons_succ, List.getElem_cons_zero, List.setIfInBounds_toArray, List.set_cons_zero, List.set_cons_succ]
        refine wpAnyH_take (i := 6) (oi := _) (v := ?_) rfl (by kernel_rfl) (by kernel_rfl) (by kernel_rfl) (fun _ _ _ h => h) (Or.inl ⟨by rfl, ?_⟩) (by assumption) ?_
        rotate_left 1
        · intro wq hSw; (try dsimp only at hSw); go_simp; try (with_reducible rfl)
        try simp only [Act.put, List.getElem_toArray, List.getElem_cons_succ, List.getElem_cons_zero, List.setIfInBounds_toArray, List.set_cons_zero, List.set_cons_succ]
        refine wpAnyH_take (i := 7) (oi := _) (v := ?_) rfl (by kernel_rfl) (by kernel_rfl) (by kernel_rfl) (fun _ _ _ h => h) (Or.inl ⟨by rfl, ?_⟩) (by assumption) ?_
        rotate_left 1
        · intro wq hSw; (try dsimp only at hSw); go_simp; try (with_reducible rfl)
        try simp only [Act.put, List.getElem_toArray, List.getElem_cons_succ, List.getElem_cons_zero, List.setIfInBounds_toArray, List.set_cons_zero, List.set_cons_succ]
        refine wpAnyH_take (i := 8) (oi := _) (v := ?_) rfl (by kernel_rfl) (by kernel_rfl) (by kernel_rfl) (fun _ _ _ h => h) (Or.inl ⟨by rfl, ?_⟩) (by assumption) ?_
        rotate_left 1
        · intro wq hSw; (try dsimp only at hSw); go_simp; try (with_reducible rfl)
        try simp only [Act.put, List.getElem_toArray, List.getElem_cons_succ, List.getElem_cons_zero, List.setIfInBounds_toArray, List.set_cons_zero, List.set_cons_succ]
        refine wpAnyH_take (i := 9) (oi := _) (v := ?_) rfl (by kernel_rfl) (by kernel_rfl) (by kernel_rfl) (fun _ _ _ h => h) (Or.inl ⟨by rfl, ?_⟩) (by assumption) ?_
        rotate_left 1
        · intro wq hSw; (try dsimp only at hSw); go_simp; try (with_reducible rfl)
        try simp only [Act.put, List.getElem_toArray, List.getElem_cons_succ, List.getElem_cons_zero, List.setIfInBounds_toArray, List.set_cons_zero, List.set_cons_succ]
        refine wpAnyH_ready (rs := [11]) (by kernel_rfl) (by simp) ?_
        refine AllReadyH.cons (o := _) rfl (fun K hK => ?_) AllReadyH.nil
        go_simp
        generalize hwF : World.setCell (World.setCell (World.setCell _ _ _) _ _) _ _ = yF; have HL3 : Hid (yF.heap[w1.heap.size]? = some (.cells #[.int .i64 x.k, .int .i64 x.t.length, .pointer au] 73 (0, 0))) := (by unfold Hid; rw [← hwF]; exact (put3 HL2.out _ _ _).1); have HyF : Hid (Below w1.heap.size w1 yF) := (by unfold Hid; rw [← hwF]; exact below_put Hy2.out Hy2.out.size (put3 HL2.out _ _ _).2 (Nat.le_refl _)); clear hwF d0 d1 d2 df ks; have ks := HS.out yF HyF.out; try dsimp only
        refine hK.out _ _ ?_ (fun hHeld => ?_)
        · (try simp only [World.cell?_drew]); exact ks
        clear hK K
        try simp only [Act.put, List.getElem_toArray, List.getElem_cons_succ, List.getElem_cons_zero, List.setIfInBounds_toArray, List.set_cons_zero, List.set_cons_succ]
        refine wpAnyH_take (i := 12) (oi := _) (v := ?_) rfl (by kernel_rfl) (by kernel_rfl) (by kernel_rfl) (fun _ _ _ h => h) (Or.inl ⟨by rfl, ?_⟩) (by assumption) ?_
        rotate_left 1
        · intro wq hSw; (try dsimp only at hSw); go_simp; try (with_reducible rfl)
        try simp only [Act.put, List.getElem_toArray, List.getElem_cons_succ, List.getElem_cons_zero, List.setIfInBounds_toArray, List.set_cons_zero, List.set_cons_succ]
        refine wpAnyH_done (by kernel_rfl) ?_ _
        generalize hwD : World.drew yF = yD
        have HyD : Hid (Below w1.heap.size w1 yD) := by unfold Hid; rw [← hwD]; exact HyF.out.drew
        have HLD : Hid (yD.heap[w1.heap.size]? = yF.heap[w1.heap.size]?) := by unfold Hid; rw [← hwD]; rfl
        clear hwD
        have HS8 : Hid (∀ w', Below yD.heap.size yD w' → w'.cell? ⟨w1.heap.size, 0, none⟩ = some (.int .i64 x.k) ∧ w'.cell? ⟨w1.heap.size, 1, none⟩ = some (.int .i64 x.t.length) ∧ w'.cell? ⟨w1.heap.size, 2, none⟩ = some (.pointer au)) := fun w' hb => by
          have e := (hb.block _ (Array.getElem?_eq_some_iff.1 (HLD.out.trans HL3.out)).1).trans (HLD.out.trans HL3.out)
          exact ⟨(cells3 e).2.1, (cells3 e).2.2.1, (cells3 e).2.2.2.1⟩
        have CL : Hid (∀ w', Below yD.heap.size yD w' → Calls Try.prog 43 #[.pointer au, .int .i64 x.t.length] w' fun e w'' => ∃ v', e = .returned v' ∧ OwnI w'' w'.heap.size v' x.t ∧ Below w'.heap.size w' w'') := fun w' hb => by
          have := atoms_any w' au x.t x.t.length (((HU.out.ext HB1.out).ext HyD.out).ext hb) (Nat.le_refl _) (by have := HXN.out.2.1; omega)
          rw [Nat.sub_self, List.drop_zero] at this
          exact this
        have ks := HS8.out yD (Below.refl _ _)
        go_upto_region 8 with fail
        refine wp_region_held_drew (S := fun w'' => w''.cell? ⟨w1.heap.size, 0, none⟩ = some (.int .i64 x.k) ∧ w''.cell? ⟨w1.heap.size, 1, none⟩ = some (.int .i64 x.t.length) ∧ w''.cell? ⟨w1.heap.size, 2, none⟩ = some (.pointer au)) (by kernel_rfl) (ks) (fun hHeld => ?_)
        refine wpAnyH_take (i := 0) (oi := _) (v := ?_) rfl (by kernel_rfl) (by kernel_rfl) (by kernel_rfl) (fun _ _ _ h => h) (Or.inl ⟨by rfl, ?_⟩) (by assumption) ?_
        rotate_left 1
        · intro wq hSw; (try dsimp only at hSw); go_simp; try (with_reducible rfl)
        try simp only [Act.put, List.getElem_toArray, List.getElem_cons_zero, List.setIfInBounds_toArray, List.set_cons_zero, List.set_cons_succ]
        refine wpAnyH_take (i := 1) (oi := _) (v := ?_) rfl (by kernel_rfl) (by kernel_rfl) (by kernel_rfl) (fun _ _ _ h => h) (Or.inl ⟨by rfl, ?_⟩) (by assumption) ?_
        rotate_left 1
        · intro wq hSw; (try dsimp only at hSw); go_simp; try (with_reducible rfl)
        try simp only [Act.put, List.getElem_toArray, List.getElem_cons_succ, List.getElem_cons_zero, List.setIfInBounds_toArray, List.set_cons_zero, List.set_cons_succ]
        refine wpAnyH_take (i := 2) (oi := _) (v := ?_) rfl (by kernel_rfl) (by kernel_rfl) (by kernel_rfl) (fun _ _ _ h => h) (Or.inl ⟨by rfl, ?_⟩) (by assumption) ?_
        rotate_left 1
        · intro wq hSw; (try dsimp only at hSw); go_simp; try (with_reducible rfl)
        try simp only [Act.put, List.getElem_toArray, List.getElem_cons_succ, List.getElem_cons_zero, List.setIfInBounds_toArray, List.set_cons_zero, List.set_cons_succ]
        refine wpAnyH_take (i := 3) (oi := _) (v := ?_) rfl (by kernel_rfl) (by kernel_rfl) (by kernel_rfl) (fun _ _ _ h => h) (Or.inl ⟨by rfl, ?_⟩) (by assumption) ?_
        rotate_left 1
        · intro wq hSw; (try dsimp only at hSw); go_simp; try (with_reducible rfl)
        try simp only [Act.put, List.getElem_toArray, List.getElem_cons_succ, List.getElem_cons_zero, List.setIfInBounds_toArray, List.set_cons_zero, List.set_cons_succ]
        refine wpAnyH_take (i := 4) (oi := _) (v := ?_) rfl (by kernel_rfl) (by kernel_rfl) (by kernel_rfl) (fun _ _ _ h => h) (Or.inl ⟨by rfl, ?_⟩) (by assumption) ?_
        rotate_left 1
        · intro wq hSw; (try dsimp only at hSw); go_simp; try (with_reducible rfl)
        try simp only [Act.put, List.getElem_toArray, List.getElem_cons_succ, List.getElem_cons_zero, List.setIfInBounds_toArray, List.set_cons_zero, List.set_cons_succ]
        refine wpAnyH_take (i := 5) (oi := _) (v := ?_) rfl (by kernel_rfl) (by kernel_rfl) (by kernel_rfl) (fun _ _ _ h => h) (Or.inl ⟨by rfl, ?_⟩) (by assumption) ?_
        rotate_left 1
        · intro wq hSw; (try dsimp only at hSw); go_simp; try (with_reducible rfl)
        try simp only [Act.put, List.getElem_toArray, List.getElem_cons_succ, List.getElem_cons_zero, List.setIfInBounds_toArray, List.set_cons_zero, List.set_cons_succ]
        refine wpAnyH_ready (rs := [6]) (by kernel_rfl) (by simp) ?_
        refine AllReadyH.cons (o := _) rfl (fun K hK => ?_) AllReadyH.nil
        go_simp
        refine (CL.out _ (Below.drew (Below.refl _ _))).mono ?_; rintro e y3 ⟨v3, rfl, own3, hb3⟩; obtain ⟨ao3, n3, c3, e3⟩ := own3.form; subst e3; have O3 := hidIt own3; have Hy3 := hidIt (ext_trans (Below.drew (Below.refl yD.heap.size yD)) hb3); clear own3 hb3 ks; have ks := HS8.out y3 Hy3.out; obtain ⟨hlt, q0, q1, qf⟩ := cells2 (HZ.out y3 (ext_trans HyD.out Hy3.out)); try dsimp only
        refine hK.out _ _ ?_ (fun hHeld => ?_)
        · (try simp only [World.cell?_drew]); exact ks
        clear hK K
        try simp only [Act.put, List.getElem_toArray, List.getElem_cons_succ, List.getElem_cons_zero, List.setIfInBounds_toArray, List.set_cons_zero, List.set_cons_succ]
        refine wpAnyH_take (i := 7) (oi := _) (v := ?_) rfl (by kernel_rfl) (by kernel_rfl) (by kernel_rfl) (fun _ _ _ h => h) (Or.inl ⟨by rfl, ?_⟩) (by assumption) ?_
        rotate_left 1
        · intro wq hSw; (try dsimp only at hSw); go_simp; try (with_reducible rfl)
        try simp only [Act.put, List.getElem_toArray, List.getElem_cons_succ, List.getElem_cons_zero, List.setIfInBounds_toArray, List.set_cons_zero, List.set_cons_succ]
        refine wpAnyH_ready (rs := [8]) (by kernel_rfl) (by simp) ?_
        refine AllReadyH.cons (o := _) rfl (fun K hK => ?_) AllReadyH.nil
        go_simp
        try dsimp only
        refine hK.out _ _ ?_ (fun hHeld => ?_)
        · exact ⟨by have := HLT.out; simp [go_sem, ks.1], by have := HLT.out; simp [go_sem, ks.2.1], by have := HLT.out; simp [go_sem, ks.2.2]⟩
        clear hK K
        try simp only [Act.put, List.getElem_toArray, List.getElem_cons_succ, List.getElem_cons_zero, List.setIfInBounds_toArray, List.set_cons_zero, List.set_cons_succ]
        refine wpAnyH_take (i := 9) (oi := _) (v := ?_) rfl (by kernel_rfl) (by kernel_rfl) (by kernel_rfl) (fun _ _ _ h => h) (Or.inl ⟨by rfl, ?_⟩) (by assumption) ?_
        rotate_left 1
        · intro wq hSw; (try dsimp only at hSw); go_simp; try (with_reducible rfl)
        try simp only [Act.put, List.getElem_toArray, List.getElem_cons_succ, List.getElem_cons_zero, List.setIfInBounds_toArray, List.set_cons_zero, List.set_cons_succ]
        refine wpAnyH_done (by kernel_rfl) ?_ _
        go_wp2_with fail
        refine bodyPost_ret (v := .tuple #[.agg #[.int .i64 x.k, .slice ao3 n3 c3], .int .i64 0]) (by simp [results, Try.results20, go_sem, q0, q1]) rfl ⟨by rw [HG.out]; exact ⟨_, rfl, (O3.out.other (put2 (HZ.out y3 (ext_trans HyD.out Hy3.out)) _ _).2 (by have := HyD.out.size; have := HLT.out; simp; omega)).le (by have := HB1.out.size; have := HyD.out.size; simp; omega)⟩, ?_⟩
        exact below_put (ext_trans HB1.out (ext_trans HyD.out Hy3.out)) (ext_trans HB1.out (ext_trans HyD.out Hy3.out)).size (put2 (HZ.out y3 (ext_trans HyD.out Hy3.out)) _ _).2 (Nat.le_refl _)
    
end Go.Proofs.Ytmldfjhfgaggpaa
