/- register's written, write, take. -/
import Derived.Test.YtnfaofldjoobgaaGBank
namespace Go.Proofs.Ytnfaofldjoobgaa
open Go.RowKit
variable {F : Nat → Prop}

/-- What the register would hold with r in it. -/
def nxt (m : Int → Option Rg) (n : Int) (r : Rg) : Rg := match m (sml n) with
  | some own => if grB n = true then apd own ⟨r.k, cls r.k r.t⟩ else ⟨r.k, cls r.k r.t⟩
  | none => ⟨r.k, cls r.k r.t⟩
def wrtn (m : Int → Option Rg) (n : Int) (r : Rg) : Option Rg := if 140000 < r.t.length ∨ 140000 < (nxt m n r).t.length then none else some (nxt m n r)
theorem cls_pos (r : Rg) (h : r.t ≠ [] ∨ r.k = 1) : 0 < (cls r.k r.t).length := by
  rcases h with h | h
  · have := (cls_len r.k r.t).1; have := List.length_pos_iff.2 h; omega
  · by_cases ht : r.t = []
    · rw [ht, h]; decide
    · have := (cls_len r.k r.t).1; have := List.length_pos_iff.2 ht; omega
theorem sml_in {n : Int} (h : In64 n) : In64 (sml n) := by
  unfold sml
  split
  · rename_i hg
    have hr : 65 ≤ n ∧ n ≤ 90 := by unfold grB at hg; simpa using hg
    exact In64.of (by omega) (by omega)
  · exact h
theorem apd_len (x y : Rg) : (apd x y).t.length ≤ x.t.length + y.t.length + 2 ∧ x.t.length ≤ (apd x y).t.length := by
  have h1 := lbr_len x.t
  have h2 := lbr_len y.t
  unfold apd
  split
  · simp
  · split <;> simp <;> omega
/-- What written answers. -/
def WrR (w : World) (x : Option Rg) (e : Ending) (w' : World) : Prop := (match x with
  | none => e = .returned (.tuple #[.agg #[.int .i64 0, .slice none 0 0], .int .i64 3])
  | some y => ∃ u, e = .returned (.tuple #[.agg #[.int .i64 y.k, u], .int .i64 0]) ∧ OwnI w' w.heap.size u y.t) ∧ Below w.heap.size w w'
theorem OwnI.formn {w : World} {base : Nat} {v : Value} {zs : List Int} (h : OwnI w base v zs) : ∃ ao n c, v = .slice ao n c ∧ n = zs.length := let ⟨ao, c, e, _⟩ := h.rds.len; ⟨ao, _, c, e, rfl⟩
theorem OwnI.own2 {w w' : World} {base g : Nat} {v : Value} {zs : List Int} (h : OwnI w base v zs) (hg : w.grownBy w' (some g)) (hk : g < base) : OwnI w' base v zs := h.other hg hk

set_option maxRecDepth 100000 in
set_option maxHeartbeats 4000000 in
theorem written_any (w : World) (b bm N : Nat) (m : Int → Option Rg) (pt : Int) (n : Int) (r : Rg) (v : Value) (hB : Bk F w b bm N m pt) (hv : RdS w v r.t) (hn : In64 n) (hr : r.t ≠ [] ∨ r.k = 1) :
    Calls Try.prog 54 #[.pointer (some ⟨b, 0, none⟩), .int .i64 n, .agg #[.int .i64 r.k, v]] w (WrR w (wrtn m n r)) := by
  obtain ⟨ao, c, rfl, _⟩ := hv.len
  obtain ⟨w1, hw1, k0, k1, hb1, hlt1⟩ := two_new w #[.int .i64 r.k, .slice ao r.t.length c] #[.int .i64 0, .slice none 0 0] 31 31
  have HBK := hidIt hB
  have HV := hidIt hv
  have HB1 := hidIt hb1
  have HCP := hidIt (cls_pos r hr)
  obtain ⟨_, c0, c1, _⟩ := cells2 k0
  have HZ : Hid (∀ w', Below w1.heap.size w1 w' → w'.heap[w.heap.size + 1]? = some (.cells #[.int .i64 0, .slice none 0 0] 31 (0, 0))) := fun w' hb => (hb.block _ hlt1).trans k1
  obtain ⟨lv, hlook, hshw⟩ := hB.look (sml_in hn)
  have HLK := hidIt hlook
  have HSH := hidIt hshw
  have SMA : Hid (∀ y, Calls Try.prog 42 #[.int .i64 n] y fun e w' => e = .returned (.int .i64 (sml n)) ∧ y = w') := fun y => small_any n y
  have GR : Hid (∀ y, Calls Try.prog 41 #[.int .i64 n] y fun e w' => e = .returned (.bool (grB n)) ∧ y = w') := fun y => isGreat_any n y
  have hblt := hB.lt
  have HBL := hidIt hblt
  clear hB hv hr k0 k1 hb1 hlook hshw hn hblt
  by_cases hl : (r.t.length : Int) > 140000
  · have HW := hidIt (show wrtn m n r = none by unfold wrtn; rw [if_pos (.inl (by omega))])
    obtain ⟨_, q0, q1, qf⟩ := cells2 (HZ.out w1 (Below.refl _ _))
    go_enter Try.func54, Try.ntmps54
    go_upto_region 1 with fail
    rw [← hw1]
    clear hw1
    go_wp2_with fail
    refine bodyPost_ret (v := .tuple #[.agg #[.int .i64 0, .slice none 0 0], .int .i64 3]) (by simp [results, Try.results54, go_sem, q0, q1]) rfl ⟨by rw [HW.out], ?_⟩
    exact below_put HB1.out (by omega) (put2 (HZ.out w1 (Below.refl _ _)) _ _).2 (by omega)
  have CA := hidIt (closed_any r.k _ r.t w1 (HV.out.ext HB1.out) HCP.out (by omega))
  go_enter Try.func54, Try.ntmps54
  go_upto_region 1 with fail
  rw [← hw1]
  clear hw1
  go_upto_region 4 with (go_at_call 69; refine CA.out.mono ?_; rintro e w2 ⟨v1, rfl, own1, hb2⟩; obtain ⟨ao1, n1, cc1, e1, hn1⟩ := own1.formn; subst e1; have HN1 := hidIt hn1; clear hn1; have O1 := hidIt own1; have HB12 := hidIt (And.intro hb2 hlt1); clear own1 hb2; (try dsimp only))
  generalize hw3 : World.alloc _ _ = w3
  have HK2 : Hid (w3.heap[w2.heap.size]? = some (.cells #[.int .i64 r.k, .slice ao1 n1 cc1] 31 (0, 0))) := by unfold Hid; rw [← hw3]; exact heap_alloc_new _ _
  have HB2 : Hid (Below w2.heap.size w2 w3) := by unfold Hid; rw [← hw3]; exact ext_alloc (Below.refl _ _) _
  clear hw3 c0 c1
  have HB3 := hidIt (ext_trans HB12.out.1 HB2.out)
  have HS : Hid (∀ w', Below w3.heap.size w3 w' → w'.cell? ⟨b, 0, none⟩ = some (.map (some bm)) ∧ w'.heap[bm]? = w.heap[bm]?) := fun w' hb => by
    have hbb := ext_trans (ext_trans HB1.out HB3.out) hb
    exact ⟨(hbb.cell (p := ⟨b, 0, none⟩) HBL.out.1).trans HBK.out.cells.1, hbb.block _ HBL.out.2.1⟩
  have ks := HS.out w3 (Below.refl _ _)
  cases hm : m (sml n) with
  | none =>
    have HNX := hidIt (show nxt m n r = ⟨r.k, cls r.k r.t⟩ by unfold nxt; rw [hm])
    have hlk : ∀ wq : World, wq.heap[bm]? = w.heap[bm]? → (Instr.lookup 68 (.map (some bm)) (.int .i64 (sml n)) true).run Try.prog wq = .ok (.tuple #[.agg #[.int .i64 0, .slice none 0 0], .bool false]) wq := by
      have h1 := HLK.out
      have h2 := HSH.out
      rw [hm] at h1 h2
      have h3 : lv = .agg #[.int .i64 0, .slice none 0 0] := h2
      rw [h3] at h1
      exact h1
    clear hm HLK HSH
    refine wp_region_held_drew (S := fun w'' => w''.cell? ⟨b, 0, none⟩ = some (.map (some bm)) ∧ w''.heap[bm]? = w.heap[bm]?) (by kernel_rfl) (ks) (fun hHeld => ?_)
    refine wpAnyH_take (i := 0) (oi := _) (v := ?_) rfl (by kernel_rfl) (by kernel_rfl) (by kernel_rfl) (fun _ _ _ h => h) (Or.inl ⟨by rfl, ?_⟩) (by assumption) ?_
    rotate_left 1
    · intro wq hSw; (try dsimp only at hSw); go_simp; try (with_reducible rfl)
    try simp only [Act.put, List.getElem_toArray, List.getElem_cons_zero, List.setIfInBounds_toArray, List.set_cons_zero, List.set_cons_succ]
    refine wpAnyH_take (i := 1) (oi := _) (v := ?_) rfl (by kernel_rfl) (by kernel_rfl) (by kernel_rfl) (fun _ _ _ h => h) (Or.inl ⟨by rfl, ?_⟩) (by assumption) ?_
    rotate_left 1
    · intro wq hSw; (try dsimp only at hSw); go_simp; try (with_reducible rfl)
    try simp only [Act.put, List.getElem_toArray, List.getElem_cons_succ, List.getElem_cons_zero, List.setIfInBounds_toArray, List.set_cons_zero, List.set_cons_succ]
    refine wpAnyH_take (i := 2) (oi := _) (v := ?_) rfl (by kernel_rfl) (by kernel_rfl) (by kernel_rfl) (fun _ _ _ h => h) (Or.inl ⟨by rfl, ?_⟩) (by assumption) ?_
    rotate_left 1
    · intro wq hSw; (try dsimp only at hSw); go_simp; try (with_reducible rfl)
    try simp only [Act.put, List.getElem_toArray, List.getElem_cons_succ, List.getElem_cons_zero, List.setIfInBounds_toArray, List.set_cons_zero, List.set_cons_succ]
    refine wpAnyH_take (i := 3) (oi := _) (v := ?_) rfl (by kernel_rfl) (by kernel_rfl) (by kernel_rfl) (fun _ _ _ h => h) (Or.inl ⟨by rfl, ?_⟩) (by assumption) ?_
    rotate_left 1
    · intro wq hSw; (try dsimp only at hSw); go_simp; try (with_reducible rfl)
    try simp only [Act.put, List.getElem_toArray, List.getElem_cons_succ, List.getElem_cons_zero, List.setIfInBounds_toArray, List.set_cons_zero, List.set_cons_succ]
    refine wpAnyH_take (i := 4) (oi := _) (v := ?_) rfl (by kernel_rfl) (by kernel_rfl) (by kernel_rfl) (fun _ _ _ h => h) (Or.inl ⟨by rfl, ?_⟩) (by assumption) ?_
    rotate_left 1
    · intro wq hSw; (try dsimp only at hSw); go_simp; try (with_reducible rfl)
    try simp only [Act.put, List.getElem_toArray, List.getElem_cons_succ, List.getElem_cons_zero, List.setIfInBounds_toArray, List.set_cons_zero, List.set_cons_succ]
    refine wpAnyH_ready (rs := [5, 10]) (by kernel_rfl) (by simp) ?_
    refine (AllReadyH.cons (o := _) rfl (fun K hK => ?_) (AllReadyH.cons (o := _) rfl (fun K hK => ?_) AllReadyH.nil))
    · skip
      go_simp
      refine (SMA.out _).mono ?_; rintro e y9 ⟨rfl, rfl⟩; try dsimp only
      refine hK.out _ _ ?_ (fun hHeld => ?_)
      · (try simp only [World.cell?_drew]); exact ks
      clear hK K
      try simp only [Act.put, List.getElem_toArray, List.getElem_cons_succ, List.getElem_cons_zero, List.setIfInBounds_toArray, List.set_cons_zero, List.set_cons_succ]
      refine wpAnyH_take (i := 6) (oi := _) (v := ?_) rfl (by kernel_rfl) (by kernel_rfl) (by kernel_rfl) (fun _ _ _ h => h) (Or.inl ⟨by rfl, ?_⟩) (by assumption) ?_
      rotate_left 1
      · intro wq hSw; (try dsimp only at hSw); go_simp; try (with_reducible rfl)
      try simp only [Act.put, List.getElem_toArray, List.getElem_cons_succ, List.getElem_cons_zero, List.setIfInBounds_toArray, List.set_cons_zero, List.set_cons_succ]
      refine wpAnyH_take (i := 7) (oi := _) (v := ?_) rfl (by kernel_rfl) (by kernel_rfl) (by kernel_rfl) (fun _ _ _ h => h) (Or.inl ⟨by rfl, ?_⟩) (by assumption) ?_
      rotate_left 1
      · intro wq hSw; (try dsimp only at hSw); go_simp; try (with_reducible rfl)
      try simp only [Act.put, List.getElem_toArray, List.getElem_cons_succ, List.getElem_cons_zero, List.setIfInBounds_toArray, List.set_cons_zero, List.set_cons_succ]
      refine wpAnyH_take (i := 8) (oi := _) (v := ?_) rfl (by kernel_rfl) (by kernel_rfl) (by kernel_rfl) (fun _ _ _ h => h) (Or.inl ⟨by rfl, ?_⟩) (by assumption) ?_
      rotate_left 1
      · intro wq hSw; (try dsimp only at hSw); go_simp; try (with_reducible rfl)
      try simp only [Act.put, List.getElem_toArray, List.getElem_cons_succ, List.getElem_cons_zero, List.setIfInBounds_toArray, List.set_cons_zero, List.set_cons_succ]
      refine wpAnyH_take (i := 9) (oi := _) (v := ?_) rfl (by kernel_rfl) (by kernel_rfl) (by kernel_rfl) (fun _ _ _ h => h) (Or.inl ⟨by rfl, ?_⟩) (by assumption) ?_
      rotate_left 1
      · intro wq hSw; (try dsimp only at hSw); go_simp; try (with_reducible rfl)
      try simp only [Act.put, List.getElem_toArray, List.getElem_cons_succ, List.getElem_cons_zero, List.setIfInBounds_toArray, List.set_cons_zero, List.set_cons_succ]
      refine wpAnyH_ready (rs := [10]) (by kernel_rfl) (by simp) ?_
      refine AllReadyH.cons (o := _) rfl (fun K hK => ?_) AllReadyH.nil
      go_simp
      generalize hwN : World.alloc _ _ = y2; have Hy2 : Hid (Below w3.heap.size w3 y2) := (by unfold Hid; rw [← hwN]; exact ext_alloc (Below.refl _ _) _); have HL2 : Hid (y2.heap[w3.heap.size]? = some (.cells #[.int .i64 0, .slice none 0 0] 31 (0, 0))) := (by unfold Hid; rw [← hwN]; exact heap_alloc_new _ _); clear hwN ks; have ks := HS.out y2 Hy2.out; obtain ⟨hl2, d0, d1, df⟩ := cells2 HL2.out; try dsimp only
      refine hK.out _ _ ?_ (fun hHeld => ?_)
      · (try simp only [World.cell?_drew]); exact ks
      clear hK K
      try simp only [Act.put, List.getElem_toArray, List.getElem_cons_succ, List.getElem_cons_zero, List.setIfInBounds_toArray, List.set_cons_zero, List.set_cons_succ]
      refine wpAnyH_ready (rs := [11]) (by kernel_rfl) (by simp) ?_
      refine AllReadyH.cons (o := _) rfl (fun K hK => ?_) AllReadyH.nil
      go_simp
      generalize hwF : World.setCell (World.setCell _ _ _) _ _ = yF; have HL3 : Hid (yF.heap[w3.heap.size]? = some (.cells #[.int .i64 0, .slice none 0 0] 31 (0, 0))) := (by unfold Hid; rw [← hwF]; exact (put2 HL2.out _ _).1); have HyF : Hid (Below w3.heap.size w3 yF) := (by unfold Hid; rw [← hwF]; exact below_put Hy2.out Hy2.out.size (put2 HL2.out _ _).2 (Nat.le_refl _)); clear hwF d0 d1 df ks; have ks := HS.out yF HyF.out; try dsimp only
      refine hK.out _ _ ?_ (fun hHeld => ?_)
      · (try simp only [World.cell?_drew]); exact ks
      clear hK K
      try simp only [Act.put, List.getElem_toArray, List.getElem_cons_succ, List.getElem_cons_zero, List.setIfInBounds_toArray, List.set_cons_zero, List.set_cons_succ]
      refine wpAnyH_take (i := 12) (oi := _) (v := ?_) rfl (by kernel_rfl) (by kernel_rfl) (by kernel_rfl) (fun _ _ _ h => h) (Or.inl ⟨by rfl, ?_⟩) (by assumption) ?_
      rotate_left 1
      · intro wq hSw; (try dsimp only at hSw); go_simp; try (with_reducible rfl)
      try simp only [Act.put, List.getElem_toArray, List.getElem_cons_succ, List.getElem_cons_zero, List.setIfInBounds_toArray, List.set_cons_zero, List.set_cons_succ]
      refine wpAnyH_done (by kernel_rfl) ?_ _
      generalize hwD : World.drew yF = yD
      have HyD : Hid (Below w3.heap.size w3 yD) := by unfold Hid; rw [← hwD]; exact HyF.out.drew
      have HLD : Hid (yD.heap[w3.heap.size]? = yF.heap[w3.heap.size]?) := by unfold Hid; rw [← hwD]; rfl
      clear hwD
      go_upto_region 7 with fail
      have HC8 := hidIt ((HyD.out.block _ (Array.getElem?_eq_some_iff.1 HK2.out).1).trans HK2.out)
      obtain ⟨_, p0, p1, _⟩ := cells2 HC8.out
      obtain ⟨_, q0, q1, qf⟩ := cells2 (HZ.out yD (ext_trans HB3.out HyD.out))
      by_cases hbig : (n1 : Int) > 140000
      · have HW := hidIt (show wrtn m n r = none by unfold wrtn; rw [if_pos (.inr (by rw [HNX.out]; have := HN1.out; (try dsimp only at *); omega))])
        go_wp2_with fail
        refine bodyPost_ret (v := .tuple #[.agg #[.int .i64 0, .slice none 0 0], .int .i64 3]) (by simp [results, Try.results54, go_sem, q0, q1]) rfl ⟨by rw [HW.out], ?_⟩
        exact below_put (ext_trans HB1.out (ext_trans HB3.out HyD.out)) (by have := ((ext_trans HB3.out HyD.out)).size; omega) (put2 (HZ.out yD (ext_trans HB3.out HyD.out)) _ _).2 (by omega)
      · have HW := hidIt (show wrtn m n r = some ⟨r.k, (cls r.k r.t)⟩ by unfold wrtn; rw [if_neg (by rw [HNX.out]; have := HN1.out; (try dsimp only at *); omega), HNX.out])
        go_wp2_with fail
        refine bodyPost_ret (v := .tuple #[.agg #[.int .i64 r.k, .slice ao1 n1 cc1], .int .i64 0]) (by simp [results, Try.results54, go_sem, q0, q1]) rfl ⟨by rw [HW.out]; exact ⟨_, rfl, (((O1.out.ext HB2.out).ext HyD.out).own2 (put2 (HZ.out yD (ext_trans HB3.out HyD.out)) _ _).2 (by have := HB12.out.2; omega)).le (by have := HB1.out.size; have := HB3.out.size; have := HyD.out.size; omega)⟩, ?_⟩
        exact below_put (ext_trans HB1.out (ext_trans HB3.out HyD.out)) (by have := ((ext_trans HB3.out HyD.out)).size; omega) (put2 (HZ.out yD (ext_trans HB3.out HyD.out)) _ _).2 (by omega)
    · skip
      go_simp
      generalize hwN : World.alloc _ _ = y2; have Hy2 : Hid (Below w3.heap.size w3 y2) := (by unfold Hid; rw [← hwN]; exact ext_alloc (Below.refl _ _) _); have HL2 : Hid (y2.heap[w3.heap.size]? = some (.cells #[.int .i64 0, .slice none 0 0] 31 (0, 0))) := (by unfold Hid; rw [← hwN]; exact heap_alloc_new _ _); clear hwN ks; have ks := HS.out y2 Hy2.out; obtain ⟨hl2, d0, d1, df⟩ := cells2 HL2.out; try dsimp only
      refine hK.out _ _ ?_ (fun hHeld => ?_)
      · (try simp only [World.cell?_drew]); exact ks
      clear hK K
      try simp only [Act.put, List.getElem_toArray, List.getElem_cons_succ, List.getElem_cons_zero, List.setIfInBounds_toArray, List.set_cons_zero, List.set_cons_succ]
      refine wpAnyH_ready (rs := [5]) (by kernel_rfl) (by simp) ?_
      refine AllReadyH.cons (o := _) rfl (fun K hK => ?_) AllReadyH.nil
      go_simp
      refine (SMA.out _).mono ?_; rintro e y9 ⟨rfl, rfl⟩; try dsimp only
      refine hK.out _ _ ?_ (fun hHeld => ?_)
      · (try simp only [World.cell?_drew]); exact ks
      clear hK K
      try simp only [Act.put, List.getElem_toArray, List.getElem_cons_succ, List.getElem_cons_zero, List.setIfInBounds_toArray, List.set_cons_zero, List.set_cons_succ]
      refine wpAnyH_take (i := 6) (oi := _) (v := ?_) rfl (by kernel_rfl) (by kernel_rfl) (by kernel_rfl) (fun _ _ _ h => h) (Or.inl ⟨by rfl, ?_⟩) (by assumption) ?_
      rotate_left 1
      · intro wq hSw; (try dsimp only at hSw); go_simp; try (with_reducible rfl)
      try simp only [Act.put, List.getElem_toArray, List.getElem_cons_succ, List.getElem_cons_zero, List.setIfInBounds_toArray, List.set_cons_zero, List.set_cons_succ]
      refine wpAnyH_take (i := 7) (oi := _) (v := ?_) rfl (by kernel_rfl) (by kernel_rfl) (by kernel_rfl) (fun _ _ _ h => h) (Or.inl ⟨by rfl, ?_⟩) (by assumption) ?_
      rotate_left 1
      · intro wq hSw; (try dsimp only at hSw); go_simp; try (with_reducible rfl)
      try simp only [Act.put, List.getElem_toArray, List.getElem_cons_succ, List.getElem_cons_zero, List.setIfInBounds_toArray, List.set_cons_zero, List.set_cons_succ]
      refine wpAnyH_take (i := 8) (oi := _) (v := ?_) rfl (by kernel_rfl) (by kernel_rfl) (by kernel_rfl) (fun _ _ _ h => h) (Or.inl ⟨by rfl, ?_⟩) (by assumption) ?_
      rotate_left 1
      · intro wq hSw; (try dsimp only at hSw); go_simp; try (with_reducible rfl)
      try simp only [Act.put, List.getElem_toArray, List.getElem_cons_succ, List.getElem_cons_zero, List.setIfInBounds_toArray, List.set_cons_zero, List.set_cons_succ]
      refine wpAnyH_take (i := 9) (oi := _) (v := ?_) rfl (by kernel_rfl) (by kernel_rfl) (by kernel_rfl) (fun _ _ _ h => h) (Or.inl ⟨by rfl, ?_⟩) (by assumption) ?_
      rotate_left 1
      · intro wq hSw; (try dsimp only at hSw); go_simp; try (with_reducible rfl)
      try simp only [Act.put, List.getElem_toArray, List.getElem_cons_succ, List.getElem_cons_zero, List.setIfInBounds_toArray, List.set_cons_zero, List.set_cons_succ]
      refine wpAnyH_ready (rs := [11]) (by kernel_rfl) (by simp) ?_
      refine AllReadyH.cons (o := _) rfl (fun K hK => ?_) AllReadyH.nil
      go_simp
      generalize hwF : World.setCell (World.setCell _ _ _) _ _ = yF; have HL3 : Hid (yF.heap[w3.heap.size]? = some (.cells #[.int .i64 0, .slice none 0 0] 31 (0, 0))) := (by unfold Hid; rw [← hwF]; exact (put2 HL2.out _ _).1); have HyF : Hid (Below w3.heap.size w3 yF) := (by unfold Hid; rw [← hwF]; exact below_put Hy2.out Hy2.out.size (put2 HL2.out _ _).2 (Nat.le_refl _)); clear hwF d0 d1 df ks; have ks := HS.out yF HyF.out; try dsimp only
      refine hK.out _ _ ?_ (fun hHeld => ?_)
      · (try simp only [World.cell?_drew]); exact ks
      clear hK K
      try simp only [Act.put, List.getElem_toArray, List.getElem_cons_succ, List.getElem_cons_zero, List.setIfInBounds_toArray, List.set_cons_zero, List.set_cons_succ]
      refine wpAnyH_take (i := 12) (oi := _) (v := ?_) rfl (by kernel_rfl) (by kernel_rfl) (by kernel_rfl) (fun _ _ _ h => h) (Or.inl ⟨by rfl, ?_⟩) (by assumption) ?_
      rotate_left 1
      · intro wq hSw; (try dsimp only at hSw); go_simp; try (with_reducible rfl)
      try simp only [Act.put, List.getElem_toArray, List.getElem_cons_succ, List.getElem_cons_zero, List.setIfInBounds_toArray, List.set_cons_zero, List.set_cons_succ]
      refine wpAnyH_done (by kernel_rfl) ?_ _
      generalize hwD : World.drew yF = yD
      have HyD : Hid (Below w3.heap.size w3 yD) := by unfold Hid; rw [← hwD]; exact HyF.out.drew
      have HLD : Hid (yD.heap[w3.heap.size]? = yF.heap[w3.heap.size]?) := by unfold Hid; rw [← hwD]; rfl
      clear hwD
      go_upto_region 7 with fail
      have HC8 := hidIt ((HyD.out.block _ (Array.getElem?_eq_some_iff.1 HK2.out).1).trans HK2.out)
      obtain ⟨_, p0, p1, _⟩ := cells2 HC8.out
      obtain ⟨_, q0, q1, qf⟩ := cells2 (HZ.out yD (ext_trans HB3.out HyD.out))
      by_cases hbig : (n1 : Int) > 140000
      · have HW := hidIt (show wrtn m n r = none by unfold wrtn; rw [if_pos (.inr (by rw [HNX.out]; have := HN1.out; (try dsimp only at *); omega))])
        go_wp2_with fail
        refine bodyPost_ret (v := .tuple #[.agg #[.int .i64 0, .slice none 0 0], .int .i64 3]) (by simp [results, Try.results54, go_sem, q0, q1]) rfl ⟨by rw [HW.out], ?_⟩
        exact below_put (ext_trans HB1.out (ext_trans HB3.out HyD.out)) (by have := ((ext_trans HB3.out HyD.out)).size; omega) (put2 (HZ.out yD (ext_trans HB3.out HyD.out)) _ _).2 (by omega)
      · have HW := hidIt (show wrtn m n r = some ⟨r.k, (cls r.k r.t)⟩ by unfold wrtn; rw [if_neg (by rw [HNX.out]; have := HN1.out; (try dsimp only at *); omega), HNX.out])
        go_wp2_with fail
        refine bodyPost_ret (v := .tuple #[.agg #[.int .i64 r.k, .slice ao1 n1 cc1], .int .i64 0]) (by simp [results, Try.results54, go_sem, q0, q1]) rfl ⟨by rw [HW.out]; exact ⟨_, rfl, (((O1.out.ext HB2.out).ext HyD.out).own2 (put2 (HZ.out yD (ext_trans HB3.out HyD.out)) _ _).2 (by have := HB12.out.2; omega)).le (by have := HB1.out.size; have := HB3.out.size; have := HyD.out.size; omega)⟩, ?_⟩
        exact below_put (ext_trans HB1.out (ext_trans HB3.out HyD.out)) (by have := ((ext_trans HB3.out HyD.out)).size; omega) (put2 (HZ.out yD (ext_trans HB3.out HyD.out)) _ _).2 (by omega)

  | some own =>
    obtain ⟨uo, hlk, hro⟩ : ∃ uo, (∀ wq : World, wq.heap[bm]? = w.heap[bm]? → (Instr.lookup 68 (.map (some bm)) (.int .i64 (sml n)) true).run Try.prog wq = .ok (.tuple #[.agg #[.int .i64 own.k, uo], .bool true]) wq) ∧ RdS w uo own.t ∧ (∀ q, F q → Off uo q) ∧ own.t ≠ [] ∧ own.t.length ≤ 140000 := by
      have h1 := HLK.out
      have h2 := HSH.out
      rw [hm] at h1 h2
      obtain ⟨uo, h3, h4⟩ := h2
      rw [h3] at h1
      exact ⟨uo, h1, h4⟩
    obtain ⟨aoo, coo, euo, _⟩ := hro.1.len
    generalize own.t.length = noo at euo
    subst euo
    have HUO := hidIt hro.1
    have HON := hidIt hro.2.2
    clear hro
    cases hg : grB n
    · have HNX := hidIt (show nxt m n r = ⟨r.k, cls r.k r.t⟩ by unfold nxt; rw [hm, hg]; rfl)
      rw [hg] at GR
      clear hm HLK HSH hg
      refine wp_region_held_drew (S := fun w'' => w''.cell? ⟨b, 0, none⟩ = some (.map (some bm)) ∧ w''.heap[bm]? = w.heap[bm]?) (by kernel_rfl) (ks) (fun hHeld => ?_)
      refine wpAnyH_take (i := 0) (oi := _) (v := ?_) rfl (by kernel_rfl) (by kernel_rfl) (by kernel_rfl) (fun _ _ _ h => h) (Or.inl ⟨by rfl, ?_⟩) (by assumption) ?_
      rotate_left 1
      · intro wq hSw; (try dsimp only at hSw); go_simp; try (with_reducible rfl)
      try simp only [Act.put, List.getElem_toArray, List.getElem_cons_zero, List.setIfInBounds_toArray, List.set_cons_zero, List.set_cons_succ]
      refine wpAnyH_take (i := 1) (oi := _) (v := ?_) rfl (by kernel_rfl) (by kernel_rfl) (by kernel_rfl) (fun _ _ _ h => h) (Or.inl ⟨by rfl, ?_⟩) (by assumption) ?_
      rotate_left 1
      · intro wq hSw; (try dsimp only at hSw); go_simp; try (with_reducible rfl)
      try simp only [Act.put, List.getElem_toArray, List.getElem_cons_succ, List.getElem_cons_zero, List.setIfInBounds_toArray, List.set_cons_zero, List.set_cons_succ]
      refine wpAnyH_take (i := 2) (oi := _) (v := ?_) rfl (by kernel_rfl) (by kernel_rfl) (by kernel_rfl) (fun _ _ _ h => h) (Or.inl ⟨by rfl, ?_⟩) (by assumption) ?_
      rotate_left 1
      · intro wq hSw; (try dsimp only at hSw); go_simp; try (with_reducible rfl)
      try simp only [Act.put, List.getElem_toArray, List.getElem_cons_succ, List.getElem_cons_zero, List.setIfInBounds_toArray, List.set_cons_zero, List.set_cons_succ]
      refine wpAnyH_take (i := 3) (oi := _) (v := ?_) rfl (by kernel_rfl) (by kernel_rfl) (by kernel_rfl) (fun _ _ _ h => h) (Or.inl ⟨by rfl, ?_⟩) (by assumption) ?_
      rotate_left 1
      · intro wq hSw; (try dsimp only at hSw); go_simp; try (with_reducible rfl)
      try simp only [Act.put, List.getElem_toArray, List.getElem_cons_succ, List.getElem_cons_zero, List.setIfInBounds_toArray, List.set_cons_zero, List.set_cons_succ]
      refine wpAnyH_take (i := 4) (oi := _) (v := ?_) rfl (by kernel_rfl) (by kernel_rfl) (by kernel_rfl) (fun _ _ _ h => h) (Or.inl ⟨by rfl, ?_⟩) (by assumption) ?_
      rotate_left 1
      · intro wq hSw; (try dsimp only at hSw); go_simp; try (with_reducible rfl)
      try simp only [Act.put, List.getElem_toArray, List.getElem_cons_succ, List.getElem_cons_zero, List.setIfInBounds_toArray, List.set_cons_zero, List.set_cons_succ]
      refine wpAnyH_ready (rs := [5, 10]) (by kernel_rfl) (by simp) ?_
      refine (AllReadyH.cons (o := _) rfl (fun K hK => ?_) (AllReadyH.cons (o := _) rfl (fun K hK => ?_) AllReadyH.nil))
      · skip
        go_simp
        refine (SMA.out _).mono ?_; rintro e y9 ⟨rfl, rfl⟩; try dsimp only
        refine hK.out _ _ ?_ (fun hHeld => ?_)
        · (try simp only [World.cell?_drew]); exact ks
        clear hK K
        try simp only [Act.put, List.getElem_toArray, List.getElem_cons_succ, List.getElem_cons_zero, List.setIfInBounds_toArray, List.set_cons_zero, List.set_cons_succ]
        refine wpAnyH_take (i := 6) (oi := _) (v := ?_) rfl (by kernel_rfl) (by kernel_rfl) (by kernel_rfl) (fun _ _ _ h => h) (Or.inl ⟨by rfl, ?_⟩) (by assumption) ?_
        rotate_left 1
        · intro wq hSw; (try dsimp only at hSw); go_simp; try (with_reducible rfl)
        try simp only [Act.put, List.getElem_toArray, List.getElem_cons_succ, List.getElem_cons_zero, List.setIfInBounds_toArray, List.set_cons_zero, List.set_cons_succ]
        refine wpAnyH_take (i := 7) (oi := _) (v := ?_) rfl (by kernel_rfl) (by kernel_rfl) (by kernel_rfl) (fun _ _ _ h => h) (Or.inl ⟨by rfl, ?_⟩) (by assumption) ?_
        rotate_left 1
        · intro wq hSw; (try dsimp only at hSw); go_simp; try (with_reducible rfl)
        try simp only [Act.put, List.getElem_toArray, List.getElem_cons_succ, List.getElem_cons_zero, List.setIfInBounds_toArray, List.set_cons_zero, List.set_cons_succ]
        refine wpAnyH_take (i := 8) (oi := _) (v := ?_) rfl (by kernel_rfl) (by kernel_rfl) (by kernel_rfl) (fun _ _ _ h => h) (Or.inl ⟨by rfl, ?_⟩) (by assumption) ?_
        rotate_left 1
        · intro wq hSw; (try dsimp only at hSw); go_simp; try (with_reducible rfl)
        try simp only [Act.put, List.getElem_toArray, List.getElem_cons_succ, List.getElem_cons_zero, List.setIfInBounds_toArray, List.set_cons_zero, List.set_cons_succ]
        refine wpAnyH_take (i := 9) (oi := _) (v := ?_) rfl (by kernel_rfl) (by kernel_rfl) (by kernel_rfl) (fun _ _ _ h => h) (Or.inl ⟨by rfl, ?_⟩) (by assumption) ?_
        rotate_left 1
        · intro wq hSw; (try dsimp only at hSw); go_simp; try (with_reducible rfl)
        try simp only [Act.put, List.getElem_toArray, List.getElem_cons_succ, List.getElem_cons_zero, List.setIfInBounds_toArray, List.set_cons_zero, List.set_cons_succ]
        refine wpAnyH_ready (rs := [10]) (by kernel_rfl) (by simp) ?_
        refine AllReadyH.cons (o := _) rfl (fun K hK => ?_) AllReadyH.nil
        go_simp
        generalize hwN : World.alloc _ _ = y2; have Hy2 : Hid (Below w3.heap.size w3 y2) := (by unfold Hid; rw [← hwN]; exact ext_alloc (Below.refl _ _) _); have HL2 : Hid (y2.heap[w3.heap.size]? = some (.cells #[.int .i64 0, .slice none 0 0] 31 (0, 0))) := (by unfold Hid; rw [← hwN]; exact heap_alloc_new _ _); clear hwN ks; have ks := HS.out y2 Hy2.out; obtain ⟨hl2, d0, d1, df⟩ := cells2 HL2.out; try dsimp only
        refine hK.out _ _ ?_ (fun hHeld => ?_)
        · (try simp only [World.cell?_drew]); exact ks
        clear hK K
        try simp only [Act.put, List.getElem_toArray, List.getElem_cons_succ, List.getElem_cons_zero, List.setIfInBounds_toArray, List.set_cons_zero, List.set_cons_succ]
        refine wpAnyH_ready (rs := [11]) (by kernel_rfl) (by simp) ?_
        refine AllReadyH.cons (o := _) rfl (fun K hK => ?_) AllReadyH.nil
        go_simp
        generalize hwF : World.setCell (World.setCell _ _ _) _ _ = yF; have HL3 : Hid (yF.heap[w3.heap.size]? = some (.cells #[.int .i64 own.k, .slice aoo noo coo] 31 (0, 0))) := (by unfold Hid; rw [← hwF]; exact (put2 HL2.out _ _).1); have HyF : Hid (Below w3.heap.size w3 yF) := (by unfold Hid; rw [← hwF]; exact below_put Hy2.out Hy2.out.size (put2 HL2.out _ _).2 (Nat.le_refl _)); clear hwF d0 d1 df ks; have ks := HS.out yF HyF.out; try dsimp only
        refine hK.out _ _ ?_ (fun hHeld => ?_)
        · (try simp only [World.cell?_drew]); exact ks
        clear hK K
        try simp only [Act.put, List.getElem_toArray, List.getElem_cons_succ, List.getElem_cons_zero, List.setIfInBounds_toArray, List.set_cons_zero, List.set_cons_succ]
        refine wpAnyH_take (i := 12) (oi := _) (v := ?_) rfl (by kernel_rfl) (by kernel_rfl) (by kernel_rfl) (fun _ _ _ h => h) (Or.inl ⟨by rfl, ?_⟩) (by assumption) ?_
        rotate_left 1
        · intro wq hSw; (try dsimp only at hSw); go_simp; try (with_reducible rfl)
        try simp only [Act.put, List.getElem_toArray, List.getElem_cons_succ, List.getElem_cons_zero, List.setIfInBounds_toArray, List.set_cons_zero, List.set_cons_succ]
        refine wpAnyH_done (by kernel_rfl) ?_ _
        generalize hwD : World.drew yF = yD
        have HyD : Hid (Below w3.heap.size w3 yD) := by unfold Hid; rw [← hwD]; exact HyF.out.drew
        have HLD : Hid (yD.heap[w3.heap.size]? = yF.heap[w3.heap.size]?) := by unfold Hid; rw [← hwD]; rfl
        clear hwD
        go_upto_region 7 with (go_at_call 41; refine (GR.out _).mono ?_; rintro e y9 ⟨rfl, rfl⟩; (try dsimp only))
        have HC8 := hidIt ((HyD.out.block _ (Array.getElem?_eq_some_iff.1 HK2.out).1).trans HK2.out)
        obtain ⟨_, p0, p1, _⟩ := cells2 HC8.out
        obtain ⟨_, q0, q1, qf⟩ := cells2 (HZ.out yD (ext_trans HB3.out HyD.out))
        by_cases hbig : (n1 : Int) > 140000
        · have HW := hidIt (show wrtn m n r = none by unfold wrtn; rw [if_pos (.inr (by rw [HNX.out]; have := HN1.out; (try dsimp only at *); omega))])
          go_wp2_with fail
          refine bodyPost_ret (v := .tuple #[.agg #[.int .i64 0, .slice none 0 0], .int .i64 3]) (by simp [results, Try.results54, go_sem, q0, q1]) rfl ⟨by rw [HW.out], ?_⟩
          exact below_put (ext_trans HB1.out (ext_trans HB3.out HyD.out)) (by have := ((ext_trans HB3.out HyD.out)).size; omega) (put2 (HZ.out yD (ext_trans HB3.out HyD.out)) _ _).2 (by omega)
        · have HW := hidIt (show wrtn m n r = some ⟨r.k, (cls r.k r.t)⟩ by unfold wrtn; rw [if_neg (by rw [HNX.out]; have := HN1.out; (try dsimp only at *); omega), HNX.out])
          go_wp2_with fail
          refine bodyPost_ret (v := .tuple #[.agg #[.int .i64 r.k, .slice ao1 n1 cc1], .int .i64 0]) (by simp [results, Try.results54, go_sem, q0, q1]) rfl ⟨by rw [HW.out]; exact ⟨_, rfl, (((O1.out.ext HB2.out).ext HyD.out).own2 (put2 (HZ.out yD (ext_trans HB3.out HyD.out)) _ _).2 (by have := HB12.out.2; omega)).le (by have := HB1.out.size; have := HB3.out.size; have := HyD.out.size; omega)⟩, ?_⟩
          exact below_put (ext_trans HB1.out (ext_trans HB3.out HyD.out)) (by have := ((ext_trans HB3.out HyD.out)).size; omega) (put2 (HZ.out yD (ext_trans HB3.out HyD.out)) _ _).2 (by omega)
      · skip
        go_simp
        generalize hwN : World.alloc _ _ = y2; have Hy2 : Hid (Below w3.heap.size w3 y2) := (by unfold Hid; rw [← hwN]; exact ext_alloc (Below.refl _ _) _); have HL2 : Hid (y2.heap[w3.heap.size]? = some (.cells #[.int .i64 0, .slice none 0 0] 31 (0, 0))) := (by unfold Hid; rw [← hwN]; exact heap_alloc_new _ _); clear hwN ks; have ks := HS.out y2 Hy2.out; obtain ⟨hl2, d0, d1, df⟩ := cells2 HL2.out; try dsimp only
        refine hK.out _ _ ?_ (fun hHeld => ?_)
        · (try simp only [World.cell?_drew]); exact ks
        clear hK K
        try simp only [Act.put, List.getElem_toArray, List.getElem_cons_succ, List.getElem_cons_zero, List.setIfInBounds_toArray, List.set_cons_zero, List.set_cons_succ]
        refine wpAnyH_ready (rs := [5]) (by kernel_rfl) (by simp) ?_
        refine AllReadyH.cons (o := _) rfl (fun K hK => ?_) AllReadyH.nil
        go_simp
        refine (SMA.out _).mono ?_; rintro e y9 ⟨rfl, rfl⟩; try dsimp only
        refine hK.out _ _ ?_ (fun hHeld => ?_)
        · (try simp only [World.cell?_drew]); exact ks
        clear hK K
        try simp only [Act.put, List.getElem_toArray, List.getElem_cons_succ, List.getElem_cons_zero, List.setIfInBounds_toArray, List.set_cons_zero, List.set_cons_succ]
        refine wpAnyH_take (i := 6) (oi := _) (v := ?_) rfl (by kernel_rfl) (by kernel_rfl) (by kernel_rfl) (fun _ _ _ h => h) (Or.inl ⟨by rfl, ?_⟩) (by assumption) ?_
        rotate_left 1
        · intro wq hSw; (try dsimp only at hSw); go_simp; try (with_reducible rfl)
        try simp only [Act.put, List.getElem_toArray, List.getElem_cons_succ, List.getElem_cons_zero, List.setIfInBounds_toArray, List.set_cons_zero, List.set_cons_succ]
        refine wpAnyH_take (i := 7) (oi := _) (v := ?_) rfl (by kernel_rfl) (by kernel_rfl) (by kernel_rfl) (fun _ _ _ h => h) (Or.inl ⟨by rfl, ?_⟩) (by assumption) ?_
        rotate_left 1
        · intro wq hSw; (try dsimp only at hSw); go_simp; try (with_reducible rfl)
        try simp only [Act.put, List.getElem_toArray, List.getElem_cons_succ, List.getElem_cons_zero, List.setIfInBounds_toArray, List.set_cons_zero, List.set_cons_succ]
        refine wpAnyH_take (i := 8) (oi := _) (v := ?_) rfl (by kernel_rfl) (by kernel_rfl) (by kernel_rfl) (fun _ _ _ h => h) (Or.inl ⟨by rfl, ?_⟩) (by assumption) ?_
        rotate_left 1
        · intro wq hSw; (try dsimp only at hSw); go_simp; try (with_reducible rfl)
        try simp only [Act.put, List.getElem_toArray, List.getElem_cons_succ, List.getElem_cons_zero, List.setIfInBounds_toArray, List.set_cons_zero, List.set_cons_succ]
        refine wpAnyH_take (i := 9) (oi := _) (v := ?_) rfl (by kernel_rfl) (by kernel_rfl) (by kernel_rfl) (fun _ _ _ h => h) (Or.inl ⟨by rfl, ?_⟩) (by assumption) ?_
        rotate_left 1
        · intro wq hSw; (try dsimp only at hSw); go_simp; try (with_reducible rfl)
        try simp only [Act.put, List.getElem_toArray, List.getElem_cons_succ, List.getElem_cons_zero, List.setIfInBounds_toArray, List.set_cons_zero, List.set_cons_succ]
        refine wpAnyH_ready (rs := [11]) (by kernel_rfl) (by simp) ?_
        refine AllReadyH.cons (o := _) rfl (fun K hK => ?_) AllReadyH.nil
        go_simp
        generalize hwF : World.setCell (World.setCell _ _ _) _ _ = yF; have HL3 : Hid (yF.heap[w3.heap.size]? = some (.cells #[.int .i64 own.k, .slice aoo noo coo] 31 (0, 0))) := (by unfold Hid; rw [← hwF]; exact (put2 HL2.out _ _).1); have HyF : Hid (Below w3.heap.size w3 yF) := (by unfold Hid; rw [← hwF]; exact below_put Hy2.out Hy2.out.size (put2 HL2.out _ _).2 (Nat.le_refl _)); clear hwF d0 d1 df ks; have ks := HS.out yF HyF.out; try dsimp only
        refine hK.out _ _ ?_ (fun hHeld => ?_)
        · (try simp only [World.cell?_drew]); exact ks
        clear hK K
        try simp only [Act.put, List.getElem_toArray, List.getElem_cons_succ, List.getElem_cons_zero, List.setIfInBounds_toArray, List.set_cons_zero, List.set_cons_succ]
        refine wpAnyH_take (i := 12) (oi := _) (v := ?_) rfl (by kernel_rfl) (by kernel_rfl) (by kernel_rfl) (fun _ _ _ h => h) (Or.inl ⟨by rfl, ?_⟩) (by assumption) ?_
        rotate_left 1
        · intro wq hSw; (try dsimp only at hSw); go_simp; try (with_reducible rfl)
        try simp only [Act.put, List.getElem_toArray, List.getElem_cons_succ, List.getElem_cons_zero, List.setIfInBounds_toArray, List.set_cons_zero, List.set_cons_succ]
        refine wpAnyH_done (by kernel_rfl) ?_ _
        generalize hwD : World.drew yF = yD
        have HyD : Hid (Below w3.heap.size w3 yD) := by unfold Hid; rw [← hwD]; exact HyF.out.drew
        have HLD : Hid (yD.heap[w3.heap.size]? = yF.heap[w3.heap.size]?) := by unfold Hid; rw [← hwD]; rfl
        clear hwD
        go_upto_region 7 with (go_at_call 41; refine (GR.out _).mono ?_; rintro e y9 ⟨rfl, rfl⟩; (try dsimp only))
        have HC8 := hidIt ((HyD.out.block _ (Array.getElem?_eq_some_iff.1 HK2.out).1).trans HK2.out)
        obtain ⟨_, p0, p1, _⟩ := cells2 HC8.out
        obtain ⟨_, q0, q1, qf⟩ := cells2 (HZ.out yD (ext_trans HB3.out HyD.out))
        by_cases hbig : (n1 : Int) > 140000
        · have HW := hidIt (show wrtn m n r = none by unfold wrtn; rw [if_pos (.inr (by rw [HNX.out]; have := HN1.out; (try dsimp only at *); omega))])
          go_wp2_with fail
          refine bodyPost_ret (v := .tuple #[.agg #[.int .i64 0, .slice none 0 0], .int .i64 3]) (by simp [results, Try.results54, go_sem, q0, q1]) rfl ⟨by rw [HW.out], ?_⟩
          exact below_put (ext_trans HB1.out (ext_trans HB3.out HyD.out)) (by have := ((ext_trans HB3.out HyD.out)).size; omega) (put2 (HZ.out yD (ext_trans HB3.out HyD.out)) _ _).2 (by omega)
        · have HW := hidIt (show wrtn m n r = some ⟨r.k, (cls r.k r.t)⟩ by unfold wrtn; rw [if_neg (by rw [HNX.out]; have := HN1.out; (try dsimp only at *); omega), HNX.out])
          go_wp2_with fail
          refine bodyPost_ret (v := .tuple #[.agg #[.int .i64 r.k, .slice ao1 n1 cc1], .int .i64 0]) (by simp [results, Try.results54, go_sem, q0, q1]) rfl ⟨by rw [HW.out]; exact ⟨_, rfl, (((O1.out.ext HB2.out).ext HyD.out).own2 (put2 (HZ.out yD (ext_trans HB3.out HyD.out)) _ _).2 (by have := HB12.out.2; omega)).le (by have := HB1.out.size; have := HB3.out.size; have := HyD.out.size; omega)⟩, ?_⟩
          exact below_put (ext_trans HB1.out (ext_trans HB3.out HyD.out)) (by have := ((ext_trans HB3.out HyD.out)).size; omega) (put2 (HZ.out yD (ext_trans HB3.out HyD.out)) _ _).2 (by omega)

    · have HNX := hidIt (show nxt m n r = apd own ⟨r.k, cls r.k r.t⟩ by unfold nxt; rw [hm, hg]; rfl)
      rw [hg] at GR
      clear hm HLK HSH hg
      refine wp_region_held_drew (S := fun w'' => w''.cell? ⟨b, 0, none⟩ = some (.map (some bm)) ∧ w''.heap[bm]? = w.heap[bm]?) (by kernel_rfl) (ks) (fun hHeld => ?_)
      refine wpAnyH_take (i := 0) (oi := _) (v := ?_) rfl (by kernel_rfl) (by kernel_rfl) (by kernel_rfl) (fun _ _ _ h => h) (Or.inl ⟨by rfl, ?_⟩) (by assumption) ?_
      rotate_left 1
      · intro wq hSw; (try dsimp only at hSw); go_simp; try (with_reducible rfl)
      try simp only [Act.put, List.getElem_toArray, List.getElem_cons_zero, List.setIfInBounds_toArray, List.set_cons_zero, List.set_cons_succ]
      refine wpAnyH_take (i := 1) (oi := _) (v := ?_) rfl (by kernel_rfl) (by kernel_rfl) (by kernel_rfl) (fun _ _ _ h => h) (Or.inl ⟨by rfl, ?_⟩) (by assumption) ?_
      rotate_left 1
      · intro wq hSw; (try dsimp only at hSw); go_simp; try (with_reducible rfl)
      try simp only [Act.put, List.getElem_toArray, List.getElem_cons_succ, List.getElem_cons_zero, List.setIfInBounds_toArray, List.set_cons_zero, List.set_cons_succ]
      refine wpAnyH_take (i := 2) (oi := _) (v := ?_) rfl (by kernel_rfl) (by kernel_rfl) (by kernel_rfl) (fun _ _ _ h => h) (Or.inl ⟨by rfl, ?_⟩) (by assumption) ?_
      rotate_left 1
      · intro wq hSw; (try dsimp only at hSw); go_simp; try (with_reducible rfl)
      try simp only [Act.put, List.getElem_toArray, List.getElem_cons_succ, List.getElem_cons_zero, List.setIfInBounds_toArray, List.set_cons_zero, List.set_cons_succ]
      refine wpAnyH_take (i := 3) (oi := _) (v := ?_) rfl (by kernel_rfl) (by kernel_rfl) (by kernel_rfl) (fun _ _ _ h => h) (Or.inl ⟨by rfl, ?_⟩) (by assumption) ?_
      rotate_left 1
      · intro wq hSw; (try dsimp only at hSw); go_simp; try (with_reducible rfl)
      try simp only [Act.put, List.getElem_toArray, List.getElem_cons_succ, List.getElem_cons_zero, List.setIfInBounds_toArray, List.set_cons_zero, List.set_cons_succ]
      refine wpAnyH_take (i := 4) (oi := _) (v := ?_) rfl (by kernel_rfl) (by kernel_rfl) (by kernel_rfl) (fun _ _ _ h => h) (Or.inl ⟨by rfl, ?_⟩) (by assumption) ?_
      rotate_left 1
      · intro wq hSw; (try dsimp only at hSw); go_simp; try (with_reducible rfl)
      try simp only [Act.put, List.getElem_toArray, List.getElem_cons_succ, List.getElem_cons_zero, List.setIfInBounds_toArray, List.set_cons_zero, List.set_cons_succ]
      refine wpAnyH_ready (rs := [5, 10]) (by kernel_rfl) (by simp) ?_
      refine (AllReadyH.cons (o := _) rfl (fun K hK => ?_) (AllReadyH.cons (o := _) rfl (fun K hK => ?_) AllReadyH.nil))
      · skip
        go_simp
        refine (SMA.out _).mono ?_; rintro e y9 ⟨rfl, rfl⟩; try dsimp only
        refine hK.out _ _ ?_ (fun hHeld => ?_)
        · (try simp only [World.cell?_drew]); exact ks
        clear hK K
        try simp only [Act.put, List.getElem_toArray, List.getElem_cons_succ, List.getElem_cons_zero, List.setIfInBounds_toArray, List.set_cons_zero, List.set_cons_succ]
        refine wpAnyH_take (i := 6) (oi := _) (v := ?_) rfl (by kernel_rfl) (by kernel_rfl) (by kernel_rfl) (fun _ _ _ h => h) (Or.inl ⟨by rfl, ?_⟩) (by assumption) ?_
        rotate_left 1
        · intro wq hSw; (try dsimp only at hSw); go_simp; try (with_reducible rfl)
        try simp only [Act.put, List.getElem_toArray, List.getElem_cons_succ, List.getElem_cons_zero, List.setIfInBounds_toArray, List.set_cons_zero, List.set_cons_succ]
        refine wpAnyH_take (i := 7) (oi := _) (v := ?_) rfl (by kernel_rfl) (by kernel_rfl) (by kernel_rfl) (fun _ _ _ h => h) (Or.inl ⟨by rfl, ?_⟩) (by assumption) ?_
        rotate_left 1
        · intro wq hSw; (try dsimp only at hSw); go_simp; try (with_reducible rfl)
        try simp only [Act.put, List.getElem_toArray, List.getElem_cons_succ, List.getElem_cons_zero, List.setIfInBounds_toArray, List.set_cons_zero, List.set_cons_succ]
        refine wpAnyH_take (i := 8) (oi := _) (v := ?_) rfl (by kernel_rfl) (by kernel_rfl) (by kernel_rfl) (fun _ _ _ h => h) (Or.inl ⟨by rfl, ?_⟩) (by assumption) ?_
        rotate_left 1
        · intro wq hSw; (try dsimp only at hSw); go_simp; try (with_reducible rfl)
        try simp only [Act.put, List.getElem_toArray, List.getElem_cons_succ, List.getElem_cons_zero, List.setIfInBounds_toArray, List.set_cons_zero, List.set_cons_succ]
        refine wpAnyH_take (i := 9) (oi := _) (v := ?_) rfl (by kernel_rfl) (by kernel_rfl) (by kernel_rfl) (fun _ _ _ h => h) (Or.inl ⟨by rfl, ?_⟩) (by assumption) ?_
        rotate_left 1
        · intro wq hSw; (try dsimp only at hSw); go_simp; try (with_reducible rfl)
        try simp only [Act.put, List.getElem_toArray, List.getElem_cons_succ, List.getElem_cons_zero, List.setIfInBounds_toArray, List.set_cons_zero, List.set_cons_succ]
        refine wpAnyH_ready (rs := [10]) (by kernel_rfl) (by simp) ?_
        refine AllReadyH.cons (o := _) rfl (fun K hK => ?_) AllReadyH.nil
        go_simp
        generalize hwN : World.alloc _ _ = y2; have Hy2 : Hid (Below w3.heap.size w3 y2) := (by unfold Hid; rw [← hwN]; exact ext_alloc (Below.refl _ _) _); have HL2 : Hid (y2.heap[w3.heap.size]? = some (.cells #[.int .i64 0, .slice none 0 0] 31 (0, 0))) := (by unfold Hid; rw [← hwN]; exact heap_alloc_new _ _); clear hwN ks; have ks := HS.out y2 Hy2.out; obtain ⟨hl2, d0, d1, df⟩ := cells2 HL2.out; try dsimp only
        refine hK.out _ _ ?_ (fun hHeld => ?_)
        · (try simp only [World.cell?_drew]); exact ks
        clear hK K
        try simp only [Act.put, List.getElem_toArray, List.getElem_cons_succ, List.getElem_cons_zero, List.setIfInBounds_toArray, List.set_cons_zero, List.set_cons_succ]
        refine wpAnyH_ready (rs := [11]) (by kernel_rfl) (by simp) ?_
        refine AllReadyH.cons (o := _) rfl (fun K hK => ?_) AllReadyH.nil
        go_simp
        generalize hwF : World.setCell (World.setCell _ _ _) _ _ = yF; have HL3 : Hid (yF.heap[w3.heap.size]? = some (.cells #[.int .i64 own.k, .slice aoo noo coo] 31 (0, 0))) := (by unfold Hid; rw [← hwF]; exact (put2 HL2.out _ _).1); have HyF : Hid (Below w3.heap.size w3 yF) := (by unfold Hid; rw [← hwF]; exact below_put Hy2.out Hy2.out.size (put2 HL2.out _ _).2 (Nat.le_refl _)); clear hwF d0 d1 df ks; have ks := HS.out yF HyF.out; try dsimp only
        refine hK.out _ _ ?_ (fun hHeld => ?_)
        · (try simp only [World.cell?_drew]); exact ks
        clear hK K
        try simp only [Act.put, List.getElem_toArray, List.getElem_cons_succ, List.getElem_cons_zero, List.setIfInBounds_toArray, List.set_cons_zero, List.set_cons_succ]
        refine wpAnyH_take (i := 12) (oi := _) (v := ?_) rfl (by kernel_rfl) (by kernel_rfl) (by kernel_rfl) (fun _ _ _ h => h) (Or.inl ⟨by rfl, ?_⟩) (by assumption) ?_
        rotate_left 1
        · intro wq hSw; (try dsimp only at hSw); go_simp; try (with_reducible rfl)
        try simp only [Act.put, List.getElem_toArray, List.getElem_cons_succ, List.getElem_cons_zero, List.setIfInBounds_toArray, List.set_cons_zero, List.set_cons_succ]
        refine wpAnyH_done (by kernel_rfl) ?_ _
        generalize hwD : World.drew yF = yD
        have HyD : Hid (Below w3.heap.size w3 yD) := by unfold Hid; rw [← hwD]; exact HyF.out.drew
        have HLD : Hid (yD.heap[w3.heap.size]? = yF.heap[w3.heap.size]?) := by unfold Hid; rw [← hwD]; rfl
        clear hwD
        have HC8 := hidIt ((HyD.out.block _ (Array.getElem?_eq_some_iff.1 HK2.out).1).trans HK2.out)
        obtain ⟨_, p0, p1, pf⟩ := cells2 HC8.out
        obtain ⟨_, l0, l1, _⟩ := cells2 (HLD.out.trans HL3.out)
        have AP := hidIt (appended_any own.k r.k _ _ own.t (cls r.k r.t) yD ((HUO.out.ext (ext_trans HB1.out HB3.out)).ext HyD.out) (((O1.out.ext HB2.out).ext HyD.out).rds) HON.out.1 (List.length_pos_iff.1 HCP.out) (by have := HON.out.2; omega) (by have := (cls_len r.k r.t).2; omega))
        go_upto_region 7 with (first | (go_at_call 41; refine (GR.out _).mono ?_; rintro e y9 ⟨rfl, rfl⟩; (try dsimp only)) | (go_at_call 70; refine AP.out.mono ?_; rintro e y4 ⟨v4, rfl, own4, hb4⟩; obtain ⟨ao4, n4, c4, e4, hn4⟩ := own4.formn; subst e4; have HN4 := hidIt (show n4 = (apd own ⟨r.k, cls r.k r.t⟩).t.length from hn4); clear hn4; have O4 := hidIt own4; have HB4 := hidIt hb4; clear own4 hb4; have e8 := (HB4.out.block _ (Array.getElem?_eq_some_iff.1 HC8.out).1).trans HC8.out; clear p0 p1 pf l0 l1; obtain ⟨_, p0, p1, pf⟩ := cells2 e8; have E8 := hidIt e8; clear e8; (try dsimp only)))
        clear p0 p1 pf
        have hbb := HB2.out.size
        have hby := HyD.out.size
        have hblt := (Array.getElem?_eq_some_iff.1 HK2.out).1
        generalize hwG : World.setCell (World.setCell _ _ _) _ _ = yG
        have HC9 : Hid (yG.heap[w2.heap.size]? = some (.cells #[.int .i64 (apd own ⟨r.k, cls r.k r.t⟩).k, .slice ao4 n4 c4] 31 (0, 0))) := by unfold Hid; rw [← hwG]; exact (put2 E8.out _ _).1
        have HG9 : Hid (y4.grownBy yG (some w2.heap.size)) := by unfold Hid; rw [← hwG]; exact (put2 E8.out _ _).2
        clear hwG
        have HBG := hidIt (below_put (ext_trans (ext_trans HB12.out.1 (ext_trans HB2.out HyD.out)) HB4.out) (ext_trans (ext_trans HB12.out.1 (ext_trans HB2.out HyD.out)) HB4.out).size HG9.out HB12.out.1.size)
        obtain ⟨_, p0, p1, _⟩ := cells2 HC9.out
        obtain ⟨_, q0, q1, qf⟩ := cells2 (HZ.out yG HBG.out)
        by_cases hbig : (n4 : Int) > 140000
        · have HW := hidIt (show wrtn m n r = none by unfold wrtn; rw [if_pos (.inr (by rw [HNX.out]; have := HN4.out; (try dsimp only at *); omega))])
          go_wp2_with fail
          refine bodyPost_ret (v := .tuple #[.agg #[.int .i64 0, .slice none 0 0], .int .i64 3]) (by simp [results, Try.results54, go_sem, q0, q1]) rfl ⟨by rw [HW.out], ?_⟩
          exact below_put (ext_trans HB1.out HBG.out) (by have := (HBG.out).size; omega) (put2 (HZ.out yG HBG.out) _ _).2 (by omega)
        · have HW := hidIt (show wrtn m n r = some ⟨(apd own ⟨r.k, cls r.k r.t⟩).k, (apd own ⟨r.k, cls r.k r.t⟩).t⟩ by unfold wrtn; rw [if_neg (by rw [HNX.out]; have := HN4.out; (try dsimp only at *); omega), HNX.out])
          go_wp2_with fail
          refine bodyPost_ret (v := .tuple #[.agg #[.int .i64 (apd own ⟨r.k, cls r.k r.t⟩).k, .slice ao4 n4 c4], .int .i64 0]) (by simp [results, Try.results54, go_sem, q0, q1]) rfl ⟨by rw [HW.out]; exact ⟨_, rfl, ((O4.out.own2 HG9.out (by omega)).own2 (put2 (HZ.out yG HBG.out) _ _).2 (by have := HB12.out.1.size; have := HB2.out.size; have := HyD.out.size; omega)).le (by have := HB1.out.size; have := HB3.out.size; have := HyD.out.size; omega)⟩, ?_⟩
          exact below_put (ext_trans HB1.out HBG.out) (by have := (HBG.out).size; omega) (put2 (HZ.out yG HBG.out) _ _).2 (by omega)
      · skip
        go_simp
        generalize hwN : World.alloc _ _ = y2; have Hy2 : Hid (Below w3.heap.size w3 y2) := (by unfold Hid; rw [← hwN]; exact ext_alloc (Below.refl _ _) _); have HL2 : Hid (y2.heap[w3.heap.size]? = some (.cells #[.int .i64 0, .slice none 0 0] 31 (0, 0))) := (by unfold Hid; rw [← hwN]; exact heap_alloc_new _ _); clear hwN ks; have ks := HS.out y2 Hy2.out; obtain ⟨hl2, d0, d1, df⟩ := cells2 HL2.out; try dsimp only
        refine hK.out _ _ ?_ (fun hHeld => ?_)
        · (try simp only [World.cell?_drew]); exact ks
        clear hK K
        try simp only [Act.put, List.getElem_toArray, List.getElem_cons_succ, List.getElem_cons_zero, List.setIfInBounds_toArray, List.set_cons_zero, List.set_cons_succ]
        refine wpAnyH_ready (rs := [5]) (by kernel_rfl) (by simp) ?_
        refine AllReadyH.cons (o := _) rfl (fun K hK => ?_) AllReadyH.nil
        go_simp
        refine (SMA.out _).mono ?_; rintro e y9 ⟨rfl, rfl⟩; try dsimp only
        refine hK.out _ _ ?_ (fun hHeld => ?_)
        · (try simp only [World.cell?_drew]); exact ks
        clear hK K
        try simp only [Act.put, List.getElem_toArray, List.getElem_cons_succ, List.getElem_cons_zero, List.setIfInBounds_toArray, List.set_cons_zero, List.set_cons_succ]
        refine wpAnyH_take (i := 6) (oi := _) (v := ?_) rfl (by kernel_rfl) (by kernel_rfl) (by kernel_rfl) (fun _ _ _ h => h) (Or.inl ⟨by rfl, ?_⟩) (by assumption) ?_
        rotate_left 1
        · intro wq hSw; (try dsimp only at hSw); go_simp; try (with_reducible rfl)
        try simp only [Act.put, List.getElem_toArray, List.getElem_cons_succ, List.getElem_cons_zero, List.setIfInBounds_toArray, List.set_cons_zero, List.set_cons_succ]
        refine wpAnyH_take (i := 7) (oi := _) (v := ?_) rfl (by kernel_rfl) (by kernel_rfl) (by kernel_rfl) (fun _ _ _ h => h) (Or.inl ⟨by rfl, ?_⟩) (by assumption) ?_
        rotate_left 1
        · intro wq hSw; (try dsimp only at hSw); go_simp; try (with_reducible rfl)
        try simp only [Act.put, List.getElem_toArray, List.getElem_cons_succ, List.getElem_cons_zero, List.setIfInBounds_toArray, List.set_cons_zero, List.set_cons_succ]
        refine wpAnyH_take (i := 8) (oi := _) (v := ?_) rfl (by kernel_rfl) (by kernel_rfl) (by kernel_rfl) (fun _ _ _ h => h) (Or.inl ⟨by rfl, ?_⟩) (by assumption) ?_
        rotate_left 1
        · intro wq hSw; (try dsimp only at hSw); go_simp; try (with_reducible rfl)
        try simp only [Act.put, List.getElem_toArray, List.getElem_cons_succ, List.getElem_cons_zero, List.setIfInBounds_toArray, List.set_cons_zero, List.set_cons_succ]
        refine wpAnyH_take (i := 9) (oi := _) (v := ?_) rfl (by kernel_rfl) (by kernel_rfl) (by kernel_rfl) (fun _ _ _ h => h) (Or.inl ⟨by rfl, ?_⟩) (by assumption) ?_
        rotate_left 1
        · intro wq hSw; (try dsimp only at hSw); go_simp; try (with_reducible rfl)
        try simp only [Act.put, List.getElem_toArray, List.getElem_cons_succ, List.getElem_cons_zero, List.setIfInBounds_toArray, List.set_cons_zero, List.set_cons_succ]
        refine wpAnyH_ready (rs := [11]) (by kernel_rfl) (by simp) ?_
        refine AllReadyH.cons (o := _) rfl (fun K hK => ?_) AllReadyH.nil
        go_simp
        generalize hwF : World.setCell (World.setCell _ _ _) _ _ = yF; have HL3 : Hid (yF.heap[w3.heap.size]? = some (.cells #[.int .i64 own.k, .slice aoo noo coo] 31 (0, 0))) := (by unfold Hid; rw [← hwF]; exact (put2 HL2.out _ _).1); have HyF : Hid (Below w3.heap.size w3 yF) := (by unfold Hid; rw [← hwF]; exact below_put Hy2.out Hy2.out.size (put2 HL2.out _ _).2 (Nat.le_refl _)); clear hwF d0 d1 df ks; have ks := HS.out yF HyF.out; try dsimp only
        refine hK.out _ _ ?_ (fun hHeld => ?_)
        · (try simp only [World.cell?_drew]); exact ks
        clear hK K
        try simp only [Act.put, List.getElem_toArray, List.getElem_cons_succ, List.getElem_cons_zero, List.setIfInBounds_toArray, List.set_cons_zero, List.set_cons_succ]
        refine wpAnyH_take (i := 12) (oi := _) (v := ?_) rfl (by kernel_rfl) (by kernel_rfl) (by kernel_rfl) (fun _ _ _ h => h) (Or.inl ⟨by rfl, ?_⟩) (by assumption) ?_
        rotate_left 1
        · intro wq hSw; (try dsimp only at hSw); go_simp; try (with_reducible rfl)
        try simp only [Act.put, List.getElem_toArray, List.getElem_cons_succ, List.getElem_cons_zero, List.setIfInBounds_toArray, List.set_cons_zero, List.set_cons_succ]
        refine wpAnyH_done (by kernel_rfl) ?_ _
        generalize hwD : World.drew yF = yD
        have HyD : Hid (Below w3.heap.size w3 yD) := by unfold Hid; rw [← hwD]; exact HyF.out.drew
        have HLD : Hid (yD.heap[w3.heap.size]? = yF.heap[w3.heap.size]?) := by unfold Hid; rw [← hwD]; rfl
        clear hwD
        have HC8 := hidIt ((HyD.out.block _ (Array.getElem?_eq_some_iff.1 HK2.out).1).trans HK2.out)
        obtain ⟨_, p0, p1, pf⟩ := cells2 HC8.out
        obtain ⟨_, l0, l1, _⟩ := cells2 (HLD.out.trans HL3.out)
        have AP := hidIt (appended_any own.k r.k _ _ own.t (cls r.k r.t) yD ((HUO.out.ext (ext_trans HB1.out HB3.out)).ext HyD.out) (((O1.out.ext HB2.out).ext HyD.out).rds) HON.out.1 (List.length_pos_iff.1 HCP.out) (by have := HON.out.2; omega) (by have := (cls_len r.k r.t).2; omega))
        go_upto_region 7 with (first | (go_at_call 41; refine (GR.out _).mono ?_; rintro e y9 ⟨rfl, rfl⟩; (try dsimp only)) | (go_at_call 70; refine AP.out.mono ?_; rintro e y4 ⟨v4, rfl, own4, hb4⟩; obtain ⟨ao4, n4, c4, e4, hn4⟩ := own4.formn; subst e4; have HN4 := hidIt (show n4 = (apd own ⟨r.k, cls r.k r.t⟩).t.length from hn4); clear hn4; have O4 := hidIt own4; have HB4 := hidIt hb4; clear own4 hb4; have e8 := (HB4.out.block _ (Array.getElem?_eq_some_iff.1 HC8.out).1).trans HC8.out; clear p0 p1 pf l0 l1; obtain ⟨_, p0, p1, pf⟩ := cells2 e8; have E8 := hidIt e8; clear e8; (try dsimp only)))
        clear p0 p1 pf
        have hbb := HB2.out.size
        have hby := HyD.out.size
        have hblt := (Array.getElem?_eq_some_iff.1 HK2.out).1
        generalize hwG : World.setCell (World.setCell _ _ _) _ _ = yG
        have HC9 : Hid (yG.heap[w2.heap.size]? = some (.cells #[.int .i64 (apd own ⟨r.k, cls r.k r.t⟩).k, .slice ao4 n4 c4] 31 (0, 0))) := by unfold Hid; rw [← hwG]; exact (put2 E8.out _ _).1
        have HG9 : Hid (y4.grownBy yG (some w2.heap.size)) := by unfold Hid; rw [← hwG]; exact (put2 E8.out _ _).2
        clear hwG
        have HBG := hidIt (below_put (ext_trans (ext_trans HB12.out.1 (ext_trans HB2.out HyD.out)) HB4.out) (ext_trans (ext_trans HB12.out.1 (ext_trans HB2.out HyD.out)) HB4.out).size HG9.out HB12.out.1.size)
        obtain ⟨_, p0, p1, _⟩ := cells2 HC9.out
        obtain ⟨_, q0, q1, qf⟩ := cells2 (HZ.out yG HBG.out)
        by_cases hbig : (n4 : Int) > 140000
        · have HW := hidIt (show wrtn m n r = none by unfold wrtn; rw [if_pos (.inr (by rw [HNX.out]; have := HN4.out; (try dsimp only at *); omega))])
          go_wp2_with fail
          refine bodyPost_ret (v := .tuple #[.agg #[.int .i64 0, .slice none 0 0], .int .i64 3]) (by simp [results, Try.results54, go_sem, q0, q1]) rfl ⟨by rw [HW.out], ?_⟩
          exact below_put (ext_trans HB1.out HBG.out) (by have := (HBG.out).size; omega) (put2 (HZ.out yG HBG.out) _ _).2 (by omega)
        · have HW := hidIt (show wrtn m n r = some ⟨(apd own ⟨r.k, cls r.k r.t⟩).k, (apd own ⟨r.k, cls r.k r.t⟩).t⟩ by unfold wrtn; rw [if_neg (by rw [HNX.out]; have := HN4.out; (try dsimp only at *); omega), HNX.out])
          go_wp2_with fail
          refine bodyPost_ret (v := .tuple #[.agg #[.int .i64 (apd own ⟨r.k, cls r.k r.t⟩).k, .slice ao4 n4 c4], .int .i64 0]) (by simp [results, Try.results54, go_sem, q0, q1]) rfl ⟨by rw [HW.out]; exact ⟨_, rfl, ((O4.out.own2 HG9.out (by omega)).own2 (put2 (HZ.out yG HBG.out) _ _).2 (by have := HB12.out.1.size; have := HB2.out.size; have := HyD.out.size; omega)).le (by have := HB1.out.size; have := HB3.out.size; have := HyD.out.size; omega)⟩, ?_⟩
          exact below_put (ext_trans HB1.out HBG.out) (by have := (HBG.out).size; omega) (put2 (HZ.out yG HBG.out) _ _).2 (by omega)

end Go.Proofs.Ytnfaofldjoobgaa
