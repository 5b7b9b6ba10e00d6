/- register's written, write, take. -/
import Derived.Test.YtmldfjhfgaggpaaGBank
namespace Go.Proofs.Ytmldfjhfgaggpaa
open Go.RowKit
variable {F : Nat → Prop}

/-- What the register would hold with r in it. -/
def nxt (m : Int → Option Rg) (n : Int) (r : Rg) : Rg := match m (sml n) with
  | some own => if grB n = true then apd own ⟨r.k, cls r.k r.t⟩ else ⟨r.k, cls r.k r.t⟩
  | none => ⟨r.k, cls r.k r.t⟩
def wrtn (m : Int → Option Rg) (n : Int) (r : Rg) : Option Rg := if 140000 < r.t.length ∨ 140000 < (nxt m n r).t.length then none else some (nxt m n r)
theorem cls_pos (r : Rg) (h : r.t ≠ [] ∨ r.k = 1) : 0 < (cls r.k r.t).length := by
  rcases h with h | h
  · have := (cls_len r.k r.t).1; have := List.length_pos_iff.2 h; omega
  · by_cases ht : r.t = []
    · rw [ht, h]; decide
    · have := (cls_len r.k r.t).1; have := List.length_pos_iff.2 ht; omega
theorem sml_in {n : Int} (h : In64 n) : In64 (sml n) := by
  unfold sml
  split
  · rename_i hg
    have hr : 65 ≤ n ∧ n ≤ 90 := by unfold grB at hg; simpa using hg
    exact In64.of (by omega) (by omega)
  · exact h
theorem apd_len (x y : Rg) : (apd x y).t.length ≤ x.t.length + y.t.length + 2 ∧ x.t.length ≤ (apd x y).t.length := by
  have h1 := lbr_len x.t
  have h2 := lbr_len y.t
  unfold apd
  split
  · simp
  · split <;> simp <;> omega
/-- What written answers. -/
def WrR (F : Nat → Prop) (w : World) (x : Option Rg) (e : Ending) (w' : World) : Prop := (match x with
  | none => e = .returned (.tuple #[.agg #[.int .i64 0, .int .i64 0, .pointer none], .int .i64 3])
  | some y => ∃ a, e = .returned (.tuple #[.agg #[.int .i64 y.k, .int .i64 y.t.length, .pointer a], .int .i64 0]) ∧ Hg F w' (.pointer a) y.t) ∧ Below w.heap.size w w'
theorem OwnI.formn {w : World} {base : Nat} {v : Value} {zs : List Int} (h : OwnI w base v zs) : ∃ ao n c, v = .slice ao n c ∧ n = zs.length := let ⟨ao, c, e, _⟩ := h.rds.len; ⟨ao, _, c, e, rfl⟩
theorem OwnI.own2 {w w' : World} {base g : Nat} {v : Value} {zs : List Int} (h : OwnI w base v zs) (hg : w.grownBy w' (some g)) (hk : g < base) : OwnI w' base v zs := h.other hg hk

set_option maxRecDepth 100000 in
set_option maxHeartbeats 4000000 in
theorem written_any (w : World) (b bm N : Nat) (m : Int → Option Rg) (pt : Int) (n : Int) (r : Rg) (v : Value) (hB : Bk F w b bm N m pt) (hv : RdS w v r.t) (hn : In64 n) (hr : r.t ≠ [] ∨ r.k = 1) (hrk : r.k = 0 ∨ r.k = 1) :
    Calls Try.prog 54 #[.pointer (some ⟨b, 0, none⟩), .int .i64 n, .agg #[.int .i64 r.k, v]] w (WrR F w (wrtn m n r)) := by
  obtain ⟨ao, c, rfl, _⟩ := hv.len
  obtain ⟨w1, hw1, k0, k1, hb1, hlt1⟩ := two_new w #[.int .i64 r.k, .slice ao r.t.length c] #[.int .i64 0, .int .i64 0, .pointer none] 31 73
  have HBK := hidIt hB
  have HV := hidIt hv
  have HB1 := hidIt hb1
  have HCP := hidIt (cls_pos r hr)
  have HRK := hidIt hrk
  have HF := hidIt hB.fl
  obtain ⟨_, c0, c1, _⟩ := cells2 k0
  have HZ : Hid (∀ w', Below w1.heap.size w1 w' → w'.heap[w.heap.size + 1]? = some (.cells #[.int .i64 0, .int .i64 0, .pointer none] 73 (0, 0))) := fun w' hb => (hb.block _ hlt1).trans k1
  obtain ⟨lv, hlook, hshw⟩ := hB.look (sml_in hn)
  have HLK := hidIt hlook
  have HSH := hidIt hshw
  have SMA : Hid (∀ y, Calls Try.prog 42 #[.int .i64 n] y fun e w' => e = .returned (.int .i64 (sml n)) ∧ y = w') := fun y => small_any n y
  have GR : Hid (∀ y, Calls Try.prog 41 #[.int .i64 n] y fun e w' => e = .returned (.bool (grB n)) ∧ y = w') := fun y => isGreat_any n y
  have hblt := hB.lt
  have HBL := hidIt hblt
  obtain ⟨F1, hF1⟩ : ∃ F1 : Nat → Prop, F1 = fun q => F q ∨ q = w.heap.size + 1 := ⟨_, rfl⟩
  have H1 : Hid (∀ q, F1 q ↔ (F q ∨ q = w.heap.size + 1)) := by unfold Hid; rw [hF1]; exact fun q => Iff.rfl
  have H1L : Hid (∀ q, F1 q → q < w1.heap.size) := fun q hq => by
    rcases (H1.out q).1 hq with h | h
    · have := HF.out q h; omega
    · omega
  clear hB hv hr hrk k0 k1 hb1 hlook hshw hn hblt hF1
  by_cases hl : (r.t.length : Int) > 140000
  · have HW := hidIt (show wrtn m n r = none by unfold wrtn; rw [if_pos (.inl (by omega))])
    obtain ⟨_, q0, q1, q2, qf⟩ := cells3 (HZ.out w1 (Below.refl _ _))
    go_enter Try.func54, Try.ntmps54
    go_upto_region 1 with fail
    rw [← hw1]
    clear hw1
    go_wp2_with fail
    refine bodyPost_ret (v := .tuple #[.agg #[.int .i64 0, .int .i64 0, .pointer none], .int .i64 3]) (by simp [results, Try.results54, go_sem, q0, q1, q2]) rfl ⟨by rw [HW.out], ?_⟩
    exact below_put HB1.out (by omega) (put3 (HZ.out w1 (Below.refl _ _)) _ _ _).2 (by omega)
  have CA := hidIt (closed_any r.k _ r.t w1 (HV.out.ext HB1.out) HCP.out (by omega))
  obtain ⟨C, hC⟩ : ∃ C, C = cls r.k r.t := ⟨_, rfl⟩
  rw [← hC] at CA HCP
  have HC := hidIt hC
  have HCN := hidIt (List.length_pos_iff.1 HCP.out)
  have HCL := hidIt (show C.length ≤ 140001 by have := (cls_len r.k r.t).2; rw [hC]; omega)
  have WT : Hid (∀ v y, Below w1.heap.size w1 y → RdS y v C → (∀ q, F1 q → Off v q) → Calls Try.prog 70 #[.agg #[.int .i64 r.k, .int .i64 0, .pointer none], v] y (WtR F1 y r.k C)) := fun v y hb h1 h2 => by
    have := with_any (F := F1) y r.k none v [] C Hg.nil h1 h2 (fun q hq => by have := H1L.out q hq; have := hb.size; omega) HCN.out (by simp) (by have := HCL.out; omega)
    exact this
  clear hC
  go_enter Try.func54, Try.ntmps54
  go_upto_region 1 with fail
  rw [← hw1]
  clear hw1
  go_upto_region 4 with (go_at_call 69; refine CA.out.mono ?_; rintro e w2 ⟨v1, rfl, own1, hb2⟩; obtain ⟨ao1, n1, cc1, e1, hn1⟩ := own1.formn; subst e1; have HN1 := hidIt hn1; clear hn1; have O1 := hidIt own1; have HB12 := hidIt (And.intro hb2 hlt1); clear own1 hb2; (try dsimp only))
  generalize hw3 : World.alloc _ _ = w3
  have HK2 : Hid (w3.heap[w2.heap.size]? = some (.cells #[.int .i64 r.k, .slice ao1 n1 cc1] 31 (0, 0))) := by unfold Hid; rw [← hw3]; exact heap_alloc_new _ _
  have HB2 : Hid (Below w2.heap.size w2 w3) := by unfold Hid; rw [← hw3]; exact ext_alloc (Below.refl _ _) _
  clear hw3 c0 c1
  have HB3 := hidIt (ext_trans HB12.out.1 HB2.out)
  have HRC := hidIt (O1.out.rds)
  have HOC : Hid (∀ q, F1 q → Off (.slice ao1 n1 cc1) q) := fun q hq => O1.out.off (H1L.out q hq)
  have WR1 := hidIt (WT.out _ w3 HB3.out (HRC.out.ext HB2.out) HOC.out)
  obtain ⟨_, c0, c1, _⟩ := cells2 HK2.out
  clear WT
  go_upto_region 5 with (go_at_call 70; refine WR1.out.mono ?_; rintro e y1 ⟨g1, rfl, hg1, hb1⟩; have HG1 := hidIt hg1; have HY1 := hidIt hb1; clear hg1 hb1; (try dsimp only))
  generalize hw4 : World.alloc _ _ = w4
  have HK4 : Hid (w4.heap[y1.heap.size]? = some (.cells #[.int .i64 r.k, .int .i64 C.length, .pointer (some ⟨g1, 0, none⟩)] 73 (0, 0))) := by unfold Hid; rw [← hw4]; exact heap_alloc_new _ _
  have HY4 : Hid (Below y1.heap.size y1 w4) := by unfold Hid; rw [← hw4]; exact ext_alloc (Below.refl _ _) _
  clear hw4 c0 c1
  have HB1y := hidIt (ext_trans HB3.out HY1.out)
  have HB2y := hidIt (ext_trans HB2.out HY1.out)
  have HB14 := hidIt (ext_trans HB1y.out HY4.out)
  have HB24 := hidIt (ext_trans HB2y.out HY4.out)
  have HG4 := hidIt (HG1.out.ext HY4.out)
  have HK5 := hidIt (((ext_trans HY1.out HY4.out).block _ (Array.getElem?_eq_some_iff.1 HK2.out).1).trans HK2.out)
  have HS : Hid (∀ w', Below w4.heap.size w4 w' → w'.cell? ⟨b, 0, none⟩ = some (.map (some bm)) ∧ w'.heap[bm]? = w.heap[bm]?) := fun w' hb => by
    have hbb := ext_trans (ext_trans HB1.out HB14.out) hb
    exact ⟨(hbb.cell (p := ⟨b, 0, none⟩) HBL.out.1).trans HBK.out.cells.1, hbb.block _ HBL.out.2.1⟩
  have ks := HS.out w4 (Below.refl _ _)
  cases hm : m (sml n) with
  | none =>
    have HNX := hidIt (show nxt m n r = ⟨r.k, C⟩ by unfold nxt; rw [hm, HC.out])
    have hlk : ∀ wq : World, wq.heap[bm]? = w.heap[bm]? → (Instr.lookup 68 (.map (some bm)) (.int .i64 (sml n)) true).run Try.prog wq = .ok (.tuple #[.agg #[.int .i64 0, .int .i64 0, .pointer none], .bool false]) wq := by
      have h1 := HLK.out
      have h2 := HSH.out
      rw [hm] at h1 h2
      have h3 : lv = .agg #[.int .i64 0, .int .i64 0, .pointer none] := h2
      rw [h3] at h1
      exact h1
    clear hm HLK HSH
    refine wp_region_held_drew (S := fun w'' => w''.cell? ⟨b, 0, none⟩ = some (.map (some bm)) ∧ w''.heap[bm]? = w.heap[bm]?) (by kernel_rfl) (ks) (fun hHeld => ?_)
    refine wpAnyH_take (i := 0) (oi := _) (v := ?_) rfl (by kernel_rfl) (by kernel_rfl) (by kernel_rfl) (fun _ _ _ h => h) (Or.inl ⟨by rfl, ?_⟩) (by assumption) ?_
    rotate_left 1
    · intro wq hSw; (try dsimp only at hSw); go_simp; try (with_reducible rfl)
    try simp only [Act.put, List.getElem_toArray, List.getElem_cons_zero, List.setIfInBounds_toArray, List.set_cons_zero, List.set_cons_succ]
    refine wpAnyH_take (i := 1) (oi := _) (v := ?_) rfl (by kernel_rfl) (by kernel_rfl) (by kernel_rfl) (fun _ _ _ h => h) (Or.inl ⟨by rfl, ?_⟩) (by assumption) ?_
    rotate_left 1
    · intro wq hSw; (try dsimp only at hSw); go_simp; try (with_reducible rfl)
    try simp only [Act.put, List.getElem_toArray, List.getElem_cons_succ, List.getElem_cons_zero, List.setIfInBounds_toArray, List.set_cons_zero, List.set_cons_succ]
    refine wpAnyH_take (i := 2) (oi := _) (v := ?_) rfl (by kernel_rfl) (by kernel_rfl) (by kernel_rfl) (fun _ _ _ h => h) (Or.inl ⟨by rfl, ?_⟩) (by assumption) ?_
    rotate_left 1
    · intro wq hSw; (try dsimp only at hSw); go_simp; try (with_reducible rfl)
    try simp only [Act.put, List.getElem_toArray, List.getElem_cons_succ, List.getElem_cons_zero, List.setIfInBounds_toArray, List.set_cons_zero, List.set_cons_succ]
    refine wpAnyH_take (i := 3) (oi := _) (v := ?_) rfl (by kernel_rfl) (by kernel_rfl) (by kernel_rfl) (fun _ _ _ h => h) (Or.inl ⟨by rfl, ?_⟩) (by assumption) ?_
    rotate_left 1
    · intro wq hSw; (try dsimp only at hSw); go_simp; try (with_reducible rfl)
    try simp only [Act.put, List.getElem_toArray, List.getElem_cons_succ, List.getElem_cons_zero, List.setIfInBounds_toArray, List.set_cons_zero, List.set_cons_succ]
    refine wpAnyH_take (i := 4) (oi := _) (v := ?_) rfl (by kernel_rfl) (by kernel_rfl) (by kernel_rfl) (fun _ _ _ h => h) (Or.inl ⟨by rfl, ?_⟩) (by assumption) ?_
    rotate_left 1
    · intro wq hSw; (try dsimp only at hSw); go_simp; try (with_reducible rfl)
    try simp only [Act.put, List.getElem_toArray, List.getElem_cons_succ, List.getElem_cons_zero, List.setIfInBounds_toArray, List.set_cons_zero, List.set_cons_succ]
    refine wpAnyH_ready (rs := [5, 10]) (by kernel_rfl) (by simp) ?_
    refine (AllReadyH.cons (o := _) rfl (fun K hK => ?_) (AllReadyH.cons (o := _) rfl (fun K hK => ?_) AllReadyH.nil))
    · skip
      go_simp
      refine (SMA.out _).mono ?_; rintro e y9 ⟨rfl, rfl⟩; try dsimp only
      refine hK.out _ _ ?_ (fun hHeld => ?_)
      · (try simp only [World.cell?_drew]); exact ks
      clear hK K
      try simp only [Act.put, List.getElem_toArray, List.getElem_cons_succ, List.getElem_cons_zero, List.setIfInBounds_toArray, List.set_cons_zero, List.set_cons_succ]
      refine wpAnyH_take (i := 6) (oi := _) (v := ?_) rfl (by kernel_rfl) (by kernel_rfl) (by kernel_rfl) (fun _ _ _ h => h) (Or.inl ⟨by rfl, ?_⟩) (by assumption) ?_
      rotate_left 1
      · intro wq hSw; (try dsimp only at hSw); go_simp; try (with_reducible rfl)
      try simp only [Act.put, List.getElem_toArray, List.getElem_cons_succ, List.getElem_cons_zero, List.setIfInBounds_toArray, List.set_cons_zero, List.set_cons_succ]
      refine wpAnyH_take (i := 7) (oi := _) (v := ?_) rfl (by kernel_rfl) (by kernel_rfl) (by kernel_rfl) (fun _ _ _ h => h) (Or.inl ⟨by rfl, ?_⟩) (by assumption) ?_
      rotate_left 1
      · intro wq hSw; (try dsimp only at hSw); go_simp; try (with_reducible rfl)
      try simp only [Act.put, List.getElem_toArray, List.getElem_cons_succ, List.getElem_cons_zero, List.setIfInBounds_toArray, List.set_cons_zero, List.set_cons_succ]
      refine wpAnyH_take (i := 8) (oi := _) (v := ?_) rfl (by kernel_rfl) (by kernel_rfl) (by kernel_rfl) (fun _ _ _ h => h) (Or.inl ⟨by rfl, ?_⟩) (by assumption) ?_
      rotate_left 1
      · intro wq hSw; (try dsimp only at hSw); go_simp; try (with_reducible rfl)
      try simp only [Act.put, List.getElem_toArray, List.getElem_cons_succ, List.getElem_cons_zero, List.setIfInBounds_toArray, List.set_cons_zero, List.set_cons_succ]
      refine wpAnyH_take (i := 9) (oi := _) (v := ?_) rfl (by kernel_rfl) (by kernel_rfl) (by kernel_rfl) (fun _ _ _ h => h) (Or.inl ⟨by rfl, ?_⟩) (by assumption) ?_
      rotate_left 1
      · intro wq hSw; (try dsimp only at hSw); go_simp; try (with_reducible rfl)
      try simp only [Act.put, List.getElem_toArray, List.getElem_cons_succ, List.getElem_cons_zero, List.setIfInBounds_toArray, List.set_cons_zero, List.set_cons_succ]
      refine wpAnyH_ready (rs := [10]) (by kernel_rfl) (by simp) ?_
      refine AllReadyH.cons (o := _) rfl (fun K hK => ?_) AllReadyH.nil
      go_simp
      generalize hwN : World.alloc _ _ = y2; have Hy2 : Hid (Below w4.heap.size w4 y2) := (by unfold Hid; rw [← hwN]; exact ext_alloc (Below.refl _ _) _); have HL2 : Hid (y2.heap[w4.heap.size]? = some (.cells #[.int .i64 0, .int .i64 0, .pointer none] 73 (0, 0))) := (by unfold Hid; rw [← hwN]; exact heap_alloc_new _ _); clear hwN ks; have ks := HS.out y2 Hy2.out; obtain ⟨hl2, d0, d1, d2, df⟩ := cells3 HL2.out; try dsimp only
      refine hK.out _ _ ?_ (fun hHeld => ?_)
      · (try simp only [World.cell?_drew]); exact ks
      clear hK K
      try simp only [Act.put, List.getElem_toArray, List.getElem_cons_succ, List.getElem_cons_zero, List.setIfInBounds_toArray, List.set_cons_zero, List.set_cons_succ]
      refine wpAnyH_ready (rs := [11]) (by kernel_rfl) (by simp) ?_
      refine AllReadyH.cons (o := _) rfl (fun K hK => ?_) AllReadyH.nil
      go_simp
      generalize hwF : World.setCell (World.setCell (World.setCell _ _ _) _ _) _ _ = yF; have HL3 : Hid (yF.heap[w4.heap.size]? = some (.cells #[.int .i64 0, .int .i64 0, .pointer none] 73 (0, 0))) := (by unfold Hid; rw [← hwF]; exact (put3 HL2.out _ _ _).1); have HyF : Hid (Below w4.heap.size w4 yF) := (by unfold Hid; rw [← hwF]; exact below_put Hy2.out Hy2.out.size (put3 HL2.out _ _ _).2 (Nat.le_refl _)); clear hwF d0 d1 d2 df ks; have ks := HS.out yF HyF.out; try dsimp only
      refine hK.out _ _ ?_ (fun hHeld => ?_)
      · (try simp only [World.cell?_drew]); exact ks
      clear hK K
      try simp only [Act.put, List.getElem_toArray, List.getElem_cons_succ, List.getElem_cons_zero, List.setIfInBounds_toArray, List.set_cons_zero, List.set_cons_succ]
      refine wpAnyH_take (i := 12) (oi := _) (v := ?_) rfl (by kernel_rfl) (by kernel_rfl) (by kernel_rfl) (fun _ _ _ h => h) (Or.inl ⟨by rfl, ?_⟩) (by assumption) ?_
      rotate_left 1
      · intro wq hSw; (try dsimp only at hSw); go_simp; try (with_reducible rfl)
      try simp only [Act.put, List.getElem_toArray, List.getElem_cons_succ, List.getElem_cons_zero, List.setIfInBounds_toArray, List.set_cons_zero, List.set_cons_succ]
      refine wpAnyH_done (by kernel_rfl) ?_ _
      generalize hwD : World.drew yF = yD
      have HyD : Hid (Below w4.heap.size w4 yD) := by unfold Hid; rw [← hwD]; exact HyF.out.drew
      have HLD : Hid (yD.heap[w4.heap.size]? = yF.heap[w4.heap.size]?) := by unfold Hid; rw [← hwD]; rfl
      clear hwD
      go_upto_region 8 with fail
      have HK9 := hidIt ((HyD.out.block _ (Array.getElem?_eq_some_iff.1 HK4.out).1).trans HK4.out)
      obtain ⟨_, p0, p1, p2, _⟩ := cells3 HK9.out
      obtain ⟨_, q0, q1, q2, qf⟩ := cells3 (HZ.out yD (ext_trans HB14.out HyD.out))
      by_cases hbig : ((C.length : Nat) : Int) > 140000
      · have HW := hidIt (show wrtn m n r = none by unfold wrtn; rw [if_pos (.inr (by rw [HNX.out]; (try dsimp only at *); omega))])
        go_wp2_with fail
        refine bodyPost_ret (v := .tuple #[.agg #[.int .i64 0, .int .i64 0, .pointer none], .int .i64 3]) (by simp [results, Try.results54, go_sem, q0, q1, q2]) rfl ⟨by rw [HW.out], ?_⟩
        exact below_put (ext_trans HB1.out (ext_trans HB14.out HyD.out)) (by have := ((ext_trans HB14.out HyD.out)).size; omega) (put3 (HZ.out yD (ext_trans HB14.out HyD.out)) _ _ _).2 (by omega)
      · have HW := hidIt (show wrtn m n r = some ⟨r.k, C⟩ by unfold wrtn; rw [if_neg (by rw [HNX.out]; (try dsimp only at *); omega), HNX.out])
        go_wp2_with fail
        refine bodyPost_ret (v := .tuple #[.agg #[.int .i64 r.k, .int .i64 C.length, .pointer (some ⟨g1, 0, none⟩)], .int .i64 0]) (by simp [results, Try.results54, go_sem, q0, q1, q2]) rfl ⟨by rw [HW.out]; exact ⟨_, rfl, (((HG4.out.ext HyD.out)).other (put3 (HZ.out yD (ext_trans HB14.out HyD.out)) _ _ _).2 (.inl ((H1.out _).2 (.inr rfl)))).weak (fun q h => (H1.out q).2 (.inl h))⟩, ?_⟩
        exact below_put (ext_trans HB1.out (ext_trans HB14.out HyD.out)) (by have := ((ext_trans HB14.out HyD.out)).size; omega) (put3 (HZ.out yD (ext_trans HB14.out HyD.out)) _ _ _).2 (by omega)
    · skip
      go_simp
      generalize hwN : World.alloc _ _ = y2; have Hy2 : Hid (Below w4.heap.size w4 y2) := (by unfold Hid; rw [← hwN]; exact ext_alloc (Below.refl _ _) _); have HL2 : Hid (y2.heap[w4.heap.size]? = some (.cells #[.int .i64 0, .int .i64 0, .pointer none] 73 (0, 0))) := (by unfold Hid; rw [← hwN]; exact heap_alloc_new _ _); clear hwN ks; have ks := HS.out y2 Hy2.out; obtain ⟨hl2, d0, d1, d2, df⟩ := cells3 HL2.out; try dsimp only
      refine hK.out _ _ ?_ (fun hHeld => ?_)
      · (try simp only [World.cell?_drew]); exact ks
      clear hK K
      try simp only [Act.put, List.getElem_toArray, List.getElem_cons_succ, List.getElem_cons_zero, List.setIfInBounds_toArray, List.set_cons_zero, List.set_cons_succ]
      refine wpAnyH_ready (rs := [5]) (by kernel_rfl) (by simp) ?_
      refine AllReadyH.cons (o := _) rfl (fun K hK => ?_) AllReadyH.nil
      go_simp
      refine (SMA.out _).mono ?_; rintro e y9 ⟨rfl, rfl⟩; try dsimp only
      refine hK.out _ _ ?_ (fun hHeld => ?_)
      · (try simp only [World.cell?_drew]); exact ks
      clear hK K
      try simp only [Act.put, List.getElem_toArray, List.getElem_cons_succ, List.getElem_cons_zero, List.setIfInBounds_toArray, List.set_cons_zero, List.set_cons_succ]
      refine wpAnyH_take (i := 6) (oi := _) (v := ?_) rfl (by kernel_rfl) (by kernel_rfl) (by kernel_rfl) (fun _ _ _ h => h) (Or.inl ⟨by rfl, ?_⟩) (by assumption) ?_
      rotate_left 1
      · intro wq hSw; (try dsimp only at hSw); go_simp; try (with_reducible rfl)
      try simp only [Act.put, List.getElem_toArray, List.getElem_cons_succ, List.getElem_cons_zero, List.setIfInBounds_toArray, List.set_cons_zero, List.set_cons_succ]
      refine wpAnyH_take (i := 7) (oi := _) (v := ?_) rfl (by kernel_rfl) (by kernel_rfl) (by kernel_rfl) (fun _ _ _ h => h) (Or.inl ⟨by rfl, ?_⟩) (by assumption) ?_
      rotate_left 1
      · intro wq hSw; (try dsimp only at hSw); go_simp; try (with_reducible rfl)
      try simp only [Act.put, List.getElem_toArray, List.getElem_cons_succ, List.getElem_cons_zero, List.setIfInBounds_toArray, List.set_cons_zero, List.set_cons_succ]
      refine wpAnyH_take (i := 8) (oi := _) (v := ?_) rfl (by kernel_rfl) (by kernel_rfl) (by kernel_rfl) (fun _ _ _ h => h) (Or.inl ⟨by rfl, ?_⟩) (by assumption) ?_
      rotate_left 1
      · intro wq hSw; (try dsimp only at hSw); go_simp; try (with_reducible rfl)
      try simp only [Act.put, List.getElem_toArray, List.getElem_cons_succ, List.getElem_cons_zero, List.setIfInBounds_toArray, List.set_cons_zero, List.set_cons_succ]
      refine wpAnyH_take (i := 9) (oi := _) (v := ?_) rfl (by kernel_rfl) (by kernel_rfl) (by kernel_rfl) (fun _ _ _ h => h) (Or.inl ⟨by rfl, ?_⟩) (by assumption) ?_
      rotate_left 1
      · intro wq hSw; (try dsimp only at hSw); go_simp; try (with_reducible rfl)
      try simp only [Act.put, List.getElem_toArray, List.getElem_cons_succ, List.getElem_cons_zero, List.setIfInBounds_toArray, List.set_cons_zero, List.set_cons_succ]
      refine wpAnyH_ready (rs := [11]) (by kernel_rfl) (by simp) ?_
      refine AllReadyH.cons (o := _) rfl (fun K hK => ?_) AllReadyH.nil
      go_simp
      generalize hwF : World.setCell (World.setCell (World.setCell _ _ _) _ _) _ _ = yF; have HL3 : Hid (yF.heap[w4.heap.size]? = some (.cells #[.int .i64 0, .int .i64 0, .pointer none] 73 (0, 0))) := (by unfold Hid; rw [← hwF]; exact (put3 HL2.out _ _ _).1); have HyF : Hid (Below w4.heap.size w4 yF) := (by unfold Hid; rw [← hwF]; exact below_put Hy2.out Hy2.out.size (put3 HL2.out _ _ _).2 (Nat.le_refl _)); clear hwF d0 d1 d2 df ks; have ks := HS.out yF HyF.out; try dsimp only
      refine hK.out _ _ ?_ (fun hHeld => ?_)
      · (try simp only [World.cell?_drew]); exact ks
      clear hK K
      try simp only [Act.put, List.getElem_toArray, List.getElem_cons_succ, List.getElem_cons_zero, List.setIfInBounds_toArray, List.set_cons_zero, List.set_cons_succ]
      refine wpAnyH_take (i := 12) (oi := _) (v := ?_) rfl (by kernel_rfl) (by kernel_rfl) (by kernel_rfl) (fun _ _ _ h => h) (Or.inl ⟨by rfl, ?_⟩) (by assumption) ?_
      rotate_left 1
      · intro wq hSw; (try dsimp only at hSw); go_simp; try (with_reducible rfl)
      try simp only [Act.put, List.getElem_toArray, List.getElem_cons_succ, List.getElem_cons_zero, List.setIfInBounds_toArray, List.set_cons_zero, List.set_cons_succ]
      refine wpAnyH_done (by kernel_rfl) ?_ _
      generalize hwD : World.drew yF = yD
      have HyD : Hid (Below w4.heap.size w4 yD) := by unfold Hid; rw [← hwD]; exact HyF.out.drew
      have HLD : Hid (yD.heap[w4.heap.size]? = yF.heap[w4.heap.size]?) := by unfold Hid; rw [← hwD]; rfl
      clear hwD
      go_upto_region 8 with fail
      have HK9 := hidIt ((HyD.out.block _ (Array.getElem?_eq_some_iff.1 HK4.out).1).trans HK4.out)
      obtain ⟨_, p0, p1, p2, _⟩ := cells3 HK9.out
      obtain ⟨_, q0, q1, q2, qf⟩ := cells3 (HZ.out yD (ext_trans HB14.out HyD.out))
      by_cases hbig : ((C.length : Nat) : Int) > 140000
      · have HW := hidIt (show wrtn m n r = none by unfold wrtn; rw [if_pos (.inr (by rw [HNX.out]; (try dsimp only at *); omega))])
        go_wp2_with fail
        refine bodyPost_ret (v := .tuple #[.agg #[.int .i64 0, .int .i64 0, .pointer none], .int .i64 3]) (by simp [results, Try.results54, go_sem, q0, q1, q2]) rfl ⟨by rw [HW.out], ?_⟩
        exact below_put (ext_trans HB1.out (ext_trans HB14.out HyD.out)) (by have := ((ext_trans HB14.out HyD.out)).size; omega) (put3 (HZ.out yD (ext_trans HB14.out HyD.out)) _ _ _).2 (by omega)
      · have HW := hidIt (show wrtn m n r = some ⟨r.k, C⟩ by unfold wrtn; rw [if_neg (by rw [HNX.out]; (try dsimp only at *); omega), HNX.out])
        go_wp2_with fail
        refine bodyPost_ret (v := .tuple #[.agg #[.int .i64 r.k, .int .i64 C.length, .pointer (some ⟨g1, 0, none⟩)], .int .i64 0]) (by simp [results, Try.results54, go_sem, q0, q1, q2]) rfl ⟨by rw [HW.out]; exact ⟨_, rfl, (((HG4.out.ext HyD.out)).other (put3 (HZ.out yD (ext_trans HB14.out HyD.out)) _ _ _).2 (.inl ((H1.out _).2 (.inr rfl)))).weak (fun q h => (H1.out q).2 (.inl h))⟩, ?_⟩
        exact below_put (ext_trans HB1.out (ext_trans HB14.out HyD.out)) (by have := ((ext_trans HB14.out HyD.out)).size; omega) (put3 (HZ.out yD (ext_trans HB14.out HyD.out)) _ _ _).2 (by omega)

  | some own =>
    obtain ⟨aoo, hlk, hro⟩ : ∃ aoo, (∀ wq : World, wq.heap[bm]? = w.heap[bm]? → (Instr.lookup 68 (.map (some bm)) (.int .i64 (sml n)) true).run Try.prog wq = .ok (.tuple #[.agg #[.int .i64 own.k, .int .i64 own.t.length, .pointer aoo], .bool true]) wq) ∧ Hg F w (.pointer aoo) own.t ∧ own.t ≠ [] ∧ own.t.length ≤ 140000 ∧ (own.k = 0 ∨ own.k = 1) := by
      have h1 := HLK.out
      have h2 := HSH.out
      rw [hm] at h1 h2
      obtain ⟨uo, h3, h4⟩ := h2
      rw [h3] at h1
      exact ⟨uo, h1, h4⟩
    have HUO := hidIt hro.1
    have HON := hidIt hro.2
    clear hro
    cases hg : grB n
    · have HNX := hidIt (show nxt m n r = ⟨r.k, C⟩ by unfold nxt; rw [hm, hg, HC.out]; rfl)
      rw [hg] at GR
      clear hm HLK HSH hg
      refine wp_region_held_drew (S := fun w'' => w''.cell? ⟨b, 0, none⟩ = some (.map (some bm)) ∧ w''.heap[bm]? = w.heap[bm]?) (by kernel_rfl) (ks) (fun hHeld => ?_)
      refine wpAnyH_take (i := 0) (oi := _) (v := ?_) rfl (by kernel_rfl) (by kernel_rfl) (by kernel_rfl) (fun _ _ _ h => h) (Or.inl ⟨by rfl, ?_⟩) (by assumption) ?_
      rotate_left 1
      · intro wq hSw; (try dsimp only at hSw); go_simp; try (with_reducible rfl)
      try simp only [Act.put, List.getElem_toArray, List.getElem_cons_zero, List.setIfInBounds_toArray, List.set_cons_zero, List.set_cons_succ]
      refine wpAnyH_take (i := 1) (oi := _) (v := ?_) rfl (by kernel_rfl) (by kernel_rfl) (by kernel_rfl) (fun _ _ _ h => h) (Or.inl ⟨by rfl, ?_⟩) (by assumption) ?_
      rotate_left 1
      · intro wq hSw; (try dsimp only at hSw); go_simp; try (with_reducible rfl)
      try simp only [Act.put, List.getElem_toArray, List.getElem_cons_succ, List.getElem_cons_zero, List.setIfInBounds_toArray, List.set_cons_zero, List.set_cons_succ]
      refine wpAnyH_take (i := 2) (oi := _) (v := ?_) rfl (by kernel_rfl) (by kernel_rfl) (by kernel_rfl) (fun _ _ _ h => h) (Or.inl ⟨by rfl, ?_⟩) (by assumption) ?_
      rotate_left 1
      · intro wq hSw; (try dsimp only at hSw); go_simp; try (with_reducible rfl)
      try simp only [Act.put, List.getElem_toArray, List.getElem_cons_succ, List.getElem_cons_zero, List.setIfInBounds_toArray, List.set_cons_zero, List.set_cons_succ]
      refine wpAnyH_take (i := 3) (oi := _) (v := ?_) rfl (by kernel_rfl) (by kernel_rfl) (by kernel_rfl) (fun _ _ _ h => h) (Or.inl ⟨by rfl, ?_⟩) (by assumption) ?_
      rotate_left 1
      · intro wq hSw; (try dsimp only at hSw); go_simp; try (with_reducible rfl)
      try simp only [Act.put, List.getElem_toArray, List.getElem_cons_succ, List.getElem_cons_zero, List.setIfInBounds_toArray, List.set_cons_zero, List.set_cons_succ]
      refine wpAnyH_take (i := 4) (oi := _) (v := ?_) rfl (by kernel_rfl) (by kernel_rfl) (by kernel_rfl) (fun _ _ _ h => h) (Or.inl ⟨by rfl, ?_⟩) (by assumption) ?_
      rotate_left 1
      · intro wq hSw; (try dsimp only at hSw); go_simp; try (with_reducible rfl)
      try simp only [Act.put, List.getElem_toArray, List.getElem_cons_succ, List.getElem_cons_zero, List.setIfInBounds_toArray, List.set_cons_zero, List.set_cons_succ]
      refine wpAnyH_ready (rs := [5, 10]) (by kernel_rfl) (by simp) ?_
      refine (AllReadyH.cons (o := _) rfl (fun K hK => ?_) (AllReadyH.cons (o := _) rfl (fun K hK => ?_) AllReadyH.nil))
      · skip
        go_simp
        refine (SMA.out _).mono ?_; rintro e y9 ⟨rfl, rfl⟩; try dsimp only
        refine hK.out _ _ ?_ (fun hHeld => ?_)
        · (try simp only [World.cell?_drew]); exact ks
        clear hK K
        try simp only [Act.put, List.getElem_toArray, List.getElem_cons_succ, List.getElem_cons_zero, List.setIfInBounds_toArray, List.set_cons_zero, List.set_cons_succ]
        refine wpAnyH_take (i := 6) (oi := _) (v := ?_) rfl (by kernel_rfl) (by kernel_rfl) (by kernel_rfl) (fun _ _ _ h => h) (Or.inl ⟨by rfl, ?_⟩) (by assumption) ?_
        rotate_left 1
        · intro wq hSw; (try dsimp only at hSw); go_simp; try (with_reducible rfl)
        try simp only [Act.put, List.getElem_toArray, List.getElem_cons_succ, List.getElem_cons_zero, List.setIfInBounds_toArray, List.set_cons_zero, List.set_cons_succ]
        refine wpAnyH_take (i := 7) (oi := _) (v := ?_) rfl (by kernel_rfl) (by kernel_rfl) (by kernel_rfl) (fun _ _ _ h => h) (Or.inl ⟨by rfl, ?_⟩) (by assumption) ?_
        rotate_left 1
        · intro wq hSw; (try dsimp only at hSw); go_simp; try (with_reducible rfl)
        try simp only [Act.put, List.getElem_toArray, List.getElem_cons_succ, List.getElem_cons_zero, List.setIfInBounds_toArray, List.set_cons_zero, List.set_cons_succ]
        refine wpAnyH_take (i := 8) (oi := _) (v := ?_) rfl (by kernel_rfl) (by kernel_rfl) (by kernel_rfl) (fun _ _ _ h => h) (Or.inl ⟨by rfl, ?_⟩) (by assumption) ?_
        rotate_left 1
        · intro wq hSw; (try dsimp only at hSw); go_simp; try (with_reducible rfl)
        try simp only [Act.put, List.getElem_toArray, List.getElem_cons_succ, List.getElem_cons_zero, List.setIfInBounds_toArray, List.set_cons_zero, List.set_cons_succ]
        refine wpAnyH_take (i := 9) (oi := _) (v := ?_) rfl (by kernel_rfl) (by kernel_rfl) (by kernel_rfl) (fun _ _ _ h => h) (Or.inl ⟨by rfl, ?_⟩) (by assumption) ?_
        rotate_left 1
        · intro wq hSw; (try dsimp only at hSw); go_simp; try (with_reducible rfl)
        try simp only [Act.put, List.getElem_toArray, List.getElem_cons_succ, List.getElem_cons_zero, List.setIfInBounds_toArray, List.set_cons_zero, List.set_cons_succ]
        refine wpAnyH_ready (rs := [10]) (by kernel_rfl) (by simp) ?_
        refine AllReadyH.cons (o := _) rfl (fun K hK => ?_) AllReadyH.nil
        go_simp
        generalize hwN : World.alloc _ _ = y2; have Hy2 : Hid (Below w4.heap.size w4 y2) := (by unfold Hid; rw [← hwN]; exact ext_alloc (Below.refl _ _) _); have HL2 : Hid (y2.heap[w4.heap.size]? = some (.cells #[.int .i64 0, .int .i64 0, .pointer none] 73 (0, 0))) := (by unfold Hid; rw [← hwN]; exact heap_alloc_new _ _); clear hwN ks; have ks := HS.out y2 Hy2.out; obtain ⟨hl2, d0, d1, d2, df⟩ := cells3 HL2.out; try dsimp only
        refine hK.out _ _ ?_ (fun hHeld => ?_)
        · (try simp only [World.cell?_drew]); exact ks
        clear hK K
        try simp only [Act.put, List.getElem_toArray, List.getElem_cons_succ, List.getElem_cons_zero, List.setIfInBounds_toArray, List.set_cons_zero, List.set_cons_succ]
        refine wpAnyH_ready (rs := [11]) (by kernel_rfl) (by simp) ?_
        refine AllReadyH.cons (o := _) rfl (fun K hK => ?_) AllReadyH.nil
        go_simp
        generalize hwF : World.setCell (World.setCell (World.setCell _ _ _) _ _) _ _ = yF; have HL3 : Hid (yF.heap[w4.heap.size]? = some (.cells #[.int .i64 own.k, .int .i64 own.t.length, .pointer aoo] 73 (0, 0))) := (by unfold Hid; rw [← hwF]; exact (put3 HL2.out _ _ _).1); have HyF : Hid (Below w4.heap.size w4 yF) := (by unfold Hid; rw [← hwF]; exact below_put Hy2.out Hy2.out.size (put3 HL2.out _ _ _).2 (Nat.le_refl _)); clear hwF d0 d1 d2 df ks; have ks := HS.out yF HyF.out; try dsimp only
        refine hK.out _ _ ?_ (fun hHeld => ?_)
        · (try simp only [World.cell?_drew]); exact ks
        clear hK K
        try simp only [Act.put, List.getElem_toArray, List.getElem_cons_succ, List.getElem_cons_zero, List.setIfInBounds_toArray, List.set_cons_zero, List.set_cons_succ]
        refine wpAnyH_take (i := 12) (oi := _) (v := ?_) rfl (by kernel_rfl) (by kernel_rfl) (by kernel_rfl) (fun _ _ _ h => h) (Or.inl ⟨by rfl, ?_⟩) (by assumption) ?_
        rotate_left 1
        · intro wq hSw; (try dsimp only at hSw); go_simp; try (with_reducible rfl)
        try simp only [Act.put, List.getElem_toArray, List.getElem_cons_succ, List.getElem_cons_zero, List.setIfInBounds_toArray, List.set_cons_zero, List.set_cons_succ]
        refine wpAnyH_done (by kernel_rfl) ?_ _
        generalize hwD : World.drew yF = yD
        have HyD : Hid (Below w4.heap.size w4 yD) := by unfold Hid; rw [← hwD]; exact HyF.out.drew
        have HLD : Hid (yD.heap[w4.heap.size]? = yF.heap[w4.heap.size]?) := by unfold Hid; rw [← hwD]; rfl
        clear hwD
        go_upto_region 8 with (go_at_call 41; refine (GR.out _).mono ?_; rintro e y9 ⟨rfl, rfl⟩; (try dsimp only))
        have HK9 := hidIt ((HyD.out.block _ (Array.getElem?_eq_some_iff.1 HK4.out).1).trans HK4.out)
        obtain ⟨_, p0, p1, p2, _⟩ := cells3 HK9.out
        obtain ⟨_, q0, q1, q2, qf⟩ := cells3 (HZ.out yD (ext_trans HB14.out HyD.out))
        by_cases hbig : ((C.length : Nat) : Int) > 140000
        · have HW := hidIt (show wrtn m n r = none by unfold wrtn; rw [if_pos (.inr (by rw [HNX.out]; (try dsimp only at *); omega))])
          go_wp2_with fail
          refine bodyPost_ret (v := .tuple #[.agg #[.int .i64 0, .int .i64 0, .pointer none], .int .i64 3]) (by simp [results, Try.results54, go_sem, q0, q1, q2]) rfl ⟨by rw [HW.out], ?_⟩
          exact below_put (ext_trans HB1.out (ext_trans HB14.out HyD.out)) (by have := ((ext_trans HB14.out HyD.out)).size; omega) (put3 (HZ.out yD (ext_trans HB14.out HyD.out)) _ _ _).2 (by omega)
        · have HW := hidIt (show wrtn m n r = some ⟨r.k, C⟩ by unfold wrtn; rw [if_neg (by rw [HNX.out]; (try dsimp only at *); omega), HNX.out])
          go_wp2_with fail
          refine bodyPost_ret (v := .tuple #[.agg #[.int .i64 r.k, .int .i64 C.length, .pointer (some ⟨g1, 0, none⟩)], .int .i64 0]) (by simp [results, Try.results54, go_sem, q0, q1, q2]) rfl ⟨by rw [HW.out]; exact ⟨_, rfl, (((HG4.out.ext HyD.out)).other (put3 (HZ.out yD (ext_trans HB14.out HyD.out)) _ _ _).2 (.inl ((H1.out _).2 (.inr rfl)))).weak (fun q h => (H1.out q).2 (.inl h))⟩, ?_⟩
          exact below_put (ext_trans HB1.out (ext_trans HB14.out HyD.out)) (by have := ((ext_trans HB14.out HyD.out)).size; omega) (put3 (HZ.out yD (ext_trans HB14.out HyD.out)) _ _ _).2 (by omega)
      · skip
        go_simp
        generalize hwN : World.alloc _ _ = y2; have Hy2 : Hid (Below w4.heap.size w4 y2) := (by unfold Hid; rw [← hwN]; exact ext_alloc (Below.refl _ _) _); have HL2 : Hid (y2.heap[w4.heap.size]? = some (.cells #[.int .i64 0, .int .i64 0, .pointer none] 73 (0, 0))) := (by unfold Hid; rw [← hwN]; exact heap_alloc_new _ _); clear hwN ks; have ks := HS.out y2 Hy2.out; obtain ⟨hl2, d0, d1, d2, df⟩ := cells3 HL2.out; try dsimp only
        refine hK.out _ _ ?_ (fun hHeld => ?_)
        · (try simp only [World.cell?_drew]); exact ks
        clear hK K
        try simp only [Act.put, List.getElem_toArray, List.getElem_cons_succ, List.getElem_cons_zero, List.setIfInBounds_toArray, List.set_cons_zero, List.set_cons_succ]
        refine wpAnyH_ready (rs := [5]) (by kernel_rfl) (by simp) ?_
        refine AllReadyH.cons (o := _) rfl (fun K hK => ?_) AllReadyH.nil
        go_simp
        refine (SMA.out _).mono ?_; rintro e y9 ⟨rfl, rfl⟩; try dsimp only
        refine hK.out _ _ ?_ (fun hHeld => ?_)
        · (try simp only [World.cell?_drew]); exact ks
        clear hK K
        try simp only [Act.put, List.getElem_toArray, List.getElem_cons_succ, List.getElem_cons_zero, List.setIfInBounds_toArray, List.set_cons_zero, List.set_cons_succ]
        refine wpAnyH_take (i := 6) (oi := _) (v := ?_) rfl (by kernel_rfl) (by kernel_rfl) (by kernel_rfl) (fun _ _ _ h => h) (Or.inl ⟨by rfl, ?_⟩) (by assumption) ?_
        rotate_left 1
        · intro wq hSw; (try dsimp only at hSw); go_simp; try (with_reducible rfl)
        try simp only [Act.put, List.getElem_toArray, List.getElem_cons_succ, List.getElem_cons_zero, List.setIfInBounds_toArray, List.set_cons_zero, List.set_cons_succ]
        refine wpAnyH_take (i := 7) (oi := _) (v := ?_) rfl (by kernel_rfl) (by kernel_rfl) (by kernel_rfl) (fun _ _ _ h => h) (Or.inl ⟨by rfl, ?_⟩) (by assumption) ?_
        rotate_left 1
        · intro wq hSw; (try dsimp only at hSw); go_simp; try (with_reducible rfl)
        try simp only [Act.put, List.getElem_toArray, List.getElem_cons_succ, List.getElem_cons_zero, List.setIfInBounds_toArray, List.set_cons_zero, List.set_cons_succ]
        refine wpAnyH_take (i := 8) (oi := _) (v := ?_) rfl (by kernel_rfl) (by kernel_rfl) (by kernel_rfl) (fun _ _ _ h => h) (Or.inl ⟨by rfl, ?_⟩) (by assumption) ?_
        rotate_left 1
        · intro wq hSw; (try dsimp only at hSw); go_simp; try (with_reducible rfl)
        try simp only [Act.put, List.getElem_toArray, List.getElem_cons_succ, List.getElem_cons_zero, List.setIfInBounds_toArray, List.set_cons_zero, List.set_cons_succ]
        refine wpAnyH_take (i := 9) (oi := _) (v := ?_) rfl (by kernel_rfl) (by kernel_rfl) (by kernel_rfl) (fun _ _ _ h => h) (Or.inl ⟨by rfl, ?_⟩) (by assumption) ?_
        rotate_left 1
        · intro wq hSw; (try dsimp only at hSw); go_simp; try (with_reducible rfl)
        try simp only [Act.put, List.getElem_toArray, List.getElem_cons_succ, List.getElem_cons_zero, List.setIfInBounds_toArray, List.set_cons_zero, List.set_cons_succ]
        refine wpAnyH_ready (rs := [11]) (by kernel_rfl) (by simp) ?_
        refine AllReadyH.cons (o := _) rfl (fun K hK => ?_) AllReadyH.nil
        go_simp
        generalize hwF : World.setCell (World.setCell (World.setCell _ _ _) _ _) _ _ = yF; have HL3 : Hid (yF.heap[w4.heap.size]? = some (.cells #[.int .i64 own.k, .int .i64 own.t.length, .pointer aoo] 73 (0, 0))) := (by unfold Hid; rw [← hwF]; exact (put3 HL2.out _ _ _).1); have HyF : Hid (Below w4.heap.size w4 yF) := (by unfold Hid; rw [← hwF]; exact below_put Hy2.out Hy2.out.size (put3 HL2.out _ _ _).2 (Nat.le_refl _)); clear hwF d0 d1 d2 df ks; have ks := HS.out yF HyF.out; try dsimp only
        refine hK.out _ _ ?_ (fun hHeld => ?_)
        · (try simp only [World.cell?_drew]); exact ks
        clear hK K
        try simp only [Act.put, List.getElem_toArray, List.getElem_cons_succ, List.getElem_cons_zero, List.setIfInBounds_toArray, List.set_cons_zero, List.set_cons_succ]
        refine wpAnyH_take (i := 12) (oi := _) (v := ?_) rfl (by kernel_rfl) (by kernel_rfl) (by kernel_rfl) (fun _ _ _ h => h) (Or.inl ⟨by rfl, ?_⟩) (by assumption) ?_
        rotate_left 1
        · intro wq hSw; (try dsimp only at hSw); go_simp; try (with_reducible rfl)
        try simp only [Act.put, List.getElem_toArray, List.getElem_cons_succ, List.getElem_cons_zero, List.setIfInBounds_toArray, List.set_cons_zero, List.set_cons_succ]
        refine wpAnyH_done (by kernel_rfl) ?_ _
        generalize hwD : World.drew yF = yD
        have HyD : Hid (Below w4.heap.size w4 yD) := by unfold Hid; rw [← hwD]; exact HyF.out.drew
        have HLD : Hid (yD.heap[w4.heap.size]? = yF.heap[w4.heap.size]?) := by unfold Hid; rw [← hwD]; rfl
        clear hwD
        go_upto_region 8 with (go_at_call 41; refine (GR.out _).mono ?_; rintro e y9 ⟨rfl, rfl⟩; (try dsimp only))
        have HK9 := hidIt ((HyD.out.block _ (Array.getElem?_eq_some_iff.1 HK4.out).1).trans HK4.out)
        obtain ⟨_, p0, p1, p2, _⟩ := cells3 HK9.out
        obtain ⟨_, q0, q1, q2, qf⟩ := cells3 (HZ.out yD (ext_trans HB14.out HyD.out))
        by_cases hbig : ((C.length : Nat) : Int) > 140000
        · have HW := hidIt (show wrtn m n r = none by unfold wrtn; rw [if_pos (.inr (by rw [HNX.out]; (try dsimp only at *); omega))])
          go_wp2_with fail
          refine bodyPost_ret (v := .tuple #[.agg #[.int .i64 0, .int .i64 0, .pointer none], .int .i64 3]) (by simp [results, Try.results54, go_sem, q0, q1, q2]) rfl ⟨by rw [HW.out], ?_⟩
          exact below_put (ext_trans HB1.out (ext_trans HB14.out HyD.out)) (by have := ((ext_trans HB14.out HyD.out)).size; omega) (put3 (HZ.out yD (ext_trans HB14.out HyD.out)) _ _ _).2 (by omega)
        · have HW := hidIt (show wrtn m n r = some ⟨r.k, C⟩ by unfold wrtn; rw [if_neg (by rw [HNX.out]; (try dsimp only at *); omega), HNX.out])
          go_wp2_with fail
          refine bodyPost_ret (v := .tuple #[.agg #[.int .i64 r.k, .int .i64 C.length, .pointer (some ⟨g1, 0, none⟩)], .int .i64 0]) (by simp [results, Try.results54, go_sem, q0, q1, q2]) rfl ⟨by rw [HW.out]; exact ⟨_, rfl, (((HG4.out.ext HyD.out)).other (put3 (HZ.out yD (ext_trans HB14.out HyD.out)) _ _ _).2 (.inl ((H1.out _).2 (.inr rfl)))).weak (fun q h => (H1.out q).2 (.inl h))⟩, ?_⟩
          exact below_put (ext_trans HB1.out (ext_trans HB14.out HyD.out)) (by have := ((ext_trans HB14.out HyD.out)).size; omega) (put3 (HZ.out yD (ext_trans HB14.out HyD.out)) _ _ _).2 (by omega)

    · obtain ⟨AP0, hAP0⟩ : ∃ x, x = apd own ⟨r.k, C⟩ := ⟨_, rfl⟩
      have HAP0 := hidIt hAP0
      have HNX := hidIt (show nxt m n r = AP0 by unfold nxt; rw [hm, hg, hAP0, HC.out]; rfl)
      rw [hg] at GR
      clear hm HLK HSH hg hAP0
      refine wp_region_held_drew (S := fun w'' => w''.cell? ⟨b, 0, none⟩ = some (.map (some bm)) ∧ w''.heap[bm]? = w.heap[bm]?) (by kernel_rfl) (ks) (fun hHeld => ?_)
      refine wpAnyH_take (i := 0) (oi := _) (v := ?_) rfl (by kernel_rfl) (by kernel_rfl) (by kernel_rfl) (fun _ _ _ h => h) (Or.inl ⟨by rfl, ?_⟩) (by assumption) ?_
      rotate_left 1
      · intro wq hSw; (try dsimp only at hSw); go_simp; try (with_reducible rfl)
      try simp only [Act.put, List.getElem_toArray, List.getElem_cons_zero, List.setIfInBounds_toArray, List.set_cons_zero, List.set_cons_succ]
      refine wpAnyH_take (i := 1) (oi := _) (v := ?_) rfl (by kernel_rfl) (by kernel_rfl) (by kernel_rfl) (fun _ _ _ h => h) (Or.inl ⟨by rfl, ?_⟩) (by assumption) ?_
      rotate_left 1
      · intro wq hSw; (try dsimp only at hSw); go_simp; try (with_reducible rfl)
      try simp only [Act.put, List.getElem_toArray, List.getElem_cons_succ, List.getElem_cons_zero, List.setIfInBounds_toArray, List.set_cons_zero, List.set_cons_succ]
      refine wpAnyH_take (i := 2) (oi := _) (v := ?_) rfl (by kernel_rfl) (by kernel_rfl) (by kernel_rfl) (fun _ _ _ h => h) (Or.inl ⟨by rfl, ?_⟩) (by assumption) ?_
      rotate_left 1
      · intro wq hSw; (try dsimp only at hSw); go_simp; try (with_reducible rfl)
      try simp only [Act.put, List.getElem_toArray, List.getElem_cons_succ, List.getElem_cons_zero, List.setIfInBounds_toArray, List.set_cons_zero, List.set_cons_succ]
      refine wpAnyH_take (i := 3) (oi := _) (v := ?_) rfl (by kernel_rfl) (by kernel_rfl) (by kernel_rfl) (fun _ _ _ h => h) (Or.inl ⟨by rfl, ?_⟩) (by assumption) ?_
      rotate_left 1
      · intro wq hSw; (try dsimp only at hSw); go_simp; try (with_reducible rfl)
      try simp only [Act.put, List.getElem_toArray, List.getElem_cons_succ, List.getElem_cons_zero, List.setIfInBounds_toArray, List.set_cons_zero, List.set_cons_succ]
      refine wpAnyH_take (i := 4) (oi := _) (v := ?_) rfl (by kernel_rfl) (by kernel_rfl) (by kernel_rfl) (fun _ _ _ h => h) (Or.inl ⟨by rfl, ?_⟩) (by assumption) ?_
      rotate_left 1
      · intro wq hSw; (try dsimp only at hSw); go_simp; try (with_reducible rfl)
      try simp only [Act.put, List.getElem_toArray, List.getElem_cons_succ, List.getElem_cons_zero, List.setIfInBounds_toArray, List.set_cons_zero, List.set_cons_succ]
      refine wpAnyH_ready (rs := [5, 10]) (by kernel_rfl) (by simp) ?_
      refine (AllReadyH.cons (o := _) rfl (fun K hK => ?_) (AllReadyH.cons (o := _) rfl (fun K hK => ?_) AllReadyH.nil))
      · skip
        go_simp
        refine (SMA.out _).mono ?_; rintro e y9 ⟨rfl, rfl⟩; try dsimp only
        refine hK.out _ _ ?_ (fun hHeld => ?_)
        · (try simp only [World.cell?_drew]); exact ks
        clear hK K
        try simp only [Act.put, List.getElem_toArray, List.getElem_cons_succ, List.getElem_cons_zero, List.setIfInBounds_toArray, List.set_cons_zero, List.set_cons_succ]
        refine wpAnyH_take (i := 6) (oi := _) (v := ?_) rfl (by kernel_rfl) (by kernel_rfl) (by kernel_rfl) (fun _ _ _ h => h) (Or.inl ⟨by rfl, ?_⟩) (by assumption) ?_
        rotate_left 1
        · intro wq hSw; (try dsimp only at hSw); go_simp; try (with_reducible rfl)
        try simp only [Act.put, List.getElem_toArray, List.getElem_cons_succ, List.getElem_cons_zero, List.setIfInBounds_toArray, List.set_cons_zero, List.set_cons_succ]
        refine wpAnyH_take (i := 7) (oi := _) (v := ?_) rfl (by kernel_rfl) (by kernel_rfl) (by kernel_rfl) (fun _ _ _ h => h) (Or.inl ⟨by rfl, ?_⟩) (by assumption) ?_
        rotate_left 1
        · intro wq hSw; (try dsimp only at hSw); go_simp; try (with_reducible rfl)
        try simp only [Act.put, List.getElem_toArray, List.getElem_cons_succ, List.getElem_cons_zero, List.setIfInBounds_toArray, List.set_cons_zero, List.set_cons_succ]
        refine wpAnyH_take (i := 8) (oi := _) (v := ?_) rfl (by kernel_rfl) (by kernel_rfl) (by kernel_rfl) (fun _ _ _ h => h) (Or.inl ⟨by rfl, ?_⟩) (by assumption) ?_
        rotate_left 1
        · intro wq hSw; (try dsimp only at hSw); go_simp; try (with_reducible rfl)
        try simp only [Act.put, List.getElem_toArray, List.getElem_cons_succ, List.getElem_cons_zero, List.setIfInBounds_toArray, List.set_cons_zero, List.set_cons_succ]
        refine wpAnyH_take (i := 9) (oi := _) (v := ?_) rfl (by kernel_rfl) (by kernel_rfl) (by kernel_rfl) (fun _ _ _ h => h) (Or.inl ⟨by rfl, ?_⟩) (by assumption) ?_
        rotate_left 1
        · intro wq hSw; (try dsimp only at hSw); go_simp; try (with_reducible rfl)
        try simp only [Act.put, List.getElem_toArray, List.getElem_cons_succ, List.getElem_cons_zero, List.setIfInBounds_toArray, List.set_cons_zero, List.set_cons_succ]
        refine wpAnyH_ready (rs := [10]) (by kernel_rfl) (by simp) ?_
        refine AllReadyH.cons (o := _) rfl (fun K hK => ?_) AllReadyH.nil
        go_simp
        generalize hwN : World.alloc _ _ = y2; have Hy2 : Hid (Below w4.heap.size w4 y2) := (by unfold Hid; rw [← hwN]; exact ext_alloc (Below.refl _ _) _); have HL2 : Hid (y2.heap[w4.heap.size]? = some (.cells #[.int .i64 0, .int .i64 0, .pointer none] 73 (0, 0))) := (by unfold Hid; rw [← hwN]; exact heap_alloc_new _ _); clear hwN ks; have ks := HS.out y2 Hy2.out; obtain ⟨hl2, d0, d1, d2, df⟩ := cells3 HL2.out; try dsimp only
        refine hK.out _ _ ?_ (fun hHeld => ?_)
        · (try simp only [World.cell?_drew]); exact ks
        clear hK K
        try simp only [Act.put, List.getElem_toArray, List.getElem_cons_succ, List.getElem_cons_zero, List.setIfInBounds_toArray, List.set_cons_zero, List.set_cons_succ]
        refine wpAnyH_ready (rs := [11]) (by kernel_rfl) (by simp) ?_
        refine AllReadyH.cons (o := _) rfl (fun K hK => ?_) AllReadyH.nil
        go_simp
        generalize hwF : World.setCell (World.setCell (World.setCell _ _ _) _ _) _ _ = yF; have HL3 : Hid (yF.heap[w4.heap.size]? = some (.cells #[.int .i64 own.k, .int .i64 own.t.length, .pointer aoo] 73 (0, 0))) := (by unfold Hid; rw [← hwF]; exact (put3 HL2.out _ _ _).1); have HyF : Hid (Below w4.heap.size w4 yF) := (by unfold Hid; rw [← hwF]; exact below_put Hy2.out Hy2.out.size (put3 HL2.out _ _ _).2 (Nat.le_refl _)); clear hwF d0 d1 d2 df ks; have ks := HS.out yF HyF.out; try dsimp only
        refine hK.out _ _ ?_ (fun hHeld => ?_)
        · (try simp only [World.cell?_drew]); exact ks
        clear hK K
        try simp only [Act.put, List.getElem_toArray, List.getElem_cons_succ, List.getElem_cons_zero, List.setIfInBounds_toArray, List.set_cons_zero, List.set_cons_succ]
        refine wpAnyH_take (i := 12) (oi := _) (v := ?_) rfl (by kernel_rfl) (by kernel_rfl) (by kernel_rfl) (fun _ _ _ h => h) (Or.inl ⟨by rfl, ?_⟩) (by assumption) ?_
        rotate_left 1
        · intro wq hSw; (try dsimp only at hSw); go_simp; try (with_reducible rfl)
        try simp only [Act.put, List.getElem_toArray, List.getElem_cons_succ, List.getElem_cons_zero, List.setIfInBounds_toArray, List.set_cons_zero, List.set_cons_succ]
        refine wpAnyH_done (by kernel_rfl) ?_ _
        generalize hwD : World.drew yF = yD
        have HyD : Hid (Below w4.heap.size w4 yD) := by unfold Hid; rw [← hwD]; exact HyF.out.drew
        have HLD : Hid (yD.heap[w4.heap.size]? = yF.heap[w4.heap.size]?) := by unfold Hid; rw [← hwD]; rfl
        clear hwD
        have HK9 := hidIt ((HyD.out.block _ (Array.getElem?_eq_some_iff.1 HK4.out).1).trans HK4.out)
        have HK8 := hidIt ((HyD.out.block _ (Array.getElem?_eq_some_iff.1 HK5.out).1).trans HK5.out)
        obtain ⟨_, p0, p1, pf⟩ := cells2 HK8.out
        obtain ⟨_, l0, l1, l2, _⟩ := cells3 (HLD.out.trans HL3.out)
        obtain ⟨_, z0, z1, z2, zf⟩ := cells3 HK9.out
        obtain ⟨F2, hF2⟩ : ∃ F2 : Nat → Prop, F2 = fun q => F1 q ∨ q = y1.heap.size := ⟨_, rfl⟩
        have H2 : Hid (∀ q, F2 q ↔ (F1 q ∨ q = y1.heap.size)) := by unfold Hid; rw [hF2]; exact fun q => Iff.rfl
        clear hF2
        have AP : Hid (Calls Try.prog 71 #[.agg #[.int .i64 own.k, .int .i64 own.t.length, .pointer aoo], .agg #[.int .i64 r.k, .slice ao1 n1 cc1]] yD fun e w' => ∃ g, e = .returned (.agg #[.int .i64 AP0.k, .int .i64 AP0.t.length, .pointer (some ⟨g, 0, none⟩)]) ∧ Hg F2 w' (.pointer (some ⟨g, 0, none⟩)) AP0.t ∧ Below yD.heap.size yD w') := by
          rw [HAP0.out]
          refine appended_any yD own.k r.k _ _ own.t C ?_ ((HRC.out.ext HB24.out).ext HyD.out) ?_ ?_ HON.out.1 HCN.out (by have := HON.out.2.1; omega) (by have := HCL.out; omega) HON.out.2.2 HRK.out
          · refine (HUO.out.avoid (ext_trans HB1.out (ext_trans HB14.out HyD.out)) (fun q hq => ?_))
            rcases (H2.out q).1 hq with h | h
            · rcases (H1.out q).1 h with h | h
              · exact .inl h
              · exact .inr (by omega)
            · exact .inr (by have := HB1.out.size; have := HB1y.out.size; omega)
          · intro q hq
            rcases (H2.out q).1 hq with h | h
            · exact HOC.out q h
            · intro g off n' c' e
              have := (HRC.out.notmap HCN.out e).1
              have := HB2y.out.size
              omega
          · intro q hq
            rcases (H2.out q).1 hq with h | h
            · have := H1L.out q h; have := HB14.out.size; have := HyD.out.size; omega
            · have := (Array.getElem?_eq_some_iff.1 HK9.out).1; omega
        go_upto_region 8 with (first | (go_at_call 41; refine (GR.out _).mono ?_; rintro e y9 ⟨rfl, rfl⟩; (try dsimp only)) | (go_at_call 71; refine AP.out.mono ?_; rintro e y4 ⟨g4, rfl, hg4, hb4⟩; have HG9 := hidIt hg4; have HB4 := hidIt hb4; clear hg4 hb4; have e9 := (HB4.out.block _ (Array.getElem?_eq_some_iff.1 HK9.out).1).trans HK9.out; clear p0 p1 pf l0 l1 l2 z0 z1 z2 zf; obtain ⟨_, z0, z1, z2, zf⟩ := cells3 e9; have E9 := hidIt e9; clear e9; (try dsimp only)))
        clear z0 z1 z2 zf
        generalize hwG : World.setCell (World.setCell (World.setCell _ _ _) _ _) _ _ = yG
        have HK7 : Hid (yG.heap[y1.heap.size]? = some (.cells #[.int .i64 AP0.k, .int .i64 AP0.t.length, .pointer (some ⟨g4, 0, none⟩)] 73 (0, 0))) := by unfold Hid; rw [← hwG]; exact (put3 E9.out _ _ _).1
        have HG7 : Hid (y4.grownBy yG (some y1.heap.size)) := by unfold Hid; rw [← hwG]; exact (put3 E9.out _ _ _).2
        clear hwG
        have HBG := hidIt (below_put (ext_trans (ext_trans HB14.out HyD.out) HB4.out) (ext_trans (ext_trans HB14.out HyD.out) HB4.out).size HG7.out (by have := HB1y.out.size; omega))
        have HGG : Hid (Hg F1 yG (.pointer (some ⟨g4, 0, none⟩)) AP0.t) := (HG9.out.other HG7.out (.inl ((H2.out _).2 (.inr rfl)))).weak (fun q h => (H2.out q).2 (.inl h))
        obtain ⟨_, p0, p1, p2, _⟩ := cells3 HK7.out
        obtain ⟨_, q0, q1, q2, qf⟩ := cells3 (HZ.out yG HBG.out)
        by_cases hbig : ((AP0.t.length : Nat) : Int) > 140000
        · have HW := hidIt (show wrtn m n r = none by unfold wrtn; rw [if_pos (.inr (by rw [HNX.out]; (try dsimp only at *); omega))])
          go_wp2_with fail
          refine bodyPost_ret (v := .tuple #[.agg #[.int .i64 0, .int .i64 0, .pointer none], .int .i64 3]) (by simp [results, Try.results54, go_sem, q0, q1, q2]) rfl ⟨by rw [HW.out], ?_⟩
          exact below_put (ext_trans HB1.out HBG.out) (by have := (HBG.out).size; omega) (put3 (HZ.out yG HBG.out) _ _ _).2 (by omega)
        · have HW := hidIt (show wrtn m n r = some ⟨AP0.k, AP0.t⟩ by unfold wrtn; rw [if_neg (by rw [HNX.out]; (try dsimp only at *); omega), HNX.out])
          go_wp2_with fail
          refine bodyPost_ret (v := .tuple #[.agg #[.int .i64 AP0.k, .int .i64 AP0.t.length, .pointer (some ⟨g4, 0, none⟩)], .int .i64 0]) (by simp [results, Try.results54, go_sem, q0, q1, q2]) rfl ⟨by rw [HW.out]; exact ⟨_, rfl, ((HGG.out).other (put3 (HZ.out yG HBG.out) _ _ _).2 (.inl ((H1.out _).2 (.inr rfl)))).weak (fun q h => (H1.out q).2 (.inl h))⟩, ?_⟩
          exact below_put (ext_trans HB1.out HBG.out) (by have := (HBG.out).size; omega) (put3 (HZ.out yG HBG.out) _ _ _).2 (by omega)
      · skip
        go_simp
        generalize hwN : World.alloc _ _ = y2; have Hy2 : Hid (Below w4.heap.size w4 y2) := (by unfold Hid; rw [← hwN]; exact ext_alloc (Below.refl _ _) _); have HL2 : Hid (y2.heap[w4.heap.size]? = some (.cells #[.int .i64 0, .int .i64 0, .pointer none] 73 (0, 0))) := (by unfold Hid; rw [← hwN]; exact heap_alloc_new _ _); clear hwN ks; have ks := HS.out y2 Hy2.out; obtain ⟨hl2, d0, d1, d2, df⟩ := cells3 HL2.out; try dsimp only
        refine hK.out _ _ ?_ (fun hHeld => ?_)
        · (try simp only [World.cell?_drew]); exact ks
        clear hK K
        try simp only [Act.put, List.getElem_toArray, List.getElem_cons_succ, List.getElem_cons_zero, List.setIfInBounds_toArray, List.set_cons_zero, List.set_cons_succ]
        refine wpAnyH_ready (rs := [5]) (by kernel_rfl) (by simp) ?_
        refine AllReadyH.cons (o := _) rfl (fun K hK => ?_) AllReadyH.nil
        go_simp
        refine (SMA.out _).mono ?_; rintro e y9 ⟨rfl, rfl⟩; try dsimp only
        refine hK.out _ _ ?_ (fun hHeld => ?_)
        · (try simp only [World.cell?_drew]); exact ks
        clear hK K
        try simp only [Act.put, List.getElem_toArray, List.getElem_cons_succ, List.getElem_cons_zero, List.setIfInBounds_toArray, List.set_cons_zero, List.set_cons_succ]
        refine wpAnyH_take (i := 6) (oi := _) (v := ?_) rfl (by kernel_rfl) (by kernel_rfl) (by kernel_rfl) (fun _ _ _ h => h) (Or.inl ⟨by rfl, ?_⟩) (by assumption) ?_
        rotate_left 1
        · intro wq hSw; (try dsimp only at hSw); go_simp; try (with_reducible rfl)
        try simp only [Act.put, List.getElem_toArray, List.getElem_cons_succ, List.getElem_cons_zero, List.setIfInBounds_toArray, List.set_cons_zero, List.set_cons_succ]
        refine wpAnyH_take (i := 7) (oi := _) (v := ?_) rfl (by kernel_rfl) (by kernel_rfl) (by kernel_rfl) (fun _ _ _ h => h) (Or.inl ⟨by rfl, ?_⟩) (by assumption) ?_
        rotate_left 1
        · intro wq hSw; (try dsimp only at hSw); go_simp; try (with_reducible rfl)
        try simp only [Act.put, List.getElem_toArray, List.getElem_cons_succ, List.getElem_cons_zero, List.setIfInBounds_toArray, List.set_cons_zero, List.set_cons_succ]
        refine wpAnyH_take (i := 8) (oi := _) (v := ?_) rfl (by kernel_rfl) (by kernel_rfl) (by kernel_rfl) (fun _ _ _ h => h) (Or.inl ⟨by rfl, ?_⟩) (by assumption) ?_
        rotate_left 1
        · intro wq hSw; (try dsimp only at hSw); go_simp; try (with_reducible rfl)
        try simp only [Act.put, List.getElem_toArray, List.getElem_cons_succ, List.getElem_cons_zero, List.setIfInBounds_toArray, List.set_cons_zero, List.set_cons_succ]
        refine wpAnyH_take (i := 9) (oi := _) (v := ?_) rfl (by kernel_rfl) (by kernel_rfl) (by kernel_rfl) (fun _ _ _ h => h) (Or.inl ⟨by rfl, ?_⟩) (by assumption) ?_
        rotate_left 1
        · intro wq hSw; (try dsimp only at hSw); go_simp; try (with_reducible rfl)
        try simp only [Act.put, List.getElem_toArray, List.getElem_cons_succ, List.getElem_cons_zero, List.setIfInBounds_toArray, List.set_cons_zero, List.set_cons_succ]
        refine wpAnyH_ready (rs := [11]) (by kernel_rfl) (by simp) ?_
        refine AllReadyH.cons (o := _) rfl (fun K hK => ?_) AllReadyH.nil
        go_simp
        generalize hwF : World.setCell (World.setCell (World.setCell _ _ _) _ _) _ _ = yF; have HL3 : Hid (yF.heap[w4.heap.size]? = some (.cells #[.int .i64 own.k, .int .i64 own.t.length, .pointer aoo] 73 (0, 0))) := (by unfold Hid; rw [← hwF]; exact (put3 HL2.out _ _ _).1); have HyF : Hid (Below w4.heap.size w4 yF) := (by unfold Hid; rw [← hwF]; exact below_put Hy2.out Hy2.out.size (put3 HL2.out _ _ _).2 (Nat.le_refl _)); clear hwF d0 d1 d2 df ks; have ks := HS.out yF HyF.out; try dsimp only
        refine hK.out _ _ ?_ (fun hHeld => ?_)
        · (try simp only [World.cell?_drew]); exact ks
        clear hK K
        try simp only [Act.put, List.getElem_toArray, List.getElem_cons_succ, List.getElem_cons_zero, List.setIfInBounds_toArray, List.set_cons_zero, List.set_cons_succ]
        refine wpAnyH_take (i := 12) (oi := _) (v := ?_) rfl (by kernel_rfl) (by kernel_rfl) (by kernel_rfl) (fun _ _ _ h => h) (Or.inl ⟨by rfl, ?_⟩) (by assumption) ?_
        rotate_left 1
        · intro wq hSw; (try dsimp only at hSw); go_simp; try (with_reducible rfl)
        try simp only [Act.put, List.getElem_toArray, List.getElem_cons_succ, List.getElem_cons_zero, List.setIfInBounds_toArray, List.set_cons_zero, List.set_cons_succ]
        refine wpAnyH_done (by kernel_rfl) ?_ _
        generalize hwD : World.drew yF = yD
        have HyD : Hid (Below w4.heap.size w4 yD) := by unfold Hid; rw [← hwD]; exact HyF.out.drew
        have HLD : Hid (yD.heap[w4.heap.size]? = yF.heap[w4.heap.size]?) := by unfold Hid; rw [← hwD]; rfl
        clear hwD
        have HK9 := hidIt ((HyD.out.block _ (Array.getElem?_eq_some_iff.1 HK4.out).1).trans HK4.out)
        have HK8 := hidIt ((HyD.out.block _ (Array.getElem?_eq_some_iff.1 HK5.out).1).trans HK5.out)
        obtain ⟨_, p0, p1, pf⟩ := cells2 HK8.out
        obtain ⟨_, l0, l1, l2, _⟩ := cells3 (HLD.out.trans HL3.out)
        obtain ⟨_, z0, z1, z2, zf⟩ := cells3 HK9.out
        obtain ⟨F2, hF2⟩ : ∃ F2 : Nat → Prop, F2 = fun q => F1 q ∨ q = y1.heap.size := ⟨_, rfl⟩
        have H2 : Hid (∀ q, F2 q ↔ (F1 q ∨ q = y1.heap.size)) := by unfold Hid; rw [hF2]; exact fun q => Iff.rfl
        clear hF2
        have AP : Hid (Calls Try.prog 71 #[.agg #[.int .i64 own.k, .int .i64 own.t.length, .pointer aoo], .agg #[.int .i64 r.k, .slice ao1 n1 cc1]] yD fun e w' => ∃ g, e = .returned (.agg #[.int .i64 AP0.k, .int .i64 AP0.t.length, .pointer (some ⟨g, 0, none⟩)]) ∧ Hg F2 w' (.pointer (some ⟨g, 0, none⟩)) AP0.t ∧ Below yD.heap.size yD w') := by
          rw [HAP0.out]
          refine appended_any yD own.k r.k _ _ own.t C ?_ ((HRC.out.ext HB24.out).ext HyD.out) ?_ ?_ HON.out.1 HCN.out (by have := HON.out.2.1; omega) (by have := HCL.out; omega) HON.out.2.2 HRK.out
          · refine (HUO.out.avoid (ext_trans HB1.out (ext_trans HB14.out HyD.out)) (fun q hq => ?_))
            rcases (H2.out q).1 hq with h | h
            · rcases (H1.out q).1 h with h | h
              · exact .inl h
              · exact .inr (by omega)
            · exact .inr (by have := HB1.out.size; have := HB1y.out.size; omega)
          · intro q hq
            rcases (H2.out q).1 hq with h | h
            · exact HOC.out q h
            · intro g off n' c' e
              have := (HRC.out.notmap HCN.out e).1
              have := HB2y.out.size
              omega
          · intro q hq
            rcases (H2.out q).1 hq with h | h
            · have := H1L.out q h; have := HB14.out.size; have := HyD.out.size; omega
            · have := (Array.getElem?_eq_some_iff.1 HK9.out).1; omega
        go_upto_region 8 with (first | (go_at_call 41; refine (GR.out _).mono ?_; rintro e y9 ⟨rfl, rfl⟩; (try dsimp only)) | (go_at_call 71; refine AP.out.mono ?_; rintro e y4 ⟨g4, rfl, hg4, hb4⟩; have HG9 := hidIt hg4; have HB4 := hidIt hb4; clear hg4 hb4; have e9 := (HB4.out.block _ (Array.getElem?_eq_some_iff.1 HK9.out).1).trans HK9.out; clear p0 p1 pf l0 l1 l2 z0 z1 z2 zf; obtain ⟨_, z0, z1, z2, zf⟩ := cells3 e9; have E9 := hidIt e9; clear e9; (try dsimp only)))
        clear z0 z1 z2 zf
        generalize hwG : World.setCell (World.setCell (World.setCell _ _ _) _ _) _ _ = yG
        have HK7 : Hid (yG.heap[y1.heap.size]? = some (.cells #[.int .i64 AP0.k, .int .i64 AP0.t.length, .pointer (some ⟨g4, 0, none⟩)] 73 (0, 0))) := by unfold Hid; rw [← hwG]; exact (put3 E9.out _ _ _).1
        have HG7 : Hid (y4.grownBy yG (some y1.heap.size)) := by unfold Hid; rw [← hwG]; exact (put3 E9.out _ _ _).2
        clear hwG
        have HBG := hidIt (below_put (ext_trans (ext_trans HB14.out HyD.out) HB4.out) (ext_trans (ext_trans HB14.out HyD.out) HB4.out).size HG7.out (by have := HB1y.out.size; omega))
        have HGG : Hid (Hg F1 yG (.pointer (some ⟨g4, 0, none⟩)) AP0.t) := (HG9.out.other HG7.out (.inl ((H2.out _).2 (.inr rfl)))).weak (fun q h => (H2.out q).2 (.inl h))
        obtain ⟨_, p0, p1, p2, _⟩ := cells3 HK7.out
        obtain ⟨_, q0, q1, q2, qf⟩ := cells3 (HZ.out yG HBG.out)
        by_cases hbig : ((AP0.t.length : Nat) : Int) > 140000
        · have HW := hidIt (show wrtn m n r = none by unfold wrtn; rw [if_pos (.inr (by rw [HNX.out]; (try dsimp only at *); omega))])
          go_wp2_with fail
          refine bodyPost_ret (v := .tuple #[.agg #[.int .i64 0, .int .i64 0, .pointer none], .int .i64 3]) (by simp [results, Try.results54, go_sem, q0, q1, q2]) rfl ⟨by rw [HW.out], ?_⟩
          exact below_put (ext_trans HB1.out HBG.out) (by have := (HBG.out).size; omega) (put3 (HZ.out yG HBG.out) _ _ _).2 (by omega)
        · have HW := hidIt (show wrtn m n r = some ⟨AP0.k, AP0.t⟩ by unfold wrtn; rw [if_neg (by rw [HNX.out]; (try dsimp only at *); omega), HNX.out])
          go_wp2_with fail
          refine bodyPost_ret (v := .tuple #[.agg #[.int .i64 AP0.k, .int .i64 AP0.t.length, .pointer (some ⟨g4, 0, none⟩)], .int .i64 0]) (by simp [results, Try.results54, go_sem, q0, q1, q2]) rfl ⟨by rw [HW.out]; exact ⟨_, rfl, ((HGG.out).other (put3 (HZ.out yG HBG.out) _ _ _).2 (.inl ((H1.out _).2 (.inr rfl)))).weak (fun q h => (H1.out q).2 (.inl h))⟩, ?_⟩
          exact below_put (ext_trans HB1.out HBG.out) (by have := (HBG.out).size; omega) (put3 (HZ.out yG HBG.out) _ _ _).2 (by omega)

end Go.Proofs.Ytmldfjhfgaggpaa
