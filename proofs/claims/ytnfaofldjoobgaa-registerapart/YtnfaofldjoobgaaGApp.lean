/- register's lastBreak, appended. -/
import Derived.Test.YtnfaofldjoobgaaGClo
namespace Go.Proofs.Ytnfaofldjoobgaa
open Go.RowKit

theorem cat_pos (v : Value) (zs : List Int) (r : List (Value × List Int)) (h : 0 < zs.length) : 0 < (cat ((v, zs) :: r)).length := by
  unfold cat
  simp only [List.map_cons, List.flatten_cons, List.length_append]
  omega
theorem rds_drop {w : World} {b off n c p q : Nat} {t : List Int} (hn : t.length = n) (hb : b < w.heap.size) (hc : n ≤ c) (h63 : c ≤ 9223372036854775807) (hcell : ∀ i, i < n → w.cell? ⟨b, off + i, none⟩ = some (.int .i64 (t[i]?.getD 0))) (hq : q = n - p) : RdS w (.slice (some ⟨b, off + p, none⟩) q (c - p)) (t.drop p) := by
  subst hq hn
  refine ⟨⟨some ⟨b, off + p, none⟩, c - p, by rw [List.length_drop], by rw [List.length_drop]; omega, by unfold maxLen; omega, fun hne => ⟨b, off + p, rfl, hb, fun i hi => ?_⟩⟩, .inr ⟨_, _, _, rfl⟩⟩
  rw [List.length_drop] at hi
  rw [Nat.add_assoc, hcell (p + i) (by omega), List.getElem?_drop]
set_option maxRecDepth 100000 in
set_option maxHeartbeats 1000000 in
theorem lastBreak_any (v : Value) (t : List Int) (w : World) (h : RdS w v t) (hn : t ≠ []) : Calls Try.prog 90 #[v] w fun e w' => ∃ v', e = .returned v' ∧ RdS w v' (lbr t) ∧ w = w' := by
  obtain ⟨b, off, c, rfl, hbl, hcap, h63, hcell⟩ := h.last hn
  have hpos := List.length_pos_iff.2 hn
  have RD := hidIt (fun p q hq => rds_drop (p := p) (q := q) rfl hbl hcap h63 hcell hq)
  obtain ⟨p, hp⟩ : ∃ p, p = t.length - 1 := ⟨_, rfl⟩
  have hx : w.cell? ⟨b, off + p, none⟩ = some (.int .i64 (t[p]?.getD 0)) := hcell p (by omega)
  have hwr : IntKind.i64.wrap ((t.length : Int) - 1) = (p : Int) := by rw [IntKind.wrap_i64]; omega
  have hpl : (p : Int) < (t.length : Int) := by omega
  have hpl2 : (p : Int) ≤ (t.length : Int) := by omega
  have hpl3 : p ≤ t.length := by omega
  have hpe : t.length - p = 1 := by omega
  by_cases h1 : (t.length : Int) > 1
  · obtain ⟨q, hq⟩ : ∃ q, q = t.length - 2 := ⟨_, rfl⟩
    have hy : w.cell? ⟨b, off + q, none⟩ = some (.int .i64 (t[q]?.getD 0)) := hcell q (by omega)
    have hwq : IntKind.i64.wrap ((t.length : Int) - 2) = (q : Int) := by rw [IntKind.wrap_i64]; omega
    have hql : (q : Int) < (t.length : Int) := by omega
    have hql3 : q ≤ t.length := by omega
    have HL := hidIt (show lbr t = if t[q]?.getD 0 = 13 ∧ t[p]?.getD 0 = 10 then t.drop q else t.drop p by unfold lbr; rw [← hq, ← hp]; by_cases hh : t[q]?.getD 0 = 13 ∧ t[p]?.getD 0 = 10 <;> simp [hh]; omega)
    have RQ := hidIt (RD.out q _ rfl)
    have RP := hidIt (RD.out p 1 (by omega))
    generalize t[q]?.getD 0 = y at *
    generalize t[p]?.getD 0 = x at *
    generalize t.length = n at *
    clear hp hq hcell h hn hpos
    by_cases hy13 : y = 13
    · subst hy13
      by_cases hx10 : x = 10
      · subst hx10
        rw [if_pos ⟨rfl, rfl⟩] at HL
        go_enter Try.func90, Try.ntmps90
        go_wp2_with fail
        go_ret
        refine ⟨_, rfl, ?_, rfl⟩
        rw [HL.out]
        exact RQ.out
      · have hxb : (x == 10) = false := by simp [hx10]
        rw [if_neg (fun e => hx10 e.2)] at HL
        go_enter Try.func90, Try.ntmps90
        go_wp2_with fail
        go_ret
        refine ⟨_, rfl, ?_, rfl⟩
        rw [HL.out]
        exact RP.out
    · have hyb : (y == 13) = false := by simp [hy13]
      rw [if_neg (fun e => hy13 e.1)] at HL
      go_enter Try.func90, Try.ntmps90
      go_wp2_with fail
      go_ret
      refine ⟨_, rfl, ?_, rfl⟩
      rw [HL.out]
      exact RP.out
  · have HL := hidIt (show lbr t = t.drop p by unfold lbr; rw [if_neg (by omega), ← hp])
    have RP := hidIt (RD.out p 1 (by omega))
    clear RD
    generalize t[p]?.getD 0 = x at *
    generalize t.length = n at *
    clear hp hcell h hn hpos
    go_enter Try.func90, Try.ntmps90
    go_wp2_with fail
    go_ret
    refine ⟨_, rfl, ?_, rfl⟩
    rw [HL.out]
    exact RP.out

theorem apd_eq (k j : Int) (s t : List Int) (h : k = j) : apd ⟨k, s⟩ ⟨j, t⟩ = ⟨j, s ++ t⟩ := by unfold apd; rw [if_pos h]
theorem apd_w (k : Int) (s t : List Int) (h : k ≠ 1) : apd ⟨k, s⟩ ⟨1, t⟩ = ⟨1, s ++ (lbr t ++ t)⟩ := by unfold apd; rw [if_neg h, if_pos rfl]
theorem apd_o (k j : Int) (s t : List Int) (h : k ≠ j) (h1 : j ≠ 1) : apd ⟨k, s⟩ ⟨j, t⟩ = ⟨1, s ++ (t ++ lbr s)⟩ := by unfold apd; rw [if_neg h, if_neg h1]
set_option maxRecDepth 100000 in
set_option maxHeartbeats 4000000 in
theorem appended_any (k j : Int) (v u : Value) (s t : List Int) (w : World) (hv : RdS w v s) (hu : RdS w u t) (hs : s ≠ []) (ht : t ≠ []) (hsl : s.length ≤ 1000000) (htl : t.length ≤ 1000000) : Calls Try.prog 70 #[.agg #[.int .i64 k, v], .agg #[.int .i64 j, u]] w fun e w' => ∃ v', e = .returned (.agg #[.int .i64 (apd ⟨k, s⟩ ⟨j, t⟩).k, v']) ∧ OwnI w' w.heap.size v' (apd ⟨k, s⟩ ⟨j, t⟩).t ∧ Below w.heap.size w w' := by
  obtain ⟨ao, c, rfl, _⟩ := hv.len
  obtain ⟨bo, d, rfl, _⟩ := hu.len
  obtain ⟨w1, hw1, k0, k1, k2, hb1, hlt1⟩ := three_new w #[.int .i64 k, .slice ao s.length c] #[.int .i64 j, .slice bo t.length d] #[.int .i64 0, .slice none 0 0] 31 31 31
  have HV := hidIt hv
  have HU := hidIt hu
  have HB1 := hidIt hb1
  have HX := hidIt (List.length_pos_iff.2 hs)
  have HY := hidIt (List.length_pos_iff.2 ht)
  have HL := hidIt (show w.heap.size ≤ w1.heap.size by omega)
  have HS : Hid (∀ w', Below w1.heap.size w1 w' → w'.cell? ⟨w.heap.size, 0, none⟩ = some (.int .i64 k) ∧ w'.cell? ⟨w.heap.size, 1, none⟩ = some (.slice ao s.length c) ∧ w'.cell? ⟨w.heap.size + 1, 0, none⟩ = some (.int .i64 j) ∧ w'.cell? ⟨w.heap.size + 1, 1, none⟩ = some (.slice bo t.length d)) := fun w' hb => by
    obtain ⟨q, a, b, _⟩ := cells2 k0
    obtain ⟨q', a', b', _⟩ := cells2 k1
    exact ⟨(hb.cell (p := ⟨w.heap.size, 0, none⟩) q).trans a, (hb.cell (p := ⟨w.heap.size, 1, none⟩) q).trans b, (hb.cell (p := ⟨w.heap.size + 1, 0, none⟩) q').trans a', (hb.cell (p := ⟨w.heap.size + 1, 1, none⟩) q').trans b'⟩
  have HZ : Hid (∀ w', Below w1.heap.size w1 w' → w'.heap[w.heap.size + 2]? = some (.cells #[.int .i64 0, .slice none 0 0] 31 (0, 0))) := fun w' hb => (hb.block _ hlt1).trans k2
  have ks := HS.out w1 (Below.refl _ _)
  clear k0 k1 k2 hb1 hv hu hs ht
  generalize hgn : s.length = n at *
  generalize hgm : t.length = m at *
  by_cases hkj : k = j
  · have hkb : (k == j) = true := by simp [hkj]
    have HC := hidIt (apd_eq k j s t hkj)
    have HA := hidIt (Below.refl w1.heap.size w1)
    clear hkj
    go_enter Try.func70, Try.ntmps70
    go_upto_region 1 with fail
    rw [← hw1]
    clear hw1
    go_upto_region 2 with fail
    refine wp_region_held_drew (S := fun w'' => w''.cell? ⟨w.heap.size, 0, none⟩ = some (.int .i64 k) ∧ w''.cell? ⟨w.heap.size, 1, none⟩ = some (.slice ao n c) ∧ w''.cell? ⟨w.heap.size + 1, 0, none⟩ = some (.int .i64 j) ∧ w''.cell? ⟨w.heap.size + 1, 1, none⟩ = some (.slice bo m d)) (by kernel_rfl) (ks) (fun hHeld => ?_)
    refine wpAnyH_take (i := 0) (oi := _) (v := ?_) rfl (by kernel_rfl) (by kernel_rfl) (by kernel_rfl) (fun _ _ _ h => h) (Or.inl ⟨by rfl, ?_⟩) (by assumption) ?_
    rotate_left 1
    · intro wq hSw; (try dsimp only at hSw); go_simp; try (with_reducible rfl)
    try simp only [Act.put, List.getElem_toArray, List.getElem_cons_zero, List.setIfInBounds_toArray, List.set_cons_zero, List.set_cons_succ]
    refine wpAnyH_take (i := 1) (oi := _) (v := ?_) rfl (by kernel_rfl) (by kernel_rfl) (by kernel_rfl) (fun _ _ _ h => h) (Or.inl ⟨by rfl, ?_⟩) (by assumption) ?_
    rotate_left 1
    · intro wq hSw; (try dsimp only at hSw); go_simp; try (with_reducible rfl)
    try simp only [Act.put, List.getElem_toArray, List.getElem_cons_succ, List.getElem_cons_zero, List.setIfInBounds_toArray, List.set_cons_zero, List.set_cons_succ]
    refine wpAnyH_take (i := 2) (oi := _) (v := ?_) rfl (by kernel_rfl) (by kernel_rfl) (by kernel_rfl) (fun _ _ _ h => h) (Or.inl ⟨by rfl, ?_⟩) (by assumption) ?_
    rotate_left 1
    · intro wq hSw; (try dsimp only at hSw); go_simp; try (with_reducible rfl)
    try simp only [Act.put, List.getElem_toArray, List.getElem_cons_succ, List.getElem_cons_zero, List.setIfInBounds_toArray, List.set_cons_zero, List.set_cons_succ]
    refine wpAnyH_take (i := 3) (oi := _) (v := ?_) rfl (by kernel_rfl) (by kernel_rfl) (by kernel_rfl) (fun _ _ _ h => h) (Or.inl ⟨by rfl, ?_⟩) (by assumption) ?_
    rotate_left 1
    · intro wq hSw; (try dsimp only at hSw); go_simp; try (with_reducible rfl)
    try simp only [Act.put, List.getElem_toArray, List.getElem_cons_succ, List.getElem_cons_zero, List.setIfInBounds_toArray, List.set_cons_zero, List.set_cons_succ]
    refine wpAnyH_take (i := 4) (oi := _) (v := ?_) rfl (by kernel_rfl) (by kernel_rfl) (by kernel_rfl) (fun _ _ _ h => h) (Or.inl ⟨by rfl, ?_⟩) (by assumption) ?_
    rotate_left 1
    · intro wq hSw; (try dsimp only at hSw); go_simp; try (with_reducible rfl)
    try simp only [Act.put, List.getElem_toArray, List.getElem_cons_succ, List.getElem_cons_zero, List.setIfInBounds_toArray, List.set_cons_zero, List.set_cons_succ]
    refine wpAnyH_take (i := 5) (oi := _) (v := ?_) rfl (by kernel_rfl) (by kernel_rfl) (by kernel_rfl) (fun _ _ _ h => h) (Or.inl ⟨by rfl, ?_⟩) (by assumption) ?_
    rotate_left 1
    · intro wq hSw; (try dsimp only at hSw); go_simp; try (with_reducible rfl)
    try simp only [Act.put, List.getElem_toArray, List.getElem_cons_succ, List.getElem_cons_zero, List.setIfInBounds_toArray, List.set_cons_zero, List.set_cons_succ]
    refine wpAnyH_ready (rs := [6]) (by kernel_rfl) (by simp) ?_
    refine AllReadyH.cons (o := _) rfl (fun K hK => ?_) AllReadyH.nil
    go_simp
    generalize hwN : World.alloc _ _ = y2; have Hy2 : Hid (Below w1.heap.size w1 y2) := (by unfold Hid; rw [← hwN]; exact ext_alloc (Below.refl _ _) _); have HR : Hid (Row y2 w1.heap.size [(.slice ao n c, s), (.slice bo m d, t)]) := (by unfold Hid; rw [← hwN]; exact row2 _ (HV.out.ext (ext_trans HB1.out HA.out)) (HU.out.ext (ext_trans HB1.out HA.out))); clear hwN; clear ks; have ks := HS.out y2 (ext_trans HA.out Hy2.out); try dsimp only
    refine hK.out _ _ ?_ (fun hHeld => ?_)
    · (try simp only [World.cell?_drew]); exact ks
    clear hK K
    try simp only [Act.put, List.getElem_toArray, List.getElem_cons_succ, List.getElem_cons_zero, List.setIfInBounds_toArray, List.set_cons_zero, List.set_cons_succ]
    refine wpAnyH_ready (rs := [7]) (by kernel_rfl) (by simp) ?_
    refine AllReadyH.cons (o := _) rfl (fun K hK => ?_) AllReadyH.nil
    go_simp
    refine (concat_any w1.heap.size _ _ (HR.out.ext (Below.drew (Below.refl _ _))) (by simp) (cat_pos _ _ _ (by have := HX.out; omega)) (by simp [cat]; omega)).mono ?_; clear ks; rintro e y3 ⟨v3, rfl, own3, hb3⟩; obtain ⟨ao3, n3, c3, e3⟩ := own3.form; subst e3; have O3 := hidIt own3; have Hy3 := hidIt (ext_trans (ext_trans HA.out Hy2.out.drew) hb3); have hsz := hidIt (ext_trans HA.out Hy2.out).size; clear own3 hb3; have ks := HS.out y3 Hy3.out; obtain ⟨hlt, z0, z1, fz⟩ := cells2 (HZ.out y3 Hy3.out); try dsimp only
    refine hK.out _ _ ?_ (fun hHeld => ?_)
    · (try simp only [World.cell?_drew]); exact ks
    clear hK K
    try simp only [Act.put, List.getElem_toArray, List.getElem_cons_succ, List.getElem_cons_zero, List.setIfInBounds_toArray, List.set_cons_zero, List.set_cons_succ]
    refine wpAnyH_take (i := 8) (oi := _) (v := ?_) rfl (by kernel_rfl) (by kernel_rfl) (by kernel_rfl) (fun _ _ _ h => h) (Or.inl ⟨by rfl, ?_⟩) (by assumption) ?_
    rotate_left 1
    · intro wq hSw; (try dsimp only at hSw); go_simp; try (with_reducible rfl)
    try simp only [Act.put, List.getElem_toArray, List.getElem_cons_succ, List.getElem_cons_zero, List.setIfInBounds_toArray, List.set_cons_zero, List.set_cons_succ]
    refine wpAnyH_ready (rs := [9]) (by kernel_rfl) (by simp) ?_
    refine AllReadyH.cons (o := _) rfl (fun K hK => ?_) AllReadyH.nil
    go_simp
    try dsimp only
    refine hK.out _ _ ?_ (fun hHeld => ?_)
    · exact ⟨by simp [go_sem, ks.1], by simp [go_sem, ks.2.1], by simp [go_sem, ks.2.2.1], by simp [go_sem, ks.2.2.2]⟩
    clear hK K
    try simp only [Act.put, List.getElem_toArray, List.getElem_cons_succ, List.getElem_cons_zero, List.setIfInBounds_toArray, List.set_cons_zero, List.set_cons_succ]
    refine wpAnyH_done (by kernel_rfl) ?_ _
    go_wp2_with fail
    refine bodyPost_ret (v := .agg #[.int .i64 j, .slice ao3 n3 c3]) (by simp [results, Try.results70, go_sem, z0, z1]) rfl ⟨.slice ao3 n3 c3, by rw [HC.out], ?_, ?_⟩
    · rw [show (apd ⟨k, s⟩ ⟨j, t⟩).t = cat [(.slice ao n c, s), (.slice bo m d, t)] by rw [HC.out]; simp [cat]]
      exact (O3.out.other (put2 (HZ.out y3 Hy3.out) _ _).2 (by have := hsz.out; simp; omega)).le (Nat.le_trans HL.out hsz.out)
    · exact below_put (ext_trans HB1.out Hy3.out) (by omega) (put2 (HZ.out y3 Hy3.out) _ _).2 (by omega)

  have hkb : (k == j) = false := by simp [hkj]
  by_cases hj : j = 1
  · subst hj
    have HC := hidIt (apd_w k s t hkj)
    clear hkj
    go_enter Try.func70, Try.ntmps70
    go_upto_region 1 with fail
    rw [← hw1]
    clear hw1
    go_upto_region 4 with fail
    refine wp_region_held_drew (S := fun w'' => w''.cell? ⟨w.heap.size, 0, none⟩ = some (.int .i64 k) ∧ w''.cell? ⟨w.heap.size, 1, none⟩ = some (.slice ao n c) ∧ w''.cell? ⟨w.heap.size + 1, 0, none⟩ = some (.int .i64 1) ∧ w''.cell? ⟨w.heap.size + 1, 1, none⟩ = some (.slice bo m d)) (by kernel_rfl) (ks) (fun hHeld => ?_)
    refine wpAnyH_take (i := 0) (oi := _) (v := ?_) rfl (by kernel_rfl) (by kernel_rfl) (by kernel_rfl) (fun _ _ _ h => h) (Or.inl ⟨by rfl, ?_⟩) (by assumption) ?_
    rotate_left 1
    · intro wq hSw; (try dsimp only at hSw); go_simp; try (with_reducible rfl)
    try simp only [Act.put, List.getElem_toArray, List.getElem_cons_zero, List.setIfInBounds_toArray, List.set_cons_zero, List.set_cons_succ]
    refine wpAnyH_take (i := 1) (oi := _) (v := ?_) rfl (by kernel_rfl) (by kernel_rfl) (by kernel_rfl) (fun _ _ _ h => h) (Or.inl ⟨by rfl, ?_⟩) (by assumption) ?_
    rotate_left 1
    · intro wq hSw; (try dsimp only at hSw); go_simp; try (with_reducible rfl)
    try simp only [Act.put, List.getElem_toArray, List.getElem_cons_succ, List.getElem_cons_zero, List.setIfInBounds_toArray, List.set_cons_zero, List.set_cons_succ]
    refine wpAnyH_take (i := 2) (oi := _) (v := ?_) rfl (by kernel_rfl) (by kernel_rfl) (by kernel_rfl) (fun _ _ _ h => h) (Or.inl ⟨by rfl, ?_⟩) (by assumption) ?_
    rotate_left 1
    · intro wq hSw; (try dsimp only at hSw); go_simp; try (with_reducible rfl)
    try simp only [Act.put, List.getElem_toArray, List.getElem_cons_succ, List.getElem_cons_zero, List.setIfInBounds_toArray, List.set_cons_zero, List.set_cons_succ]
    refine wpAnyH_take (i := 3) (oi := _) (v := ?_) rfl (by kernel_rfl) (by kernel_rfl) (by kernel_rfl) (fun _ _ _ h => h) (Or.inl ⟨by rfl, ?_⟩) (by assumption) ?_
    rotate_left 1
    · intro wq hSw; (try dsimp only at hSw); go_simp; try (with_reducible rfl)
    try simp only [Act.put, List.getElem_toArray, List.getElem_cons_succ, List.getElem_cons_zero, List.setIfInBounds_toArray, List.set_cons_zero, List.set_cons_succ]
    refine wpAnyH_take (i := 5) (oi := _) (v := ?_) rfl (by kernel_rfl) (by kernel_rfl) (by kernel_rfl) (fun _ _ _ h => h) (Or.inl ⟨by rfl, ?_⟩) (by assumption) ?_
    rotate_left 1
    · intro wq hSw; (try dsimp only at hSw); go_simp; try (with_reducible rfl)
    try simp only [Act.put, List.getElem_toArray, List.getElem_cons_succ, List.getElem_cons_zero, List.setIfInBounds_toArray, List.set_cons_zero, List.set_cons_succ]
    refine wpAnyH_take (i := 6) (oi := _) (v := ?_) rfl (by kernel_rfl) (by kernel_rfl) (by kernel_rfl) (fun _ _ _ h => h) (Or.inl ⟨by rfl, ?_⟩) (by assumption) ?_
    rotate_left 1
    · intro wq hSw; (try dsimp only at hSw); go_simp; try (with_reducible rfl)
    try simp only [Act.put, List.getElem_toArray, List.getElem_cons_succ, List.getElem_cons_zero, List.setIfInBounds_toArray, List.set_cons_zero, List.set_cons_succ]
    refine wpAnyH_ready (rs := [4]) (by kernel_rfl) (by simp) ?_
    refine AllReadyH.cons (o := _) rfl (fun K hK => ?_) AllReadyH.nil
    go_simp
    refine (lastBreak_any _ _ _ (HU.out.ext (Below.drew HB1.out)) (by rw [← List.length_pos_iff]; have := HY.out; omega)).mono ?_; rintro e y9 ⟨v9, rfl, r9, rfl⟩; obtain ⟨ao9, c9, e9, _⟩ := r9.len; have hl9 := lbr_len t; generalize hg9 : (lbr t).length = n9 at *; subst e9; have HQ := hidIt (show RdS w1 _ _ from r9); clear r9; have HA := hidIt (Below.refl w1.heap.size w1); try dsimp only
    refine hK.out _ _ ?_ (fun hHeld => ?_)
    · (try simp only [World.cell?_drew]); exact ks
    clear hK K
    try simp only [Act.put, List.getElem_toArray, List.getElem_cons_succ, List.getElem_cons_zero, List.setIfInBounds_toArray, List.set_cons_zero, List.set_cons_succ]
    refine wpAnyH_ready (rs := [7]) (by kernel_rfl) (by simp) ?_
    refine AllReadyH.cons (o := _) rfl (fun K hK => ?_) AllReadyH.nil
    go_simp
    generalize hwN : World.alloc _ _ = y2; have Hy2 : Hid (Below w1.heap.size w1 y2) := (by unfold Hid; rw [← hwN]; exact ext_alloc (Below.refl _ _) _); have HR : Hid (Row y2 w1.heap.size [(.slice ao n c, s), (.slice ao9 n9 c9, lbr t), (.slice bo m d, t)]) := (by unfold Hid; rw [← hwN]; exact row3 _ (HV.out.ext (ext_trans HB1.out HA.out)) HQ.out (HU.out.ext (ext_trans HB1.out HA.out))); clear hwN; clear ks; have ks := HS.out y2 (ext_trans HA.out Hy2.out); try dsimp only
    refine hK.out _ _ ?_ (fun hHeld => ?_)
    · (try simp only [World.cell?_drew]); exact ks
    clear hK K
    try simp only [Act.put, List.getElem_toArray, List.getElem_cons_succ, List.getElem_cons_zero, List.setIfInBounds_toArray, List.set_cons_zero, List.set_cons_succ]
    refine wpAnyH_ready (rs := [8]) (by kernel_rfl) (by simp) ?_
    refine AllReadyH.cons (o := _) rfl (fun K hK => ?_) AllReadyH.nil
    go_simp
    refine (concat_any w1.heap.size _ _ (HR.out.ext (Below.drew (Below.refl _ _))) (by simp) (cat_pos _ _ _ (by have := HX.out; omega)) (by simp [cat]; omega)).mono ?_; clear ks; rintro e y3 ⟨v3, rfl, own3, hb3⟩; obtain ⟨ao3, n3, c3, e3⟩ := own3.form; subst e3; have O3 := hidIt own3; have Hy3 := hidIt (ext_trans (ext_trans HA.out Hy2.out.drew) hb3); have hsz := hidIt (ext_trans HA.out Hy2.out).size; clear own3 hb3; have ks := HS.out y3 Hy3.out; obtain ⟨hlt, z0, z1, fz⟩ := cells2 (HZ.out y3 Hy3.out); try dsimp only
    refine hK.out _ _ ?_ (fun hHeld => ?_)
    · (try simp only [World.cell?_drew]); exact ks
    clear hK K
    try simp only [Act.put, List.getElem_toArray, List.getElem_cons_succ, List.getElem_cons_zero, List.setIfInBounds_toArray, List.set_cons_zero, List.set_cons_succ]
    refine wpAnyH_take (i := 9) (oi := _) (v := ?_) rfl (by kernel_rfl) (by kernel_rfl) (by kernel_rfl) (fun _ _ _ h => h) (Or.inl ⟨by rfl, ?_⟩) (by assumption) ?_
    rotate_left 1
    · intro wq hSw; (try dsimp only at hSw); go_simp; try (with_reducible rfl)
    try simp only [Act.put, List.getElem_toArray, List.getElem_cons_succ, List.getElem_cons_zero, List.setIfInBounds_toArray, List.set_cons_zero, List.set_cons_succ]
    refine wpAnyH_ready (rs := [10]) (by kernel_rfl) (by simp) ?_
    refine AllReadyH.cons (o := _) rfl (fun K hK => ?_) AllReadyH.nil
    go_simp
    try dsimp only
    refine hK.out _ _ ?_ (fun hHeld => ?_)
    · exact ⟨by simp [go_sem, ks.1], by simp [go_sem, ks.2.1], by simp [go_sem, ks.2.2.1], by simp [go_sem, ks.2.2.2]⟩
    clear hK K
    try simp only [Act.put, List.getElem_toArray, List.getElem_cons_succ, List.getElem_cons_zero, List.setIfInBounds_toArray, List.set_cons_zero, List.set_cons_succ]
    refine wpAnyH_done (by kernel_rfl) ?_ _
    go_wp2_with fail
    refine bodyPost_ret (v := .agg #[.int .i64 1, .slice ao3 n3 c3]) (by simp [results, Try.results70, go_sem, z0, z1]) rfl ⟨.slice ao3 n3 c3, by rw [HC.out], ?_, ?_⟩
    · rw [show (apd ⟨k, s⟩ ⟨1, t⟩).t = cat [(.slice ao n c, s), (.slice ao9 n9 c9, lbr t), (.slice bo m d, t)] by rw [HC.out]; simp [cat]]
      exact (O3.out.other (put2 (HZ.out y3 Hy3.out) _ _).2 (by have := hsz.out; simp; omega)).le (Nat.le_trans HL.out hsz.out)
    · exact below_put (ext_trans HB1.out Hy3.out) (by omega) (put2 (HZ.out y3 Hy3.out) _ _).2 (by omega)

  · have hjb : (j == 1) = false := by simp [hj]
    have HC := hidIt (apd_o k j s t hkj hj)
    clear hkj hj
    go_enter Try.func70, Try.ntmps70
    go_upto_region 1 with fail
    rw [← hw1]
    clear hw1
    go_upto_region 5 with fail
    refine wp_region_held_drew (S := fun w'' => w''.cell? ⟨w.heap.size, 0, none⟩ = some (.int .i64 k) ∧ w''.cell? ⟨w.heap.size, 1, none⟩ = some (.slice ao n c) ∧ w''.cell? ⟨w.heap.size + 1, 0, none⟩ = some (.int .i64 j) ∧ w''.cell? ⟨w.heap.size + 1, 1, none⟩ = some (.slice bo m d)) (by kernel_rfl) (ks) (fun hHeld => ?_)
    refine wpAnyH_take (i := 0) (oi := _) (v := ?_) rfl (by kernel_rfl) (by kernel_rfl) (by kernel_rfl) (fun _ _ _ h => h) (Or.inl ⟨by rfl, ?_⟩) (by assumption) ?_
    rotate_left 1
    · intro wq hSw; (try dsimp only at hSw); go_simp; try (with_reducible rfl)
    try simp only [Act.put, List.getElem_toArray, List.getElem_cons_zero, List.setIfInBounds_toArray, List.set_cons_zero, List.set_cons_succ]
    refine wpAnyH_take (i := 1) (oi := _) (v := ?_) rfl (by kernel_rfl) (by kernel_rfl) (by kernel_rfl) (fun _ _ _ h => h) (Or.inl ⟨by rfl, ?_⟩) (by assumption) ?_
    rotate_left 1
    · intro wq hSw; (try dsimp only at hSw); go_simp; try (with_reducible rfl)
    try simp only [Act.put, List.getElem_toArray, List.getElem_cons_succ, List.getElem_cons_zero, List.setIfInBounds_toArray, List.set_cons_zero, List.set_cons_succ]
    refine wpAnyH_take (i := 2) (oi := _) (v := ?_) rfl (by kernel_rfl) (by kernel_rfl) (by kernel_rfl) (fun _ _ _ h => h) (Or.inl ⟨by rfl, ?_⟩) (by assumption) ?_
    rotate_left 1
    · intro wq hSw; (try dsimp only at hSw); go_simp; try (with_reducible rfl)
    try simp only [Act.put, List.getElem_toArray, List.getElem_cons_succ, List.getElem_cons_zero, List.setIfInBounds_toArray, List.set_cons_zero, List.set_cons_succ]
    refine wpAnyH_take (i := 3) (oi := _) (v := ?_) rfl (by kernel_rfl) (by kernel_rfl) (by kernel_rfl) (fun _ _ _ h => h) (Or.inl ⟨by rfl, ?_⟩) (by assumption) ?_
    rotate_left 1
    · intro wq hSw; (try dsimp only at hSw); go_simp; try (with_reducible rfl)
    try simp only [Act.put, List.getElem_toArray, List.getElem_cons_succ, List.getElem_cons_zero, List.setIfInBounds_toArray, List.set_cons_zero, List.set_cons_succ]
    refine wpAnyH_take (i := 4) (oi := _) (v := ?_) rfl (by kernel_rfl) (by kernel_rfl) (by kernel_rfl) (fun _ _ _ h => h) (Or.inl ⟨by rfl, ?_⟩) (by assumption) ?_
    rotate_left 1
    · intro wq hSw; (try dsimp only at hSw); go_simp; try (with_reducible rfl)
    try simp only [Act.put, List.getElem_toArray, List.getElem_cons_succ, List.getElem_cons_zero, List.setIfInBounds_toArray, List.set_cons_zero, List.set_cons_succ]
    refine wpAnyH_take (i := 5) (oi := _) (v := ?_) rfl (by kernel_rfl) (by kernel_rfl) (by kernel_rfl) (fun _ _ _ h => h) (Or.inl ⟨by rfl, ?_⟩) (by assumption) ?_
    rotate_left 1
    · intro wq hSw; (try dsimp only at hSw); go_simp; try (with_reducible rfl)
    try simp only [Act.put, List.getElem_toArray, List.getElem_cons_succ, List.getElem_cons_zero, List.setIfInBounds_toArray, List.set_cons_zero, List.set_cons_succ]
    refine wpAnyH_ready (rs := [6]) (by kernel_rfl) (by simp) ?_
    refine AllReadyH.cons (o := _) rfl (fun K hK => ?_) AllReadyH.nil
    go_simp
    refine (lastBreak_any _ _ _ (HV.out.ext (Below.drew HB1.out)) (by rw [← List.length_pos_iff]; have := HX.out; omega)).mono ?_; rintro e y9 ⟨v9, rfl, r9, rfl⟩; obtain ⟨ao9, c9, e9, _⟩ := r9.len; have hl9 := lbr_len s; generalize hg9 : (lbr s).length = n9 at *; subst e9; have HQ := hidIt (show RdS w1 _ _ from r9); clear r9; have HA := hidIt (Below.refl w1.heap.size w1); try dsimp only
    refine hK.out _ _ ?_ (fun hHeld => ?_)
    · (try simp only [World.cell?_drew]); exact ks
    clear hK K
    try simp only [Act.put, List.getElem_toArray, List.getElem_cons_succ, List.getElem_cons_zero, List.setIfInBounds_toArray, List.set_cons_zero, List.set_cons_succ]
    refine wpAnyH_ready (rs := [7]) (by kernel_rfl) (by simp) ?_
    refine AllReadyH.cons (o := _) rfl (fun K hK => ?_) AllReadyH.nil
    go_simp
    generalize hwN : World.alloc _ _ = y2; have Hy2 : Hid (Below w1.heap.size w1 y2) := (by unfold Hid; rw [← hwN]; exact ext_alloc (Below.refl _ _) _); have HR : Hid (Row y2 w1.heap.size [(.slice ao n c, s), (.slice bo m d, t), (.slice ao9 n9 c9, lbr s)]) := (by unfold Hid; rw [← hwN]; exact row3 _ (HV.out.ext (ext_trans HB1.out HA.out)) (HU.out.ext (ext_trans HB1.out HA.out)) HQ.out); clear hwN; clear ks; have ks := HS.out y2 (ext_trans HA.out Hy2.out); try dsimp only
    refine hK.out _ _ ?_ (fun hHeld => ?_)
    · (try simp only [World.cell?_drew]); exact ks
    clear hK K
    try simp only [Act.put, List.getElem_toArray, List.getElem_cons_succ, List.getElem_cons_zero, List.setIfInBounds_toArray, List.set_cons_zero, List.set_cons_succ]
    refine wpAnyH_ready (rs := [8]) (by kernel_rfl) (by simp) ?_
    refine AllReadyH.cons (o := _) rfl (fun K hK => ?_) AllReadyH.nil
    go_simp
    refine (concat_any w1.heap.size _ _ (HR.out.ext (Below.drew (Below.refl _ _))) (by simp) (cat_pos _ _ _ (by have := HX.out; omega)) (by simp [cat]; omega)).mono ?_; clear ks; rintro e y3 ⟨v3, rfl, own3, hb3⟩; obtain ⟨ao3, n3, c3, e3⟩ := own3.form; subst e3; have O3 := hidIt own3; have Hy3 := hidIt (ext_trans (ext_trans HA.out Hy2.out.drew) hb3); have hsz := hidIt (ext_trans HA.out Hy2.out).size; clear own3 hb3; have ks := HS.out y3 Hy3.out; obtain ⟨hlt, z0, z1, fz⟩ := cells2 (HZ.out y3 Hy3.out); try dsimp only
    refine hK.out _ _ ?_ (fun hHeld => ?_)
    · (try simp only [World.cell?_drew]); exact ks
    clear hK K
    try simp only [Act.put, List.getElem_toArray, List.getElem_cons_succ, List.getElem_cons_zero, List.setIfInBounds_toArray, List.set_cons_zero, List.set_cons_succ]
    refine wpAnyH_take (i := 9) (oi := _) (v := ?_) rfl (by kernel_rfl) (by kernel_rfl) (by kernel_rfl) (fun _ _ _ h => h) (Or.inl ⟨by rfl, ?_⟩) (by assumption) ?_
    rotate_left 1
    · intro wq hSw; (try dsimp only at hSw); go_simp; try (with_reducible rfl)
    try simp only [Act.put, List.getElem_toArray, List.getElem_cons_succ, List.getElem_cons_zero, List.setIfInBounds_toArray, List.set_cons_zero, List.set_cons_succ]
    refine wpAnyH_ready (rs := [10]) (by kernel_rfl) (by simp) ?_
    refine AllReadyH.cons (o := _) rfl (fun K hK => ?_) AllReadyH.nil
    go_simp
    try dsimp only
    refine hK.out _ _ ?_ (fun hHeld => ?_)
    · exact ⟨by simp [go_sem, ks.1], by simp [go_sem, ks.2.1], by simp [go_sem, ks.2.2.1], by simp [go_sem, ks.2.2.2]⟩
    clear hK K
    try simp only [Act.put, List.getElem_toArray, List.getElem_cons_succ, List.getElem_cons_zero, List.setIfInBounds_toArray, List.set_cons_zero, List.set_cons_succ]
    refine wpAnyH_done (by kernel_rfl) ?_ _
    go_wp2_with fail
    refine bodyPost_ret (v := .agg #[.int .i64 1, .slice ao3 n3 c3]) (by simp [results, Try.results70, go_sem, z0, z1]) rfl ⟨.slice ao3 n3 c3, by rw [HC.out], ?_, ?_⟩
    · rw [show (apd ⟨k, s⟩ ⟨j, t⟩).t = cat [(.slice ao n c, s), (.slice bo m d, t), (.slice ao9 n9 c9, lbr s)] by rw [HC.out]; simp [cat]]
      exact (O3.out.other (put2 (HZ.out y3 Hy3.out) _ _).2 (by have := hsz.out; simp; omega)).le (Nat.le_trans HL.out hsz.out)
    · exact below_put (ext_trans HB1.out Hy3.out) (by omega) (put2 (HZ.out y3 Hy3.out) _ _).2 (by omega)

end Go.Proofs.Ytnfaofldjoobgaa
