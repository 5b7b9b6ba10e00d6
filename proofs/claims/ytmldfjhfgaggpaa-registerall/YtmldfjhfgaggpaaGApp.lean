/- register's lastBreak, appended. -/
import Derived.Test.YtmldfjhfgaggpaaGAtoms
namespace Go.Proofs.Ytmldfjhfgaggpaa
open Go.RowKit
variable {F : Nat → Prop}

theorem rds_drop {w : World} {b off n c p q : Nat} {t : List Int} (hn : t.length = n) (hb : b < w.heap.size) (hc : n ≤ c) (h63 : c ≤ 9223372036854775807) (hcell : ∀ i, i < n → w.cell? ⟨b, off + i, none⟩ = some (.int .i64 (t[i]?.getD 0))) (hq : q = n - p) : RdS w (.slice (some ⟨b, off + p, none⟩) q (c - p)) (t.drop p) := by
  subst hq hn
  refine ⟨⟨some ⟨b, off + p, none⟩, c - p, by rw [List.length_drop], by rw [List.length_drop]; omega, by unfold maxLen; omega, fun hne => ⟨b, off + p, rfl, hb, fun i hi => ?_⟩⟩, .inr ⟨_, _, _, rfl⟩⟩
  rw [List.length_drop] at hi
  rw [Nat.add_assoc, hcell (p + i) (by omega), List.getElem?_drop]
set_option maxRecDepth 100000 in
set_option maxHeartbeats 1000000 in
theorem lastBreak_any (v : Value) (t : List Int) (w : World) (h : RdS w v t) (hn : t ≠ []) : Calls Try.prog 91 #[v] w fun e w' => ∃ v', e = .returned v' ∧ RdS w v' (lbr t) ∧ (∀ q, Off v q → Off v' q) ∧ w = w' := by
  obtain ⟨b, off, c, rfl, hbl, hcap, h63, hcell⟩ := h.last hn
  have hpos := List.length_pos_iff.2 hn
  have RD := hidIt (fun p q hq => rds_drop (p := p) (q := q) rfl hbl hcap h63 hcell hq)
  obtain ⟨p, hp⟩ : ∃ p, p = t.length - 1 := ⟨_, rfl⟩
  have hx : w.cell? ⟨b, off + p, none⟩ = some (.int .i64 (t[p]?.getD 0)) := hcell p (by omega)
  have hwr : IntKind.i64.wrap ((t.length : Int) - 1) = (p : Int) := by rw [IntKind.wrap_i64]; omega
  have hpl : (p : Int) < (t.length : Int) := by omega
  have hpl2 : (p : Int) ≤ (t.length : Int) := by omega
  have hpl3 : p ≤ t.length := by omega
  have hpe : t.length - p = 1 := by omega
  by_cases h1 : (t.length : Int) > 1
  · obtain ⟨q, hq⟩ : ∃ q, q = t.length - 2 := ⟨_, rfl⟩
    have hy : w.cell? ⟨b, off + q, none⟩ = some (.int .i64 (t[q]?.getD 0)) := hcell q (by omega)
    have hwq : IntKind.i64.wrap ((t.length : Int) - 2) = (q : Int) := by rw [IntKind.wrap_i64]; omega
    have hql : (q : Int) < (t.length : Int) := by omega
    have hql3 : q ≤ t.length := by omega
    have HL := hidIt (show lbr t = if t[q]?.getD 0 = 13 ∧ t[p]?.getD 0 = 10 then t.drop q else t.drop p by unfold lbr; rw [← hq, ← hp]; by_cases hh : t[q]?.getD 0 = 13 ∧ t[p]?.getD 0 = 10 <;> simp [hh]; omega)
    have RQ := hidIt (RD.out q _ rfl)
    have RP := hidIt (RD.out p 1 (by omega))
    generalize t[q]?.getD 0 = y at *
    generalize t[p]?.getD 0 = x at *
    generalize t.length = n at *
    clear hp hq hcell h hn hpos
    by_cases hy13 : y = 13
    · subst hy13
      by_cases hx10 : x = 10
      · subst hx10
        rw [if_pos ⟨rfl, rfl⟩] at HL
        go_enter Try.func91, Try.ntmps91
        go_wp2_with fail
        go_ret
        refine ⟨_, rfl, ?_, fun q h g o n c e => by cases e; exact h _ _ _ _ rfl, rfl⟩
        rw [HL.out]
        exact RQ.out
      · have hxb : (x == 10) = false := by simp [hx10]
        rw [if_neg (fun e => hx10 e.2)] at HL
        go_enter Try.func91, Try.ntmps91
        go_wp2_with fail
        go_ret
        refine ⟨_, rfl, ?_, fun q h g o n c e => by cases e; exact h _ _ _ _ rfl, rfl⟩
        rw [HL.out]
        exact RP.out
    · have hyb : (y == 13) = false := by simp [hy13]
      rw [if_neg (fun e => hy13 e.1)] at HL
      go_enter Try.func91, Try.ntmps91
      go_wp2_with fail
      go_ret
      refine ⟨_, rfl, ?_, fun q h g o n c e => by cases e; exact h _ _ _ _ rfl, rfl⟩
      rw [HL.out]
      exact RP.out
  · have HL := hidIt (show lbr t = t.drop p by unfold lbr; rw [if_neg (by omega), ← hp])
    have RP := hidIt (RD.out p 1 (by omega))
    clear RD
    generalize t[p]?.getD 0 = x at *
    generalize t.length = n at *
    clear hp hcell h hn hpos
    go_enter Try.func91, Try.ntmps91
    go_wp2_with fail
    go_ret
    refine ⟨_, rfl, ?_, fun q h g o n c e => by cases e; exact h _ _ _ _ rfl, rfl⟩
    rw [HL.out]
    exact RP.out

theorem apd_eq (k j : Int) (s t : List Int) (h : k = j) : apd ⟨k, s⟩ ⟨j, t⟩ = ⟨j, s ++ t⟩ := by unfold apd; rw [if_pos h]
theorem apd_w (k : Int) (s t : List Int) (h : k ≠ 1) : apd ⟨k, s⟩ ⟨1, t⟩ = ⟨1, s ++ (lbr t ++ t)⟩ := by unfold apd; rw [if_neg h, if_pos rfl]
theorem apd_o (k j : Int) (s t : List Int) (h : k ≠ j) (h1 : j ≠ 1) : apd ⟨k, s⟩ ⟨j, t⟩ = ⟨1, s ++ (t ++ lbr s)⟩ := by unfold apd; rw [if_neg h, if_neg h1]
theorem lbr_ne (t : List Int) (h : t ≠ []) : lbr t ≠ [] := by
  have := List.length_pos_iff.2 h
  apply List.length_pos_iff.1
  unfold lbr
  split <;> (rw [List.length_drop]; omega)
theorem lbr_tail (s : List Int) (h : s ≠ []) : lbr (s.drop (s.length - min s.length 2)) = lbr s := by
  by_cases h2 : s.length < 2
  · rw [show s.length - min s.length 2 = 0 by omega, List.drop_zero]
  · have hp := List.length_pos_iff.2 h
    unfold lbr
    rw [List.length_drop, show s.length - (s.length - min s.length 2) = 2 by omega, List.getElem?_drop, List.getElem?_drop, List.drop_drop, List.drop_drop, show s.length - min s.length 2 + (2 - 2) = s.length - 2 by omega, show s.length - min s.length 2 + (2 - 1) = s.length - 1 by omega]
    by_cases hh : s[s.length - 2]?.getD 0 = 13 ∧ s[s.length - 1]?.getD 0 = 10
    · rw [if_pos ⟨by omega, hh⟩, if_pos ⟨by omega, hh⟩]
    · rw [if_neg (fun e => hh e.2), if_neg (fun e => hh e.2)]
/-- A call of with: what it answers. -/
def WtR (F : Nat → Prop) (y : World) (k : Int) (xs : List Int) (e : Ending) (y' : World) : Prop := ∃ g, e = .returned (.agg #[.int .i64 k, .int .i64 xs.length, .pointer (some ⟨g, 0, none⟩)]) ∧ Hg F y' (.pointer (some ⟨g, 0, none⟩)) xs ∧ Below y.heap.size y y'
set_option maxRecDepth 100000 in
set_option maxHeartbeats 4000000 in
theorem appended_any (w : World) (k j : Int) (a : Option Addr) (u : Value) (s t : List Int) (hv : Hg F w (.pointer a) s) (hu : RdS w u t) (ho : ∀ q, F q → Off u q) (hF : ∀ q, F q → q < w.heap.size) (hs : s ≠ []) (ht : t ≠ []) (hsl : s.length ≤ 500000) (htl : t.length ≤ 500000) (hk : k = 0 ∨ k = 1) (hkj2 : j = 0 ∨ j = 1) : Calls Try.prog 71 #[.agg #[.int .i64 k, .int .i64 s.length, .pointer a], .agg #[.int .i64 j, u]] w fun e w' => ∃ g, e = .returned (.agg #[.int .i64 (apd ⟨k, s⟩ ⟨j, t⟩).k, .int .i64 (apd ⟨k, s⟩ ⟨j, t⟩).t.length, .pointer (some ⟨g, 0, none⟩)]) ∧ Hg F w' (.pointer (some ⟨g, 0, none⟩)) (apd ⟨k, s⟩ ⟨j, t⟩).t ∧ Below w.heap.size w w' := by
  obtain ⟨bo, d, rfl, _⟩ := hu.len
  obtain ⟨w1, hw1, k0, k1, k2, hb1, hlt1⟩ := three_new w #[.int .i64 k, .int .i64 s.length, .pointer a] #[.int .i64 j, .slice bo t.length d] #[.int .i64 0, .int .i64 0, .pointer none] 73 31 73
  have HV := hidIt hv
  have HU := hidIt hu
  have HO := hidIt ho
  have HF := hidIt hF
  have HB1 := hidIt hb1
  have HX := hidIt (And.intro hs hsl)
  have HY := hidIt (And.intro ht htl)
  have HLS := hidIt (lbr_len s)
  have HLT := hidIt (lbr_len t)
  have HL := hidIt (show w.heap.size ≤ w1.heap.size by omega)
  have HZ : Hid (∀ w', Below w1.heap.size w1 w' → w'.heap[w.heap.size + 2]? = some (.cells #[.int .i64 0, .int .i64 0, .pointer none] 73 (0, 0))) := fun w' hb => (hb.block _ hlt1).trans k2
  obtain ⟨F1, hF1⟩ : ∃ F1 : Nat → Prop, F1 = fun q => F q ∨ (w.heap.size ≤ q ∧ q < w1.heap.size) := ⟨_, rfl⟩
  have H1 : Hid (∀ q, F1 q ↔ (F q ∨ (w.heap.size ≤ q ∧ q < w1.heap.size))) := by unfold Hid; rw [hF1]; exact fun q => Iff.rfl
  have H1L : Hid (∀ q, F1 q → q < w1.heap.size) := fun q hq => by
    rcases (H1.out q).1 hq with h | h
    · have := HF.out q h; have := HL.out; omega
    · exact h.2
  have HO1 : Hid (∀ q, F1 q → Off (.slice bo t.length d) q) := fun q hq g off n c e => by
    rcases (H1.out q).1 hq with h | h
    · exact HO.out q h g off n c e
    · have := (HU.out.notmap HY.out.1 e).1; omega
  have HV1 : Hid (Hg F1 w1 (.pointer a) s) := HV.out.avoid HB1.out (fun q hq => ((H1.out q).1 hq).imp id And.left)
  have HLT3 := hidIt (show w.heap.size + 2 < w1.heap.size from hlt1)
  clear hF1
  have WT : Hid (∀ (kk : Int) (a' : Option Addr) (v : Value) (xs ys : List Int) (y : World), w1.heap.size ≤ y.heap.size → Hg F1 y (.pointer a') xs → RdS y v ys → (∀ q, F1 q → Off v q) → ys ≠ [] → xs.length ≤ 1000000 → ys.length ≤ 1000000 → Calls Try.prog 70 #[.agg #[.int .i64 kk, .int .i64 xs.length, .pointer a'], v] y (WtR F1 y kk (xs ++ ys))) := fun kk a' v xs ys y hb h1 h2 h3 h4 h5 h6 => with_any y kk a' v xs ys h1 h2 h3 (fun q hq => by have := H1L.out q hq; omega) h4 h5 h6
  have HSA : Hid (∀ w', Below w1.heap.size w1 w' → w'.cell? ⟨w.heap.size, 0, none⟩ = some (.int .i64 k) ∧ w'.cell? ⟨w.heap.size, 1, none⟩ = some (.int .i64 s.length) ∧ w'.cell? ⟨w.heap.size, 2, none⟩ = some (.pointer a) ∧ w'.cell? ⟨w.heap.size + 1, 0, none⟩ = some (.int .i64 j) ∧ w'.cell? ⟨w.heap.size + 1, 1, none⟩ = some (.slice bo t.length d)) := fun w' hb => by
    obtain ⟨q, b0, b1, b2, _⟩ := cells3 k0
    obtain ⟨q', c0, c1, _⟩ := cells2 k1
    exact ⟨(hb.cell (p := ⟨w.heap.size, 0, none⟩) q).trans b0, (hb.cell (p := ⟨w.heap.size, 1, none⟩) q).trans b1, (hb.cell (p := ⟨w.heap.size, 2, none⟩) q).trans b2, (hb.cell (p := ⟨w.heap.size + 1, 0, none⟩) q').trans c0, (hb.cell (p := ⟨w.heap.size + 1, 1, none⟩) q').trans c1⟩
  have ks := HSA.out w1 (Below.refl _ _)
  have HK0 := hidIt k0
  clear k0 k1 k2 hb1 hv hu ho hF hs ht hsl htl
  by_cases hkj : k = j
  · subst hkj
    have hkb : (k == k) = true := by simp
    have HC := hidIt (apd_eq k k s t rfl)
    obtain ⟨A, hA⟩ : ∃ A, A = s ++ t := ⟨_, rfl⟩
    have W1 : Hid (Calls Try.prog 70 #[.agg #[.int .i64 k, .int .i64 s.length, .pointer a], .slice bo t.length d] w1 (WtR F1 w1 k A)) := by
      rw [hA]
      exact WT.out k a _ s t w1 (Nat.le_refl _) HV1.out (HU.out.ext HB1.out) HO1.out HY.out.1 (by have := HX.out.2; omega) (by have := HY.out.2; omega)
    have HC2 := hidIt (show apd ⟨k, s⟩ ⟨k, t⟩ = ⟨k, A⟩ by rw [HC.out, hA])
    clear WT hA
    generalize s.length = n at *
    generalize t.length = m at *
    go_enter Try.func71, Try.ntmps71
    go_upto_region 1 with fail
    rw [← hw1]
    clear hw1
    go_wp2_with (go_at_call 70; refine W1.out.mono ?_; rintro e y1 ⟨g1, rfl, hg1, hb1⟩; have HG1 := hidIt hg1; have Hy1 := hidIt hb1; clear ks hg1 hb1; obtain ⟨_, z0, z1, z2, zf⟩ := cells3 (HZ.out y1 Hy1.out); (try dsimp only))
    refine bodyPost_ret (v := .agg #[.int .i64 k, .int .i64 A.length, .pointer (some ⟨g1, 0, none⟩)]) (by simp [results, Try.results71, go_sem, z0, z1, z2]) rfl ⟨g1, by rw [HC2.out], ?_, ?_⟩
    · rw [HC2.out]
      exact (HG1.out.other (put3 (HZ.out y1 Hy1.out) _ _ _).2 (.inl ((H1.out _).2 (.inr ⟨by omega, HLT3.out⟩)))).weak (fun q h => (H1.out q).2 (.inl h))
    · exact below_put (ext_trans HB1.out Hy1.out) (ext_trans HB1.out Hy1.out).size (put3 (HZ.out y1 Hy1.out) _ _ _).2 (by omega)
  have hkb : (k == j) = false := by simp [hkj]
  by_cases hj : j = 1
  · subst hj
    have HC := hidIt (apd_w k s t hkj)
    obtain ⟨B, hB⟩ : ∃ B, B = s ++ lbr t := ⟨_, rfl⟩
    obtain ⟨A, hA⟩ : ∃ A, A = B ++ t := ⟨_, rfl⟩
    have HC2 := hidIt (show apd ⟨k, s⟩ ⟨1, t⟩ = ⟨1, A⟩ by rw [HC.out, hA, hB, List.append_assoc])
    obtain ⟨w2, hw2⟩ : ∃ w2, w2 = w1.setCell ⟨w.heap.size, 0, none⟩ (.int .i64 1) := ⟨_, rfl⟩
    have s2 := set1 HK0.out 0 (.int .i64 1)
    rw [← hw2] at s2
    have HZ2 : Hid (w2.heap.size = w1.heap.size) := by unfold Hid; rw [hw2]; simp [World.setCell]
    have HB2 := hidIt (below_put HB1.out HB1.out.size s2.2 (Nat.le_refl _))
    have HZB : Hid (∀ w', Below w2.heap.size w2 w' → w'.heap[w.heap.size + 1 + 1]? = some (.cells #[.int .i64 0, .int .i64 0, .pointer none] 73 (0, 0))) := fun w' hb => by
      have := HLT3.out
      exact (hb.block _ (by rw [HZ2.out]; exact HLT3.out)).trans ((s2.2.block _ HLT3.out (by simp)).trans (HZ.out w1 (Below.refl _ _)))
    have HS : Hid (∀ w', Below w2.heap.size w2 w' → w'.cell? ⟨w.heap.size, 0, none⟩ = some (.int .i64 1) ∧ w'.cell? ⟨w.heap.size, 1, none⟩ = some (.int .i64 s.length) ∧ w'.cell? ⟨w.heap.size, 2, none⟩ = some (.pointer a) ∧ w'.cell? ⟨w.heap.size + 1, 1, none⟩ = some (.slice bo t.length d)) := fun w' hb => by
      have hl3 := HLT3.out
      have hz2 := HZ2.out
      obtain ⟨_, b0, b1, b2, _⟩ := cells3 ((hb.block _ (by omega)).trans s2.1)
      refine ⟨b0, b1, b2, ?_⟩
      have e : w'.heap[w.heap.size + 1]? = w1.heap[w.heap.size + 1]? := (hb.block _ (by omega)).trans (s2.2.block _ (by omega) (by simp))
      have := ks.2.2.2.2
      unfold World.cell? at this ⊢
      simp only [e]
      exact this
    have HV2 : Hid (Hg F1 w2 (.pointer a) s) := HV1.out.other s2.2 (.inl ((H1.out _).2 (.inr ⟨Nat.le_refl _, by have := HLT3.out; omega⟩)))
    have HU2 := hidIt (HU.out.ext HB2.out)
    have W1 : Hid (∀ v y, Below w2.heap.size w2 y → RdS y v (lbr t) → (∀ q, F1 q → Off v q) → Calls Try.prog 70 #[.agg #[.int .i64 1, .int .i64 s.length, .pointer a], v] y (WtR F1 y 1 B)) := fun v y hb hr hf => by
      rw [hB]
      exact WT.out 1 a v s (lbr t) y (by have := hb.size; have := HZ2.out; omega) (HV2.out.ext hb) hr hf (lbr_ne _ HY.out.1) (by have := HX.out.2; omega) (by have := HLT.out; omega)
    have W2 : Hid (∀ g y, Below w2.heap.size w2 y → Hg F1 y (.pointer (some ⟨g, 0, none⟩)) B → Calls Try.prog 70 #[.agg #[.int .i64 1, .int .i64 B.length, .pointer (some ⟨g, 0, none⟩)], .slice bo t.length d] y (WtR F1 y 1 A)) := fun g y hb hg => by
      rw [hA]
      exact WT.out 1 _ _ B t y (by have := hb.size; have := HZ2.out; omega) hg (HU2.out.ext hb) HO1.out HY.out.1 (by rw [hB, List.length_append]; have := HX.out.2; have := HLT.out; omega) (by have := HY.out.2; omega)
    have LB : Hid (∀ y, Below w2.heap.size w2 y → Calls Try.prog 91 #[.slice bo t.length d] y fun e y' => ∃ v', e = .returned v' ∧ RdS y v' (lbr t) ∧ (∀ q, F1 q → Off v' q) ∧ y = y') := fun y hb => (lastBreak_any _ t y (HU2.out.ext hb) HY.out.1).mono (by rintro e y' ⟨v', h1, h2, h3, h4⟩; exact ⟨v', h1, h2, fun q hq => h3 q (HO1.out q hq), h4⟩)
    have ks := HS.out w2 (Below.refl _ _)
    clear WT s2 hA hB hkj
    clear HC HV1
    generalize s.length = n at *
    generalize t.length = m at *
    go_enter Try.func71, Try.ntmps71
    go_upto_region 1 with fail
    rw [← hw1]
    clear hw1
    obtain ⟨_, _, _, _, cf⟩ := cells3 HK0.out
    have ks1 := HSA.out w1 (Below.refl _ _)
    go_upto_region 5 with fail
    rw [← hw2]
    clear hw2 cf ks1
    refine wp_region_held_drew (S := fun w'' => w''.cell? ⟨w.heap.size, 0, none⟩ = some (.int .i64 1) ∧ w''.cell? ⟨w.heap.size, 1, none⟩ = some (.int .i64 n) ∧ w''.cell? ⟨w.heap.size, 2, none⟩ = some (.pointer a) ∧ w''.cell? ⟨w.heap.size + 1, 1, none⟩ = some (.slice bo m d)) (by kernel_rfl) (ks) (fun hHeld => ?_)
    refine wpAnyH_take (i := 0) (oi := _) (v := ?_) rfl (by kernel_rfl) (by kernel_rfl) (by kernel_rfl) (fun _ _ _ h => h) (Or.inl ⟨by rfl, ?_⟩) (by assumption) ?_
    rotate_left 1
    · intro wq hSw; (try dsimp only at hSw); go_simp; try (with_reducible rfl)
    try simp only [Act.put, List.getElem_toArray, List.getElem_cons_zero, List.setIfInBounds_toArray, List.set_cons_zero, List.set_cons_succ]
    refine wpAnyH_take (i := 1) (oi := _) (v := ?_) rfl (by kernel_rfl) (by kernel_rfl) (by kernel_rfl) (fun _ _ _ h => h) (Or.inl ⟨by rfl, ?_⟩) (by assumption) ?_
    rotate_left 1
    · intro wq hSw; (try dsimp only at hSw); go_simp; try (with_reducible rfl)
    try simp only [Act.put, List.getElem_toArray, List.getElem_cons_succ, List.getElem_cons_zero, List.setIfInBounds_toArray, List.set_cons_zero, List.set_cons_succ]
    refine wpAnyH_take (i := 2) (oi := _) (v := ?_) rfl (by kernel_rfl) (by kernel_rfl) (by kernel_rfl) (fun _ _ _ h => h) (Or.inl ⟨by rfl, ?_⟩) (by assumption) ?_
    rotate_left 1
    · intro wq hSw; (try dsimp only at hSw); go_simp; try (with_reducible rfl)
    try simp only [Act.put, List.getElem_toArray, List.getElem_cons_succ, List.getElem_cons_zero, List.setIfInBounds_toArray, List.set_cons_zero, List.set_cons_succ]
    refine wpAnyH_take (i := 5) (oi := _) (v := ?_) rfl (by kernel_rfl) (by kernel_rfl) (by kernel_rfl) (fun _ _ _ h => h) (Or.inl ⟨by rfl, ?_⟩) (by assumption) ?_
    rotate_left 1
    · intro wq hSw; (try dsimp only at hSw); go_simp; try (with_reducible rfl)
    try simp only [Act.put, List.getElem_toArray, List.getElem_cons_succ, List.getElem_cons_zero, List.setIfInBounds_toArray, List.set_cons_zero, List.set_cons_succ]
    refine wpAnyH_take (i := 6) (oi := _) (v := ?_) rfl (by kernel_rfl) (by kernel_rfl) (by kernel_rfl) (fun _ _ _ h => h) (Or.inl ⟨by rfl, ?_⟩) (by assumption) ?_
    rotate_left 1
    · intro wq hSw; (try dsimp only at hSw); go_simp; try (with_reducible rfl)
    try simp only [Act.put, List.getElem_toArray, List.getElem_cons_succ, List.getElem_cons_zero, List.setIfInBounds_toArray, List.set_cons_zero, List.set_cons_succ]
    refine wpAnyH_ready (rs := [3]) (by kernel_rfl) (by simp) ?_
    refine AllReadyH.cons (o := _) rfl (fun K hK => ?_) AllReadyH.nil
    go_simp
    refine (LB.out _ (Below.drew (Below.refl _ _))).mono ?_; rintro e y9 ⟨v9, rfl, r9, f9, rfl⟩; obtain ⟨ao9, n9, c9, e9⟩ : ∃ a n c, v9 = .slice a n c := let ⟨a, c, e, _⟩ := r9.len; ⟨a, _, c, e⟩; subst e9; have HQ := hidIt r9; have HF9 := hidIt f9; clear r9 f9; try dsimp only
    refine hK.out _ _ ?_ (fun hHeld => ?_)
    · (try simp only [World.cell?_drew]); exact ks
    clear hK K
    try simp only [Act.put, List.getElem_toArray, List.getElem_cons_succ, List.getElem_cons_zero, List.setIfInBounds_toArray, List.set_cons_zero, List.set_cons_succ]
    refine wpAnyH_ready (rs := [4]) (by kernel_rfl) (by simp) ?_
    refine AllReadyH.cons (o := _) rfl (fun K hK => ?_) AllReadyH.nil
    go_simp
    refine (W1.out _ _ (Below.drew (Below.refl _ _)) HQ.out HF9.out).mono ?_; rintro e y1 ⟨g1, rfl, hg1, hb1⟩; have HG1 := hidIt hg1; have Hy1 := hidIt (ext_trans (Below.drew (Below.refl w2.heap.size w2)) hb1); clear ks hg1 hb1; have ks := HS.out y1 Hy1.out; try dsimp only
    refine hK.out _ _ ?_ (fun hHeld => ?_)
    · (try simp only [World.cell?_drew]); exact ks
    clear hK K
    try simp only [Act.put, List.getElem_toArray, List.getElem_cons_succ, List.getElem_cons_zero, List.setIfInBounds_toArray, List.set_cons_zero, List.set_cons_succ]
    refine wpAnyH_ready (rs := [7]) (by kernel_rfl) (by simp) ?_
    refine AllReadyH.cons (o := _) rfl (fun K hK => ?_) AllReadyH.nil
    go_simp
    refine (W2.out _ _ Hy1.out HG1.out).mono ?_; rintro e y2 ⟨g2, rfl, hg2, hb2⟩; have HG2 := hidIt hg2; have Hy2 := hidIt (ext_trans (Hy1.out) hb2); clear ks hg2 hb2; have ks := HS.out y2 Hy2.out; obtain ⟨_, z0, z1, z2, zf⟩ := cells3 (HZB.out y2 Hy2.out); try dsimp only
    refine hK.out _ _ ?_ (fun hHeld => ?_)
    · (try simp only [World.cell?_drew]); exact ks
    clear hK K
    try simp only [Act.put, List.getElem_toArray, List.getElem_cons_succ, List.getElem_cons_zero, List.setIfInBounds_toArray, List.set_cons_zero, List.set_cons_succ]
    refine wpAnyH_ready (rs := [8]) (by kernel_rfl) (by simp) ?_
    refine AllReadyH.cons (o := _) rfl (fun K hK => ?_) AllReadyH.nil
    go_simp
    try dsimp only
    refine hK.out _ _ ?_ (fun hHeld => ?_)
    · exact ⟨by simp [go_sem, ks.1], by simp [go_sem, ks.2.1], by simp [go_sem, ks.2.2.1], by simp [go_sem, ks.2.2.2]⟩
    clear hK K
    try simp only [Act.put, List.getElem_toArray, List.getElem_cons_succ, List.getElem_cons_zero, List.setIfInBounds_toArray, List.set_cons_zero, List.set_cons_succ]
    refine wpAnyH_done (by kernel_rfl) ?_ _
    go_wp2_with fail
    refine bodyPost_ret (v := .agg #[.int .i64 1, .int .i64 A.length, .pointer (some ⟨g2, 0, none⟩)]) (by simp [results, Try.results71, go_sem, z0, z1, z2]) rfl ⟨g2, by rw [HC2.out], ?_, ?_⟩
    · rw [HC2.out]
      exact (HG2.out.other (put3 (HZB.out y2 Hy2.out) _ _ _).2 (.inl ((H1.out _).2 (.inr ⟨by omega, HLT3.out⟩)))).weak (fun q h => (H1.out q).2 (.inl h))
    · exact below_put (HB2.out.trans (Hy2.out.mono HB2.out.size)) (HB2.out.trans (Hy2.out.mono HB2.out.size)).size (put3 (HZB.out y2 Hy2.out) _ _ _).2 (by omega)
  · obtain rfl : j = 0 := by omega
    obtain rfl : k = 1 := by omega
    have hjb : ((0 : Int) == 1) = false := by simp
    have HC := hidIt (apd_o 1 0 s t hkj hj)
    obtain ⟨B, hB⟩ : ∃ B, B = s ++ t := ⟨_, rfl⟩
    obtain ⟨A, hA⟩ : ∃ A, A = B ++ lbr s := ⟨_, rfl⟩
    have HC2 := hidIt (show apd ⟨1, s⟩ ⟨0, t⟩ = ⟨1, A⟩ by rw [HC.out, hA, hB, List.append_assoc])
    have HZB : Hid (∀ w', Below w1.heap.size w1 w' → w'.heap[w.heap.size + 1 + 1]? = some (.cells #[.int .i64 0, .int .i64 0, .pointer none] 73 (0, 0))) := HZ.out
    have HS : Hid (∀ w', Below w1.heap.size w1 w' → w'.cell? ⟨w.heap.size, 0, none⟩ = some (.int .i64 1) ∧ w'.cell? ⟨w.heap.size, 1, none⟩ = some (.int .i64 s.length) ∧ w'.cell? ⟨w.heap.size, 2, none⟩ = some (.pointer a) ∧ w'.cell? ⟨w.heap.size + 1, 1, none⟩ = some (.slice bo t.length d)) := fun w' hb => by
      obtain ⟨b0, b1, b2, _, b4⟩ := HSA.out w' hb
      exact ⟨b0, b1, b2, b4⟩
    have HU2 := hidIt (HU.out.ext HB1.out)
    have W1 : Hid (∀ y, Below w1.heap.size w1 y → Calls Try.prog 70 #[.agg #[.int .i64 1, .int .i64 s.length, .pointer a], .slice bo t.length d] y (WtR F1 y 1 B)) := fun y hb => by
      rw [hB]
      exact WT.out 1 a _ s t y hb.size (HV1.out.ext hb) (HU2.out.ext hb) HO1.out HY.out.1 (by have := HX.out.2; omega) (by have := HY.out.2; omega)
    have AT : Hid (∀ y, Below w1.heap.size w1 y → Calls Try.prog 43 #[.pointer a, .int .i64 (min (s.length : Int) 2)] y fun e y' => ∃ v', e = .returned v' ∧ RdS y' v' (s.drop (s.length - min s.length 2)) ∧ (∀ q, F1 q → Off v' q) ∧ Below y.heap.size y y') := fun y hb => by
      have := atoms_any y a s (min s.length 2) (HV1.out.ext hb) (by omega) (by have := HX.out.2; omega)
      rw [show ((min s.length 2 : Nat) : Int) = min (s.length : Int) 2 by omega] at this
      exact this.mono (by rintro e y' ⟨v', h1, h2, h3⟩; exact ⟨v', h1, h2.rds, fun q hq => h2.off (by have := H1L.out q hq; have := hb.size; omega), h3⟩)
    have LB : Hid (∀ v y, Below w1.heap.size w1 y → RdS y v (s.drop (s.length - min s.length 2)) → (∀ q, F1 q → Off v q) → Calls Try.prog 91 #[v] y fun e y' => ∃ v', e = .returned v' ∧ RdS y v' (lbr s) ∧ (∀ q, F1 q → Off v' q) ∧ y = y') := fun v y hb hr hf => by
      have := lastBreak_any v _ y hr (by have := List.length_pos_iff.2 HX.out.1; apply List.length_pos_iff.1; rw [List.length_drop]; omega)
      rw [lbr_tail s HX.out.1] at this
      exact this.mono (by rintro e y' ⟨v', h1, h2, h3, h4⟩; exact ⟨v', h1, h2, fun q hq => h3 q (hf q hq), h4⟩)
    have W2 : Hid (∀ g v y, Below w1.heap.size w1 y → Hg F1 y (.pointer (some ⟨g, 0, none⟩)) B → RdS y v (lbr s) → (∀ q, F1 q → Off v q) → Calls Try.prog 70 #[.agg #[.int .i64 1, .int .i64 B.length, .pointer (some ⟨g, 0, none⟩)], v] y (WtR F1 y 1 A)) := fun g v y hb hg hr hf => by
      rw [hA]
      exact WT.out 1 _ v B (lbr s) y hb.size hg hr hf (lbr_ne _ HX.out.1) (by rw [hB, List.length_append]; have := HX.out.2; have := HY.out.2; omega) (by have := HLS.out; omega)
    have HK1 := HSA
    obtain ⟨q0, q1, q2, q3, q4⟩ := ks
    have ks := HS.out w1 (Below.refl _ _)
    clear WT hA hB hkj HC HV1 HSA hj
    generalize s.length = n at *
    generalize t.length = m at *
    go_enter Try.func71, Try.ntmps71
    go_upto_region 1 with fail
    rw [← hw1]
    clear hw1
    go_upto_region 6 with fail
    clear q0 q1 q2 q3 q4
    refine wp_region_held_drew (S := fun w'' => w''.cell? ⟨w.heap.size, 0, none⟩ = some (.int .i64 1) ∧ w''.cell? ⟨w.heap.size, 1, none⟩ = some (.int .i64 n) ∧ w''.cell? ⟨w.heap.size, 2, none⟩ = some (.pointer a) ∧ w''.cell? ⟨w.heap.size + 1, 1, none⟩ = some (.slice bo m d)) (by kernel_rfl) (ks) (fun hHeld => ?_)
    refine wpAnyH_take (i := 0) (oi := _) (v := ?_) rfl (by kernel_rfl) (by kernel_rfl) (by kernel_rfl) (fun _ _ _ h => h) (Or.inl ⟨by rfl, ?_⟩) (by assumption) ?_
    rotate_left 1
    · intro wq hSw; (try dsimp only at hSw); go_simp; try (with_reducible rfl)
    try simp only [Act.put, List.getElem_toArray, List.getElem_cons_zero, List.setIfInBounds_toArray, List.set_cons_zero, List.set_cons_succ]
    refine wpAnyH_take (i := 1) (oi := _) (v := ?_) rfl (by kernel_rfl) (by kernel_rfl) (by kernel_rfl) (fun _ _ _ h => h) (Or.inl ⟨by rfl, ?_⟩) (by assumption) ?_
    rotate_left 1
    · intro wq hSw; (try dsimp only at hSw); go_simp; try (with_reducible rfl)
    try simp only [Act.put, List.getElem_toArray, List.getElem_cons_succ, List.getElem_cons_zero, List.setIfInBounds_toArray, List.set_cons_zero, List.set_cons_succ]
    refine wpAnyH_take (i := 2) (oi := _) (v := ?_) rfl (by kernel_rfl) (by kernel_rfl) (by kernel_rfl) (fun _ _ _ h => h) (Or.inl ⟨by rfl, ?_⟩) (by assumption) ?_
    rotate_left 1
    · intro wq hSw; (try dsimp only at hSw); go_simp; try (with_reducible rfl)
    try simp only [Act.put, List.getElem_toArray, List.getElem_cons_succ, List.getElem_cons_zero, List.setIfInBounds_toArray, List.set_cons_zero, List.set_cons_succ]
    refine wpAnyH_take (i := 4) (oi := _) (v := ?_) rfl (by kernel_rfl) (by kernel_rfl) (by kernel_rfl) (fun _ _ _ h => h) (Or.inl ⟨by rfl, ?_⟩) (by assumption) ?_
    rotate_left 1
    · intro wq hSw; (try dsimp only at hSw); go_simp; try (with_reducible rfl)
    try simp only [Act.put, List.getElem_toArray, List.getElem_cons_succ, List.getElem_cons_zero, List.setIfInBounds_toArray, List.set_cons_zero, List.set_cons_succ]
    refine wpAnyH_take (i := 5) (oi := _) (v := ?_) rfl (by kernel_rfl) (by kernel_rfl) (by kernel_rfl) (fun _ _ _ h => h) (Or.inl ⟨by rfl, ?_⟩) (by assumption) ?_
    rotate_left 1
    · intro wq hSw; (try dsimp only at hSw); go_simp; try (with_reducible rfl)
    try simp only [Act.put, List.getElem_toArray, List.getElem_cons_succ, List.getElem_cons_zero, List.setIfInBounds_toArray, List.set_cons_zero, List.set_cons_succ]
    refine wpAnyH_take (i := 6) (oi := _) (v := ?_) rfl (by kernel_rfl) (by kernel_rfl) (by kernel_rfl) (fun _ _ _ h => h) (Or.inl ⟨by rfl, ?_⟩) (by assumption) ?_
    rotate_left 1
    · intro wq hSw; (try dsimp only at hSw); go_simp; try (with_reducible rfl)
    try simp only [Act.put, List.getElem_toArray, List.getElem_cons_succ, List.getElem_cons_zero, List.setIfInBounds_toArray, List.set_cons_zero, List.set_cons_succ]
    refine wpAnyH_take (i := 7) (oi := _) (v := ?_) rfl (by kernel_rfl) (by kernel_rfl) (by kernel_rfl) (fun _ _ _ h => h) (Or.inl ⟨by rfl, ?_⟩) (by assumption) ?_
    rotate_left 1
    · intro wq hSw; (try dsimp only at hSw); go_simp; try (with_reducible rfl)
    try simp only [Act.put, List.getElem_toArray, List.getElem_cons_succ, List.getElem_cons_zero, List.setIfInBounds_toArray, List.set_cons_zero, List.set_cons_succ]
    refine wpAnyH_take (i := 8) (oi := _) (v := ?_) rfl (by kernel_rfl) (by kernel_rfl) (by kernel_rfl) (fun _ _ _ h => h) (Or.inl ⟨by rfl, ?_⟩) (by assumption) ?_
    rotate_left 1
    · intro wq hSw; (try dsimp only at hSw); go_simp; try (with_reducible rfl)
    try simp only [Act.put, List.getElem_toArray, List.getElem_cons_succ, List.getElem_cons_zero, List.setIfInBounds_toArray, List.set_cons_zero, List.set_cons_succ]
    refine wpAnyH_ready (rs := [3]) (by kernel_rfl) (by simp) ?_
    refine AllReadyH.cons (o := _) rfl (fun K hK => ?_) AllReadyH.nil
    go_simp
    refine (W1.out _ (Below.drew (Below.refl _ _))).mono ?_; rintro e y1 ⟨g1, rfl, hg1, hb1⟩; have HG1 := hidIt hg1; have Hy1 := hidIt (ext_trans (Below.drew (Below.refl w1.heap.size w1)) hb1); clear ks hg1 hb1; have ks := HS.out y1 Hy1.out; try dsimp only
    refine hK.out _ _ ?_ (fun hHeld => ?_)
    · (try simp only [World.cell?_drew]); exact ks
    clear hK K
    try simp only [Act.put, List.getElem_toArray, List.getElem_cons_succ, List.getElem_cons_zero, List.setIfInBounds_toArray, List.set_cons_zero, List.set_cons_succ]
    refine wpAnyH_ready (rs := [9]) (by kernel_rfl) (by simp) ?_
    refine AllReadyH.cons (o := _) rfl (fun K hK => ?_) AllReadyH.nil
    go_simp
    refine (AT.out _ Hy1.out).mono ?_; rintro e y2 ⟨v8, rfl, r8, f8, hb2⟩; obtain ⟨ao8, n8, c8, e8⟩ : ∃ a n c, v8 = .slice a n c := let ⟨a, c, e, _⟩ := r8.len; ⟨a, _, c, e⟩; subst e8; have HQ8 := hidIt r8; have HF8 := hidIt f8; have Hy2 := hidIt (ext_trans Hy1.out hb2); have HB12 := hidIt hb2; clear ks r8 f8 hb2; have ks := HS.out y2 Hy2.out; try dsimp only
    refine hK.out _ _ ?_ (fun hHeld => ?_)
    · (try simp only [World.cell?_drew]); exact ks
    clear hK K
    try simp only [Act.put, List.getElem_toArray, List.getElem_cons_succ, List.getElem_cons_zero, List.setIfInBounds_toArray, List.set_cons_zero, List.set_cons_succ]
    refine wpAnyH_ready (rs := [10]) (by kernel_rfl) (by simp) ?_
    refine AllReadyH.cons (o := _) rfl (fun K hK => ?_) AllReadyH.nil
    go_simp
    refine (LB.out _ _ Hy2.out HQ8.out HF8.out).mono ?_; rintro e y9 ⟨v9, rfl, r9, f9, rfl⟩; obtain ⟨ao9, n9, c9, e9⟩ : ∃ a n c, v9 = .slice a n c := let ⟨a, c, e, _⟩ := r9.len; ⟨a, _, c, e⟩; subst e9; have HQ := hidIt r9; have HF9 := hidIt f9; clear r9 f9; try dsimp only
    refine hK.out _ _ ?_ (fun hHeld => ?_)
    · (try simp only [World.cell?_drew]); exact ks
    clear hK K
    try simp only [Act.put, List.getElem_toArray, List.getElem_cons_succ, List.getElem_cons_zero, List.setIfInBounds_toArray, List.set_cons_zero, List.set_cons_succ]
    refine wpAnyH_ready (rs := [11]) (by kernel_rfl) (by simp) ?_
    refine AllReadyH.cons (o := _) rfl (fun K hK => ?_) AllReadyH.nil
    go_simp
    refine (W2.out _ _ _ Hy2.out (HG1.out.ext HB12.out) HQ.out HF9.out).mono ?_; rintro e y3 ⟨g3, rfl, hg3, hb3⟩; have HG3 := hidIt hg3; have Hy3 := hidIt (ext_trans (Hy2.out) hb3); clear ks hg3 hb3; have ks := HS.out y3 Hy3.out; obtain ⟨_, z0, z1, z2, zf⟩ := cells3 (HZB.out y3 Hy3.out); try dsimp only
    refine hK.out _ _ ?_ (fun hHeld => ?_)
    · (try simp only [World.cell?_drew]); exact ks
    clear hK K
    try simp only [Act.put, List.getElem_toArray, List.getElem_cons_succ, List.getElem_cons_zero, List.setIfInBounds_toArray, List.set_cons_zero, List.set_cons_succ]
    refine wpAnyH_ready (rs := [12]) (by kernel_rfl) (by simp) ?_
    refine AllReadyH.cons (o := _) rfl (fun K hK => ?_) AllReadyH.nil
    go_simp
    try dsimp only
    refine hK.out _ _ ?_ (fun hHeld => ?_)
    · exact ⟨by simp [go_sem, ks.1], by simp [go_sem, ks.2.1], by simp [go_sem, ks.2.2.1], by simp [go_sem, ks.2.2.2]⟩
    clear hK K
    try simp only [Act.put, List.getElem_toArray, List.getElem_cons_succ, List.getElem_cons_zero, List.setIfInBounds_toArray, List.set_cons_zero, List.set_cons_succ]
    refine wpAnyH_done (by kernel_rfl) ?_ _
    go_wp2_with fail
    refine bodyPost_ret (v := .agg #[.int .i64 1, .int .i64 A.length, .pointer (some ⟨g3, 0, none⟩)]) (by simp [results, Try.results71, go_sem, z0, z1, z2]) rfl ⟨g3, by rw [HC2.out], ?_, ?_⟩
    · rw [HC2.out]
      exact (HG3.out.other (put3 (HZB.out y3 Hy3.out) _ _ _).2 (.inl ((H1.out _).2 (.inr ⟨by omega, HLT3.out⟩)))).weak (fun q h => (H1.out q).2 (.inl h))
    · exact below_put (HB1.out.trans (Hy3.out.mono HB1.out.size)) (HB1.out.trans (Hy3.out.mono HB1.out.size)).size (put3 (HZB.out y3 Hy3.out) _ _ _).2 (by omega)

end Go.Proofs.Ytmldfjhfgaggpaa
