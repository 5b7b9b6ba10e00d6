/- turnRight, turnLeft, level. -/
import Derived.Test.YtcdamhgblolofaaBranch
namespace Go.Proofs.Ytcdamhgblolofaa
open Go.RowKit

theorem Tin.lt {w : World} {l r : Tr It} {x : It} {u : Option Addr} (h : Tin w (.node l x r) u) : ∃ g lv rv, u = some ⟨g, 0, none⟩ ∧ g < w.heap.size ∧ Tin w l lv ∧ Tin w r rv ∧
    w.cell? ⟨g, 0, none⟩ = some (.int .i64 x.1) ∧ w.cell? ⟨g, 1, none⟩ = some (.int .i64 x.2) ∧ w.cell? ⟨g, 2, none⟩ = some (.pointer lv) ∧ w.cell? ⟨g, 3, none⟩ = some (.pointer rv) := by
  obtain ⟨g, lv, rv, hu, hg, hl, hr⟩ := h
  refine ⟨g, lv, rv, hu, (Array.getElem?_eq_some_iff.1 hg).1, hl, hr, ?_, ?_, ?_, ?_⟩
  · rw [cell_of_row w g 0 _ _ _ hg]; rfl
  · rw [cell_of_row w g 1 _ _ _ hg]; rfl
  · rw [cell_of_row w g 2 _ _ _ hg]; rfl
  · rw [cell_of_row w g 3 _ _ _ hg]; rfl
theorem br_at {w0 w' : World} {l r : Tr It} {x : It} {lu ru : Option Addr} (hb : Below w0.heap.size w0 w') (hl : Tin w' l lu) (hr : Tin w' r ru) (hw : wt (l.list ++ x :: r.list) ≤ 4611686018427387904) :
    Calls Try.prog 64 #[.pointer lu, .agg #[.int .i64 x.1, .int .i64 x.2], .pointer ru] w' fun e w'' => ∃ u, e = .returned (.pointer u) ∧ Hid (Tin w'' (.node l x r) u) ∧ Below w0.heap.size w0 w'' :=
  (branch_any l r x lu ru w' hl hr hw).mono fun _ _ ⟨u, h1, h2, h3⟩ => ⟨u, h1, h2, ext_trans hb h3⟩

set_option maxRecDepth 100000 in
set_option maxHeartbeats 2000000 in
theorem turn_right1 (l1 l2 : Tr It) (y : It) (o : Tr It) (x : It) (gu ou : Option Addr) (w : World) (hg : Tin w (.node l1 y l2) gu) (ho : Tin w o ou) (hw : wt ((l1.list ++ y :: l2.list) ++ x :: o.list) ≤ 4611686018427387904) (h0 : o.ht + 1 < (Tr.node l1 y l2).ht) (h1 : l2.ht ≤ l1.ht) :
    Calls Try.prog 90 #[.pointer gu, .agg #[.int .i64 x.1, .int .i64 x.2], .pointer ou] w fun e w' => ∃ u t, e = .returned (.pointer u) ∧ Tin w' t u ∧ Made t (.node l1 y l2) x o ∧ Below w.heap.size w w' := by
  have HM := Made.right1 (x := x) h0 h1
  have HM : Hid _ := HM
  obtain ⟨g, lu, ru, rfl, hgl, h2, h3, c0, c1, c2, c3⟩ := hg.lt
  obtain ⟨w0, hw0⟩ : ∃ w0, w0 = w.alloc (.cells #[.int .i64 x.1, .int .i64 x.2] 24) := ⟨_, rfl⟩
  have hb0 : Below w.heap.size w w0 := by rw [hw0]; exact ext_alloc (Below.refl _ _) _
  have HB0 : Hid (Below w.heap.size w w0) := hb0
  have hsz : w.heap.size < w0.heap.size := by rw [hw0]; simp
  have hq0 : w0.cell? ⟨w.heap.size, 0, none⟩ = some (.int .i64 x.1) := by rw [hw0]; simp
  have hq1 : w0.cell? ⟨w.heap.size, 1, none⟩ = some (.int .i64 x.2) := by rw [hw0]; simp
  have hq2 : w0.cell? ⟨g, 0, none⟩ = some (.int .i64 y.1) := (hb0.cell (p := ⟨g, 0, none⟩) hgl).trans c0
  have hq3 : w0.cell? ⟨g, 1, none⟩ = some (.int .i64 y.2) := (hb0.cell (p := ⟨g, 1, none⟩) hgl).trans c1
  have hq4 : w0.cell? ⟨g, 2, none⟩ = some (.pointer lu) := (hb0.cell (p := ⟨g, 2, none⟩) hgl).trans c2
  have hq5 : w0.cell? ⟨g, 3, none⟩ = some (.pointer ru) := (hb0.cell (p := ⟨g, 3, none⟩) hgl).trans c3
  have HC : Hid (∀ w', Below w0.heap.size w0 w' → w'.cell? ⟨w.heap.size, 0, none⟩ = some (.int .i64 x.1) ∧ w'.cell? ⟨w.heap.size, 1, none⟩ = some (.int .i64 x.2) ∧ w'.cell? ⟨g, 0, none⟩ = some (.int .i64 y.1) ∧ w'.cell? ⟨g, 1, none⟩ = some (.int .i64 y.2) ∧ w'.cell? ⟨g, 2, none⟩ = some (.pointer lu) ∧ w'.cell? ⟨g, 3, none⟩ = some (.pointer ru)) := fun w' h => ⟨(h.cell (p := ⟨w.heap.size, 0, none⟩) hsz).trans hq0, (h.cell (p := ⟨w.heap.size, 1, none⟩) hsz).trans hq1, (h.cell (p := ⟨g, 0, none⟩) (Nat.lt_trans hgl hsz)).trans hq2, (h.cell (p := ⟨g, 1, none⟩) (Nat.lt_trans hgl hsz)).trans hq3, (h.cell (p := ⟨g, 2, none⟩) (Nat.lt_trans hgl hsz)).trans hq4, (h.cell (p := ⟨g, 3, none⟩) (Nat.lt_trans hgl hsz)).trans hq5⟩
  have b3 := l1.ht_le
  have b4 := l2.ht_le
  have b5 := wt_len l1.list
  have b6 := wt_len l2.list
  simp only [wt_app, wt_cons] at hw
  have VL : Hid (∀ w', Below w.heap.size w w' → Calls Try.prog 46 #[.pointer lu] w' fun e w'' => e = .returned (.int .i64 l1.ht) ∧ w'' = w') := fun w' h => levels_any l1 lu w' (h2.ext h)
  have VR : Hid (∀ w', Below w.heap.size w w' → Calls Try.prog 46 #[.pointer ru] w' fun e w'' => e = .returned (.int .i64 l2.ht) ∧ w'' = w') := fun w' h => levels_any l2 ru w' (h3.ext h)
  have B1 : Hid (∀ w', Below w0.heap.size w0 w' → Calls Try.prog 64 #[.pointer ru, .agg #[.int .i64 x.1, .int .i64 x.2], .pointer ou] w' fun e w'' => ∃ u, e = .returned (.pointer u) ∧ Hid (Tin w'' (.node l2 x o) u) ∧ Below w0.heap.size w0 w'') := fun w' h => br_at h ((h3.ext hb0).ext h) ((ho.ext hb0).ext h) (by simp only [wt_app, wt_cons]; omega)
  have B2 : Hid (∀ u w', Hid (Tin w' (.node l2 x o) u) → Below w0.heap.size w0 w' → Calls Try.prog 64 #[.pointer lu, .agg #[.int .i64 y.1, .int .i64 y.2], .pointer u] w' fun e w'' => ∃ u, e = .returned (.pointer u) ∧ Hid (Tin w'' (.node l1 y (.node l2 x o)) u) ∧ Below w0.heap.size w0 w'') := fun u w' ht h => br_at h ((h2.ext hb0).ext h) ht.out (by simp only [Tr.list, wt_app, wt_cons]; omega)
  have hle : (l2.ht : Int) ≤ (l1.ht : Int) := by omega
  clear hg ho hw h0 h1 h2 h3 b3 b4 b5 b6 hb0
  generalize l1.ht = m1 at *
  generalize l2.ht = m2 at *
  go_enter Try.func90, Try.ntmps90
  go_wp2_with (first | (go_at_call_of 46 lu; refine (VL.out _ (by repeat (first | exact Below.refl _ _ | refine ext_alloc ?_ _ | apply Below.drew))).mono ?_; rintro e w1 ⟨rfl, rfl⟩) | (go_at_call_of 46 ru; refine (VR.out _ (by repeat (first | exact Below.refl _ _ | refine ext_alloc ?_ _ | apply Below.drew))).mono ?_; rintro e w1 ⟨rfl, rfl⟩))
  rw [← hw0]
  clear hw0
  have HB : Hid (Below w0.heap.size w0 w0) := Below.refl _ _
  go_region_held3 (fun w' => w'.cell? ⟨w.heap.size, 0, none⟩ = some (.int .i64 x.1) ∧ w'.cell? ⟨w.heap.size, 1, none⟩ = some (.int .i64 x.2) ∧ w'.cell? ⟨g, 0, none⟩ = some (.int .i64 y.1) ∧ w'.cell? ⟨g, 1, none⟩ = some (.int .i64 y.2) ∧ w'.cell? ⟨g, 2, none⟩ = some (.pointer lu) ∧ w'.cell? ⟨g, 3, none⟩ = some (.pointer ru)) (go_keep) (first
    | (go_at_call_of 64 ou; refine (B1.out _ (by repeat (first | exact HB.out | apply Below.drew))).mono ?_; rintro e w1 ⟨u1, rfl, T1, hb1⟩; clear hq0 hq1 hq2 hq3 hq4 hq5 HB; have HB : Hid (Below w0.heap.size w0 w1) := hb1; obtain ⟨hq0, hq1, hq2, hq3, hq4, hq5⟩ := HC.out w1 hb1; clear hb1)
    | (go_at_call_of 64 lu; refine (B2.out _ _ T1 (by repeat (first | exact HB.out | apply Below.drew))).mono ?_; rintro e w1 ⟨u2, rfl, T2, hb1⟩; clear hq0 hq1 hq2 hq3 hq4 hq5 HB; have HB : Hid (Below w0.heap.size w0 w1) := hb1; obtain ⟨hq0, hq1, hq2, hq3, hq4, hq5⟩ := HC.out w1 hb1; clear hb1))
  go_wp2_with fail
  go_ret
  exact ⟨_, _, rfl, T2.out, HM.out, ext_trans HB0.out HB.out⟩

set_option maxRecDepth 100000 in
set_option maxHeartbeats 2000000 in
theorem turn_right2 (l1 : Tr It) (a b : Tr It) (z : It) (y : It) (o : Tr It) (x : It) (gu ou : Option Addr) (w : World) (hg : Tin w (.node l1 y (.node a z b)) gu) (ho : Tin w o ou) (hw : wt ((l1.list ++ y :: (a.list ++ z :: b.list)) ++ x :: o.list) ≤ 4611686018427387904) (h0 : o.ht + 1 < (Tr.node l1 y (.node a z b)).ht) (h1 : l1.ht < (Tr.node a z b).ht) :
    Calls Try.prog 90 #[.pointer gu, .agg #[.int .i64 x.1, .int .i64 x.2], .pointer ou] w fun e w' => ∃ u t, e = .returned (.pointer u) ∧ Tin w' t u ∧ Made t (.node l1 y (.node a z b)) x o ∧ Below w.heap.size w w' := by
  have HM := Made.right2 (x := x) h0 h1
  have HM : Hid _ := HM
  obtain ⟨g, lu, ru, rfl, hgl, h2, h3, c0, c1, c2, c3⟩ := hg.lt
  have h3' := h3
  obtain ⟨g2, au, bu, rfl, hgl2, h4, h5, d0, d1, d2, d3⟩ := h3.lt
  obtain ⟨w0, hw0⟩ : ∃ w0, w0 = w.alloc (.cells #[.int .i64 x.1, .int .i64 x.2] 24) := ⟨_, rfl⟩
  have hb0 : Below w.heap.size w w0 := by rw [hw0]; exact ext_alloc (Below.refl _ _) _
  have HB0 : Hid (Below w.heap.size w w0) := hb0
  have hsz : w.heap.size < w0.heap.size := by rw [hw0]; simp
  have hq0 : w0.cell? ⟨w.heap.size, 0, none⟩ = some (.int .i64 x.1) := by rw [hw0]; simp
  have hq1 : w0.cell? ⟨w.heap.size, 1, none⟩ = some (.int .i64 x.2) := by rw [hw0]; simp
  have hq2 : w0.cell? ⟨g, 0, none⟩ = some (.int .i64 y.1) := (hb0.cell (p := ⟨g, 0, none⟩) hgl).trans c0
  have hq3 : w0.cell? ⟨g, 1, none⟩ = some (.int .i64 y.2) := (hb0.cell (p := ⟨g, 1, none⟩) hgl).trans c1
  have hq4 : w0.cell? ⟨g, 2, none⟩ = some (.pointer lu) := (hb0.cell (p := ⟨g, 2, none⟩) hgl).trans c2
  have hq5 : w0.cell? ⟨g, 3, none⟩ = some (.pointer (some ⟨g2, 0, none⟩)) := (hb0.cell (p := ⟨g, 3, none⟩) hgl).trans c3
  have hq6 : w0.cell? ⟨g2, 0, none⟩ = some (.int .i64 z.1) := (hb0.cell (p := ⟨g2, 0, none⟩) hgl2).trans d0
  have hq7 : w0.cell? ⟨g2, 1, none⟩ = some (.int .i64 z.2) := (hb0.cell (p := ⟨g2, 1, none⟩) hgl2).trans d1
  have hq8 : w0.cell? ⟨g2, 2, none⟩ = some (.pointer au) := (hb0.cell (p := ⟨g2, 2, none⟩) hgl2).trans d2
  have hq9 : w0.cell? ⟨g2, 3, none⟩ = some (.pointer bu) := (hb0.cell (p := ⟨g2, 3, none⟩) hgl2).trans d3
  have HC : Hid (∀ w', Below w0.heap.size w0 w' → w'.cell? ⟨w.heap.size, 0, none⟩ = some (.int .i64 x.1) ∧ w'.cell? ⟨w.heap.size, 1, none⟩ = some (.int .i64 x.2) ∧ w'.cell? ⟨g, 0, none⟩ = some (.int .i64 y.1) ∧ w'.cell? ⟨g, 1, none⟩ = some (.int .i64 y.2) ∧ w'.cell? ⟨g, 2, none⟩ = some (.pointer lu) ∧ w'.cell? ⟨g, 3, none⟩ = some (.pointer (some ⟨g2, 0, none⟩)) ∧ w'.cell? ⟨g2, 0, none⟩ = some (.int .i64 z.1) ∧ w'.cell? ⟨g2, 1, none⟩ = some (.int .i64 z.2) ∧ w'.cell? ⟨g2, 2, none⟩ = some (.pointer au) ∧ w'.cell? ⟨g2, 3, none⟩ = some (.pointer bu)) := fun w' h => ⟨(h.cell (p := ⟨w.heap.size, 0, none⟩) hsz).trans hq0, (h.cell (p := ⟨w.heap.size, 1, none⟩) hsz).trans hq1, (h.cell (p := ⟨g, 0, none⟩) (Nat.lt_trans hgl hsz)).trans hq2, (h.cell (p := ⟨g, 1, none⟩) (Nat.lt_trans hgl hsz)).trans hq3, (h.cell (p := ⟨g, 2, none⟩) (Nat.lt_trans hgl hsz)).trans hq4, (h.cell (p := ⟨g, 3, none⟩) (Nat.lt_trans hgl hsz)).trans hq5, (h.cell (p := ⟨g2, 0, none⟩) (Nat.lt_trans hgl2 hsz)).trans hq6, (h.cell (p := ⟨g2, 1, none⟩) (Nat.lt_trans hgl2 hsz)).trans hq7, (h.cell (p := ⟨g2, 2, none⟩) (Nat.lt_trans hgl2 hsz)).trans hq8, (h.cell (p := ⟨g2, 3, none⟩) (Nat.lt_trans hgl2 hsz)).trans hq9⟩
  have b3 := l1.ht_le
  have b4 := (Tr.node a z b).ht_le
  have b5 := wt_len l1.list
  have b6 := wt_len (Tr.node a z b).list
  simp only [Tr.list] at b4 b6
  simp only [wt_app, wt_cons] at hw b6
  have VL : Hid (∀ w', Below w.heap.size w w' → Calls Try.prog 46 #[.pointer lu] w' fun e w'' => e = .returned (.int .i64 l1.ht) ∧ w'' = w') := fun w' h => levels_any l1 lu w' (h2.ext h)
  have VR : Hid (∀ w', Below w.heap.size w w' → Calls Try.prog 46 #[.pointer (some ⟨g2, 0, none⟩)] w' fun e w'' => e = .returned (.int .i64 (Tr.node a z b).ht) ∧ w'' = w') := fun w' h => levels_any (Tr.node a z b) _ w' (h3'.ext h)
  have B1 : Hid (∀ w', Below w0.heap.size w0 w' → Calls Try.prog 64 #[.pointer lu, .agg #[.int .i64 y.1, .int .i64 y.2], .pointer au] w' fun e w'' => ∃ u, e = .returned (.pointer u) ∧ Hid (Tin w'' (.node l1 y a) u) ∧ Below w0.heap.size w0 w'') := fun w' h => br_at h ((h2.ext hb0).ext h) ((h4.ext hb0).ext h) (by simp only [wt_app, wt_cons]; omega)
  have B2 : Hid (∀ u w', Hid (Tin w' (.node l1 y a) u) → Below w0.heap.size w0 w' → Calls Try.prog 64 #[.pointer bu, .agg #[.int .i64 x.1, .int .i64 x.2], .pointer ou] w' fun e w'' => ∃ v, e = .returned (.pointer v) ∧ Hid (Tin w'' (.node b x o) v ∧ Tin w'' (.node l1 y a) u) ∧ Below w0.heap.size w0 w'') := fun u w' ht h => (branch_any b o x bu ou w' ((h5.ext hb0).ext h) ((ho.ext hb0).ext h) (by simp only [wt_app, wt_cons]; omega)).mono fun _ _ ⟨v, k1, k2, k3⟩ => ⟨v, k1, ⟨k2, ht.out.ext k3⟩, ext_trans h k3⟩
  have B3 : Hid (∀ u v w', Hid (Tin w' (.node b x o) v ∧ Tin w' (.node l1 y a) u) → Below w0.heap.size w0 w' → Calls Try.prog 64 #[.pointer u, .agg #[.int .i64 z.1, .int .i64 z.2], .pointer v] w' fun e w'' => ∃ u, e = .returned (.pointer u) ∧ Hid (Tin w'' (.node (.node l1 y a) z (.node b x o)) u) ∧ Below w0.heap.size w0 w'') := fun u v w' ht h => br_at h ht.out.2 ht.out.1 (by simp only [Tr.list, wt_app, wt_cons]; omega)
  have hlt : (l1.ht : Int) < ((Tr.node a z b).ht : Int) := by omega
  have hge : ¬ ((Tr.node a z b).ht : Int) ≤ (l1.ht : Int) := by omega
  clear hg ho hw h0 h1 h2 h3 h3' h4 h5 b3 b4 b5 b6 hb0
  generalize l1.ht = m1 at *
  generalize (Tr.node a z b).ht = m2 at *
  go_enter Try.func90, Try.ntmps90
  go_wp2_with (first | (go_at_call_of 46 lu; refine (VL.out _ (by repeat (first | exact Below.refl _ _ | refine ext_alloc ?_ _ | apply Below.drew))).mono ?_; rintro e w1 ⟨rfl, rfl⟩) | (go_at_call_of 46 g2; refine (VR.out _ (by repeat (first | exact Below.refl _ _ | refine ext_alloc ?_ _ | apply Below.drew))).mono ?_; rintro e w1 ⟨rfl, rfl⟩))
  rw [← hw0]
  clear hw0
  have HB : Hid (Below w0.heap.size w0 w0) := Below.refl _ _
  go_region_held3 (fun w' => w'.cell? ⟨w.heap.size, 0, none⟩ = some (.int .i64 x.1) ∧ w'.cell? ⟨w.heap.size, 1, none⟩ = some (.int .i64 x.2) ∧ w'.cell? ⟨g, 0, none⟩ = some (.int .i64 y.1) ∧ w'.cell? ⟨g, 1, none⟩ = some (.int .i64 y.2) ∧ w'.cell? ⟨g, 2, none⟩ = some (.pointer lu) ∧ w'.cell? ⟨g, 3, none⟩ = some (.pointer (some ⟨g2, 0, none⟩)) ∧ w'.cell? ⟨g2, 0, none⟩ = some (.int .i64 z.1) ∧ w'.cell? ⟨g2, 1, none⟩ = some (.int .i64 z.2) ∧ w'.cell? ⟨g2, 2, none⟩ = some (.pointer au) ∧ w'.cell? ⟨g2, 3, none⟩ = some (.pointer bu)) (go_keep) (first
    | (go_at_call_of 64 lu; refine (B1.out _ (by repeat (first | exact HB.out | apply Below.drew))).mono ?_; rintro e w1 ⟨u1, rfl, T1, hb1⟩; clear hq0 hq1 hq2 hq3 hq4 hq5 hq6 hq7 hq8 hq9 HB; have HB : Hid (Below w0.heap.size w0 w1) := hb1; obtain ⟨hq0, hq1, hq2, hq3, hq4, hq5, hq6, hq7, hq8, hq9⟩ := HC.out w1 hb1; clear hb1)
    | (go_at_call_of 64 ou; refine (B2.out _ _ T1 (by repeat (first | exact HB.out | apply Below.drew))).mono ?_; rintro e w1 ⟨u2, rfl, T2, hb1⟩; clear hq0 hq1 hq2 hq3 hq4 hq5 hq6 hq7 hq8 hq9 HB; have HB : Hid (Below w0.heap.size w0 w1) := hb1; obtain ⟨hq0, hq1, hq2, hq3, hq4, hq5, hq6, hq7, hq8, hq9⟩ := HC.out w1 hb1; clear hb1)
    | (go_at_call_of 64 z; refine (B3.out _ _ _ T2 (by repeat (first | exact HB.out | apply Below.drew))).mono ?_; rintro e w1 ⟨u3, rfl, T3, hb1⟩; clear hq0 hq1 hq2 hq3 hq4 hq5 hq6 hq7 hq8 hq9 HB; have HB : Hid (Below w0.heap.size w0 w1) := hb1; obtain ⟨hq0, hq1, hq2, hq3, hq4, hq5, hq6, hq7, hq8, hq9⟩ := HC.out w1 hb1; clear hb1))
  go_wp2_with fail
  go_ret
  exact ⟨_, _, rfl, T3.out, HM.out, ext_trans HB0.out HB.out⟩

set_option maxRecDepth 100000 in
set_option maxHeartbeats 2000000 in
theorem turn_left1 (l1 l2 : Tr It) (y : It) (o : Tr It) (x : It) (gu ou : Option Addr) (w : World) (hg : Tin w (.node l1 y l2) gu) (ho : Tin w o ou) (hw : wt (o.list ++ x :: (l1.list ++ y :: l2.list)) ≤ 4611686018427387904) (h0 : o.ht + 1 < (Tr.node l1 y l2).ht) (h1 : l1.ht ≤ l2.ht) :
    Calls Try.prog 91 #[.pointer ou, .agg #[.int .i64 x.1, .int .i64 x.2], .pointer gu] w fun e w' => ∃ u t, e = .returned (.pointer u) ∧ Tin w' t u ∧ Made t o x (.node l1 y l2) ∧ Below w.heap.size w w' := by
  have HM := Made.left1 (x := x) h0 h1
  have HM : Hid _ := HM
  obtain ⟨g, lu, ru, rfl, hgl, h2, h3, c0, c1, c2, c3⟩ := hg.lt
  obtain ⟨w0, hw0⟩ : ∃ w0, w0 = w.alloc (.cells #[.int .i64 x.1, .int .i64 x.2] 24) := ⟨_, rfl⟩
  have hb0 : Below w.heap.size w w0 := by rw [hw0]; exact ext_alloc (Below.refl _ _) _
  have HB0 : Hid (Below w.heap.size w w0) := hb0
  have hsz : w.heap.size < w0.heap.size := by rw [hw0]; simp
  have hq0 : w0.cell? ⟨w.heap.size, 0, none⟩ = some (.int .i64 x.1) := by rw [hw0]; simp
  have hq1 : w0.cell? ⟨w.heap.size, 1, none⟩ = some (.int .i64 x.2) := by rw [hw0]; simp
  have hq2 : w0.cell? ⟨g, 0, none⟩ = some (.int .i64 y.1) := (hb0.cell (p := ⟨g, 0, none⟩) hgl).trans c0
  have hq3 : w0.cell? ⟨g, 1, none⟩ = some (.int .i64 y.2) := (hb0.cell (p := ⟨g, 1, none⟩) hgl).trans c1
  have hq4 : w0.cell? ⟨g, 2, none⟩ = some (.pointer lu) := (hb0.cell (p := ⟨g, 2, none⟩) hgl).trans c2
  have hq5 : w0.cell? ⟨g, 3, none⟩ = some (.pointer ru) := (hb0.cell (p := ⟨g, 3, none⟩) hgl).trans c3
  have HC : Hid (∀ w', Below w0.heap.size w0 w' → w'.cell? ⟨w.heap.size, 0, none⟩ = some (.int .i64 x.1) ∧ w'.cell? ⟨w.heap.size, 1, none⟩ = some (.int .i64 x.2) ∧ w'.cell? ⟨g, 0, none⟩ = some (.int .i64 y.1) ∧ w'.cell? ⟨g, 1, none⟩ = some (.int .i64 y.2) ∧ w'.cell? ⟨g, 2, none⟩ = some (.pointer lu) ∧ w'.cell? ⟨g, 3, none⟩ = some (.pointer ru)) := fun w' h => ⟨(h.cell (p := ⟨w.heap.size, 0, none⟩) hsz).trans hq0, (h.cell (p := ⟨w.heap.size, 1, none⟩) hsz).trans hq1, (h.cell (p := ⟨g, 0, none⟩) (Nat.lt_trans hgl hsz)).trans hq2, (h.cell (p := ⟨g, 1, none⟩) (Nat.lt_trans hgl hsz)).trans hq3, (h.cell (p := ⟨g, 2, none⟩) (Nat.lt_trans hgl hsz)).trans hq4, (h.cell (p := ⟨g, 3, none⟩) (Nat.lt_trans hgl hsz)).trans hq5⟩
  have b3 := l1.ht_le
  have b4 := l2.ht_le
  have b5 := wt_len l1.list
  have b6 := wt_len l2.list
  simp only [wt_app, wt_cons] at hw
  have VL : Hid (∀ w', Below w.heap.size w w' → Calls Try.prog 46 #[.pointer lu] w' fun e w'' => e = .returned (.int .i64 l1.ht) ∧ w'' = w') := fun w' h => levels_any l1 lu w' (h2.ext h)
  have VR : Hid (∀ w', Below w.heap.size w w' → Calls Try.prog 46 #[.pointer ru] w' fun e w'' => e = .returned (.int .i64 l2.ht) ∧ w'' = w') := fun w' h => levels_any l2 ru w' (h3.ext h)
  have B1 : Hid (∀ w', Below w0.heap.size w0 w' → Calls Try.prog 64 #[.pointer ou, .agg #[.int .i64 x.1, .int .i64 x.2], .pointer lu] w' fun e w'' => ∃ u, e = .returned (.pointer u) ∧ Hid (Tin w'' (.node o x l1) u) ∧ Below w0.heap.size w0 w'') := fun w' h => br_at h ((ho.ext hb0).ext h) ((h2.ext hb0).ext h) (by simp only [wt_app, wt_cons]; omega)
  have B2 : Hid (∀ u w', Hid (Tin w' (.node o x l1) u) → Below w0.heap.size w0 w' → Calls Try.prog 64 #[.pointer u, .agg #[.int .i64 y.1, .int .i64 y.2], .pointer ru] w' fun e w'' => ∃ u, e = .returned (.pointer u) ∧ Hid (Tin w'' (.node (.node o x l1) y l2) u) ∧ Below w0.heap.size w0 w'') := fun u w' ht h => br_at h ht.out ((h3.ext hb0).ext h) (by simp only [Tr.list, wt_app, wt_cons]; omega)
  have hle : (l1.ht : Int) ≤ (l2.ht : Int) := by omega
  clear hg ho hw h0 h1 h2 h3 b3 b4 b5 b6 hb0
  generalize l1.ht = m1 at *
  generalize l2.ht = m2 at *
  go_enter Try.func91, Try.ntmps91
  go_wp2_with (first | (go_at_call_of 46 lu; refine (VL.out _ (by repeat (first | exact Below.refl _ _ | refine ext_alloc ?_ _ | apply Below.drew))).mono ?_; rintro e w1 ⟨rfl, rfl⟩) | (go_at_call_of 46 ru; refine (VR.out _ (by repeat (first | exact Below.refl _ _ | refine ext_alloc ?_ _ | apply Below.drew))).mono ?_; rintro e w1 ⟨rfl, rfl⟩))
  rw [← hw0]
  clear hw0
  have HB : Hid (Below w0.heap.size w0 w0) := Below.refl _ _
  go_region_held3 (fun w' => w'.cell? ⟨w.heap.size, 0, none⟩ = some (.int .i64 x.1) ∧ w'.cell? ⟨w.heap.size, 1, none⟩ = some (.int .i64 x.2) ∧ w'.cell? ⟨g, 0, none⟩ = some (.int .i64 y.1) ∧ w'.cell? ⟨g, 1, none⟩ = some (.int .i64 y.2) ∧ w'.cell? ⟨g, 2, none⟩ = some (.pointer lu) ∧ w'.cell? ⟨g, 3, none⟩ = some (.pointer ru)) (go_keep) (first
    | (go_at_call_of 64 ou; refine (B1.out _ (by repeat (first | exact HB.out | apply Below.drew))).mono ?_; rintro e w1 ⟨u1, rfl, T1, hb1⟩; clear hq0 hq1 hq2 hq3 hq4 hq5 HB; have HB : Hid (Below w0.heap.size w0 w1) := hb1; obtain ⟨hq0, hq1, hq2, hq3, hq4, hq5⟩ := HC.out w1 hb1; clear hb1)
    | (go_at_call_of 64 ru; refine (B2.out _ _ T1 (by repeat (first | exact HB.out | apply Below.drew))).mono ?_; rintro e w1 ⟨u2, rfl, T2, hb1⟩; clear hq0 hq1 hq2 hq3 hq4 hq5 HB; have HB : Hid (Below w0.heap.size w0 w1) := hb1; obtain ⟨hq0, hq1, hq2, hq3, hq4, hq5⟩ := HC.out w1 hb1; clear hb1))
  go_wp2_with fail
  go_ret
  exact ⟨_, _, rfl, T2.out, HM.out, ext_trans HB0.out HB.out⟩

set_option maxRecDepth 100000 in
set_option maxHeartbeats 2000000 in
theorem turn_left2 (l1 : Tr It) (a b : Tr It) (z : It) (y : It) (o : Tr It) (x : It) (gu ou : Option Addr) (w : World) (hg : Tin w (.node (.node a z b) y l1) gu) (ho : Tin w o ou) (hw : wt (o.list ++ x :: ((a.list ++ z :: b.list) ++ y :: l1.list)) ≤ 4611686018427387904) (h0 : o.ht + 1 < (Tr.node (.node a z b) y l1).ht) (h1 : l1.ht < (Tr.node a z b).ht) :
    Calls Try.prog 91 #[.pointer ou, .agg #[.int .i64 x.1, .int .i64 x.2], .pointer gu] w fun e w' => ∃ u t, e = .returned (.pointer u) ∧ Tin w' t u ∧ Made t o x (.node (.node a z b) y l1) ∧ Below w.heap.size w w' := by
  have HM := Made.left2 (x := x) h0 h1
  have HM : Hid _ := HM
  obtain ⟨g, ru, lu, rfl, hgl, h3, h2, c0, c1, c3, c2⟩ := hg.lt
  have h3' := h3
  obtain ⟨g2, au, bu, rfl, hgl2, h4, h5, d0, d1, d2, d3⟩ := h3.lt
  obtain ⟨w0, hw0⟩ : ∃ w0, w0 = w.alloc (.cells #[.int .i64 x.1, .int .i64 x.2] 24) := ⟨_, rfl⟩
  have hb0 : Below w.heap.size w w0 := by rw [hw0]; exact ext_alloc (Below.refl _ _) _
  have HB0 : Hid (Below w.heap.size w w0) := hb0
  have hsz : w.heap.size < w0.heap.size := by rw [hw0]; simp
  have hq0 : w0.cell? ⟨w.heap.size, 0, none⟩ = some (.int .i64 x.1) := by rw [hw0]; simp
  have hq1 : w0.cell? ⟨w.heap.size, 1, none⟩ = some (.int .i64 x.2) := by rw [hw0]; simp
  have hq2 : w0.cell? ⟨g, 0, none⟩ = some (.int .i64 y.1) := (hb0.cell (p := ⟨g, 0, none⟩) hgl).trans c0
  have hq3 : w0.cell? ⟨g, 1, none⟩ = some (.int .i64 y.2) := (hb0.cell (p := ⟨g, 1, none⟩) hgl).trans c1
  have hq4 : w0.cell? ⟨g, 3, none⟩ = some (.pointer lu) := (hb0.cell (p := ⟨g, 3, none⟩) hgl).trans c2
  have hq5 : w0.cell? ⟨g, 2, none⟩ = some (.pointer (some ⟨g2, 0, none⟩)) := (hb0.cell (p := ⟨g, 2, none⟩) hgl).trans c3
  have hq6 : w0.cell? ⟨g2, 0, none⟩ = some (.int .i64 z.1) := (hb0.cell (p := ⟨g2, 0, none⟩) hgl2).trans d0
  have hq7 : w0.cell? ⟨g2, 1, none⟩ = some (.int .i64 z.2) := (hb0.cell (p := ⟨g2, 1, none⟩) hgl2).trans d1
  have hq8 : w0.cell? ⟨g2, 2, none⟩ = some (.pointer au) := (hb0.cell (p := ⟨g2, 2, none⟩) hgl2).trans d2
  have hq9 : w0.cell? ⟨g2, 3, none⟩ = some (.pointer bu) := (hb0.cell (p := ⟨g2, 3, none⟩) hgl2).trans d3
  have HC : Hid (∀ w', Below w0.heap.size w0 w' → w'.cell? ⟨w.heap.size, 0, none⟩ = some (.int .i64 x.1) ∧ w'.cell? ⟨w.heap.size, 1, none⟩ = some (.int .i64 x.2) ∧ w'.cell? ⟨g, 0, none⟩ = some (.int .i64 y.1) ∧ w'.cell? ⟨g, 1, none⟩ = some (.int .i64 y.2) ∧ w'.cell? ⟨g, 3, none⟩ = some (.pointer lu) ∧ w'.cell? ⟨g, 2, none⟩ = some (.pointer (some ⟨g2, 0, none⟩)) ∧ w'.cell? ⟨g2, 0, none⟩ = some (.int .i64 z.1) ∧ w'.cell? ⟨g2, 1, none⟩ = some (.int .i64 z.2) ∧ w'.cell? ⟨g2, 2, none⟩ = some (.pointer au) ∧ w'.cell? ⟨g2, 3, none⟩ = some (.pointer bu)) := fun w' h => ⟨(h.cell (p := ⟨w.heap.size, 0, none⟩) hsz).trans hq0, (h.cell (p := ⟨w.heap.size, 1, none⟩) hsz).trans hq1, (h.cell (p := ⟨g, 0, none⟩) (Nat.lt_trans hgl hsz)).trans hq2, (h.cell (p := ⟨g, 1, none⟩) (Nat.lt_trans hgl hsz)).trans hq3, (h.cell (p := ⟨g, 3, none⟩) (Nat.lt_trans hgl hsz)).trans hq4, (h.cell (p := ⟨g, 2, none⟩) (Nat.lt_trans hgl hsz)).trans hq5, (h.cell (p := ⟨g2, 0, none⟩) (Nat.lt_trans hgl2 hsz)).trans hq6, (h.cell (p := ⟨g2, 1, none⟩) (Nat.lt_trans hgl2 hsz)).trans hq7, (h.cell (p := ⟨g2, 2, none⟩) (Nat.lt_trans hgl2 hsz)).trans hq8, (h.cell (p := ⟨g2, 3, none⟩) (Nat.lt_trans hgl2 hsz)).trans hq9⟩
  have b3 := l1.ht_le
  have b4 := (Tr.node a z b).ht_le
  have b5 := wt_len l1.list
  have b6 := wt_len (Tr.node a z b).list
  simp only [Tr.list] at b4 b6
  simp only [wt_app, wt_cons] at hw b6
  have VL : Hid (∀ w', Below w.heap.size w w' → Calls Try.prog 46 #[.pointer lu] w' fun e w'' => e = .returned (.int .i64 l1.ht) ∧ w'' = w') := fun w' h => levels_any l1 lu w' (h2.ext h)
  have VR : Hid (∀ w', Below w.heap.size w w' → Calls Try.prog 46 #[.pointer (some ⟨g2, 0, none⟩)] w' fun e w'' => e = .returned (.int .i64 (Tr.node a z b).ht) ∧ w'' = w') := fun w' h => levels_any (Tr.node a z b) _ w' (h3'.ext h)
  have B1 : Hid (∀ w', Below w0.heap.size w0 w' → Calls Try.prog 64 #[.pointer ou, .agg #[.int .i64 x.1, .int .i64 x.2], .pointer au] w' fun e w'' => ∃ u, e = .returned (.pointer u) ∧ Hid (Tin w'' (.node o x a) u) ∧ Below w0.heap.size w0 w'') := fun w' h => br_at h ((ho.ext hb0).ext h) ((h4.ext hb0).ext h) (by simp only [wt_app, wt_cons]; omega)
  have B2 : Hid (∀ u w', Hid (Tin w' (.node o x a) u) → Below w0.heap.size w0 w' → Calls Try.prog 64 #[.pointer bu, .agg #[.int .i64 y.1, .int .i64 y.2], .pointer lu] w' fun e w'' => ∃ v, e = .returned (.pointer v) ∧ Hid (Tin w'' (.node b y l1) v ∧ Tin w'' (.node o x a) u) ∧ Below w0.heap.size w0 w'') := fun u w' ht h => (branch_any b l1 y bu lu w' ((h5.ext hb0).ext h) ((h2.ext hb0).ext h) (by simp only [wt_app, wt_cons]; omega)).mono fun _ _ ⟨v, k1, k2, k3⟩ => ⟨v, k1, ⟨k2, ht.out.ext k3⟩, ext_trans h k3⟩
  have B3 : Hid (∀ u v w', Hid (Tin w' (.node b y l1) v ∧ Tin w' (.node o x a) u) → Below w0.heap.size w0 w' → Calls Try.prog 64 #[.pointer u, .agg #[.int .i64 z.1, .int .i64 z.2], .pointer v] w' fun e w'' => ∃ u, e = .returned (.pointer u) ∧ Hid (Tin w'' (.node (.node o x a) z (.node b y l1)) u) ∧ Below w0.heap.size w0 w'') := fun u v w' ht h => br_at h ht.out.2 ht.out.1 (by simp only [Tr.list, wt_app, wt_cons]; omega)
  have hlt : (l1.ht : Int) < ((Tr.node a z b).ht : Int) := by omega
  have hge : ¬ ((Tr.node a z b).ht : Int) ≤ (l1.ht : Int) := by omega
  clear hg ho hw h0 h1 h2 h3 h3' h4 h5 b3 b4 b5 b6 hb0
  generalize l1.ht = m1 at *
  generalize (Tr.node a z b).ht = m2 at *
  go_enter Try.func91, Try.ntmps91
  go_wp2_with (first | (go_at_call_of 46 lu; refine (VL.out _ (by repeat (first | exact Below.refl _ _ | refine ext_alloc ?_ _ | apply Below.drew))).mono ?_; rintro e w1 ⟨rfl, rfl⟩) | (go_at_call_of 46 g2; refine (VR.out _ (by repeat (first | exact Below.refl _ _ | refine ext_alloc ?_ _ | apply Below.drew))).mono ?_; rintro e w1 ⟨rfl, rfl⟩))
  rw [← hw0]
  clear hw0
  have HB : Hid (Below w0.heap.size w0 w0) := Below.refl _ _
  go_region_held3 (fun w' => w'.cell? ⟨w.heap.size, 0, none⟩ = some (.int .i64 x.1) ∧ w'.cell? ⟨w.heap.size, 1, none⟩ = some (.int .i64 x.2) ∧ w'.cell? ⟨g, 0, none⟩ = some (.int .i64 y.1) ∧ w'.cell? ⟨g, 1, none⟩ = some (.int .i64 y.2) ∧ w'.cell? ⟨g, 3, none⟩ = some (.pointer lu) ∧ w'.cell? ⟨g, 2, none⟩ = some (.pointer (some ⟨g2, 0, none⟩)) ∧ w'.cell? ⟨g2, 0, none⟩ = some (.int .i64 z.1) ∧ w'.cell? ⟨g2, 1, none⟩ = some (.int .i64 z.2) ∧ w'.cell? ⟨g2, 2, none⟩ = some (.pointer au) ∧ w'.cell? ⟨g2, 3, none⟩ = some (.pointer bu)) (go_keep) (first
    | (go_at_call_of 64 ou; refine (B1.out _ (by repeat (first | exact HB.out | apply Below.drew))).mono ?_; rintro e w1 ⟨u1, rfl, T1, hb1⟩; clear hq0 hq1 hq2 hq3 hq4 hq5 hq6 hq7 hq8 hq9 HB; have HB : Hid (Below w0.heap.size w0 w1) := hb1; obtain ⟨hq0, hq1, hq2, hq3, hq4, hq5, hq6, hq7, hq8, hq9⟩ := HC.out w1 hb1; clear hb1)
    | (go_at_call_of 64 lu; refine (B2.out _ _ T1 (by repeat (first | exact HB.out | apply Below.drew))).mono ?_; rintro e w1 ⟨u2, rfl, T2, hb1⟩; clear hq0 hq1 hq2 hq3 hq4 hq5 hq6 hq7 hq8 hq9 HB; have HB : Hid (Below w0.heap.size w0 w1) := hb1; obtain ⟨hq0, hq1, hq2, hq3, hq4, hq5, hq6, hq7, hq8, hq9⟩ := HC.out w1 hb1; clear hb1)
    | (go_at_call_of 64 z; refine (B3.out _ _ _ T2 (by repeat (first | exact HB.out | apply Below.drew))).mono ?_; rintro e w1 ⟨u3, rfl, T3, hb1⟩; clear hq0 hq1 hq2 hq3 hq4 hq5 hq6 hq7 hq8 hq9 HB; have HB : Hid (Below w0.heap.size w0 w1) := hb1; obtain ⟨hq0, hq1, hq2, hq3, hq4, hq5, hq6, hq7, hq8, hq9⟩ := HC.out w1 hb1; clear hb1))
  go_wp2_with fail
  go_ret
  exact ⟨_, _, rfl, T3.out, HM.out, ext_trans HB0.out HB.out⟩
end Go.Proofs.Ytcdamhgblolofaa
