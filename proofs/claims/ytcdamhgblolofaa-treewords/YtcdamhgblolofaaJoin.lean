/- level, join, first, concat. -/
import Derived.Test.YtcdamhgblolofaaTurn
namespace Go.Proofs.Ytcdamhgblolofaa
open Go.RowKit

theorem turnRight_any (l r : Tr It) (x : It) (lu ru : Option Addr) (w : World) (hl : Tin w l lu) (hr : Tin w r ru) (hw : wt (l.list ++ x :: r.list) ≤ 4611686018427387904) (h0 : r.ht + 1 < l.ht) :
    Calls Try.prog 90 #[.pointer lu, .agg #[.int .i64 x.1, .int .i64 x.2], .pointer ru] w fun e w' => ∃ u t, e = .returned (.pointer u) ∧ Tin w' t u ∧ Made t l x r ∧ Below w.heap.size w w' := by
  obtain ⟨l1, y, l2, rfl⟩ := Tr.ht_pos (t := l) (by omega)
  by_cases h1 : l2.ht ≤ l1.ht
  · exact turn_right1 l1 l2 y r x lu ru w hl hr hw h0 h1
  · obtain ⟨a, z, b, rfl⟩ := Tr.ht_pos (t := l2) (by omega)
    exact turn_right2 l1 a b z y r x lu ru w hl hr hw h0 (by omega)
theorem turnLeft_any (l r : Tr It) (x : It) (lu ru : Option Addr) (w : World) (hl : Tin w l lu) (hr : Tin w r ru) (hw : wt (l.list ++ x :: r.list) ≤ 4611686018427387904) (h0 : l.ht + 1 < r.ht) :
    Calls Try.prog 91 #[.pointer lu, .agg #[.int .i64 x.1, .int .i64 x.2], .pointer ru] w fun e w' => ∃ u t, e = .returned (.pointer u) ∧ Tin w' t u ∧ Made t l x r ∧ Below w.heap.size w w' := by
  obtain ⟨l1, y, l2, rfl⟩ := Tr.ht_pos (t := r) (by omega)
  by_cases h1 : l1.ht ≤ l2.ht
  · exact turn_left1 l1 l2 y l x ru lu w hr hl hw h0 h1
  · obtain ⟨a, z, b, rfl⟩ := Tr.ht_pos (t := l1) (by omega)
    exact turn_left2 l2 a b z y l x ru lu w hr hl hw h0 (by omega)

set_option maxRecDepth 100000 in
set_option maxHeartbeats 2000000 in
theorem level_hi (l r : Tr It) (x : It) (lu ru : Option Addr) (w : World) (hl : Tin w l lu) (hr : Tin w r ru) (hw : wt (l.list ++ x :: r.list) ≤ 4611686018427387904) (h0 : r.ht + 1 < l.ht) :
    Calls Try.prog 81 #[.pointer lu, .agg #[.int .i64 x.1, .int .i64 x.2], .pointer ru] w fun e w' => ∃ u t, e = .returned (.pointer u) ∧ Tin w' t u ∧ Made t l x r ∧ Below w.heap.size w w' := by
  have b1 := l.ht_le
  have b2 := r.ht_le
  have b3 := wt_len l.list
  have b4 := wt_len r.list
  have hw2 := hw
  rw [wt_app, wt_cons] at hw2
  have e1 : (l.ht : Int) ≤ 4611686018427387904 := by omega
  have e2 : (r.ht : Int) ≤ 4611686018427387904 := by omega
  have VL : Hid (∀ w', Below w.heap.size w w' → Calls Try.prog 46 #[.pointer lu] w' fun e w'' => e = .returned (.int .i64 l.ht) ∧ w'' = w') := fun w' h => levels_any l lu w' (hl.ext h)
  have VR : Hid (∀ w', Below w.heap.size w w' → Calls Try.prog 46 #[.pointer ru] w' fun e w'' => e = .returned (.int .i64 r.ht) ∧ w'' = w') := fun w' h => levels_any r ru w' (hr.ext h)
  have CC : Hid (∀ w', Below w.heap.size w w' → Calls Try.prog 90 #[.pointer lu, .agg #[.int .i64 x.1, .int .i64 x.2], .pointer ru] w' fun e w' => ∃ u t, e = .returned (.pointer u) ∧ Tin w' t u ∧ Made t l x r ∧ Below w.heap.size w w') := fun w' h => (turnRight_any l r x lu ru w' (hl.ext h) (hr.ext h) hw h0).mono fun _ _ ⟨u, t, k1, k2, k3, k4⟩ => ⟨u, t, k1, k2, k3, ext_trans h k4⟩
  have t1 : (1 : Int) < (l.ht : Int) - (r.ht : Int) := by omega
  clear hl hr hw hw2 b1 b2 b3 b4
  generalize l.ht = m1 at *
  generalize r.ht = m2 at *
  go_enter Try.func81, Try.ntmps81
  go_wp2_with (first | (go_at_call_of 46 lu; refine (VL.out _ (by repeat (first | exact Below.refl _ _ | refine ext_alloc ?_ _ | apply Below.drew))).mono ?_; rintro e w1 ⟨rfl, rfl⟩) | (go_at_call_of 46 ru; refine (VR.out _ (by repeat (first | exact Below.refl _ _ | refine ext_alloc ?_ _ | apply Below.drew))).mono ?_; rintro e w1 ⟨rfl, rfl⟩) | (go_at_call 90; refine (CC.out _ (by repeat (first | exact Below.refl _ _ | refine ext_alloc ?_ _ | apply Below.drew))).mono ?_; rintro e w1 ⟨u, t, rfl, h1, h2, h3⟩; have T1 : Hid _ := h1; have T2 : Hid _ := h2; have T3 : Hid _ := h3; clear h1 h2 h3))
  go_ret
  exact ⟨_, _, rfl, T1.out, T2.out, T3.out⟩

set_option maxRecDepth 100000 in
set_option maxHeartbeats 2000000 in
theorem level_lo (l r : Tr It) (x : It) (lu ru : Option Addr) (w : World) (hl : Tin w l lu) (hr : Tin w r ru) (hw : wt (l.list ++ x :: r.list) ≤ 4611686018427387904) (h0 : l.ht + 1 < r.ht) :
    Calls Try.prog 81 #[.pointer lu, .agg #[.int .i64 x.1, .int .i64 x.2], .pointer ru] w fun e w' => ∃ u t, e = .returned (.pointer u) ∧ Tin w' t u ∧ Made t l x r ∧ Below w.heap.size w w' := by
  have b1 := l.ht_le
  have b2 := r.ht_le
  have b3 := wt_len l.list
  have b4 := wt_len r.list
  have hw2 := hw
  rw [wt_app, wt_cons] at hw2
  have e1 : (l.ht : Int) ≤ 4611686018427387904 := by omega
  have e2 : (r.ht : Int) ≤ 4611686018427387904 := by omega
  have VL : Hid (∀ w', Below w.heap.size w w' → Calls Try.prog 46 #[.pointer lu] w' fun e w'' => e = .returned (.int .i64 l.ht) ∧ w'' = w') := fun w' h => levels_any l lu w' (hl.ext h)
  have VR : Hid (∀ w', Below w.heap.size w w' → Calls Try.prog 46 #[.pointer ru] w' fun e w'' => e = .returned (.int .i64 r.ht) ∧ w'' = w') := fun w' h => levels_any r ru w' (hr.ext h)
  have CC : Hid (∀ w', Below w.heap.size w w' → Calls Try.prog 91 #[.pointer lu, .agg #[.int .i64 x.1, .int .i64 x.2], .pointer ru] w' fun e w' => ∃ u t, e = .returned (.pointer u) ∧ Tin w' t u ∧ Made t l x r ∧ Below w.heap.size w w') := fun w' h => (turnLeft_any l r x lu ru w' (hl.ext h) (hr.ext h) hw h0).mono fun _ _ ⟨u, t, k1, k2, k3, k4⟩ => ⟨u, t, k1, k2, k3, ext_trans h k4⟩
  have t1 : ¬ (1 : Int) < (l.ht : Int) - (r.ht : Int) := by omega
  have t2 : (l.ht : Int) - (r.ht : Int) < -1 := by omega
  clear hl hr hw hw2 b1 b2 b3 b4
  generalize l.ht = m1 at *
  generalize r.ht = m2 at *
  go_enter Try.func81, Try.ntmps81
  go_wp2_with (first | (go_at_call_of 46 lu; refine (VL.out _ (by repeat (first | exact Below.refl _ _ | refine ext_alloc ?_ _ | apply Below.drew))).mono ?_; rintro e w1 ⟨rfl, rfl⟩) | (go_at_call_of 46 ru; refine (VR.out _ (by repeat (first | exact Below.refl _ _ | refine ext_alloc ?_ _ | apply Below.drew))).mono ?_; rintro e w1 ⟨rfl, rfl⟩) | (go_at_call 91; refine (CC.out _ (by repeat (first | exact Below.refl _ _ | refine ext_alloc ?_ _ | apply Below.drew))).mono ?_; rintro e w1 ⟨u, t, rfl, h1, h2, h3⟩; have T1 : Hid _ := h1; have T2 : Hid _ := h2; have T3 : Hid _ := h3; clear h1 h2 h3))
  go_ret
  exact ⟨_, _, rfl, T1.out, T2.out, T3.out⟩

set_option maxRecDepth 100000 in
set_option maxHeartbeats 2000000 in
theorem level_eq (l r : Tr It) (x : It) (lu ru : Option Addr) (w : World) (hl : Tin w l lu) (hr : Tin w r ru) (hw : wt (l.list ++ x :: r.list) ≤ 4611686018427387904) (h0 : l.ht ≤ r.ht + 1) (h1 : r.ht ≤ l.ht + 1) :
    Calls Try.prog 81 #[.pointer lu, .agg #[.int .i64 x.1, .int .i64 x.2], .pointer ru] w fun e w' => ∃ u t, e = .returned (.pointer u) ∧ Tin w' t u ∧ Made t l x r ∧ Below w.heap.size w w' := by
  have b1 := l.ht_le
  have b2 := r.ht_le
  have b3 := wt_len l.list
  have b4 := wt_len r.list
  have hw2 := hw
  rw [wt_app, wt_cons] at hw2
  have e1 : (l.ht : Int) ≤ 4611686018427387904 := by omega
  have e2 : (r.ht : Int) ≤ 4611686018427387904 := by omega
  have VL : Hid (∀ w', Below w.heap.size w w' → Calls Try.prog 46 #[.pointer lu] w' fun e w'' => e = .returned (.int .i64 l.ht) ∧ w'' = w') := fun w' h => levels_any l lu w' (hl.ext h)
  have VR : Hid (∀ w', Below w.heap.size w w' → Calls Try.prog 46 #[.pointer ru] w' fun e w'' => e = .returned (.int .i64 r.ht) ∧ w'' = w') := fun w' h => levels_any r ru w' (hr.ext h)
  have CC : Hid (∀ w', Below w.heap.size w w' → Calls Try.prog 64 #[.pointer lu, .agg #[.int .i64 x.1, .int .i64 x.2], .pointer ru] w' fun e w' => ∃ u t, e = .returned (.pointer u) ∧ Tin w' t u ∧ Made t l x r ∧ Below w.heap.size w w') := fun w' h => (branch_any l r x lu ru w' (hl.ext h) (hr.ext h) hw).mono fun _ _ ⟨u, k1, k2, k4⟩ => ⟨u, _, k1, k2, Made.branch h0 h1, ext_trans h k4⟩
  have t1 : ¬ (1 : Int) < (l.ht : Int) - (r.ht : Int) := by omega
  have t2 : ¬ (l.ht : Int) - (r.ht : Int) < -1 := by omega
  clear hl hr hw hw2 b1 b2 b3 b4
  generalize l.ht = m1 at *
  generalize r.ht = m2 at *
  go_enter Try.func81, Try.ntmps81
  go_wp2_with (first | (go_at_call_of 46 lu; refine (VL.out _ (by repeat (first | exact Below.refl _ _ | refine ext_alloc ?_ _ | apply Below.drew))).mono ?_; rintro e w1 ⟨rfl, rfl⟩) | (go_at_call_of 46 ru; refine (VR.out _ (by repeat (first | exact Below.refl _ _ | refine ext_alloc ?_ _ | apply Below.drew))).mono ?_; rintro e w1 ⟨rfl, rfl⟩) | (go_at_call 64; refine (CC.out _ (by repeat (first | exact Below.refl _ _ | refine ext_alloc ?_ _ | apply Below.drew))).mono ?_; rintro e w1 ⟨u, t, rfl, h1, h2, h3⟩; have T1 : Hid _ := h1; have T2 : Hid _ := h2; have T3 : Hid _ := h3; clear h1 h2 h3))
  go_ret
  exact ⟨_, _, rfl, T1.out, T2.out, T3.out⟩
theorem level_any (l r : Tr It) (x : It) (lu ru : Option Addr) (w : World) (hl : Tin w l lu) (hr : Tin w r ru) (hw : wt (l.list ++ x :: r.list) ≤ 4611686018427387904) :
    Calls Try.prog 81 #[.pointer lu, .agg #[.int .i64 x.1, .int .i64 x.2], .pointer ru] w fun e w' => ∃ u t, e = .returned (.pointer u) ∧ Tin w' t u ∧ Made t l x r ∧ Below w.heap.size w w' := by
  by_cases h1 : r.ht + 1 < l.ht
  · exact level_hi l r x lu ru w hl hr hw h1
  by_cases h2 : l.ht + 1 < r.ht
  · exact level_lo l r x lu ru w hl hr hw h2
  · exact level_eq l r x lu ru w hl hr hw (by omega) (by omega)

set_option maxRecDepth 100000 in
set_option maxHeartbeats 2000000 in
theorem join_eq (l r : Tr It) (x : It) (lu ru : Option Addr) (w : World) (hl : Tin w l lu) (hr : Tin w r ru) (hw : wt (l.list ++ x :: r.list) ≤ 4611686018427387904) (h0 : l.ht ≤ r.ht + 1) (h1 : r.ht ≤ l.ht + 1) :
    Calls Try.prog 65 #[.pointer lu, .agg #[.int .i64 x.1, .int .i64 x.2], .pointer ru] w fun e w' => ∃ u t, e = .returned (.pointer u) ∧ Tin w' t u ∧ Joined t l x r ∧ Below w.heap.size w w' := by
  have b1 := l.ht_le
  have b2 := r.ht_le
  have b3 := wt_len l.list
  have b4 := wt_len r.list
  have hw2 := hw
  rw [wt_app, wt_cons] at hw2
  have e1 : (l.ht : Int) ≤ 4611686018427387904 := by omega
  have e2 : (r.ht : Int) ≤ 4611686018427387904 := by omega
  have VL : Hid (∀ w', Below w.heap.size w w' → Calls Try.prog 46 #[.pointer lu] w' fun e w'' => e = .returned (.int .i64 l.ht) ∧ w'' = w') := fun w' h => levels_any l lu w' (hl.ext h)
  have VR : Hid (∀ w', Below w.heap.size w w' → Calls Try.prog 46 #[.pointer ru] w' fun e w'' => e = .returned (.int .i64 r.ht) ∧ w'' = w') := fun w' h => levels_any r ru w' (hr.ext h)
  have CC : Hid (∀ w', Below w.heap.size w w' → Calls Try.prog 64 #[.pointer lu, .agg #[.int .i64 x.1, .int .i64 x.2], .pointer ru] w' fun e w' => ∃ u t, e = .returned (.pointer u) ∧ Tin w' t u ∧ Joined t l x r ∧ Below w.heap.size w w') := fun w' h => (branch_any l r x lu ru w' (hl.ext h) (hr.ext h) hw).mono fun _ _ ⟨u, k1, k2, k4⟩ => ⟨u, _, k1, k2, Joined.branch h0 h1, ext_trans h k4⟩
  have t1 : ¬ (1 : Int) < (l.ht : Int) - (r.ht : Int) := by omega
  have t2 : ¬ (l.ht : Int) - (r.ht : Int) < -1 := by omega
  clear hl hr hw hw2 b1 b2 b3 b4
  generalize l.ht = m1 at *
  generalize r.ht = m2 at *
  go_enter Try.func65, Try.ntmps65
  go_wp2_with (first | (go_at_call_of 46 lu; refine (VL.out _ (by repeat (first | exact Below.refl _ _ | refine ext_alloc ?_ _ | apply Below.drew))).mono ?_; rintro e w1 ⟨rfl, rfl⟩) | (go_at_call_of 46 ru; refine (VR.out _ (by repeat (first | exact Below.refl _ _ | refine ext_alloc ?_ _ | apply Below.drew))).mono ?_; rintro e w1 ⟨rfl, rfl⟩) | (go_at_call 64; refine (CC.out _ (by repeat (first | exact Below.refl _ _ | refine ext_alloc ?_ _ | apply Below.drew))).mono ?_; rintro e w1 ⟨u, t, rfl, h1, h2, h3⟩; have T1 : Hid _ := h1; have T2 : Hid _ := h2; have T3 : Hid _ := h3; clear h1 h2 h3))
  go_ret
  exact ⟨_, _, rfl, T1.out, T2.out, T3.out⟩

set_option maxRecDepth 100000 in
set_option maxHeartbeats 2000000 in
theorem join_hi (l1 l2 o : Tr It) (y x : It) (gu ou : Option Addr) (w : World) (hg : Tin w (.node l1 y l2) gu) (ho : Tin w o ou) (hw : wt ((l1.list ++ y :: l2.list) ++ x :: o.list) ≤ 4611686018427387904) (h0 : o.ht + 1 < (Tr.node l1 y l2).ht)
    (ih : ∀ (au bu : Option Addr) (w : World), Tin w l2 au → Tin w o bu → wt (l2.list ++ x :: o.list) ≤ 4611686018427387904 → Calls Try.prog 65 #[.pointer au, .agg #[.int .i64 x.1, .int .i64 x.2], .pointer bu] w fun e w' => ∃ u t, e = .returned (.pointer u) ∧ Tin w' t u ∧ Joined t l2 x o ∧ Below w.heap.size w w') :
    Calls Try.prog 65 #[.pointer gu, .agg #[.int .i64 x.1, .int .i64 x.2], .pointer ou] w fun e w' => ∃ u t, e = .returned (.pointer u) ∧ Tin w' t u ∧ Joined t (.node l1 y l2) x o ∧ Below w.heap.size w w' := by
  have b1 := o.ht_le
  have b2 := (Tr.node l1 y l2).ht_le
  have b3 := wt_len o.list
  have b4 := wt_len (Tr.node l1 y l2).list
  simp only [Tr.list] at b2 b4
  simp only [wt_app, wt_cons] at hw b4
  have hg' := hg
  obtain ⟨g, lu, ru, rfl, hgl, h2, h3, c0, c1, c2, c3⟩ := hg.lt
  obtain ⟨w0, hw0⟩ : ∃ w0, w0 = w.alloc (.cells #[.int .i64 x.1, .int .i64 x.2] 24) := ⟨_, rfl⟩
  have hb0 : Below w.heap.size w w0 := by rw [hw0]; exact ext_alloc (Below.refl _ _) _
  have HB0 : Hid (Below w.heap.size w w0) := hb0
  have hsz : w.heap.size < w0.heap.size := by rw [hw0]; simp
  have hq0 : w0.cell? ⟨w.heap.size, 0, none⟩ = some (.int .i64 x.1) := by rw [hw0]; simp
  have hq1 : w0.cell? ⟨w.heap.size, 1, none⟩ = some (.int .i64 x.2) := by rw [hw0]; simp
  have hq2 : w0.cell? ⟨g, 0, none⟩ = some (.int .i64 y.1) := (hb0.cell (p := ⟨g, 0, none⟩) hgl).trans c0
  have hq3 : w0.cell? ⟨g, 1, none⟩ = some (.int .i64 y.2) := (hb0.cell (p := ⟨g, 1, none⟩) hgl).trans c1
  have hq4 : w0.cell? ⟨g, 2, none⟩ = some (.pointer lu) := (hb0.cell (p := ⟨g, 2, none⟩) hgl).trans c2
  have hq5 : w0.cell? ⟨g, 3, none⟩ = some (.pointer ru) := (hb0.cell (p := ⟨g, 3, none⟩) hgl).trans c3
  have HC : Hid (∀ w', Below w0.heap.size w0 w' → w'.cell? ⟨w.heap.size, 0, none⟩ = some (.int .i64 x.1) ∧ w'.cell? ⟨w.heap.size, 1, none⟩ = some (.int .i64 x.2) ∧ w'.cell? ⟨g, 0, none⟩ = some (.int .i64 y.1) ∧ w'.cell? ⟨g, 1, none⟩ = some (.int .i64 y.2) ∧ w'.cell? ⟨g, 2, none⟩ = some (.pointer lu) ∧ w'.cell? ⟨g, 3, none⟩ = some (.pointer ru)) := fun w' h => ⟨(h.cell (p := ⟨w.heap.size, 0, none⟩) hsz).trans hq0, (h.cell (p := ⟨w.heap.size, 1, none⟩) hsz).trans hq1, (h.cell (p := ⟨g, 0, none⟩) (Nat.lt_trans hgl hsz)).trans hq2, (h.cell (p := ⟨g, 1, none⟩) (Nat.lt_trans hgl hsz)).trans hq3, (h.cell (p := ⟨g, 2, none⟩) (Nat.lt_trans hgl hsz)).trans hq4, (h.cell (p := ⟨g, 3, none⟩) (Nat.lt_trans hgl hsz)).trans hq5⟩
  have VL : Hid (∀ w', Below w.heap.size w w' → Calls Try.prog 46 #[.pointer (some ⟨g, 0, none⟩)] w' fun e w'' => e = .returned (.int .i64 (Tr.node l1 y l2).ht) ∧ w'' = w') := fun w' h => levels_any (Tr.node l1 y l2) _ w' (hg'.ext h)
  have VR : Hid (∀ w', Below w.heap.size w w' → Calls Try.prog 46 #[.pointer ou] w' fun e w'' => e = .returned (.int .i64 o.ht) ∧ w'' = w') := fun w' h => levels_any o ou w' (ho.ext h)
  have J : Hid (∀ w', Below w0.heap.size w0 w' → Calls Try.prog 65 #[.pointer ru, .agg #[.int .i64 x.1, .int .i64 x.2], .pointer ou] w' fun e w'' => ∃ u, e = .returned (.pointer u) ∧ Hid (∃ t, Tin w'' t u ∧ Joined t l2 x o) ∧ Below w0.heap.size w0 w'') := fun w' h => (ih ru ou w' ((h3.ext hb0).ext h) ((ho.ext hb0).ext h) (by simp only [wt_app, wt_cons]; omega)).mono fun _ _ ⟨u, t, k1, k2, k3, k4⟩ => ⟨u, k1, ⟨t, k2, k3⟩, ext_trans h k4⟩
  have LV : Hid (∀ u w', Hid (∃ t, Tin w' t u ∧ Joined t l2 x o) → Below w0.heap.size w0 w' → Calls Try.prog 81 #[.pointer lu, .agg #[.int .i64 y.1, .int .i64 y.2], .pointer u] w' fun e w'' => ∃ u, e = .returned (.pointer u) ∧ Hid (∃ t, Tin w'' t u ∧ Joined t (.node l1 y l2) x o) ∧ Below w0.heap.size w0 w'') := fun u w' ht h => by
    obtain ⟨t, k1, k2⟩ := ht.out
    exact (level_any l1 t y lu u w' ((h2.ext hb0).ext h) k1 (by rw [k2.list]; simp only [wt_app, wt_cons]; omega)).mono fun _ _ ⟨u, t', q1, q2, q3, q4⟩ => ⟨u, q1, ⟨t', q2, Joined.downL h0 k2 q3⟩, ext_trans h q4⟩
  have e1 : (o.ht : Int) ≤ 4611686018427387904 := by omega
  have e2 : ((Tr.node l1 y l2).ht : Int) ≤ 4611686018427387904 := by omega
  have t1 : (1 : Int) < ((Tr.node l1 y l2).ht : Int) - (o.ht : Int) := by omega
  clear hg hg' ho hw h0 h2 h3 b1 b2 b3 b4 hb0 ih
  generalize o.ht = m1 at *
  generalize (Tr.node l1 y l2).ht = m2 at *
  go_enter Try.func65, Try.ntmps65
  go_wp2_with (first | (go_at_call_of 46 g; refine (VL.out _ (by repeat (first | exact Below.refl _ _ | refine ext_alloc ?_ _ | apply Below.drew))).mono ?_; rintro e w1 ⟨rfl, rfl⟩) | (go_at_call_of 46 ou; refine (VR.out _ (by repeat (first | exact Below.refl _ _ | refine ext_alloc ?_ _ | apply Below.drew))).mono ?_; rintro e w1 ⟨rfl, rfl⟩))
  rw [← hw0]
  clear hw0
  have HB : Hid (Below w0.heap.size w0 w0) := Below.refl _ _
  go_region_held3 (fun w' => w'.cell? ⟨w.heap.size, 0, none⟩ = some (.int .i64 x.1) ∧ w'.cell? ⟨w.heap.size, 1, none⟩ = some (.int .i64 x.2) ∧ w'.cell? ⟨g, 0, none⟩ = some (.int .i64 y.1) ∧ w'.cell? ⟨g, 1, none⟩ = some (.int .i64 y.2) ∧ w'.cell? ⟨g, 2, none⟩ = some (.pointer lu) ∧ w'.cell? ⟨g, 3, none⟩ = some (.pointer ru)) (go_keep) (first
    | (go_at_call_of 65 x; refine (J.out _ (by repeat (first | exact HB.out | apply Below.drew))).mono ?_; rintro e w1 ⟨u1, rfl, T1, hb1⟩; clear hq0 hq1 hq2 hq3 hq4 hq5 HB; have HB : Hid (Below w0.heap.size w0 w1) := hb1; obtain ⟨hq0, hq1, hq2, hq3, hq4, hq5⟩ := HC.out w1 hb1; clear hb1)
    | (go_at_call_of 81 lu; refine (LV.out _ _ T1 (by repeat (first | exact HB.out | apply Below.drew))).mono ?_; rintro e w1 ⟨u2, rfl, T2, hb1⟩; clear hq0 hq1 hq2 hq3 hq4 hq5 HB; have HB : Hid (Below w0.heap.size w0 w1) := hb1; obtain ⟨hq0, hq1, hq2, hq3, hq4, hq5⟩ := HC.out w1 hb1; clear hb1))
  go_wp2_with fail
  go_ret
  obtain ⟨t, k1, k2⟩ := T2.out
  exact ⟨_, t, rfl, k1, k2, ext_trans HB0.out HB.out⟩

set_option maxRecDepth 100000 in
set_option maxHeartbeats 2000000 in
theorem join_lo (l1 l2 o : Tr It) (y x : It) (gu ou : Option Addr) (w : World) (hg : Tin w (.node l1 y l2) gu) (ho : Tin w o ou) (hw : wt (o.list ++ x :: (l1.list ++ y :: l2.list)) ≤ 4611686018427387904) (h0 : o.ht + 1 < (Tr.node l1 y l2).ht)
    (ih : ∀ (au bu : Option Addr) (w : World), Tin w o au → Tin w l1 bu → wt (o.list ++ x :: l1.list) ≤ 4611686018427387904 → Calls Try.prog 65 #[.pointer au, .agg #[.int .i64 x.1, .int .i64 x.2], .pointer bu] w fun e w' => ∃ u t, e = .returned (.pointer u) ∧ Tin w' t u ∧ Joined t o x l1 ∧ Below w.heap.size w w') :
    Calls Try.prog 65 #[.pointer ou, .agg #[.int .i64 x.1, .int .i64 x.2], .pointer gu] w fun e w' => ∃ u t, e = .returned (.pointer u) ∧ Tin w' t u ∧ Joined t o x (.node l1 y l2) ∧ Below w.heap.size w w' := by
  have b1 := o.ht_le
  have b2 := (Tr.node l1 y l2).ht_le
  have b3 := wt_len o.list
  have b4 := wt_len (Tr.node l1 y l2).list
  simp only [Tr.list] at b2 b4
  simp only [wt_app, wt_cons] at hw b4
  have hg' := hg
  obtain ⟨g, lu, ru, rfl, hgl, h2, h3, c0, c1, c2, c3⟩ := hg.lt
  obtain ⟨w0, hw0⟩ : ∃ w0, w0 = w.alloc (.cells #[.int .i64 x.1, .int .i64 x.2] 24) := ⟨_, rfl⟩
  have hb0 : Below w.heap.size w w0 := by rw [hw0]; exact ext_alloc (Below.refl _ _) _
  have HB0 : Hid (Below w.heap.size w w0) := hb0
  have hsz : w.heap.size < w0.heap.size := by rw [hw0]; simp
  have hq0 : w0.cell? ⟨w.heap.size, 0, none⟩ = some (.int .i64 x.1) := by rw [hw0]; simp
  have hq1 : w0.cell? ⟨w.heap.size, 1, none⟩ = some (.int .i64 x.2) := by rw [hw0]; simp
  have hq2 : w0.cell? ⟨g, 0, none⟩ = some (.int .i64 y.1) := (hb0.cell (p := ⟨g, 0, none⟩) hgl).trans c0
  have hq3 : w0.cell? ⟨g, 1, none⟩ = some (.int .i64 y.2) := (hb0.cell (p := ⟨g, 1, none⟩) hgl).trans c1
  have hq4 : w0.cell? ⟨g, 2, none⟩ = some (.pointer lu) := (hb0.cell (p := ⟨g, 2, none⟩) hgl).trans c2
  have hq5 : w0.cell? ⟨g, 3, none⟩ = some (.pointer ru) := (hb0.cell (p := ⟨g, 3, none⟩) hgl).trans c3
  have HC : Hid (∀ w', Below w0.heap.size w0 w' → w'.cell? ⟨w.heap.size, 0, none⟩ = some (.int .i64 x.1) ∧ w'.cell? ⟨w.heap.size, 1, none⟩ = some (.int .i64 x.2) ∧ w'.cell? ⟨g, 0, none⟩ = some (.int .i64 y.1) ∧ w'.cell? ⟨g, 1, none⟩ = some (.int .i64 y.2) ∧ w'.cell? ⟨g, 2, none⟩ = some (.pointer lu) ∧ w'.cell? ⟨g, 3, none⟩ = some (.pointer ru)) := fun w' h => ⟨(h.cell (p := ⟨w.heap.size, 0, none⟩) hsz).trans hq0, (h.cell (p := ⟨w.heap.size, 1, none⟩) hsz).trans hq1, (h.cell (p := ⟨g, 0, none⟩) (Nat.lt_trans hgl hsz)).trans hq2, (h.cell (p := ⟨g, 1, none⟩) (Nat.lt_trans hgl hsz)).trans hq3, (h.cell (p := ⟨g, 2, none⟩) (Nat.lt_trans hgl hsz)).trans hq4, (h.cell (p := ⟨g, 3, none⟩) (Nat.lt_trans hgl hsz)).trans hq5⟩
  have VL : Hid (∀ w', Below w.heap.size w w' → Calls Try.prog 46 #[.pointer (some ⟨g, 0, none⟩)] w' fun e w'' => e = .returned (.int .i64 (Tr.node l1 y l2).ht) ∧ w'' = w') := fun w' h => levels_any (Tr.node l1 y l2) _ w' (hg'.ext h)
  have VR : Hid (∀ w', Below w.heap.size w w' → Calls Try.prog 46 #[.pointer ou] w' fun e w'' => e = .returned (.int .i64 o.ht) ∧ w'' = w') := fun w' h => levels_any o ou w' (ho.ext h)
  have J : Hid (∀ w', Below w0.heap.size w0 w' → Calls Try.prog 65 #[.pointer ou, .agg #[.int .i64 x.1, .int .i64 x.2], .pointer lu] w' fun e w'' => ∃ u, e = .returned (.pointer u) ∧ Hid (∃ t, Tin w'' t u ∧ Joined t o x l1) ∧ Below w0.heap.size w0 w'') := fun w' h => (ih ou lu w' ((ho.ext hb0).ext h) ((h2.ext hb0).ext h) (by simp only [wt_app, wt_cons]; omega)).mono fun _ _ ⟨u, t, k1, k2, k3, k4⟩ => ⟨u, k1, ⟨t, k2, k3⟩, ext_trans h k4⟩
  have LV : Hid (∀ u w', Hid (∃ t, Tin w' t u ∧ Joined t o x l1) → Below w0.heap.size w0 w' → Calls Try.prog 81 #[.pointer u, .agg #[.int .i64 y.1, .int .i64 y.2], .pointer ru] w' fun e w'' => ∃ u, e = .returned (.pointer u) ∧ Hid (∃ t, Tin w'' t u ∧ Joined t o x (.node l1 y l2)) ∧ Below w0.heap.size w0 w'') := fun u w' ht h => by
    obtain ⟨t, k1, k2⟩ := ht.out
    exact (level_any t l2 y u ru w' k1 ((h3.ext hb0).ext h) (by rw [k2.list]; simp only [wt_app, wt_cons]; omega)).mono fun _ _ ⟨u, t', q1, q2, q3, q4⟩ => ⟨u, q1, ⟨t', q2, Joined.downR h0 k2 q3⟩, ext_trans h q4⟩
  have e1 : (o.ht : Int) ≤ 4611686018427387904 := by omega
  have e2 : ((Tr.node l1 y l2).ht : Int) ≤ 4611686018427387904 := by omega
  have t1 : ¬ (1 : Int) < (o.ht : Int) - ((Tr.node l1 y l2).ht : Int) := by omega
  have t2 : (o.ht : Int) - ((Tr.node l1 y l2).ht : Int) < -1 := by omega
  clear hg hg' ho hw h0 h2 h3 b1 b2 b3 b4 hb0 ih
  generalize o.ht = m1 at *
  generalize (Tr.node l1 y l2).ht = m2 at *
  go_enter Try.func65, Try.ntmps65
  go_wp2_with (first | (go_at_call_of 46 g; refine (VL.out _ (by repeat (first | exact Below.refl _ _ | refine ext_alloc ?_ _ | apply Below.drew))).mono ?_; rintro e w1 ⟨rfl, rfl⟩) | (go_at_call_of 46 ou; refine (VR.out _ (by repeat (first | exact Below.refl _ _ | refine ext_alloc ?_ _ | apply Below.drew))).mono ?_; rintro e w1 ⟨rfl, rfl⟩))
  rw [← hw0]
  clear hw0
  have HB : Hid (Below w0.heap.size w0 w0) := Below.refl _ _
  go_region_held3 (fun w' => w'.cell? ⟨w.heap.size, 0, none⟩ = some (.int .i64 x.1) ∧ w'.cell? ⟨w.heap.size, 1, none⟩ = some (.int .i64 x.2) ∧ w'.cell? ⟨g, 0, none⟩ = some (.int .i64 y.1) ∧ w'.cell? ⟨g, 1, none⟩ = some (.int .i64 y.2) ∧ w'.cell? ⟨g, 2, none⟩ = some (.pointer lu) ∧ w'.cell? ⟨g, 3, none⟩ = some (.pointer ru)) (go_keep) (first
    | (go_at_call_of 65 x; refine (J.out _ (by repeat (first | exact HB.out | apply Below.drew))).mono ?_; rintro e w1 ⟨u1, rfl, T1, hb1⟩; clear hq0 hq1 hq2 hq3 hq4 hq5 HB; have HB : Hid (Below w0.heap.size w0 w1) := hb1; obtain ⟨hq0, hq1, hq2, hq3, hq4, hq5⟩ := HC.out w1 hb1; clear hb1)
    | (go_at_call_of 81 ru; refine (LV.out _ _ T1 (by repeat (first | exact HB.out | apply Below.drew))).mono ?_; rintro e w1 ⟨u2, rfl, T2, hb1⟩; clear hq0 hq1 hq2 hq3 hq4 hq5 HB; have HB : Hid (Below w0.heap.size w0 w1) := hb1; obtain ⟨hq0, hq1, hq2, hq3, hq4, hq5⟩ := HC.out w1 hb1; clear hb1))
  go_wp2_with fail
  go_ret
  obtain ⟨t, k1, k2⟩ := T2.out
  exact ⟨_, t, rfl, k1, k2, ext_trans HB0.out HB.out⟩

theorem join_any (n : Nat) : ∀ (l r : Tr It) (x : It) (lu ru : Option Addr) (w : World), l.list.length + r.list.length ≤ n → Tin w l lu → Tin w r ru → wt (l.list ++ x :: r.list) ≤ 4611686018427387904 →
    Calls Try.prog 65 #[.pointer lu, .agg #[.int .i64 x.1, .int .i64 x.2], .pointer ru] w fun e w' => ∃ u t, e = .returned (.pointer u) ∧ Tin w' t u ∧ Joined t l x r ∧ Below w.heap.size w w' := by
  induction n with
  | zero =>
    intro l r x lu ru w hn hl hr hw
    have h1 := l.ht_le
    have h2 := r.ht_le
    exact join_eq l r x lu ru w hl hr hw (by omega) (by omega)
  | succ n ih =>
    intro l r x lu ru w hn hl hr hw
    by_cases h1 : r.ht + 1 < l.ht
    · obtain ⟨l1, y, l2, rfl⟩ := Tr.ht_pos (t := l) (by omega)
      refine join_hi l1 l2 r y x lu ru w hl hr hw h1 (fun au bu w' ha hb hw' => ih l2 r x au bu w' ?_ ha hb hw')
      simp only [Tr.list, List.length_append, List.length_cons] at hn
      omega
    by_cases h2 : l.ht + 1 < r.ht
    · obtain ⟨l1, y, l2, rfl⟩ := Tr.ht_pos (t := r) (by omega)
      refine join_lo l1 l2 l y x ru lu w hr hl hw h2 (fun au bu w' ha hb hw' => ih l l1 x au bu w' ?_ ha hb hw')
      simp only [Tr.list, List.length_append, List.length_cons] at hn
      omega
    · exact join_eq l r x lu ru w hl hr hw (by omega) (by omega)
end Go.Proofs.Ytcdamhgblolofaa
