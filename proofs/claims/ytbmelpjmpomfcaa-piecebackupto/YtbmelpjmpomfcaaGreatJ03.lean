import Derived.Test.YtbmelpjmpomfcaaGreatJ02
import Derived.Deep.RegionHeld3
namespace Go.Proofs.YtbmelpjmpomfcaaGreat.P
open Go.RowKit

def ndrow (x : It) (lv rv : Option Addr) (n h : Nat) (s : Rs) : Array Value :=
  #[.slice x.p x.n x.c, .int .i64 x.pl, .int .i64 x.sp.a, .int .i64 x.sp.s, .int .i64 x.sp.b, .bool x.sp.lf, .bool x.sp.cr, .pointer lv, .pointer rv, .int .i64 n, .int .i64 h, .int .i64 s.a, .int .i64 s.s, .int .i64 s.b, .bool s.lf, .bool s.cr]
def Tin (w : World) : Tr It → Option Addr → Prop
  | ⟨none⟩, u => u = none
  | ⟨some (l, x, r)⟩, u => ∃ g lv rv, u = some ⟨g, 0, none⟩ ∧ w.heap[g]? = some (.cells (ndrow x lv rv (l.list ++ x :: r.list).length (max l.ht r.ht + 1) (rA.su (l.list ++ x :: r.list))) 182 (0, 0)) ∧ Tin w l lv ∧ Tin w r rv
theorem Tin.ext {w w' : World} (hb : Below w.heap.size w w') : ∀ {t : Tr It} {u : Option Addr}, Tin w t u → Tin w' t u
  | ⟨none⟩, _, h => h
  | ⟨some (l, x, r)⟩, _, ⟨g, lv, rv, hu, hg, hl, hr⟩ => ⟨g, lv, rv, hu, by rw [hb.block g (Array.getElem?_eq_some_iff.1 hg).1]; exact hg, Tin.ext hb hl, Tin.ext hb hr⟩

theorem count_any (t : Tr It) (u : Option Addr) (w : World) (h : Tin w t u) : Calls Tryz.prog 102 #[.pointer u] w fun e w' => e = .returned (.int .i64 t.list.length) ∧ w' = w := by
  cases t using Tr.ind with
  | nil =>
    simp only [Tin] at h
    subst h
    go_enter Tryz.func102, Tryz.ntmps102
    go_wp2_with fail
    go_ret
    exact ⟨rfl, rfl⟩
  | node l x r =>
    obtain ⟨g, lv, rv, rfl, hg, hl, hr⟩ := h
    have c4 : w.cell? ⟨g, 9, none⟩ = some (.int .i64 (l.list ++ x :: r.list).length) := by first | trivial | (refine ⟨?_, ?_, ?_, ?_, ?_, ?_, ?_⟩ <;> (rw [cell_of_row w g _ _ _ _ hg]; rfl)) | (refine ⟨?_, ?_, ?_, ?_, ?_⟩ <;> (rw [cell_of_row w g _ _ _ _ hg]; rfl)) | (rw [cell_of_row w g _ _ _ _ hg]; rfl)
    show Calls _ _ _ _ fun e w' => e = .returned (.int .i64 (l.list ++ x :: r.list).length) ∧ w' = w
    generalize (l.list ++ x :: r.list).length = n at *
    clear hg hl hr
    go_enter Tryz.func102, Tryz.ntmps102
    go_wp2_with fail
    go_ret
    exact ⟨rfl, rfl⟩
theorem levels_any (t : Tr It) (u : Option Addr) (w : World) (h : Tin w t u) : Calls Tryz.prog 142 #[.pointer u] w fun e w' => e = .returned (.int .i64 t.ht) ∧ w' = w := by
  cases t using Tr.ind with
  | nil =>
    simp only [Tin] at h
    subst h
    go_enter Tryz.func142, Tryz.ntmps142
    go_wp2_with fail
    go_ret
    exact ⟨rfl, rfl⟩
  | node l x r =>
    obtain ⟨g, lv, rv, rfl, hg, hl, hr⟩ := h
    have c4 : w.cell? ⟨g, 10, none⟩ = some (.int .i64 ((max l.ht r.ht + 1 : Nat) : Int)) := by first | trivial | (refine ⟨?_, ?_, ?_, ?_, ?_, ?_, ?_⟩ <;> (rw [cell_of_row w g _ _ _ _ hg]; rfl)) | (refine ⟨?_, ?_, ?_, ?_, ?_⟩ <;> (rw [cell_of_row w g _ _ _ _ hg]; rfl)) | (rw [cell_of_row w g _ _ _ _ hg]; rfl)
    show Calls _ _ _ _ fun e w' => e = .returned (.int .i64 ((max l.ht r.ht + 1 : Nat) : Int)) ∧ w' = w
    generalize (max l.ht r.ht + 1) = n at *
    clear hg hl hr
    go_enter Tryz.func142, Tryz.ntmps142
    go_wp2_with fail
    go_ret
    exact ⟨rfl, rfl⟩
theorem total_any (t : Tr It) (u : Option Addr) (w : World) (h : Tin w t u) : Calls Tryz.prog 96 #[.pointer u] w fun e w' => ∃ s, Hid (s = rA.su t.list) ∧ e = .returned (.agg #[.int .i64 s.a, .int .i64 s.s, .int .i64 s.b, .bool s.lf, .bool s.cr]) ∧ Below w.heap.size w w' := by
  cases t using Tr.ind with
  | nil =>
    simp only [Tin] at h
    subst h
    have HE : Hid (Rs.zero = rA.su (Tr.nil : Tr It).list) := rfl
    go_enter Tryz.func96, Tryz.ntmps96
    go_wp2_with fail
    exact bodyPost_ret (v := .agg #[.int .i64 0, .int .i64 0, .int .i64 0, .bool false, .bool false]) (by simp [results, Tryz.results96, go_sem]) rfl ⟨_, HE, rfl, ext_alloc (ext_alloc (Below.refl _ _) _) _⟩
  | node l x r =>
    obtain ⟨g, lv, rv, rfl, hg, hl, hr⟩ := h
    have HE : Hid (rA.su (l.list ++ x :: r.list) = rA.su (Tr.node l x r).list) := rfl
    have c4 : (w.cell? ⟨g, 11, none⟩ = some (.int .i64 (rA.su (l.list ++ x :: r.list)).a) ∧ w.cell? ⟨g, 12, none⟩ = some (.int .i64 (rA.su (l.list ++ x :: r.list)).s) ∧ w.cell? ⟨g, 13, none⟩ = some (.int .i64 (rA.su (l.list ++ x :: r.list)).b) ∧ w.cell? ⟨g, 14, none⟩ = some (.bool (rA.su (l.list ++ x :: r.list)).lf) ∧ w.cell? ⟨g, 15, none⟩ = some (.bool (rA.su (l.list ++ x :: r.list)).cr)) := by first | trivial | (refine ⟨?_, ?_, ?_, ?_, ?_, ?_, ?_⟩ <;> (rw [cell_of_row w g _ _ _ _ hg]; rfl)) | (refine ⟨?_, ?_, ?_, ?_, ?_⟩ <;> (rw [cell_of_row w g _ _ _ _ hg]; rfl)) | (rw [cell_of_row w g _ _ _ _ hg]; rfl)
    have c5 : True := by first | trivial | (refine ⟨?_, ?_, ?_, ?_, ?_, ?_, ?_⟩ <;> (rw [cell_of_row w g _ _ _ _ hg]; rfl)) | (refine ⟨?_, ?_, ?_, ?_, ?_⟩ <;> (rw [cell_of_row w g _ _ _ _ hg]; rfl)) | (rw [cell_of_row w g _ _ _ _ hg]; rfl)
    have c6 : True := by first | trivial | (refine ⟨?_, ?_, ?_, ?_, ?_, ?_, ?_⟩ <;> (rw [cell_of_row w g _ _ _ _ hg]; rfl)) | (refine ⟨?_, ?_, ?_, ?_, ?_⟩ <;> (rw [cell_of_row w g _ _ _ _ hg]; rfl)) | (rw [cell_of_row w g _ _ _ _ hg]; rfl)
    have c7 : True := by first | trivial | (refine ⟨?_, ?_, ?_, ?_, ?_, ?_, ?_⟩ <;> (rw [cell_of_row w g _ _ _ _ hg]; rfl)) | (refine ⟨?_, ?_, ?_, ?_, ?_⟩ <;> (rw [cell_of_row w g _ _ _ _ hg]; rfl)) | (rw [cell_of_row w g _ _ _ _ hg]; rfl)
    have hlt := (Array.getElem?_eq_some_iff.1 hg).1
    generalize rA.su (l.list ++ x :: r.list) = n at *
    clear hg hl hr
    go_enter Tryz.func96, Tryz.ntmps96
    go_wp2_with fail
    exact bodyPost_ret (v := .agg #[.int .i64 n.a, .int .i64 n.s, .int .i64 n.b, .bool n.lf, .bool n.cr]) (by simp [results, Tryz.results96, go_sem]) rfl ⟨_, HE, rfl, ext_alloc (Below.refl _ _) _⟩
end Go.Proofs.YtbmelpjmpomfcaaGreat.P

namespace Go.Proofs.YtbmelpjmpomfcaaGreat.P
open Go.RowKit

set_option maxRecDepth 100000 in
set_option maxHeartbeats 2000000 in
theorem branch_any (l r : Tr It) (x : It) (lu ru : Option Addr) (w : World) (hl : Tin w l lu) (hr : Tin w r ru) (hw : wt (l.list ++ x :: r.list) ≤ 4611686018427387904) :
    Calls Tryz.prog 126 #[.pointer lu, .agg #[.slice x.p x.n x.c, .int .i64 x.pl, .int .i64 x.sp.a, .int .i64 x.sp.s, .int .i64 x.sp.b, .bool x.sp.lf, .bool x.sp.cr], .pointer ru] w fun e w' => ∃ u, e = .returned (.pointer u) ∧ Tin w' (.node l x r) u ∧ Below w.heap.size w w' := by
  obtain ⟨w0, hw0⟩ : ∃ w0, w0 = w.alloc (.cells #[.slice x.p x.n x.c, .int .i64 x.pl, .int .i64 x.sp.a, .int .i64 x.sp.s, .int .i64 x.sp.b, .bool x.sp.lf, .bool x.sp.cr] 122) := ⟨_, rfl⟩
  have hb0 : Below w.heap.size w w0 := by rw [hw0]; exact ext_alloc (Below.refl _ _) _
  have HB0 : Hid (Below w.heap.size w w0) := hb0
  have hsz : w.heap.size < w0.heap.size := by first | trivial | (rw [hw0]; simp)
  have hc1 : (w0.cell? ⟨w.heap.size, 0, none⟩ = some (.slice x.p x.n x.c) ∧ w0.cell? ⟨w.heap.size, 1, none⟩ = some (.int .i64 x.pl) ∧ w0.cell? ⟨w.heap.size, 2, none⟩ = some (.int .i64 x.sp.a) ∧ w0.cell? ⟨w.heap.size, 3, none⟩ = some (.int .i64 x.sp.s) ∧ w0.cell? ⟨w.heap.size, 4, none⟩ = some (.int .i64 x.sp.b) ∧ w0.cell? ⟨w.heap.size, 5, none⟩ = some (.bool x.sp.lf) ∧ w0.cell? ⟨w.heap.size, 6, none⟩ = some (.bool x.sp.cr)) := by first | trivial | (rw [hw0]; simp)
  have hc2 : True := by first | trivial | (rw [hw0]; simp)
  have HC : Hid (∀ w', Below w0.heap.size w0 w' → (w'.cell? ⟨w.heap.size, 0, none⟩ = some (.slice x.p x.n x.c) ∧ w'.cell? ⟨w.heap.size, 1, none⟩ = some (.int .i64 x.pl) ∧ w'.cell? ⟨w.heap.size, 2, none⟩ = some (.int .i64 x.sp.a) ∧ w'.cell? ⟨w.heap.size, 3, none⟩ = some (.int .i64 x.sp.s) ∧ w'.cell? ⟨w.heap.size, 4, none⟩ = some (.int .i64 x.sp.b) ∧ w'.cell? ⟨w.heap.size, 5, none⟩ = some (.bool x.sp.lf) ∧ w'.cell? ⟨w.heap.size, 6, none⟩ = some (.bool x.sp.cr)) ∧ True) := fun w' hw =>
    ⟨(by first | trivial | exact C7.ext hw hsz hc1 | exact C5.ext hw hsz hc1 | exact (hw.cell (p := ⟨w.heap.size, 0, none⟩) hsz).trans hc1 | exact (hw.cell (p := ⟨w.heap.size, 0, none⟩) hsz).trans hc1), (by first | trivial | exact C7.ext hw hsz hc2 | exact C5.ext hw hsz hc2 | exact (hw.cell (p := ⟨w.heap.size, 1, none⟩) hsz).trans hc2 | exact (hw.cell (p := ⟨w.heap.size, 1, none⟩) hsz).trans hc2)⟩
  have e1 := wt_app l.list (x :: r.list)
  rw [wt_cons] at e1
  have b1 := wt_len l.list
  have b2 := wt_len r.list
  have b3 := l.ht_le
  have b4 := r.ht_le
  have LL := hl.ext hb0
  have RR := hr.ext hb0
  have KL : Hid (∀ w', Below w0.heap.size w0 w' → Calls Tryz.prog 102 #[.pointer lu] w' fun e w'' => e = .returned (.int .i64 l.list.length) ∧ w'' = w') := fun w' h => count_any l lu w' (LL.ext h)
  have KR : Hid (∀ w', Below w0.heap.size w0 w' → Calls Tryz.prog 102 #[.pointer ru] w' fun e w'' => e = .returned (.int .i64 r.list.length) ∧ w'' = w') := fun w' h => count_any r ru w' (RR.ext h)
  have VL : Hid (∀ w', Below w0.heap.size w0 w' → Calls Tryz.prog 142 #[.pointer lu] w' fun e w'' => e = .returned (.int .i64 l.ht) ∧ w'' = w') := fun w' h => levels_any l lu w' (LL.ext h)
  have VR : Hid (∀ w', Below w0.heap.size w0 w' → Calls Tryz.prog 142 #[.pointer ru] w' fun e w'' => e = .returned (.int .i64 r.ht) ∧ w'' = w') := fun w' h => levels_any r ru w' (RR.ext h)
  have TL : Hid (∀ w', Below w0.heap.size w0 w' → Calls Tryz.prog 96 #[.pointer lu] w' fun e w'' => ∃ s, Hid (s = rA.su l.list) ∧ e = .returned (.agg #[.int .i64 s.a, .int .i64 s.s, .int .i64 s.b, .bool s.lf, .bool s.cr]) ∧ Below w0.heap.size w0 w'') := fun w' h => (total_any l lu w' (LL.ext h)).mono fun _ _ ⟨s, h1, h2, h3⟩ => ⟨s, h1, h2, ext_trans h h3⟩
  have TR : Hid (∀ w', Below w0.heap.size w0 w' → Calls Tryz.prog 96 #[.pointer ru] w' fun e w'' => ∃ s, Hid (s = rA.su r.list) ∧ e = .returned (.agg #[.int .i64 s.a, .int .i64 s.s, .int .i64 s.b, .bool s.lf, .bool s.cr]) ∧ Below w0.heap.size w0 w'') := fun w' h => (total_any r ru w' (RR.ext h)).mono fun _ _ ⟨s, h1, h2, h3⟩ => ⟨s, h1, h2, ext_trans h h3⟩
  have MM : Hid (∀ w', Below w0.heap.size w0 w' → Calls Tryz.prog 171 #[.agg #[.slice x.p x.n x.c, .int .i64 x.pl, .int .i64 x.sp.a, .int .i64 x.sp.s, .int .i64 x.sp.b, .bool x.sp.lf, .bool x.sp.cr]] w' fun e w'' => ∃ s, Hid (s = rA.su [x]) ∧ e = .returned (.agg #[.int .i64 s.a, .int .i64 s.s, .int .i64 s.b, .bool s.lf, .bool s.cr]) ∧ Below w0.heap.size w0 w'') := fun w' h => (Measure_any x w').mono fun _ _ ⟨s, h1, h2, h3⟩ => ⟨s, h1.out.trans (su_one x).symm, h2, ext_trans h h3⟩
  have A1 : Hid (∀ s t, Hid (s = rA.su l.list) → Hid (t = rA.su [x]) → ∀ w', Below w0.heap.size w0 w' → Calls Tryz.prog 69 #[.agg #[.int .i64 s.a, .int .i64 s.s, .int .i64 s.b, .bool s.lf, .bool s.cr], .agg #[.int .i64 t.a, .int .i64 t.s, .int .i64 t.b, .bool t.lf, .bool t.cr]] w' fun e w'' => ∃ q, Hid (q = rA.su (l.list ++ [x])) ∧ e = .returned (.agg #[.int .i64 q.a, .int .i64 q.s, .int .i64 q.b, .bool q.lf, .bool q.cr]) ∧ Below w0.heap.size w0 w'') := fun s t hs ht w' h => (add_su _ _ s t w' hs ht (by rw [wt_app, wt_cons, wt_nil]; omega)).mono fun _ _ ⟨s, h1, h2, h3⟩ => ⟨s, h1, h2, ext_trans h h3⟩
  have A2 : Hid (∀ s t, Hid (s = rA.su (l.list ++ [x])) → Hid (t = rA.su r.list) → ∀ w', Below w0.heap.size w0 w' → Calls Tryz.prog 69 #[.agg #[.int .i64 s.a, .int .i64 s.s, .int .i64 s.b, .bool s.lf, .bool s.cr], .agg #[.int .i64 t.a, .int .i64 t.s, .int .i64 t.b, .bool t.lf, .bool t.cr]] w' fun e w'' => ∃ q, Hid (q = rA.su (l.list ++ x :: r.list)) ∧ e = .returned (.agg #[.int .i64 q.a, .int .i64 q.s, .int .i64 q.b, .bool q.lf, .bool q.cr]) ∧ Below w0.heap.size w0 w'') := fun s t hs ht w' h => (add_su _ _ s t w' hs ht (by simpa using hw)).mono fun _ _ ⟨s, h1, h2, h3⟩ => ⟨s, by rw [List.append_assoc] at h1; exact h1, h2, ext_trans h h3⟩
  have HEND : Hid (∀ q w', Hid (q = rA.su (l.list ++ x :: r.list)) → Below w0.heap.size w0 w' → Tin (w'.alloc (.cells (ndrow x lu ru (l.list.length + 1 + r.list.length) (max l.ht r.ht + 1) q) 182)) (.node l x r) (some ⟨w'.heap.size, 0, none⟩)) := fun q w' hq h =>
    ⟨w'.heap.size, lu, ru, rfl, by rw [heap_alloc_new, hq.out, show l.list.length + 1 + r.list.length = (l.list ++ x :: r.list).length by simp; omega], (LL.ext h).ext (ext_alloc (Below.refl _ _) _), (RR.ext h).ext (ext_alloc (Below.refl _ _) _)⟩
  have hmt1 := m_meas
  have hmt2 := m_add
  have hnt1 := n_meas
  have hnt2 := n_add
  have hmax : max l.ht r.ht + 1 ≤ 4611686018427387905 := by omega
  have hsum : l.list.length + 1 + r.list.length ≤ 4611686018427387904 := by omega
  clear hl hr hw LL RR e1 b1 b2 b3 b4 hb0
  generalize l.list.length = nl at *
  generalize r.list.length = nr at *
  generalize l.ht = hl at *
  generalize r.ht = hr at *
  generalize rA.su l.list = sl at *
  generalize rA.su r.list = sr at *
  generalize rA.su [x] = sx at *
  generalize rA.su (l.list ++ [x]) = s1 at *
  generalize rA.su (l.list ++ x :: r.list) = s2 at *
  have hw1 : IntKind.i64.wrap ((nl : Int) + 1) = ((nl + 1 : Nat) : Int) := by rw [IntKind.wrap_i64]; omega
  have hw2 : IntKind.i64.wrap (((nl + 1 : Nat) : Int) + nr) = ((nl + 1 + nr : Nat) : Int) := by rw [IntKind.wrap_i64]; omega
  have hw3 : IntKind.i64.wrap (((max hl hr : Nat) : Int) + 1) = ((max hl hr + 1 : Nat) : Int) := by rw [IntKind.wrap_i64]; omega
  obtain ⟨n1, hn1⟩ : ∃ n1 : Nat, n1 = nl + 1 := ⟨_, rfl⟩
  obtain ⟨n2, hn2⟩ : ∃ n2 : Nat, n2 = n1 + nr := ⟨_, rfl⟩
  obtain ⟨h1, hh1⟩ : ∃ h1 : Nat, h1 = max hl hr := ⟨_, rfl⟩
  obtain ⟨h2, hh2⟩ : ∃ h2 : Nat, h2 = h1 + 1 := ⟨_, rfl⟩
  have HH1 : Hid (h1 = max hl hr) := hh1
  rw [← hn1, ← hn2, ← hh1, ← hh2] at HEND
  rw [← hn1] at hw1 hw2
  rw [← hn2] at hw2
  rw [← hh1, ← hh2] at hw3
  clear hn1 hn2 hh1 hh2 hmax hsum
  go_enter Tryz.func126, Tryz.ntmps126
  go_wp2_with fail
  rw [← hw0]
  clear hw0
  have HB : Hid (Below w0.heap.size w0 w0) := Below.refl _ _
  refine wp_region_held_drew (S := fun w' => (w'.cell? ⟨w.heap.size, 0, none⟩ = some (.slice x.p x.n x.c) ∧ w'.cell? ⟨w.heap.size, 1, none⟩ = some (.int .i64 x.pl) ∧ w'.cell? ⟨w.heap.size, 2, none⟩ = some (.int .i64 x.sp.a) ∧ w'.cell? ⟨w.heap.size, 3, none⟩ = some (.int .i64 x.sp.s) ∧ w'.cell? ⟨w.heap.size, 4, none⟩ = some (.int .i64 x.sp.b) ∧ w'.cell? ⟨w.heap.size, 5, none⟩ = some (.bool x.sp.lf) ∧ w'.cell? ⟨w.heap.size, 6, none⟩ = some (.bool x.sp.cr)) ∧ True) (by kernel_rfl) (by first | exact ⟨hc1, hc2⟩ | (dsimp only; go_keep)) (fun hHeld => ?_)
  refine tkH (v := ?_) 0 rfl ?_ ?_; rotate_left 1
  · intro wq hSw; (try dsimp only at hSw); go_simp; try (with_reducible rfl)
  try simp only [Act.put, sA4]
  refine tkH (v := ?_) 1 rfl ?_ ?_; rotate_left 1
  · intro wq hSw; (try dsimp only at hSw); go_simp; try (with_reducible rfl)
  try simp only [Act.put]
  refine tkH (v := ?_) 2 rfl ?_ ?_; rotate_left 1
  · intro wq hSw; (try dsimp only at hSw); go_simp; try (with_reducible rfl)
  try simp only [Act.put]
  refine tkH (v := ?_) 3 rfl ?_ ?_; rotate_left 1
  · intro wq hSw; (try dsimp only at hSw); go_simp; try (with_reducible rfl)
  try simp only [Act.put]
  refine tkH (v := ?_) 6 rfl ?_ ?_; rotate_left 1
  · intro wq hSw; (try dsimp only at hSw); go_simp; try (with_reducible rfl)
  try simp only [Act.put]
  refine tkH (v := ?_) 9 rfl ?_ ?_; rotate_left 1
  · intro wq hSw; (try dsimp only at hSw); go_simp; try (with_reducible rfl)
  try simp only [Act.put]
  refine tkH (v := ?_) 11 rfl ?_ ?_; rotate_left 1
  · intro wq hSw; (try dsimp only at hSw); go_simp; try (with_reducible rfl)
  try simp only [Act.put]
  refine tkH (v := ?_) 15 rfl ?_ ?_; rotate_left 1
  · intro wq hSw; (try dsimp only at hSw); go_simp; try (with_reducible rfl)
  try simp only [Act.put]
  refine tkH (v := ?_) 18 rfl ?_ ?_; rotate_left 1
  · intro wq hSw; (try dsimp only at hSw); go_simp; try (with_reducible rfl)
  try simp only [Act.put]
  refine tkH (v := ?_) 19 rfl ?_ ?_; rotate_left 1
  · intro wq hSw; (try dsimp only at hSw); go_simp; try (with_reducible rfl)
  try simp only [Act.put]
  refine tkH (v := ?_) 23 rfl ?_ ?_; rotate_left 1
  · intro wq hSw; (try dsimp only at hSw); go_simp; try (with_reducible rfl)
  try simp only [Act.put]
  refine wpAnyH_ready (rs := [4]) (by kernel_rfl) (by simp) ?_
  refine AllReadyH.cons (o := _) rfl (fun K hK => ?_) AllReadyH.nil
  go_simp
  refine (KL.out _ (by repeat (first | exact HB.out | apply Below.drew))).mono ?_; rintro e w1 ⟨rfl, rfl⟩; try go_wp2_with fail
  refine hK.out _ _ (by first | exact ⟨hc1, hc2⟩ | (dsimp only; go_keep)) (fun hHeld => ?_)
  clear hK K
  try simp only [Act.put, sA4, sA5, sA6]
  refine tkH (v := ?_) 5 rfl ?_ ?_; rotate_left 1
  · intro wq hSw; (try dsimp only at hSw); go_simp; try (with_reducible rfl)
  try simp only [Act.put, sA4]
  refine wpAnyH_ready (rs := [7]) (by kernel_rfl) (by simp) ?_
  refine AllReadyH.cons (o := _) rfl (fun K hK => ?_) AllReadyH.nil
  go_simp
  refine (KR.out _ (by repeat (first | exact HB.out | apply Below.drew))).mono ?_; rintro e w1 ⟨rfl, rfl⟩; try go_wp2_with fail
  refine hK.out _ _ (by first | exact ⟨hc1, hc2⟩ | (dsimp only; go_keep)) (fun hHeld => ?_)
  clear hK K
  try simp only [Act.put, sA4, sA5, sA6]
  refine tkH (v := ?_) 8 rfl ?_ ?_; rotate_left 1
  · intro wq hSw; (try dsimp only at hSw); go_simp; try (with_reducible rfl)
  try simp only [Act.put, sA4]
  refine wpAnyH_ready (rs := [10]) (by kernel_rfl) (by simp) ?_
  refine AllReadyH.cons (o := _) rfl (fun K hK => ?_) AllReadyH.nil
  go_simp
  refine (VL.out _ (by repeat (first | exact HB.out | apply Below.drew))).mono ?_; rintro e w1 ⟨rfl, rfl⟩; try go_wp2_with fail
  refine hK.out _ _ (by first | exact ⟨hc1, hc2⟩ | (dsimp only; go_keep)) (fun hHeld => ?_)
  clear hK K
  try simp only [Act.put, sA4, sA5, sA6]
  refine wpAnyH_ready (rs := [12]) (by kernel_rfl) (by simp) ?_
  refine AllReadyH.cons (o := _) rfl (fun K hK => ?_) AllReadyH.nil
  go_simp
  refine (VR.out _ (by repeat (first | exact HB.out | apply Below.drew))).mono ?_; rintro e w1 ⟨rfl, rfl⟩; try go_wp2_with fail
  refine hK.out _ _ (by first | exact ⟨hc1, hc2⟩ | (dsimp only; go_keep)) (fun hHeld => ?_)
  clear hK K
  try simp only [Act.put, sA4, sA5, sA6]
  refine wpAnyH_take (i := 13) (oi := _) (v := Value.int .i64 (h1 : Int)) rfl (by kernel_rfl) (by kernel_rfl) (by kernel_rfl) (fun _ _ _ h => h) (Or.inl ⟨by rfl, ?_⟩) (by assumption) ?_
  · intro wq hSw; (try dsimp only at hSw); go_simp; (try split) <;> (have := HH1.out; congr 3; omega)
  try simp only [Act.put, sA4]
  refine tkH (v := ?_) 14 rfl ?_ ?_; rotate_left 1
  · intro wq hSw; (try dsimp only at hSw); go_simp; try (with_reducible rfl)
  try simp only [Act.put]
  refine wpAnyH_ready (rs := [16]) (by kernel_rfl) (by simp) ?_
  refine AllReadyH.cons (o := _) rfl (fun K hK => ?_) AllReadyH.nil
  go_simp
  refine (TL.out _ (by repeat (first | exact HB.out | apply Below.drew))).mono ?_; rintro e w1 ⟨q1, HL, rfl, hb1⟩; clear hc1 hc2 HB hHeld; have HB : Hid (Below w0.heap.size w0 w1) := hb1; obtain ⟨hc1, hc2⟩ := HC.out w1 hb1; clear hb1; try go_wp2_with fail
  refine hK.out _ _ (by first | exact ⟨hc1, hc2⟩ | (dsimp only; go_keep)) (fun hHeld => ?_)
  clear hK K
  try simp only [Act.put, sA4, sA5, sA6]
  refine tkH (v := ?_) 17 rfl ?_ ?_; rotate_left 1
  · intro wq hSw; (try dsimp only at hSw); go_simp; try (with_reducible rfl)
  try simp only [Act.put, sA4]
  refine wpAnyH_ready (rs := [20]) (by kernel_rfl) (by simp) ?_
  refine AllReadyH.cons (o := _) rfl (fun K hK => ?_) AllReadyH.nil
  go_simp
  refine (MM.out _ (by repeat (first | exact HB.out | apply Below.drew))).mono ?_; rintro e w1 ⟨q3, HM, rfl, hb1⟩; clear hc1 hc2 HB hHeld; have HB : Hid (Below w0.heap.size w0 w1) := hb1; obtain ⟨hc1, hc2⟩ := HC.out w1 hb1; clear hb1; try go_wp2_with fail
  refine hK.out _ _ (by first | exact ⟨hc1, hc2⟩ | (dsimp only; go_keep)) (fun hHeld => ?_)
  clear hK K
  try simp only [Act.put, sA4, sA5, sA6]
  refine wpAnyH_ready (rs := [21]) (by kernel_rfl) (by simp) ?_
  refine AllReadyH.cons (o := _) rfl (fun K hK => ?_) AllReadyH.nil
  go_simp
  refine (A1.out _ _ HL HM _ (by repeat (first | exact HB.out | apply Below.drew))).mono ?_; rintro e w1 ⟨q4, H1, rfl, hb1⟩; clear hc1 hc2 HB hHeld; have HB : Hid (Below w0.heap.size w0 w1) := hb1; obtain ⟨hc1, hc2⟩ := HC.out w1 hb1; clear hb1; try go_wp2_with fail
  refine hK.out _ _ (by first | exact ⟨hc1, hc2⟩ | (dsimp only; go_keep)) (fun hHeld => ?_)
  clear hK K
  try simp only [Act.put, sA4, sA5, sA6]
  refine tkH (v := ?_) 22 rfl ?_ ?_; rotate_left 1
  · intro wq hSw; (try dsimp only at hSw); go_simp; try (with_reducible rfl)
  try simp only [Act.put, sA4]
  refine wpAnyH_ready (rs := [24]) (by kernel_rfl) (by simp) ?_
  refine AllReadyH.cons (o := _) rfl (fun K hK => ?_) AllReadyH.nil
  go_simp
  refine (TR.out _ (by repeat (first | exact HB.out | apply Below.drew))).mono ?_; rintro e w1 ⟨q2, HR, rfl, hb1⟩; clear hc1 hc2 HB hHeld; have HB : Hid (Below w0.heap.size w0 w1) := hb1; obtain ⟨hc1, hc2⟩ := HC.out w1 hb1; clear hb1; try go_wp2_with fail
  refine hK.out _ _ (by first | exact ⟨hc1, hc2⟩ | (dsimp only; go_keep)) (fun hHeld => ?_)
  clear hK K
  try simp only [Act.put, sA4, sA5, sA6]
  refine wpAnyH_ready (rs := [25]) (by kernel_rfl) (by simp) ?_
  refine AllReadyH.cons (o := _) rfl (fun K hK => ?_) AllReadyH.nil
  go_simp
  refine (A2.out _ _ H1 HR _ (by repeat (first | exact HB.out | apply Below.drew))).mono ?_; rintro e w1 ⟨q5, H2, rfl, hb1⟩; clear hc1 hc2 HB hHeld; have HB : Hid (Below w0.heap.size w0 w1) := hb1; obtain ⟨hc1, hc2⟩ := HC.out w1 hb1; clear hb1; try go_wp2_with fail
  refine hK.out _ _ (by first | exact ⟨hc1, hc2⟩ | (dsimp only; go_keep)) (fun hHeld => ?_)
  clear hK K
  try simp only [Act.put, sA4, sA5, sA6]
  refine tkH (v := ?_) 26 rfl ?_ ?_; rotate_left 1
  · intro wq hSw; (try dsimp only at hSw); go_simp; try (with_reducible rfl)
  try simp only [Act.put, sA4]
  refine wpAnyH_ready (rs := [27]) (by kernel_rfl) (by simp) ?_
  refine AllReadyH.cons (o := _) rfl (fun K hK => ?_) AllReadyH.nil
  go_simp
  refine hK.out _ _ (HC.out _ (by repeat (first | exact HB.out | apply Below.drew | refine ext_alloc ?_ _))) (fun hHeld => ?_)
  clear hK K
  try simp only [Act.put, sA4, sA5, sA6]
  refine wpAnyH_ready (rs := [28]) (by kernel_rfl) (by simp) ?_
  refine AllReadyH.cons (o := _) rfl (fun K hK => ?_) AllReadyH.nil
  go_simp
  refine hK.out _ _ (HC.out _ (by repeat (first | exact HB.out | apply Below.drew | refine ext_alloc ?_ _))) (fun hHeld => ?_)
  clear hK K
  try simp only [Act.put, sA4, sA5, sA6]
  refine wpAnyH_done (by kernel_rfl) ?_ _
  go_wp2_with fail
  go_ret
  exact ⟨_, rfl, HEND.out q5 w1 H2 HB.out, by repeat (first | exact HB0.out | exact HB.out | refine ext_trans HB0.out ?_ | refine ext_alloc ?_ _)⟩
end Go.Proofs.YtbmelpjmpomfcaaGreat.P

namespace Go.Proofs.YtbmelpjmpomfcaaGreat.P
open Go.RowKit

theorem Tin.lt {w : World} {l r : Tr It} {x : It} {u : Option Addr} (h : Tin w (.node l x r) u) : ∃ g lv rv, u = some ⟨g, 0, none⟩ ∧ g < w.heap.size ∧ Tin w l lv ∧ Tin w r rv ∧
    (w.cell? ⟨g, 0, none⟩ = some (.slice x.p x.n x.c) ∧ w.cell? ⟨g, 1, none⟩ = some (.int .i64 x.pl) ∧ w.cell? ⟨g, 2, none⟩ = some (.int .i64 x.sp.a) ∧ w.cell? ⟨g, 3, none⟩ = some (.int .i64 x.sp.s) ∧ w.cell? ⟨g, 4, none⟩ = some (.int .i64 x.sp.b) ∧ w.cell? ⟨g, 5, none⟩ = some (.bool x.sp.lf) ∧ w.cell? ⟨g, 6, none⟩ = some (.bool x.sp.cr)) ∧ True ∧ w.cell? ⟨g, 7, none⟩ = some (.pointer lv) ∧ w.cell? ⟨g, 8, none⟩ = some (.pointer rv) := by
  obtain ⟨g, lv, rv, hu, hg, hl, hr⟩ := h
  refine ⟨g, lv, rv, hu, (Array.getElem?_eq_some_iff.1 hg).1, hl, hr, ?_, ?_, ?_, ?_⟩
  · first | trivial | (refine ⟨?_, ?_, ?_, ?_, ?_, ?_, ?_⟩ <;> (rw [cell_of_row w g _ _ _ _ hg]; rfl)) | (refine ⟨?_, ?_, ?_, ?_, ?_⟩ <;> (rw [cell_of_row w g _ _ _ _ hg]; rfl)) | (rw [cell_of_row w g _ _ _ _ hg]; rfl)
  · first | trivial | (refine ⟨?_, ?_, ?_, ?_, ?_, ?_, ?_⟩ <;> (rw [cell_of_row w g _ _ _ _ hg]; rfl)) | (refine ⟨?_, ?_, ?_, ?_, ?_⟩ <;> (rw [cell_of_row w g _ _ _ _ hg]; rfl)) | (rw [cell_of_row w g _ _ _ _ hg]; rfl)
  · first | trivial | (refine ⟨?_, ?_, ?_, ?_, ?_, ?_, ?_⟩ <;> (rw [cell_of_row w g _ _ _ _ hg]; rfl)) | (refine ⟨?_, ?_, ?_, ?_, ?_⟩ <;> (rw [cell_of_row w g _ _ _ _ hg]; rfl)) | (rw [cell_of_row w g _ _ _ _ hg]; rfl)
  · first | trivial | (refine ⟨?_, ?_, ?_, ?_, ?_, ?_, ?_⟩ <;> (rw [cell_of_row w g _ _ _ _ hg]; rfl)) | (refine ⟨?_, ?_, ?_, ?_, ?_⟩ <;> (rw [cell_of_row w g _ _ _ _ hg]; rfl)) | (rw [cell_of_row w g _ _ _ _ hg]; rfl)
theorem br_at {w0 w' : World} {l r : Tr It} {x : It} {lu ru : Option Addr} (hb : Below w0.heap.size w0 w') (hl : Tin w' l lu) (hr : Tin w' r ru) (hw : wt (l.list ++ x :: r.list) ≤ 4611686018427387904) :
    Calls Tryz.prog 126 #[.pointer lu, .agg #[.slice x.p x.n x.c, .int .i64 x.pl, .int .i64 x.sp.a, .int .i64 x.sp.s, .int .i64 x.sp.b, .bool x.sp.lf, .bool x.sp.cr], .pointer ru] w' fun e w'' => ∃ u, e = .returned (.pointer u) ∧ Hid (Tin w'' (.node l x r) u) ∧ Below w0.heap.size w0 w'' :=
  (branch_any l r x lu ru w' hl hr hw).mono fun _ _ ⟨u, h1, h2, h3⟩ => ⟨u, h1, h2, ext_trans hb h3⟩

set_option maxRecDepth 100000 in
set_option maxHeartbeats 2000000 in
theorem turn_right1 (l1 l2 : Tr It) (y : It) (o : Tr It) (x : It) (gu ou : Option Addr) (w : World) (hg : Tin w (.node l1 y l2) gu) (ho : Tin w o ou) (hw : wt ((l1.list ++ y :: l2.list) ++ x :: o.list) ≤ 4611686018427387904) (h0 : o.ht + 1 < (Tr.node l1 y l2).ht) (h1 : l2.ht ≤ l1.ht) :
    Calls Tryz.prog 150 #[.pointer gu, .agg #[.slice x.p x.n x.c, .int .i64 x.pl, .int .i64 x.sp.a, .int .i64 x.sp.s, .int .i64 x.sp.b, .bool x.sp.lf, .bool x.sp.cr], .pointer ou] w fun e w' => ∃ u t, e = .returned (.pointer u) ∧ Tin w' t u ∧ Made t (.node l1 y l2) x o ∧ Below w.heap.size w w' := by
  have HM := Made.right1 (x := x) h0 h1
  have HM : Hid _ := HM
  obtain ⟨g, lu, ru, rfl, hgl, h2, h3, c0, c1, c2, c3⟩ := hg.lt
  obtain ⟨w0, hw0⟩ : ∃ w0, w0 = w.alloc (.cells #[.slice x.p x.n x.c, .int .i64 x.pl, .int .i64 x.sp.a, .int .i64 x.sp.s, .int .i64 x.sp.b, .bool x.sp.lf, .bool x.sp.cr] 122) := ⟨_, rfl⟩
  have hb0 : Below w.heap.size w w0 := by rw [hw0]; exact ext_alloc (Below.refl _ _) _
  have HB0 : Hid (Below w.heap.size w w0) := hb0
  have hsz : w.heap.size < w0.heap.size := by first | trivial | (rw [hw0]; simp)
  have hq0 : (w0.cell? ⟨w.heap.size, 0, none⟩ = some (.slice x.p x.n x.c) ∧ w0.cell? ⟨w.heap.size, 1, none⟩ = some (.int .i64 x.pl) ∧ w0.cell? ⟨w.heap.size, 2, none⟩ = some (.int .i64 x.sp.a) ∧ w0.cell? ⟨w.heap.size, 3, none⟩ = some (.int .i64 x.sp.s) ∧ w0.cell? ⟨w.heap.size, 4, none⟩ = some (.int .i64 x.sp.b) ∧ w0.cell? ⟨w.heap.size, 5, none⟩ = some (.bool x.sp.lf) ∧ w0.cell? ⟨w.heap.size, 6, none⟩ = some (.bool x.sp.cr)) := by first | trivial | (rw [hw0]; simp)
  have hq1 : True := by first | trivial | (rw [hw0]; simp)
  have hq2 : (w0.cell? ⟨g, 0, none⟩ = some (.slice y.p y.n y.c) ∧ w0.cell? ⟨g, 1, none⟩ = some (.int .i64 y.pl) ∧ w0.cell? ⟨g, 2, none⟩ = some (.int .i64 y.sp.a) ∧ w0.cell? ⟨g, 3, none⟩ = some (.int .i64 y.sp.s) ∧ w0.cell? ⟨g, 4, none⟩ = some (.int .i64 y.sp.b) ∧ w0.cell? ⟨g, 5, none⟩ = some (.bool y.sp.lf) ∧ w0.cell? ⟨g, 6, none⟩ = some (.bool y.sp.cr)) := (by first | trivial | exact C7.ext hb0 hgl c0 | exact C5.ext hb0 hgl c0 | exact (hb0.cell (p := ⟨g, 0, none⟩) hgl).trans c0 | exact (hb0.cell (p := ⟨g, 0, none⟩) hgl).trans c0)
  have hq3 : True := (by first | trivial | exact C7.ext hb0 hgl c1 | exact C5.ext hb0 hgl c1 | exact (hb0.cell (p := ⟨g, 1, none⟩) hgl).trans c1 | exact (hb0.cell (p := ⟨g, 1, none⟩) hgl).trans c1)
  have hq4 : w0.cell? ⟨g, 7, none⟩ = some (.pointer lu) := (by first | trivial | exact C7.ext hb0 hgl c2 | exact C5.ext hb0 hgl c2 | exact (hb0.cell (p := ⟨g, 7, none⟩) hgl).trans c2 | exact (hb0.cell (p := ⟨g, 2, none⟩) hgl).trans c2)
  have hq5 : w0.cell? ⟨g, 8, none⟩ = some (.pointer ru) := (by first | trivial | exact C7.ext hb0 hgl c3 | exact C5.ext hb0 hgl c3 | exact (hb0.cell (p := ⟨g, 8, none⟩) hgl).trans c3 | exact (hb0.cell (p := ⟨g, 3, none⟩) hgl).trans c3)
  have HC : Hid (∀ w', Below w0.heap.size w0 w' → (w'.cell? ⟨w.heap.size, 0, none⟩ = some (.slice x.p x.n x.c) ∧ w'.cell? ⟨w.heap.size, 1, none⟩ = some (.int .i64 x.pl) ∧ w'.cell? ⟨w.heap.size, 2, none⟩ = some (.int .i64 x.sp.a) ∧ w'.cell? ⟨w.heap.size, 3, none⟩ = some (.int .i64 x.sp.s) ∧ w'.cell? ⟨w.heap.size, 4, none⟩ = some (.int .i64 x.sp.b) ∧ w'.cell? ⟨w.heap.size, 5, none⟩ = some (.bool x.sp.lf) ∧ w'.cell? ⟨w.heap.size, 6, none⟩ = some (.bool x.sp.cr)) ∧ True ∧ (w'.cell? ⟨g, 0, none⟩ = some (.slice y.p y.n y.c) ∧ w'.cell? ⟨g, 1, none⟩ = some (.int .i64 y.pl) ∧ w'.cell? ⟨g, 2, none⟩ = some (.int .i64 y.sp.a) ∧ w'.cell? ⟨g, 3, none⟩ = some (.int .i64 y.sp.s) ∧ w'.cell? ⟨g, 4, none⟩ = some (.int .i64 y.sp.b) ∧ w'.cell? ⟨g, 5, none⟩ = some (.bool y.sp.lf) ∧ w'.cell? ⟨g, 6, none⟩ = some (.bool y.sp.cr)) ∧ True ∧ w'.cell? ⟨g, 7, none⟩ = some (.pointer lu) ∧ w'.cell? ⟨g, 8, none⟩ = some (.pointer ru)) := fun w' h => ⟨(by first | trivial | exact C7.ext h hsz hq0 | exact C5.ext h hsz hq0 | exact (h.cell (p := ⟨w.heap.size, 0, none⟩) hsz).trans hq0 | exact (h.cell (p := ⟨w.heap.size, 0, none⟩) hsz).trans hq0), (by first | trivial | exact C7.ext h hsz hq1 | exact C5.ext h hsz hq1 | exact (h.cell (p := ⟨w.heap.size, 1, none⟩) hsz).trans hq1 | exact (h.cell (p := ⟨w.heap.size, 1, none⟩) hsz).trans hq1), (by first | trivial | exact C7.ext h (Nat.lt_trans hgl hsz) hq2 | exact C5.ext h (Nat.lt_trans hgl hsz) hq2 | exact (h.cell (p := ⟨g, 0, none⟩) (Nat.lt_trans hgl hsz)).trans hq2 | exact (h.cell (p := ⟨g, 0, none⟩) (Nat.lt_trans hgl hsz)).trans hq2), (by first | trivial | exact C7.ext h (Nat.lt_trans hgl hsz) hq3 | exact C5.ext h (Nat.lt_trans hgl hsz) hq3 | exact (h.cell (p := ⟨g, 1, none⟩) (Nat.lt_trans hgl hsz)).trans hq3 | exact (h.cell (p := ⟨g, 1, none⟩) (Nat.lt_trans hgl hsz)).trans hq3), (by first | trivial | exact C7.ext h (Nat.lt_trans hgl hsz) hq4 | exact C5.ext h (Nat.lt_trans hgl hsz) hq4 | exact (h.cell (p := ⟨g, 7, none⟩) (Nat.lt_trans hgl hsz)).trans hq4 | exact (h.cell (p := ⟨g, 2, none⟩) (Nat.lt_trans hgl hsz)).trans hq4), (by first | trivial | exact C7.ext h (Nat.lt_trans hgl hsz) hq5 | exact C5.ext h (Nat.lt_trans hgl hsz) hq5 | exact (h.cell (p := ⟨g, 8, none⟩) (Nat.lt_trans hgl hsz)).trans hq5 | exact (h.cell (p := ⟨g, 3, none⟩) (Nat.lt_trans hgl hsz)).trans hq5)⟩
  have b3 := l1.ht_le
  have b4 := l2.ht_le
  have b5 := wt_len l1.list
  have b6 := wt_len l2.list
  simp only [wt_app, wt_cons] at hw
  have VL : Hid (∀ w', Below w.heap.size w w' → Calls Tryz.prog 142 #[.pointer lu] w' fun e w'' => e = .returned (.int .i64 l1.ht) ∧ w'' = w') := fun w' h => levels_any l1 lu w' (h2.ext h)
  have VR : Hid (∀ w', Below w.heap.size w w' → Calls Tryz.prog 142 #[.pointer ru] w' fun e w'' => e = .returned (.int .i64 l2.ht) ∧ w'' = w') := fun w' h => levels_any l2 ru w' (h3.ext h)
  have B1 : Hid (∀ w', Below w0.heap.size w0 w' → Calls Tryz.prog 126 #[.pointer ru, .agg #[.slice x.p x.n x.c, .int .i64 x.pl, .int .i64 x.sp.a, .int .i64 x.sp.s, .int .i64 x.sp.b, .bool x.sp.lf, .bool x.sp.cr], .pointer ou] w' fun e w'' => ∃ u, e = .returned (.pointer u) ∧ Hid (Tin w'' (.node l2 x o) u) ∧ Below w0.heap.size w0 w'') := fun w' h => br_at h ((h3.ext hb0).ext h) ((ho.ext hb0).ext h) (by simp only [wt_app, wt_cons]; omega)
  have B2 : Hid (∀ u w', Hid (Tin w' (.node l2 x o) u) → Below w0.heap.size w0 w' → Calls Tryz.prog 126 #[.pointer lu, .agg #[.slice y.p y.n y.c, .int .i64 y.pl, .int .i64 y.sp.a, .int .i64 y.sp.s, .int .i64 y.sp.b, .bool y.sp.lf, .bool y.sp.cr], .pointer u] w' fun e w'' => ∃ u, e = .returned (.pointer u) ∧ Hid (Tin w'' (.node l1 y (.node l2 x o)) u) ∧ Below w0.heap.size w0 w'') := fun u w' ht h => br_at h ((h2.ext hb0).ext h) ht.out (by simp only [Tr.list, wt_app, wt_cons]; omega)
  have hle : (l2.ht : Int) ≤ (l1.ht : Int) := by omega
  clear hg ho hw h0 h1 h2 h3 b3 b4 b5 b6 hb0
  generalize l1.ht = m1 at *
  generalize l2.ht = m2 at *
  go_enter Tryz.func150, Tryz.ntmps150
  go_wp2_with (first | (go_at_call_of 142 lu; refine (VL.out _ (by repeat (first | exact Below.refl _ _ | refine ext_alloc ?_ _ | apply Below.drew))).mono ?_; rintro e w1 ⟨rfl, rfl⟩) | (go_at_call_of 142 ru; refine (VR.out _ (by repeat (first | exact Below.refl _ _ | refine ext_alloc ?_ _ | apply Below.drew))).mono ?_; rintro e w1 ⟨rfl, rfl⟩))
  rw [← hw0]
  clear hw0
  have HB : Hid (Below w0.heap.size w0 w0) := Below.refl _ _
  go_region_held3 (fun w' => (w'.cell? ⟨w.heap.size, 0, none⟩ = some (.slice x.p x.n x.c) ∧ w'.cell? ⟨w.heap.size, 1, none⟩ = some (.int .i64 x.pl) ∧ w'.cell? ⟨w.heap.size, 2, none⟩ = some (.int .i64 x.sp.a) ∧ w'.cell? ⟨w.heap.size, 3, none⟩ = some (.int .i64 x.sp.s) ∧ w'.cell? ⟨w.heap.size, 4, none⟩ = some (.int .i64 x.sp.b) ∧ w'.cell? ⟨w.heap.size, 5, none⟩ = some (.bool x.sp.lf) ∧ w'.cell? ⟨w.heap.size, 6, none⟩ = some (.bool x.sp.cr)) ∧ True ∧ (w'.cell? ⟨g, 0, none⟩ = some (.slice y.p y.n y.c) ∧ w'.cell? ⟨g, 1, none⟩ = some (.int .i64 y.pl) ∧ w'.cell? ⟨g, 2, none⟩ = some (.int .i64 y.sp.a) ∧ w'.cell? ⟨g, 3, none⟩ = some (.int .i64 y.sp.s) ∧ w'.cell? ⟨g, 4, none⟩ = some (.int .i64 y.sp.b) ∧ w'.cell? ⟨g, 5, none⟩ = some (.bool y.sp.lf) ∧ w'.cell? ⟨g, 6, none⟩ = some (.bool y.sp.cr)) ∧ True ∧ w'.cell? ⟨g, 7, none⟩ = some (.pointer lu) ∧ w'.cell? ⟨g, 8, none⟩ = some (.pointer ru)) (go_keep) (first
    | (go_at_call_of 126 ou; refine (B1.out _ (by repeat (first | exact HB.out | apply Below.drew))).mono ?_; rintro e w1 ⟨u1, rfl, T1, hb1⟩; clear hq0 hq1 hq2 hq3 hq4 hq5 HB; have HB : Hid (Below w0.heap.size w0 w1) := hb1; obtain ⟨hq0, hq1, hq2, hq3, hq4, hq5⟩ := HC.out w1 hb1; clear hb1)
    | (go_at_call_of 126 lu; refine (B2.out _ _ T1 (by repeat (first | exact HB.out | apply Below.drew))).mono ?_; rintro e w1 ⟨u2, rfl, T2, hb1⟩; clear hq0 hq1 hq2 hq3 hq4 hq5 HB; have HB : Hid (Below w0.heap.size w0 w1) := hb1; obtain ⟨hq0, hq1, hq2, hq3, hq4, hq5⟩ := HC.out w1 hb1; clear hb1))
  go_wp2_with fail
  go_ret
  exact ⟨_, _, rfl, T2.out, HM.out, ext_trans HB0.out HB.out⟩

set_option maxRecDepth 100000 in
set_option maxHeartbeats 2000000 in
theorem turn_right2 (l1 : Tr It) (a b : Tr It) (z : It) (y : It) (o : Tr It) (x : It) (gu ou : Option Addr) (w : World) (hg : Tin w (.node l1 y (.node a z b)) gu) (ho : Tin w o ou) (hw : wt ((l1.list ++ y :: (a.list ++ z :: b.list)) ++ x :: o.list) ≤ 4611686018427387904) (h0 : o.ht + 1 < (Tr.node l1 y (.node a z b)).ht) (h1 : l1.ht < (Tr.node a z b).ht) :
    Calls Tryz.prog 150 #[.pointer gu, .agg #[.slice x.p x.n x.c, .int .i64 x.pl, .int .i64 x.sp.a, .int .i64 x.sp.s, .int .i64 x.sp.b, .bool x.sp.lf, .bool x.sp.cr], .pointer ou] w fun e w' => ∃ u t, e = .returned (.pointer u) ∧ Tin w' t u ∧ Made t (.node l1 y (.node a z b)) x o ∧ Below w.heap.size w w' := by
  have HM := Made.right2 (x := x) h0 h1
  have HM : Hid _ := HM
  obtain ⟨g, lu, ru, rfl, hgl, h2, h3, c0, c1, c2, c3⟩ := hg.lt
  have h3' := h3
  obtain ⟨g2, au, bu, rfl, hgl2, h4, h5, d0, d1, d2, d3⟩ := h3.lt
  obtain ⟨w0, hw0⟩ : ∃ w0, w0 = w.alloc (.cells #[.slice x.p x.n x.c, .int .i64 x.pl, .int .i64 x.sp.a, .int .i64 x.sp.s, .int .i64 x.sp.b, .bool x.sp.lf, .bool x.sp.cr] 122) := ⟨_, rfl⟩
  have hb0 : Below w.heap.size w w0 := by rw [hw0]; exact ext_alloc (Below.refl _ _) _
  have HB0 : Hid (Below w.heap.size w w0) := hb0
  have hsz : w.heap.size < w0.heap.size := by first | trivial | (rw [hw0]; simp)
  have hq0 : (w0.cell? ⟨w.heap.size, 0, none⟩ = some (.slice x.p x.n x.c) ∧ w0.cell? ⟨w.heap.size, 1, none⟩ = some (.int .i64 x.pl) ∧ w0.cell? ⟨w.heap.size, 2, none⟩ = some (.int .i64 x.sp.a) ∧ w0.cell? ⟨w.heap.size, 3, none⟩ = some (.int .i64 x.sp.s) ∧ w0.cell? ⟨w.heap.size, 4, none⟩ = some (.int .i64 x.sp.b) ∧ w0.cell? ⟨w.heap.size, 5, none⟩ = some (.bool x.sp.lf) ∧ w0.cell? ⟨w.heap.size, 6, none⟩ = some (.bool x.sp.cr)) := by first | trivial | (rw [hw0]; simp)
  have hq1 : True := by first | trivial | (rw [hw0]; simp)
  have hq2 : (w0.cell? ⟨g, 0, none⟩ = some (.slice y.p y.n y.c) ∧ w0.cell? ⟨g, 1, none⟩ = some (.int .i64 y.pl) ∧ w0.cell? ⟨g, 2, none⟩ = some (.int .i64 y.sp.a) ∧ w0.cell? ⟨g, 3, none⟩ = some (.int .i64 y.sp.s) ∧ w0.cell? ⟨g, 4, none⟩ = some (.int .i64 y.sp.b) ∧ w0.cell? ⟨g, 5, none⟩ = some (.bool y.sp.lf) ∧ w0.cell? ⟨g, 6, none⟩ = some (.bool y.sp.cr)) := (by first | trivial | exact C7.ext hb0 hgl c0 | exact C5.ext hb0 hgl c0 | exact (hb0.cell (p := ⟨g, 0, none⟩) hgl).trans c0 | exact (hb0.cell (p := ⟨g, 0, none⟩) hgl).trans c0)
  have hq3 : True := (by first | trivial | exact C7.ext hb0 hgl c1 | exact C5.ext hb0 hgl c1 | exact (hb0.cell (p := ⟨g, 1, none⟩) hgl).trans c1 | exact (hb0.cell (p := ⟨g, 1, none⟩) hgl).trans c1)
  have hq4 : w0.cell? ⟨g, 7, none⟩ = some (.pointer lu) := (by first | trivial | exact C7.ext hb0 hgl c2 | exact C5.ext hb0 hgl c2 | exact (hb0.cell (p := ⟨g, 7, none⟩) hgl).trans c2 | exact (hb0.cell (p := ⟨g, 2, none⟩) hgl).trans c2)
  have hq5 : w0.cell? ⟨g, 8, none⟩ = some (.pointer (some ⟨g2, 0, none⟩)) := (by first | trivial | exact C7.ext hb0 hgl c3 | exact C5.ext hb0 hgl c3 | exact (hb0.cell (p := ⟨g, 8, none⟩) hgl).trans c3 | exact (hb0.cell (p := ⟨g, 3, none⟩) hgl).trans c3)
  have hq6 : (w0.cell? ⟨g2, 0, none⟩ = some (.slice z.p z.n z.c) ∧ w0.cell? ⟨g2, 1, none⟩ = some (.int .i64 z.pl) ∧ w0.cell? ⟨g2, 2, none⟩ = some (.int .i64 z.sp.a) ∧ w0.cell? ⟨g2, 3, none⟩ = some (.int .i64 z.sp.s) ∧ w0.cell? ⟨g2, 4, none⟩ = some (.int .i64 z.sp.b) ∧ w0.cell? ⟨g2, 5, none⟩ = some (.bool z.sp.lf) ∧ w0.cell? ⟨g2, 6, none⟩ = some (.bool z.sp.cr)) := (by first | trivial | exact C7.ext hb0 hgl2 d0 | exact C5.ext hb0 hgl2 d0 | exact (hb0.cell (p := ⟨g2, 0, none⟩) hgl2).trans d0 | exact (hb0.cell (p := ⟨g2, 0, none⟩) hgl2).trans d0)
  have hq7 : True := (by first | trivial | exact C7.ext hb0 hgl2 d1 | exact C5.ext hb0 hgl2 d1 | exact (hb0.cell (p := ⟨g2, 1, none⟩) hgl2).trans d1 | exact (hb0.cell (p := ⟨g2, 1, none⟩) hgl2).trans d1)
  have hq8 : w0.cell? ⟨g2, 7, none⟩ = some (.pointer au) := (by first | trivial | exact C7.ext hb0 hgl2 d2 | exact C5.ext hb0 hgl2 d2 | exact (hb0.cell (p := ⟨g2, 7, none⟩) hgl2).trans d2 | exact (hb0.cell (p := ⟨g2, 2, none⟩) hgl2).trans d2)
  have hq9 : w0.cell? ⟨g2, 8, none⟩ = some (.pointer bu) := (by first | trivial | exact C7.ext hb0 hgl2 d3 | exact C5.ext hb0 hgl2 d3 | exact (hb0.cell (p := ⟨g2, 8, none⟩) hgl2).trans d3 | exact (hb0.cell (p := ⟨g2, 3, none⟩) hgl2).trans d3)
  have HC : Hid (∀ w', Below w0.heap.size w0 w' → (w'.cell? ⟨w.heap.size, 0, none⟩ = some (.slice x.p x.n x.c) ∧ w'.cell? ⟨w.heap.size, 1, none⟩ = some (.int .i64 x.pl) ∧ w'.cell? ⟨w.heap.size, 2, none⟩ = some (.int .i64 x.sp.a) ∧ w'.cell? ⟨w.heap.size, 3, none⟩ = some (.int .i64 x.sp.s) ∧ w'.cell? ⟨w.heap.size, 4, none⟩ = some (.int .i64 x.sp.b) ∧ w'.cell? ⟨w.heap.size, 5, none⟩ = some (.bool x.sp.lf) ∧ w'.cell? ⟨w.heap.size, 6, none⟩ = some (.bool x.sp.cr)) ∧ True ∧ (w'.cell? ⟨g, 0, none⟩ = some (.slice y.p y.n y.c) ∧ w'.cell? ⟨g, 1, none⟩ = some (.int .i64 y.pl) ∧ w'.cell? ⟨g, 2, none⟩ = some (.int .i64 y.sp.a) ∧ w'.cell? ⟨g, 3, none⟩ = some (.int .i64 y.sp.s) ∧ w'.cell? ⟨g, 4, none⟩ = some (.int .i64 y.sp.b) ∧ w'.cell? ⟨g, 5, none⟩ = some (.bool y.sp.lf) ∧ w'.cell? ⟨g, 6, none⟩ = some (.bool y.sp.cr)) ∧ True ∧ w'.cell? ⟨g, 7, none⟩ = some (.pointer lu) ∧ w'.cell? ⟨g, 8, none⟩ = some (.pointer (some ⟨g2, 0, none⟩)) ∧ (w'.cell? ⟨g2, 0, none⟩ = some (.slice z.p z.n z.c) ∧ w'.cell? ⟨g2, 1, none⟩ = some (.int .i64 z.pl) ∧ w'.cell? ⟨g2, 2, none⟩ = some (.int .i64 z.sp.a) ∧ w'.cell? ⟨g2, 3, none⟩ = some (.int .i64 z.sp.s) ∧ w'.cell? ⟨g2, 4, none⟩ = some (.int .i64 z.sp.b) ∧ w'.cell? ⟨g2, 5, none⟩ = some (.bool z.sp.lf) ∧ w'.cell? ⟨g2, 6, none⟩ = some (.bool z.sp.cr)) ∧ True ∧ w'.cell? ⟨g2, 7, none⟩ = some (.pointer au) ∧ w'.cell? ⟨g2, 8, none⟩ = some (.pointer bu)) := fun w' h => ⟨(by first | trivial | exact C7.ext h hsz hq0 | exact C5.ext h hsz hq0 | exact (h.cell (p := ⟨w.heap.size, 0, none⟩) hsz).trans hq0 | exact (h.cell (p := ⟨w.heap.size, 0, none⟩) hsz).trans hq0), (by first | trivial | exact C7.ext h hsz hq1 | exact C5.ext h hsz hq1 | exact (h.cell (p := ⟨w.heap.size, 1, none⟩) hsz).trans hq1 | exact (h.cell (p := ⟨w.heap.size, 1, none⟩) hsz).trans hq1), (by first | trivial | exact C7.ext h (Nat.lt_trans hgl hsz) hq2 | exact C5.ext h (Nat.lt_trans hgl hsz) hq2 | exact (h.cell (p := ⟨g, 0, none⟩) (Nat.lt_trans hgl hsz)).trans hq2 | exact (h.cell (p := ⟨g, 0, none⟩) (Nat.lt_trans hgl hsz)).trans hq2), (by first | trivial | exact C7.ext h (Nat.lt_trans hgl hsz) hq3 | exact C5.ext h (Nat.lt_trans hgl hsz) hq3 | exact (h.cell (p := ⟨g, 1, none⟩) (Nat.lt_trans hgl hsz)).trans hq3 | exact (h.cell (p := ⟨g, 1, none⟩) (Nat.lt_trans hgl hsz)).trans hq3), (by first | trivial | exact C7.ext h (Nat.lt_trans hgl hsz) hq4 | exact C5.ext h (Nat.lt_trans hgl hsz) hq4 | exact (h.cell (p := ⟨g, 7, none⟩) (Nat.lt_trans hgl hsz)).trans hq4 | exact (h.cell (p := ⟨g, 2, none⟩) (Nat.lt_trans hgl hsz)).trans hq4), (by first | trivial | exact C7.ext h (Nat.lt_trans hgl hsz) hq5 | exact C5.ext h (Nat.lt_trans hgl hsz) hq5 | exact (h.cell (p := ⟨g, 8, none⟩) (Nat.lt_trans hgl hsz)).trans hq5 | exact (h.cell (p := ⟨g, 3, none⟩) (Nat.lt_trans hgl hsz)).trans hq5), (by first | trivial | exact C7.ext h (Nat.lt_trans hgl2 hsz) hq6 | exact C5.ext h (Nat.lt_trans hgl2 hsz) hq6 | exact (h.cell (p := ⟨g2, 0, none⟩) (Nat.lt_trans hgl2 hsz)).trans hq6 | exact (h.cell (p := ⟨g2, 0, none⟩) (Nat.lt_trans hgl2 hsz)).trans hq6), (by first | trivial | exact C7.ext h (Nat.lt_trans hgl2 hsz) hq7 | exact C5.ext h (Nat.lt_trans hgl2 hsz) hq7 | exact (h.cell (p := ⟨g2, 1, none⟩) (Nat.lt_trans hgl2 hsz)).trans hq7 | exact (h.cell (p := ⟨g2, 1, none⟩) (Nat.lt_trans hgl2 hsz)).trans hq7), (by first | trivial | exact C7.ext h (Nat.lt_trans hgl2 hsz) hq8 | exact C5.ext h (Nat.lt_trans hgl2 hsz) hq8 | exact (h.cell (p := ⟨g2, 7, none⟩) (Nat.lt_trans hgl2 hsz)).trans hq8 | exact (h.cell (p := ⟨g2, 2, none⟩) (Nat.lt_trans hgl2 hsz)).trans hq8), (by first | trivial | exact C7.ext h (Nat.lt_trans hgl2 hsz) hq9 | exact C5.ext h (Nat.lt_trans hgl2 hsz) hq9 | exact (h.cell (p := ⟨g2, 8, none⟩) (Nat.lt_trans hgl2 hsz)).trans hq9 | exact (h.cell (p := ⟨g2, 3, none⟩) (Nat.lt_trans hgl2 hsz)).trans hq9)⟩
  have b3 := l1.ht_le
  have b4 := (Tr.node a z b).ht_le
  have b5 := wt_len l1.list
  have b6 := wt_len (Tr.node a z b).list
  simp only [Tr.list] at b4 b6
  simp only [wt_app, wt_cons] at hw b6
  have VL : Hid (∀ w', Below w.heap.size w w' → Calls Tryz.prog 142 #[.pointer lu] w' fun e w'' => e = .returned (.int .i64 l1.ht) ∧ w'' = w') := fun w' h => levels_any l1 lu w' (h2.ext h)
  have VR : Hid (∀ w', Below w.heap.size w w' → Calls Tryz.prog 142 #[.pointer (some ⟨g2, 0, none⟩)] w' fun e w'' => e = .returned (.int .i64 (Tr.node a z b).ht) ∧ w'' = w') := fun w' h => levels_any (Tr.node a z b) _ w' (h3'.ext h)
  have B1 : Hid (∀ w', Below w0.heap.size w0 w' → Calls Tryz.prog 126 #[.pointer lu, .agg #[.slice y.p y.n y.c, .int .i64 y.pl, .int .i64 y.sp.a, .int .i64 y.sp.s, .int .i64 y.sp.b, .bool y.sp.lf, .bool y.sp.cr], .pointer au] w' fun e w'' => ∃ u, e = .returned (.pointer u) ∧ Hid (Tin w'' (.node l1 y a) u) ∧ Below w0.heap.size w0 w'') := fun w' h => br_at h ((h2.ext hb0).ext h) ((h4.ext hb0).ext h) (by simp only [wt_app, wt_cons]; omega)
  have B2 : Hid (∀ u w', Hid (Tin w' (.node l1 y a) u) → Below w0.heap.size w0 w' → Calls Tryz.prog 126 #[.pointer bu, .agg #[.slice x.p x.n x.c, .int .i64 x.pl, .int .i64 x.sp.a, .int .i64 x.sp.s, .int .i64 x.sp.b, .bool x.sp.lf, .bool x.sp.cr], .pointer ou] w' fun e w'' => ∃ v, e = .returned (.pointer v) ∧ Hid (Tin w'' (.node b x o) v ∧ Tin w'' (.node l1 y a) u) ∧ Below w0.heap.size w0 w'') := fun u w' ht h => (branch_any b o x bu ou w' ((h5.ext hb0).ext h) ((ho.ext hb0).ext h) (by simp only [wt_app, wt_cons]; omega)).mono fun _ _ ⟨v, k1, k2, k3⟩ => ⟨v, k1, ⟨k2, ht.out.ext k3⟩, ext_trans h k3⟩
  have B3 : Hid (∀ u v w', Hid (Tin w' (.node b x o) v ∧ Tin w' (.node l1 y a) u) → Below w0.heap.size w0 w' → Calls Tryz.prog 126 #[.pointer u, .agg #[.slice z.p z.n z.c, .int .i64 z.pl, .int .i64 z.sp.a, .int .i64 z.sp.s, .int .i64 z.sp.b, .bool z.sp.lf, .bool z.sp.cr], .pointer v] w' fun e w'' => ∃ u, e = .returned (.pointer u) ∧ Hid (Tin w'' (.node (.node l1 y a) z (.node b x o)) u) ∧ Below w0.heap.size w0 w'') := fun u v w' ht h => br_at h ht.out.2 ht.out.1 (by simp only [Tr.list, wt_app, wt_cons]; omega)
  have hlt : (l1.ht : Int) < ((Tr.node a z b).ht : Int) := by omega
  have hge : ¬ ((Tr.node a z b).ht : Int) ≤ (l1.ht : Int) := by omega
  clear hg ho hw h0 h1 h2 h3 h3' h4 h5 b3 b4 b5 b6 hb0
  generalize l1.ht = m1 at *
  generalize (Tr.node a z b).ht = m2 at *
  go_enter Tryz.func150, Tryz.ntmps150
  go_wp2_with (first | (go_at_call_of 142 lu; refine (VL.out _ (by repeat (first | exact Below.refl _ _ | refine ext_alloc ?_ _ | apply Below.drew))).mono ?_; rintro e w1 ⟨rfl, rfl⟩) | (go_at_call_of 142 g2; refine (VR.out _ (by repeat (first | exact Below.refl _ _ | refine ext_alloc ?_ _ | apply Below.drew))).mono ?_; rintro e w1 ⟨rfl, rfl⟩))
  rw [← hw0]
  clear hw0
  have HB : Hid (Below w0.heap.size w0 w0) := Below.refl _ _
  go_region_held3 (fun w' => (w'.cell? ⟨w.heap.size, 0, none⟩ = some (.slice x.p x.n x.c) ∧ w'.cell? ⟨w.heap.size, 1, none⟩ = some (.int .i64 x.pl) ∧ w'.cell? ⟨w.heap.size, 2, none⟩ = some (.int .i64 x.sp.a) ∧ w'.cell? ⟨w.heap.size, 3, none⟩ = some (.int .i64 x.sp.s) ∧ w'.cell? ⟨w.heap.size, 4, none⟩ = some (.int .i64 x.sp.b) ∧ w'.cell? ⟨w.heap.size, 5, none⟩ = some (.bool x.sp.lf) ∧ w'.cell? ⟨w.heap.size, 6, none⟩ = some (.bool x.sp.cr)) ∧ True ∧ (w'.cell? ⟨g, 0, none⟩ = some (.slice y.p y.n y.c) ∧ w'.cell? ⟨g, 1, none⟩ = some (.int .i64 y.pl) ∧ w'.cell? ⟨g, 2, none⟩ = some (.int .i64 y.sp.a) ∧ w'.cell? ⟨g, 3, none⟩ = some (.int .i64 y.sp.s) ∧ w'.cell? ⟨g, 4, none⟩ = some (.int .i64 y.sp.b) ∧ w'.cell? ⟨g, 5, none⟩ = some (.bool y.sp.lf) ∧ w'.cell? ⟨g, 6, none⟩ = some (.bool y.sp.cr)) ∧ True ∧ w'.cell? ⟨g, 7, none⟩ = some (.pointer lu) ∧ w'.cell? ⟨g, 8, none⟩ = some (.pointer (some ⟨g2, 0, none⟩)) ∧ (w'.cell? ⟨g2, 0, none⟩ = some (.slice z.p z.n z.c) ∧ w'.cell? ⟨g2, 1, none⟩ = some (.int .i64 z.pl) ∧ w'.cell? ⟨g2, 2, none⟩ = some (.int .i64 z.sp.a) ∧ w'.cell? ⟨g2, 3, none⟩ = some (.int .i64 z.sp.s) ∧ w'.cell? ⟨g2, 4, none⟩ = some (.int .i64 z.sp.b) ∧ w'.cell? ⟨g2, 5, none⟩ = some (.bool z.sp.lf) ∧ w'.cell? ⟨g2, 6, none⟩ = some (.bool z.sp.cr)) ∧ True ∧ w'.cell? ⟨g2, 7, none⟩ = some (.pointer au) ∧ w'.cell? ⟨g2, 8, none⟩ = some (.pointer bu)) (go_keep) (first
    | (go_at_call_of 126 lu; refine (B1.out _ (by repeat (first | exact HB.out | apply Below.drew))).mono ?_; rintro e w1 ⟨u1, rfl, T1, hb1⟩; clear hq0 hq1 hq2 hq3 hq4 hq5 hq6 hq7 hq8 hq9 HB; have HB : Hid (Below w0.heap.size w0 w1) := hb1; obtain ⟨hq0, hq1, hq2, hq3, hq4, hq5, hq6, hq7, hq8, hq9⟩ := HC.out w1 hb1; clear hb1)
    | (go_at_call_of 126 ou; refine (B2.out _ _ T1 (by repeat (first | exact HB.out | apply Below.drew))).mono ?_; rintro e w1 ⟨u2, rfl, T2, hb1⟩; clear hq0 hq1 hq2 hq3 hq4 hq5 hq6 hq7 hq8 hq9 HB; have HB : Hid (Below w0.heap.size w0 w1) := hb1; obtain ⟨hq0, hq1, hq2, hq3, hq4, hq5, hq6, hq7, hq8, hq9⟩ := HC.out w1 hb1; clear hb1)
    | (go_at_call_of 126 z; refine (B3.out _ _ _ T2 (by repeat (first | exact HB.out | apply Below.drew))).mono ?_; rintro e w1 ⟨u3, rfl, T3, hb1⟩; clear hq0 hq1 hq2 hq3 hq4 hq5 hq6 hq7 hq8 hq9 HB; have HB : Hid (Below w0.heap.size w0 w1) := hb1; obtain ⟨hq0, hq1, hq2, hq3, hq4, hq5, hq6, hq7, hq8, hq9⟩ := HC.out w1 hb1; clear hb1))
  go_wp2_with fail
  go_ret
  exact ⟨_, _, rfl, T3.out, HM.out, ext_trans HB0.out HB.out⟩

set_option maxRecDepth 100000 in
set_option maxHeartbeats 2000000 in
theorem turn_left1 (l1 l2 : Tr It) (y : It) (o : Tr It) (x : It) (gu ou : Option Addr) (w : World) (hg : Tin w (.node l1 y l2) gu) (ho : Tin w o ou) (hw : wt (o.list ++ x :: (l1.list ++ y :: l2.list)) ≤ 4611686018427387904) (h0 : o.ht + 1 < (Tr.node l1 y l2).ht) (h1 : l1.ht ≤ l2.ht) :
    Calls Tryz.prog 151 #[.pointer ou, .agg #[.slice x.p x.n x.c, .int .i64 x.pl, .int .i64 x.sp.a, .int .i64 x.sp.s, .int .i64 x.sp.b, .bool x.sp.lf, .bool x.sp.cr], .pointer gu] w fun e w' => ∃ u t, e = .returned (.pointer u) ∧ Tin w' t u ∧ Made t o x (.node l1 y l2) ∧ Below w.heap.size w w' := by
  have HM := Made.left1 (x := x) h0 h1
  have HM : Hid _ := HM
  obtain ⟨g, lu, ru, rfl, hgl, h2, h3, c0, c1, c2, c3⟩ := hg.lt
  obtain ⟨w0, hw0⟩ : ∃ w0, w0 = w.alloc (.cells #[.slice x.p x.n x.c, .int .i64 x.pl, .int .i64 x.sp.a, .int .i64 x.sp.s, .int .i64 x.sp.b, .bool x.sp.lf, .bool x.sp.cr] 122) := ⟨_, rfl⟩
  have hb0 : Below w.heap.size w w0 := by rw [hw0]; exact ext_alloc (Below.refl _ _) _
  have HB0 : Hid (Below w.heap.size w w0) := hb0
  have hsz : w.heap.size < w0.heap.size := by first | trivial | (rw [hw0]; simp)
  have hq0 : (w0.cell? ⟨w.heap.size, 0, none⟩ = some (.slice x.p x.n x.c) ∧ w0.cell? ⟨w.heap.size, 1, none⟩ = some (.int .i64 x.pl) ∧ w0.cell? ⟨w.heap.size, 2, none⟩ = some (.int .i64 x.sp.a) ∧ w0.cell? ⟨w.heap.size, 3, none⟩ = some (.int .i64 x.sp.s) ∧ w0.cell? ⟨w.heap.size, 4, none⟩ = some (.int .i64 x.sp.b) ∧ w0.cell? ⟨w.heap.size, 5, none⟩ = some (.bool x.sp.lf) ∧ w0.cell? ⟨w.heap.size, 6, none⟩ = some (.bool x.sp.cr)) := by first | trivial | (rw [hw0]; simp)
  have hq1 : True := by first | trivial | (rw [hw0]; simp)
  have hq2 : (w0.cell? ⟨g, 0, none⟩ = some (.slice y.p y.n y.c) ∧ w0.cell? ⟨g, 1, none⟩ = some (.int .i64 y.pl) ∧ w0.cell? ⟨g, 2, none⟩ = some (.int .i64 y.sp.a) ∧ w0.cell? ⟨g, 3, none⟩ = some (.int .i64 y.sp.s) ∧ w0.cell? ⟨g, 4, none⟩ = some (.int .i64 y.sp.b) ∧ w0.cell? ⟨g, 5, none⟩ = some (.bool y.sp.lf) ∧ w0.cell? ⟨g, 6, none⟩ = some (.bool y.sp.cr)) := (by first | trivial | exact C7.ext hb0 hgl c0 | exact C5.ext hb0 hgl c0 | exact (hb0.cell (p := ⟨g, 0, none⟩) hgl).trans c0 | exact (hb0.cell (p := ⟨g, 0, none⟩) hgl).trans c0)
  have hq3 : True := (by first | trivial | exact C7.ext hb0 hgl c1 | exact C5.ext hb0 hgl c1 | exact (hb0.cell (p := ⟨g, 1, none⟩) hgl).trans c1 | exact (hb0.cell (p := ⟨g, 1, none⟩) hgl).trans c1)
  have hq4 : w0.cell? ⟨g, 7, none⟩ = some (.pointer lu) := (by first | trivial | exact C7.ext hb0 hgl c2 | exact C5.ext hb0 hgl c2 | exact (hb0.cell (p := ⟨g, 7, none⟩) hgl).trans c2 | exact (hb0.cell (p := ⟨g, 2, none⟩) hgl).trans c2)
  have hq5 : w0.cell? ⟨g, 8, none⟩ = some (.pointer ru) := (by first | trivial | exact C7.ext hb0 hgl c3 | exact C5.ext hb0 hgl c3 | exact (hb0.cell (p := ⟨g, 8, none⟩) hgl).trans c3 | exact (hb0.cell (p := ⟨g, 3, none⟩) hgl).trans c3)
  have HC : Hid (∀ w', Below w0.heap.size w0 w' → (w'.cell? ⟨w.heap.size, 0, none⟩ = some (.slice x.p x.n x.c) ∧ w'.cell? ⟨w.heap.size, 1, none⟩ = some (.int .i64 x.pl) ∧ w'.cell? ⟨w.heap.size, 2, none⟩ = some (.int .i64 x.sp.a) ∧ w'.cell? ⟨w.heap.size, 3, none⟩ = some (.int .i64 x.sp.s) ∧ w'.cell? ⟨w.heap.size, 4, none⟩ = some (.int .i64 x.sp.b) ∧ w'.cell? ⟨w.heap.size, 5, none⟩ = some (.bool x.sp.lf) ∧ w'.cell? ⟨w.heap.size, 6, none⟩ = some (.bool x.sp.cr)) ∧ True ∧ (w'.cell? ⟨g, 0, none⟩ = some (.slice y.p y.n y.c) ∧ w'.cell? ⟨g, 1, none⟩ = some (.int .i64 y.pl) ∧ w'.cell? ⟨g, 2, none⟩ = some (.int .i64 y.sp.a) ∧ w'.cell? ⟨g, 3, none⟩ = some (.int .i64 y.sp.s) ∧ w'.cell? ⟨g, 4, none⟩ = some (.int .i64 y.sp.b) ∧ w'.cell? ⟨g, 5, none⟩ = some (.bool y.sp.lf) ∧ w'.cell? ⟨g, 6, none⟩ = some (.bool y.sp.cr)) ∧ True ∧ w'.cell? ⟨g, 7, none⟩ = some (.pointer lu) ∧ w'.cell? ⟨g, 8, none⟩ = some (.pointer ru)) := fun w' h => ⟨(by first | trivial | exact C7.ext h hsz hq0 | exact C5.ext h hsz hq0 | exact (h.cell (p := ⟨w.heap.size, 0, none⟩) hsz).trans hq0 | exact (h.cell (p := ⟨w.heap.size, 0, none⟩) hsz).trans hq0), (by first | trivial | exact C7.ext h hsz hq1 | exact C5.ext h hsz hq1 | exact (h.cell (p := ⟨w.heap.size, 1, none⟩) hsz).trans hq1 | exact (h.cell (p := ⟨w.heap.size, 1, none⟩) hsz).trans hq1), (by first | trivial | exact C7.ext h (Nat.lt_trans hgl hsz) hq2 | exact C5.ext h (Nat.lt_trans hgl hsz) hq2 | exact (h.cell (p := ⟨g, 0, none⟩) (Nat.lt_trans hgl hsz)).trans hq2 | exact (h.cell (p := ⟨g, 0, none⟩) (Nat.lt_trans hgl hsz)).trans hq2), (by first | trivial | exact C7.ext h (Nat.lt_trans hgl hsz) hq3 | exact C5.ext h (Nat.lt_trans hgl hsz) hq3 | exact (h.cell (p := ⟨g, 1, none⟩) (Nat.lt_trans hgl hsz)).trans hq3 | exact (h.cell (p := ⟨g, 1, none⟩) (Nat.lt_trans hgl hsz)).trans hq3), (by first | trivial | exact C7.ext h (Nat.lt_trans hgl hsz) hq4 | exact C5.ext h (Nat.lt_trans hgl hsz) hq4 | exact (h.cell (p := ⟨g, 7, none⟩) (Nat.lt_trans hgl hsz)).trans hq4 | exact (h.cell (p := ⟨g, 2, none⟩) (Nat.lt_trans hgl hsz)).trans hq4), (by first | trivial | exact C7.ext h (Nat.lt_trans hgl hsz) hq5 | exact C5.ext h (Nat.lt_trans hgl hsz) hq5 | exact (h.cell (p := ⟨g, 8, none⟩) (Nat.lt_trans hgl hsz)).trans hq5 | exact (h.cell (p := ⟨g, 3, none⟩) (Nat.lt_trans hgl hsz)).trans hq5)⟩
  have b3 := l1.ht_le
  have b4 := l2.ht_le
  have b5 := wt_len l1.list
  have b6 := wt_len l2.list
  simp only [wt_app, wt_cons] at hw
  have VL : Hid (∀ w', Below w.heap.size w w' → Calls Tryz.prog 142 #[.pointer lu] w' fun e w'' => e = .returned (.int .i64 l1.ht) ∧ w'' = w') := fun w' h => levels_any l1 lu w' (h2.ext h)
  have VR : Hid (∀ w', Below w.heap.size w w' → Calls Tryz.prog 142 #[.pointer ru] w' fun e w'' => e = .returned (.int .i64 l2.ht) ∧ w'' = w') := fun w' h => levels_any l2 ru w' (h3.ext h)
  have B1 : Hid (∀ w', Below w0.heap.size w0 w' → Calls Tryz.prog 126 #[.pointer ou, .agg #[.slice x.p x.n x.c, .int .i64 x.pl, .int .i64 x.sp.a, .int .i64 x.sp.s, .int .i64 x.sp.b, .bool x.sp.lf, .bool x.sp.cr], .pointer lu] w' fun e w'' => ∃ u, e = .returned (.pointer u) ∧ Hid (Tin w'' (.node o x l1) u) ∧ Below w0.heap.size w0 w'') := fun w' h => br_at h ((ho.ext hb0).ext h) ((h2.ext hb0).ext h) (by simp only [wt_app, wt_cons]; omega)
  have B2 : Hid (∀ u w', Hid (Tin w' (.node o x l1) u) → Below w0.heap.size w0 w' → Calls Tryz.prog 126 #[.pointer u, .agg #[.slice y.p y.n y.c, .int .i64 y.pl, .int .i64 y.sp.a, .int .i64 y.sp.s, .int .i64 y.sp.b, .bool y.sp.lf, .bool y.sp.cr], .pointer ru] w' fun e w'' => ∃ u, e = .returned (.pointer u) ∧ Hid (Tin w'' (.node (.node o x l1) y l2) u) ∧ Below w0.heap.size w0 w'') := fun u w' ht h => br_at h ht.out ((h3.ext hb0).ext h) (by simp only [Tr.list, wt_app, wt_cons]; omega)
  have hle : (l1.ht : Int) ≤ (l2.ht : Int) := by omega
  clear hg ho hw h0 h1 h2 h3 b3 b4 b5 b6 hb0
  generalize l1.ht = m1 at *
  generalize l2.ht = m2 at *
  go_enter Tryz.func151, Tryz.ntmps151
  go_wp2_with (first | (go_at_call_of 142 lu; refine (VL.out _ (by repeat (first | exact Below.refl _ _ | refine ext_alloc ?_ _ | apply Below.drew))).mono ?_; rintro e w1 ⟨rfl, rfl⟩) | (go_at_call_of 142 ru; refine (VR.out _ (by repeat (first | exact Below.refl _ _ | refine ext_alloc ?_ _ | apply Below.drew))).mono ?_; rintro e w1 ⟨rfl, rfl⟩))
  rw [← hw0]
  clear hw0
  have HB : Hid (Below w0.heap.size w0 w0) := Below.refl _ _
  go_region_held3 (fun w' => (w'.cell? ⟨w.heap.size, 0, none⟩ = some (.slice x.p x.n x.c) ∧ w'.cell? ⟨w.heap.size, 1, none⟩ = some (.int .i64 x.pl) ∧ w'.cell? ⟨w.heap.size, 2, none⟩ = some (.int .i64 x.sp.a) ∧ w'.cell? ⟨w.heap.size, 3, none⟩ = some (.int .i64 x.sp.s) ∧ w'.cell? ⟨w.heap.size, 4, none⟩ = some (.int .i64 x.sp.b) ∧ w'.cell? ⟨w.heap.size, 5, none⟩ = some (.bool x.sp.lf) ∧ w'.cell? ⟨w.heap.size, 6, none⟩ = some (.bool x.sp.cr)) ∧ True ∧ (w'.cell? ⟨g, 0, none⟩ = some (.slice y.p y.n y.c) ∧ w'.cell? ⟨g, 1, none⟩ = some (.int .i64 y.pl) ∧ w'.cell? ⟨g, 2, none⟩ = some (.int .i64 y.sp.a) ∧ w'.cell? ⟨g, 3, none⟩ = some (.int .i64 y.sp.s) ∧ w'.cell? ⟨g, 4, none⟩ = some (.int .i64 y.sp.b) ∧ w'.cell? ⟨g, 5, none⟩ = some (.bool y.sp.lf) ∧ w'.cell? ⟨g, 6, none⟩ = some (.bool y.sp.cr)) ∧ True ∧ w'.cell? ⟨g, 7, none⟩ = some (.pointer lu) ∧ w'.cell? ⟨g, 8, none⟩ = some (.pointer ru)) (go_keep) (first
    | (go_at_call_of 126 ou; refine (B1.out _ (by repeat (first | exact HB.out | apply Below.drew))).mono ?_; rintro e w1 ⟨u1, rfl, T1, hb1⟩; clear hq0 hq1 hq2 hq3 hq4 hq5 HB; have HB : Hid (Below w0.heap.size w0 w1) := hb1; obtain ⟨hq0, hq1, hq2, hq3, hq4, hq5⟩ := HC.out w1 hb1; clear hb1)
    | (go_at_call_of 126 ru; refine (B2.out _ _ T1 (by repeat (first | exact HB.out | apply Below.drew))).mono ?_; rintro e w1 ⟨u2, rfl, T2, hb1⟩; clear hq0 hq1 hq2 hq3 hq4 hq5 HB; have HB : Hid (Below w0.heap.size w0 w1) := hb1; obtain ⟨hq0, hq1, hq2, hq3, hq4, hq5⟩ := HC.out w1 hb1; clear hb1))
  go_wp2_with fail
  go_ret
  exact ⟨_, _, rfl, T2.out, HM.out, ext_trans HB0.out HB.out⟩

set_option maxRecDepth 100000 in
set_option maxHeartbeats 2000000 in
theorem turn_left2 (l1 : Tr It) (a b : Tr It) (z : It) (y : It) (o : Tr It) (x : It) (gu ou : Option Addr) (w : World) (hg : Tin w (.node (.node a z b) y l1) gu) (ho : Tin w o ou) (hw : wt (o.list ++ x :: ((a.list ++ z :: b.list) ++ y :: l1.list)) ≤ 4611686018427387904) (h0 : o.ht + 1 < (Tr.node (.node a z b) y l1).ht) (h1 : l1.ht < (Tr.node a z b).ht) :
    Calls Tryz.prog 151 #[.pointer ou, .agg #[.slice x.p x.n x.c, .int .i64 x.pl, .int .i64 x.sp.a, .int .i64 x.sp.s, .int .i64 x.sp.b, .bool x.sp.lf, .bool x.sp.cr], .pointer gu] w fun e w' => ∃ u t, e = .returned (.pointer u) ∧ Tin w' t u ∧ Made t o x (.node (.node a z b) y l1) ∧ Below w.heap.size w w' := by
  have HM := Made.left2 (x := x) h0 h1
  have HM : Hid _ := HM
  obtain ⟨g, ru, lu, rfl, hgl, h3, h2, c0, c1, c3, c2⟩ := hg.lt
  have h3' := h3
  obtain ⟨g2, au, bu, rfl, hgl2, h4, h5, d0, d1, d2, d3⟩ := h3.lt
  obtain ⟨w0, hw0⟩ : ∃ w0, w0 = w.alloc (.cells #[.slice x.p x.n x.c, .int .i64 x.pl, .int .i64 x.sp.a, .int .i64 x.sp.s, .int .i64 x.sp.b, .bool x.sp.lf, .bool x.sp.cr] 122) := ⟨_, rfl⟩
  have hb0 : Below w.heap.size w w0 := by rw [hw0]; exact ext_alloc (Below.refl _ _) _
  have HB0 : Hid (Below w.heap.size w w0) := hb0
  have hsz : w.heap.size < w0.heap.size := by first | trivial | (rw [hw0]; simp)
  have hq0 : (w0.cell? ⟨w.heap.size, 0, none⟩ = some (.slice x.p x.n x.c) ∧ w0.cell? ⟨w.heap.size, 1, none⟩ = some (.int .i64 x.pl) ∧ w0.cell? ⟨w.heap.size, 2, none⟩ = some (.int .i64 x.sp.a) ∧ w0.cell? ⟨w.heap.size, 3, none⟩ = some (.int .i64 x.sp.s) ∧ w0.cell? ⟨w.heap.size, 4, none⟩ = some (.int .i64 x.sp.b) ∧ w0.cell? ⟨w.heap.size, 5, none⟩ = some (.bool x.sp.lf) ∧ w0.cell? ⟨w.heap.size, 6, none⟩ = some (.bool x.sp.cr)) := by first | trivial | (rw [hw0]; simp)
  have hq1 : True := by first | trivial | (rw [hw0]; simp)
  have hq2 : (w0.cell? ⟨g, 0, none⟩ = some (.slice y.p y.n y.c) ∧ w0.cell? ⟨g, 1, none⟩ = some (.int .i64 y.pl) ∧ w0.cell? ⟨g, 2, none⟩ = some (.int .i64 y.sp.a) ∧ w0.cell? ⟨g, 3, none⟩ = some (.int .i64 y.sp.s) ∧ w0.cell? ⟨g, 4, none⟩ = some (.int .i64 y.sp.b) ∧ w0.cell? ⟨g, 5, none⟩ = some (.bool y.sp.lf) ∧ w0.cell? ⟨g, 6, none⟩ = some (.bool y.sp.cr)) := (by first | trivial | exact C7.ext hb0 hgl c0 | exact C5.ext hb0 hgl c0 | exact (hb0.cell (p := ⟨g, 0, none⟩) hgl).trans c0 | exact (hb0.cell (p := ⟨g, 0, none⟩) hgl).trans c0)
  have hq3 : True := (by first | trivial | exact C7.ext hb0 hgl c1 | exact C5.ext hb0 hgl c1 | exact (hb0.cell (p := ⟨g, 1, none⟩) hgl).trans c1 | exact (hb0.cell (p := ⟨g, 1, none⟩) hgl).trans c1)
  have hq4 : w0.cell? ⟨g, 8, none⟩ = some (.pointer lu) := (by first | trivial | exact C7.ext hb0 hgl c2 | exact C5.ext hb0 hgl c2 | exact (hb0.cell (p := ⟨g, 8, none⟩) hgl).trans c2 | exact (hb0.cell (p := ⟨g, 3, none⟩) hgl).trans c2)
  have hq5 : w0.cell? ⟨g, 7, none⟩ = some (.pointer (some ⟨g2, 0, none⟩)) := (by first | trivial | exact C7.ext hb0 hgl c3 | exact C5.ext hb0 hgl c3 | exact (hb0.cell (p := ⟨g, 7, none⟩) hgl).trans c3 | exact (hb0.cell (p := ⟨g, 2, none⟩) hgl).trans c3)
  have hq6 : (w0.cell? ⟨g2, 0, none⟩ = some (.slice z.p z.n z.c) ∧ w0.cell? ⟨g2, 1, none⟩ = some (.int .i64 z.pl) ∧ w0.cell? ⟨g2, 2, none⟩ = some (.int .i64 z.sp.a) ∧ w0.cell? ⟨g2, 3, none⟩ = some (.int .i64 z.sp.s) ∧ w0.cell? ⟨g2, 4, none⟩ = some (.int .i64 z.sp.b) ∧ w0.cell? ⟨g2, 5, none⟩ = some (.bool z.sp.lf) ∧ w0.cell? ⟨g2, 6, none⟩ = some (.bool z.sp.cr)) := (by first | trivial | exact C7.ext hb0 hgl2 d0 | exact C5.ext hb0 hgl2 d0 | exact (hb0.cell (p := ⟨g2, 0, none⟩) hgl2).trans d0 | exact (hb0.cell (p := ⟨g2, 0, none⟩) hgl2).trans d0)
  have hq7 : True := (by first | trivial | exact C7.ext hb0 hgl2 d1 | exact C5.ext hb0 hgl2 d1 | exact (hb0.cell (p := ⟨g2, 1, none⟩) hgl2).trans d1 | exact (hb0.cell (p := ⟨g2, 1, none⟩) hgl2).trans d1)
  have hq8 : w0.cell? ⟨g2, 7, none⟩ = some (.pointer au) := (by first | trivial | exact C7.ext hb0 hgl2 d2 | exact C5.ext hb0 hgl2 d2 | exact (hb0.cell (p := ⟨g2, 7, none⟩) hgl2).trans d2 | exact (hb0.cell (p := ⟨g2, 2, none⟩) hgl2).trans d2)
  have hq9 : w0.cell? ⟨g2, 8, none⟩ = some (.pointer bu) := (by first | trivial | exact C7.ext hb0 hgl2 d3 | exact C5.ext hb0 hgl2 d3 | exact (hb0.cell (p := ⟨g2, 8, none⟩) hgl2).trans d3 | exact (hb0.cell (p := ⟨g2, 3, none⟩) hgl2).trans d3)
  have HC : Hid (∀ w', Below w0.heap.size w0 w' → (w'.cell? ⟨w.heap.size, 0, none⟩ = some (.slice x.p x.n x.c) ∧ w'.cell? ⟨w.heap.size, 1, none⟩ = some (.int .i64 x.pl) ∧ w'.cell? ⟨w.heap.size, 2, none⟩ = some (.int .i64 x.sp.a) ∧ w'.cell? ⟨w.heap.size, 3, none⟩ = some (.int .i64 x.sp.s) ∧ w'.cell? ⟨w.heap.size, 4, none⟩ = some (.int .i64 x.sp.b) ∧ w'.cell? ⟨w.heap.size, 5, none⟩ = some (.bool x.sp.lf) ∧ w'.cell? ⟨w.heap.size, 6, none⟩ = some (.bool x.sp.cr)) ∧ True ∧ (w'.cell? ⟨g, 0, none⟩ = some (.slice y.p y.n y.c) ∧ w'.cell? ⟨g, 1, none⟩ = some (.int .i64 y.pl) ∧ w'.cell? ⟨g, 2, none⟩ = some (.int .i64 y.sp.a) ∧ w'.cell? ⟨g, 3, none⟩ = some (.int .i64 y.sp.s) ∧ w'.cell? ⟨g, 4, none⟩ = some (.int .i64 y.sp.b) ∧ w'.cell? ⟨g, 5, none⟩ = some (.bool y.sp.lf) ∧ w'.cell? ⟨g, 6, none⟩ = some (.bool y.sp.cr)) ∧ True ∧ w'.cell? ⟨g, 8, none⟩ = some (.pointer lu) ∧ w'.cell? ⟨g, 7, none⟩ = some (.pointer (some ⟨g2, 0, none⟩)) ∧ (w'.cell? ⟨g2, 0, none⟩ = some (.slice z.p z.n z.c) ∧ w'.cell? ⟨g2, 1, none⟩ = some (.int .i64 z.pl) ∧ w'.cell? ⟨g2, 2, none⟩ = some (.int .i64 z.sp.a) ∧ w'.cell? ⟨g2, 3, none⟩ = some (.int .i64 z.sp.s) ∧ w'.cell? ⟨g2, 4, none⟩ = some (.int .i64 z.sp.b) ∧ w'.cell? ⟨g2, 5, none⟩ = some (.bool z.sp.lf) ∧ w'.cell? ⟨g2, 6, none⟩ = some (.bool z.sp.cr)) ∧ True ∧ w'.cell? ⟨g2, 7, none⟩ = some (.pointer au) ∧ w'.cell? ⟨g2, 8, none⟩ = some (.pointer bu)) := fun w' h => ⟨(by first | trivial | exact C7.ext h hsz hq0 | exact C5.ext h hsz hq0 | exact (h.cell (p := ⟨w.heap.size, 0, none⟩) hsz).trans hq0 | exact (h.cell (p := ⟨w.heap.size, 0, none⟩) hsz).trans hq0), (by first | trivial | exact C7.ext h hsz hq1 | exact C5.ext h hsz hq1 | exact (h.cell (p := ⟨w.heap.size, 1, none⟩) hsz).trans hq1 | exact (h.cell (p := ⟨w.heap.size, 1, none⟩) hsz).trans hq1), (by first | trivial | exact C7.ext h (Nat.lt_trans hgl hsz) hq2 | exact C5.ext h (Nat.lt_trans hgl hsz) hq2 | exact (h.cell (p := ⟨g, 0, none⟩) (Nat.lt_trans hgl hsz)).trans hq2 | exact (h.cell (p := ⟨g, 0, none⟩) (Nat.lt_trans hgl hsz)).trans hq2), (by first | trivial | exact C7.ext h (Nat.lt_trans hgl hsz) hq3 | exact C5.ext h (Nat.lt_trans hgl hsz) hq3 | exact (h.cell (p := ⟨g, 1, none⟩) (Nat.lt_trans hgl hsz)).trans hq3 | exact (h.cell (p := ⟨g, 1, none⟩) (Nat.lt_trans hgl hsz)).trans hq3), (by first | trivial | exact C7.ext h (Nat.lt_trans hgl hsz) hq4 | exact C5.ext h (Nat.lt_trans hgl hsz) hq4 | exact (h.cell (p := ⟨g, 8, none⟩) (Nat.lt_trans hgl hsz)).trans hq4 | exact (h.cell (p := ⟨g, 3, none⟩) (Nat.lt_trans hgl hsz)).trans hq4), (by first | trivial | exact C7.ext h (Nat.lt_trans hgl hsz) hq5 | exact C5.ext h (Nat.lt_trans hgl hsz) hq5 | exact (h.cell (p := ⟨g, 7, none⟩) (Nat.lt_trans hgl hsz)).trans hq5 | exact (h.cell (p := ⟨g, 2, none⟩) (Nat.lt_trans hgl hsz)).trans hq5), (by first | trivial | exact C7.ext h (Nat.lt_trans hgl2 hsz) hq6 | exact C5.ext h (Nat.lt_trans hgl2 hsz) hq6 | exact (h.cell (p := ⟨g2, 0, none⟩) (Nat.lt_trans hgl2 hsz)).trans hq6 | exact (h.cell (p := ⟨g2, 0, none⟩) (Nat.lt_trans hgl2 hsz)).trans hq6), (by first | trivial | exact C7.ext h (Nat.lt_trans hgl2 hsz) hq7 | exact C5.ext h (Nat.lt_trans hgl2 hsz) hq7 | exact (h.cell (p := ⟨g2, 1, none⟩) (Nat.lt_trans hgl2 hsz)).trans hq7 | exact (h.cell (p := ⟨g2, 1, none⟩) (Nat.lt_trans hgl2 hsz)).trans hq7), (by first | trivial | exact C7.ext h (Nat.lt_trans hgl2 hsz) hq8 | exact C5.ext h (Nat.lt_trans hgl2 hsz) hq8 | exact (h.cell (p := ⟨g2, 7, none⟩) (Nat.lt_trans hgl2 hsz)).trans hq8 | exact (h.cell (p := ⟨g2, 2, none⟩) (Nat.lt_trans hgl2 hsz)).trans hq8), (by first | trivial | exact C7.ext h (Nat.lt_trans hgl2 hsz) hq9 | exact C5.ext h (Nat.lt_trans hgl2 hsz) hq9 | exact (h.cell (p := ⟨g2, 8, none⟩) (Nat.lt_trans hgl2 hsz)).trans hq9 | exact (h.cell (p := ⟨g2, 3, none⟩) (Nat.lt_trans hgl2 hsz)).trans hq9)⟩
  have b3 := l1.ht_le
  have b4 := (Tr.node a z b).ht_le
  have b5 := wt_len l1.list
  have b6 := wt_len (Tr.node a z b).list
  simp only [Tr.list] at b4 b6
  simp only [wt_app, wt_cons] at hw b6
  have VL : Hid (∀ w', Below w.heap.size w w' → Calls Tryz.prog 142 #[.pointer lu] w' fun e w'' => e = .returned (.int .i64 l1.ht) ∧ w'' = w') := fun w' h => levels_any l1 lu w' (h2.ext h)
  have VR : Hid (∀ w', Below w.heap.size w w' → Calls Tryz.prog 142 #[.pointer (some ⟨g2, 0, none⟩)] w' fun e w'' => e = .returned (.int .i64 (Tr.node a z b).ht) ∧ w'' = w') := fun w' h => levels_any (Tr.node a z b) _ w' (h3'.ext h)
  have B1 : Hid (∀ w', Below w0.heap.size w0 w' → Calls Tryz.prog 126 #[.pointer ou, .agg #[.slice x.p x.n x.c, .int .i64 x.pl, .int .i64 x.sp.a, .int .i64 x.sp.s, .int .i64 x.sp.b, .bool x.sp.lf, .bool x.sp.cr], .pointer au] w' fun e w'' => ∃ u, e = .returned (.pointer u) ∧ Hid (Tin w'' (.node o x a) u) ∧ Below w0.heap.size w0 w'') := fun w' h => br_at h ((ho.ext hb0).ext h) ((h4.ext hb0).ext h) (by simp only [wt_app, wt_cons]; omega)
  have B2 : Hid (∀ u w', Hid (Tin w' (.node o x a) u) → Below w0.heap.size w0 w' → Calls Tryz.prog 126 #[.pointer bu, .agg #[.slice y.p y.n y.c, .int .i64 y.pl, .int .i64 y.sp.a, .int .i64 y.sp.s, .int .i64 y.sp.b, .bool y.sp.lf, .bool y.sp.cr], .pointer lu] w' fun e w'' => ∃ v, e = .returned (.pointer v) ∧ Hid (Tin w'' (.node b y l1) v ∧ Tin w'' (.node o x a) u) ∧ Below w0.heap.size w0 w'') := fun u w' ht h => (branch_any b l1 y bu lu w' ((h5.ext hb0).ext h) ((h2.ext hb0).ext h) (by simp only [wt_app, wt_cons]; omega)).mono fun _ _ ⟨v, k1, k2, k3⟩ => ⟨v, k1, ⟨k2, ht.out.ext k3⟩, ext_trans h k3⟩
  have B3 : Hid (∀ u v w', Hid (Tin w' (.node b y l1) v ∧ Tin w' (.node o x a) u) → Below w0.heap.size w0 w' → Calls Tryz.prog 126 #[.pointer u, .agg #[.slice z.p z.n z.c, .int .i64 z.pl, .int .i64 z.sp.a, .int .i64 z.sp.s, .int .i64 z.sp.b, .bool z.sp.lf, .bool z.sp.cr], .pointer v] w' fun e w'' => ∃ u, e = .returned (.pointer u) ∧ Hid (Tin w'' (.node (.node o x a) z (.node b y l1)) u) ∧ Below w0.heap.size w0 w'') := fun u v w' ht h => br_at h ht.out.2 ht.out.1 (by simp only [Tr.list, wt_app, wt_cons]; omega)
  have hlt : (l1.ht : Int) < ((Tr.node a z b).ht : Int) := by omega
  have hge : ¬ ((Tr.node a z b).ht : Int) ≤ (l1.ht : Int) := by omega
  clear hg ho hw h0 h1 h2 h3 h3' h4 h5 b3 b4 b5 b6 hb0
  generalize l1.ht = m1 at *
  generalize (Tr.node a z b).ht = m2 at *
  go_enter Tryz.func151, Tryz.ntmps151
  go_wp2_with (first | (go_at_call_of 142 lu; refine (VL.out _ (by repeat (first | exact Below.refl _ _ | refine ext_alloc ?_ _ | apply Below.drew))).mono ?_; rintro e w1 ⟨rfl, rfl⟩) | (go_at_call_of 142 g2; refine (VR.out _ (by repeat (first | exact Below.refl _ _ | refine ext_alloc ?_ _ | apply Below.drew))).mono ?_; rintro e w1 ⟨rfl, rfl⟩))
  rw [← hw0]
  clear hw0
  have HB : Hid (Below w0.heap.size w0 w0) := Below.refl _ _
  go_region_held3 (fun w' => (w'.cell? ⟨w.heap.size, 0, none⟩ = some (.slice x.p x.n x.c) ∧ w'.cell? ⟨w.heap.size, 1, none⟩ = some (.int .i64 x.pl) ∧ w'.cell? ⟨w.heap.size, 2, none⟩ = some (.int .i64 x.sp.a) ∧ w'.cell? ⟨w.heap.size, 3, none⟩ = some (.int .i64 x.sp.s) ∧ w'.cell? ⟨w.heap.size, 4, none⟩ = some (.int .i64 x.sp.b) ∧ w'.cell? ⟨w.heap.size, 5, none⟩ = some (.bool x.sp.lf) ∧ w'.cell? ⟨w.heap.size, 6, none⟩ = some (.bool x.sp.cr)) ∧ True ∧ (w'.cell? ⟨g, 0, none⟩ = some (.slice y.p y.n y.c) ∧ w'.cell? ⟨g, 1, none⟩ = some (.int .i64 y.pl) ∧ w'.cell? ⟨g, 2, none⟩ = some (.int .i64 y.sp.a) ∧ w'.cell? ⟨g, 3, none⟩ = some (.int .i64 y.sp.s) ∧ w'.cell? ⟨g, 4, none⟩ = some (.int .i64 y.sp.b) ∧ w'.cell? ⟨g, 5, none⟩ = some (.bool y.sp.lf) ∧ w'.cell? ⟨g, 6, none⟩ = some (.bool y.sp.cr)) ∧ True ∧ w'.cell? ⟨g, 8, none⟩ = some (.pointer lu) ∧ w'.cell? ⟨g, 7, none⟩ = some (.pointer (some ⟨g2, 0, none⟩)) ∧ (w'.cell? ⟨g2, 0, none⟩ = some (.slice z.p z.n z.c) ∧ w'.cell? ⟨g2, 1, none⟩ = some (.int .i64 z.pl) ∧ w'.cell? ⟨g2, 2, none⟩ = some (.int .i64 z.sp.a) ∧ w'.cell? ⟨g2, 3, none⟩ = some (.int .i64 z.sp.s) ∧ w'.cell? ⟨g2, 4, none⟩ = some (.int .i64 z.sp.b) ∧ w'.cell? ⟨g2, 5, none⟩ = some (.bool z.sp.lf) ∧ w'.cell? ⟨g2, 6, none⟩ = some (.bool z.sp.cr)) ∧ True ∧ w'.cell? ⟨g2, 7, none⟩ = some (.pointer au) ∧ w'.cell? ⟨g2, 8, none⟩ = some (.pointer bu)) (go_keep) (first
    | (go_at_call_of 126 ou; refine (B1.out _ (by repeat (first | exact HB.out | apply Below.drew))).mono ?_; rintro e w1 ⟨u1, rfl, T1, hb1⟩; clear hq0 hq1 hq2 hq3 hq4 hq5 hq6 hq7 hq8 hq9 HB; have HB : Hid (Below w0.heap.size w0 w1) := hb1; obtain ⟨hq0, hq1, hq2, hq3, hq4, hq5, hq6, hq7, hq8, hq9⟩ := HC.out w1 hb1; clear hb1)
    | (go_at_call_of 126 lu; refine (B2.out _ _ T1 (by repeat (first | exact HB.out | apply Below.drew))).mono ?_; rintro e w1 ⟨u2, rfl, T2, hb1⟩; clear hq0 hq1 hq2 hq3 hq4 hq5 hq6 hq7 hq8 hq9 HB; have HB : Hid (Below w0.heap.size w0 w1) := hb1; obtain ⟨hq0, hq1, hq2, hq3, hq4, hq5, hq6, hq7, hq8, hq9⟩ := HC.out w1 hb1; clear hb1)
    | (go_at_call_of 126 z; refine (B3.out _ _ _ T2 (by repeat (first | exact HB.out | apply Below.drew))).mono ?_; rintro e w1 ⟨u3, rfl, T3, hb1⟩; clear hq0 hq1 hq2 hq3 hq4 hq5 hq6 hq7 hq8 hq9 HB; have HB : Hid (Below w0.heap.size w0 w1) := hb1; obtain ⟨hq0, hq1, hq2, hq3, hq4, hq5, hq6, hq7, hq8, hq9⟩ := HC.out w1 hb1; clear hb1))
  go_wp2_with fail
  go_ret
  exact ⟨_, _, rfl, T3.out, HM.out, ext_trans HB0.out HB.out⟩
end Go.Proofs.YtbmelpjmpomfcaaGreat.P

namespace Go.Proofs.YtbmelpjmpomfcaaGreat.P
open Go.RowKit

theorem turnRight_any (l r : Tr It) (x : It) (lu ru : Option Addr) (w : World) (hl : Tin w l lu) (hr : Tin w r ru) (hw : wt (l.list ++ x :: r.list) ≤ 4611686018427387904) (h0 : r.ht + 1 < l.ht) :
    Calls Tryz.prog 150 #[.pointer lu, .agg #[.slice x.p x.n x.c, .int .i64 x.pl, .int .i64 x.sp.a, .int .i64 x.sp.s, .int .i64 x.sp.b, .bool x.sp.lf, .bool x.sp.cr], .pointer ru] w fun e w' => ∃ u t, e = .returned (.pointer u) ∧ Tin w' t u ∧ Made t l x r ∧ Below w.heap.size w w' := by
  obtain ⟨l1, y, l2, rfl⟩ := Tr.ht_pos (t := l) (by omega)
  by_cases h1 : l2.ht ≤ l1.ht
  · exact turn_right1 l1 l2 y r x lu ru w hl hr hw h0 h1
  · obtain ⟨a, z, b, rfl⟩ := Tr.ht_pos (t := l2) (by omega)
    exact turn_right2 l1 a b z y r x lu ru w hl hr hw h0 (by omega)
theorem turnLeft_any (l r : Tr It) (x : It) (lu ru : Option Addr) (w : World) (hl : Tin w l lu) (hr : Tin w r ru) (hw : wt (l.list ++ x :: r.list) ≤ 4611686018427387904) (h0 : l.ht + 1 < r.ht) :
    Calls Tryz.prog 151 #[.pointer lu, .agg #[.slice x.p x.n x.c, .int .i64 x.pl, .int .i64 x.sp.a, .int .i64 x.sp.s, .int .i64 x.sp.b, .bool x.sp.lf, .bool x.sp.cr], .pointer ru] w fun e w' => ∃ u t, e = .returned (.pointer u) ∧ Tin w' t u ∧ Made t l x r ∧ Below w.heap.size w w' := by
  obtain ⟨l1, y, l2, rfl⟩ := Tr.ht_pos (t := r) (by omega)
  by_cases h1 : l1.ht ≤ l2.ht
  · exact turn_left1 l1 l2 y l x ru lu w hr hl hw h0 h1
  · obtain ⟨a, z, b, rfl⟩ := Tr.ht_pos (t := l1) (by omega)
    exact turn_left2 l2 a b z y l x ru lu w hr hl hw h0 (by omega)

set_option maxRecDepth 100000 in
set_option maxHeartbeats 2000000 in
theorem level_hi (l r : Tr It) (x : It) (lu ru : Option Addr) (w : World) (hl : Tin w l lu) (hr : Tin w r ru) (hw : wt (l.list ++ x :: r.list) ≤ 4611686018427387904) (h0 : r.ht + 1 < l.ht) :
    Calls Tryz.prog 147 #[.pointer lu, .agg #[.slice x.p x.n x.c, .int .i64 x.pl, .int .i64 x.sp.a, .int .i64 x.sp.s, .int .i64 x.sp.b, .bool x.sp.lf, .bool x.sp.cr], .pointer ru] w fun e w' => ∃ u t, e = .returned (.pointer u) ∧ Tin w' t u ∧ Made t l x r ∧ Below w.heap.size w w' := by
  have b1 := l.ht_le
  have b2 := r.ht_le
  have b3 := wt_len l.list
  have b4 := wt_len r.list
  have hw2 := hw
  rw [wt_app, wt_cons] at hw2
  have e1 : (l.ht : Int) ≤ 4611686018427387904 := by omega
  have e2 : (r.ht : Int) ≤ 4611686018427387904 := by omega
  have VL : Hid (∀ w', Below w.heap.size w w' → Calls Tryz.prog 142 #[.pointer lu] w' fun e w'' => e = .returned (.int .i64 l.ht) ∧ w'' = w') := fun w' h => levels_any l lu w' (hl.ext h)
  have VR : Hid (∀ w', Below w.heap.size w w' → Calls Tryz.prog 142 #[.pointer ru] w' fun e w'' => e = .returned (.int .i64 r.ht) ∧ w'' = w') := fun w' h => levels_any r ru w' (hr.ext h)
  have CC : Hid (∀ w', Below w.heap.size w w' → Calls Tryz.prog 150 #[.pointer lu, .agg #[.slice x.p x.n x.c, .int .i64 x.pl, .int .i64 x.sp.a, .int .i64 x.sp.s, .int .i64 x.sp.b, .bool x.sp.lf, .bool x.sp.cr], .pointer ru] w' fun e w' => ∃ u t, e = .returned (.pointer u) ∧ Tin w' t u ∧ Made t l x r ∧ Below w.heap.size w w') := fun w' h => (turnRight_any l r x lu ru w' (hl.ext h) (hr.ext h) hw h0).mono fun _ _ ⟨u, t, k1, k2, k3, k4⟩ => ⟨u, t, k1, k2, k3, ext_trans h k4⟩
  have t1 : (1 : Int) < (l.ht : Int) - (r.ht : Int) := by omega
  clear hl hr hw hw2 b1 b2 b3 b4
  generalize l.ht = m1 at *
  generalize r.ht = m2 at *
  go_enter Tryz.func147, Tryz.ntmps147
  go_wp2_with (first | (go_at_call_of 142 lu; refine (VL.out _ (by repeat (first | exact Below.refl _ _ | refine ext_alloc ?_ _ | apply Below.drew))).mono ?_; rintro e w1 ⟨rfl, rfl⟩) | (go_at_call_of 142 ru; refine (VR.out _ (by repeat (first | exact Below.refl _ _ | refine ext_alloc ?_ _ | apply Below.drew))).mono ?_; rintro e w1 ⟨rfl, rfl⟩) | (go_at_call 150; refine (CC.out _ (by repeat (first | exact Below.refl _ _ | refine ext_alloc ?_ _ | apply Below.drew))).mono ?_; rintro e w1 ⟨u, t, rfl, h1, h2, h3⟩; have T1 : Hid _ := h1; have T2 : Hid _ := h2; have T3 : Hid _ := h3; clear h1 h2 h3))
  go_ret
  exact ⟨_, _, rfl, T1.out, T2.out, T3.out⟩

set_option maxRecDepth 100000 in
set_option maxHeartbeats 2000000 in
theorem level_lo (l r : Tr It) (x : It) (lu ru : Option Addr) (w : World) (hl : Tin w l lu) (hr : Tin w r ru) (hw : wt (l.list ++ x :: r.list) ≤ 4611686018427387904) (h0 : l.ht + 1 < r.ht) :
    Calls Tryz.prog 147 #[.pointer lu, .agg #[.slice x.p x.n x.c, .int .i64 x.pl, .int .i64 x.sp.a, .int .i64 x.sp.s, .int .i64 x.sp.b, .bool x.sp.lf, .bool x.sp.cr], .pointer ru] w fun e w' => ∃ u t, e = .returned (.pointer u) ∧ Tin w' t u ∧ Made t l x r ∧ Below w.heap.size w w' := by
  have b1 := l.ht_le
  have b2 := r.ht_le
  have b3 := wt_len l.list
  have b4 := wt_len r.list
  have hw2 := hw
  rw [wt_app, wt_cons] at hw2
  have e1 : (l.ht : Int) ≤ 4611686018427387904 := by omega
  have e2 : (r.ht : Int) ≤ 4611686018427387904 := by omega
  have VL : Hid (∀ w', Below w.heap.size w w' → Calls Tryz.prog 142 #[.pointer lu] w' fun e w'' => e = .returned (.int .i64 l.ht) ∧ w'' = w') := fun w' h => levels_any l lu w' (hl.ext h)
  have VR : Hid (∀ w', Below w.heap.size w w' → Calls Tryz.prog 142 #[.pointer ru] w' fun e w'' => e = .returned (.int .i64 r.ht) ∧ w'' = w') := fun w' h => levels_any r ru w' (hr.ext h)
  have CC : Hid (∀ w', Below w.heap.size w w' → Calls Tryz.prog 151 #[.pointer lu, .agg #[.slice x.p x.n x.c, .int .i64 x.pl, .int .i64 x.sp.a, .int .i64 x.sp.s, .int .i64 x.sp.b, .bool x.sp.lf, .bool x.sp.cr], .pointer ru] w' fun e w' => ∃ u t, e = .returned (.pointer u) ∧ Tin w' t u ∧ Made t l x r ∧ Below w.heap.size w w') := fun w' h => (turnLeft_any l r x lu ru w' (hl.ext h) (hr.ext h) hw h0).mono fun _ _ ⟨u, t, k1, k2, k3, k4⟩ => ⟨u, t, k1, k2, k3, ext_trans h k4⟩
  have t1 : ¬ (1 : Int) < (l.ht : Int) - (r.ht : Int) := by omega
  have t2 : (l.ht : Int) - (r.ht : Int) < -1 := by omega
  clear hl hr hw hw2 b1 b2 b3 b4
  generalize l.ht = m1 at *
  generalize r.ht = m2 at *
  go_enter Tryz.func147, Tryz.ntmps147
  go_wp2_with (first | (go_at_call_of 142 lu; refine (VL.out _ (by repeat (first | exact Below.refl _ _ | refine ext_alloc ?_ _ | apply Below.drew))).mono ?_; rintro e w1 ⟨rfl, rfl⟩) | (go_at_call_of 142 ru; refine (VR.out _ (by repeat (first | exact Below.refl _ _ | refine ext_alloc ?_ _ | apply Below.drew))).mono ?_; rintro e w1 ⟨rfl, rfl⟩) | (go_at_call 151; refine (CC.out _ (by repeat (first | exact Below.refl _ _ | refine ext_alloc ?_ _ | apply Below.drew))).mono ?_; rintro e w1 ⟨u, t, rfl, h1, h2, h3⟩; have T1 : Hid _ := h1; have T2 : Hid _ := h2; have T3 : Hid _ := h3; clear h1 h2 h3))
  go_ret
  exact ⟨_, _, rfl, T1.out, T2.out, T3.out⟩

set_option maxRecDepth 100000 in
set_option maxHeartbeats 2000000 in
theorem level_eq (l r : Tr It) (x : It) (lu ru : Option Addr) (w : World) (hl : Tin w l lu) (hr : Tin w r ru) (hw : wt (l.list ++ x :: r.list) ≤ 4611686018427387904) (h0 : l.ht ≤ r.ht + 1) (h1 : r.ht ≤ l.ht + 1) :
    Calls Tryz.prog 147 #[.pointer lu, .agg #[.slice x.p x.n x.c, .int .i64 x.pl, .int .i64 x.sp.a, .int .i64 x.sp.s, .int .i64 x.sp.b, .bool x.sp.lf, .bool x.sp.cr], .pointer ru] w fun e w' => ∃ u t, e = .returned (.pointer u) ∧ Tin w' t u ∧ Made t l x r ∧ Below w.heap.size w w' := by
  have b1 := l.ht_le
  have b2 := r.ht_le
  have b3 := wt_len l.list
  have b4 := wt_len r.list
  have hw2 := hw
  rw [wt_app, wt_cons] at hw2
  have e1 : (l.ht : Int) ≤ 4611686018427387904 := by omega
  have e2 : (r.ht : Int) ≤ 4611686018427387904 := by omega
  have VL : Hid (∀ w', Below w.heap.size w w' → Calls Tryz.prog 142 #[.pointer lu] w' fun e w'' => e = .returned (.int .i64 l.ht) ∧ w'' = w') := fun w' h => levels_any l lu w' (hl.ext h)
  have VR : Hid (∀ w', Below w.heap.size w w' → Calls Tryz.prog 142 #[.pointer ru] w' fun e w'' => e = .returned (.int .i64 r.ht) ∧ w'' = w') := fun w' h => levels_any r ru w' (hr.ext h)
  have CC : Hid (∀ w', Below w.heap.size w w' → Calls Tryz.prog 126 #[.pointer lu, .agg #[.slice x.p x.n x.c, .int .i64 x.pl, .int .i64 x.sp.a, .int .i64 x.sp.s, .int .i64 x.sp.b, .bool x.sp.lf, .bool x.sp.cr], .pointer ru] w' fun e w' => ∃ u t, e = .returned (.pointer u) ∧ Tin w' t u ∧ Made t l x r ∧ Below w.heap.size w w') := fun w' h => (branch_any l r x lu ru w' (hl.ext h) (hr.ext h) hw).mono fun _ _ ⟨u, k1, k2, k4⟩ => ⟨u, _, k1, k2, Made.branch h0 h1, ext_trans h k4⟩
  have t1 : ¬ (1 : Int) < (l.ht : Int) - (r.ht : Int) := by omega
  have t2 : ¬ (l.ht : Int) - (r.ht : Int) < -1 := by omega
  clear hl hr hw hw2 b1 b2 b3 b4
  generalize l.ht = m1 at *
  generalize r.ht = m2 at *
  go_enter Tryz.func147, Tryz.ntmps147
  go_wp2_with (first | (go_at_call_of 142 lu; refine (VL.out _ (by repeat (first | exact Below.refl _ _ | refine ext_alloc ?_ _ | apply Below.drew))).mono ?_; rintro e w1 ⟨rfl, rfl⟩) | (go_at_call_of 142 ru; refine (VR.out _ (by repeat (first | exact Below.refl _ _ | refine ext_alloc ?_ _ | apply Below.drew))).mono ?_; rintro e w1 ⟨rfl, rfl⟩) | (go_at_call 126; refine (CC.out _ (by repeat (first | exact Below.refl _ _ | refine ext_alloc ?_ _ | apply Below.drew))).mono ?_; rintro e w1 ⟨u, t, rfl, h1, h2, h3⟩; have T1 : Hid _ := h1; have T2 : Hid _ := h2; have T3 : Hid _ := h3; clear h1 h2 h3))
  go_ret
  exact ⟨_, _, rfl, T1.out, T2.out, T3.out⟩
theorem level_any (l r : Tr It) (x : It) (lu ru : Option Addr) (w : World) (hl : Tin w l lu) (hr : Tin w r ru) (hw : wt (l.list ++ x :: r.list) ≤ 4611686018427387904) :
    Calls Tryz.prog 147 #[.pointer lu, .agg #[.slice x.p x.n x.c, .int .i64 x.pl, .int .i64 x.sp.a, .int .i64 x.sp.s, .int .i64 x.sp.b, .bool x.sp.lf, .bool x.sp.cr], .pointer ru] w fun e w' => ∃ u t, e = .returned (.pointer u) ∧ Tin w' t u ∧ Made t l x r ∧ Below w.heap.size w w' := by
  by_cases h1 : r.ht + 1 < l.ht
  · exact level_hi l r x lu ru w hl hr hw h1
  by_cases h2 : l.ht + 1 < r.ht
  · exact level_lo l r x lu ru w hl hr hw h2
  · exact level_eq l r x lu ru w hl hr hw (by omega) (by omega)

set_option maxRecDepth 100000 in
set_option maxHeartbeats 2000000 in
theorem join_eq (l r : Tr It) (x : It) (lu ru : Option Addr) (w : World) (hl : Tin w l lu) (hr : Tin w r ru) (hw : wt (l.list ++ x :: r.list) ≤ 4611686018427387904) (h0 : l.ht ≤ r.ht + 1) (h1 : r.ht ≤ l.ht + 1) :
    Calls Tryz.prog 140 #[.pointer lu, .agg #[.slice x.p x.n x.c, .int .i64 x.pl, .int .i64 x.sp.a, .int .i64 x.sp.s, .int .i64 x.sp.b, .bool x.sp.lf, .bool x.sp.cr], .pointer ru] w fun e w' => ∃ u t, e = .returned (.pointer u) ∧ Tin w' t u ∧ Joined t l x r ∧ Below w.heap.size w w' := by
  have b1 := l.ht_le
  have b2 := r.ht_le
  have b3 := wt_len l.list
  have b4 := wt_len r.list
  have hw2 := hw
  rw [wt_app, wt_cons] at hw2
  have e1 : (l.ht : Int) ≤ 4611686018427387904 := by omega
  have e2 : (r.ht : Int) ≤ 4611686018427387904 := by omega
  have VL : Hid (∀ w', Below w.heap.size w w' → Calls Tryz.prog 142 #[.pointer lu] w' fun e w'' => e = .returned (.int .i64 l.ht) ∧ w'' = w') := fun w' h => levels_any l lu w' (hl.ext h)
  have VR : Hid (∀ w', Below w.heap.size w w' → Calls Tryz.prog 142 #[.pointer ru] w' fun e w'' => e = .returned (.int .i64 r.ht) ∧ w'' = w') := fun w' h => levels_any r ru w' (hr.ext h)
  have CC : Hid (∀ w', Below w.heap.size w w' → Calls Tryz.prog 126 #[.pointer lu, .agg #[.slice x.p x.n x.c, .int .i64 x.pl, .int .i64 x.sp.a, .int .i64 x.sp.s, .int .i64 x.sp.b, .bool x.sp.lf, .bool x.sp.cr], .pointer ru] w' fun e w' => ∃ u t, e = .returned (.pointer u) ∧ Tin w' t u ∧ Joined t l x r ∧ Below w.heap.size w w') := fun w' h => (branch_any l r x lu ru w' (hl.ext h) (hr.ext h) hw).mono fun _ _ ⟨u, k1, k2, k4⟩ => ⟨u, _, k1, k2, Joined.branch h0 h1, ext_trans h k4⟩
  have t1 : ¬ (1 : Int) < (l.ht : Int) - (r.ht : Int) := by omega
  have t2 : ¬ (l.ht : Int) - (r.ht : Int) < -1 := by omega
  clear hl hr hw hw2 b1 b2 b3 b4
  generalize l.ht = m1 at *
  generalize r.ht = m2 at *
  go_enter Tryz.func140, Tryz.ntmps140
  go_wp2_with (first | (go_at_call_of 142 lu; refine (VL.out _ (by repeat (first | exact Below.refl _ _ | refine ext_alloc ?_ _ | apply Below.drew))).mono ?_; rintro e w1 ⟨rfl, rfl⟩) | (go_at_call_of 142 ru; refine (VR.out _ (by repeat (first | exact Below.refl _ _ | refine ext_alloc ?_ _ | apply Below.drew))).mono ?_; rintro e w1 ⟨rfl, rfl⟩) | (go_at_call 126; refine (CC.out _ (by repeat (first | exact Below.refl _ _ | refine ext_alloc ?_ _ | apply Below.drew))).mono ?_; rintro e w1 ⟨u, t, rfl, h1, h2, h3⟩; have T1 : Hid _ := h1; have T2 : Hid _ := h2; have T3 : Hid _ := h3; clear h1 h2 h3))
  go_ret
  exact ⟨_, _, rfl, T1.out, T2.out, T3.out⟩

set_option maxRecDepth 100000 in
set_option maxHeartbeats 2000000 in
theorem join_hi (l1 l2 o : Tr It) (y x : It) (gu ou : Option Addr) (w : World) (hg : Tin w (.node l1 y l2) gu) (ho : Tin w o ou) (hw : wt ((l1.list ++ y :: l2.list) ++ x :: o.list) ≤ 4611686018427387904) (h0 : o.ht + 1 < (Tr.node l1 y l2).ht)
    (ih : ∀ (au bu : Option Addr) (w : World), Tin w l2 au → Tin w o bu → wt (l2.list ++ x :: o.list) ≤ 4611686018427387904 → Calls Tryz.prog 140 #[.pointer au, .agg #[.slice x.p x.n x.c, .int .i64 x.pl, .int .i64 x.sp.a, .int .i64 x.sp.s, .int .i64 x.sp.b, .bool x.sp.lf, .bool x.sp.cr], .pointer bu] w fun e w' => ∃ u t, e = .returned (.pointer u) ∧ Tin w' t u ∧ Joined t l2 x o ∧ Below w.heap.size w w') :
    Calls Tryz.prog 140 #[.pointer gu, .agg #[.slice x.p x.n x.c, .int .i64 x.pl, .int .i64 x.sp.a, .int .i64 x.sp.s, .int .i64 x.sp.b, .bool x.sp.lf, .bool x.sp.cr], .pointer ou] w fun e w' => ∃ u t, e = .returned (.pointer u) ∧ Tin w' t u ∧ Joined t (.node l1 y l2) x o ∧ Below w.heap.size w w' := by
  have b1 := o.ht_le
  have b2 := (Tr.node l1 y l2).ht_le
  have b3 := wt_len o.list
  have b4 := wt_len (Tr.node l1 y l2).list
  simp only [Tr.list] at b2 b4
  simp only [wt_app, wt_cons] at hw b4
  have hg' := hg
  obtain ⟨g, lu, ru, rfl, hgl, h2, h3, c0, c1, c2, c3⟩ := hg.lt
  obtain ⟨w0, hw0⟩ : ∃ w0, w0 = w.alloc (.cells #[.slice x.p x.n x.c, .int .i64 x.pl, .int .i64 x.sp.a, .int .i64 x.sp.s, .int .i64 x.sp.b, .bool x.sp.lf, .bool x.sp.cr] 122) := ⟨_, rfl⟩
  have hb0 : Below w.heap.size w w0 := by rw [hw0]; exact ext_alloc (Below.refl _ _) _
  have HB0 : Hid (Below w.heap.size w w0) := hb0
  have hsz : w.heap.size < w0.heap.size := by first | trivial | (rw [hw0]; simp)
  have hq0 : (w0.cell? ⟨w.heap.size, 0, none⟩ = some (.slice x.p x.n x.c) ∧ w0.cell? ⟨w.heap.size, 1, none⟩ = some (.int .i64 x.pl) ∧ w0.cell? ⟨w.heap.size, 2, none⟩ = some (.int .i64 x.sp.a) ∧ w0.cell? ⟨w.heap.size, 3, none⟩ = some (.int .i64 x.sp.s) ∧ w0.cell? ⟨w.heap.size, 4, none⟩ = some (.int .i64 x.sp.b) ∧ w0.cell? ⟨w.heap.size, 5, none⟩ = some (.bool x.sp.lf) ∧ w0.cell? ⟨w.heap.size, 6, none⟩ = some (.bool x.sp.cr)) := by first | trivial | (rw [hw0]; simp)
  have hq1 : True := by first | trivial | (rw [hw0]; simp)
  have hq2 : (w0.cell? ⟨g, 0, none⟩ = some (.slice y.p y.n y.c) ∧ w0.cell? ⟨g, 1, none⟩ = some (.int .i64 y.pl) ∧ w0.cell? ⟨g, 2, none⟩ = some (.int .i64 y.sp.a) ∧ w0.cell? ⟨g, 3, none⟩ = some (.int .i64 y.sp.s) ∧ w0.cell? ⟨g, 4, none⟩ = some (.int .i64 y.sp.b) ∧ w0.cell? ⟨g, 5, none⟩ = some (.bool y.sp.lf) ∧ w0.cell? ⟨g, 6, none⟩ = some (.bool y.sp.cr)) := (by first | trivial | exact C7.ext hb0 hgl c0 | exact C5.ext hb0 hgl c0 | exact (hb0.cell (p := ⟨g, 0, none⟩) hgl).trans c0 | exact (hb0.cell (p := ⟨g, 0, none⟩) hgl).trans c0)
  have hq3 : True := (by first | trivial | exact C7.ext hb0 hgl c1 | exact C5.ext hb0 hgl c1 | exact (hb0.cell (p := ⟨g, 1, none⟩) hgl).trans c1 | exact (hb0.cell (p := ⟨g, 1, none⟩) hgl).trans c1)
  have hq4 : w0.cell? ⟨g, 7, none⟩ = some (.pointer lu) := (by first | trivial | exact C7.ext hb0 hgl c2 | exact C5.ext hb0 hgl c2 | exact (hb0.cell (p := ⟨g, 7, none⟩) hgl).trans c2 | exact (hb0.cell (p := ⟨g, 2, none⟩) hgl).trans c2)
  have hq5 : w0.cell? ⟨g, 8, none⟩ = some (.pointer ru) := (by first | trivial | exact C7.ext hb0 hgl c3 | exact C5.ext hb0 hgl c3 | exact (hb0.cell (p := ⟨g, 8, none⟩) hgl).trans c3 | exact (hb0.cell (p := ⟨g, 3, none⟩) hgl).trans c3)
  have HC : Hid (∀ w', Below w0.heap.size w0 w' → (w'.cell? ⟨w.heap.size, 0, none⟩ = some (.slice x.p x.n x.c) ∧ w'.cell? ⟨w.heap.size, 1, none⟩ = some (.int .i64 x.pl) ∧ w'.cell? ⟨w.heap.size, 2, none⟩ = some (.int .i64 x.sp.a) ∧ w'.cell? ⟨w.heap.size, 3, none⟩ = some (.int .i64 x.sp.s) ∧ w'.cell? ⟨w.heap.size, 4, none⟩ = some (.int .i64 x.sp.b) ∧ w'.cell? ⟨w.heap.size, 5, none⟩ = some (.bool x.sp.lf) ∧ w'.cell? ⟨w.heap.size, 6, none⟩ = some (.bool x.sp.cr)) ∧ True ∧ (w'.cell? ⟨g, 0, none⟩ = some (.slice y.p y.n y.c) ∧ w'.cell? ⟨g, 1, none⟩ = some (.int .i64 y.pl) ∧ w'.cell? ⟨g, 2, none⟩ = some (.int .i64 y.sp.a) ∧ w'.cell? ⟨g, 3, none⟩ = some (.int .i64 y.sp.s) ∧ w'.cell? ⟨g, 4, none⟩ = some (.int .i64 y.sp.b) ∧ w'.cell? ⟨g, 5, none⟩ = some (.bool y.sp.lf) ∧ w'.cell? ⟨g, 6, none⟩ = some (.bool y.sp.cr)) ∧ True ∧ w'.cell? ⟨g, 7, none⟩ = some (.pointer lu) ∧ w'.cell? ⟨g, 8, none⟩ = some (.pointer ru)) := fun w' h => ⟨(by first | trivial | exact C7.ext h hsz hq0 | exact C5.ext h hsz hq0 | exact (h.cell (p := ⟨w.heap.size, 0, none⟩) hsz).trans hq0 | exact (h.cell (p := ⟨w.heap.size, 0, none⟩) hsz).trans hq0), (by first | trivial | exact C7.ext h hsz hq1 | exact C5.ext h hsz hq1 | exact (h.cell (p := ⟨w.heap.size, 1, none⟩) hsz).trans hq1 | exact (h.cell (p := ⟨w.heap.size, 1, none⟩) hsz).trans hq1), (by first | trivial | exact C7.ext h (Nat.lt_trans hgl hsz) hq2 | exact C5.ext h (Nat.lt_trans hgl hsz) hq2 | exact (h.cell (p := ⟨g, 0, none⟩) (Nat.lt_trans hgl hsz)).trans hq2 | exact (h.cell (p := ⟨g, 0, none⟩) (Nat.lt_trans hgl hsz)).trans hq2), (by first | trivial | exact C7.ext h (Nat.lt_trans hgl hsz) hq3 | exact C5.ext h (Nat.lt_trans hgl hsz) hq3 | exact (h.cell (p := ⟨g, 1, none⟩) (Nat.lt_trans hgl hsz)).trans hq3 | exact (h.cell (p := ⟨g, 1, none⟩) (Nat.lt_trans hgl hsz)).trans hq3), (by first | trivial | exact C7.ext h (Nat.lt_trans hgl hsz) hq4 | exact C5.ext h (Nat.lt_trans hgl hsz) hq4 | exact (h.cell (p := ⟨g, 7, none⟩) (Nat.lt_trans hgl hsz)).trans hq4 | exact (h.cell (p := ⟨g, 2, none⟩) (Nat.lt_trans hgl hsz)).trans hq4), (by first | trivial | exact C7.ext h (Nat.lt_trans hgl hsz) hq5 | exact C5.ext h (Nat.lt_trans hgl hsz) hq5 | exact (h.cell (p := ⟨g, 8, none⟩) (Nat.lt_trans hgl hsz)).trans hq5 | exact (h.cell (p := ⟨g, 3, none⟩) (Nat.lt_trans hgl hsz)).trans hq5)⟩
  have VL : Hid (∀ w', Below w.heap.size w w' → Calls Tryz.prog 142 #[.pointer (some ⟨g, 0, none⟩)] w' fun e w'' => e = .returned (.int .i64 (Tr.node l1 y l2).ht) ∧ w'' = w') := fun w' h => levels_any (Tr.node l1 y l2) _ w' (hg'.ext h)
  have VR : Hid (∀ w', Below w.heap.size w w' → Calls Tryz.prog 142 #[.pointer ou] w' fun e w'' => e = .returned (.int .i64 o.ht) ∧ w'' = w') := fun w' h => levels_any o ou w' (ho.ext h)
  have J : Hid (∀ w', Below w0.heap.size w0 w' → Calls Tryz.prog 140 #[.pointer ru, .agg #[.slice x.p x.n x.c, .int .i64 x.pl, .int .i64 x.sp.a, .int .i64 x.sp.s, .int .i64 x.sp.b, .bool x.sp.lf, .bool x.sp.cr], .pointer ou] w' fun e w'' => ∃ u, e = .returned (.pointer u) ∧ Hid (∃ t, Tin w'' t u ∧ Joined t l2 x o) ∧ Below w0.heap.size w0 w'') := fun w' h => (ih ru ou w' ((h3.ext hb0).ext h) ((ho.ext hb0).ext h) (by simp only [wt_app, wt_cons]; omega)).mono fun _ _ ⟨u, t, k1, k2, k3, k4⟩ => ⟨u, k1, ⟨t, k2, k3⟩, ext_trans h k4⟩
  have LV : Hid (∀ u w', Hid (∃ t, Tin w' t u ∧ Joined t l2 x o) → Below w0.heap.size w0 w' → Calls Tryz.prog 147 #[.pointer lu, .agg #[.slice y.p y.n y.c, .int .i64 y.pl, .int .i64 y.sp.a, .int .i64 y.sp.s, .int .i64 y.sp.b, .bool y.sp.lf, .bool y.sp.cr], .pointer u] w' fun e w'' => ∃ u, e = .returned (.pointer u) ∧ Hid (∃ t, Tin w'' t u ∧ Joined t (.node l1 y l2) x o) ∧ Below w0.heap.size w0 w'') := fun u w' ht h => by
    obtain ⟨t, k1, k2⟩ := ht.out
    exact (level_any l1 t y lu u w' ((h2.ext hb0).ext h) k1 (by rw [k2.list]; simp only [wt_app, wt_cons]; omega)).mono fun _ _ ⟨u, t', q1, q2, q3, q4⟩ => ⟨u, q1, ⟨t', q2, Joined.downL h0 k2 q3⟩, ext_trans h q4⟩
  have e1 : (o.ht : Int) ≤ 4611686018427387904 := by omega
  have e2 : ((Tr.node l1 y l2).ht : Int) ≤ 4611686018427387904 := by omega
  have t1 : (1 : Int) < ((Tr.node l1 y l2).ht : Int) - (o.ht : Int) := by omega
  clear hg hg' ho hw h0 h2 h3 b1 b2 b3 b4 hb0 ih
  generalize o.ht = m1 at *
  generalize (Tr.node l1 y l2).ht = m2 at *
  go_enter Tryz.func140, Tryz.ntmps140
  go_wp2_with (first | (go_at_call_of 142 g; refine (VL.out _ (by repeat (first | exact Below.refl _ _ | refine ext_alloc ?_ _ | apply Below.drew))).mono ?_; rintro e w1 ⟨rfl, rfl⟩) | (go_at_call_of 142 ou; refine (VR.out _ (by repeat (first | exact Below.refl _ _ | refine ext_alloc ?_ _ | apply Below.drew))).mono ?_; rintro e w1 ⟨rfl, rfl⟩))
  rw [← hw0]
  clear hw0
  have HB : Hid (Below w0.heap.size w0 w0) := Below.refl _ _
  go_region_held3 (fun w' => (w'.cell? ⟨w.heap.size, 0, none⟩ = some (.slice x.p x.n x.c) ∧ w'.cell? ⟨w.heap.size, 1, none⟩ = some (.int .i64 x.pl) ∧ w'.cell? ⟨w.heap.size, 2, none⟩ = some (.int .i64 x.sp.a) ∧ w'.cell? ⟨w.heap.size, 3, none⟩ = some (.int .i64 x.sp.s) ∧ w'.cell? ⟨w.heap.size, 4, none⟩ = some (.int .i64 x.sp.b) ∧ w'.cell? ⟨w.heap.size, 5, none⟩ = some (.bool x.sp.lf) ∧ w'.cell? ⟨w.heap.size, 6, none⟩ = some (.bool x.sp.cr)) ∧ True ∧ (w'.cell? ⟨g, 0, none⟩ = some (.slice y.p y.n y.c) ∧ w'.cell? ⟨g, 1, none⟩ = some (.int .i64 y.pl) ∧ w'.cell? ⟨g, 2, none⟩ = some (.int .i64 y.sp.a) ∧ w'.cell? ⟨g, 3, none⟩ = some (.int .i64 y.sp.s) ∧ w'.cell? ⟨g, 4, none⟩ = some (.int .i64 y.sp.b) ∧ w'.cell? ⟨g, 5, none⟩ = some (.bool y.sp.lf) ∧ w'.cell? ⟨g, 6, none⟩ = some (.bool y.sp.cr)) ∧ True ∧ w'.cell? ⟨g, 7, none⟩ = some (.pointer lu) ∧ w'.cell? ⟨g, 8, none⟩ = some (.pointer ru)) (go_keep) (first
    | (go_at_call_of 140 x; refine (J.out _ (by repeat (first | exact HB.out | apply Below.drew))).mono ?_; rintro e w1 ⟨u1, rfl, T1, hb1⟩; clear hq0 hq1 hq2 hq3 hq4 hq5 HB; have HB : Hid (Below w0.heap.size w0 w1) := hb1; obtain ⟨hq0, hq1, hq2, hq3, hq4, hq5⟩ := HC.out w1 hb1; clear hb1)
    | (go_at_call_of 147 lu; refine (LV.out _ _ T1 (by repeat (first | exact HB.out | apply Below.drew))).mono ?_; rintro e w1 ⟨u2, rfl, T2, hb1⟩; clear hq0 hq1 hq2 hq3 hq4 hq5 HB; have HB : Hid (Below w0.heap.size w0 w1) := hb1; obtain ⟨hq0, hq1, hq2, hq3, hq4, hq5⟩ := HC.out w1 hb1; clear hb1))
  go_wp2_with fail
  go_ret
  obtain ⟨t, k1, k2⟩ := T2.out
  exact ⟨_, t, rfl, k1, k2, ext_trans HB0.out HB.out⟩

set_option maxRecDepth 100000 in
set_option maxHeartbeats 2000000 in
theorem join_lo (l1 l2 o : Tr It) (y x : It) (gu ou : Option Addr) (w : World) (hg : Tin w (.node l1 y l2) gu) (ho : Tin w o ou) (hw : wt (o.list ++ x :: (l1.list ++ y :: l2.list)) ≤ 4611686018427387904) (h0 : o.ht + 1 < (Tr.node l1 y l2).ht)
    (ih : ∀ (au bu : Option Addr) (w : World), Tin w o au → Tin w l1 bu → wt (o.list ++ x :: l1.list) ≤ 4611686018427387904 → Calls Tryz.prog 140 #[.pointer au, .agg #[.slice x.p x.n x.c, .int .i64 x.pl, .int .i64 x.sp.a, .int .i64 x.sp.s, .int .i64 x.sp.b, .bool x.sp.lf, .bool x.sp.cr], .pointer bu] w fun e w' => ∃ u t, e = .returned (.pointer u) ∧ Tin w' t u ∧ Joined t o x l1 ∧ Below w.heap.size w w') :
    Calls Tryz.prog 140 #[.pointer ou, .agg #[.slice x.p x.n x.c, .int .i64 x.pl, .int .i64 x.sp.a, .int .i64 x.sp.s, .int .i64 x.sp.b, .bool x.sp.lf, .bool x.sp.cr], .pointer gu] w fun e w' => ∃ u t, e = .returned (.pointer u) ∧ Tin w' t u ∧ Joined t o x (.node l1 y l2) ∧ Below w.heap.size w w' := by
  have b1 := o.ht_le
  have b2 := (Tr.node l1 y l2).ht_le
  have b3 := wt_len o.list
  have b4 := wt_len (Tr.node l1 y l2).list
  simp only [Tr.list] at b2 b4
  simp only [wt_app, wt_cons] at hw b4
  have hg' := hg
  obtain ⟨g, lu, ru, rfl, hgl, h2, h3, c0, c1, c2, c3⟩ := hg.lt
  obtain ⟨w0, hw0⟩ : ∃ w0, w0 = w.alloc (.cells #[.slice x.p x.n x.c, .int .i64 x.pl, .int .i64 x.sp.a, .int .i64 x.sp.s, .int .i64 x.sp.b, .bool x.sp.lf, .bool x.sp.cr] 122) := ⟨_, rfl⟩
  have hb0 : Below w.heap.size w w0 := by rw [hw0]; exact ext_alloc (Below.refl _ _) _
  have HB0 : Hid (Below w.heap.size w w0) := hb0
  have hsz : w.heap.size < w0.heap.size := by first | trivial | (rw [hw0]; simp)
  have hq0 : (w0.cell? ⟨w.heap.size, 0, none⟩ = some (.slice x.p x.n x.c) ∧ w0.cell? ⟨w.heap.size, 1, none⟩ = some (.int .i64 x.pl) ∧ w0.cell? ⟨w.heap.size, 2, none⟩ = some (.int .i64 x.sp.a) ∧ w0.cell? ⟨w.heap.size, 3, none⟩ = some (.int .i64 x.sp.s) ∧ w0.cell? ⟨w.heap.size, 4, none⟩ = some (.int .i64 x.sp.b) ∧ w0.cell? ⟨w.heap.size, 5, none⟩ = some (.bool x.sp.lf) ∧ w0.cell? ⟨w.heap.size, 6, none⟩ = some (.bool x.sp.cr)) := by first | trivial | (rw [hw0]; simp)
  have hq1 : True := by first | trivial | (rw [hw0]; simp)
  have hq2 : (w0.cell? ⟨g, 0, none⟩ = some (.slice y.p y.n y.c) ∧ w0.cell? ⟨g, 1, none⟩ = some (.int .i64 y.pl) ∧ w0.cell? ⟨g, 2, none⟩ = some (.int .i64 y.sp.a) ∧ w0.cell? ⟨g, 3, none⟩ = some (.int .i64 y.sp.s) ∧ w0.cell? ⟨g, 4, none⟩ = some (.int .i64 y.sp.b) ∧ w0.cell? ⟨g, 5, none⟩ = some (.bool y.sp.lf) ∧ w0.cell? ⟨g, 6, none⟩ = some (.bool y.sp.cr)) := (by first | trivial | exact C7.ext hb0 hgl c0 | exact C5.ext hb0 hgl c0 | exact (hb0.cell (p := ⟨g, 0, none⟩) hgl).trans c0 | exact (hb0.cell (p := ⟨g, 0, none⟩) hgl).trans c0)
  have hq3 : True := (by first | trivial | exact C7.ext hb0 hgl c1 | exact C5.ext hb0 hgl c1 | exact (hb0.cell (p := ⟨g, 1, none⟩) hgl).trans c1 | exact (hb0.cell (p := ⟨g, 1, none⟩) hgl).trans c1)
  have hq4 : w0.cell? ⟨g, 7, none⟩ = some (.pointer lu) := (by first | trivial | exact C7.ext hb0 hgl c2 | exact C5.ext hb0 hgl c2 | exact (hb0.cell (p := ⟨g, 7, none⟩) hgl).trans c2 | exact (hb0.cell (p := ⟨g, 2, none⟩) hgl).trans c2)
  have hq5 : w0.cell? ⟨g, 8, none⟩ = some (.pointer ru) := (by first | trivial | exact C7.ext hb0 hgl c3 | exact C5.ext hb0 hgl c3 | exact (hb0.cell (p := ⟨g, 8, none⟩) hgl).trans c3 | exact (hb0.cell (p := ⟨g, 3, none⟩) hgl).trans c3)
  have HC : Hid (∀ w', Below w0.heap.size w0 w' → (w'.cell? ⟨w.heap.size, 0, none⟩ = some (.slice x.p x.n x.c) ∧ w'.cell? ⟨w.heap.size, 1, none⟩ = some (.int .i64 x.pl) ∧ w'.cell? ⟨w.heap.size, 2, none⟩ = some (.int .i64 x.sp.a) ∧ w'.cell? ⟨w.heap.size, 3, none⟩ = some (.int .i64 x.sp.s) ∧ w'.cell? ⟨w.heap.size, 4, none⟩ = some (.int .i64 x.sp.b) ∧ w'.cell? ⟨w.heap.size, 5, none⟩ = some (.bool x.sp.lf) ∧ w'.cell? ⟨w.heap.size, 6, none⟩ = some (.bool x.sp.cr)) ∧ True ∧ (w'.cell? ⟨g, 0, none⟩ = some (.slice y.p y.n y.c) ∧ w'.cell? ⟨g, 1, none⟩ = some (.int .i64 y.pl) ∧ w'.cell? ⟨g, 2, none⟩ = some (.int .i64 y.sp.a) ∧ w'.cell? ⟨g, 3, none⟩ = some (.int .i64 y.sp.s) ∧ w'.cell? ⟨g, 4, none⟩ = some (.int .i64 y.sp.b) ∧ w'.cell? ⟨g, 5, none⟩ = some (.bool y.sp.lf) ∧ w'.cell? ⟨g, 6, none⟩ = some (.bool y.sp.cr)) ∧ True ∧ w'.cell? ⟨g, 7, none⟩ = some (.pointer lu) ∧ w'.cell? ⟨g, 8, none⟩ = some (.pointer ru)) := fun w' h => ⟨(by first | trivial | exact C7.ext h hsz hq0 | exact C5.ext h hsz hq0 | exact (h.cell (p := ⟨w.heap.size, 0, none⟩) hsz).trans hq0 | exact (h.cell (p := ⟨w.heap.size, 0, none⟩) hsz).trans hq0), (by first | trivial | exact C7.ext h hsz hq1 | exact C5.ext h hsz hq1 | exact (h.cell (p := ⟨w.heap.size, 1, none⟩) hsz).trans hq1 | exact (h.cell (p := ⟨w.heap.size, 1, none⟩) hsz).trans hq1), (by first | trivial | exact C7.ext h (Nat.lt_trans hgl hsz) hq2 | exact C5.ext h (Nat.lt_trans hgl hsz) hq2 | exact (h.cell (p := ⟨g, 0, none⟩) (Nat.lt_trans hgl hsz)).trans hq2 | exact (h.cell (p := ⟨g, 0, none⟩) (Nat.lt_trans hgl hsz)).trans hq2), (by first | trivial | exact C7.ext h (Nat.lt_trans hgl hsz) hq3 | exact C5.ext h (Nat.lt_trans hgl hsz) hq3 | exact (h.cell (p := ⟨g, 1, none⟩) (Nat.lt_trans hgl hsz)).trans hq3 | exact (h.cell (p := ⟨g, 1, none⟩) (Nat.lt_trans hgl hsz)).trans hq3), (by first | trivial | exact C7.ext h (Nat.lt_trans hgl hsz) hq4 | exact C5.ext h (Nat.lt_trans hgl hsz) hq4 | exact (h.cell (p := ⟨g, 7, none⟩) (Nat.lt_trans hgl hsz)).trans hq4 | exact (h.cell (p := ⟨g, 2, none⟩) (Nat.lt_trans hgl hsz)).trans hq4), (by first | trivial | exact C7.ext h (Nat.lt_trans hgl hsz) hq5 | exact C5.ext h (Nat.lt_trans hgl hsz) hq5 | exact (h.cell (p := ⟨g, 8, none⟩) (Nat.lt_trans hgl hsz)).trans hq5 | exact (h.cell (p := ⟨g, 3, none⟩) (Nat.lt_trans hgl hsz)).trans hq5)⟩
  have VL : Hid (∀ w', Below w.heap.size w w' → Calls Tryz.prog 142 #[.pointer (some ⟨g, 0, none⟩)] w' fun e w'' => e = .returned (.int .i64 (Tr.node l1 y l2).ht) ∧ w'' = w') := fun w' h => levels_any (Tr.node l1 y l2) _ w' (hg'.ext h)
  have VR : Hid (∀ w', Below w.heap.size w w' → Calls Tryz.prog 142 #[.pointer ou] w' fun e w'' => e = .returned (.int .i64 o.ht) ∧ w'' = w') := fun w' h => levels_any o ou w' (ho.ext h)
  have J : Hid (∀ w', Below w0.heap.size w0 w' → Calls Tryz.prog 140 #[.pointer ou, .agg #[.slice x.p x.n x.c, .int .i64 x.pl, .int .i64 x.sp.a, .int .i64 x.sp.s, .int .i64 x.sp.b, .bool x.sp.lf, .bool x.sp.cr], .pointer lu] w' fun e w'' => ∃ u, e = .returned (.pointer u) ∧ Hid (∃ t, Tin w'' t u ∧ Joined t o x l1) ∧ Below w0.heap.size w0 w'') := fun w' h => (ih ou lu w' ((ho.ext hb0).ext h) ((h2.ext hb0).ext h) (by simp only [wt_app, wt_cons]; omega)).mono fun _ _ ⟨u, t, k1, k2, k3, k4⟩ => ⟨u, k1, ⟨t, k2, k3⟩, ext_trans h k4⟩
  have LV : Hid (∀ u w', Hid (∃ t, Tin w' t u ∧ Joined t o x l1) → Below w0.heap.size w0 w' → Calls Tryz.prog 147 #[.pointer u, .agg #[.slice y.p y.n y.c, .int .i64 y.pl, .int .i64 y.sp.a, .int .i64 y.sp.s, .int .i64 y.sp.b, .bool y.sp.lf, .bool y.sp.cr], .pointer ru] w' fun e w'' => ∃ u, e = .returned (.pointer u) ∧ Hid (∃ t, Tin w'' t u ∧ Joined t o x (.node l1 y l2)) ∧ Below w0.heap.size w0 w'') := fun u w' ht h => by
    obtain ⟨t, k1, k2⟩ := ht.out
    exact (level_any t l2 y u ru w' k1 ((h3.ext hb0).ext h) (by rw [k2.list]; simp only [wt_app, wt_cons]; omega)).mono fun _ _ ⟨u, t', q1, q2, q3, q4⟩ => ⟨u, q1, ⟨t', q2, Joined.downR h0 k2 q3⟩, ext_trans h q4⟩
  have e1 : (o.ht : Int) ≤ 4611686018427387904 := by omega
  have e2 : ((Tr.node l1 y l2).ht : Int) ≤ 4611686018427387904 := by omega
  have t1 : ¬ (1 : Int) < (o.ht : Int) - ((Tr.node l1 y l2).ht : Int) := by omega
  have t2 : (o.ht : Int) - ((Tr.node l1 y l2).ht : Int) < -1 := by omega
  clear hg hg' ho hw h0 h2 h3 b1 b2 b3 b4 hb0 ih
  generalize o.ht = m1 at *
  generalize (Tr.node l1 y l2).ht = m2 at *
  go_enter Tryz.func140, Tryz.ntmps140
  go_wp2_with (first | (go_at_call_of 142 g; refine (VL.out _ (by repeat (first | exact Below.refl _ _ | refine ext_alloc ?_ _ | apply Below.drew))).mono ?_; rintro e w1 ⟨rfl, rfl⟩) | (go_at_call_of 142 ou; refine (VR.out _ (by repeat (first | exact Below.refl _ _ | refine ext_alloc ?_ _ | apply Below.drew))).mono ?_; rintro e w1 ⟨rfl, rfl⟩))
  rw [← hw0]
  clear hw0
  have HB : Hid (Below w0.heap.size w0 w0) := Below.refl _ _
  go_region_held3 (fun w' => (w'.cell? ⟨w.heap.size, 0, none⟩ = some (.slice x.p x.n x.c) ∧ w'.cell? ⟨w.heap.size, 1, none⟩ = some (.int .i64 x.pl) ∧ w'.cell? ⟨w.heap.size, 2, none⟩ = some (.int .i64 x.sp.a) ∧ w'.cell? ⟨w.heap.size, 3, none⟩ = some (.int .i64 x.sp.s) ∧ w'.cell? ⟨w.heap.size, 4, none⟩ = some (.int .i64 x.sp.b) ∧ w'.cell? ⟨w.heap.size, 5, none⟩ = some (.bool x.sp.lf) ∧ w'.cell? ⟨w.heap.size, 6, none⟩ = some (.bool x.sp.cr)) ∧ True ∧ (w'.cell? ⟨g, 0, none⟩ = some (.slice y.p y.n y.c) ∧ w'.cell? ⟨g, 1, none⟩ = some (.int .i64 y.pl) ∧ w'.cell? ⟨g, 2, none⟩ = some (.int .i64 y.sp.a) ∧ w'.cell? ⟨g, 3, none⟩ = some (.int .i64 y.sp.s) ∧ w'.cell? ⟨g, 4, none⟩ = some (.int .i64 y.sp.b) ∧ w'.cell? ⟨g, 5, none⟩ = some (.bool y.sp.lf) ∧ w'.cell? ⟨g, 6, none⟩ = some (.bool y.sp.cr)) ∧ True ∧ w'.cell? ⟨g, 7, none⟩ = some (.pointer lu) ∧ w'.cell? ⟨g, 8, none⟩ = some (.pointer ru)) (go_keep) (first
    | (go_at_call_of 140 x; refine (J.out _ (by repeat (first | exact HB.out | apply Below.drew))).mono ?_; rintro e w1 ⟨u1, rfl, T1, hb1⟩; clear hq0 hq1 hq2 hq3 hq4 hq5 HB; have HB : Hid (Below w0.heap.size w0 w1) := hb1; obtain ⟨hq0, hq1, hq2, hq3, hq4, hq5⟩ := HC.out w1 hb1; clear hb1)
    | (go_at_call_of 147 ru; refine (LV.out _ _ T1 (by repeat (first | exact HB.out | apply Below.drew))).mono ?_; rintro e w1 ⟨u2, rfl, T2, hb1⟩; clear hq0 hq1 hq2 hq3 hq4 hq5 HB; have HB : Hid (Below w0.heap.size w0 w1) := hb1; obtain ⟨hq0, hq1, hq2, hq3, hq4, hq5⟩ := HC.out w1 hb1; clear hb1))
  go_wp2_with fail
  go_ret
  obtain ⟨t, k1, k2⟩ := T2.out
  exact ⟨_, t, rfl, k1, k2, ext_trans HB0.out HB.out⟩

theorem join_any (n : Nat) : ∀ (l r : Tr It) (x : It) (lu ru : Option Addr) (w : World), l.list.length + r.list.length ≤ n → Tin w l lu → Tin w r ru → wt (l.list ++ x :: r.list) ≤ 4611686018427387904 →
    Calls Tryz.prog 140 #[.pointer lu, .agg #[.slice x.p x.n x.c, .int .i64 x.pl, .int .i64 x.sp.a, .int .i64 x.sp.s, .int .i64 x.sp.b, .bool x.sp.lf, .bool x.sp.cr], .pointer ru] w fun e w' => ∃ u t, e = .returned (.pointer u) ∧ Tin w' t u ∧ Joined t l x r ∧ Below w.heap.size w w' := by
  induction n with
  | zero =>
    intro l r x lu ru w hn hl hr hw
    have h1 := l.ht_le
    have h2 := r.ht_le
    exact join_eq l r x lu ru w hl hr hw (by omega) (by omega)
  | succ n ih =>
    intro l r x lu ru w hn hl hr hw
    by_cases h1 : r.ht + 1 < l.ht
    · obtain ⟨l1, y, l2, rfl⟩ := Tr.ht_pos (t := l) (by omega)
      refine join_hi l1 l2 r y x lu ru w hl hr hw h1 (fun au bu w' ha hb hw' => ih l2 r x au bu w' ?_ ha hb hw')
      simp only [Tr.list, List.length_append, List.length_cons] at hn
      omega
    by_cases h2 : l.ht + 1 < r.ht
    · obtain ⟨l1, y, l2, rfl⟩ := Tr.ht_pos (t := r) (by omega)
      refine join_lo l1 l2 l y x ru lu w hr hl hw h2 (fun au bu w' ha hb hw' => ih l l1 x au bu w' ?_ ha hb hw')
      simp only [Tr.list, List.length_append, List.length_cons] at hn
      omega
    · exact join_eq l r x lu ru w hl hr hw (by omega) (by omega)
end Go.Proofs.YtbmelpjmpomfcaaGreat.P
