/- Runs: Measure, Add, Key; the small looks at a node. -/
import Derived.Test.YtjlkgpgkjnglaaaMem
namespace Go.Proofs.Ytjlkgpgkjnglaaa
open Go.RowKit

theorem m_meas (a b : Int) (w : World) : (method 254 24 (.agg #[.int .i64 a, .int .i64 b]) "Measure").run Try.prog w = .ok (38, .agg #[.int .i64 a, .int .i64 b]) w := by kernel_rfl
theorem m_add (a b c d : Int) (w : World) : (method 254 26 (.agg #[.int .i64 a, .int .i64 b, .int .i64 c, .int .i64 d]) "Add").run Try.prog w = .ok (14, .agg #[.int .i64 a, .int .i64 b, .int .i64 c, .int .i64 d]) w := by kernel_rfl
theorem m_key (a b c d : Int) (w : World) : (method 254 26 (.agg #[.int .i64 a, .int .i64 b, .int .i64 c, .int .i64 d]) "Key").run Try.prog w = .ok (18, .agg #[.int .i64 a, .int .i64 b, .int .i64 c, .int .i64 d]) w := by kernel_rfl
theorem n_meas (a b : Int) (w : World) : (nilAhead 254 24 (.agg #[.int .i64 a, .int .i64 b]) "Measure").run Try.prog w = .ok (some false) w := by kernel_rfl
theorem n_add (a b c d : Int) (w : World) : (nilAhead 254 26 (.agg #[.int .i64 a, .int .i64 b, .int .i64 c, .int .i64 d]) "Add").run Try.prog w = .ok (some false) w := by kernel_rfl
theorem n_key (a b c d : Int) (w : World) : (nilAhead 254 26 (.agg #[.int .i64 a, .int .i64 b, .int .i64 c, .int .i64 d]) "Key").run Try.prog w = .ok (some false) w := by kernel_rfl

theorem Measure_any (x : It) (w : World) : Calls Try.prog 38 #[.agg #[.int .i64 x.1, .int .i64 x.2]] w fun e w' => ∃ s, Hid (s = Rs.meas x) ∧ e = .returned (.agg #[.int .i64 s.l, .int .i64 s.s, .int .i64 s.f, .int .i64 s.z]) ∧ Below w.heap.size w w' := by
  obtain ⟨a, b⟩ := x
  by_cases h : b ≤ 0
  · have HE : Hid (Rs.zero = Rs.meas (a, b)) := by simp [Hid, Rs.meas, h]
    go_enter Try.func38, Try.ntmps38
    go_wp2_with fail
    exact bodyPost_ret (v := .agg #[.int .i64 0, .int .i64 0, .int .i64 0, .int .i64 0]) (by simp [results, Try.results38, go_sem]) rfl ⟨_, HE, rfl, ext_alloc (ext_alloc (Below.refl _ _) _) _⟩
  · by_cases h2 : 1048576 < b
    · have HE : Hid ((⟨1048576, 1, a, a⟩ : Rs) = Rs.meas (a, b)) := by simp only [Hid, Rs.meas]; rw [if_neg h, show min b 1048576 = 1048576 by omega]
      go_enter Try.func38, Try.ntmps38
      go_wp2_with fail
      exact bodyPost_ret (v := .agg #[.int .i64 1048576, .int .i64 1, .int .i64 a, .int .i64 a]) (by simp [results, Try.results38, go_sem]) rfl ⟨_, HE, rfl, ext_alloc (ext_alloc (Below.refl _ _) _) _⟩
    · have HE : Hid ((⟨b, 1, a, a⟩ : Rs) = Rs.meas (a, b)) := by simp only [Hid, Rs.meas]; rw [if_neg h, show min b 1048576 = b by omega]
      go_enter Try.func38, Try.ntmps38
      go_wp2_with fail
      exact bodyPost_ret (v := .agg #[.int .i64 b, .int .i64 1, .int .i64 a, .int .i64 a]) (by simp [results, Try.results38, go_sem]) rfl ⟨_, HE, rfl, ext_alloc (ext_alloc (Below.refl _ _) _) _⟩

set_option maxRecDepth 100000 in
theorem Add_any (a b : Rs) (w : World) (h0 : 0 ≤ a.s) (h1 : 0 ≤ b.s) (h2 : 0 ≤ a.l) (h3 : 0 ≤ b.l) (h4 : a.l + b.l ≤ 9223372036854775807) (h5 : a.s + b.s ≤ 9223372036854775807) :
    Calls Try.prog 14 #[.agg #[.int .i64 a.l, .int .i64 a.s, .int .i64 a.f, .int .i64 a.z], .agg #[.int .i64 b.l, .int .i64 b.s, .int .i64 b.f, .int .i64 b.z]] w fun e w' => ∃ s, Hid (s = Rs.add a b) ∧ e = .returned (.agg #[.int .i64 s.l, .int .i64 s.s, .int .i64 s.f, .int .i64 s.z]) ∧ Below w.heap.size w w' := by
  obtain ⟨a1, a2, a3, a4⟩ := a
  obtain ⟨b1, b2, b3, b4⟩ := b
  simp only at *
  by_cases e1 : a2 = 0
  · have HE : Hid ((⟨b1, b2, b3, b4⟩ : Rs) = Rs.add ⟨a1, a2, a3, a4⟩ ⟨b1, b2, b3, b4⟩) := by simp [Hid, Rs.add, e1]
    go_enter Try.func14, Try.ntmps14
    go_wp2_with fail
    exact bodyPost_ret (v := .agg #[.int .i64 b1, .int .i64 b2, .int .i64 b3, .int .i64 b4]) (by simp [results, Try.results14, go_sem]) rfl ⟨_, HE, rfl, ext_alloc (ext_alloc (ext_alloc (Below.refl _ _) _) _) _⟩
  by_cases e2 : b2 = 0
  · have HE : Hid ((⟨a1, a2, a3, a4⟩ : Rs) = Rs.add ⟨a1, a2, a3, a4⟩ ⟨b1, b2, b3, b4⟩) := by simp [Hid, Rs.add, e1, e2]
    go_enter Try.func14, Try.ntmps14
    go_wp2_with fail
    exact bodyPost_ret (v := .agg #[.int .i64 a1, .int .i64 a2, .int .i64 a3, .int .i64 a4]) (by simp [results, Try.results14, go_sem]) rfl ⟨_, HE, rfl, ext_alloc (ext_alloc (ext_alloc (Below.refl _ _) _) _) _⟩
  by_cases e3 : a4 = b3
  · have HE : Hid ((⟨a1 + b1, a2 + b2 - 1, a3, b4⟩ : Rs) = Rs.add ⟨a1, a2, a3, a4⟩ ⟨b1, b2, b3, b4⟩) := by simp [Hid, Rs.add, e1, e2, e3]
    go_enter Try.func14, Try.ntmps14
    go_wp2_with fail
    exact bodyPost_ret (v := .agg #[.int .i64 (a1 + b1), .int .i64 (a2 + b2 - 1), .int .i64 a3, .int .i64 b4]) (by simp [results, Try.results14, go_sem]) rfl ⟨_, HE, rfl, by repeat (first | exact Below.refl _ _ | refine ext_alloc ?_ _)⟩
  · have HE : Hid ((⟨a1 + b1, a2 + b2, a3, b4⟩ : Rs) = Rs.add ⟨a1, a2, a3, a4⟩ ⟨b1, b2, b3, b4⟩) := by simp [Hid, Rs.add, e1, e2, e3]
    go_enter Try.func14, Try.ntmps14
    go_wp2_with fail
    exact bodyPost_ret (v := .agg #[.int .i64 (a1 + b1), .int .i64 (a2 + b2), .int .i64 a3, .int .i64 b4]) (by simp [results, Try.results14, go_sem]) rfl ⟨_, HE, rfl, by repeat (first | exact Below.refl _ _ | refine ext_alloc ?_ _)⟩

theorem Key_any (a : Rs) (k : Int) (w : World) : Calls Try.prog 18 #[.agg #[.int .i64 a.l, .int .i64 a.s, .int .i64 a.f, .int .i64 a.z], .int .i64 k] w fun e w' => e = .returned (.int .i64 (Rs.key a k)) ∧ Below w.heap.size w w' := by
  obtain ⟨a1, a2, a3, a4⟩ := a
  by_cases e1 : k = 0
  · have HE : Hid (Rs.key ⟨a1, a2, a3, a4⟩ k = a1) := by simp [Hid, Rs.key, e1]
    go_enter Try.func18, Try.ntmps18
    go_wp2_with fail
    go_ret
    exact ⟨ret_int HE.out.symm, ext_alloc (Below.refl _ _) _⟩
  by_cases e2 : k = 1
  · have HE : Hid (Rs.key ⟨a1, a2, a3, a4⟩ k = a2) := by simp [Hid, Rs.key, e2]
    go_enter Try.func18, Try.ntmps18
    go_wp2_with fail
    go_ret
    exact ⟨ret_int HE.out.symm, ext_alloc (Below.refl _ _) _⟩
  · have HE : Hid (Rs.key ⟨a1, a2, a3, a4⟩ k = 0) := by simp [Hid, Rs.key, e1, e2]
    go_enter Try.func18, Try.ntmps18
    go_wp2_with fail
    go_ret
    exact ⟨ret_int HE.out.symm, ext_alloc (Below.refl _ _) _⟩

def ndrow (x : It) (lv rv : Option Addr) (n h : Nat) (s : Rs) : Array Value :=
  #[.int .i64 x.1, .int .i64 x.2, .pointer lv, .pointer rv, .int .i64 n, .int .i64 h, .int .i64 s.l, .int .i64 s.s, .int .i64 s.f, .int .i64 s.z]
/-- At u lies the tree. -/
def Tin (w : World) : Tr It → Option Addr → Prop
  | .nil, u => u = none
  | .node l x r, u => ∃ g lv rv, u = some ⟨g, 0, none⟩ ∧ w.heap[g]? = some (.cells (ndrow x lv rv (l.list ++ x :: r.list).length (max l.ht r.ht + 1) (rA.su (l.list ++ x :: r.list))) 81 (0, 0)) ∧ Tin w l lv ∧ Tin w r rv
theorem Tin.ext {w w' : World} (hb : Below w.heap.size w w') : ∀ {t : Tr It} {u : Option Addr}, Tin w t u → Tin w' t u
  | .nil, _, h => h
  | .node l x r, _, ⟨g, lv, rv, hu, hg, hl, hr⟩ => ⟨g, lv, rv, hu, by rw [hb.block g (Array.getElem?_eq_some_iff.1 hg).1]; exact hg, Tin.ext hb hl, Tin.ext hb hr⟩

theorem count_any (t : Tr It) (u : Option Addr) (w : World) (h : Tin w t u) : Calls Try.prog 42 #[.pointer u] w fun e w' => e = .returned (.int .i64 t.list.length) ∧ w' = w := by
  cases t with
  | nil =>
    simp only [Tin] at h
    subst h
    go_enter Try.func42, Try.ntmps42
    go_wp2_with fail
    go_ret
    exact ⟨rfl, rfl⟩
  | node l x r =>
    obtain ⟨g, lv, rv, rfl, hg, hl, hr⟩ := h
    have c4 : w.cell? ⟨g, 4, none⟩ = some (.int .i64 (l.list ++ x :: r.list).length) := by rw [cell_of_row w g 4 _ _ _ hg]; rfl
    show Calls _ _ _ _ fun e w' => e = .returned (.int .i64 (l.list ++ x :: r.list).length) ∧ w' = w
    generalize (l.list ++ x :: r.list).length = n at *
    clear hg hl hr
    go_enter Try.func42, Try.ntmps42
    go_wp2_with fail
    go_ret
    exact ⟨rfl, rfl⟩
theorem levels_any (t : Tr It) (u : Option Addr) (w : World) (h : Tin w t u) : Calls Try.prog 46 #[.pointer u] w fun e w' => e = .returned (.int .i64 t.ht) ∧ w' = w := by
  cases t with
  | nil =>
    simp only [Tin] at h
    subst h
    go_enter Try.func46, Try.ntmps46
    go_wp2_with fail
    go_ret
    exact ⟨rfl, rfl⟩
  | node l x r =>
    obtain ⟨g, lv, rv, rfl, hg, hl, hr⟩ := h
    have c4 : w.cell? ⟨g, 5, none⟩ = some (.int .i64 ((max l.ht r.ht + 1 : Nat) : Int)) := by rw [cell_of_row w g 5 _ _ _ hg]; rfl
    show Calls _ _ _ _ fun e w' => e = .returned (.int .i64 ((max l.ht r.ht + 1 : Nat) : Int)) ∧ w' = w
    generalize (max l.ht r.ht + 1) = n at *
    clear hg hl hr
    go_enter Try.func46, Try.ntmps46
    go_wp2_with fail
    go_ret
    exact ⟨rfl, rfl⟩
theorem total_any (t : Tr It) (u : Option Addr) (w : World) (h : Tin w t u) : Calls Try.prog 41 #[.pointer u] w fun e w' => ∃ s, Hid (s = rA.su t.list) ∧ e = .returned (.agg #[.int .i64 s.l, .int .i64 s.s, .int .i64 s.f, .int .i64 s.z]) ∧ Below w.heap.size w w' := by
  cases t with
  | nil =>
    simp only [Tin] at h
    subst h
    have HE : Hid (Rs.zero = rA.su (Tr.nil : Tr It).list) := rfl
    go_enter Try.func41, Try.ntmps41
    go_wp2_with fail
    exact bodyPost_ret (v := .agg #[.int .i64 0, .int .i64 0, .int .i64 0, .int .i64 0]) (by simp [results, Try.results41, go_sem]) rfl ⟨_, HE, rfl, ext_alloc (ext_alloc (Below.refl _ _) _) _⟩
  | node l x r =>
    obtain ⟨g, lv, rv, rfl, hg, hl, hr⟩ := h
    have HE : Hid (rA.su (l.list ++ x :: r.list) = rA.su (Tr.node l x r).list) := rfl
    have c4 : w.cell? ⟨g, 6, none⟩ = some (.int .i64 (rA.su (l.list ++ x :: r.list)).l) := by rw [cell_of_row w g 6 _ _ _ hg]; rfl
    have c5 : w.cell? ⟨g, 7, none⟩ = some (.int .i64 (rA.su (l.list ++ x :: r.list)).s) := by rw [cell_of_row w g 7 _ _ _ hg]; rfl
    have c6 : w.cell? ⟨g, 8, none⟩ = some (.int .i64 (rA.su (l.list ++ x :: r.list)).f) := by rw [cell_of_row w g 8 _ _ _ hg]; rfl
    have c7 : w.cell? ⟨g, 9, none⟩ = some (.int .i64 (rA.su (l.list ++ x :: r.list)).z) := by rw [cell_of_row w g 9 _ _ _ hg]; rfl
    have hlt := (Array.getElem?_eq_some_iff.1 hg).1
    generalize rA.su (l.list ++ x :: r.list) = n at *
    clear hg hl hr
    go_enter Try.func41, Try.ntmps41
    go_wp2_with fail
    exact bodyPost_ret (v := .agg #[.int .i64 n.l, .int .i64 n.s, .int .i64 n.f, .int .i64 n.z]) (by simp [results, Try.results41, go_sem]) rfl ⟨_, HE, rfl, ext_alloc (Below.refl _ _) _⟩
end Go.Proofs.Ytjlkgpgkjnglaaa
