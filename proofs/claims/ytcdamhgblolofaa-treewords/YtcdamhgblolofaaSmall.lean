/- The small looks at a node. -/
import Derived.Test.YtcdamhgblolofaaRuns
import Derived.Test.YtcdamhgblolofaaPure
namespace Go.Proofs.Ytcdamhgblolofaa
open Go.RowKit

def ndrow (x : It) (lv rv : Option Addr) (n h : Nat) (s : Rs) : Array Value :=
  #[.int .i64 x.1, .int .i64 x.2, .pointer lv, .pointer rv, .int .i64 n, .int .i64 h, .int .i64 s.l, .int .i64 s.s, .int .i64 s.f, .int .i64 s.z]
/-- At u lies the tree. -/
def Tin (w : World) : Tr It → Option Addr → Prop
  | ⟨none⟩, u => u = none
  | ⟨some (l, x, r)⟩, u => ∃ g lv rv, u = some ⟨g, 0, none⟩ ∧ w.heap[g]? = some (.cells (ndrow x lv rv (l.list ++ x :: r.list).length (max l.ht r.ht + 1) (rA.su (l.list ++ x :: r.list))) 81 (0, 0)) ∧ Tin w l lv ∧ Tin w r rv
theorem Tin.ext {w w' : World} (hb : Below w.heap.size w w') : ∀ {t : Tr It} {u : Option Addr}, Tin w t u → Tin w' t u
  | ⟨none⟩, _, h => h
  | ⟨some (l, x, r)⟩, _, ⟨g, lv, rv, hu, hg, hl, hr⟩ => ⟨g, lv, rv, hu, by rw [hb.block g (Array.getElem?_eq_some_iff.1 hg).1]; exact hg, Tin.ext hb hl, Tin.ext hb hr⟩

theorem count_any (t : Tr It) (u : Option Addr) (w : World) (h : Tin w t u) : Calls Try.prog 42 #[.pointer u] w fun e w' => e = .returned (.int .i64 t.list.length) ∧ w' = w := by
  cases t using Tr.ind with
  | nil =>
    simp only [Tin] at h
    subst h
    go_enter Try.func42, Try.ntmps42
    go_wp2_with fail
    go_ret
    exact ⟨rfl, rfl⟩
  | node l x r =>
    obtain ⟨g, lv, rv, rfl, hg, hl, hr⟩ := h
    have c4 : w.cell? ⟨g, 4, none⟩ = some (.int .i64 (l.list ++ x :: r.list).length) := by rw [cell_of_row w g 4 _ _ _ hg]; rfl
    show Calls _ _ _ _ fun e w' => e = .returned (.int .i64 (l.list ++ x :: r.list).length) ∧ w' = w
    generalize (l.list ++ x :: r.list).length = n at *
    clear hg hl hr
    go_enter Try.func42, Try.ntmps42
    go_wp2_with fail
    go_ret
    exact ⟨rfl, rfl⟩
theorem levels_any (t : Tr It) (u : Option Addr) (w : World) (h : Tin w t u) : Calls Try.prog 46 #[.pointer u] w fun e w' => e = .returned (.int .i64 t.ht) ∧ w' = w := by
  cases t using Tr.ind with
  | nil =>
    simp only [Tin] at h
    subst h
    go_enter Try.func46, Try.ntmps46
    go_wp2_with fail
    go_ret
    exact ⟨rfl, rfl⟩
  | node l x r =>
    obtain ⟨g, lv, rv, rfl, hg, hl, hr⟩ := h
    have c4 : w.cell? ⟨g, 5, none⟩ = some (.int .i64 ((max l.ht r.ht + 1 : Nat) : Int)) := by rw [cell_of_row w g 5 _ _ _ hg]; rfl
    show Calls _ _ _ _ fun e w' => e = .returned (.int .i64 ((max l.ht r.ht + 1 : Nat) : Int)) ∧ w' = w
    generalize (max l.ht r.ht + 1) = n at *
    clear hg hl hr
    go_enter Try.func46, Try.ntmps46
    go_wp2_with fail
    go_ret
    exact ⟨rfl, rfl⟩
theorem total_any (t : Tr It) (u : Option Addr) (w : World) (h : Tin w t u) : Calls Try.prog 41 #[.pointer u] w fun e w' => ∃ s, Hid (s = rA.su t.list) ∧ e = .returned (.agg #[.int .i64 s.l, .int .i64 s.s, .int .i64 s.f, .int .i64 s.z]) ∧ Below w.heap.size w w' := by
  cases t using Tr.ind with
  | nil =>
    simp only [Tin] at h
    subst h
    have HE : Hid (Rs.zero = rA.su (Tr.nil : Tr It).list) := rfl
    go_enter Try.func41, Try.ntmps41
    go_wp2_with fail
    exact bodyPost_ret (v := .agg #[.int .i64 0, .int .i64 0, .int .i64 0, .int .i64 0]) (by simp [results, Try.results41, go_sem]) rfl ⟨_, HE, rfl, ext_alloc (ext_alloc (Below.refl _ _) _) _⟩
  | node l x r =>
    obtain ⟨g, lv, rv, rfl, hg, hl, hr⟩ := h
    have HE : Hid (rA.su (l.list ++ x :: r.list) = rA.su (Tr.node l x r).list) := rfl
    have c4 : w.cell? ⟨g, 6, none⟩ = some (.int .i64 (rA.su (l.list ++ x :: r.list)).l) := by rw [cell_of_row w g 6 _ _ _ hg]; rfl
    have c5 : w.cell? ⟨g, 7, none⟩ = some (.int .i64 (rA.su (l.list ++ x :: r.list)).s) := by rw [cell_of_row w g 7 _ _ _ hg]; rfl
    have c6 : w.cell? ⟨g, 8, none⟩ = some (.int .i64 (rA.su (l.list ++ x :: r.list)).f) := by rw [cell_of_row w g 8 _ _ _ hg]; rfl
    have c7 : w.cell? ⟨g, 9, none⟩ = some (.int .i64 (rA.su (l.list ++ x :: r.list)).z) := by rw [cell_of_row w g 9 _ _ _ hg]; rfl
    have hlt := (Array.getElem?_eq_some_iff.1 hg).1
    generalize rA.su (l.list ++ x :: r.list) = n at *
    clear hg hl hr
    go_enter Try.func41, Try.ntmps41
    go_wp2_with fail
    exact bodyPost_ret (v := .agg #[.int .i64 n.l, .int .i64 n.s, .int .i64 n.f, .int .i64 n.z]) (by simp [results, Try.results41, go_sem]) rfl ⟨_, HE, rfl, ext_alloc (Below.refl _ _) _⟩
end Go.Proofs.Ytcdamhgblolofaa
