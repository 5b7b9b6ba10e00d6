/- The small looks at a node. -/
import Derived.Test.YtcdamhgblolofaaWRuns
namespace Go.Proofs.Ytcdamhgblolofaa.W
open Go.RowKit

def ndrow (x : It) (lv rv : Option Addr) (n h : Nat) (s : Ws) : Array Value :=
  #[.string x, .pointer lv, .pointer rv, .int .i64 n, .int .i64 h, .string s.t, .int .i64 s.n]
/-- At u lies the tree. -/
def Tin (w : World) : Tr It → Option Addr → Prop
  | ⟨none⟩, u => u = none
  | ⟨some (l, x, r)⟩, u => ∃ g lv rv, u = some ⟨g, 0, none⟩ ∧ w.heap[g]? = some (.cells (ndrow x lv rv (l.list ++ x :: r.list).length (max l.ht r.ht + 1) (wA.su (l.list ++ x :: r.list))) 105 (0, 0)) ∧ Tin w l lv ∧ Tin w r rv
theorem Tin.ext {w w' : World} (hb : Below w.heap.size w w') : ∀ {t : Tr It} {u : Option Addr}, Tin w t u → Tin w' t u
  | ⟨none⟩, _, h => h
  | ⟨some (l, x, r)⟩, _, ⟨g, lv, rv, hu, hg, hl, hr⟩ => ⟨g, lv, rv, hu, by rw [hb.block g (Array.getElem?_eq_some_iff.1 hg).1]; exact hg, Tin.ext hb hl, Tin.ext hb hr⟩

theorem count_any (t : Tr It) (u : Option Addr) (w : World) (h : Tin w t u) : Calls Try.prog 59 #[.pointer u] w fun e w' => e = .returned (.int .i64 t.list.length) ∧ w' = w := by
  cases t using Tr.ind with
  | nil =>
    simp only [Tin] at h
    subst h
    go_enter Try.func59, Try.ntmps59
    go_wp2_with fail
    go_ret
    exact ⟨rfl, rfl⟩
  | node l x r =>
    obtain ⟨g, lv, rv, rfl, hg, hl, hr⟩ := h
    have c4 : w.cell? ⟨g, 3, none⟩ = some (.int .i64 (l.list ++ x :: r.list).length) := by rw [cell_of_row w g 3 _ _ _ hg]; rfl
    show Calls _ _ _ _ fun e w' => e = .returned (.int .i64 (l.list ++ x :: r.list).length) ∧ w' = w
    generalize (l.list ++ x :: r.list).length = n at *
    clear hg hl hr
    go_enter Try.func59, Try.ntmps59
    go_wp2_with fail
    go_ret
    exact ⟨rfl, rfl⟩
theorem levels_any (t : Tr It) (u : Option Addr) (w : World) (h : Tin w t u) : Calls Try.prog 82 #[.pointer u] w fun e w' => e = .returned (.int .i64 t.ht) ∧ w' = w := by
  cases t using Tr.ind with
  | nil =>
    simp only [Tin] at h
    subst h
    go_enter Try.func82, Try.ntmps82
    go_wp2_with fail
    go_ret
    exact ⟨rfl, rfl⟩
  | node l x r =>
    obtain ⟨g, lv, rv, rfl, hg, hl, hr⟩ := h
    have c4 : w.cell? ⟨g, 4, none⟩ = some (.int .i64 ((max l.ht r.ht + 1 : Nat) : Int)) := by rw [cell_of_row w g 4 _ _ _ hg]; rfl
    show Calls _ _ _ _ fun e w' => e = .returned (.int .i64 ((max l.ht r.ht + 1 : Nat) : Int)) ∧ w' = w
    generalize (max l.ht r.ht + 1) = n at *
    clear hg hl hr
    go_enter Try.func82, Try.ntmps82
    go_wp2_with fail
    go_ret
    exact ⟨rfl, rfl⟩
theorem total_any (t : Tr It) (u : Option Addr) (w : World) (h : Tin w t u) : Calls Try.prog 70 #[.pointer u] w fun e w' => ∃ s, Hid (s = wA.su t.list) ∧ e = .returned (.agg #[.string s.t, .int .i64 s.n]) ∧ Below w.heap.size w w' := by
  cases t using Tr.ind with
  | nil =>
    simp only [Tin] at h
    subst h
    have HE : Hid (Ws.zero = wA.su (Tr.nil : Tr It).list) := rfl
    go_enter Try.func70, Try.ntmps70
    go_wp2_with fail
    exact bodyPost_ret (v := .agg #[.string (ByteArray.mk #[]), .int .i64 0]) (by simp [results, Try.results70, go_sem]) rfl ⟨_, HE, rfl, ext_alloc (ext_alloc (Below.refl _ _) _) _⟩
  | node l x r =>
    obtain ⟨g, lv, rv, rfl, hg, hl, hr⟩ := h
    have HE : Hid (wA.su (l.list ++ x :: r.list) = wA.su (Tr.node l x r).list) := rfl
    have c4 : w.cell? ⟨g, 5, none⟩ = some (.string (wA.su (l.list ++ x :: r.list)).t) := by rw [cell_of_row w g 5 _ _ _ hg]; rfl
    have c5 : w.cell? ⟨g, 6, none⟩ = some (.int .i64 (wA.su (l.list ++ x :: r.list)).n) := by rw [cell_of_row w g 6 _ _ _ hg]; rfl
    have hlt := (Array.getElem?_eq_some_iff.1 hg).1
    generalize wA.su (l.list ++ x :: r.list) = n at *
    clear hg hl hr
    go_enter Try.func70, Try.ntmps70
    go_wp2_with fail
    exact bodyPost_ret (v := .agg #[.string n.t, .int .i64 n.n]) (by simp [results, Try.results70, go_sem]) rfl ⟨_, HE, rfl, ext_alloc (Below.refl _ _) _⟩
end Go.Proofs.Ytcdamhgblolofaa.W
