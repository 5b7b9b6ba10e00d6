import Derived.Test.YtfdceljdhgbkcaaGreatDoorJ06
/- moves, does, takes, with, before: rows of bindings. -/
namespace Go.Proofs.YtfdceljdhgbkcaaGreatDoor
open Go.RowKit
set_option maxRecDepth 100000 in
theorem moves_any (m : Int) (a : Option Addr) (n c : Nat) (w : World) :
    Calls Tryz.prog 83 #[.int .i64 m, .slice a n c] w fun e w' => e = .returned (.agg #[.int .i64 1, .int .i64 m, .int .i64 0, .int .i64 0, .slice a n c]) ∧ Below w.heap.size w w' := by
  obtain ⟨w0, hw0, k0, hb0⟩ : ∃ w0, w0 = w.alloc (.cells #[.int .i64 0, .int .i64 0, .int .i64 0, .int .i64 0, .slice none 0 0] 64) ∧ w0.heap[w.heap.size]? = some (.cells #[.int .i64 0, .int .i64 0, .int .i64 0, .int .i64 0, .slice none 0 0] 64 (0, 0)) ∧ Below w.heap.size w w0 := ⟨_, rfl, heap_alloc_new _ _, ext_alloc (Below.refl _ _) _⟩
  obtain ⟨_, q0, q1, q2, q3, q4, qf⟩ := cells5 k0
  go_enter Tryz.func83, Tryz.ntmps83
  go_upto_region 1 with fail
  rw [← hw0]
  clear hw0
  go_wp2
  refine bodyPost_ret (v := .agg #[.int .i64 1, .int .i64 m, .int .i64 0, .int .i64 0, .slice a n c]) (by simp [results, Tryz.results83, go_sem, q0, q1, q2, q3, q4]) rfl ⟨rfl, ?_⟩
  exact below_put hb0 hb0.size (put5 k0 _ _ _ _ _).2 (Nat.le_refl _)
set_option maxRecDepth 100000 in
theorem does_any (v : Int) (a : Option Addr) (n c : Nat) (w : World) :
    Calls Tryz.prog 85 #[.int .i64 v, .slice a n c] w fun e w' => e = .returned (.agg #[.int .i64 v, .int .i64 0, .int .i64 0, .int .i64 0, .slice a n c]) ∧ Below w.heap.size w w' := by
  obtain ⟨w0, hw0, k0, hb0⟩ : ∃ w0, w0 = w.alloc (.cells #[.int .i64 0, .int .i64 0, .int .i64 0, .int .i64 0, .slice none 0 0] 64) ∧ w0.heap[w.heap.size]? = some (.cells #[.int .i64 0, .int .i64 0, .int .i64 0, .int .i64 0, .slice none 0 0] 64 (0, 0)) ∧ Below w.heap.size w w0 := ⟨_, rfl, heap_alloc_new _ _, ext_alloc (Below.refl _ _) _⟩
  obtain ⟨_, q0, q1, q2, q3, q4, qf⟩ := cells5 k0
  go_enter Tryz.func85, Tryz.ntmps85
  go_upto_region 1 with fail
  rw [← hw0]
  clear hw0
  go_wp2
  refine bodyPost_ret (v := .agg #[.int .i64 v, .int .i64 0, .int .i64 0, .int .i64 0, .slice a n c]) (by simp [results, Tryz.results85, go_sem, q0, q1, q2, q3, q4]) rfl ⟨rfl, ?_⟩
  exact below_put hb0 hb0.size (put5 k0 _ _ _ _ _).2 (Nat.le_refl _)
set_option maxRecDepth 100000 in
theorem takes_any (v m : Int) (a : Option Addr) (n c : Nat) (w : World) :
    Calls Tryz.prog 86 #[.int .i64 v, .int .i64 m, .slice a n c] w fun e w' => e = .returned (.agg #[.int .i64 v, .int .i64 m, .int .i64 0, .int .i64 0, .slice a n c]) ∧ Below w.heap.size w w' := by
  obtain ⟨w0, hw0, k0, hb0⟩ : ∃ w0, w0 = w.alloc (.cells #[.int .i64 0, .int .i64 0, .int .i64 0, .int .i64 0, .slice none 0 0] 64) ∧ w0.heap[w.heap.size]? = some (.cells #[.int .i64 0, .int .i64 0, .int .i64 0, .int .i64 0, .slice none 0 0] 64 (0, 0)) ∧ Below w.heap.size w w0 := ⟨_, rfl, heap_alloc_new _ _, ext_alloc (Below.refl _ _) _⟩
  obtain ⟨_, q0, q1, q2, q3, q4, qf⟩ := cells5 k0
  go_enter Tryz.func86, Tryz.ntmps86
  go_upto_region 1 with fail
  rw [← hw0]
  clear hw0
  go_wp2
  refine bodyPost_ret (v := .agg #[.int .i64 v, .int .i64 m, .int .i64 0, .int .i64 0, .slice a n c]) (by simp [results, Tryz.results86, go_sem, q0, q1, q2, q3, q4]) rfl ⟨rfl, ?_⟩
  exact below_put hb0 hb0.size (put5 k0 _ _ _ _ _).2 (Nat.le_refl _)
set_option maxRecDepth 100000 in
theorem before_any (b0 b1 b2 b3 x : Int) (a : Option Addr) (n c : Nat) (w : World) :
    Calls Tryz.prog 84 #[.agg #[.int .i64 b0, .int .i64 b1, .int .i64 b2, .int .i64 b3, .slice a n c], .int .i64 x] w fun e w' => e = .returned (.agg #[.int .i64 b0, .int .i64 b1, .int .i64 b2, .int .i64 x, .slice a n c]) ∧ Below w.heap.size w w' := by
  obtain ⟨w0, hw0⟩ : ∃ w0, w0 = (w.alloc (.cells #[.int .i64 b0, .int .i64 b1, .int .i64 b2, .int .i64 b3, .slice a n c] 64)).alloc (.cells #[.int .i64 0, .int .i64 0, .int .i64 0, .int .i64 0, .slice none 0 0] 64) := ⟨_, rfl⟩
  have hb0 : Below w.heap.size w w0 := by rw [hw0]; exact ext_alloc (ext_alloc (Below.refl _ _) _) _
  have k0 : w0.heap[w.heap.size]? = some (.cells #[.int .i64 b0, .int .i64 b1, .int .i64 b2, .int .i64 b3, .slice a n c] 64 (0, 0)) := by rw [hw0]; exact ((MapKept.heap_alloc _ _).2 _ (by rw [World.size_alloc]; omega)).trans (heap_alloc_new _ _)
  have k1 : w0.heap[w.heap.size + 1]? = some (.cells #[.int .i64 0, .int .i64 0, .int .i64 0, .int .i64 0, .slice none 0 0] 64 (0, 0)) := by rw [hw0, ← World.size_alloc w (.cells #[.int .i64 b0, .int .i64 b1, .int .i64 b2, .int .i64 b3, .slice a n c] 64)]; exact heap_alloc_new _ _
  obtain ⟨h2, g2⟩ := set1 k0 3 (.int .i64 x)
  obtain ⟨_, p0, p1, p2, p3, p4, pf⟩ := cells5 k0
  obtain ⟨w1, hw1⟩ : ∃ w1, w1 = w0.setCell ⟨w.heap.size, 3, none⟩ (.int .i64 x) := ⟨_, rfl⟩
  rw [← hw1] at h2 g2
  have h2' : w1.heap[w.heap.size]? = some (.cells #[.int .i64 b0, .int .i64 b1, .int .i64 b2, .int .i64 x, .slice a n c] 64 (0, 0)) := h2
  have k1' : w1.heap[w.heap.size + 1]? = some (.cells #[.int .i64 0, .int .i64 0, .int .i64 0, .int .i64 0, .slice none 0 0] 64 (0, 0)) := (g2.block _ (Array.getElem?_eq_some_iff.1 k1).1 (by simp)).trans k1
  obtain ⟨_, s0, s1, s2, s3, s4, sf⟩ := cells5 h2'
  obtain ⟨_, q0, q1, q2, q3, q4, qf⟩ := cells5 k1'
  have hb1 : Below w.heap.size w w1 := below_put hb0 hb0.size g2 (Nat.le_refl _)
  have HF := hidIt (put5 k1' (.int .i64 b0) (.int .i64 b1) (.int .i64 b2) (.int .i64 x) (.slice a n c))
  have HW1 := hidIt hw1
  clear k0 k1 h2 h2' k1' g2 hb0 hw1
  go_enter Tryz.func84, Tryz.ntmps84
  go_upto_region 1 with fail
  rw [← hw0]
  clear hw0
  go_upto_region 2 with fail
  rw [← HW1.out]
  clear HW1 p0 p1 p2 p3 p4 pf
  go_wp2
  refine bodyPost_ret (v := .agg #[.int .i64 b0, .int .i64 b1, .int .i64 b2, .int .i64 x, .slice a n c]) (by simp [results, Tryz.results84, go_sem, q0, q1, q2, q3, q4]) rfl ⟨rfl, ?_⟩
  exact below_put hb1 hb1.size HF.out.2 (Nat.le_succ _)
set_option maxRecDepth 100000 in
theorem with_any (b0 b1 b2 b3 x : Int) (a : Option Addr) (n c : Nat) (w : World) :
    Calls Tryz.prog 87 #[.agg #[.int .i64 b0, .int .i64 b1, .int .i64 b2, .int .i64 b3, .slice a n c], .int .i64 x] w fun e w' => e = .returned (.agg #[.int .i64 b0, .int .i64 b1, .int .i64 x, .int .i64 b3, .slice a n c]) ∧ Below w.heap.size w w' := by
  obtain ⟨w0, hw0⟩ : ∃ w0, w0 = (w.alloc (.cells #[.int .i64 b0, .int .i64 b1, .int .i64 b2, .int .i64 b3, .slice a n c] 64)).alloc (.cells #[.int .i64 0, .int .i64 0, .int .i64 0, .int .i64 0, .slice none 0 0] 64) := ⟨_, rfl⟩
  have hb0 : Below w.heap.size w w0 := by rw [hw0]; exact ext_alloc (ext_alloc (Below.refl _ _) _) _
  have k0 : w0.heap[w.heap.size]? = some (.cells #[.int .i64 b0, .int .i64 b1, .int .i64 b2, .int .i64 b3, .slice a n c] 64 (0, 0)) := by rw [hw0]; exact ((MapKept.heap_alloc _ _).2 _ (by rw [World.size_alloc]; omega)).trans (heap_alloc_new _ _)
  have k1 : w0.heap[w.heap.size + 1]? = some (.cells #[.int .i64 0, .int .i64 0, .int .i64 0, .int .i64 0, .slice none 0 0] 64 (0, 0)) := by rw [hw0, ← World.size_alloc w (.cells #[.int .i64 b0, .int .i64 b1, .int .i64 b2, .int .i64 b3, .slice a n c] 64)]; exact heap_alloc_new _ _
  obtain ⟨h2, g2⟩ := set1 k0 2 (.int .i64 x)
  obtain ⟨_, p0, p1, p2, p3, p4, pf⟩ := cells5 k0
  obtain ⟨w1, hw1⟩ : ∃ w1, w1 = w0.setCell ⟨w.heap.size, 2, none⟩ (.int .i64 x) := ⟨_, rfl⟩
  rw [← hw1] at h2 g2
  have h2' : w1.heap[w.heap.size]? = some (.cells #[.int .i64 b0, .int .i64 b1, .int .i64 x, .int .i64 b3, .slice a n c] 64 (0, 0)) := h2
  have k1' : w1.heap[w.heap.size + 1]? = some (.cells #[.int .i64 0, .int .i64 0, .int .i64 0, .int .i64 0, .slice none 0 0] 64 (0, 0)) := (g2.block _ (Array.getElem?_eq_some_iff.1 k1).1 (by simp)).trans k1
  obtain ⟨_, s0, s1, s2, s3, s4, sf⟩ := cells5 h2'
  obtain ⟨_, q0, q1, q2, q3, q4, qf⟩ := cells5 k1'
  have hb1 : Below w.heap.size w w1 := below_put hb0 hb0.size g2 (Nat.le_refl _)
  have HF := hidIt (put5 k1' (.int .i64 b0) (.int .i64 b1) (.int .i64 x) (.int .i64 b3) (.slice a n c))
  have HW1 := hidIt hw1
  clear k0 k1 h2 h2' k1' g2 hb0 hw1
  go_enter Tryz.func87, Tryz.ntmps87
  go_upto_region 1 with fail
  rw [← hw0]
  clear hw0
  go_upto_region 2 with fail
  rw [← HW1.out]
  clear HW1 p0 p1 p2 p3 p4 pf
  go_wp2
  refine bodyPost_ret (v := .agg #[.int .i64 b0, .int .i64 b1, .int .i64 x, .int .i64 b3, .slice a n c]) (by simp [results, Tryz.results87, go_sem, q0, q1, q2, q3, q4]) rfl ⟨rfl, ?_⟩
  exact below_put hb1 hb1.size HF.out.2 (Nat.le_succ _)
/-- Blocks of ints that hold what was written out. -/
def AccB (w : World) (l : List (Nat × Array Value)) : Prop := ∀ p ∈ l, w.heap[p.1]? = some (.cells p.2 3 (0, 0))
theorem AccB.nil (w : World) : AccB w [] := fun p hp => by cases hp
theorem AccB.ext {w w' : World} {l : List (Nat × Array Value)} (h : AccB w l) (hb : Below w.heap.size w w') : AccB w' l := fun p hp => (hb.block _ (Array.getElem?_eq_some_iff.1 (h p hp)).1).trans (h p hp)
theorem AccB.push {w w' : World} {l : List (Nat × Array Value)} {cs : Array Value} (h : AccB w l) (hb : Below (w.alloc (.cells cs 3)).heap.size (w.alloc (.cells cs 3)) w') : AccB w' ((w.heap.size, cs) :: l) := by
  intro p hp
  rcases List.mem_cons.1 hp with rfl | hp
  · exact (hb.block _ (Array.getElem?_eq_some_iff.1 (heap_alloc_new w _)).1).trans (heap_alloc_new _ _)
  · exact (h.ext (ext_trans (ext_alloc (Below.refl _ _) _) hb)) p hp
theorem acc_of {w : World} {l : List (Nat × Array Value)} (h : AccB w l) (xs : List (Rw × Value)) (hs : ∀ p ∈ l, p.2.size ≤ 1000) (hz : xs.map (fun x => (x.2, x.1.ks.map (Value.int .i64))) = l.reverse.map (fun p => (Value.slice (some ⟨p.1, 0, none⟩) p.2.size p.2.size, p.2.toList))) : Acc w xs := by
  intro x hx
  have hm : (x.2, x.1.ks.map (Value.int .i64)) ∈ l.reverse.map (fun p => (Value.slice (some ⟨p.1, 0, none⟩) p.2.size p.2.size, p.2.toList)) := by rw [← hz]; exact List.mem_map.2 ⟨x, hx, rfl⟩
  obtain ⟨p, hp, e⟩ := List.mem_map.1 hm
  rw [List.mem_reverse] at hp
  injection e with e1 e2
  have hl : p.2.size = x.1.ks.length := by have := congrArg List.length e2; simpa using this
  have hg := h p hp
  have := hs p hp
  refine ⟨⟨⟨some ⟨p.1, 0, none⟩, p.2.size, by rw [← e1, hl], by omega, by unfold maxLen; omega, fun _ => ⟨p.1, 0, rfl, (Array.getElem?_eq_some_iff.1 hg).1, fun i hi => ?_⟩⟩, .inr ⟨_, _, _, e1.symm⟩⟩, fun a n c e => ?_⟩
  · rw [cell_of_row _ _ _ _ _ _ hg, Nat.zero_add]
    have : p.2.toList[i]? = (x.1.ks.map (Value.int .i64))[i]? := by rw [e2]
    rw [Array.getElem?_toList] at this
    rw [this]
    simp [hi]
  · rw [← e1] at e
    cases e
    exact ⟨_, _, hg⟩
end Go.Proofs.YtfdceljdhgbkcaaGreatDoor
