/- isSelection, New, Reset. -/
import Derived.Test.YtdbmgjkgfmdmjaaDoorKPsr
namespace Go.Proofs.YtdbmgjkgfmdmjaaDoor
open Go.RowKit
def isl (mode : Int) : Bool := mode == 3 || mode == 4
def rdg0 : Rdg := ⟨0, 0, 0, 0, 0⟩
set_option maxRecDepth 100000 in
theorem isl_any (mode : Int) (w : World) : Calls Tryd.prog 29 #[.int .i64 mode] w fun e w' => e = .returned (.bool (isl mode)) ∧ w' = w := by
  by_cases h3 : mode = 3
  · have h3b : (mode == 3) = true := by simpa using h3
    have HE : Hid (isl mode = true) := by unfold Hid isl; simp [h3]
    clear h3
    go_enter Tryd.func29, Tryd.ntmps29
    go_wp2
    refine bodyPost_ret (v := .bool true) (by simp [results, Tryd.results29, go_sem]) rfl ⟨by rw [HE.out], rfl⟩
  · have h3b : (mode == 3) = false := by simpa using h3
    obtain ⟨x, hx⟩ : ∃ x, x = (mode == 4) := ⟨_, rfl⟩
    have HE : Hid (isl mode = x) := by unfold Hid isl; rw [h3b, hx]; rfl
    clear h3
    go_enter Tryd.func29, Tryd.ntmps29
    go_wp2
    refine bodyPost_ret (v := .bool x) (by simp [results, Tryd.results29, go_sem, hx]) rfl ⟨by rw [HE.out], rfl⟩
set_option maxRecDepth 100000 in
theorem new_any (w : World) : Calls Tryd.prog 13 #[] w fun e w' => e = .returned (.pointer (some ⟨w.heap.size, 0, none⟩)) ∧ Below w.heap.size w w' ∧ Psr w' w.heap.size false (.slice none 0 0) rdg0 := by
  go_enter Tryd.func13, Tryd.ntmps13
  go_wp2
  refine bodyPost_ret (v := .pointer (some ⟨w.heap.size, 0, none⟩)) (by simp [results, Tryd.results13, go_sem]) rfl ⟨rfl, ?_, ?_⟩
  · exact ext_alloc (Below.refl _ _) _
  · exact ⟨_, _, _, _, _, _, heap_alloc_new w (.cells #[.map none, .slice none 0 0, .map none, .slice none 0 0, .map none, .slice none 0 0, .bool false, .slice none 0 0, .int .i64 0, .int .i64 0, .int .i64 0, .int .i64 0, .int .i64 0] 66), .inl ⟨rfl, rfl⟩, .inl ⟨rfl, rfl⟩, .inl ⟨rfl, rfl⟩⟩
theorem PB.setP {w : World} {b : Nat} {m0 s0 m1 s1 m2 s2 sl pv : Value} {t : Rdg} (h : PB w b m0 s0 m1 s1 m2 s2 sl pv t) (x : Value) : PB (w.setCell ⟨b, 7, none⟩ x) b m0 s0 m1 s1 m2 s2 sl x t ∧ Kps (fun k => k = b) w (w.setCell ⟨b, 7, none⟩ x) := by
  obtain ⟨h1, g1⟩ := set1 h 7 x
  exact ⟨h1, Kps.grown g1 (fun k e _ => by cases e; rfl)⟩
theorem PB.setS {w : World} {b : Nat} {m0 s0 m1 s1 m2 s2 sl pv : Value} {t : Rdg} (h : PB w b m0 s0 m1 s1 m2 s2 sl pv t) (x : Value) : PB (w.setCell ⟨b, 6, none⟩ x) b m0 s0 m1 s1 m2 s2 x pv t ∧ Kps (fun k => k = b) w (w.setCell ⟨b, 6, none⟩ x) := by
  obtain ⟨h1, g1⟩ := set1 h 6 x
  exact ⟨h1, Kps.grown g1 (fun k e _ => by cases e; rfl)⟩
set_option maxRecDepth 100000 in
theorem reset_any {w : World} {b : Nat} {sl : Bool} {pv : Value} {t : Rdg} (h : Psr w b sl pv t) :
    Calls Tryd.prog 16 #[.pointer (some ⟨b, 0, none⟩)] w fun e w' => e = .returned (.tuple #[]) ∧ Psr w' b sl (.slice none 0 0) rdg0 ∧ Kps (fun k => k = b) w w' := by
  obtain ⟨w1, hw1⟩ : ∃ w1, w1 = w.setCell ⟨b, 7, none⟩ (.slice none 0 0) := ⟨_, rfl⟩
  obtain ⟨cf, hp1, hk1⟩ : ((∃ x, w.cell? ⟨b, 7, none⟩ = some x) ∧ w.frozen? ⟨b, 7, none⟩ = false) ∧ Psr w1 b sl (.slice none 0 0) t ∧ Kps (fun k => k = b) w w1 := by
    obtain ⟨m0, s0, m1, s1, m2, s2, hp, h0, h1, h2⟩ := h
    obtain ⟨_, _, _, _, _, _, _, _, c7, _, _, _, _, _, cf⟩ := cells13 hp
    obtain ⟨q1, q2⟩ := hp.setP (.slice none 0 0)
    rw [← hw1] at q1 q2
    exact ⟨⟨⟨_, c7⟩, cf 7⟩, ⟨m0, s0, m1, s1, m2, s2, q1, h0.kps q2 hp, h1.kps q2 hp, h2.kps q2 hp⟩, q2⟩
  obtain ⟨⟨x7, c7⟩, f7⟩ := cf
  obtain ⟨w2, hw2⟩ : ∃ w2, w2 = ((((w1.setCell ⟨b, 8, none⟩ (.int .i64 0)).setCell ⟨b, 9, none⟩ (.int .i64 0)).setCell ⟨b, 10, none⟩ (.int .i64 0)).setCell ⟨b, 11, none⟩ (.int .i64 0)).setCell ⟨b, 12, none⟩ (.int .i64 0) := ⟨_, rfl⟩
  obtain ⟨d8, d9, d10, d11, d12, df, hp2, hk2⟩ : w1.cell? ⟨b, 8, none⟩ = some (.int .i64 t.k) ∧ w1.cell? ⟨b, 9, none⟩ = some (.int .i64 t.r) ∧ w1.cell? ⟨b, 10, none⟩ = some (.int .i64 t.c) ∧ w1.cell? ⟨b, 11, none⟩ = some (.int .i64 t.n) ∧ w1.cell? ⟨b, 12, none⟩ = some (.int .i64 t.o) ∧ (∀ i, w1.frozen? ⟨b, i, none⟩ = false) ∧ Psr w2 b sl (.slice none 0 0) rdg0 ∧ Kps (fun k => k = b) w1 w2 := by
    obtain ⟨m0, s0, m1, s1, m2, s2, hp, h0, h1, h2⟩ := hp1
    obtain ⟨_, _, _, _, _, _, _, _, _, c8, c9, c10, c11, c12, cf⟩ := cells13 hp
    obtain ⟨a1, k1⟩ := hp.setK 0
    obtain ⟨a2, k2⟩ := a1.setR 0
    obtain ⟨a3, k3⟩ := a2.setC 0
    obtain ⟨a4, k4⟩ := a3.setN 0
    obtain ⟨a5, k5⟩ := a4.setO 0
    have kk := Kps.trans (Kps.trans (Kps.trans (Kps.trans k1 k2 (fun _ _ e => e)) k3 (fun _ _ e => e)) k4 (fun _ _ e => e)) k5 (fun _ _ e => e)
    rw [← hw2] at a5 kk
    exact ⟨c8, c9, c10, c11, c12, cf, ⟨m0, s0, m1, s1, m2, s2, a5, h0.kps kk hp, h1.kps kk hp, h2.kps kk hp⟩, kk⟩
  have HP := hidIt (And.intro hp2 (Kps.trans hk1 hk2 (fun _ _ e => e)))
  have HW2 := hidIt hw2
  clear h hp1 hk1 hp2 hk2 hw2
  go_enter Tryd.func16, Tryd.ntmps16
  go_upto_region 1 with fail
  rw [← hw1]
  clear hw1
  go_wp2
  rw [← HW2.out]
  exact bodyPost_end (results_none rfl _ _ _) rfl ⟨rfl, HP.out⟩
end Go.Proofs.YtdbmgjkgfmdmjaaDoor
