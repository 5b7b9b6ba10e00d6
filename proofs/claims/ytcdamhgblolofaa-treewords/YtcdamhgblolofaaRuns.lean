/- Runs: Measure, Add, Key. -/
import Derived.Test.YtcdamhgblolofaaMem
namespace Go.Proofs.Ytcdamhgblolofaa
open Go.RowKit

theorem m_meas (a b : Int) (w : World) : (method 254 24 (.agg #[.int .i64 a, .int .i64 b]) "Measure").run Try.prog w = .ok (38, .agg #[.int .i64 a, .int .i64 b]) w := by kernel_rfl
theorem m_add (a b c d : Int) (w : World) : (method 254 26 (.agg #[.int .i64 a, .int .i64 b, .int .i64 c, .int .i64 d]) "Add").run Try.prog w = .ok (14, .agg #[.int .i64 a, .int .i64 b, .int .i64 c, .int .i64 d]) w := by kernel_rfl
theorem m_key (a b c d : Int) (w : World) : (method 254 26 (.agg #[.int .i64 a, .int .i64 b, .int .i64 c, .int .i64 d]) "Key").run Try.prog w = .ok (18, .agg #[.int .i64 a, .int .i64 b, .int .i64 c, .int .i64 d]) w := by kernel_rfl
theorem n_meas (a b : Int) (w : World) : (nilAhead 254 24 (.agg #[.int .i64 a, .int .i64 b]) "Measure").run Try.prog w = .ok (some false) w := by kernel_rfl
theorem n_add (a b c d : Int) (w : World) : (nilAhead 254 26 (.agg #[.int .i64 a, .int .i64 b, .int .i64 c, .int .i64 d]) "Add").run Try.prog w = .ok (some false) w := by kernel_rfl
theorem n_key (a b c d : Int) (w : World) : (nilAhead 254 26 (.agg #[.int .i64 a, .int .i64 b, .int .i64 c, .int .i64 d]) "Key").run Try.prog w = .ok (some false) w := by kernel_rfl

theorem Measure_any (x : It) (w : World) : Calls Try.prog 38 #[.agg #[.int .i64 x.1, .int .i64 x.2]] w fun e w' => ∃ s, Hid (s = Rs.meas x) ∧ e = .returned (.agg #[.int .i64 s.l, .int .i64 s.s, .int .i64 s.f, .int .i64 s.z]) ∧ Below w.heap.size w w' := by
  obtain ⟨a, b⟩ := x
  by_cases h : b ≤ 0
  · have HE : Hid (Rs.zero = Rs.meas (a, b)) := by simp [Hid, Rs.meas, h]
    go_enter Try.func38, Try.ntmps38
    go_wp2_with fail
    exact bodyPost_ret (v := .agg #[.int .i64 0, .int .i64 0, .int .i64 0, .int .i64 0]) (by simp [results, Try.results38, go_sem]) rfl ⟨_, HE, rfl, ext_alloc (ext_alloc (Below.refl _ _) _) _⟩
  · by_cases h2 : 1048576 < b
    · have HE : Hid ((⟨1048576, 1, a, a⟩ : Rs) = Rs.meas (a, b)) := by simp only [Hid, Rs.meas]; rw [if_neg h, show min b 1048576 = 1048576 by omega]
      go_enter Try.func38, Try.ntmps38
      go_wp2_with fail
      exact bodyPost_ret (v := .agg #[.int .i64 1048576, .int .i64 1, .int .i64 a, .int .i64 a]) (by simp [results, Try.results38, go_sem]) rfl ⟨_, HE, rfl, ext_alloc (ext_alloc (Below.refl _ _) _) _⟩
    · have HE : Hid ((⟨b, 1, a, a⟩ : Rs) = Rs.meas (a, b)) := by simp only [Hid, Rs.meas]; rw [if_neg h, show min b 1048576 = b by omega]
      go_enter Try.func38, Try.ntmps38
      go_wp2_with fail
      exact bodyPost_ret (v := .agg #[.int .i64 b, .int .i64 1, .int .i64 a, .int .i64 a]) (by simp [results, Try.results38, go_sem]) rfl ⟨_, HE, rfl, ext_alloc (ext_alloc (Below.refl _ _) _) _⟩

set_option maxRecDepth 100000 in
theorem Add_any (a b : Rs) (w : World) (h0 : 0 ≤ a.s) (h1 : 0 ≤ b.s) (h2 : 0 ≤ a.l) (h3 : 0 ≤ b.l) (h4 : a.l + b.l ≤ 9223372036854775807) (h5 : a.s + b.s ≤ 9223372036854775807) :
    Calls Try.prog 14 #[.agg #[.int .i64 a.l, .int .i64 a.s, .int .i64 a.f, .int .i64 a.z], .agg #[.int .i64 b.l, .int .i64 b.s, .int .i64 b.f, .int .i64 b.z]] w fun e w' => ∃ s, Hid (s = Rs.add a b) ∧ e = .returned (.agg #[.int .i64 s.l, .int .i64 s.s, .int .i64 s.f, .int .i64 s.z]) ∧ Below w.heap.size w w' := by
  obtain ⟨a1, a2, a3, a4⟩ := a
  obtain ⟨b1, b2, b3, b4⟩ := b
  simp only at *
  by_cases e1 : a2 = 0
  · have HE : Hid ((⟨b1, b2, b3, b4⟩ : Rs) = Rs.add ⟨a1, a2, a3, a4⟩ ⟨b1, b2, b3, b4⟩) := by simp [Hid, Rs.add, e1]
    go_enter Try.func14, Try.ntmps14
    go_wp2_with fail
    exact bodyPost_ret (v := .agg #[.int .i64 b1, .int .i64 b2, .int .i64 b3, .int .i64 b4]) (by simp [results, Try.results14, go_sem]) rfl ⟨_, HE, rfl, ext_alloc (ext_alloc (ext_alloc (Below.refl _ _) _) _) _⟩
  by_cases e2 : b2 = 0
  · have HE : Hid ((⟨a1, a2, a3, a4⟩ : Rs) = Rs.add ⟨a1, a2, a3, a4⟩ ⟨b1, b2, b3, b4⟩) := by simp [Hid, Rs.add, e1, e2]
    go_enter Try.func14, Try.ntmps14
    go_wp2_with fail
    exact bodyPost_ret (v := .agg #[.int .i64 a1, .int .i64 a2, .int .i64 a3, .int .i64 a4]) (by simp [results, Try.results14, go_sem]) rfl ⟨_, HE, rfl, ext_alloc (ext_alloc (ext_alloc (Below.refl _ _) _) _) _⟩
  by_cases e3 : a4 = b3
  · have HE : Hid ((⟨a1 + b1, a2 + b2 - 1, a3, b4⟩ : Rs) = Rs.add ⟨a1, a2, a3, a4⟩ ⟨b1, b2, b3, b4⟩) := by simp [Hid, Rs.add, e1, e2, e3]
    go_enter Try.func14, Try.ntmps14
    go_wp2_with fail
    exact bodyPost_ret (v := .agg #[.int .i64 (a1 + b1), .int .i64 (a2 + b2 - 1), .int .i64 a3, .int .i64 b4]) (by simp [results, Try.results14, go_sem]) rfl ⟨_, HE, rfl, by repeat (first | exact Below.refl _ _ | refine ext_alloc ?_ _)⟩
  · have HE : Hid ((⟨a1 + b1, a2 + b2, a3, b4⟩ : Rs) = Rs.add ⟨a1, a2, a3, a4⟩ ⟨b1, b2, b3, b4⟩) := by simp [Hid, Rs.add, e1, e2, e3]
    go_enter Try.func14, Try.ntmps14
    go_wp2_with fail
    exact bodyPost_ret (v := .agg #[.int .i64 (a1 + b1), .int .i64 (a2 + b2), .int .i64 a3, .int .i64 b4]) (by simp [results, Try.results14, go_sem]) rfl ⟨_, HE, rfl, by repeat (first | exact Below.refl _ _ | refine ext_alloc ?_ _)⟩

theorem Key_any (a : Rs) (k : Int) (w : World) : Calls Try.prog 18 #[.agg #[.int .i64 a.l, .int .i64 a.s, .int .i64 a.f, .int .i64 a.z], .int .i64 k] w fun e w' => e = .returned (.int .i64 (Rs.key a k)) ∧ Below w.heap.size w w' := by
  obtain ⟨a1, a2, a3, a4⟩ := a
  by_cases e1 : k = 0
  · have HE : Hid (Rs.key ⟨a1, a2, a3, a4⟩ k = a1) := by simp [Hid, Rs.key, e1]
    go_enter Try.func18, Try.ntmps18
    go_wp2_with fail
    go_ret
    exact ⟨ret_int HE.out.symm, ext_alloc (Below.refl _ _) _⟩
  by_cases e2 : k = 1
  · have HE : Hid (Rs.key ⟨a1, a2, a3, a4⟩ k = a2) := by simp [Hid, Rs.key, e2]
    go_enter Try.func18, Try.ntmps18
    go_wp2_with fail
    go_ret
    exact ⟨ret_int HE.out.symm, ext_alloc (Below.refl _ _) _⟩
  · have HE : Hid (Rs.key ⟨a1, a2, a3, a4⟩ k = 0) := by simp [Hid, Rs.key, e1, e2]
    go_enter Try.func18, Try.ntmps18
    go_wp2_with fail
    go_ret
    exact ⟨ret_int HE.out.symm, ext_alloc (Below.refl _ _) _⟩

theorem add_su (a b : List It) (s t : Rs) (w : World) (hs : Hid (s = rA.su a)) (ht : Hid (t = rA.su b)) (hw : wt (a ++ b) ≤ 4611686018427387904) :
    Calls Try.prog 14 #[.agg #[.int .i64 s.l, .int .i64 s.s, .int .i64 s.f, .int .i64 s.z], .agg #[.int .i64 t.l, .int .i64 t.s, .int .i64 t.f, .int .i64 t.z]] w fun e w' => ∃ q, Hid (q = rA.su (a ++ b)) ∧ e = .returned (.agg #[.int .i64 q.l, .int .i64 q.s, .int .i64 q.f, .int .i64 q.z]) ∧ Below w.heap.size w w' := by
  have h1 := Rs.bound a
  have h2 := Rs.bound b
  rw [wt_app] at hw
  rw [← hs.out] at h1
  rw [← ht.out] at h2
  refine (Add_any s t w (by omega) (by omega) (by omega) (by omega) (by omega) (by omega)).mono ?_
  rintro e w' ⟨q, hq, he, hb⟩
  refine ⟨q, ?_, he, hb⟩
  unfold Hid
  rw [hq.out, hs.out, ht.out, Alg.su_app]
  rfl
theorem su_one (x : It) : rA.su [x] = Rs.meas x := by rw [Alg.su_cons, Alg.su_nil]; exact rA.addz _ (rA.okm x)
end Go.Proofs.Ytcdamhgblolofaa
