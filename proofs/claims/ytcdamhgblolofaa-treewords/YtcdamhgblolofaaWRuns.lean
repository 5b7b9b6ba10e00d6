/- Words: Measure, Add. -/
import Derived.Test.YtcdamhgblolofaaWSums
import Derived.Test.YtcdamhgblolofaaRepl
namespace Go.Proofs.Ytcdamhgblolofaa.W
open Go.RowKit

theorem m_meas (a : ByteArray) (w : World) : (method 254 58 (.agg #[.string a]) "Measure").run Try.prog w = .ok (54, .agg #[.string a]) w := by kernel_rfl
theorem m_add (a : ByteArray) (b : Int) (w : World) : (method 254 65 (.agg #[.string a, .int .i64 b]) "Add").run Try.prog w = .ok (53, .agg #[.string a, .int .i64 b]) w := by kernel_rfl
theorem m_key (a : ByteArray) (b : Int) (w : World) : (method 254 65 (.agg #[.string a, .int .i64 b]) "Key").run Try.prog w = .ok (55, .agg #[.string a, .int .i64 b]) w := by kernel_rfl
theorem n_meas (a : ByteArray) (w : World) : (nilAhead 254 58 (.agg #[.string a]) "Measure").run Try.prog w = .ok (some false) w := by kernel_rfl
theorem n_add (a : ByteArray) (b : Int) (w : World) : (nilAhead 254 65 (.agg #[.string a, .int .i64 b]) "Add").run Try.prog w = .ok (some false) w := by kernel_rfl
theorem n_key (a : ByteArray) (b : Int) (w : World) : (nilAhead 254 65 (.agg #[.string a, .int .i64 b]) "Key").run Try.prog w = .ok (some false) w := by kernel_rfl

theorem Measure_any (x : It) (w : World) : Calls Try.prog 54 #[.agg #[.string x]] w fun e w' => ∃ s, Hid (s = Ws.meas x) ∧ e = .returned (.agg #[.string s.t, .int .i64 s.n]) ∧ Below w.heap.size w w' := by
  go_enter Try.func54, Try.ntmps54
  go_wp2_with fail
  exact bodyPost_ret (v := .agg #[.string x, .int .i64 1]) (by simp [results, Try.results54, go_sem]) rfl ⟨Ws.meas x, rfl, rfl, ext_alloc (ext_alloc (Below.refl _ _) _) _⟩

set_option maxRecDepth 100000 in
theorem Add_any (a b : Ws) (w : World) (h0 : 0 ≤ a.n) (h1 : 0 ≤ b.n) (h2 : a.n + b.n ≤ 9223372036854775807) (h3 : a.t.size + b.t.size ≤ 9223372036854775807) :
    Calls Try.prog 53 #[.agg #[.string a.t, .int .i64 a.n], .agg #[.string b.t, .int .i64 b.n]] w fun e w' => ∃ s, Hid (s = Ws.add a b) ∧ e = .returned (.agg #[.string s.t, .int .i64 s.n]) ∧ Below w.heap.size w w' := by
  obtain ⟨at', an⟩ := a
  obtain ⟨bt, bn⟩ := b
  simp only at *
  have h4 : ¬ 9223372036854775807 < ((at'.size : Int) + (bt.size : Int)) := by omega
  have HE : Hid ((⟨at' ++ bt, an + bn⟩ : Ws) = Ws.add ⟨at', an⟩ ⟨bt, bn⟩) := rfl
  go_enter Try.func53, Try.ntmps53
  go_wp2_with fail
  exact bodyPost_ret (v := .agg #[.string (at' ++ bt), .int .i64 (an + bn)]) (by simp [results, Try.results53, go_sem]) rfl ⟨_, HE, rfl, ext_alloc (ext_alloc (ext_alloc (Below.refl _ _) _) _) _⟩

theorem add_su (a b : List It) (s t : Ws) (w : World) (hs : Hid (s = wA.su a)) (ht : Hid (t = wA.su b)) (hw : wt (a ++ b) ≤ 4611686018427387904) :
    Calls Try.prog 53 #[.agg #[.string s.t, .int .i64 s.n], .agg #[.string t.t, .int .i64 t.n]] w fun e w' => ∃ q, Hid (q = wA.su (a ++ b)) ∧ e = .returned (.agg #[.string q.t, .int .i64 q.n]) ∧ Below w.heap.size w w' := by
  have h1 := Ws.bound a
  have h2 := Ws.bound b
  have h3 := wt_len (a ++ b)
  rw [List.length_append] at h3
  rw [← hs.out] at h1
  rw [← ht.out] at h2
  rw [wt_app] at hw
  refine (Add_any s t w (by omega) (by omega) (by omega) (by omega)).mono ?_
  rintro e w' ⟨q, hq, he, hb⟩
  refine ⟨q, ?_, he, hb⟩
  unfold Hid
  rw [hq.out, hs.out, ht.out, Alg.su_app]
  rfl
theorem su_one (x : It) : wA.su [x] = Ws.meas x := by rw [Alg.su_cons, Alg.su_nil]; exact wA.addz _ (wA.okm x)
end Go.Proofs.Ytcdamhgblolofaa.W
