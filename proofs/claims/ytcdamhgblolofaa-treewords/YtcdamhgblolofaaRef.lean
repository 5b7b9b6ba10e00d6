/- The document's own sums; added, plain, sameRuns. -/
import Derived.Test.YtcdamhgblolofaaRuns
namespace Go.Proofs.Ytcdamhgblolofaa
open Go.RowKit

/-- At block g lies a sum. -/
def Blk (T : TypeId) (w : World) (g : Nat) (s : Rs) : Prop := w.heap[g]? = some (.cells #[.int .i64 s.l, .int .i64 s.s, .int .i64 s.f, .int .i64 s.z] T (0, 0))
theorem Blk.lt {T : TypeId} {w : World} {g : Nat} {s : Rs} (h : Blk T w g s) : g < w.heap.size := (Array.getElem?_eq_some_iff.1 h).1
theorem Blk.ext {T : TypeId} {w w' : World} {g : Nat} {s : Rs} (h : Blk T w g s) (hb : Below w.heap.size w w') : Blk T w' g s := by
  unfold Blk; rw [hb.block g h.lt]; exact h
theorem Blk.cells {T : TypeId} {w : World} {g : Nat} {s : Rs} (h : Blk T w g s) : w.cell? ⟨g, 0, none⟩ = some (.int .i64 s.l) ∧ w.cell? ⟨g, 1, none⟩ = some (.int .i64 s.s) ∧ w.cell? ⟨g, 2, none⟩ = some (.int .i64 s.f) ∧ w.cell? ⟨g, 3, none⟩ = some (.int .i64 s.z) ∧ (∀ i, w.frozen? ⟨g, i, none⟩ = false) := by
  refine ⟨?_, ?_, ?_, ?_, ?_⟩
  · rw [cell_of_row w g 0 _ _ _ h]; rfl
  · rw [cell_of_row w g 1 _ _ _ h]; rfl
  · rw [cell_of_row w g 2 _ _ _ h]; rfl
  · rw [cell_of_row w g 3 _ _ _ h]; rfl
  · intro i; unfold Blk at h; simp [World.frozen?, h]
theorem Blk.new (T : TypeId) (w : World) (s : Rs) : Blk T (w.alloc (.cells #[.int .i64 s.l, .int .i64 s.s, .int .i64 s.f, .int .i64 s.z] T)) w.heap.size s := heap_alloc_new _ _

theorem set1 {T : TypeId} {w : World} {g : Nat} {cs : Array Value} (hg : w.heap[g]? = some (.cells cs T (0, 0))) (i : Nat) (v : Value) : (w.setCell ⟨g, i, none⟩ v).heap[g]? = some (.cells (cs.setIfInBounds i v) T (0, 0)) ∧ w.grownBy (w.setCell ⟨g, i, none⟩ v) (some g) := by
  rw [setCell_eq_setRow w g i _ _ _ _ hg]
  exact ⟨setRow_heap w g _ _ T (0, 0) hg, ⟨rfl, rfl, rfl, by simp [World.setRow], fun j _ hk => setRow_other w g j _ (by intro e; subst e; exact hk rfl)⟩⟩
theorem grown_trans {a b c : World} {k : Nat} (h : a.grownBy b (some k)) (h' : b.grownBy c (some k)) : a.grownBy c (some k) :=
  ⟨h'.os.trans h.os, h'.tape.trans h.tape, h'.output.trans h.output, Nat.le_trans h.size h'.size, fun j hj hk => (h'.block j (Nat.lt_of_lt_of_le hj h.size) hk).trans (h.block j hj hk)⟩
theorem Blk.put {T : TypeId} {w : World} {g : Nat} {s : Rs} (h : Blk T w g s) (q : Rs) :
    Blk T ((((w.setCell ⟨g, 0, none⟩ (.int .i64 q.l)).setCell ⟨g, 1, none⟩ (.int .i64 q.s)).setCell ⟨g, 2, none⟩ (.int .i64 q.f)).setCell ⟨g, 3, none⟩ (.int .i64 q.z)) g q ∧ w.grownBy ((((w.setCell ⟨g, 0, none⟩ (.int .i64 q.l)).setCell ⟨g, 1, none⟩ (.int .i64 q.s)).setCell ⟨g, 2, none⟩ (.int .i64 q.f)).setCell ⟨g, 3, none⟩ (.int .i64 q.z)) (some g) := by
  obtain ⟨h1, g1⟩ := set1 h 0 (.int .i64 q.l)
  obtain ⟨h2, g2⟩ := set1 h1 1 (.int .i64 q.s)
  obtain ⟨h3, g3⟩ := set1 h2 2 (.int .i64 q.f)
  obtain ⟨h4, g4⟩ := set1 h3 3 (.int .i64 q.z)
  exact ⟨h4, grown_trans (grown_trans (grown_trans g1 g2) g3) g4⟩
theorem Blk.other {T : TypeId} {w w' : World} {g k : Nat} {s : Rs} (h : Blk T w g s) (hb : w.grownBy w' (some k)) (hk : g ≠ k) : Blk T w' g s := by
  unfold Blk; rw [hb.block g h.lt (by intro e; cases e; exact hk rfl)]; exact h
theorem below_put {B : Nat} {w wr w' : World} {g : Nat} (hb : Below B w wr) (hB : B ≤ wr.heap.size) (hg : wr.grownBy w' (some g)) (hk : B ≤ g) : Below B w w' :=
  hb.grown hg hB (fun k e => by cases e; exact hk)
theorem wt_take (xs : List It) (k : Nat) (h : k < xs.length) : wt (xs.take k ++ [xs[k]?.getD (0, 0)]) ≤ wt xs := by
  have e : xs.take k ++ [xs[k]?.getD (0, 0)] = xs.take (k + 1) := by rw [List.take_succ_eq_append_getElem h, List.getElem?_eq_getElem h]; rfl
  rw [e]
  have := wt_app (xs.take (k + 1)) (xs.drop (k + 1))
  rw [List.take_append_drop] at this
  omega

set_option maxRecDepth 100000 in
set_option maxHeartbeats 1000000 in
theorem added_any (v : Value) (xs : List It) (w : World) (h : RdR w v xs) (hw : wt xs ≤ 4611686018427387904) :
    Calls Try.prog 13 #[v] w fun e w' => ∃ s, Hid (s = rA.su xs) ∧ e = .returned (.agg #[.int .i64 s.l, .int .i64 s.s, .int .i64 s.f, .int .i64 s.z]) ∧ Below w.heap.size w w' := by
  obtain ⟨ao, cap, rfl, hl, hm, h0, hc⟩ := h
  unfold maxLen at hm
  by_cases hn : xs = []
  · subst hn
    clear hc h0
    simp only [List.length_nil]
    go_enter Try.func13, Try.ntmps13
    go_wp2_with fail
    refine wp_loop_rounds 1 ?_
    rw [rounds_succ]
    go_wp2_with fail
    exact bodyPost_ret (v := .agg #[.int .i64 0, .int .i64 0, .int .i64 0, .int .i64 0]) (by simp [results, Try.results13, go_sem]) rfl ⟨Rs.zero, rfl, rfl, by repeat (first | exact Below.refl _ _ | refine ext_alloc ?_ _)⟩
  · obtain ⟨b, off, rfl, hbl, hc⟩ := hc hn
    have hlen : xs.length ≤ 4611686018427387904 := Nat.le_trans (wt_len xs) hw
    clear hn h0
    go_enter Try.func13, Try.ntmps13
    go_wp2_with fail
    go_loopw [4] (fun i wr => ∃ k : Nat, k ≤ xs.length ∧ i = .int .i64 k ∧ Blk 26 wr w.heap.size Rs.zero ∧ Blk 26 wr (w.heap.size + 1) (rA.su (xs.take k)) ∧ Below w.heap.size w wr) (fun i _ => xs.length - (intOf i).toNat)
    case atStart => exact ⟨0, Nat.zero_le _, rfl, (Blk.new _ w Rs.zero).ext (ext_alloc (Below.refl _ _) _), by rw [List.take_zero]; have := Blk.new 26 (w.alloc (.cells #[.int .i64 0, .int .i64 0, .int .i64 0, .int .i64 0] 26)) Rs.zero; rw [World.size_alloc] at this; exact this, by repeat (first | exact Below.refl _ _ | refine ext_alloc ?_ _)⟩
    case round =>
      obtain ⟨k, hk, rfl, hA, hB, hb⟩ := hrel
      obtain ⟨a0, a1, a2, a3, af⟩ := hA.cells
      obtain ⟨b0, b1, b2, b3, bf⟩ := hB.cells
      by_cases hlt : k < xs.length
      · have c0 : wr.cell? ⟨b, off + k * 2, none⟩ = some (.int .i64 (xs[k]?.getD (0, 0)).1) := (hb.cell (p := ⟨b, off + k * 2, none⟩) hbl).trans (hc k hlt).1
        have c1 : wr.cell? ⟨b, off + k * 2 + 1, none⟩ = some (.int .i64 (xs[k]?.getD (0, 0)).2) := (hb.cell (p := ⟨b, off + k * 2 + 1, none⟩) hbl).trans (hc k hlt).2
        have HT : Hid (rA.su (xs.take k ++ [xs[k]?.getD (0, 0)]) = rA.su (xs.take (k + 1))) := by unfold Hid; rw [List.take_succ_eq_append_getElem hlt, List.getElem?_eq_getElem hlt]; rfl
        have hw' : wt (xs.take k ++ [xs[k]?.getD (0, 0)]) ≤ 4611686018427387904 := Nat.le_trans (wt_take xs k hlt) hw
        have HS : Hid (rA.su (xs.take k) = rA.su (xs.take k)) := rfl
        have hsz : w.heap.size + 1 < wr.heap.size := hB.lt
        have AD : Hid (∀ t w', Hid (t = Rs.meas (xs[k]?.getD (0, 0))) → Calls Try.prog 14 #[.agg #[.int .i64 (rA.su (xs.take k)).l, .int .i64 (rA.su (xs.take k)).s, .int .i64 (rA.su (xs.take k)).f, .int .i64 (rA.su (xs.take k)).z], .agg #[.int .i64 t.l, .int .i64 t.s, .int .i64 t.f, .int .i64 t.z]] w' fun e w'' => ∃ q, Hid (q = rA.su (xs.take (k + 1))) ∧ e = .returned (.agg #[.int .i64 q.l, .int .i64 q.s, .int .i64 q.f, .int .i64 q.z]) ∧ Below w'.heap.size w' w'') := fun t w' ht => (add_su _ _ _ t w' HS (ht.out.trans (su_one _).symm) hw').mono fun _ _ ⟨q, h1, h2⟩ => ⟨q, h1.out.trans HT.out, h2⟩
        generalize xs[k]?.getD (0, 0) = x at *
        generalize rA.su (xs.take k) = s at *
        clear hc HS hw' HT
        go_wp2_with fail
        go_region_with (first
          | (go_at_call 38; refine (Measure_any x _).mono ?_; rintro e w1 ⟨m, HM, rfl, hb1⟩; have HB1 : Hid (Below wr.heap.size wr w1) := ext_trans (by repeat (first | exact Below.refl _ _ | apply Below.drew)) hb1; clear hb1; have hB1 := hB.ext HB1.out; obtain ⟨d0, d1, d2, d3, df⟩ := hB1.cells)
          | (go_at_call 14; refine (AD.out m _ HM).mono ?_; rintro e w2 ⟨q, HQ, rfl, hb2⟩; have HB2 : Hid (Below wr.heap.size wr w2) := ext_trans HB1.out (ext_trans (by repeat (first | exact Below.refl _ _ | apply Below.drew)) hb2); clear hb2; have hB2 := hB.ext HB2.out; obtain ⟨f0, f1, f2, f3, ff⟩ := hB2.cells))
        all_goals
          go_wp2_with fail
          obtain ⟨p1, p2⟩ := hB2.put q
          go_roundw
          case rel => exact ⟨k + 1, by omega, by go_num, (hA.ext HB2.out).other p2 (by omega), by rw [← HQ.out]; exact p1, below_put (hb.trans (HB2.out.mono (by omega))) (by have := HB2.out.size; omega) p2 (by omega)⟩
          case measure => simp [intOf]; omega
      · have hke : k = xs.length := by omega
        subst hke
        have HT : Hid (rA.su (xs.take xs.length) = rA.su xs) := by unfold Hid; rw [List.take_length]
        have hsz : w.heap.size + 1 < wr.heap.size := hB.lt
        generalize rA.su (xs.take xs.length) = s at *
        clear hc
        go_wp2_with fail
        exact bodyPost_ret (v := .agg #[.int .i64 s.l, .int .i64 s.s, .int .i64 s.f, .int .i64 s.z]) (by simp [results, Try.results13, go_sem, a0, a1, a2, a3]) rfl ⟨s, HT, rfl, below_put hb (by omega) (hA.put s).2 (Nat.le_refl _)⟩
set_option maxRecDepth 100000 in
set_option maxHeartbeats 1000000 in
theorem behind_any (s : Rs) (x : It) (w : World) (hok : s.Ok) (hs : s.l ≤ 4611686018427387904) :
    Calls Try.prog 39 #[.agg #[.int .i64 s.l, .int .i64 s.s, .int .i64 s.f, .int .i64 s.z], .agg #[.int .i64 x.1, .int .i64 x.2]] w fun e w' => ∃ q, Hid (q = Rs.add s (Rs.meas x)) ∧ e = .returned (.agg #[.int .i64 q.l, .int .i64 q.s, .int .i64 q.f, .int .i64 q.z]) ∧ Below w.heap.size w w' := by
  obtain ⟨a1, a2, a3, a4⟩ := s
  obtain ⟨k, n⟩ := x
  have hz : (a1 = 0 ∧ a2 = 0 ∧ a3 = 0 ∧ a4 = 0) ∨ (1 ≤ a2 ∧ a2 ≤ a1) := by
    rcases hok with h | h
    · left; cases h; exact ⟨rfl, rfl, rfl, rfl⟩
    · right; exact h
  clear hok
  simp only at *
  by_cases h0 : n ≤ 0
  · rcases hz with ⟨rfl, rfl, rfl, rfl⟩ | hz
    · have HE : Hid ((⟨0, 0, 0, 0⟩ : Rs) = Rs.add ⟨0, 0, 0, 0⟩ (Rs.meas (k, n))) := by simp [Hid, Rs.add, Rs.meas, h0, Rs.zero]
      go_enter Try.func39, Try.ntmps39
      go_wp2_with fail
      exact bodyPost_ret (v := .agg #[.int .i64 (⟨0, 0, 0, 0⟩ : Rs).l, .int .i64 (⟨0, 0, 0, 0⟩ : Rs).s, .int .i64 (⟨0, 0, 0, 0⟩ : Rs).f, .int .i64 (⟨0, 0, 0, 0⟩ : Rs).z]) (by simp [results, Try.results39, go_sem]) rfl ⟨_, HE, rfl, by repeat (first | exact Below.refl _ _ | refine ext_alloc ?_ _)⟩
    · have HE : Hid ((⟨a1, a2, a3, a4⟩ : Rs) = Rs.add ⟨a1, a2, a3, a4⟩ (Rs.meas (k, n))) := by simp [Hid, Rs.add, Rs.meas, h0, Rs.zero, show ¬ a2 = 0 by omega]
      go_enter Try.func39, Try.ntmps39
      go_wp2_with fail
      exact bodyPost_ret (v := .agg #[.int .i64 (⟨a1, a2, a3, a4⟩ : Rs).l, .int .i64 (⟨a1, a2, a3, a4⟩ : Rs).s, .int .i64 (⟨a1, a2, a3, a4⟩ : Rs).f, .int .i64 (⟨a1, a2, a3, a4⟩ : Rs).z]) (by simp [results, Try.results39, go_sem]) rfl ⟨_, HE, rfl, by repeat (first | exact Below.refl _ _ | refine ext_alloc ?_ _)⟩
  by_cases h1 : 1048576 < n
  · have hmn : min n 1048576 = 1048576 := by omega
    rcases hz with ⟨rfl, rfl, rfl, rfl⟩ | hz
    · have HE : Hid ((⟨1048576, 1, k, k⟩ : Rs) = Rs.add ⟨0, 0, 0, 0⟩ (Rs.meas (k, n))) := by simp only [Hid, Rs.add, Rs.meas]; rw [if_neg h0, hmn]; simp
      go_enter Try.func39, Try.ntmps39
      go_wp2_with fail
      exact bodyPost_ret (v := .agg #[.int .i64 (⟨1048576, 1, k, k⟩ : Rs).l, .int .i64 (⟨1048576, 1, k, k⟩ : Rs).s, .int .i64 (⟨1048576, 1, k, k⟩ : Rs).f, .int .i64 (⟨1048576, 1, k, k⟩ : Rs).z]) (by simp [results, Try.results39, go_sem]) rfl ⟨_, HE, rfl, by repeat (first | exact Below.refl _ _ | refine ext_alloc ?_ _)⟩
    · have n1 : ¬ a1 = 0 := by omega
      have n2 : ¬ a2 = 0 := by omega
      by_cases hk : k = a4
      · subst hk
        have HE : Hid ((⟨a1 + 1048576, a2, a3, k⟩ : Rs) = Rs.add ⟨a1, a2, a3, k⟩ (Rs.meas (k, n))) := by simp only [Hid, Rs.add, Rs.meas]; rw [if_neg h0, hmn]; simp [n2]
        go_enter Try.func39, Try.ntmps39
        go_wp2_with fail
        exact bodyPost_ret (v := .agg #[.int .i64 (⟨a1 + 1048576, a2, a3, k⟩ : Rs).l, .int .i64 (⟨a1 + 1048576, a2, a3, k⟩ : Rs).s, .int .i64 (⟨a1 + 1048576, a2, a3, k⟩ : Rs).f, .int .i64 (⟨a1 + 1048576, a2, a3, k⟩ : Rs).z]) (by simp [results, Try.results39, go_sem]) rfl ⟨_, HE, rfl, by repeat (first | exact Below.refl _ _ | refine ext_alloc ?_ _)⟩
      · have hk' : ¬ a4 = k := fun h => hk h.symm
        have HE : Hid ((⟨a1 + 1048576, a2 + 1, a3, k⟩ : Rs) = Rs.add ⟨a1, a2, a3, a4⟩ (Rs.meas (k, n))) := by simp only [Hid, Rs.add, Rs.meas]; rw [if_neg h0, hmn]; simp [n2, hk']
        go_enter Try.func39, Try.ntmps39
        go_wp2_with fail
        exact bodyPost_ret (v := .agg #[.int .i64 (⟨a1 + 1048576, a2 + 1, a3, k⟩ : Rs).l, .int .i64 (⟨a1 + 1048576, a2 + 1, a3, k⟩ : Rs).s, .int .i64 (⟨a1 + 1048576, a2 + 1, a3, k⟩ : Rs).f, .int .i64 (⟨a1 + 1048576, a2 + 1, a3, k⟩ : Rs).z]) (by simp [results, Try.results39, go_sem]) rfl ⟨_, HE, rfl, by repeat (first | exact Below.refl _ _ | refine ext_alloc ?_ _)⟩
  · have hmn : min n 1048576 = n := by omega
    rcases hz with ⟨rfl, rfl, rfl, rfl⟩ | hz
    · have HE : Hid ((⟨n, 1, k, k⟩ : Rs) = Rs.add ⟨0, 0, 0, 0⟩ (Rs.meas (k, n))) := by simp only [Hid, Rs.add, Rs.meas]; rw [if_neg h0, hmn]; simp
      go_enter Try.func39, Try.ntmps39
      go_wp2_with fail
      exact bodyPost_ret (v := .agg #[.int .i64 (⟨n, 1, k, k⟩ : Rs).l, .int .i64 (⟨n, 1, k, k⟩ : Rs).s, .int .i64 (⟨n, 1, k, k⟩ : Rs).f, .int .i64 (⟨n, 1, k, k⟩ : Rs).z]) (by simp [results, Try.results39, go_sem]) rfl ⟨_, HE, rfl, by repeat (first | exact Below.refl _ _ | refine ext_alloc ?_ _)⟩
    · have n1 : ¬ a1 = 0 := by omega
      have n2 : ¬ a2 = 0 := by omega
      by_cases hk : k = a4
      · subst hk
        have HE : Hid ((⟨a1 + n, a2, a3, k⟩ : Rs) = Rs.add ⟨a1, a2, a3, k⟩ (Rs.meas (k, n))) := by simp only [Hid, Rs.add, Rs.meas]; rw [if_neg h0, hmn]; simp [n2]
        go_enter Try.func39, Try.ntmps39
        go_wp2_with fail
        exact bodyPost_ret (v := .agg #[.int .i64 (⟨a1 + n, a2, a3, k⟩ : Rs).l, .int .i64 (⟨a1 + n, a2, a3, k⟩ : Rs).s, .int .i64 (⟨a1 + n, a2, a3, k⟩ : Rs).f, .int .i64 (⟨a1 + n, a2, a3, k⟩ : Rs).z]) (by simp [results, Try.results39, go_sem]) rfl ⟨_, HE, rfl, by repeat (first | exact Below.refl _ _ | refine ext_alloc ?_ _)⟩
      · have hk' : ¬ a4 = k := fun h => hk h.symm
        have HE : Hid ((⟨a1 + n, a2 + 1, a3, k⟩ : Rs) = Rs.add ⟨a1, a2, a3, a4⟩ (Rs.meas (k, n))) := by simp only [Hid, Rs.add, Rs.meas]; rw [if_neg h0, hmn]; simp [n2, hk']
        go_enter Try.func39, Try.ntmps39
        go_wp2_with fail
        exact bodyPost_ret (v := .agg #[.int .i64 (⟨a1 + n, a2 + 1, a3, k⟩ : Rs).l, .int .i64 (⟨a1 + n, a2 + 1, a3, k⟩ : Rs).s, .int .i64 (⟨a1 + n, a2 + 1, a3, k⟩ : Rs).f, .int .i64 (⟨a1 + n, a2 + 1, a3, k⟩ : Rs).z]) (by simp [results, Try.results39, go_sem]) rfl ⟨_, HE, rfl, by repeat (first | exact Below.refl _ _ | refine ext_alloc ?_ _)⟩

theorem rKey_any (a : Rs) (k : Int) (w : World) : Calls Try.prog 19 #[.agg #[.int .i64 a.l, .int .i64 a.s, .int .i64 a.f, .int .i64 a.z], .int .i64 k] w fun e w' => e = .returned (.int .i64 (Rs.key a k)) ∧ Below w.heap.size w w' := by
  obtain ⟨a1, a2, a3, a4⟩ := a
  by_cases e1 : k = 0
  · have HE : Hid (Rs.key ⟨a1, a2, a3, a4⟩ k = a1) := by simp [Hid, Rs.key, e1]
    go_enter Try.func19, Try.ntmps19
    go_wp2_with fail
    go_ret
    exact ⟨ret_int HE.out.symm, ext_alloc (Below.refl _ _) _⟩
  by_cases e2 : k = 1
  · have HE : Hid (Rs.key ⟨a1, a2, a3, a4⟩ k = a2) := by simp [Hid, Rs.key, e2]
    go_enter Try.func19, Try.ntmps19
    go_wp2_with fail
    go_ret
    exact ⟨ret_int HE.out.symm, ext_alloc (Below.refl _ _) _⟩
  · have HE : Hid (Rs.key ⟨a1, a2, a3, a4⟩ k = 0) := by simp [Hid, Rs.key, e1, e2]
    go_enter Try.func19, Try.ntmps19
    go_wp2_with fail
    go_ret
    exact ⟨ret_int HE.out.symm, ext_alloc (Below.refl _ _) _⟩
set_option maxRecDepth 100000 in
theorem sameRuns_any (a b : Rs) (w : World) (h : a = b) : Calls Try.prog 17 #[.agg #[.int .i64 a.l, .int .i64 a.s, .int .i64 a.f, .int .i64 a.z], .agg #[.int .i64 b.l, .int .i64 b.s, .int .i64 b.f, .int .i64 b.z]] w fun e w' => e = .returned (.bool true) ∧ Below w.heap.size w w' := by
  subst h
  obtain ⟨a1, a2, a3, a4⟩ := a
  go_enter Try.func17, Try.ntmps17
  go_wp2_with fail
  go_ret
  exact ⟨ret_bool (by simp), by repeat (first | exact Below.refl _ _ | refine ext_alloc ?_ _)⟩

end Go.Proofs.Ytcdamhgblolofaa
