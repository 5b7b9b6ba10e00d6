/- register's take, New. -/
import Derived.Test.YtmldfjhfgaggpaaGTake
namespace Go.Proofs.Ytmldfjhfgaggpaa
open Go.RowKit
variable {F : Nat → Prop}

theorem takeB_skip {s : Bs} {n : Int} {r : Rg} (h : (n == 95 || nil? r) = true) : takeB s n r = (0, s) := by unfold takeB; rw [if_pos h]
theorem takeB_none {s : Bs} {n : Int} {r : Rg} (h : (n == 95 || nil? r) = false) (hw : wrtn s.m n r = none) : takeB s n r = (3, s) := by unfold takeB writeB; rw [if_neg (by simp [h]), hw]; rfl
theorem takeB_some {s : Bs} {n : Int} {r x : Rg} (h : (n == 95 || nil? r) = false) (hw : wrtn s.m n r = some x) : takeB s n r = (0, ⟨upd s.m (sml n) (some x), sml n⟩) := by unfold takeB writeB; rw [if_neg (by simp [h]), hw]; rfl
theorem writeB_none {s : Bs} {n : Int} {r : Rg} (hw : wrtn s.m n r = none) : writeB s n r = (3, s) := by unfold writeB; rw [hw]; rfl
theorem writeB_some {s : Bs} {n : Int} {r x : Rg} (hw : wrtn s.m n r = some x) : writeB s n r = (0, ⟨upd s.m (sml n) (some x), s.p⟩) := by unfold writeB; rw [hw]; rfl
theorem not_nil {r : Rg} (h : nil? r = false) (hk : r.k = 0 ∨ r.k = 1) : r.t ≠ [] ∨ r.k = 1 := by
  rcases hk with hk | hk
  · left
    intro e
    unfold nil? at h
    rw [hk, e] at h
    exact absurd h (by decide)
  · exact .inr hk

set_option maxRecDepth 100000 in
set_option maxHeartbeats 4000000 in
theorem take_any (w : World) (b bm N : Nat) (s : Bs) (n : Int) (r : Rg) (v : Value) (hB : Bk F w b bm N s.m s.p) (hv : RdS w v r.t) (hn : In64 n) (hk : r.k = 0 ∨ r.k = 1) (hN : N < 9223372036854775807) :
    Calls Try.prog 34 #[.pointer (some ⟨b, 0, none⟩), .int .i64 n, .agg #[.int .i64 r.k, v]] w (OpR F w b bm (N + 1) (takeB s n r)) := by
  obtain ⟨ao, c, rfl, _⟩ := hv.len
  obtain ⟨w1, hw1, k0, hb1⟩ : ∃ w1, w1 = w.alloc (.cells #[.int .i64 r.k, .slice ao r.t.length c] 31) ∧ w1.heap[w.heap.size]? = some (.cells #[.int .i64 r.k, .slice ao r.t.length c] 31 (0, 0)) ∧ Below w.heap.size w w1 := ⟨_, rfl, heap_alloc_new _ _, ext_alloc (Below.refl _ _) _⟩
  have HB1 := hidIt hb1
  have HBK := hidIt (hB.ext hb1)
  have HK0 := hidIt k0
  have IN := hidIt (isNothing_any r.k _ r.t w1 (hv.ext hb1))
  have HI := hidIt (sml_in hn)
  have SMA : Hid (∀ y, Calls Try.prog 42 #[.int .i64 n] y fun e w' => e = .returned (.int .i64 (sml n)) ∧ y = w') := fun y => small_any n y
  obtain ⟨_, c0, c1, _⟩ := cells2 k0
  by_cases h95 : n = 95
  · have hb95 : (n == 95) = true := by simp [h95]
    have HT := hidIt (takeB_skip (s := s) (r := r) (show (n == 95 || nil? r) = true by simp [hb95]))
    clear hB hv hk k0 hb1 h95 hn
    go_enter Try.func34, Try.ntmps34
    go_upto_region 1 with fail
    rw [← hw1]
    clear hw1
    go_wp2_with fail
    go_ret
    exact ⟨by rw [HT.out]; rfl, by rw [HT.out]; exact HBK.out.mono (by omega), Kb.of HB1.out⟩
  have hb95 : (n == 95) = false := by simp [h95]
  clear h95
  cases hnil : nil? r
  case true =>
    have HT := hidIt (takeB_skip (s := s) (n := n) (r := r) (show (n == 95 || nil? r) = true by simp [hnil]))
    have IN2 : Hid (Calls Try.prog 39 #[.agg #[.int .i64 r.k, .slice ao r.t.length c]] w1 fun e w' => e = .returned (.bool true) ∧ Below w1.heap.size w1 w') := by
      have h := IN.out
      rw [show (r.k == 0 && (r.t.length : Int) == 0) = true from hnil] at h
      exact h
    clear hB hv hk k0 hb1 hn IN
    go_enter Try.func34, Try.ntmps34
    go_upto_region 1 with fail
    rw [← hw1]
    clear hw1
    go_wp2_with (go_at_call 39; refine IN2.out.mono ?_; rintro e w2 ⟨rfl, hb2⟩; have HB2 := hidIt hb2; clear hb2; (try dsimp only))
    go_ret
    exact ⟨by rw [HT.out]; rfl, by rw [HT.out]; exact (HBK.out.ext HB2.out).mono (by omega), Kb.of (ext_trans HB1.out HB2.out)⟩
  have IN2 : Hid (Calls Try.prog 39 #[.agg #[.int .i64 r.k, .slice ao r.t.length c]] w1 fun e w' => e = .returned (.bool false) ∧ Below w1.heap.size w1 w') := by
    have h := IN.out
    rw [show (r.k == 0 && (r.t.length : Int) == 0) = false from hnil] at h
    exact h
  have WR : Hid (∀ w2, Below w1.heap.size w1 w2 → Calls Try.prog 40 #[.pointer (some ⟨b, 0, none⟩), .int .i64 n, .agg #[.int .i64 r.k, .slice ao r.t.length c]] w2 (OpR F w2 b bm (N + 1) (writeB s n r))) := fun w2 hb => write_any w2 b bm N s n r _ (HBK.out.ext hb) ((hv.ext hb1).ext hb) hn (not_nil hnil hk) hk hN
  have HC : Hid (∀ w2, Below w1.heap.size w1 w2 → w2.cell? ⟨w.heap.size, 0, none⟩ = some (.int .i64 r.k) ∧ w2.cell? ⟨w.heap.size, 1, none⟩ = some (.slice ao r.t.length c)) := fun w2 hb => by
    have e := (hb.block _ (Array.getElem?_eq_some_iff.1 HK0.out).1).trans HK0.out
    exact ⟨(cells2 e).2.1, (cells2 e).2.2.1⟩
  have hcond : (n == 95 || nil? r) = false := by simp [hb95, hnil]
  cases hw : wrtn s.m n r with
  | none =>
    have HT := hidIt (takeB_none hcond hw)
    rw [writeB_none hw] at WR
    clear hB hv hk k0 hb1 hn IN hcond hnil hw
    go_enter Try.func34, Try.ntmps34
    go_upto_region 1 with fail
    rw [← hw1]
    clear hw1
    go_wp2_with (first | (go_at_call 39; refine IN2.out.mono ?_; rintro e w2 ⟨rfl, hb2⟩; have HB2 := hidIt hb2; clear hb2; clear c0 c1; obtain ⟨c0, c1⟩ := HC.out w2 HB2.out; (try dsimp only)) | (go_at_call 40; refine (WR.out _ HB2.out).mono ?_; rintro e w3 ⟨rfl, hbk, hkb⟩; have HB3 := hidIt hbk; have HK3 := hidIt hkb; clear hbk hkb; (try dsimp only)))
    go_ret
    exact ⟨by rw [HT.out]; rfl, by rw [HT.out]; exact HB3.out, (Kb.of (ext_trans HB1.out HB2.out)).trans HK3.out⟩
  | some x =>
    have HT := hidIt (takeB_some hcond hw)
    rw [writeB_some hw] at WR
    clear hB hv hk k0 hb1 hn IN hcond hnil hw
    go_enter Try.func34, Try.ntmps34
    go_upto_region 1 with fail
    rw [← hw1]
    clear hw1
    go_wp2_with (first | (go_at_call 39; refine IN2.out.mono ?_; rintro e w2 ⟨rfl, hb2⟩; have HB2 := hidIt hb2; clear hb2; clear c0 c1; obtain ⟨c0, c1⟩ := HC.out w2 HB2.out; (try dsimp only)) | (go_at_call 40; refine (WR.out _ HB2.out).mono ?_; rintro e w3 ⟨rfl, hbk, hkb⟩; have HB3 := hidIt hbk; have HK3 := hidIt hkb; clear c0 c1; obtain ⟨c0, c1, cf⟩ := hbk.cells; clear hbk hkb; (try dsimp only)) | (go_at_call 42; refine (SMA.out _).mono ?_; rintro e y9 ⟨rfl, rfl⟩; (try dsimp only)))
    go_ret
    have hp := HB3.out.point HI.out
    exact ⟨by rw [HT.out]; rfl, by rw [HT.out]; exact hp.1, ((Kb.of (ext_trans HB1.out HB2.out)).trans HK3.out).trans (Kb.of_b hp.2)⟩

set_option maxRecDepth 100000 in
theorem New_any (w : World) : Calls Try.prog 31 #[] w fun e w' => ∃ b bm, e = .returned (.pointer (some ⟨b, 0, none⟩)) ∧ Bk (F1 b) w' b bm 0 (fun _ => none) 0 ∧ w.heap.size ≤ b ∧ w.heap.size ≤ bm ∧ Below w.heap.size w w' := by
  have hmm := @run_makeMap Try.prog
  go_enter Try.func31, Try.ntmps31
  go_wp2_with fail
  go_ret
  refine ⟨w.heap.size + 1, w.heap.size, by simp, ⟨?_, In64.of (by omega) (by omega), ⟨rfl, fun q hq => by rw [hq]; simp⟩, .map [], ?_, fun k _ => rfl⟩, by omega, Nat.le_refl _, ext_alloc (ext_alloc (Below.refl _ _) _) _⟩
  · have := heap_alloc_new (w.alloc (.map #[] 0)) (.cells #[.map (some w.heap.size), .int .i64 0] 70)
    simpa using this
  · exact (World.ownsMap_made w Try.prog 3 heldR).alloc _
end Go.Proofs.Ytmldfjhfgaggpaa
