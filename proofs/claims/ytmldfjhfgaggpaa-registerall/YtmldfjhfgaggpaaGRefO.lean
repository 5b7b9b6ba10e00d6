/- The document's own. -/
import Derived.Test.YtmldfjhfgaggpaaGRefB
import Derived.Test.YtmldfjhfgaggpaaGRefP
import Derived.Test.YtmldfjhfgaggpaaGRefN
namespace Go.Proofs.Ytmldfjhfgaggpaa
open Go.RowKit
variable {F : Nat → Prop}

/-- What own answers: the register, what it would hold, and where that doesn't lie. -/
def OwR (F : Nat → Prop) (w : World) (n : Int) (x : Rg) (e : Ending) (w' : World) : Prop := ∃ v, e = .returned (.tuple #[.int .i64 n, .agg #[.int .i64 x.k, v]]) ∧ RdS w' v x.t ∧ (x.t ≠ [] → ∀ g, F g → Off v g) ∧ Below w.heap.size w w'
theorem ow_held {F : Nat → Prop} {w : World} {k : Int} {u : Value} {m : Int → Option Rg} {n : Int} (h : Hld F w k u (m (sml n))) (hg : grB n = true) (y : Rg) : (k = 0 ∨ k = 1) ∧ ∃ t, RdS w u t ∧ (t ≠ [] → ∀ q, F q → Off u q) ∧ t.length ≤ 140000 ∧ ow m n y = jnd ⟨k, t⟩ y := by
  obtain ⟨h0, t, h1, h2, h3, h4⟩ := h
  refine ⟨h0, t, h1, h2, h3, ?_⟩
  unfold ow
  rw [if_pos hg]
  cases hm : m (sml n) with
  | none =>
    rw [hm] at h4
    subst h4
    unfold jnd
    simp
  | some o =>
    rw [hm] at h4
    obtain ⟨rfl, rfl⟩ := h4
    rfl
set_option maxRecDepth 100000 in
set_option maxHeartbeats 4000000 in
theorem r_own_any (w : World) (q : Nat) (s : Bs) (n j : Int) (u : Value) (y : List Int) (hR : Rb F w q s) (hn : 0 ≤ n ∧ n < 128) (hu : RdS w u y) (ho : y ≠ [] → ∀ g, F g → Off u g) (hj : j = 0 ∨ j = 1) (hy : y.length * 8 ≤ 140737488355240) :
    Calls Try.prog 86 #[.pointer (some ⟨q, 0, none⟩), .int .i64 n, .agg #[.int .i64 j, u]] w (OwR F w (sml n) (ow s.m n ⟨j, y⟩)) := by
  obtain ⟨ao, c, rfl, _⟩ := hu.len
  obtain ⟨w1, hw1, k0, k1, hb1, hlt1⟩ := two_new w #[.int .i64 j, .slice ao y.length c] #[.int .i64 0, .slice none 0 0] 94 94
  obtain ⟨_, c0, c1, _⟩ := cells2 k0
  obtain ⟨_, d0, d1, fz⟩ := cells2 k1
  have GR := hidIt (r_great_any n w1)
  have HU := hidIt (hu.ext hb1)
  have HB1 := hidIt hb1
  have HZ := hidIt k1
  have HUO := hidIt (fun hn => hu.below (q := w.heap.size + 1) (by omega) hn)
  have HO := hidIt ho
  cases hg : grB n
  · have HW := hidIt (show ow s.m n ⟨j, y⟩ = ⟨j, y⟩ by unfold ow; rw [hg]; rfl)
    have HN := hidIt (show sml n = n by unfold sml; rw [hg]; rfl)
    rw [hg] at GR
    clear hR hn hj hy hu ho hb1 k0 k1 hlt1
    go_enter Try.func86, Try.ntmps86
    go_upto_region 1 with fail
    rw [← hw1]
    clear hw1
    go_upto_region 4 with (go_at_call 68; refine GR.out.mono ?_; rintro e y8 ⟨rfl, rfl⟩; (try dsimp only))
    go_region
    go_wp2_with fail
    refine bodyPost_ret (v := .tuple #[.int .i64 n, .agg #[.int .i64 j, .slice ao y.length c]]) (by simp [results, Try.results86, go_sem, d0, d1]) rfl ⟨_, by rw [HW.out, HN.out], ?_, ?_, ?_⟩
    · rw [HW.out]
      exact (RdS.other HU.out (put2 HZ.out _ _).2 HUO.out).ext (Below.refl _ _).drew
    · rw [HW.out]
      exact HO.out
    · exact (below_put HB1.out HB1.out.size (put2 HZ.out _ _).2 (by omega)).drew
  · have hg' : 65 ≤ n ∧ n ≤ 90 := by unfold grB at hg; simpa using hg
    obtain ⟨a, ha⟩ : ∃ a : Nat, (a : Int) = n + 32 := ⟨(n + 32).toNat, by omega⟩
    have HN := hidIt (show sml n = (a : Int) by unfold sml; rw [hg]; simpa using ha.symm)
    obtain ⟨k, v, r0', r1', hh⟩ := hR.at a (by omega)
    have r0 := (hb1.cell (p := ⟨q, a * 2, none⟩) hR.lt).trans r0'
    have r1 := (hb1.cell (p := ⟨q, a * 2 + 1, none⟩) hR.lt).trans r1'
    clear r0' r1'
    rw [← HN.out] at hh
    obtain ⟨hk, t, ht, hto, htl, how⟩ := ow_held hh hg ⟨j, y⟩
    obtain ⟨bo, d, rfl, _⟩ := ht.len
    have hwr : IntKind.i64.wrap (n + 32) = (a : Int) := by rw [IntKind.wrap_i64]; omega
    have hal : (a : Int) < 128 := by omega
    rw [hg] at GR
    have JN := hidIt (fun w' (hb : Below w1.heap.size w1 w') => r_joined_any k j _ _ t y w' ((ht.ext hb1).ext hb) (HU.out.ext hb) hk hj (by omega))
    have HOW := hidIt how
    have HTO := hidIt hto
    have HTB := hidIt (fun hn => ht.below (q := w.heap.size + 1) (by omega) hn)
    have HFL := hidIt hR.fl
    have HZ2 : Hid (∀ w', Below w1.heap.size w1 w' → w'.heap[w.heap.size + 1]? = some (.cells #[.int .i64 0, .slice none 0 0] 94 (0, 0))) := fun w' hb => (hb.block _ hlt1).trans k1
    have HLT := hidIt hlt1
    clear hR hn hj hy hu ho hb1 k0 k1 hlt1 ha hg' hh ht hto htl hk how
    go_enter Try.func86, Try.ntmps86
    go_upto_region 1 with fail
    rw [← hw1]
    clear hw1
    go_upto_region 3 with (go_at_call 68; refine GR.out.mono ?_; rintro e y8 ⟨rfl, rfl⟩; (try dsimp only))
    go_region_with (go_at_call 99; refine (JN.out _ (Below.refl _ _).drew).mono ?_; rintro e w2 ⟨v2, rfl, hr2, hb2, ho2⟩; obtain ⟨ra2, rc2, re2, _⟩ := hr2.len; subst re2; have R2 := hidIt hr2; have B2 := hidIt (ext_trans (Below.refl _ _).drew hb2); have O2 := hidIt ho2; clear hr2 hb2 ho2 d0 d1 fz c0 c1 r0 r1; obtain ⟨_, d0, d1, fz⟩ := cells2 (HZ2.out w2 B2.out); (try dsimp only))
    all_goals
      go_wp2_with fail
      refine bodyPost_ret (v := .tuple #[.int .i64 a, .agg #[.int .i64 (jnd ⟨k, t⟩ ⟨j, y⟩).k, .slice ra2 (jnd ⟨k, t⟩ ⟨j, y⟩).t.length rc2]]) (by simp [results, Try.results86, go_sem, d0, d1]) rfl ⟨_, by rw [HOW.out, HN.out], ?_, ?_, ?_⟩
      · rw [HOW.out]
        exact RdS.other R2.out (put2 (HZ2.out w2 B2.out) _ _).2 (fun hx => O2.out _ HLT.out HTB.out HUO.out hx)
      · rw [HOW.out]
        exact fun hx g hg => O2.out g (Nat.lt_of_lt_of_le (HFL.out g hg) HB1.out.size) (fun h => HTO.out h g hg) (fun h => HO.out h g hg) hx
      · exact below_put (ext_trans HB1.out B2.out) (ext_trans HB1.out B2.out).size (put2 (HZ2.out w2 B2.out) _ _).2 (by omega)
end Go.Proofs.Ytmldfjhfgaggpaa
