/- The document's Joined. -/
import Derived.Test.YtmldfjhfgaggpaaGRefW
import Derived.Test.YtmldfjhfgaggpaaGBank
import Derived.Test.YtmldfjhfgaggpaaGApF
namespace Go.Proofs.Ytmldfjhfgaggpaa
open Go.RowKit

def jnd (x y : Rg) : Rg := if x.t = [] then y else if y.t = [] then x else ⟨max x.k y.k, ((x.t ++ (if x.k = 0 ∧ y.k = 1 then rlb y.t else [])) ++ y.t) ++ (if x.k = 1 ∧ y.k = 0 then rlb x.t else [])⟩
/-- Where what is joined lies: nowhere where what it was made of doesn't lie. -/
def OffJ (w : World) (v u : Value) (s t : List Int) (v' : Value) (x : List Int) : Prop := ∀ g, g < w.heap.size → (s ≠ [] → Off v g) → (t ≠ [] → Off u g) → x ≠ [] → Off v' g
theorem RdS.below {w : World} {v : Value} {t : List Int} (h : RdS w v t) {q : Nat} (hq : w.heap.size ≤ q) (hn : t ≠ []) : Off v q := by
  intro g off n c e
  obtain ⟨g', off', c', fv, fb, _⟩ := h.last hn
  rw [e] at fv
  cases fv
  omega
/-- Of kinds 0 and 1, where a text by lines ends with a break, it is what the code makes. -/
theorem jnd_apd (x y : Rg) (hx : x.t ≠ []) (hy : y.t ≠ []) (kx : x.k = 0 ∨ x.k = 1) (ky : y.k = 0 ∨ y.k = 1) (ex : x.k = 1 → ends x.t = true) (ey : y.k = 1 → ends y.t = true) : jnd x y = apd x y := by
  obtain ⟨k, s⟩ := x
  obtain ⟨j, t⟩ := y
  dsimp only at *
  unfold jnd apd rlb
  dsimp only
  rw [if_neg hx, if_neg hy]
  rcases kx with rfl | rfl <;> rcases ky with rfl | rfl
  · simp
  · simp [ey rfl]; rfl
  · simp [ex rfl]; rfl
  · simp
set_option maxRecDepth 100000 in
set_option maxHeartbeats 4000000 in
theorem r_joined_any (k j : Int) (v u : Value) (s t : List Int) (w : World) (hv : RdS w v s) (hu : RdS w u t) (hk : k = 0 ∨ k = 1) (hj : j = 0 ∨ j = 1) (hsl : (s.length + t.length + 4) * 8 ≤ 140739635838976) : Calls Try.prog 99 #[.agg #[.int .i64 k, v], .agg #[.int .i64 j, u]] w fun e w' => ∃ v', e = .returned (.agg #[.int .i64 (jnd ⟨k, s⟩ ⟨j, t⟩).k, v']) ∧ RdS w' v' (jnd ⟨k, s⟩ ⟨j, t⟩).t ∧ Below w.heap.size w w' ∧ OffJ w v u s t v' (jnd ⟨k, s⟩ ⟨j, t⟩).t := by
  obtain ⟨ao, c, rfl, _⟩ := hv.len
  obtain ⟨bo, d, rfl, _⟩ := hu.len
  obtain ⟨w1, hw1, k0, k1, k2, hb1, hlt1⟩ := three_new w #[.int .i64 k, .slice ao s.length c] #[.int .i64 j, .slice bo t.length d] #[.int .i64 0, .slice none 0 0] 94 94 94
  have HV := hidIt (hv.ext hb1)
  have HU := hidIt (hu.ext hb1)
  have HVO := hidIt (fun hn => hv.below (q := w.heap.size + 2) (by omega) hn)
  have HUO := hidIt (fun hn => hu.below (q := w.heap.size + 2) (by omega) hn)
  have HB1 := hidIt hb1
  obtain ⟨_, a0, a1, _⟩ := cells2 k0
  obtain ⟨_, b0, b1, _⟩ := cells2 k1
  have HZ : Hid (∀ w', Below w1.heap.size w1 w' → w'.heap[w.heap.size + 2]? = some (.cells #[.int .i64 0, .slice none 0 0] 94 (0, 0))) := fun w' hb => (hb.block _ hlt1).trans k2
  have HS : Hid (∀ w', Below w1.heap.size w1 w' → w'.cell? ⟨w.heap.size, 0, none⟩ = some (.int .i64 k) ∧ w'.cell? ⟨w.heap.size, 1, none⟩ = some (.slice ao s.length c) ∧ w'.cell? ⟨w.heap.size + 1, 0, none⟩ = some (.int .i64 j) ∧ w'.cell? ⟨w.heap.size + 1, 1, none⟩ = some (.slice bo t.length d)) := fun w' hb =>
    ⟨(hb.cell (p := ⟨w.heap.size, 0, none⟩) (Nat.lt_of_succ_lt (Nat.lt_of_succ_lt hlt1))).trans a0, (hb.cell (p := ⟨w.heap.size, 1, none⟩) (Nat.lt_of_succ_lt (Nat.lt_of_succ_lt hlt1))).trans a1, (hb.cell (p := ⟨w.heap.size + 1, 0, none⟩) (Nat.lt_of_succ_lt hlt1)).trans b0, (hb.cell (p := ⟨w.heap.size + 1, 1, none⟩) (Nat.lt_of_succ_lt hlt1)).trans b1⟩
  clear hv hu hb1 k0 k1 k2
  by_cases hs : s = []
  · have HC := hidIt (show jnd ⟨k, s⟩ ⟨j, t⟩ = ⟨j, t⟩ by unfold jnd; rw [if_pos hs])
    have hz : ((s.length : Int) == 0) = true := by simp [hs]
    obtain ⟨_, z0, z1, fz⟩ := cells2 (HZ.out w1 (Below.refl _ _))
    clear hs hk hj
    go_enter Try.func99, Try.ntmps99
    go_upto_region 1 with fail
    rw [← hw1]
    clear hw1
    go_wp2_with fail
    refine bodyPost_ret (v := .agg #[.int .i64 j, .slice bo t.length d]) (by simp [results, Try.results99, go_sem, z0, z1]) rfl ⟨_, by rw [HC.out], ?_, ?_, ?_⟩
    · rw [HC.out]
      exact RdS.other (HU.out) (put2 (HZ.out w1 (Below.refl _ _)) _ _).2 HUO.out
    · exact below_put (ext_trans HB1.out (Below.refl _ _)) (ext_trans HB1.out (Below.refl _ _)).size (put2 (HZ.out w1 (Below.refl _ _)) _ _).2 (by omega)
    · intro g _ h1 h2 hx
      rw [HC.out] at hx
      exact h2 hx
  have hz : ((s.length : Int) == 0) = false := by simp [hs]
  by_cases ht : t = []
  · have HC := hidIt (show jnd ⟨k, s⟩ ⟨j, t⟩ = ⟨k, s⟩ by unfold jnd; rw [if_neg hs, if_pos ht])
    have hz2 : ((t.length : Int) == 0) = true := by simp [ht]
    obtain ⟨_, z0, z1, fz⟩ := cells2 (HZ.out w1 (Below.refl _ _))
    clear ht hk hj
    go_enter Try.func99, Try.ntmps99
    go_upto_region 1 with fail
    rw [← hw1]
    clear hw1
    go_wp2_with fail
    refine bodyPost_ret (v := .agg #[.int .i64 k, .slice ao s.length c]) (by simp [results, Try.results99, go_sem, z0, z1]) rfl ⟨_, by rw [HC.out], ?_, ?_, ?_⟩
    · rw [HC.out]
      exact RdS.other (HV.out) (put2 (HZ.out w1 (Below.refl _ _)) _ _).2 HVO.out
    · exact below_put (ext_trans HB1.out (Below.refl _ _)) (ext_trans HB1.out (Below.refl _ _)).size (put2 (HZ.out w1 (Below.refl _ _)) _ _).2 (by omega)
    · intro g _ h1 h2 hx
      rw [HC.out] at hx
      exact h1 hx
  have hz2 : ((t.length : Int) == 0) = false := by simp [ht]
  have HRS := hidIt (show (rlb s).length ≤ 2 by unfold rlb; split; exact lbr_len s; simp)
  have HRT := hidIt (show (rlb t).length ≤ 2 by unfold rlb; split; exact lbr_len t; simp)
  rcases hk with rfl | rfl
  · rcases hj with rfl | rfl
    · skip
      have HC := hidIt (show jnd ⟨0, s⟩ ⟨0, t⟩ = ⟨0, (((s ++ ([])) ++ t) ++ ([]))⟩ by unfold jnd; rw [if_neg hs, if_neg ht]; rfl)
      clear hs ht
      go_enter Try.func99, Try.ntmps99
      go_upto_region 1 with fail
      rw [← hw1]
      clear hw1
      go_upto_region 6 with (at_builtin; refine wpl_intsF rfl _ _ 29 rfl w1.heap.size Try.info_i64 Try.underlying29 _ ([]) rfl (OwnI.nil _ _) _ (s) rfl (HV.out) (by have := HRS.out; have := HRT.out; simp; omega) (Nat.le_refl _) ?_; intro v2 w2 own2 hb2; obtain ⟨a2, n2, c2, e2⟩ := own2.form; subst e2; have O2 := hidIt own2; have B2 := hidIt ((Below.refl w1.heap.size w1).trans hb2); clear own2 hb2)
      clear a0 a1 b0 b1
      obtain ⟨a0, a1, b0, b1⟩ := HS.out w2 B2.out
      go_upto_region 9 with (at_builtin; refine wpl_intsF rfl _ _ 29 rfl w1.heap.size Try.info_i64 Try.underlying29 _ ([] ++ s) rfl (O2.out) _ (t) rfl (HU.out.ext B2.out) (by have := HRS.out; have := HRT.out; simp; omega) ((B2.out).size) ?_; intro v5 w5 own5 hb5; obtain ⟨a5, n5, c5, e5⟩ := own5.form; subst e5; have O5 := hidIt own5; have B5 := hidIt ((B2.out).trans hb5); clear own5 hb5)
      clear a0 a1 b0 b1
      obtain ⟨a0, a1, b0, b1⟩ := HS.out w5 B5.out
      obtain ⟨_, z0, z1, fz⟩ := cells2 (HZ.out w5 B5.out)
      go_wp2_with fail
      refine bodyPost_ret (v := .agg #[.int .i64 0, .slice a5 n5 c5]) (by simp [results, Try.results99, go_sem, z0, z1]) rfl ⟨_, by rw [HC.out], ?_, ?_, ?_⟩
      · rw [HC.out]
        have q := (O5.out.other (put2 (HZ.out w5 B5.out) (.int .i64 0) (.slice a5 n5 c5)).2 (by omega)).rds
        simpa using q
      · exact below_put (ext_trans HB1.out B5.out) (ext_trans HB1.out B5.out).size (put2 (HZ.out w5 B5.out) _ _).2 (by omega)
      · intro g hg _ _ _
        exact O5.out.off (by have := HB1.out.size; omega)
    · skip
      have HC := hidIt (show jnd ⟨0, s⟩ ⟨1, t⟩ = ⟨1, (((s ++ (rlb t)) ++ t) ++ ([]))⟩ by unfold jnd; rw [if_neg hs, if_neg ht]; rfl)
      clear hs ht
      go_enter Try.func99, Try.ntmps99
      go_upto_region 1 with fail
      rw [← hw1]
      clear hw1
      go_upto_region 6 with (at_builtin; refine wpl_intsF rfl _ _ 29 rfl w1.heap.size Try.info_i64 Try.underlying29 _ ([]) rfl (OwnI.nil _ _) _ (s) rfl (HV.out) (by have := HRS.out; have := HRT.out; simp; omega) (Nat.le_refl _) ?_; intro v2 w2 own2 hb2; obtain ⟨a2, n2, c2, e2⟩ := own2.form; subst e2; have O2 := hidIt own2; have B2 := hidIt ((Below.refl w1.heap.size w1).trans hb2); clear own2 hb2)
      clear a0 a1 b0 b1
      obtain ⟨a0, a1, b0, b1⟩ := HS.out w2 B2.out
      go_upto_region 8 with (first | (go_at_call 98; refine (r_lastBreak_any _ (t) w2 (HU.out.ext B2.out)).mono ?_; rintro e w3 ⟨v3, rfl, hr3, hb3⟩; obtain ⟨ra3, rc3, re3, _⟩ := hr3.len; subst re3; have R3 := hidIt hr3; have B3 := hidIt (ext_trans (B2.out) hb3); have hbb3 := hb3; clear hb3 hr3; have R3B := hidIt (show Below w2.heap.size w2 w3 from hbb3); (try dsimp only)) | (at_builtin; refine wpl_intsF rfl _ _ 29 rfl w1.heap.size Try.info_i64 Try.underlying29 _ ([] ++ s) rfl (O2.out.ext (R3B.out)) _ (rlb t) rfl (R3.out) (by have := HRS.out; have := HRT.out; simp; omega) ((B3.out).size) ?_; intro v4 w4 own4 hb4; obtain ⟨a4, n4, c4, e4⟩ := own4.form; subst e4; have O4 := hidIt own4; have B4 := hidIt ((B3.out).trans hb4); clear own4 hb4))
      clear a0 a1 b0 b1
      obtain ⟨a0, a1, b0, b1⟩ := HS.out w4 B4.out
      go_upto_region 9 with (at_builtin; refine wpl_intsF rfl _ _ 29 rfl w1.heap.size Try.info_i64 Try.underlying29 _ ([] ++ s ++ rlb t) rfl (O4.out) _ (t) rfl (HU.out.ext B4.out) (by have := HRS.out; have := HRT.out; simp; omega) ((B4.out).size) ?_; intro v5 w5 own5 hb5; obtain ⟨a5, n5, c5, e5⟩ := own5.form; subst e5; have O5 := hidIt own5; have B5 := hidIt ((B4.out).trans hb5); clear own5 hb5)
      clear a0 a1 b0 b1
      obtain ⟨a0, a1, b0, b1⟩ := HS.out w5 B5.out
      obtain ⟨_, z0, z1, fz⟩ := cells2 (HZ.out w5 B5.out)
      go_wp2_with fail
      simp only [show max (0 : Int) 1 = 1 from rfl]
      refine bodyPost_ret (v := .agg #[.int .i64 1, .slice a5 n5 c5]) (by simp [results, Try.results99, go_sem, z0, z1]) rfl ⟨_, by rw [HC.out], ?_, ?_, ?_⟩
      · rw [HC.out]
        have q := (O5.out.other (put2 (HZ.out w5 B5.out) (.int .i64 1) (.slice a5 n5 c5)).2 (by omega)).rds
        simpa using q
      · exact below_put (ext_trans HB1.out B5.out) (ext_trans HB1.out B5.out).size (put2 (HZ.out w5 B5.out) _ _).2 (by omega)
      · intro g hg _ _ _
        exact O5.out.off (by have := HB1.out.size; omega)
  · rcases hj with rfl | rfl
    · skip
      have HC := hidIt (show jnd ⟨1, s⟩ ⟨0, t⟩ = ⟨1, (((s ++ ([])) ++ t) ++ (rlb s))⟩ by unfold jnd; rw [if_neg hs, if_neg ht]; rfl)
      clear hs ht
      go_enter Try.func99, Try.ntmps99
      go_upto_region 1 with fail
      rw [← hw1]
      clear hw1
      go_upto_region 6 with (at_builtin; refine wpl_intsF rfl _ _ 29 rfl w1.heap.size Try.info_i64 Try.underlying29 _ ([]) rfl (OwnI.nil _ _) _ (s) rfl (HV.out) (by have := HRS.out; have := HRT.out; simp; omega) (Nat.le_refl _) ?_; intro v2 w2 own2 hb2; obtain ⟨a2, n2, c2, e2⟩ := own2.form; subst e2; have O2 := hidIt own2; have B2 := hidIt ((Below.refl w1.heap.size w1).trans hb2); clear own2 hb2)
      clear a0 a1 b0 b1
      obtain ⟨a0, a1, b0, b1⟩ := HS.out w2 B2.out
      go_upto_region 9 with (at_builtin; refine wpl_intsF rfl _ _ 29 rfl w1.heap.size Try.info_i64 Try.underlying29 _ ([] ++ s) rfl (O2.out) _ (t) rfl (HU.out.ext B2.out) (by have := HRS.out; have := HRT.out; simp; omega) ((B2.out).size) ?_; intro v5 w5 own5 hb5; obtain ⟨a5, n5, c5, e5⟩ := own5.form; subst e5; have O5 := hidIt own5; have B5 := hidIt ((B2.out).trans hb5); clear own5 hb5)
      clear a0 a1 b0 b1
      obtain ⟨a0, a1, b0, b1⟩ := HS.out w5 B5.out
      go_upto_region 11 with (first | (go_at_call 98; refine (r_lastBreak_any _ (s) w5 (HV.out.ext B5.out)).mono ?_; rintro e w6 ⟨v6, rfl, hr6, hb6⟩; obtain ⟨ra6, rc6, re6, _⟩ := hr6.len; subst re6; have R6 := hidIt hr6; have B6 := hidIt (ext_trans (B5.out) hb6); have hbb6 := hb6; clear hb6 hr6; have R6B := hidIt (show Below w5.heap.size w5 w6 from hbb6); (try dsimp only)) | (at_builtin; refine wpl_intsF rfl _ _ 29 rfl w1.heap.size Try.info_i64 Try.underlying29 _ ([] ++ s ++ t) rfl (O5.out.ext (R6B.out)) _ (rlb s) rfl (R6.out) (by have := HRS.out; have := HRT.out; simp; omega) ((B6.out).size) ?_; intro v7 w7 own7 hb7; obtain ⟨a7, n7, c7, e7⟩ := own7.form; subst e7; have O7 := hidIt own7; have B7 := hidIt ((B6.out).trans hb7); clear own7 hb7))
      clear a0 a1 b0 b1
      obtain ⟨a0, a1, b0, b1⟩ := HS.out w7 B7.out
      obtain ⟨_, z0, z1, fz⟩ := cells2 (HZ.out w7 B7.out)
      go_wp2_with fail
      simp only [show max (1 : Int) 0 = 1 from rfl]
      refine bodyPost_ret (v := .agg #[.int .i64 1, .slice a7 n7 c7]) (by simp [results, Try.results99, go_sem, z0, z1]) rfl ⟨_, by rw [HC.out], ?_, ?_, ?_⟩
      · rw [HC.out]
        have q := (O7.out.other (put2 (HZ.out w7 B7.out) (.int .i64 1) (.slice a7 n7 c7)).2 (by omega)).rds
        simpa using q
      · exact below_put (ext_trans HB1.out B7.out) (ext_trans HB1.out B7.out).size (put2 (HZ.out w7 B7.out) _ _).2 (by omega)
      · intro g hg _ _ _
        exact O7.out.off (by have := HB1.out.size; omega)
    · skip
      have HC := hidIt (show jnd ⟨1, s⟩ ⟨1, t⟩ = ⟨1, (((s ++ ([])) ++ t) ++ ([]))⟩ by unfold jnd; rw [if_neg hs, if_neg ht]; rfl)
      clear hs ht
      go_enter Try.func99, Try.ntmps99
      go_upto_region 1 with fail
      rw [← hw1]
      clear hw1
      go_upto_region 6 with (at_builtin; refine wpl_intsF rfl _ _ 29 rfl w1.heap.size Try.info_i64 Try.underlying29 _ ([]) rfl (OwnI.nil _ _) _ (s) rfl (HV.out) (by have := HRS.out; have := HRT.out; simp; omega) (Nat.le_refl _) ?_; intro v2 w2 own2 hb2; obtain ⟨a2, n2, c2, e2⟩ := own2.form; subst e2; have O2 := hidIt own2; have B2 := hidIt ((Below.refl w1.heap.size w1).trans hb2); clear own2 hb2)
      clear a0 a1 b0 b1
      obtain ⟨a0, a1, b0, b1⟩ := HS.out w2 B2.out
      go_upto_region 9 with (at_builtin; refine wpl_intsF rfl _ _ 29 rfl w1.heap.size Try.info_i64 Try.underlying29 _ ([] ++ s) rfl (O2.out) _ (t) rfl (HU.out.ext B2.out) (by have := HRS.out; have := HRT.out; simp; omega) ((B2.out).size) ?_; intro v5 w5 own5 hb5; obtain ⟨a5, n5, c5, e5⟩ := own5.form; subst e5; have O5 := hidIt own5; have B5 := hidIt ((B2.out).trans hb5); clear own5 hb5)
      clear a0 a1 b0 b1
      obtain ⟨a0, a1, b0, b1⟩ := HS.out w5 B5.out
      obtain ⟨_, z0, z1, fz⟩ := cells2 (HZ.out w5 B5.out)
      go_wp2_with fail
      refine bodyPost_ret (v := .agg #[.int .i64 1, .slice a5 n5 c5]) (by simp [results, Try.results99, go_sem, z0, z1]) rfl ⟨_, by rw [HC.out], ?_, ?_, ?_⟩
      · rw [HC.out]
        have q := (O5.out.other (put2 (HZ.out w5 B5.out) (.int .i64 1) (.slice a5 n5 c5)).2 (by omega)).rds
        simpa using q
      · exact below_put (ext_trans HB1.out B5.out) (ext_trans HB1.out B5.out).size (put2 (HZ.out w5 B5.out) _ _).2 (by omega)
      · intro g hg _ _ _
        exact O5.out.off (by have := HB1.out.size; omega)
end Go.Proofs.Ytmldfjhfgaggpaa
