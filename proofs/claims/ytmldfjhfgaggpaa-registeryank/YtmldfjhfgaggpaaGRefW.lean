/- The document's LastBreak, Written. -/
import Derived.Test.YtmldfjhfgaggpaaGLaw1
namespace Go.Proofs.Ytmldfjhfgaggpaa
open Go.RowKit

/-- The document's last break: none, if the text doesn't end with one. -/
def rlb (t : List Int) : List Int := if ends t = true then lbr t else []
theorem drop_one (t : List Int) (h : t ≠ []) : t.drop (t.length - 1) = [t[t.length - 1]?.getD 0] := by
  have hp := List.length_pos_iff.2 h
  rw [List.drop_eq_getElem_cons (by omega), List.drop_eq_nil_of_le (by omega)]
  simp [show t.length - 1 < t.length by omega]
theorem drop_two (t : List Int) (h : 1 < t.length) : t.drop (t.length - 2) = [t[t.length - 2]?.getD 0, t[t.length - 1]?.getD 0] := by
  rw [List.drop_eq_getElem_cons (by omega), show t.length - 2 + 1 = t.length - 1 by omega, drop_one t (by intro e; rw [e] at h; simp at h)]
  simp [show t.length - 2 < t.length by omega]
set_option maxRecDepth 100000 in
set_option maxHeartbeats 2000000 in
theorem r_lastBreak_any (v : Value) (t : List Int) (w : World) (h : RdS w v t) : Calls Try.prog 98 #[v] w fun e w' => ∃ v', e = .returned v' ∧ RdS w' v' (rlb t) ∧ Below w.heap.size w w' := by
  by_cases hn : t = []
  · subst hn
    obtain ⟨ao, c, rfl, _⟩ := h.len
    simp only [List.length_nil]
    go_enter Try.func98, Try.ntmps98
    go_wp2_with fail
    go_ret
    exact ⟨_, rfl, rds_nil _, Below.refl _ _⟩
  obtain ⟨b, off, c, rfl, hbl, hcap, h63, hcell⟩ := h.last hn
  have hpos := List.length_pos_iff.2 hn
  have he := ends_at t hn
  have hd1 := drop_one t hn
  obtain ⟨p, hp⟩ : ∃ p, p = t.length - 1 := ⟨_, rfl⟩
  have hx : w.cell? ⟨b, off + p, none⟩ = some (.int .i64 (t[p]?.getD 0)) := hcell p (by omega)
  have hwr : IntKind.i64.wrap ((t.length : Int) - 1) = (p : Int) := by rw [IntKind.wrap_i64]; omega
  have hpl : (p : Int) < (t.length : Int) := by omega
  have hp0 : (t.length : Int) > 0 := by omega
  have HN := hidIt (show brB (t[p]?.getD 0) = false → rlb t = [] from fun e => by unfold rlb; rw [he, ← hp, e]; rfl)
  by_cases h1 : (t.length : Int) > 1
  · have hd2 := drop_two t (by omega)
    obtain ⟨q, hq⟩ : ∃ q, q = t.length - 2 := ⟨_, rfl⟩
    have hy : w.cell? ⟨b, off + q, none⟩ = some (.int .i64 (t[q]?.getD 0)) := hcell q (by omega)
    have hwq : IntKind.i64.wrap ((t.length : Int) - 2) = (q : Int) := by rw [IntKind.wrap_i64]; omega
    have hql : (q : Int) < (t.length : Int) := by omega
    have H2 := hidIt (show t[q]?.getD 0 = 13 → t[p]?.getD 0 = 10 → rlb t = [13, 10] from fun e1 e2 => by
      unfold rlb lbr
      rw [he, ← hp, e2, if_pos (by decide), ← hq, e1, if_pos ⟨by omega, rfl, rfl⟩]
      rw [← hq, ← hp, e1, e2] at hd2
      exact hd2)
    have H1 := hidIt (show ¬ (t[q]?.getD 0 = 13 ∧ t[p]?.getD 0 = 10) → (t[p]?.getD 0 = 10 ∨ t[p]?.getD 0 = 13) → rlb t = [t[p]?.getD 0] from fun e1 e2 => by
      unfold rlb lbr
      rw [he, ← hp, if_pos (by unfold brB; rcases e2 with e | e <;> rw [e] <;> rfl), ← hq, if_neg (fun e => e1 e.2)]
      rw [← hp] at hd1
      exact hd1)
    generalize t[q]?.getD 0 = y at *
    generalize t[p]?.getD 0 = x at *
    generalize t.length = n at *
    clear hd1 hd2 hp hq hcell h hn hpos he
    by_cases hy13 : y = 13
    · by_cases hx10 : x = 10
      · have HL := hidIt (H2.out hy13 hx10)
        subst hy13 hx10
        go_enter Try.func98, Try.ntmps98
        go_wp2_with fail
        go_ret
        exact ⟨_, rfl, by rw [HL.out]; exact rds_two _ _ _, ext_alloc (Below.refl _ _) _⟩
      have hxb : (x == 10) = false := by simp [hx10]
      have K1 := hidIt (H1.out (fun e => hx10 e.2))
      subst hy13
      by_cases hx13 : x = 13
      · have HL := hidIt (K1.out (.inr hx13))
        subst hx13
        go_enter Try.func98, Try.ntmps98
        go_wp2_with fail
        go_ret
        exact ⟨_, rfl, by rw [HL.out]; exact rds_one _ _, ext_alloc (Below.refl _ _) _⟩
      have hxc : (x == 13) = false := by simp [hx13]
      have HL := hidIt (HN.out (by unfold brB; rw [hxb, hxc]; rfl))
      go_enter Try.func98, Try.ntmps98
      go_wp2_with fail
      go_ret
      exact ⟨_, rfl, by rw [HL.out]; exact rds_nil _, Below.refl _ _⟩
    have hyb : (y == 13) = false := by simp [hy13]
    have K1 := hidIt (H1.out (fun e => hy13 e.1))
    clear hy13
    by_cases hx10 : x = 10
    · have HL := hidIt (K1.out (.inl hx10))
      subst hx10
      go_enter Try.func98, Try.ntmps98
      go_wp2_with fail
      go_ret
      exact ⟨_, rfl, by rw [HL.out]; exact rds_one _ _, ext_alloc (Below.refl _ _) _⟩
    have hxb : (x == 10) = false := by simp [hx10]
    by_cases hx13 : x = 13
    · have HL := hidIt (K1.out (.inr hx13))
      subst hx13
      go_enter Try.func98, Try.ntmps98
      go_wp2_with fail
      go_ret
      exact ⟨_, rfl, by rw [HL.out]; exact rds_one _ _, ext_alloc (Below.refl _ _) _⟩
    have hxc : (x == 13) = false := by simp [hx13]
    have HL := hidIt (HN.out (by unfold brB; rw [hxb, hxc]; rfl))
    go_enter Try.func98, Try.ntmps98
    go_wp2_with fail
    go_ret
    exact ⟨_, rfl, by rw [HL.out]; exact rds_nil _, Below.refl _ _⟩
  have H1 := hidIt (show (t[p]?.getD 0 = 10 ∨ t[p]?.getD 0 = 13) → rlb t = [t[p]?.getD 0] from fun e2 => by
    unfold rlb lbr
    rw [he, ← hp, if_pos (by unfold brB; rcases e2 with e | e <;> rw [e] <;> rfl), if_neg (fun e => by omega)]
    rw [← hp] at hd1
    exact hd1)
  generalize t[p]?.getD 0 = x at *
  generalize t.length = n at *
  clear hd1 hp hcell h hn hpos he
  by_cases hx10 : x = 10
  · have HL := hidIt (H1.out (.inl hx10))
    subst hx10
    go_enter Try.func98, Try.ntmps98
    go_wp2_with fail
    go_ret
    exact ⟨_, rfl, by rw [HL.out]; exact rds_one _ _, ext_alloc (Below.refl _ _) _⟩
  have hxb : (x == 10) = false := by simp [hx10]
  by_cases hx13 : x = 13
  · have HL := hidIt (H1.out (.inr hx13))
    subst hx13
    go_enter Try.func98, Try.ntmps98
    go_wp2_with fail
    go_ret
    exact ⟨_, rfl, by rw [HL.out]; exact rds_one _ _, ext_alloc (Below.refl _ _) _⟩
  have hxc : (x == 13) = false := by simp [hx13]
  have HL := hidIt (HN.out (by unfold brB; rw [hxb, hxc]; rfl))
  go_enter Try.func98, Try.ntmps98
  go_wp2_with fail
  go_ret
  exact ⟨_, rfl, by rw [HL.out]; exact rds_nil _, Below.refl _ _⟩
theorem rlb_len (t : List Int) : ((rlb t).length = 0) = (ends t = false) := by
  unfold rlb
  cases he : ends t
  · simp
  · have hn : t ≠ [] := by intro e; rw [e] at he; cases he
    have := List.length_pos_iff.2 hn
    unfold lbr
    simp only [if_true]
    split <;> simp <;> omega
set_option maxRecDepth 100000 in
set_option maxHeartbeats 2000000 in
theorem r_written_any (k : Int) (v : Value) (t : List Int) (w : World) (h : RdS w v t) (hl : t.length * 8 ≤ 140737488351232) : Calls Try.prog 84 #[.int .i64 k, v] w fun e w' => ∃ v', e = .returned (.agg #[.int .i64 k, v']) ∧ OwnI w' w.heap.size v' (cls k t) ∧ Below w.heap.size w w' := by
  obtain ⟨w1, hw1, k0, hb1⟩ : ∃ w1, w1 = w.alloc (.cells #[.int .i64 0, .slice none 0 0] 94) ∧ w1.heap[w.heap.size]? = some (.cells #[.int .i64 0, .slice none 0 0] 94 (0, 0)) ∧ Below w.heap.size w w1 := ⟨_, rfl, heap_alloc_new _ _, ext_alloc (Below.refl _ _) _⟩
  have H := hidIt h
  have HB1 := hidIt hb1
  have HLT := hidIt (Array.getElem?_eq_some_iff.1 k0).1
  have HZ : Hid (∀ w', Below w1.heap.size w1 w' → w'.heap[w.heap.size]? = some (.cells #[.int .i64 0, .slice none 0 0] 94 (0, 0))) := fun w' hb => (hb.block _ HLT.out).trans k0
  clear h hb1 k0
  by_cases hk : k = 1
  · subst hk
    have HRL := rlb_len t
    cases he : ends t
    · have HC := hidIt (show cls 1 t = t ++ [10] by unfold cls; rw [he]; rfl)
      have hz : (((rlb t).length : Int) == 0) = true := by simp [HRL, he]
      clear HRL he
      go_enter Try.func84, Try.ntmps84
      go_upto_region 1 with fail
      rw [← hw1]
      clear hw1
      go_upto_region 2 with (at_builtin; refine wpl_ints rfl _ _ 29 rfl w1.heap.size Try.info_i64 Try.underlying29 _ [] rfl (OwnI.nil _ _) _ t rfl (H.out.ext HB1.out) (by simp; omega) (Nat.le_refl _) ?_; intro v2 w2 own2 hb2; obtain ⟨a2, n2, c2, e2⟩ := own2.form; subst e2; have O2 := hidIt (show OwnI w2 w1.heap.size (.slice a2 n2 c2) t from own2); have B2 := hidIt hb2; clear own2 hb2)
      go_wp2_with (first | (go_at_call 98; refine (r_lastBreak_any _ t w2 O2.out.rds).mono ?_; rintro e w3 ⟨v3, rfl, hr3, hb3⟩; obtain ⟨a3, c3, e3, _⟩ := hr3.len; subst e3; have HB3 := hidIt hb3; clear hb3 hr3; (try dsimp only)) | (at_builtin; refine wpl_ints rfl _ _ 29 rfl w1.heap.size Try.info_i64 Try.underlying29 _ t rfl ((O2.out.ext HB3.out).ext (ext_alloc (Below.refl _ _) _)) _ [10] rfl (rds_one _ _) (by simp; omega) (by have := B2.out.size; have := HB3.out.size; simp; omega) ?_; intro v4 w4 own4 hb4; obtain ⟨a4, n4, c4, e4⟩ := own4.form; subst e4; have O4 := hidIt own4; have B4 := hidIt ((ext_alloc (ext_trans B2.out HB3.out) _).trans hb4); clear own4 hb4; obtain ⟨hlt, z0, z1, fz⟩ := cells2 (HZ.out w4 B4.out)))
      refine bodyPost_ret (v := .agg #[.int .i64 1, .slice a4 n4 c4]) (by simp [results, Try.results84, go_sem, z0, z1]) rfl ⟨_, rfl, ?_, ?_⟩
      · rw [HC.out]
        exact ((O4.out).other (put2 (HZ.out w4 B4.out) _ _).2 HLT.out).le (Nat.le_of_lt HLT.out)
      · exact below_put (ext_trans HB1.out B4.out) (ext_trans HB1.out B4.out).size (put2 (HZ.out w4 B4.out) _ _).2 (Nat.le_refl _)
    · have HC := hidIt (show cls 1 t = t by unfold cls; rw [he]; rfl)
      have hz : (((rlb t).length : Int) == 0) = false := by simp [HRL, he]
      clear HRL he
      go_enter Try.func84, Try.ntmps84
      go_upto_region 1 with fail
      rw [← hw1]
      clear hw1
      go_upto_region 2 with (at_builtin; refine wpl_ints rfl _ _ 29 rfl w1.heap.size Try.info_i64 Try.underlying29 _ [] rfl (OwnI.nil _ _) _ t rfl (H.out.ext HB1.out) (by simp; omega) (Nat.le_refl _) ?_; intro v2 w2 own2 hb2; obtain ⟨a2, n2, c2, e2⟩ := own2.form; subst e2; have O2 := hidIt (show OwnI w2 w1.heap.size (.slice a2 n2 c2) t from own2); have B2 := hidIt hb2; clear own2 hb2)
      go_wp2_with (go_at_call 98; refine (r_lastBreak_any _ t w2 O2.out.rds).mono ?_; rintro e w3 ⟨v3, rfl, hr3, hb3⟩; obtain ⟨a3, c3, e3, _⟩ := hr3.len; subst e3; have HB3 := hidIt hb3; clear hb3 hr3; obtain ⟨hlt, z0, z1, fz⟩ := cells2 (HZ.out w3 (ext_trans B2.out HB3.out)); (try dsimp only))
      refine bodyPost_ret (v := .agg #[.int .i64 1, .slice a2 n2 c2]) (by simp [results, Try.results84, go_sem, z0, z1]) rfl ⟨_, rfl, ?_, ?_⟩
      · rw [HC.out]
        exact ((O2.out.ext HB3.out).other (put2 (HZ.out w3 (ext_trans B2.out HB3.out)) _ _).2 HLT.out).le (Nat.le_of_lt HLT.out)
      · exact below_put (ext_trans HB1.out (ext_trans B2.out HB3.out)) (ext_trans HB1.out (ext_trans B2.out HB3.out)).size (put2 (HZ.out w3 (ext_trans B2.out HB3.out)) _ _).2 (Nat.le_refl _)
  · have hkb : (k == 1) = false := by simp [hk]
    have HC := hidIt (show cls k t = t by unfold cls; rw [hkb]; rfl)
    clear hk
    go_enter Try.func84, Try.ntmps84
    go_upto_region 1 with fail
    rw [← hw1]
    clear hw1
    go_upto_region 2 with (at_builtin; refine wpl_ints rfl _ _ 29 rfl w1.heap.size Try.info_i64 Try.underlying29 _ [] rfl (OwnI.nil _ _) _ t rfl (H.out.ext HB1.out) (by simp; omega) (Nat.le_refl _) ?_; intro v2 w2 own2 hb2; obtain ⟨a2, n2, c2, e2⟩ := own2.form; subst e2; have O2 := hidIt (show OwnI w2 w1.heap.size (.slice a2 n2 c2) t from own2); have B2 := hidIt hb2; clear own2 hb2)
    obtain ⟨hlt, z0, z1, fz⟩ := cells2 (HZ.out w2 B2.out)
    go_wp2_with fail
    refine bodyPost_ret (v := .agg #[.int .i64 k, .slice a2 n2 c2]) (by simp [results, Try.results84, go_sem, z0, z1]) rfl ⟨_, rfl, ?_, ?_⟩
    · rw [HC.out]
      exact ((O2.out).other (put2 (HZ.out w2 B2.out) _ _).2 HLT.out).le (Nat.le_of_lt HLT.out)
    · exact below_put (ext_trans HB1.out B2.out) (ext_trans HB1.out B2.out).size (put2 (HZ.out w2 B2.out) _ _).2 (Nat.le_refl _)
end Go.Proofs.Ytmldfjhfgaggpaa
