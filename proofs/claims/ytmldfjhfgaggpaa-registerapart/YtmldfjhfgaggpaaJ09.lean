import Derived.Test.YtmldfjhfgaggpaaJ04
import Derived.Test.YtmldfjhfgaggpaaJ00
import Derived.Test.YtmldfjhfgaggpaaJ08
/- The document's LastBreak, Written. -/
namespace Go.Proofs.Ytmldfjhfgaggpaa
open Go.RowKit

/-- The document's last break: none, if the text doesn't end with one. -/
def rlb (t : List Int) : List Int := if ends t = true then lbr t else []
theorem drop_one (t : List Int) (h : t ≠ []) : t.drop (t.length - 1) = [t[t.length - 1]?.getD 0] := by
  have hp := List.length_pos_iff.2 h
  rw [List.drop_eq_getElem_cons (by omega), List.drop_eq_nil_of_le (by omega)]
  simp [show t.length - 1 < t.length by omega]
theorem drop_two (t : List Int) (h : 1 < t.length) : t.drop (t.length - 2) = [t[t.length - 2]?.getD 0, t[t.length - 1]?.getD 0] := by
  rw [List.drop_eq_getElem_cons (by omega), show t.length - 2 + 1 = t.length - 1 by omega, drop_one t (by intro e; rw [e] at h; simp at h)]
  simp [show t.length - 2 < t.length by omega]
set_option maxRecDepth 100000 in
set_option maxHeartbeats 2000000 in
theorem r_lastBreak_any (v : Value) (t : List Int) (w : World) (h : RdS w v t) : Calls Try.prog 98 #[v] w fun e w' => ∃ v', e = .returned v' ∧ RdS w' v' (rlb t) ∧ Below w.heap.size w w' := by
  by_cases hn : t = []
  · subst hn
    obtain ⟨ao, c, rfl, _⟩ := h.len
    simp only [List.length_nil]
    go_enter Try.func98, Try.ntmps98
    go_wp2_with fail
    go_ret
    exact ⟨_, rfl, rds_nil _, Below.refl _ _⟩
  obtain ⟨b, off, c, rfl, hbl, hcap, h63, hcell⟩ := h.last hn
  have hpos := List.length_pos_iff.2 hn
  have he := ends_at t hn
  have hd1 := drop_one t hn
  obtain ⟨p, hp⟩ : ∃ p, p = t.length - 1 := ⟨_, rfl⟩
  have hx : w.cell? ⟨b, off + p, none⟩ = some (.int .i64 (t[p]?.getD 0)) := hcell p (by omega)
  have hwr : IntKind.i64.wrap ((t.length : Int) - 1) = (p : Int) := by rw [IntKind.wrap_i64]; omega
  have hpl : (p : Int) < (t.length : Int) := by omega
  have hp0 : (t.length : Int) > 0 := by omega
  have HN := hidIt (show brB (t[p]?.getD 0) = false → rlb t = [] from fun e => by unfold rlb; rw [he, ← hp, e]; rfl)
  by_cases h1 : (t.length : Int) > 1
  · have hd2 := drop_two t (by omega)
    obtain ⟨q, hq⟩ : ∃ q, q = t.length - 2 := ⟨_, rfl⟩
    have hy : w.cell? ⟨b, off + q, none⟩ = some (.int .i64 (t[q]?.getD 0)) := hcell q (by omega)
    have hwq : IntKind.i64.wrap ((t.length : Int) - 2) = (q : Int) := by rw [IntKind.wrap_i64]; omega
    have hql : (q : Int) < (t.length : Int) := by omega
    have H2 := hidIt (show t[q]?.getD 0 = 13 → t[p]?.getD 0 = 10 → rlb t = [13, 10] from fun e1 e2 => by
      unfold rlb lbr
      rw [he, ← hp, e2, if_pos (by decide), ← hq, e1, if_pos ⟨by omega, rfl, rfl⟩]
      rw [← hq, ← hp, e1, e2] at hd2
      exact hd2)
    have H1 := hidIt (show ¬ (t[q]?.getD 0 = 13 ∧ t[p]?.getD 0 = 10) → (t[p]?.getD 0 = 10 ∨ t[p]?.getD 0 = 13) → rlb t = [t[p]?.getD 0] from fun e1 e2 => by
      unfold rlb lbr
      rw [he, ← hp, if_pos (by unfold brB; rcases e2 with e | e <;> rw [e] <;> rfl), ← hq, if_neg (fun e => e1 e.2)]
      rw [← hp] at hd1
      exact hd1)
    generalize t[q]?.getD 0 = y at *
    generalize t[p]?.getD 0 = x at *
    generalize t.length = n at *
    clear hd1 hd2 hp hq hcell h hn hpos he
    by_cases hy13 : y = 13
    · by_cases hx10 : x = 10
      · have HL := hidIt (H2.out hy13 hx10)
        subst hy13 hx10
        go_enter Try.func98, Try.ntmps98
        go_wp2_with fail
        go_ret
        exact ⟨_, rfl, by rw [HL.out]; exact rds_two _ _ _, ext_alloc (Below.refl _ _) _⟩
      have hxb : (x == 10) = false := by simp [hx10]
      have K1 := hidIt (H1.out (fun e => hx10 e.2))
      subst hy13
      by_cases hx13 : x = 13
      · have HL := hidIt (K1.out (.inr hx13))
        subst hx13
        go_enter Try.func98, Try.ntmps98
        go_wp2_with fail
        go_ret
        exact ⟨_, rfl, by rw [HL.out]; exact rds_one _ _, ext_alloc (Below.refl _ _) _⟩
      have hxc : (x == 13) = false := by simp [hx13]
      have HL := hidIt (HN.out (by unfold brB; rw [hxb, hxc]; rfl))
      go_enter Try.func98, Try.ntmps98
      go_wp2_with fail
      go_ret
      exact ⟨_, rfl, by rw [HL.out]; exact rds_nil _, Below.refl _ _⟩
    have hyb : (y == 13) = false := by simp [hy13]
    have K1 := hidIt (H1.out (fun e => hy13 e.1))
    clear hy13
    by_cases hx10 : x = 10
    · have HL := hidIt (K1.out (.inl hx10))
      subst hx10
      go_enter Try.func98, Try.ntmps98
      go_wp2_with fail
      go_ret
      exact ⟨_, rfl, by rw [HL.out]; exact rds_one _ _, ext_alloc (Below.refl _ _) _⟩
    have hxb : (x == 10) = false := by simp [hx10]
    by_cases hx13 : x = 13
    · have HL := hidIt (K1.out (.inr hx13))
      subst hx13
      go_enter Try.func98, Try.ntmps98
      go_wp2_with fail
      go_ret
      exact ⟨_, rfl, by rw [HL.out]; exact rds_one _ _, ext_alloc (Below.refl _ _) _⟩
    have hxc : (x == 13) = false := by simp [hx13]
    have HL := hidIt (HN.out (by unfold brB; rw [hxb, hxc]; rfl))
    go_enter Try.func98, Try.ntmps98
    go_wp2_with fail
    go_ret
    exact ⟨_, rfl, by rw [HL.out]; exact rds_nil _, Below.refl _ _⟩
  have H1 := hidIt (show (t[p]?.getD 0 = 10 ∨ t[p]?.getD 0 = 13) → rlb t = [t[p]?.getD 0] from fun e2 => by
    unfold rlb lbr
    rw [he, ← hp, if_pos (by unfold brB; rcases e2 with e | e <;> rw [e] <;> rfl), if_neg (fun e => by omega)]
    rw [← hp] at hd1
    exact hd1)
  generalize t[p]?.getD 0 = x at *
  generalize t.length = n at *
  clear hd1 hp hcell h hn hpos he
  by_cases hx10 : x = 10
  · have HL := hidIt (H1.out (.inl hx10))
    subst hx10
    go_enter Try.func98, Try.ntmps98
    go_wp2_with fail
    go_ret
    exact ⟨_, rfl, by rw [HL.out]; exact rds_one _ _, ext_alloc (Below.refl _ _) _⟩
  have hxb : (x == 10) = false := by simp [hx10]
  by_cases hx13 : x = 13
  · have HL := hidIt (H1.out (.inr hx13))
    subst hx13
    go_enter Try.func98, Try.ntmps98
    go_wp2_with fail
    go_ret
    exact ⟨_, rfl, by rw [HL.out]; exact rds_one _ _, ext_alloc (Below.refl _ _) _⟩
  have hxc : (x == 13) = false := by simp [hx13]
  have HL := hidIt (HN.out (by unfold brB; rw [hxb, hxc]; rfl))
  go_enter Try.func98, Try.ntmps98
  go_wp2_with fail
  go_ret
  exact ⟨_, rfl, by rw [HL.out]; exact rds_nil _, Below.refl _ _⟩
theorem rlb_len (t : List Int) : ((rlb t).length = 0) = (ends t = false) := by
  unfold rlb
  cases he : ends t
  · simp
  · have hn : t ≠ [] := by intro e; rw [e] at he; cases he
    have := List.length_pos_iff.2 hn
    unfold lbr
    simp only [if_true]
    split <;> simp <;> omega
set_option maxRecDepth 100000 in
set_option maxHeartbeats 2000000 in
theorem r_written_any (k : Int) (v : Value) (t : List Int) (w : World) (h : RdS w v t) (hl : t.length * 8 ≤ 140737488351232) : Calls Try.prog 84 #[.int .i64 k, v] w fun e w' => ∃ v', e = .returned (.agg #[.int .i64 k, v']) ∧ OwnI w' w.heap.size v' (cls k t) ∧ Below w.heap.size w w' := by
  obtain ⟨w1, hw1, k0, hb1⟩ : ∃ w1, w1 = w.alloc (.cells #[.int .i64 0, .slice none 0 0] 94) ∧ w1.heap[w.heap.size]? = some (.cells #[.int .i64 0, .slice none 0 0] 94 (0, 0)) ∧ Below w.heap.size w w1 := ⟨_, rfl, heap_alloc_new _ _, ext_alloc (Below.refl _ _) _⟩
  have H := hidIt h
  have HB1 := hidIt hb1
  have HLT := hidIt (Array.getElem?_eq_some_iff.1 k0).1
  have HZ : Hid (∀ w', Below w1.heap.size w1 w' → w'.heap[w.heap.size]? = some (.cells #[.int .i64 0, .slice none 0 0] 94 (0, 0))) := fun w' hb => (hb.block _ HLT.out).trans k0
  clear h hb1 k0
  by_cases hk : k = 1
  · subst hk
    have HRL := rlb_len t
    cases he : ends t
    · have HC := hidIt (show cls 1 t = t ++ [10] by unfold cls; rw [he]; rfl)
      have hz : (((rlb t).length : Int) == 0) = true := by simp [HRL, he]
      clear HRL he
      go_enter Try.func84, Try.ntmps84
      go_upto_region 1 with fail
      rw [← hw1]
      clear hw1
      go_upto_region 2 with (at_builtin; refine wpl_ints rfl _ _ 29 rfl w1.heap.size Try.info_i64 Try.underlying29 _ [] rfl (OwnI.nil _ _) _ t rfl (H.out.ext HB1.out) (by simp; omega) (Nat.le_refl _) ?_; intro v2 w2 own2 hb2; obtain ⟨a2, n2, c2, e2⟩ := own2.form; subst e2; have O2 := hidIt (show OwnI w2 w1.heap.size (.slice a2 n2 c2) t from own2); have B2 := hidIt hb2; clear own2 hb2)
      go_wp2_with (first | (go_at_call 98; refine (r_lastBreak_any _ t w2 O2.out.rds).mono ?_; rintro e w3 ⟨v3, rfl, hr3, hb3⟩; obtain ⟨a3, c3, e3, _⟩ := hr3.len; subst e3; have HB3 := hidIt hb3; clear hb3 hr3; (try dsimp only)) | (at_builtin; refine wpl_ints rfl _ _ 29 rfl w1.heap.size Try.info_i64 Try.underlying29 _ t rfl ((O2.out.ext HB3.out).ext (ext_alloc (Below.refl _ _) _)) _ [10] rfl (rds_one _ _) (by simp; omega) (by have := B2.out.size; have := HB3.out.size; simp; omega) ?_; intro v4 w4 own4 hb4; obtain ⟨a4, n4, c4, e4⟩ := own4.form; subst e4; have O4 := hidIt own4; have B4 := hidIt ((ext_alloc (ext_trans B2.out HB3.out) _).trans hb4); clear own4 hb4; obtain ⟨hlt, z0, z1, fz⟩ := cells2 (HZ.out w4 B4.out)))
      refine bodyPost_ret (v := .agg #[.int .i64 1, .slice a4 n4 c4]) (by simp [results, Try.results84, go_sem, z0, z1]) rfl ⟨_, rfl, ?_, ?_⟩
      · rw [HC.out]
        exact ((O4.out).other (put2 (HZ.out w4 B4.out) _ _).2 HLT.out).le (Nat.le_of_lt HLT.out)
      · exact below_put (ext_trans HB1.out B4.out) (ext_trans HB1.out B4.out).size (put2 (HZ.out w4 B4.out) _ _).2 (Nat.le_refl _)
    · have HC := hidIt (show cls 1 t = t by unfold cls; rw [he]; rfl)
      have hz : (((rlb t).length : Int) == 0) = false := by simp [HRL, he]
      clear HRL he
      go_enter Try.func84, Try.ntmps84
      go_upto_region 1 with fail
      rw [← hw1]
      clear hw1
      go_upto_region 2 with (at_builtin; refine wpl_ints rfl _ _ 29 rfl w1.heap.size Try.info_i64 Try.underlying29 _ [] rfl (OwnI.nil _ _) _ t rfl (H.out.ext HB1.out) (by simp; omega) (Nat.le_refl _) ?_; intro v2 w2 own2 hb2; obtain ⟨a2, n2, c2, e2⟩ := own2.form; subst e2; have O2 := hidIt (show OwnI w2 w1.heap.size (.slice a2 n2 c2) t from own2); have B2 := hidIt hb2; clear own2 hb2)
      go_wp2_with (go_at_call 98; refine (r_lastBreak_any _ t w2 O2.out.rds).mono ?_; rintro e w3 ⟨v3, rfl, hr3, hb3⟩; obtain ⟨a3, c3, e3, _⟩ := hr3.len; subst e3; have HB3 := hidIt hb3; clear hb3 hr3; obtain ⟨hlt, z0, z1, fz⟩ := cells2 (HZ.out w3 (ext_trans B2.out HB3.out)); (try dsimp only))
      refine bodyPost_ret (v := .agg #[.int .i64 1, .slice a2 n2 c2]) (by simp [results, Try.results84, go_sem, z0, z1]) rfl ⟨_, rfl, ?_, ?_⟩
      · rw [HC.out]
        exact ((O2.out.ext HB3.out).other (put2 (HZ.out w3 (ext_trans B2.out HB3.out)) _ _).2 HLT.out).le (Nat.le_of_lt HLT.out)
      · exact below_put (ext_trans HB1.out (ext_trans B2.out HB3.out)) (ext_trans HB1.out (ext_trans B2.out HB3.out)).size (put2 (HZ.out w3 (ext_trans B2.out HB3.out)) _ _).2 (Nat.le_refl _)
  · have hkb : (k == 1) = false := by simp [hk]
    have HC := hidIt (show cls k t = t by unfold cls; rw [hkb]; rfl)
    clear hk
    go_enter Try.func84, Try.ntmps84
    go_upto_region 1 with fail
    rw [← hw1]
    clear hw1
    go_upto_region 2 with (at_builtin; refine wpl_ints rfl _ _ 29 rfl w1.heap.size Try.info_i64 Try.underlying29 _ [] rfl (OwnI.nil _ _) _ t rfl (H.out.ext HB1.out) (by simp; omega) (Nat.le_refl _) ?_; intro v2 w2 own2 hb2; obtain ⟨a2, n2, c2, e2⟩ := own2.form; subst e2; have O2 := hidIt (show OwnI w2 w1.heap.size (.slice a2 n2 c2) t from own2); have B2 := hidIt hb2; clear own2 hb2)
    obtain ⟨hlt, z0, z1, fz⟩ := cells2 (HZ.out w2 B2.out)
    go_wp2_with fail
    refine bodyPost_ret (v := .agg #[.int .i64 k, .slice a2 n2 c2]) (by simp [results, Try.results84, go_sem, z0, z1]) rfl ⟨_, rfl, ?_, ?_⟩
    · rw [HC.out]
      exact ((O2.out).other (put2 (HZ.out w2 B2.out) _ _).2 HLT.out).le (Nat.le_of_lt HLT.out)
    · exact below_put (ext_trans HB1.out B2.out) (ext_trans HB1.out B2.out).size (put2 (HZ.out w2 B2.out) _ _).2 (Nat.le_refl _)
end Go.Proofs.Ytmldfjhfgaggpaa

/- append of ints, up to a little more than the kit's bound: the new capacity is at most a quarter more than what is asked for. -/
namespace Go.Proofs.Ytmldfjhfgaggpaa
open Go.RowKit

theorem cap_fine {need old : Nat} (h : old < need) : Builtin.nextslicecap need old ≤ need + need / 4 + 512 := by
  unfold Builtin.nextslicecap
  split
  · omega
  · split
    · omega
    · rw [growBy_four]
      repeat' split
      all_goals omega
theorem cap_fits {need old : Nat} (h : old < need) (hb : need * 8 ≤ 140739635838976) : Builtin.nextslicecap need old * 8 ≤ 281474976710656 := by
  have := cap_fine h
  omega
section
variable {P : Program} (w : World)
/-- What a new row of ints holds. -/
theorem new_row (base n old : Nat) (e : TypeId) (zs : List Value) (hn : zs.length = n) (h63 : n ≤ maxLen) (hbase : base ≤ w.heap.size) (row : Option Nat) :
    (w.drew.alloc (.cells (zs.toArray ++ Builtin.zeroCells (Value.int .i64 0).cells (grownCap w n old e - n)) e)).ownsRow base e 1 (.slice (some ⟨w.heap.size, 0, none⟩) n (grownCap w n old e)) n zs ∧
      w.grownBy (w.drew.alloc (.cells (zs.toArray ++ Builtin.zeroCells (Value.int .i64 0).cells (grownCap w n old e - n)) e)) row := by
  subst hn
  have hge := grownCap_ge w zs.length old e
  refine ⟨⟨by omega, .inr ⟨w.heap.size, _, _, rfl, hbase, heap_alloc_new w.drew _, hge, grownCap_le_maxLen w _ old e h63, ?_, ?_⟩⟩, ⟨rfl, rfl, rfl, by simp, fun k hk _ => heap_alloc_old w.drew _ hk⟩⟩
  · simp only [Array.size_append, List.size_toArray, size_zeroCells]
    simp [Value.cells]
    omega
  · simp only [Array.toList_append, Nat.mul_one]
    exact List.take_left
theorem run_append_fine (base : Nat) (t ty e : TypeId) (i : TypeInfo) (ht : P.underlying t = some (.slice e)) (hi : P.info? e = some i) (hz : i.zero = some (.int .i64 0)) (hsize : i.size = 1) (hby : i.bytes = 8)
    (v : Value) (n : Nat) (xs : List Value) (hown : w.ownsRow base e 1 v n xs) (a : Addr) (m c : Nat) (news : List Value) (hl : news.length = m) (hnews : ∀ j u, news[j]? = some u → w.cell? (a.add j) = some u) (h1 : ∀ u ∈ news, u.oneCell' = true)
    (hbytes : (n + m) * 8 ≤ 140739635838976) (hbase : base ≤ w.heap.size) :
    ∃ v' w', (Builtin.append_ #[t, t] ty #[v, .slice (some a) m c]).run P w = .ok v' w' ∧ w'.ownsRow base e 1 v' (n + m) (xs ++ news) ∧ w.grownBy w' v.ownBlock := by
  have hxl : xs.length = n := by have := hown.1; omega
  have h63 : n + m ≤ maxLen := by simp only [maxLen]; omega
  rcases hown.2 with ⟨rfl, rfl⟩ | ⟨g, cap, cur, rfl, hbg, hg, hnc, hcm, hcs, htake⟩
  · have hx : xs = [] := List.eq_nil_of_length_eq_zero hxl
    subst hx
    rcases Nat.eq_zero_or_pos m with rfl | hm
    · obtain ⟨v', w', r1, r2, r3, _⟩ := run_append_own (P := P) w base t ty e i _ 1 8 ht hi hz hsize hby rfl (by decide) _ 0 [] hown a 0 c news (by omega) hnews h1 h63 (by omega) hbase
      exact ⟨v', w', r1, r2, r3⟩
    · have hr := run_append_nil (P := P) w t ty e i _ ht hi hz a m c news (by rw [hsize]; omega) hnews hm (by omega) (by rw [hby]; omega)
      have hgr := new_row w base m 0 e news hl (by simpa using h63) hbase (Value.ownBlock (.slice none 0 0))
      rw [Nat.zero_add, List.nil_append]
      exact ⟨_, _, hr, hgr⟩
  · by_cases hroom : n + m ≤ cap
    · have hr := run_append_room (P := P) w t ty e i ht hi g n cap cur hg a m c news (by rw [hsize]; omega) hnews h1 hroom (by rw [hsize]; omega)
      rw [hsize, Nat.mul_one] at hr
      refine ⟨_, _, hr, ⟨by simp; omega, .inr ⟨g, cap, _, rfl, hbg, setRow_heap w g cur _ e _ hg, hroom, hcm, ?_, ?_⟩⟩, ⟨rfl, rfl, rfl, by simp, fun k _ hk => setRow_other w g k _ (fun e => hk (by simp [Value.ownBlock, e]))⟩⟩
      · simp only [List.size_toArray, List.length_append, List.length_take, List.length_drop, Array.length_toList]
        omega
      · rw [Nat.mul_one] at htake
        rw [htake, Nat.mul_one, show n + m = (xs ++ news).length by simp; omega]
        exact List.take_left
    · have holds : ∀ j u, xs[j]? = some u → w.cell? ((⟨g, 0, none⟩ : Addr).add j) = some u := hown.cells (g := g) rfl
      have hr := run_append_grow (P := P) w t ty e i _ ht hi hz ⟨g, 0, none⟩ n cap xs (by rw [hsize]; omega) holds a m c news (by rw [hsize]; omega) hnews (by omega) (by omega) (by rw [hby]; exact cap_fits (by omega) hbytes)
      have hgr := new_row w base (n + m) cap e (xs ++ news) (by simp; omega) h63 hbase (Value.ownBlock (.slice (some ⟨g, 0, none⟩) n cap))
      rw [← List.append_toArray] at hgr
      exact ⟨_, _, hr, hgr⟩
end
section
variable {P : Program} {W : World} {ops : Array Oper} {rest : List Oper} {o : Oper} {a : Act} {Q : Exit → Act → World → Prop}
/-- append(v, s...), of ints: s any slice that is read; the wider bound. -/
theorem wpl_intsF (hgd : o.guard = none) (s x : Operand) (t : TypeId) (ho : o.op = .call { callee := .builtin .append, args := #[s, x], argTypes := #[t, t] })
    (base : Nat) (hinf : (P.info? 3).map (fun i => (i.zero, i.size, i.bytes)) = some (some (.int .i64 0), 1, 8)) (ht : P.underlying t = some (.slice 3))
    (v : Value) (zs : List Int) (hs : a.eval s = v) (hown : OwnI W base v zs) (u : Value) (ys : List Int) (hx : a.eval x = u) (hu : RdS W u ys) (hl : (zs.length + ys.length) * 8 ≤ 140739635838976) (hbase : base ≤ W.heap.size)
    (h : ∀ v' w', OwnI w' base v' (zs ++ ys) → Below base W w' → wpList P ops Q rest (a.put o.dst v') w') : wpList P ops Q (o :: rest) a W := by
  obtain ⟨i0, hi, hz0, hz1, hz2⟩ := info_parts hinf
  obtain ⟨hr, hsl⟩ := hu
  rcases hsl with rfl | ⟨ad, n, c, rfl⟩
  · have : ys = [] := by
      obtain ⟨ao, cap, hv, _⟩ := hr
      have : ys.length = 0 := by injection hv with _ h2 _; omega
      exact List.length_eq_zero_iff.1 this
    subst this
    refine wpList_append_own_none hgd s x t ho base 3 i0 1 ht hi v zs.length (zs.map (Value.int .i64)) hs hown hx ?_
    exact h v W (by rw [List.append_nil]; exact hown) (Below.refl _ _)
  · obtain ⟨hn, hc⟩ := rd_cells hr
    subst hn
    refine wpList_plain hgd fun K hK => ?_
    obtain ⟨v', w', hrun, h2, h3⟩ := run_append_fine (P := P) W base t o.type 3 i0 ht hi hz0 hz1 hz2 v zs.length (zs.map (Value.int .i64)) hown ad ys.length c (ys.map (Value.int .i64)) (by simp) hc (one_all _ _) hl hbase
    unfold Oper.wp execOp
    simp only [ho, resolve, invoke, builtin, Sem.run_bind, Sem.run_pure, Result.andThen_ok, List.map_toArray, List.map_cons, List.map_nil, hs, hx, hrun]
    refine hK _ _ (h v' w' ?_ ((Below.refl _ _).grown h3 hbase (fun k hk => (World.ownsRow.lt hown k hk).1)))
    unfold OwnI
    rw [List.length_append, List.map_append]
    exact h2
end
end Go.Proofs.Ytmldfjhfgaggpaa

/- The document's Joined. -/
namespace Go.Proofs.Ytmldfjhfgaggpaa
open Go.RowKit

def jnd (x y : Rg) : Rg := if x.t = [] then y else if y.t = [] then x else ⟨max x.k y.k, ((x.t ++ (if x.k = 0 ∧ y.k = 1 then rlb y.t else [])) ++ y.t) ++ (if x.k = 1 ∧ y.k = 0 then rlb x.t else [])⟩
/-- Where what is joined lies: nowhere where what it was made of doesn't lie. -/
def OffJ (w : World) (v u : Value) (s t : List Int) (v' : Value) (x : List Int) : Prop := ∀ g, g < w.heap.size → (s ≠ [] → Off v g) → (t ≠ [] → Off u g) → x ≠ [] → Off v' g
theorem RdS.below {w : World} {v : Value} {t : List Int} (h : RdS w v t) {q : Nat} (hq : w.heap.size ≤ q) (hn : t ≠ []) : Off v q := by
  intro g off n c e
  obtain ⟨g', off', c', fv, fb, _⟩ := h.last hn
  rw [e] at fv
  cases fv
  omega
/-- Of kinds 0 and 1, where a text by lines ends with a break, it is what the code makes. -/
theorem jnd_apd (x y : Rg) (hx : x.t ≠ []) (hy : y.t ≠ []) (kx : x.k = 0 ∨ x.k = 1) (ky : y.k = 0 ∨ y.k = 1) (ex : x.k = 1 → ends x.t = true) (ey : y.k = 1 → ends y.t = true) : jnd x y = apd x y := by
  obtain ⟨k, s⟩ := x
  obtain ⟨j, t⟩ := y
  dsimp only at *
  unfold jnd apd rlb
  dsimp only
  rw [if_neg hx, if_neg hy]
  rcases kx with rfl | rfl <;> rcases ky with rfl | rfl
  · simp
  · simp [ey rfl]; rfl
  · simp [ex rfl]; rfl
  · simp
set_option maxRecDepth 100000 in
set_option maxHeartbeats 4000000 in
theorem r_joined_any (k j : Int) (v u : Value) (s t : List Int) (w : World) (hv : RdS w v s) (hu : RdS w u t) (hk : k = 0 ∨ k = 1) (hj : j = 0 ∨ j = 1) (hsl : (s.length + t.length + 4) * 8 ≤ 140739635838976) : Calls Try.prog 99 #[.agg #[.int .i64 k, v], .agg #[.int .i64 j, u]] w fun e w' => ∃ v', e = .returned (.agg #[.int .i64 (jnd ⟨k, s⟩ ⟨j, t⟩).k, v']) ∧ RdS w' v' (jnd ⟨k, s⟩ ⟨j, t⟩).t ∧ Below w.heap.size w w' ∧ OffJ w v u s t v' (jnd ⟨k, s⟩ ⟨j, t⟩).t := by
  obtain ⟨ao, c, rfl, _⟩ := hv.len
  obtain ⟨bo, d, rfl, _⟩ := hu.len
  obtain ⟨w1, hw1, k0, k1, k2, hb1, hlt1⟩ := three_new w #[.int .i64 k, .slice ao s.length c] #[.int .i64 j, .slice bo t.length d] #[.int .i64 0, .slice none 0 0] 94 94 94
  have HV := hidIt (hv.ext hb1)
  have HU := hidIt (hu.ext hb1)
  have HVO := hidIt (fun hn => hv.below (q := w.heap.size + 2) (by omega) hn)
  have HUO := hidIt (fun hn => hu.below (q := w.heap.size + 2) (by omega) hn)
  have HB1 := hidIt hb1
  obtain ⟨_, a0, a1, _⟩ := cells2 k0
  obtain ⟨_, b0, b1, _⟩ := cells2 k1
  have HZ : Hid (∀ w', Below w1.heap.size w1 w' → w'.heap[w.heap.size + 2]? = some (.cells #[.int .i64 0, .slice none 0 0] 94 (0, 0))) := fun w' hb => (hb.block _ hlt1).trans k2
  have HS : Hid (∀ w', Below w1.heap.size w1 w' → w'.cell? ⟨w.heap.size, 0, none⟩ = some (.int .i64 k) ∧ w'.cell? ⟨w.heap.size, 1, none⟩ = some (.slice ao s.length c) ∧ w'.cell? ⟨w.heap.size + 1, 0, none⟩ = some (.int .i64 j) ∧ w'.cell? ⟨w.heap.size + 1, 1, none⟩ = some (.slice bo t.length d)) := fun w' hb =>
    ⟨(hb.cell (p := ⟨w.heap.size, 0, none⟩) (Nat.lt_of_succ_lt (Nat.lt_of_succ_lt hlt1))).trans a0, (hb.cell (p := ⟨w.heap.size, 1, none⟩) (Nat.lt_of_succ_lt (Nat.lt_of_succ_lt hlt1))).trans a1, (hb.cell (p := ⟨w.heap.size + 1, 0, none⟩) (Nat.lt_of_succ_lt hlt1)).trans b0, (hb.cell (p := ⟨w.heap.size + 1, 1, none⟩) (Nat.lt_of_succ_lt hlt1)).trans b1⟩
  clear hv hu hb1 k0 k1 k2
  by_cases hs : s = []
  · have HC := hidIt (show jnd ⟨k, s⟩ ⟨j, t⟩ = ⟨j, t⟩ by unfold jnd; rw [if_pos hs])
    have hz : ((s.length : Int) == 0) = true := by simp [hs]
    obtain ⟨_, z0, z1, fz⟩ := cells2 (HZ.out w1 (Below.refl _ _))
    clear hs hk hj
    go_enter Try.func99, Try.ntmps99
    go_upto_region 1 with fail
    rw [← hw1]
    clear hw1
    go_wp2_with fail
    refine bodyPost_ret (v := .agg #[.int .i64 j, .slice bo t.length d]) (by simp [results, Try.results99, go_sem, z0, z1]) rfl ⟨_, by rw [HC.out], ?_, ?_, ?_⟩
    · rw [HC.out]
      exact RdS.other (HU.out) (put2 (HZ.out w1 (Below.refl _ _)) _ _).2 HUO.out
    · exact below_put (ext_trans HB1.out (Below.refl _ _)) (ext_trans HB1.out (Below.refl _ _)).size (put2 (HZ.out w1 (Below.refl _ _)) _ _).2 (by omega)
    · intro g _ h1 h2 hx
      rw [HC.out] at hx
      exact h2 hx
  have hz : ((s.length : Int) == 0) = false := by simp [hs]
  by_cases ht : t = []
  · have HC := hidIt (show jnd ⟨k, s⟩ ⟨j, t⟩ = ⟨k, s⟩ by unfold jnd; rw [if_neg hs, if_pos ht])
    have hz2 : ((t.length : Int) == 0) = true := by simp [ht]
    obtain ⟨_, z0, z1, fz⟩ := cells2 (HZ.out w1 (Below.refl _ _))
    clear ht hk hj
    go_enter Try.func99, Try.ntmps99
    go_upto_region 1 with fail
    rw [← hw1]
    clear hw1
    go_wp2_with fail
    refine bodyPost_ret (v := .agg #[.int .i64 k, .slice ao s.length c]) (by simp [results, Try.results99, go_sem, z0, z1]) rfl ⟨_, by rw [HC.out], ?_, ?_, ?_⟩
    · rw [HC.out]
      exact RdS.other (HV.out) (put2 (HZ.out w1 (Below.refl _ _)) _ _).2 HVO.out
    · exact below_put (ext_trans HB1.out (Below.refl _ _)) (ext_trans HB1.out (Below.refl _ _)).size (put2 (HZ.out w1 (Below.refl _ _)) _ _).2 (by omega)
    · intro g _ h1 h2 hx
      rw [HC.out] at hx
      exact h1 hx
  have hz2 : ((t.length : Int) == 0) = false := by simp [ht]
  have HRS := hidIt (show (rlb s).length ≤ 2 by unfold rlb; split; exact lbr_len s; simp)
  have HRT := hidIt (show (rlb t).length ≤ 2 by unfold rlb; split; exact lbr_len t; simp)
  rcases hk with rfl | rfl
  · rcases hj with rfl | rfl
    · skip
      have HC := hidIt (show jnd ⟨0, s⟩ ⟨0, t⟩ = ⟨0, (((s ++ ([])) ++ t) ++ ([]))⟩ by unfold jnd; rw [if_neg hs, if_neg ht]; rfl)
      clear hs ht
      go_enter Try.func99, Try.ntmps99
      go_upto_region 1 with fail
      rw [← hw1]
      clear hw1
      go_upto_region 6 with (at_builtin; refine wpl_intsF rfl _ _ 29 rfl w1.heap.size Try.info_i64 Try.underlying29 _ ([]) rfl (OwnI.nil _ _) _ (s) rfl (HV.out) (by have := HRS.out; have := HRT.out; simp; omega) (Nat.le_refl _) ?_; intro v2 w2 own2 hb2; obtain ⟨a2, n2, c2, e2⟩ := own2.form; subst e2; have O2 := hidIt own2; have B2 := hidIt ((Below.refl w1.heap.size w1).trans hb2); clear own2 hb2)
      clear a0 a1 b0 b1
      obtain ⟨a0, a1, b0, b1⟩ := HS.out w2 B2.out
      go_upto_region 9 with (at_builtin; refine wpl_intsF rfl _ _ 29 rfl w1.heap.size Try.info_i64 Try.underlying29 _ ([] ++ s) rfl (O2.out) _ (t) rfl (HU.out.ext B2.out) (by have := HRS.out; have := HRT.out; simp; omega) ((B2.out).size) ?_; intro v5 w5 own5 hb5; obtain ⟨a5, n5, c5, e5⟩ := own5.form; subst e5; have O5 := hidIt own5; have B5 := hidIt ((B2.out).trans hb5); clear own5 hb5)
      clear a0 a1 b0 b1
      obtain ⟨a0, a1, b0, b1⟩ := HS.out w5 B5.out
      obtain ⟨_, z0, z1, fz⟩ := cells2 (HZ.out w5 B5.out)
      go_wp2_with fail
      refine bodyPost_ret (v := .agg #[.int .i64 0, .slice a5 n5 c5]) (by simp [results, Try.results99, go_sem, z0, z1]) rfl ⟨_, by rw [HC.out], ?_, ?_, ?_⟩
      · rw [HC.out]
        have q := (O5.out.other (put2 (HZ.out w5 B5.out) (.int .i64 0) (.slice a5 n5 c5)).2 (by omega)).rds
        simpa using q
      · exact below_put (ext_trans HB1.out B5.out) (ext_trans HB1.out B5.out).size (put2 (HZ.out w5 B5.out) _ _).2 (by omega)
      · intro g hg _ _ _
        exact O5.out.off (by have := HB1.out.size; omega)
    · skip
      have HC := hidIt (show jnd ⟨0, s⟩ ⟨1, t⟩ = ⟨1, (((s ++ (rlb t)) ++ t) ++ ([]))⟩ by unfold jnd; rw [if_neg hs, if_neg ht]; rfl)
      clear hs ht
      go_enter Try.func99, Try.ntmps99
      go_upto_region 1 with fail
      rw [← hw1]
      clear hw1
      go_upto_region 6 with (at_builtin; refine wpl_intsF rfl _ _ 29 rfl w1.heap.size Try.info_i64 Try.underlying29 _ ([]) rfl (OwnI.nil _ _) _ (s) rfl (HV.out) (by have := HRS.out; have := HRT.out; simp; omega) (Nat.le_refl _) ?_; intro v2 w2 own2 hb2; obtain ⟨a2, n2, c2, e2⟩ := own2.form; subst e2; have O2 := hidIt own2; have B2 := hidIt ((Below.refl w1.heap.size w1).trans hb2); clear own2 hb2)
      clear a0 a1 b0 b1
      obtain ⟨a0, a1, b0, b1⟩ := HS.out w2 B2.out
      go_upto_region 8 with (first | (go_at_call 98; refine (r_lastBreak_any _ (t) w2 (HU.out.ext B2.out)).mono ?_; rintro e w3 ⟨v3, rfl, hr3, hb3⟩; obtain ⟨ra3, rc3, re3, _⟩ := hr3.len; subst re3; have R3 := hidIt hr3; have B3 := hidIt (ext_trans (B2.out) hb3); have hbb3 := hb3; clear hb3 hr3; have R3B := hidIt (show Below w2.heap.size w2 w3 from hbb3); (try dsimp only)) | (at_builtin; refine wpl_intsF rfl _ _ 29 rfl w1.heap.size Try.info_i64 Try.underlying29 _ ([] ++ s) rfl (O2.out.ext (R3B.out)) _ (rlb t) rfl (R3.out) (by have := HRS.out; have := HRT.out; simp; omega) ((B3.out).size) ?_; intro v4 w4 own4 hb4; obtain ⟨a4, n4, c4, e4⟩ := own4.form; subst e4; have O4 := hidIt own4; have B4 := hidIt ((B3.out).trans hb4); clear own4 hb4))
      clear a0 a1 b0 b1
      obtain ⟨a0, a1, b0, b1⟩ := HS.out w4 B4.out
      go_upto_region 9 with (at_builtin; refine wpl_intsF rfl _ _ 29 rfl w1.heap.size Try.info_i64 Try.underlying29 _ ([] ++ s ++ rlb t) rfl (O4.out) _ (t) rfl (HU.out.ext B4.out) (by have := HRS.out; have := HRT.out; simp; omega) ((B4.out).size) ?_; intro v5 w5 own5 hb5; obtain ⟨a5, n5, c5, e5⟩ := own5.form; subst e5; have O5 := hidIt own5; have B5 := hidIt ((B4.out).trans hb5); clear own5 hb5)
      clear a0 a1 b0 b1
      obtain ⟨a0, a1, b0, b1⟩ := HS.out w5 B5.out
      obtain ⟨_, z0, z1, fz⟩ := cells2 (HZ.out w5 B5.out)
      go_wp2_with fail
      simp only [show max (0 : Int) 1 = 1 from rfl]
      refine bodyPost_ret (v := .agg #[.int .i64 1, .slice a5 n5 c5]) (by simp [results, Try.results99, go_sem, z0, z1]) rfl ⟨_, by rw [HC.out], ?_, ?_, ?_⟩
      · rw [HC.out]
        have q := (O5.out.other (put2 (HZ.out w5 B5.out) (.int .i64 1) (.slice a5 n5 c5)).2 (by omega)).rds
        simpa using q
      · exact below_put (ext_trans HB1.out B5.out) (ext_trans HB1.out B5.out).size (put2 (HZ.out w5 B5.out) _ _).2 (by omega)
      · intro g hg _ _ _
        exact O5.out.off (by have := HB1.out.size; omega)
  · rcases hj with rfl | rfl
    · skip
      have HC := hidIt (show jnd ⟨1, s⟩ ⟨0, t⟩ = ⟨1, (((s ++ ([])) ++ t) ++ (rlb s))⟩ by unfold jnd; rw [if_neg hs, if_neg ht]; rfl)
      clear hs ht
      go_enter Try.func99, Try.ntmps99
      go_upto_region 1 with fail
      rw [← hw1]
      clear hw1
      go_upto_region 6 with (at_builtin; refine wpl_intsF rfl _ _ 29 rfl w1.heap.size Try.info_i64 Try.underlying29 _ ([]) rfl (OwnI.nil _ _) _ (s) rfl (HV.out) (by have := HRS.out; have := HRT.out; simp; omega) (Nat.le_refl _) ?_; intro v2 w2 own2 hb2; obtain ⟨a2, n2, c2, e2⟩ := own2.form; subst e2; have O2 := hidIt own2; have B2 := hidIt ((Below.refl w1.heap.size w1).trans hb2); clear own2 hb2)
      clear a0 a1 b0 b1
      obtain ⟨a0, a1, b0, b1⟩ := HS.out w2 B2.out
      go_upto_region 9 with (at_builtin; refine wpl_intsF rfl _ _ 29 rfl w1.heap.size Try.info_i64 Try.underlying29 _ ([] ++ s) rfl (O2.out) _ (t) rfl (HU.out.ext B2.out) (by have := HRS.out; have := HRT.out; simp; omega) ((B2.out).size) ?_; intro v5 w5 own5 hb5; obtain ⟨a5, n5, c5, e5⟩ := own5.form; subst e5; have O5 := hidIt own5; have B5 := hidIt ((B2.out).trans hb5); clear own5 hb5)
      clear a0 a1 b0 b1
      obtain ⟨a0, a1, b0, b1⟩ := HS.out w5 B5.out
      go_upto_region 11 with (first | (go_at_call 98; refine (r_lastBreak_any _ (s) w5 (HV.out.ext B5.out)).mono ?_; rintro e w6 ⟨v6, rfl, hr6, hb6⟩; obtain ⟨ra6, rc6, re6, _⟩ := hr6.len; subst re6; have R6 := hidIt hr6; have B6 := hidIt (ext_trans (B5.out) hb6); have hbb6 := hb6; clear hb6 hr6; have R6B := hidIt (show Below w5.heap.size w5 w6 from hbb6); (try dsimp only)) | (at_builtin; refine wpl_intsF rfl _ _ 29 rfl w1.heap.size Try.info_i64 Try.underlying29 _ ([] ++ s ++ t) rfl (O5.out.ext (R6B.out)) _ (rlb s) rfl (R6.out) (by have := HRS.out; have := HRT.out; simp; omega) ((B6.out).size) ?_; intro v7 w7 own7 hb7; obtain ⟨a7, n7, c7, e7⟩ := own7.form; subst e7; have O7 := hidIt own7; have B7 := hidIt ((B6.out).trans hb7); clear own7 hb7))
      clear a0 a1 b0 b1
      obtain ⟨a0, a1, b0, b1⟩ := HS.out w7 B7.out
      obtain ⟨_, z0, z1, fz⟩ := cells2 (HZ.out w7 B7.out)
      go_wp2_with fail
      simp only [show max (1 : Int) 0 = 1 from rfl]
      refine bodyPost_ret (v := .agg #[.int .i64 1, .slice a7 n7 c7]) (by simp [results, Try.results99, go_sem, z0, z1]) rfl ⟨_, by rw [HC.out], ?_, ?_, ?_⟩
      · rw [HC.out]
        have q := (O7.out.other (put2 (HZ.out w7 B7.out) (.int .i64 1) (.slice a7 n7 c7)).2 (by omega)).rds
        simpa using q
      · exact below_put (ext_trans HB1.out B7.out) (ext_trans HB1.out B7.out).size (put2 (HZ.out w7 B7.out) _ _).2 (by omega)
      · intro g hg _ _ _
        exact O7.out.off (by have := HB1.out.size; omega)
    · skip
      have HC := hidIt (show jnd ⟨1, s⟩ ⟨1, t⟩ = ⟨1, (((s ++ ([])) ++ t) ++ ([]))⟩ by unfold jnd; rw [if_neg hs, if_neg ht]; rfl)
      clear hs ht
      go_enter Try.func99, Try.ntmps99
      go_upto_region 1 with fail
      rw [← hw1]
      clear hw1
      go_upto_region 6 with (at_builtin; refine wpl_intsF rfl _ _ 29 rfl w1.heap.size Try.info_i64 Try.underlying29 _ ([]) rfl (OwnI.nil _ _) _ (s) rfl (HV.out) (by have := HRS.out; have := HRT.out; simp; omega) (Nat.le_refl _) ?_; intro v2 w2 own2 hb2; obtain ⟨a2, n2, c2, e2⟩ := own2.form; subst e2; have O2 := hidIt own2; have B2 := hidIt ((Below.refl w1.heap.size w1).trans hb2); clear own2 hb2)
      clear a0 a1 b0 b1
      obtain ⟨a0, a1, b0, b1⟩ := HS.out w2 B2.out
      go_upto_region 9 with (at_builtin; refine wpl_intsF rfl _ _ 29 rfl w1.heap.size Try.info_i64 Try.underlying29 _ ([] ++ s) rfl (O2.out) _ (t) rfl (HU.out.ext B2.out) (by have := HRS.out; have := HRT.out; simp; omega) ((B2.out).size) ?_; intro v5 w5 own5 hb5; obtain ⟨a5, n5, c5, e5⟩ := own5.form; subst e5; have O5 := hidIt own5; have B5 := hidIt ((B2.out).trans hb5); clear own5 hb5)
      clear a0 a1 b0 b1
      obtain ⟨a0, a1, b0, b1⟩ := HS.out w5 B5.out
      obtain ⟨_, z0, z1, fz⟩ := cells2 (HZ.out w5 B5.out)
      go_wp2_with fail
      refine bodyPost_ret (v := .agg #[.int .i64 1, .slice a5 n5 c5]) (by simp [results, Try.results99, go_sem, z0, z1]) rfl ⟨_, by rw [HC.out], ?_, ?_, ?_⟩
      · rw [HC.out]
        have q := (O5.out.other (put2 (HZ.out w5 B5.out) (.int .i64 1) (.slice a5 n5 c5)).2 (by omega)).rds
        simpa using q
      · exact below_put (ext_trans HB1.out B5.out) (ext_trans HB1.out B5.out).size (put2 (HZ.out w5 B5.out) _ _).2 (by omega)
      · intro g hg _ _ _
        exact O5.out.off (by have := HB1.out.size; omega)
end Go.Proofs.Ytmldfjhfgaggpaa
