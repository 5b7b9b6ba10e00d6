/- RegisterAppend, as a walk. -/
import Derived.Test.YtmldfjhfgaggpaaGRingL
namespace Go.Proofs.Ytmldfjhfgaggpaa
open Go.RowKit

section
variable {W : World} {ops : Array Oper} {rest : List Oper} {o : Oper} {a : Act} {Q : Exit → Act → World → Prop}
set_option maxRecDepth 100000 in
/-- append(all, s...), and the bank stays. -/
theorem wpl_grow (hgd : o.guard = none) (s x : Operand) (ho : o.op = .call { callee := .builtin .append, args := #[s, x], argTypes := #[29, 29] })
    (base : Nat) (v : Value) (zs : List Int) (hs : a.eval s = v) (hown : OwnI W base v zs) (u : Value) (ys : List Int) (hx : a.eval x = u) (hu : RdS W u ys) (hl : (zs.length + ys.length) * 8 ≤ 140737488355328) (hbase : base ≤ W.heap.size) (hz : zs ≠ [])
    (h : ∀ v' w', OwnI w' base v' (zs ++ ys) → Below base W w' → (∀ (b bm N : Nat) (m : Int → Option Rg) (p : Int), Bk (FL b v) W b bm N m p → Bk (FL b v') w' b bm N m p) → wpList Try.prog ops Q rest (a.put o.dst v') w') : wpList Try.prog ops Q (o :: rest) a W := by
  obtain ⟨i0, hi, hz0, hz1, hz2⟩ := info_parts Try.info_i64
  obtain ⟨hr, hsl⟩ := hu
  rcases hsl with rfl | ⟨ad, n, c, rfl⟩
  · have : ys = [] := by
      obtain ⟨ao, cap, hv, _⟩ := hr
      have : ys.length = 0 := by injection hv with _ h2 _; omega
      exact List.length_eq_zero_iff.1 this
    subst this
    refine wpList_append_own_none hgd s x 29 ho base 3 i0 1 Try.underlying29 hi v zs.length (zs.map (Value.int .i64)) hs hown hx ?_
    exact h v W (by rw [List.append_nil]; exact hown) (Below.refl _ _) (fun _ _ _ _ _ hB => hB)
  · obtain ⟨hn, hc⟩ := rd_cells hr
    subst hn
    refine wpList_append_blk W hgd s x 29 ho base 3 i0 (.int .i64 0) 1 8 Try.underlying29 hi hz0 hz1 hz2 rfl (by decide) v zs.length (zs.map (Value.int .i64)) hs hown ad ys.length c (ys.map (Value.int .i64)) hx (by simp) hc (one_all _ _) (by unfold maxLen; omega) (by omega) hbase (fun e => ?_) ?_
    · subst e
      obtain ⟨ao, cc, e, _⟩ := hown.rds.len
      have : zs.length = 0 := by injection e with _ h2 _; omega
      exact absurd (List.length_eq_zero_iff.1 this) hz
    intro v' w' h1 h2 h3
    refine h v' w' ?_ ((Below.refl _ _).grown h2 hbase (fun k hk => (World.ownsRow.lt hown k hk).1)) (fun b bm N m p hB => hB.push hown h1 (by decide) h2 h3)
    unfold OwnI
    rw [List.length_append, List.map_append]
    exact h1
end
theorem great_name {n : Int} (h1 : 97 ≤ n) (h2 : n ≤ 122) : grB (n - 32) = true ∧ unB (n - 32) = false ∧ nmB (n - 32) = true ∧ rdB (n - 32) = false ∧ sml (n - 32) = n ∧ (n - 32 == 95) = false := by
  have hg : grB (n - 32) = true := by unfold grB; simp; omega
  refine ⟨hg, by unfold unB; simp; omega, by unfold nmB; rw [hg]; simp, by unfold rdB; simp; omega, by unfold sml; rw [hg]; simp, by simp; omega⟩
theorem cls0 (t : List Int) : cls 0 t = t := by unfold cls; rfl
theorem yank_great (s : Bs) {n : Int} (h1 : 97 ≤ n) (h2 : n ≤ 122) (t : List Int) : yankB s (n - 32) ⟨0, t⟩ = takeB s (n - 32) ⟨0, t⟩ ∧ deleteB s (n - 32) ⟨0, t⟩ = takeB s (n - 32) ⟨0, t⟩ := by
  obtain ⟨_, g2, g3, g4, _⟩ := great_name h1 h2
  have hr : refE (n - 32) 0 = 0 := by unfold refE; rw [g3, g4]; rfl
  unfold yankB deleteB
  rw [if_pos hr, if_pos hr, g2]
  exact ⟨rfl, rfl⟩
theorem nxt_great {s : Bs} {n : Int} (h1 : 97 ≤ n) (h2 : n ≤ 122) {As t : List Int} (hm : s.m n = some ⟨0, As⟩) : nxt s.m (n - 32) ⟨0, t⟩ = ⟨0, As ++ t⟩ := by
  obtain ⟨g1, _, _, _, g5, _⟩ := great_name h1 h2
  unfold nxt
  rw [g5, hm, g1]
  simp only [if_true]
  rw [cls0]
  unfold apd
  rw [if_pos rfl]
theorem take_great {s : Bs} {n : Int} (h1 : 97 ≤ n) (h2 : n ≤ 122) {As t : List Int} (hm : s.m n = some ⟨0, As⟩) (hl : As.length + t.length ≤ 140000) : ∃ s' : Bs, takeB s (n - 32) ⟨0, t⟩ = (0, s') ∧ s'.m n = some ⟨0, As ++ t⟩ := by
  obtain ⟨_, _, _, _, g5, g6⟩ := great_name h1 h2
  cases hn : nil? ⟨0, t⟩
  · rw [takeB_some (x := ⟨0, As ++ t⟩) (by rw [g6, hn]; rfl) (by unfold wrtn; rw [nxt_great h1 h2 hm, if_neg (by simp only [List.length_append]; omega)]), g5]
    exact ⟨_, rfl, upd_at _ _ _⟩
  · have ht : t = [] := by
      unfold nil? at hn
      simp at hn
      exact hn
    rw [takeB_skip (by rw [hn]; simp), ht, List.append_nil]
    exact ⟨_, rfl, hm⟩
theorem take_long {s : Bs} {n : Int} (h1 : 97 ≤ n) (h2 : n ≤ 122) {As t : List Int} (hm : s.m n = some ⟨0, As⟩) (ha : As.length ≤ 140000) (hl : 140000 < As.length + t.length) : takeB s (n - 32) ⟨0, t⟩ = (3, s) := by
  obtain ⟨_, _, _, _, _, g6⟩ := great_name h1 h2
  have ht : t ≠ [] := by intro e; rw [e] at hl; simp at hl; omega
  exact takeB_none (by rw [g6, nil_not ht]; rfl) (by unfold wrtn; rw [nxt_great h1 h2 hm, if_pos (.inr (by simp only [List.length_append]; omega))])
theorem get_both {m : Int → Option Rg} {p n : Int} {x : Rg} (h1 : 97 ≤ n) (h2 : n ≤ 122) (hm : m n = some x) : getB m p n = (0, some x) ∧ getB m p (n - 32) = (0, some x) := by
  obtain ⟨_, g2, g3, _, g5, _⟩ := great_name h1 h2
  obtain ⟨_, p2, p3, _, p5, _⟩ := plain_name (q := n) (.inl ⟨h1, h2⟩)
  constructor
  · unfold getB; rw [p3, p2]; simp only [if_true, Bool.false_eq_true, if_false]; rw [p5, hm]
  · unfold getB; rw [g3, g2]; simp only [if_true, Bool.false_eq_true, if_false]; rw [g5, hm]
theorem own_lit1 (w : World) (x : Int) (base : Nat) (hb : base ≤ w.heap.size) : OwnI (w.alloc (.cells #[.int .i64 x] 3)) base (.slice (some ⟨w.heap.size, 0, none⟩) 1 1) [x] :=
  ⟨rfl, .inr ⟨w.heap.size, 1, #[.int .i64 x], rfl, hb, heap_alloc_new _ _, Nat.le_refl _, by decide, rfl, rfl⟩⟩

set_option maxRecDepth 100000 in
set_option maxHeartbeats 8000000 in
theorem appendLaw_any (v : Value) (xs : List Sv) (n : Int) (u : Value) (ls : List (List Int)) (w : World) (h : RdT w v xs) (hn : In64 n) (hu : RdL w u ls) :
    Calls Try.prog 3 #[v, .int .i64 n, u] w fun e w' => e = .returned (.bool true) ∧ Below w.heap.size w w' := by
  have AB := hidIt (able_any w)
  have H := hidIt h
  have HU := hidIt hu
  have HNI := hidIt hn
  have hxl : xs.length ≤ 140737488351232 := by obtain ⟨_, _, _, _, _, h4, _⟩ := h; exact h4
  obtain ⟨ut, uc, rfl, hu1, hu2, hu3, _⟩ := hu
  have HLS := hidIt hu3
  clear h hu3 hn
  go_enter Try.func3, Try.ntmps3
  go_upto_region 3 with (go_at_call 12; refine AB.out.mono ?_; rintro e w1 ⟨rfl, hb1⟩; have HB1 := hidIt hb1; clear hb1; (try dsimp only))
  by_cases hn1 : n < 97
  · go_wp2_with fail
    go_ret
    exact ⟨rfl, HB1.out⟩
  by_cases hn2 : n > 122
  · go_wp2_with fail
    go_ret
    exact ⟨rfl, HB1.out⟩
  by_cases h1000 : (ls.length : Int) > 1000
  · go_wp2_with fail
    go_ret
    exact ⟨rfl, HB1.out⟩
  have BA := hidIt (bank_any v xs w1 (H.out.ext HB1.out))
  go_upto_region 6 with (go_at_call 13; refine BA.out.mono ?_; rintro e w2 ⟨b, bm, rfl, ⟨s0, hbk⟩, h1, h2, hb⟩; have HB2 := hidIt (ext_trans HB1.out hb); have HBK2 := hidIt hbk; have HBB := hidIt (show w.heap.size ≤ b ∧ w.heap.size ≤ bm from ⟨Nat.le_trans HB1.out.size h1, Nat.le_trans HB1.out.size h2⟩); clear hb hbk h1 h2; (try dsimp only))
  have hy : yankB s0 n ⟨0, [7]⟩ = (0, ⟨upd s0.m n (some ⟨0, [7]⟩), n⟩) := by
    have hpl : (97 ≤ n ∧ n ≤ 122) ∨ (48 ≤ n ∧ n ≤ 57) ∨ n = 45 := .inl ⟨by omega, by omega⟩
    obtain ⟨_, p2, p3, p4, _⟩ := plain_name hpl
    unfold yankB
    rw [if_pos (by unfold refE; rw [p3, p4]; rfl), p2]
    simp only [Bool.false_eq_true, if_false]
    rw [take_plain (s := s0) (r := ⟨0, [7]⟩) hpl (by simp) (by simp)]
    rfl
  have YK0 : Hid (∀ w9, Below w2.heap.size w2 w9 → ∀ q, RdS w9 q [7] → Calls Try.prog 14 #[.pointer (some ⟨b, 0, none⟩), .int .i64 n, .agg #[.int .i64 0, q]] w9 (OpR (F1 b) w9 b bm (9 * xs.length + 9) (0, ⟨upd s0.m n (some ⟨0, [7]⟩), n⟩))) := fun w9 hb q hq => by
    have h := Yank_any w9 b bm (9 * xs.length) s0 n ⟨0, [7]⟩ q (HBK2.out.ext hb) hq HNI.out (by omega)
    rw [hy] at h
    exact h
  clear hy
  go_upto_region 8 with (go_at_call 14; refine (YK0.out _ (ext_alloc (Below.refl _ _) _) _ (rds_one _ _)).mono ?_; rintro e w3 ⟨rfl, hbk, hkb⟩; have BK3 := hidIt hbk; have KB3 := hidIt hkb; clear hbk hkb; (try dsimp only))
  have HW2 := hidIt (ext_alloc HB2.out (.cells #[.int .i64 7] 3))
  have HW3 := hidIt (HW2.out.trans (KB3.out.below HBB.out.1 HBB.out.2 HW2.out.size))
  go_upto_region 9 with fail
  generalize hw4 : World.alloc _ _ = w4
  have HO4 : Hid (OwnI w4 w.heap.size (.slice (some ⟨w3.heap.size, 0, none⟩) 1 1) [7]) := by unfold Hid; rw [← hw4]; exact own_lit1 _ _ _ HW3.out.size
  have HB34 : Hid (Below w3.heap.size w3 w4 ∧ w3.heap.size < w4.heap.size) := by unfold Hid; rw [← hw4]; exact ⟨ext_alloc (Below.refl _ _) _, by simp⟩
  clear hw4
  have BK4 := hidIt (BK3.out.avoid (F' := FL b (.slice (some ⟨w3.heap.size, 0, none⟩) 1 1)) HB34.out.1 (.inl rfl) (fun q hq => by
    rcases hq with rfl | hq
    · exact ⟨Nat.lt_of_lt_of_le BK3.out.lt.1 HB34.out.1.size, .inl rfl⟩
    · cases hq; exact ⟨HB34.out.2, .inr (Nat.le_refl _)⟩))
  go_wp2_with fail
  go_loopw [8, 9] (fun l i wr => ∃ k : Nat, k ≤ ls.length ∧ i = .int .i64 k ∧ ∃ (s : Bs) (As : List Int), As ≠ [] ∧ As.length ≤ 140000 ∧ Bk (FL b l) wr b bm (9 * xs.length + 9 + 9 * k) s.m s.p ∧ s.m n = some ⟨0, As⟩ ∧ OwnI wr w.heap.size l As ∧ (∃ ao nn c, l = .slice ao nn c ∧ nn = As.length) ∧ Below w.heap.size w wr) (fun _ i _ => ls.length - (RowKit.intOf i).toNat)
  case atStart => exact ⟨0, Nat.zero_le _, rfl, ⟨upd s0.m n (some ⟨0, [7]⟩), n⟩, [7], by simp, by simp, BK4.out, upd_at _ _ _, HO4.out, ⟨_, _, _, rfl, rfl⟩, HW3.out.trans (HB34.out.1.mono HW3.out.size)⟩
  case round =>
    obtain ⟨k, hk, rfl, s, As, han, hal, hbk, hsm, hol, ⟨la, ln, lc, rfl, hln⟩, hbw⟩ := hrel
    have HBK := hidIt hbk
    have HAN := hidIt han
    have HSM := hidIt hsm
    have HO := hidIt hol
    have HBW := hidIt hbw
    have HLN := hidIt hln
    clear hbk hsm hol hbw han hln
    by_cases hlt : k < ls.length
    · obtain ⟨x, hx⟩ : ∃ x, ls[k]? = some x := ⟨_, List.getElem?_eq_getElem hlt⟩
      obtain ⟨ao', cap', hv', _, _, _, h6⟩ := HU.out
      cases hv'
      obtain ⟨pb, po, ea, hpb, hc⟩ := h6 (by intro e; rw [e] at hlt; simp at hlt)
      subst ea
      obtain ⟨pv, c0, c1⟩ := hc k x hx
      obtain ⟨pa, pn, pc, epv, hpn⟩ : ∃ ao n c, pv = .slice ao n c ∧ n = x.length := let ⟨ao, c, e, _⟩ := c1.len; ⟨ao, _, c, e, rfl⟩
      subst epv
      have HC : Hid (∀ w', Below w.heap.size w w' → w'.cell? ⟨pb, po + k, none⟩ = some (.slice pa pn pc) ∧ RdS w' (.slice pa pn pc) x) := fun w' hb => ⟨(hb.cell (p := ⟨pb, po + k, none⟩) hpb).trans c0, c1.ext hb⟩
      have HX8 := hidIt (HLS.out x (List.mem_of_getElem? hx))
      have HPN := hidIt hpn
      clear c0 hc h6 c1 hpn hx
      have c0 := (HC.out wr HBW.out).1
      have hi1 : (k : Int) < (ls.length : Int) := by omega
      have hwr : IntKind.i64.wrap ((ln : Int) + (pn : Int)) = (ln : Int) + (pn : Int) := by
        have := HX8.out
        have := HPN.out
        have := HLN.out
        rw [IntKind.wrap_i64]
        omega
      have hw32 : IntKind.i64.wrap (n - 32) = n - 32 := by rw [IntKind.wrap_i64]; omega
      by_cases hbig : (ln : Int) + (pn : Int) > 140000
      · have hyl : yankB s (n - 32) ⟨0, x⟩ = (3, s) := (yank_great s (by omega) (by omega) x).1.trans (take_long (by omega) (by omega) HSM.out hal (by have := HLN.out; have := HPN.out; omega))
        have YK : Hid (∀ w9, Below wr.heap.size wr w9 → ∀ q, RdS w9 q x → Calls Try.prog 14 #[.pointer (some ⟨b, 0, none⟩), .int .i64 (n - 32), .agg #[.int .i64 0, q]] w9 (OpR (FL b (.slice la ln lc)) w9 b bm (9 * xs.length + 9 + 9 * k + 9) (3, s))) := fun w9 hb q hq => by
          have h := Yank_any w9 b bm (9 * xs.length + 9 + 9 * k) s (n - 32) ⟨0, x⟩ q (HBK.out.ext hb) hq (In64.of (by omega) (by omega)) (by omega)
          rw [hyl] at h
          exact h
        clear hyl
        go_wp2_with (first | (at_builtin; refine wpl_ints rfl _ _ 29 rfl wr.heap.size Try.info_i64 Try.underlying29 _ [] rfl (OwnI.nil _ _) _ x rfl (HC.out wr HBW.out).2 (by have := HX8.out; simp; omega) (Nat.le_refl _) ?_; intro v3 w3 own3 hb3; obtain ⟨a3, n3, c3, e3⟩ := own3.form; subst e3; have HV3 := hidIt (show OwnI w3 wr.heap.size (.slice a3 n3 c3) x from own3); have HB3 := hidIt hb3; clear own3 hb3) | (go_at_call 14; refine (YK.out _ HB3.out _ HV3.out.rds).mono ?_; rintro e w4' ⟨rfl, hbk4, hkb4⟩; have BK5 := hidIt hbk4; have KB5 := hidIt hkb4; clear hbk4 hkb4; (try dsimp only)) | (go_at_call 15; refine (holds_any _ b bm _ s.m s.p n ⟨0, As⟩ _ BK5.out HNI.out (get_both (by omega) (by omega) HSM.out).1 ((HO.out.ext HB3.out).kb KB5.out (HBK.out.ext HB3.out)).rd).mono ?_; rintro e w6 ⟨rfl, hb6⟩; have HB6 := hidIt hb6; clear hb6; (try dsimp only)))
        go_ret
        have HW5 := (HBW.out.trans (HB3.out.mono HBW.out.size)).trans (KB5.out.below HBB.out.1 HBB.out.2 (HBW.out.trans (HB3.out.mono HBW.out.size)).size)
        exact ⟨rfl, HW5.trans (HB6.out.mono HW5.size)⟩
      have hAx : As.length + x.length ≤ 140000 := by have := HLN.out; have := HPN.out; omega
      obtain ⟨s1, ht1, hm1⟩ := take_great (t := x) (show 97 ≤ n by omega) (by omega) HSM.out hAx
      have HM1 := hidIt hm1
      have YK : Hid (∀ w9, Below wr.heap.size wr w9 → ∀ q, RdS w9 q x → Calls Try.prog 14 #[.pointer (some ⟨b, 0, none⟩), .int .i64 (n - 32), .agg #[.int .i64 0, q]] w9 (OpR (FL b (.slice la ln lc)) w9 b bm (9 * xs.length + 9 + 9 * k + 9) (0, s1))) := fun w9 hb q hq => by
        have h := Yank_any w9 b bm (9 * xs.length + 9 + 9 * k) s (n - 32) ⟨0, x⟩ q (HBK.out.ext hb) hq (In64.of (by omega) (by omega)) (by omega)
        rw [(yank_great s (by omega) (by omega) x).1, ht1] at h
        exact h
      have DL : Hid (∀ w9, Below wr.heap.size wr w9 → ∀ q, RdS w9 q x → Calls Try.prog 16 #[.pointer (some ⟨b, 0, none⟩), .int .i64 (n - 32), .agg #[.int .i64 0, q]] w9 (OpR (FL b (.slice la ln lc)) w9 b bm (9 * xs.length + 9 + 9 * k + 9) (0, s1))) := fun w9 hb q hq => by
        have h := Delete_any w9 b bm (9 * xs.length + 9 + 9 * k) s (n - 32) ⟨0, x⟩ q (HBK.out.ext hb) hq (In64.of (by omega) (by omega)) (by omega)
        rw [(yank_great s (by omega) (by omega) x).2, ht1] at h
        exact h
      clear ht1 hm1
      by_cases hev : k % 2 = 0
      · have hrem : ((k : Int) % 2 == 0) = true := by rw [beq_iff_eq]; omega
        clear hev
        go_upto_region 20 with (first | (at_builtin; refine wpl_ints rfl _ _ 29 rfl wr.heap.size Try.info_i64 Try.underlying29 _ [] rfl (OwnI.nil _ _) _ x rfl (HC.out wr HBW.out).2 (by have := HX8.out; simp; omega) (Nat.le_refl _) ?_; intro v3 w3 own3 hb3; obtain ⟨a3, n3, c3, e3⟩ := own3.form; subst e3; have HV3 := hidIt (show OwnI w3 wr.heap.size (.slice a3 n3 c3) x from own3); have HB3 := hidIt hb3; clear own3 hb3) | (go_at_call 14; refine (YK.out _ HB3.out _ HV3.out.rds).mono ?_; rintro e w4 ⟨rfl, hbk4, hkb4⟩; have BK4 := hidIt hbk4; have KB4 := hidIt hkb4; clear hbk4 hkb4; (try dsimp only)))
        have HW4 := hidIt ((HBW.out.trans (HB3.out.mono HBW.out.size)).trans (KB4.out.below HBB.out.1 HBB.out.2 (HBW.out.trans (HB3.out.mono HBW.out.size)).size))
        have HO4 := hidIt ((HO.out.ext HB3.out).kb KB4.out (HBK.out.ext HB3.out))
        clear c0
        have c0 := (HC.out w4 HW4.out).1
        go_wp2_with (at_builtin; refine wpl_grow rfl _ _ rfl w.heap.size _ _ rfl HO4.out _ x rfl (HC.out w4 HW4.out).2 (by have := HX8.out; omega) HW4.out.size HAN.out ?_; intro v8 w8 ol8 hb8 bk8; have BK8 := hidIt (bk8 b bm _ _ _ BK4.out); clear bk8; obtain ⟨a8, n8, c8, e8, hn8⟩ := ol8.formn; subst e8; have HO8 := hidIt ol8; have HB8 := hidIt hb8; have HN8 := hidIt hn8; clear ol8 hb8 hn8)
        go_roundw
        case rel => exact ⟨k + 1, by omega, by go_num, s1, As ++ x, by simp [HAN.out], by rw [List.length_append]; omega, BK8.out.mono (by omega), HM1.out, HO8.out, ⟨_, _, _, rfl, HN8.out⟩, HW4.out.trans HB8.out⟩
        case measure => simp [RowKit.intOf]; omega
      · have hrem : ((k : Int) % 2 == 0) = false := by rw [beq_eq_false_iff_ne]; omega
        clear hev
        go_upto_region 20 with (first | (at_builtin; refine wpl_ints rfl _ _ 29 rfl wr.heap.size Try.info_i64 Try.underlying29 _ [] rfl (OwnI.nil _ _) _ x rfl (HC.out wr HBW.out).2 (by have := HX8.out; simp; omega) (Nat.le_refl _) ?_; intro v3 w3 own3 hb3; obtain ⟨a3, n3, c3, e3⟩ := own3.form; subst e3; have HV3 := hidIt (show OwnI w3 wr.heap.size (.slice a3 n3 c3) x from own3); have HB3 := hidIt hb3; clear own3 hb3) | (go_at_call 16; refine (DL.out _ HB3.out _ HV3.out.rds).mono ?_; rintro e w4 ⟨rfl, hbk4, hkb4⟩; have BK4 := hidIt hbk4; have KB4 := hidIt hkb4; clear hbk4 hkb4; (try dsimp only)))
        have HW4 := hidIt ((HBW.out.trans (HB3.out.mono HBW.out.size)).trans (KB4.out.below HBB.out.1 HBB.out.2 (HBW.out.trans (HB3.out.mono HBW.out.size)).size))
        have HO4 := hidIt ((HO.out.ext HB3.out).kb KB4.out (HBK.out.ext HB3.out))
        clear c0
        have c0 := (HC.out w4 HW4.out).1
        go_wp2_with (at_builtin; refine wpl_grow rfl _ _ rfl w.heap.size _ _ rfl HO4.out _ x rfl (HC.out w4 HW4.out).2 (by have := HX8.out; omega) HW4.out.size HAN.out ?_; intro v8 w8 ol8 hb8 bk8; have BK8 := hidIt (bk8 b bm _ _ _ BK4.out); clear bk8; obtain ⟨a8, n8, c8, e8, hn8⟩ := ol8.formn; subst e8; have HO8 := hidIt ol8; have HB8 := hidIt hb8; have HN8 := hidIt hn8; clear ol8 hb8 hn8)
        go_roundw
        case rel => exact ⟨k + 1, by omega, by go_num, s1, As ++ x, by simp [HAN.out], by rw [List.length_append]; omega, BK8.out.mono (by omega), HM1.out, HO8.out, ⟨_, _, _, rfl, HN8.out⟩, HW4.out.trans HB8.out⟩
        case measure => simp [RowKit.intOf]; omega
    · have hkl : k = ls.length := by omega
      subst hkl
      clear hlt
      have hw32 : IntKind.i64.wrap (n - 32) = n - 32 := by rw [IntKind.wrap_i64]; omega
      have hgb := get_both (p := s.p) (show 97 ≤ n by omega) (by omega) HSM.out
      have H1 := hidIt (holds_any wr b bm _ s.m s.p n ⟨0, As⟩ _ HBK.out HNI.out hgb.1 HO.out.rd)
      have H2 : Hid (∀ w', Below wr.heap.size wr w' → Calls Try.prog 15 #[.pointer (some ⟨b, 0, none⟩), .int .i64 (n - 32), .int .i64 0, .slice la ln lc] w' fun e w'' => e = .returned (.bool true) ∧ Below w'.heap.size w' w'') := fun w' hb => holds_any w' b bm _ s.m s.p (n - 32) ⟨0, As⟩ _ (HBK.out.ext hb) (In64.of (by omega) (by omega)) hgb.2 (HO.out.ext hb).rd
      clear hgb
      go_wp2_with (go_at_call 15; first | (refine H1.out.mono ?_; rintro e w7 ⟨rfl, hb7⟩; have B7 := hidIt hb7; clear hb7 H1; (try dsimp only)) | (refine (H2.out _ B7.out).mono ?_; rintro e w8 ⟨rfl, hb8⟩; have B8 := hidIt (ext_trans B7.out hb8); clear hb8; (try dsimp only)))
      go_ret
      exact ⟨rfl, HBW.out.trans (B8.out.mono HBW.out.size)⟩
end Go.Proofs.Ytmldfjhfgaggpaa
