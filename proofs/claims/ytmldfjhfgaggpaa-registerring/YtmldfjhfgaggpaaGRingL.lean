/- RegisterRing, as a walk. -/
import Derived.Test.YtmldfjhfgaggpaaGLast
import Derived.Test.YtmldfjhfgaggpaaGNest
import Derived.Test.YtmldfjhfgaggpaaGApB
namespace Go.Proofs.Ytmldfjhfgaggpaa
open Go.RowKit

/-- A row of the call's own that holds lists, each of its own. -/
def OwnL (w : World) (base : Nat) (v : Value) (ls : List (List Int)) : Prop := ∃ vs : List Value, vs.length = ls.length ∧ w.ownsRow base 29 1 v vs.length vs ∧ (∀ u ∈ vs, ∃ ao n c, u = .slice ao n c) ∧ ∀ (i : Nat) (u : Value) (x : List Int), vs[i]? = some u → ls[i]? = some x → OwnI w base u x
theorem OwnL.nil (w : World) (base : Nat) : OwnL w base (.slice none 0 0) [] := ⟨[], rfl, ⟨rfl, .inl ⟨rfl, rfl⟩⟩, (fun _ h => by cases h), fun i u x h => by simp at h⟩
theorem OwnL.ext {w w' : World} {base : Nat} {v : Value} {ls : List (List Int)} (h : OwnL w base v ls) (hb : Below w.heap.size w w') : OwnL w' base v ls := by
  obtain ⟨vs, h1, h2, h3, h4⟩ := h
  exact ⟨vs, h1, own_ext h2 hb, h3, fun i u x hu hx => (h4 i u x hu hx).ext hb⟩
theorem OwnL.kb {F : Nat → Prop} {b bm N base : Nat} {m : Int → Option Rg} {p : Int} {w w' : World} {v : Value} {ls : List (List Int)} (h : OwnL w base v ls) (k : Kb b bm w w') (hB : Bk F w b bm N m p) : OwnL w' base v ls := by
  obtain ⟨vs, h1, h2, h3, h4⟩ := h
  refine ⟨vs, h1, ?_, h3, fun i u x hu hx => (h4 i u x hu hx).kb k hB⟩
  obtain ⟨e1, e2⟩ := h2
  refine ⟨e1, ?_⟩
  rcases e2 with e2 | ⟨g, cap, cur, hv, hb, hg, r⟩
  · exact .inl e2
  · refine .inr ⟨g, cap, cur, hv, hb, (k.block (Array.getElem?_eq_some_iff.1 hg).1 (fun e => ?_) (fun e => ?_)).trans hg, r⟩
    · subst e
      rw [hB.1] at hg
      cases hg
    · subst e
      obtain ⟨_, _, _, _, ⟨_, _, hm, _⟩, _⟩ := hB
      rw [hm] at hg
      cases hg
theorem Try.info_sl : (Try.prog.info? 29).map (fun i => (i.zero, i.size, i.bytes)) = some (some (.slice none 0 0), 1, 24) := by kernel_rfl
section
variable {W : World} {ops : Array Oper} {rest : List Oper} {o : Oper} {a : Act} {Q : Exit → Act → World → Prop}
/-- append(l, x), of lists. -/
theorem wpl_list (hgd : o.guard = none) (s x : Operand) (ho : o.op = .call { callee := .builtin .append, args := #[s, x], argTypes := #[23, 23] })
    (base : Nat) (v : Value) (ls : List (List Int)) (hs : a.eval s = v) (hown : OwnL W base v ls) (g : Nat) (u : Value) (z : List Int) (hx : a.eval x = .slice (some ⟨g, 0, none⟩) 1 1) (hc : W.cell? ⟨g, 0, none⟩ = some u) (hu : OwnI W base u z) (hl : ls.length ≤ 1000000) (hbase : base ≤ W.heap.size)
    (h : ∀ v' w', OwnL w' base v' (ls ++ [z]) → Below base W w' → (∀ (b bm N : Nat) (m : Int → Option Rg) (p : Int), Bk (FL b v) W b bm N m p → Bk (FL b v') w' b bm N m p) → wpList Try.prog ops Q rest (a.put o.dst v') w') : wpList Try.prog ops Q (o :: rest) a W := by
  obtain ⟨i0, hi, hz0, hz1, hz2⟩ := info_parts Try.info_sl
  obtain ⟨vs, h1, h2, h3, h4⟩ := hown
  obtain ⟨au, nu, cu, eu⟩ := hu.form
  refine wpList_append_blk W hgd s x 23 ho base 29 i0 (.slice none 0 0) 1 24 Try.underlying23 hi hz0 hz1 hz2 rfl (by decide) v vs.length vs hs h2 ⟨g, 0, none⟩ 1 1 [u] hx rfl (fun j w' hj => ?_) (fun q hq => ?_) (by unfold maxLen; omega) (by omega) hbase (fun _ => by decide) ?_
  · cases j with
    | zero => simp at hj; subst hj; exact hc
    | succ j => simp at hj
  · simp at hq; subst hq; subst eu; rfl
  intro v' w' k1 k2 k3
  have hb : Below base W w' := (Below.refl _ _).grown k2 hbase (fun k hk => (World.ownsRow.lt h2 k hk).1)
  have keep : ∀ {y : Value} {r : List Int}, OwnI W base y r → OwnI w' base y r := fun {y r} hy => by
    obtain ⟨e1, e2⟩ := hy
    refine ⟨e1, ?_⟩
    rcases e2 with e2 | ⟨q, cap, cur, hv, hbq, hg, rr⟩
    · exact .inl e2
    · refine .inr ⟨q, cap, cur, hv, hbq, (k2.block q (Array.getElem?_eq_some_iff.1 hg).1 (fun e => ?_)).trans hg, rr⟩
      rcases h2.2 with ⟨rfl, _⟩ | ⟨q', cap', cur', rfl, _, hg', _⟩
      · cases e
      · cases e
        rw [hg] at hg'
        cases hg'
  refine h v' w' ⟨vs ++ [u], by simp [h1], by simpa using k1, fun y hy => ?_, fun i y r hy hr => ?_⟩ hb ?_
  · rcases List.mem_append.1 hy with hy | hy
    · exact h3 y hy
    · simp at hy; subst hy; exact ⟨_, _, _, eu⟩
  · by_cases hil : i < vs.length
    · rw [List.getElem?_append_left hil] at hy
      rw [List.getElem?_append_left (by omega)] at hr
      exact keep (h4 i y r hy hr)
    · have : i = vs.length := by
        have := (List.getElem?_eq_some_iff.1 hy).1
        simp at this
        omega
      subst this
      rw [List.getElem?_append_right (by omega)] at hy
      rw [h1, List.getElem?_append_right (by omega)] at hr
      simp at hy hr
      subst hy hr
      exact keep hu
  · exact fun b bm N m p hB => hB.push h2 k1 (by decide) k2 k3
end
theorem OwnL.formn {w : World} {base : Nat} {v : Value} {ls : List (List Int)} (h : OwnL w base v ls) : ∃ ao n c, v = .slice ao n c ∧ n = ls.length := by
  obtain ⟨vs, h1, h2, _⟩ := h
  rcases h2.2 with ⟨rfl, h3⟩ | ⟨g, cap, cur, rfl, _⟩
  · exact ⟨_, _, _, rfl, by omega⟩
  · exact ⟨_, _, _, rfl, h1⟩
theorem OwnL.row {w : World} {base : Nat} {v : Value} {ls : List (List Int)} (h : OwnL w base v ls) (hn : ls ≠ []) : ∃ g cap, v = .slice (some ⟨g, 0, none⟩) ls.length cap ∧ ls.length ≤ cap ∧ ∀ (i : Nat) (x : List Int), ls[i]? = some x → ∃ u, w.cell? ⟨g, i, none⟩ = some u ∧ OwnI w base u x := by
  obtain ⟨vs, h1, h2, h3, h4⟩ := h
  rcases id h2.2 with ⟨_, h5⟩ | ⟨g, cap, cur, rfl, _, hg, hc, _⟩
  · exact absurd (List.length_eq_zero_iff.1 (by omega)) hn
  · refine ⟨g, cap, by rw [h1], by omega, fun i x hx => ?_⟩
    have hi : i < vs.length := by have := (List.getElem?_eq_some_iff.1 hx).1; omega
    have hc := World.ownsRow.cells h2 (g := g) (by simp [Value.ownBlock]) i vs[i] (List.getElem?_eq_getElem hi)
    rw [Addr.add_lit, Nat.zero_add] at hc
    exact ⟨vs[i], hc, h4 i vs[i] x (List.getElem?_eq_getElem hi) hx⟩
theorem ring_get {m : Int → Option Rg} {p : Int} {j : Nat} {x : Rg} (hj : j < 9) (h : m (49 + (j : Int)) = some x) : getB m p (49 + (j : Int)) = (0, some x) := by
  obtain ⟨_, h2, h3, _, h5, _⟩ := plain_name (q := 49 + (j : Int)) (.inr (.inl ⟨by omega, by omega⟩))
  unfold getB
  rw [h3, h2]
  simp only [if_true, Bool.false_eq_true, if_false]
  rw [h5, h]
/-- The newest texts of the ring: what stands in 1 to 9. -/
def Ring (m : Int → Option Rg) (ls : List (List Int)) : Prop := ∀ k : Nat, k < 9 → k < ls.length → m (49 + (k : Int)) = some ⟨1, cls 1 (ls[ls.length - 1 - k]?.getD [])⟩
theorem Ring.del {s : Bs} {ls : List (List Int)} {t : List Int} (h : Ring s.m ls) (hl : t.length ≤ 1000) : ∃ s' : Bs, deleteB s 0 ⟨1, t⟩ = (0, s') ∧ Ring s'.m (ls ++ [t]) := by
  unfold deleteB
  rw [show refE 0 1 = 0 by decide, if_pos rfl, show unB 0 = true by decide, if_pos rfl, if_pos (by simp)]
  unfold ringB
  rw [wrtn_plain (r := ⟨1, t⟩) (by decide) (show t.length ≤ 100000 by omega)]
  refine ⟨_, rfl, fun k hk hkl => ?_⟩
  dsimp only
  unfold upd
  by_cases h0 : k = 0
  · subst h0
    rw [if_pos (by omega)]
    simp
  · rw [if_neg (by omega)]
    unfold rng
    rw [if_pos (by omega)]
    obtain ⟨q, rfl⟩ : ∃ q, k = q + 1 := ⟨k - 1, by omega⟩
    rw [List.length_append] at hkl
    simp at hkl
    have := h q (by omega) (by omega)
    rw [show (49 : Int) + ((q + 1 : Nat) : Int) - 1 = 49 + (q : Int) by omega, this]
    rw [List.length_append, List.length_singleton, List.getElem?_append_left (by omega)]
    rw [show ls.length + 1 - 1 - (q + 1) = ls.length - 1 - q by omega]
theorem Ring.yank {s : Bs} {ls : List (List Int)} (h : Ring s.m ls) (i : Int) : ∃ s' : Bs, yankB s 0 ⟨0, [i]⟩ = (0, s') ∧ Ring s'.m ls := by
  unfold yankB
  rw [show refE 0 0 = 0 by decide, if_pos rfl, show unB 0 = true by decide, if_pos rfl]
  rw [take_plain (s := s) (q := 48) (r := ⟨0, [i]⟩) (.inr (.inl ⟨by omega, by omega⟩)) (by simp) (by simp)]
  refine ⟨_, rfl, fun k hk hkl => ?_⟩
  dsimp only
  unfold upd
  rw [if_neg (by omega)]
  exact h k hk hkl

set_option maxRecDepth 100000 in
set_option maxHeartbeats 8000000 in
theorem ringLaw_any (v : Value) (xs : List Sv) (u : Value) (ls : List (List Int)) (w : World) (h : RdT w v xs) (hu : RdL w u ls) :
    Calls Try.prog 6 #[v, u] w fun e w' => e = .returned (.bool true) ∧ Below w.heap.size w w' := by
  have AB := hidIt (able_any w)
  have H := hidIt h
  have HU := hidIt hu
  have hxl : xs.length ≤ 140737488351232 := by obtain ⟨_, _, _, _, _, h4, _⟩ := h; exact h4
  obtain ⟨ut, uc, rfl, hu1, hu2, hu3, _⟩ := hu
  have HLS := hidIt hu3
  clear h hu3
  go_enter Try.func6, Try.ntmps6
  go_upto_region 3 with (go_at_call 12; refine AB.out.mono ?_; rintro e w1 ⟨rfl, hb1⟩; have HB1 := hidIt hb1; clear hb1; (try dsimp only))
  have BA := hidIt (bank_any v xs w1 (H.out.ext HB1.out))
  go_upto_region 4 with (go_at_call 13; refine BA.out.mono ?_; rintro e w2 ⟨b, bm, rfl, ⟨s0, hbk⟩, h1, h2, hb⟩; have HB2 := hidIt (ext_trans HB1.out hb); have HBK2 := hidIt hbk; have HBB := hidIt (show w.heap.size ≤ b ∧ w.heap.size ≤ bm from ⟨Nat.le_trans HB1.out.size h1, Nat.le_trans HB1.out.size h2⟩); clear hb hbk h1 h2; (try dsimp only))
  by_cases h200 : (ls.length : Int) > 200
  · go_wp2_with fail
    go_ret
    exact ⟨rfl, HB2.out⟩
  go_wp2_with fail
  go_loopw [6, 7] (fun l i wr => ∃ k : Nat, k ≤ ls.length ∧ i = .int .i64 k ∧ ∃ (s : Bs) (ts : List (List Int)), ts.length ≤ k ∧ (∀ x ∈ ts, x.length ≤ 1000) ∧ Bk (FL b l) wr b bm (9 * xs.length + 18 * k) s.m s.p ∧ Ring s.m ts ∧ OwnL wr w.heap.size l (ts.map (cls 1)) ∧ (∃ ao n c, l = .slice ao n c ∧ n = ts.length) ∧ Below w.heap.size w wr) (fun _ i _ => ls.length - (RowKit.intOf i).toNat)
  case atStart => exact ⟨0, Nat.zero_le _, rfl, s0, [], Nat.le_refl _, (fun _ h => by cases h), HBK2.out.avoid (Below.refl _ _) (.inl rfl) (fun q hq => by rcases hq with rfl | hq; exact ⟨HBK2.out.lt.1, .inl rfl⟩; cases hq), fun k _ hk => by simp at hk, OwnL.nil _ _, ⟨_, _, _, rfl, rfl⟩, HB2.out⟩
  case round =>
    obtain ⟨k, hk, rfl, s, ts, hts, htl, hbk, hrg, hol, ⟨la, ln, lc, rfl, hln⟩, hbw⟩ := hrel
    have HBK := hidIt hbk
    have HRG := hidIt hrg
    have HOL := hidIt hol
    have HBW := hidIt hbw
    have HTL := hidIt htl
    have HLN := hidIt hln
    clear hbk hrg hol hbw htl hln
    by_cases hlt : k < ls.length
    · obtain ⟨x, hx⟩ : ∃ x, ls[k]? = some x := ⟨_, List.getElem?_eq_getElem hlt⟩
      obtain ⟨ao', cap', hv', _, _, _, h6⟩ := HU.out
      cases hv'
      obtain ⟨pb, po, ea, hpb, hc⟩ := h6 (by intro e; rw [e] at hlt; simp at hlt)
      subst ea
      obtain ⟨pv, c0, c1⟩ := hc k x hx
      obtain ⟨pa, pn, pc, epv, hpn⟩ : ∃ ao n c, pv = .slice ao n c ∧ n = x.length := let ⟨ao, c, e, _⟩ := c1.len; ⟨ao, _, c, e, rfl⟩
      subst epv
      have HC : Hid (∀ w', Below w.heap.size w w' → w'.cell? ⟨pb, po + k, none⟩ = some (.slice pa pn pc) ∧ RdS w' (.slice pa pn pc) x) := fun w' hb => ⟨(hb.cell (p := ⟨pb, po + k, none⟩) hpb).trans c0, c1.ext hb⟩
      have HPN := hidIt hpn
      clear c0
      have c0 := (HC.out wr HBW.out).1
      have hi1 : (k : Int) < (ls.length : Int) := by omega
      clear hc h6 c1 hpn
      by_cases h1000 : (pn : Int) > 1000
      · go_wp2_with fail
        go_roundw
        case rel => exact ⟨k + 1, by omega, by go_num, s, ts, by omega, HTL.out, HBK.out.mono (by omega), HRG.out, HOL.out, ⟨_, _, _, rfl, HLN.out⟩, HBW.out⟩
        case measure => simp [RowKit.intOf]; omega
      have hx1000 : x.length ≤ 1000 := by have := HPN.out; omega
      obtain ⟨s1, hd1, hr1⟩ := HRG.out.del (t := x) hx1000
      obtain ⟨s2, hy2, hr2⟩ := hr1.yank (k : Int)
      have HR2 := hidIt hr2
      have DL : Hid (∀ w9, Below wr.heap.size wr w9 → ∀ q, RdS w9 q x → Calls Try.prog 16 #[.pointer (some ⟨b, 0, none⟩), .int .i64 0, .agg #[.int .i64 1, q]] w9 (OpR (FL b (.slice la ln lc)) w9 b bm (9 * xs.length + 18 * k + 9) (0, s1))) := fun w9 hb q hq => by
        have h := Delete_any w9 b bm (9 * xs.length + 18 * k) s 0 ⟨1, x⟩ q (HBK.out.ext hb) hq (In64.of (by omega) (by omega)) (by omega)
        rw [hd1] at h
        exact h
      have YK : Hid (∀ w9, Bk (FL b (.slice la ln lc)) w9 b bm (9 * xs.length + 18 * k + 9) s1.m s1.p → ∀ q, RdS w9 q [(k : Int)] → Calls Try.prog 14 #[.pointer (some ⟨b, 0, none⟩), .int .i64 0, .agg #[.int .i64 0, q]] w9 (OpR (FL b (.slice la ln lc)) w9 b bm (9 * xs.length + 18 * k + 9 + 9) (0, s2))) := fun w9 hb q hq => by
        have h := Yank_any w9 b bm (9 * xs.length + 18 * k + 9) s1 0 ⟨0, [(k : Int)]⟩ q hb hq (In64.of (by omega) (by omega)) (by omega)
        rw [hy2] at h
        exact h
      clear hr1 hr2 hd1 hy2
      have HX8 := hidIt (HLS.out x (List.mem_of_getElem? hx))
      go_upto_region 13 with (first | (at_builtin; refine wpl_ints rfl _ _ 29 rfl wr.heap.size Try.info_i64 Try.underlying29 _ [] rfl (OwnI.nil _ _) _ x rfl (HC.out wr HBW.out).2 (by simp; omega) (Nat.le_refl _) ?_; intro v3 w3 own3 hb3; obtain ⟨a3, n3, c3, e3⟩ := own3.form; subst e3; have HV3 := hidIt (show OwnI w3 wr.heap.size (.slice a3 n3 c3) x from own3); have HB3 := hidIt hb3; clear own3 hb3) | (go_at_call 16; refine (DL.out _ HB3.out _ HV3.out.rds).mono ?_; rintro e w4 ⟨rfl, hbk4, hkb4⟩; have BK4 := hidIt hbk4; have KB4 := hidIt hkb4; clear hbk4 hkb4; (try dsimp only)) | (go_at_call 14; refine (YK.out _ (BK4.out.ext (ext_alloc (Below.refl _ _) _)) _ (rds_one _ _)).mono ?_; rintro e w6 ⟨rfl, hbk6, hkb6⟩; have BK6 := hidIt hbk6; have KB6 := hidIt hkb6; clear hbk6 hkb6; (try dsimp only)))
      have HW4 := hidIt ((HBW.out.trans (HB3.out.mono HBW.out.size)).trans (KB4.out.below HBB.out.1 HBB.out.2 (HBW.out.trans (HB3.out.mono HBW.out.size)).size))
      have HW5 := hidIt (ext_alloc HW4.out (.cells #[.int .i64 (k : Int)] 3))
      have HW6 := hidIt (HW5.out.trans (KB6.out.below HBB.out.1 HBB.out.2 HW5.out.size))
      have HOL6 := hidIt ((((HOL.out.ext HB3.out).kb KB4.out (HBK.out.ext HB3.out)).ext (ext_alloc (Below.refl _ _) (.cells #[.int .i64 (k : Int)] 3))).kb KB6.out (BK4.out.ext (ext_alloc (Below.refl _ _) _)))
      clear c0
      have c0 := (HC.out w6 HW6.out).1
      have KP := hidIt (kept_any 1 _ x w6 (HC.out w6 HW6.out).2 HX8.out)
      have hts2 : (ts.map (cls 1)).length ≤ 1000000 := by rw [List.length_map]; omega
      go_wp2_with (first | (go_at_call 21; refine KP.out.mono ?_; rintro e w7 ⟨lv, rfl, hlo, hb7⟩; obtain ⟨la7, ln7, lc7, e7⟩ := hlo.form; subst e7; have HLO := hidIt hlo; have HB7 := hidIt hb7; clear hlo hb7; (try dsimp only)) | (at_builtin; refine wpl_list rfl _ _ rfl w.heap.size _ _ rfl ((HOL6.out.ext HB7.out).ext (ext_alloc (Below.refl _ _) _)) w7.heap.size (.slice la7 ln7 lc7) (cls 1 x) rfl (by rw [cell_of_row _ _ _ _ _ _ (heap_alloc_new _ _)]; rfl) ((HLO.out.ext (ext_alloc (Below.refl _ _) _)).le HW6.out.size) hts2 (by have := HW6.out.size; have := HB7.out.size; simp; omega) ?_; intro v8 w8 ol8 hb8 bk8; have BK8 := hidIt (bk8 b bm _ _ _ ((BK6.out.ext HB7.out).ext (ext_alloc (Below.refl _ _) _))); clear bk8; obtain ⟨a8, n8, c8, e8, hn8⟩ := ol8.formn; subst e8; have HOL8 := hidIt ol8; have HB8 := hidIt hb8; have HN8 := hidIt hn8; clear ol8 hb8 hn8))
      go_roundw
      case rel => exact ⟨k + 1, by omega, by go_num, s2, ts ++ [x], by simp; omega, (fun y hy => by rcases List.mem_append.1 hy with hy | hy; exact HTL.out y hy; simp at hy; subst hy; exact hx1000), BK8.out.mono (by omega), HR2.out, by rw [List.map_append]; exact HOL8.out, ⟨_, _, _, rfl, by rw [HN8.out]; simp⟩, ((HW6.out.trans (HB7.out.mono HW6.out.size)).alloc (by have := HW6.out.size; have := HB7.out.size; omega) _).trans HB8.out⟩
      case measure => simp [RowKit.intOf]; omega
    · have hkl : k = ls.length := by omega
      subst hkl
      clear hlt
      have htl9 : ts.length ≤ 200 := by omega
      have hlnn : ln = ts.length := HLN.out
      subst hlnn
      obtain ⟨w20, hw20⟩ : ∃ q, q = wr := ⟨_, rfl⟩
      subst hw20
      go_wp2_with fail
      go_loopw [8] (fun i wq => ∃ j : Nat, j ≤ 9 ∧ i = .int .i64 j ∧ Below w20.heap.size w20 wq) (fun i _ => 9 - (RowKit.intOf i).toNat)
      case atStart => exact ⟨0, Nat.zero_le _, rfl, Below.refl _ _⟩
      case round =>
        obtain ⟨j, hj, rfl, hbq⟩ := hrel
        have HBQ := hidIt hbq
        clear hbq
        by_cases hj9 : (j : Int) < 9
        · by_cases hjl : (j : Int) < (ts.length : Int)
          · obtain ⟨q, hq⟩ : ∃ q, q = ts.length - 1 - j := ⟨_, rfl⟩
            have hqt : q < ts.length := by omega
            have hw1 : IntKind.i64.wrap ((ts.length : Int) - 1) = (ts.length : Int) - 1 := by rw [IntKind.wrap_i64]; omega
            have hw2 : IntKind.i64.wrap ((ts.length : Int) - 1 - (j : Int)) = (q : Int) := by rw [IntKind.wrap_i64]; omega
            have hw3 : IntKind.i64.wrap (49 + (j : Int)) = 49 + (j : Int) := by rw [IntKind.wrap_i64]; omega
            have hql : (q : Int) < (ts.length : Int) := by omega
            obtain ⟨g, cap, hrow, _, hrc⟩ := HOL.out.row (by intro e; have := congrArg List.length e; simp at this; rw [this] at hqt; simp at hqt)
            rw [List.length_map] at hrow
            cases hrow
            obtain ⟨lv, hlv, hlo⟩ := hrc q (cls 1 (ts[q]?.getD [])) (by rw [List.getElem?_map, List.getElem?_eq_getElem hqt]; simp)
            obtain ⟨la7, ln7, lc7, e7⟩ := hlo.form
            subst e7
            have hqc : q < w20.heap.size ∨ True := .inr trivial
            have hgl : g < w20.heap.size := World.block_lt_of_cell? w20 _ hlv
            have c0 : wr.cell? ⟨g, q, none⟩ = some (.slice la7 ln7 lc7) := (HBQ.out.cell (p := ⟨g, q, none⟩) hgl).trans hlv
            have hgm := HRG.out j (by omega) (by omega)
            rw [← hq] at hgm
            have HO := hidIt (holds_any wr b bm _ s.m s.p (49 + (j : Int)) ⟨1, cls 1 (ts[q]?.getD [])⟩ _ (HBK.out.ext HBQ.out) (In64.of (by omega) (by omega)) (ring_get (by omega) hgm) (hlo.ext HBQ.out).rd)
            clear hrc hlv hlo hgm hqc hq
            go_wp2_with (go_at_call 15; refine HO.out.mono ?_; rintro e w9 ⟨rfl, hb9⟩; have HB9 := hidIt hb9; clear hb9; (try dsimp only))
            go_roundw
            case rel => exact ⟨j + 1, by omega, by go_num, ext_trans HBQ.out HB9.out⟩
            case measure => simp [RowKit.intOf]; omega
          · go_wp2_with fail
            go_ret
            exact ⟨rfl, HBW.out.trans (HBQ.out.mono HBW.out.size)⟩
        · go_wp2_with fail
          go_ret
          exact ⟨rfl, HBW.out.trans (HBQ.out.mono HBW.out.size)⟩
end Go.Proofs.Ytmldfjhfgaggpaa
