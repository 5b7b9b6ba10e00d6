/- The laws' helpers: able, bank, kept, holds. -/
import Derived.Test.YtmldfjhfgaggpaaGPub2
namespace Go.Proofs.Ytmldfjhfgaggpaa
open Go.RowKit
variable {F : Nat → Prop}

section
variable {P : Program} (W : World)
/-- append([]int(nil), s...) as an operation of a drawn region. -/
theorem wp_append_fresh {op : Oper} {a : Act} {K : Act → World → Prop} {Q : Exit → Act → World → Prop} (s x : Operand) (t : TypeId) (ho : op.op = .call { callee := .builtin .append, args := #[s, x], argTypes := #[t, t] })
    (hinf : (P.info? 3).map (fun i => (i.zero, i.size, i.bytes)) = some (some (.int .i64 0), 1, 8)) (ht : P.underlying t = some (.slice 3))
    (hs : a.eval s = .slice none 0 0) (u : Value) (ys : List Int) (hx : a.eval x = u) (hu : RdS W u ys) (hl : ys.length * 8 ≤ 140737488355328)
    (h : ∀ v' w', OwnI w' W.heap.size v' ys → Below W.heap.size W w' → K (a.put op.dst v') w') : op.wp P a W K Q := by
  obtain ⟨i0, hi, hz0, hz1, hz2⟩ := info_parts hinf
  obtain ⟨hr, hsl⟩ := hu
  rcases hsl with rfl | ⟨ad, n, c, rfl⟩
  · have : ys = [] := by
      obtain ⟨ao, cap, hv, _⟩ := hr
      have : ys.length = 0 := by injection hv with _ h2 _; omega
      exact List.length_eq_zero_iff.1 this
    subst this
    have hrun := run_append_owned_none (P := P) (w := W) W.heap.size t op.type 3 i0 1 ht hi (.slice none 0 0) 0 [] (OwnI.nil W _)
    unfold Oper.wp execOp
    simp only [ho, resolve, invoke, builtin, Sem.run_bind, Sem.run_pure, Result.andThen_ok, List.map_toArray, List.map_cons, List.map_nil, hs, hx, hrun]
    exact h _ W (OwnI.nil W _) (Below.refl _ _)
  · obtain ⟨hn, hc⟩ := rd_cells hr
    subst hn
    obtain ⟨v', w', hrun, h2, h3, _⟩ := run_append_own (P := P) W W.heap.size t op.type 3 i0 (.int .i64 0) 1 8 ht hi hz0 hz1 hz2 rfl (by decide) (.slice none 0 0) 0 [] (OwnI.nil W _) ad ys.length c (ys.map (Value.int .i64)) (by simp) hc (one_all _ _) (by unfold maxLen; omega) (by omega) (Nat.le_refl _)
    unfold Oper.wp execOp
    simp only [ho, resolve, invoke, builtin, Sem.run_bind, Sem.run_pure, Result.andThen_ok, List.map_toArray, List.map_cons, List.map_nil, hs, hx, hrun]
    refine h v' w' ?_ ((Below.refl _ _).grown h3 (Nat.le_refl _) (fun k hk => by cases hk))
    unfold OwnI
    simpa using h2
end
theorem Kb.below {b bm base : Nat} {w w' : World} (h : Kb b bm w w') (hb : base ≤ b) (hm : base ≤ bm) (hs : base ≤ w.heap.size) : Below base w w' := Kps.below h hs (fun k e => by rcases e with rfl | rfl <;> assumption)
theorem rds_two (w : World) (x y : Int) : RdS (w.alloc (.cells #[.int .i64 x, .int .i64 y] 3)) (.slice (some ⟨w.heap.size, 0, none⟩) 2 2) [x, y] := by
  refine ⟨⟨some ⟨w.heap.size, 0, none⟩, 2, rfl, by simp, by decide, fun _ => ⟨w.heap.size, 0, rfl, by simp, fun i hi => ?_⟩⟩, .inr ⟨_, _, _, rfl⟩⟩
  simp at hi
  rw [cell_of_row _ _ _ _ _ _ (heap_alloc_new _ _)]
  match i, hi with
  | 0, _ => rfl
  | 1, _ => rfl
/-- A list of its own stays behind a call on a bank. -/
theorem OwnI.kb {b bm N base : Nat} {m : Int → Option Rg} {p : Int} {w w' : World} {v : Value} {zs : List Int} (h : OwnI w base v zs) (k : Kb b bm w w') (hB : Bk F w b bm N m p) : OwnI w' base v zs := by
  obtain ⟨h1, h2⟩ := h
  refine ⟨h1, ?_⟩
  rcases h2 with h2 | ⟨g, cap, cur, hv, hb, hg, r⟩
  · exact .inl h2
  · refine .inr ⟨g, cap, cur, hv, hb, (k.block (Array.getElem?_eq_some_iff.1 hg).1 (fun e => ?_) (fun e => ?_)).trans hg, r⟩
    · subst e
      rw [hB.1] at hg
      cases hg
    · subst e
      obtain ⟨_, _, _, _, ⟨_, _, hm, _⟩, _⟩ := hB
      rw [hm] at hg
      cases hg

set_option maxRecDepth 100000 in
set_option maxHeartbeats 4000000 in
/-- holds answers true. -/
theorem holds_any (w : World) (b bm N : Nat) (m : Int → Option Rg) (p n : Int) (x : Rg) (v : Value) (hB : Bk F w b bm N m p) (hn : In64 n) (hg : getB m p n = (0, some x)) (hv : Rd .i64 w v x.t) :
    Calls Try.prog 15 #[.pointer (some ⟨b, 0, none⟩), .int .i64 n, .int .i64 x.k, v] w fun e w' => e = .returned (.bool true) ∧ Below w.heap.size w w' := by
  have GT : Hid (Calls Try.prog 20 #[.pointer (some ⟨b, 0, none⟩), .int .i64 n] w fun e w' => (∃ u, e = .returned (.tuple #[.agg #[.int .i64 x.k, u], .int .i64 0]) ∧ OwnI w' w.heap.size u x.t) ∧ Below w.heap.size w w') := by
    have h := Get_any w b bm N m p n hB hn
    rw [hg] at h
    exact h
  have HV := hidIt hv
  clear hB hn hg hv
  go_enter Try.func15, Try.ntmps15
  go_upto_region 2 with (go_at_call 20; refine GT.out.mono ?_; rintro e w1 ⟨⟨u, rfl, hu⟩, hb1⟩; obtain ⟨ao, nn, c, eu⟩ := hu.form; subst eu; have HU := hidIt hu; have HB1 := hidIt hb1; clear hu hb1; (try dsimp only))
  generalize hw3 : World.alloc _ _ = w3
  have HB3 : Hid (Below w1.heap.size w1 w3) := by unfold Hid; rw [← hw3]; exact ext_alloc (Below.refl _ _) _
  have HK3 : Hid (w3.heap[w1.heap.size]? = some (.cells #[.int .i64 x.k, .slice ao nn c] 31 (0, 0))) := by unfold Hid; rw [← hw3]; exact heap_alloc_new _ _
  clear hw3
  obtain ⟨_, d0, d1, _⟩ := cells2 HK3.out
  have hkk : (x.k == x.k) = true := by simp
  have SI := hidIt (sameInts_any _ _ x.t w3 (HU.out.rd.ext HB3.out) (HV.out.ext (ext_trans HB1.out HB3.out)))
  generalize x.k = k at *
  go_wp2_with (go_at_call 26; refine SI.out.mono ?_; rintro e w4 ⟨rfl, hb4⟩; have HB4 := hidIt hb4; clear hb4; (try dsimp only))
  go_ret
  exact ⟨rfl, ext_trans (ext_trans HB1.out HB3.out) HB4.out⟩

set_option maxRecDepth 100000 in
set_option maxHeartbeats 4000000 in
theorem able_any (w : World) : Calls Try.prog 12 #[] w fun e w' => e = .returned (.bool true) ∧ Below w.heap.size w w' := by
  have NW := hidIt (New_any w)
  have Y1 : (yankB ⟨fun _ => none, 0⟩ 97 ⟨0, [1, 2]⟩).1 = 0 := by decide
  have G1 : getB (yankB ⟨fun _ => none, 0⟩ 97 ⟨0, [1, 2]⟩).2.m (yankB ⟨fun _ => none, 0⟩ 97 ⟨0, [1, 2]⟩).2.p 97 = (0, some ⟨0, [1, 2]⟩) := by rfl
  have HY := hidIt Y1
  have HG := hidIt G1
  clear Y1 G1
  go_enter Try.func12, Try.ntmps12
  go_upto_region 2 with (go_at_call 31; refine NW.out.mono ?_; rintro e w1 ⟨b, bm, rfl, hbk, h1, h2, hb⟩; have HB1 := hidIt hb; have HBK := hidIt hbk; have HS := hidIt (And.intro h1 h2); clear hb hbk h1 h2; (try dsimp only))
  have YK : Hid (∀ w', Below w1.heap.size w1 w' → ∀ v, RdS w' v [1, 2] → Calls Try.prog 14 #[.pointer (some ⟨b, 0, none⟩), .int .i64 97, .agg #[.int .i64 0, v]] w' (OpR (F1 b) w' b bm (0 + 9) (yankB ⟨fun _ => none, 0⟩ 97 ⟨0, [1, 2]⟩))) := fun w' hb v hv => Yank_any w' b bm 0 ⟨fun _ => none, 0⟩ 97 ⟨0, [1, 2]⟩ v (HBK.out.ext hb) hv (In64.of (by omega) (by omega)) (by omega)
  go_upto_region 4 with (go_at_call 14; refine (YK.out _ (ext_alloc (Below.refl _ _) _) _ (rds_two _ _ _)).mono ?_; rintro e w2 ⟨he, hbk, hkb⟩; rw [HY.out] at he; subst he; have HBK2 := hidIt hbk; have HKB := hidIt hkb; clear hbk hkb; (try dsimp only))
  have HB2 := hidIt (ext_trans HB1.out (ext_alloc (Below.refl _ _) (.cells #[.int .i64 1, .int .i64 2] 3)))
  have HB3 := hidIt (HB2.out.trans (HKB.out.below HS.out.1 HS.out.2 HB2.out.size))
  have GT : Hid (Calls Try.prog 20 #[.pointer (some ⟨b, 0, none⟩), .int .i64 97] w2 fun e w' => (∃ u, e = .returned (.tuple #[.agg #[.int .i64 0, u], .int .i64 0]) ∧ OwnI w' w2.heap.size u [1, 2]) ∧ Below w2.heap.size w2 w') := by
    have h := Get_any w2 b bm _ _ _ 97 HBK2.out (In64.of (by omega) (by omega))
    rw [HG.out] at h
    exact h
  go_upto_region 5 with (go_at_call 20; refine GT.out.mono ?_; rintro e w4 ⟨⟨u, rfl, hu⟩, hb1⟩; obtain ⟨ao, nn, c, eu⟩ := hu.form; subst eu; have HU := hidIt hu; have HB4 := hidIt hb1; clear hu hb1; (try dsimp only))
  generalize hw5 : World.alloc _ _ = w5
  have HB5 : Hid (Below w4.heap.size w4 w5) := by unfold Hid; rw [← hw5]; exact ext_alloc (Below.refl _ _) _
  have HK5 : Hid (w5.heap[w4.heap.size]? = some (.cells #[.int .i64 0, .slice ao nn c] 31 (0, 0))) := by unfold Hid; rw [← hw5]; exact heap_alloc_new _ _
  clear hw5
  obtain ⟨_, d0, d1, _⟩ := cells2 HK5.out
  have SI := hidIt (sameInts_any _ _ [1, 2] (w5.alloc (.cells #[.int .i64 1, .int .i64 2] 3)) ((HU.out.rd.ext HB5.out).ext (ext_alloc (Below.refl _ _) _)) (rds_two w5 1 2).1)
  go_wp2_with (go_at_call 26; refine SI.out.mono ?_; rintro e w6 ⟨rfl, hb6⟩; have HB6 := hidIt hb6; clear hb6; (try dsimp only))
  go_ret
  exact ⟨rfl, HB3.out.trans (((ext_trans (ext_trans (ext_trans HB4.out HB5.out) (ext_alloc (Below.refl _ _) _)) HB6.out)).mono HB3.out.size)⟩

set_option maxRecDepth 100000 in
set_option maxHeartbeats 1000000 in
theorem broken_any (v : Value) (t : List Int) (w : World) (h : RdS w v t) : Calls Try.prog 44 #[v] w fun e w' => e = .returned (.bool (ends t)) ∧ w = w' := by
  by_cases hn : t = []
  · subst hn
    obtain ⟨ao, c, rfl, _⟩ := h.len
    simp only [List.length_nil]
    go_enter Try.func44, Try.ntmps44
    go_wp2_with fail
    go_ret
    exact ⟨rfl, rfl⟩
  obtain ⟨b, off, c, rfl, hbl, hcap, h63, hcell⟩ := h.last hn
  have he := ends_at t hn
  have hpos := List.length_pos_iff.2 hn
  obtain ⟨q, hq⟩ : ∃ q, q = t.length - 1 := ⟨_, rfl⟩
  rw [← hq] at he
  have hx := hcell q (by omega)
  have hwr : IntKind.i64.wrap ((t.length : Int) - 1) = (q : Int) := by rw [IntKind.wrap_i64]; omega
  have hql : (q : Int) < (t.length : Int) := by omega
  have hp0 : (t.length : Int) > 0 := by omega
  rw [he]
  generalize t[q]?.getD 0 = x at *
  generalize t.length = n at *
  clear he hcell h hn hq hpos
  unfold brB
  by_cases h10 : x = 10
  · subst h10
    go_enter Try.func44, Try.ntmps44
    go_wp2_with fail
    go_ret
    exact ⟨rfl, rfl⟩
  · have hb10 : (x == 10) = false := by simp [h10]
    go_enter Try.func44, Try.ntmps44
    go_wp2_with fail
    go_ret
    exact ⟨ret_bool (by simp [hb10]), rfl⟩
set_option maxRecDepth 100000 in
set_option maxHeartbeats 1000000 in
theorem kept_any (k : Int) (v : Value) (t : List Int) (w : World) (h : RdS w v t) (hl : t.length * 8 ≤ 140737488351232) : Calls Try.prog 21 #[.int .i64 k, v] w fun e w' => ∃ v', e = .returned v' ∧ OwnI w' w.heap.size v' (cls k t) ∧ Below w.heap.size w w' := by
  have H := hidIt h
  have BR : Hid (∀ w', Below w.heap.size w w' → Calls Try.prog 44 #[v] w' fun e w'' => e = .returned (.bool (ends t)) ∧ w' = w'') := fun w' hb => broken_any v t w' (h.ext hb)
  clear h
  by_cases hk : k = 1
  · subst hk
    cases he : ends t
    · have HC := hidIt (show cls 1 t = t ++ [10] by unfold cls; rw [he]; rfl)
      rw [he] at BR
      go_enter Try.func21, Try.ntmps21
      go_upto_region 2 with (at_builtin; refine wpl_ints rfl _ _ 29 rfl w.heap.size Try.info_i64 Try.underlying29 _ [] rfl (OwnI.nil _ _) _ t rfl H.out (by simp; omega) (Nat.le_refl _) ?_; intro v2 w2 own2 hb2; have O2 := hidIt own2; have B2 := hidIt hb2; clear own2 hb2)
      go_wp2_with (first | (go_at_call 44; refine (BR.out _ B2.out).mono ?_; rintro e y9 ⟨rfl, rfl⟩; (try dsimp only)) | (at_builtin; refine wpl_ints rfl _ _ 29 rfl w.heap.size Try.info_i64 Try.underlying29 _ t rfl (O2.out.ext (ext_alloc (Below.refl _ _) _)) _ [10] rfl (rds_one _ _) (by simp; omega) (by have := B2.out.size; simp; omega) ?_; intro v3 w3 own3 hb3; have O3 := hidIt own3; have B3 := hidIt hb3; clear own3 hb3))
      go_ret
      exact ⟨_, rfl, by rw [HC.out]; exact O3.out, (ext_alloc B2.out _).trans B3.out⟩
    · have HC := hidIt (show cls 1 t = t by unfold cls; rw [he]; rfl)
      rw [he] at BR
      go_enter Try.func21, Try.ntmps21
      go_upto_region 2 with (at_builtin; refine wpl_ints rfl _ _ 29 rfl w.heap.size Try.info_i64 Try.underlying29 _ [] rfl (OwnI.nil _ _) _ t rfl H.out (by simp; omega) (Nat.le_refl _) ?_; intro v2 w2 own2 hb2; have O2 := hidIt own2; have B2 := hidIt hb2; clear own2 hb2)
      go_wp2_with (go_at_call 44; refine (BR.out _ B2.out).mono ?_; rintro e y9 ⟨rfl, rfl⟩; (try dsimp only))
      go_ret
      exact ⟨_, rfl, by rw [HC.out]; exact O2.out, B2.out⟩
  · have hkb : (k == 1) = false := by simp [hk]
    have HC := hidIt (show cls k t = t by unfold cls; rw [hkb]; rfl)
    go_enter Try.func21, Try.ntmps21
    go_upto_region 2 with (at_builtin; refine wpl_ints rfl _ _ 29 rfl w.heap.size Try.info_i64 Try.underlying29 _ [] rfl (OwnI.nil _ _) _ t rfl H.out (by simp; omega) (Nat.le_refl _) ?_; intro v2 w2 own2 hb2; have O2 := hidIt own2; have B2 := hidIt hb2; clear own2 hb2)
    go_wp2_with fail
    go_ret
    exact ⟨_, rfl, by rw [HC.out]; exact O2.out, B2.out⟩
end Go.Proofs.Ytmldfjhfgaggpaa
