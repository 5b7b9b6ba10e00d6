import Derived.Test.YtfdceljdhgbkcaaGreatDoorJ20
import Derived.Test.YtfdceljdhgbkcaaGreatDoorJ17
import Derived.Test.YtfdceljdhgbkcaaGreatDoorJ28
/- Feed: one key. -/
namespace Go.Proofs.YtfdceljdhgbkcaaGreatDoor
open Go.RowKit
/-- A parser in memory, with its row of pending keys. -/
def PsM (w : World) (b : Nat) (pv : Value) (p : Ps) : Prop := Psr w b p.sl pv p.t ∧ OwnI w 0 pv p.ks
/-- What Feed leaves. -/
def FdP (w : World) (b : Nat) (pv : Value) (p : Ps) (mode key : Int) (e : Ending) (w' : World) : Prop := ∃ q c s pw, FdR p mode key q c s ∧ e = .returned (.tuple #[cmV c, .int .i64 s]) ∧ PsM w' b pw q ∧ Kps (fun k => k = b ∨ pv.ownBlock = some k) w w' ∧ ∀ k, pw.ownBlock = some k → pv.ownBlock = some k ∨ w.heap.size ≤ k
/-- While Feed goes on: what the parser holds, what has turned, the place of the result. -/
structure FW (w : World) (b : Nat) (pv : Value) (y : World) (pw : Value) (q : Ps) : Prop where
  ps : Psr y b q.sl pw q.t
  ow : OwnI y 0 pw q.ks
  kp : Kps (fun k => k = b ∨ pv.ownBlock = some k) w y
  rs : y.heap[w.heap.size]? = some (.cells #[.int .i64 0, .int .i64 0, .int .i64 0, .int .i64 0, .int .i64 0] 33 (0, 0))
  nw : ∀ k, pw.ownBlock = some k → pv.ownBlock = some k ∨ w.heap.size ≤ k
  lt : b < w.heap.size
theorem psr_typ {y : World} {b : Nat} {sl : Bool} {pv : Value} {t : Rdg} (h : Psr y b sl pv t) : ∃ cs, y.heap[b]? = some (.cells cs 52 (0, 0)) := by
  obtain ⟨_, _, _, _, _, _, hp, _⟩ := h
  exact ⟨_, hp⟩
section
variable {w y y' : World} {b : Nat} {pv pw : Value} {q : Ps}
/-- The parser's block alone has turned. -/
theorem FW.turn (h : FW w b pv y pw q) (hk : Kps (fun k => k = b) y y') {sl : Bool} {t : Rdg} (hp : Psr y' b sl pw t) : FW w b pv y' pw ⟨sl, q.ks, t⟩ := by
  obtain ⟨cs, hcs⟩ := psr_typ h.ps
  refine ⟨hp, h.ow.stay (fun g hg => ?_), Kps.trans h.kp hk (fun _ _ e => .inl e), (hk.same _ (Array.getElem?_eq_some_iff.1 h.rs).1 (by have := h.lt; omega)).trans h.rs, h.nw, h.lt⟩
  obtain ⟨_, cur, hc⟩ := h.ow.blk hg
  exact hk.same g (Array.getElem?_eq_some_iff.1 hc).1 (fun e => own_ne h.ow hcs (by decide) (e ▸ hg))
theorem FW.reset (h : FW w b pv y pw q) {sl : Bool} (hp : Psr y' b sl (.slice none 0 0) rdg0) (hk : Kps (fun k => k = b) y y') : FW w b pv y' (.slice none 0 0) (ps0 sl) :=
  ⟨hp, OwnI.nil _ _, Kps.trans h.kp hk (fun _ _ e => .inl e), (hk.same _ (Array.getElem?_eq_some_iff.1 h.rs).1 (by have := h.lt; omega)).trans h.rs, fun k hk => (by cases hk), h.lt⟩
theorem FW.ext (h : FW w b pv y pw q) (hb : Below y.heap.size y y') : FW w b pv y' pw q :=
  ⟨h.ps.ext hb, h.ow.ext hb, Kps.trans h.kp (Kps.of_below (fun k => k = b) hb) (fun _ _ e => .inl e), (hb.block _ (Array.getElem?_eq_some_iff.1 h.rs).1).trans h.rs, h.nw, h.lt⟩
theorem FW.setS (h : FW w b pv y pw q) (m : Bool) : FW w b pv (y.setCell ⟨b, 6, none⟩ (.bool m)) pw ⟨m, q.ks, q.t⟩ := by
  obtain ⟨m0, s0, m1, s1, m2, s2, hp, h0, h1, h2⟩ := h.ps
  obtain ⟨a, k⟩ := hp.setS (.bool m)
  exact h.turn k ⟨m0, s0, m1, s1, m2, s2, a, h0.kps k hp, h1.kps k hp, h2.kps k hp⟩
/-- A key more is pending. -/
theorem FW.push (h : FW w b pv y pw q) {v : Value} {x : Int} (ho : OwnI y' 0 v (q.ks ++ [x])) (hg : y.grownBy y' pw.ownBlock) (hv : v.ownBlock = pw.ownBlock ∨ v.ownBlock = some y.heap.size) : FW w b pv (y'.setCell ⟨b, 7, none⟩ v) v ⟨q.sl, q.ks ++ [x], q.t⟩ := by
  obtain ⟨cs, hcs⟩ := psr_typ h.ps
  have hnb : pw.ownBlock ≠ some b := own_ne h.ow hcs (by decide)
  have hk1 : Kps (fun k => pw.ownBlock = some k) y y' := Kps.grown hg (fun k e _ => e)
  have hp1 : Psr y' b q.sl pw q.t := h.ps.turn hk1 (fun _ _ e => by obtain ⟨_, cur, hc⟩ := h.ow.blk e; exact not_hv hc (by decide)) (fun _ _ _ _ _ _ hp => (hk1.same b hp.lt hnb).trans hp)
  obtain ⟨m0, s0, m1, s1, m2, s2, hp, h0, h1, h2⟩ := hp1
  obtain ⟨a, k⟩ := hp.setP v
  have hvb : v.ownBlock ≠ some b := own_ne ho hp (by decide)
  have hsz : w.heap.size ≤ y.heap.size := h.kp.size
  have hrn : pw.ownBlock ≠ some w.heap.size := own_ne h.ow h.rs (by decide)
  have hr1 : y'.heap[w.heap.size]? = _ := (hk1.same _ (Array.getElem?_eq_some_iff.1 h.rs).1 hrn).trans h.rs
  refine ⟨⟨m0, s0, m1, s1, m2, s2, a, h0.kps k hp, h1.kps k hp, h2.kps k hp⟩, ho.stay (fun g hg => ?_), ?_, (k.same _ (Array.getElem?_eq_some_iff.1 hr1).1 (by have := h.lt; omega)).trans hr1, ?_, h.lt⟩
  · obtain ⟨_, cur, hc⟩ := ho.blk hg
    exact k.same g (Array.getElem?_eq_some_iff.1 hc).1 (fun e => hvb (e ▸ hg))
  · refine Kps.trans (Kps.trans h.kp hk1 (fun i hi e => ?_)) k (fun i _ e => .inl e)
    rcases h.nw i e with e | e
    · exact .inr e
    · omega
  · intro g hg
    rcases hv with e | e
    · exact h.nw g (e ▸ hg)
    · rw [e] at hg
      cases hg
      exact .inr hsz
/-- What stands when the command is laid into its place. -/
theorem FW.fin (h : FW w b pv y pw q) (x0 x1 x2 x3 x4 : Value) : PsM (((((y.setCell ⟨w.heap.size, 0, none⟩ x0).setCell ⟨w.heap.size, 1, none⟩ x1).setCell ⟨w.heap.size, 2, none⟩ x2).setCell ⟨w.heap.size, 3, none⟩ x3).setCell ⟨w.heap.size, 4, none⟩ x4) b pw q ∧ Kps (fun k => k = b ∨ pv.ownBlock = some k) w (((((y.setCell ⟨w.heap.size, 0, none⟩ x0).setCell ⟨w.heap.size, 1, none⟩ x1).setCell ⟨w.heap.size, 2, none⟩ x2).setCell ⟨w.heap.size, 3, none⟩ x3).setCell ⟨w.heap.size, 4, none⟩ x4) ∧ (((((y.setCell ⟨w.heap.size, 0, none⟩ x0).setCell ⟨w.heap.size, 1, none⟩ x1).setCell ⟨w.heap.size, 2, none⟩ x2).setCell ⟨w.heap.size, 3, none⟩ x3).setCell ⟨w.heap.size, 4, none⟩ x4).heap[w.heap.size]? = some (.cells #[x0, x1, x2, x3, x4] 33 (0, 0)) := by
  obtain ⟨g0, g⟩ := put5 h.rs x0 x1 x2 x3 x4
  generalize ((((y.setCell ⟨w.heap.size, 0, none⟩ x0).setCell ⟨w.heap.size, 1, none⟩ x1).setCell ⟨w.heap.size, 2, none⟩ x2).setCell ⟨w.heap.size, 3, none⟩ x3).setCell ⟨w.heap.size, 4, none⟩ x4 = wq at *
  have hg : Kps (fun k => k = w.heap.size) y wq := Kps.grown g (fun k e _ => (Option.some.inj e).symm)
  have hlt := h.lt
  refine ⟨⟨h.ps.turn hg (fun i _ e => by subst e; exact not_hv h.rs (by decide)) (fun _ _ _ _ _ _ hp => (hg.same _ hp.lt (by omega)).trans hp), h.ow.stay (fun k hk => ?_)⟩, Kps.trans h.kp hg (fun i hi (e : i = _) => absurd e (by omega)), g0⟩
  obtain ⟨_, cur, hc⟩ := h.ow.blk hk
  exact hg.same k (Array.getElem?_eq_some_iff.1 hc).1 (fun e => own_ne h.ow h.rs (by decide) (e ▸ hk))
theorem FW.mid (h : FW w b pv y pw q) (hg : y.grownBy y' pw.ownBlock) : y'.cell? ⟨b, 7, none⟩ = some pw ∧ (∀ i, y'.frozen? ⟨b, i, none⟩ = false) := by
  obtain ⟨m0, s0, m1, s1, m2, s2, hp, h0, h1, h2⟩ := h.ps
  have hk1 : Kps (fun k => pw.ownBlock = some k) y y' := Kps.grown hg (fun k e _ => e)
  have hp' : y'.heap[b]? = _ := (hk1.same b hp.lt (own_ne h.ow hp (by decide))).trans hp
  obtain ⟨_, _, _, _, _, _, _, _, c7, _, _, _, _, _, cf⟩ := cells13 hp'
  exact ⟨c7, cf⟩
theorem FW.rd (h : FW w b pv y pw q) (hk : Kps (fun k => k = b) y y') : RdS y' pw q.ks := by
  obtain ⟨cs, hcs⟩ := psr_typ h.ps
  refine (h.ow.stay (fun g hg => ?_)).rds
  obtain ⟨_, cur, hc⟩ := h.ow.blk hg
  exact hk.same g (Array.getElem?_eq_some_iff.1 hc).1 (fun e => own_ne h.ow hcs (by decide) (e ▸ hg))
theorem FW.cell7 (h : FW w b pv y pw q) : y.cell? ⟨b, 7, none⟩ = some pw ∧ y.cell? ⟨b, 6, none⟩ = some (.bool q.sl) ∧ (∀ i, y.frozen? ⟨b, i, none⟩ = false) ∧ b < y.heap.size := by
  obtain ⟨m0, s0, m1, s1, m2, s2, hp, h0, h1, h2⟩ := h.ps
  obtain ⟨_, _, _, _, _, _, _, c6, c7, _, _, _, _, _, cf⟩ := cells13 hp
  exact ⟨c7, c6, cf, hp.lt⟩
end
set_option maxRecDepth 100000 in
set_option maxHeartbeats 8000000 in
theorem feed_any {w : World} {b : Nat} {pv : Value} {p : Ps} (h : PsM w b pv p) (hp : p.Ok) (hl : p.ks.length < 17592186044416) (mode key : Int) (hk : In64 key) :
    Calls Tryz.prog 9 #[.pointer (some ⟨b, 0, none⟩), .int .i64 mode, .int .i64 key] w fun e w' => FdP w b pv p mode key e w' := by
  have hbl := h.1.lt
  obtain ⟨w0, hw0⟩ : ∃ w0, w0 = w.alloc (.cells #[.int .i64 0, .int .i64 0, .int .i64 0, .int .i64 0, .int .i64 0] 33) := ⟨_, rfl⟩
  have hb0 : Below w.heap.size w w0 := by rw [hw0]; exact ext_alloc (Below.refl _ _) _
  have HF0 : Hid (FW w b pv w0 pv p) := ⟨h.1.ext hb0, h.2.ext hb0, Kps.of_below _ hb0, by rw [hw0]; exact heap_alloc_new _ _, fun k e => .inl e, hbl⟩
  have HM := hidIt (isl_any mode)
  have HAO := hidIt (ahd_ok hp mode)
  have HAL := hidIt (ahd_len p mode)
  have HAS := hidIt (ahd_sl p mode)
  have HAD := hidIt (show ahd p mode = if isl mode = p.sl then p else ps0 (isl mode) from rfl)
  have HK6 := hidIt hk
  have HL := hidIt hl
  obtain ⟨m, hm⟩ : ∃ m, m = isl mode := ⟨_, rfl⟩
  obtain ⟨a, ha⟩ : ∃ a, a = ahd p mode := ⟨_, rfl⟩
  have HFR : Hid (∀ q c s, ((key = 27 ∧ q = ps0 m ∧ c = cmZ ∧ s = 3) ∨ (key ≠ 27 ∧ ∃ u, Rdo m (a.ks ++ [key]) a.t u c s ∧ ((s = 0 ∧ q = ⟨m, a.ks ++ [key], u⟩) ∨ (s ≠ 0 ∧ q = ps0 m)))) → FdR p mode key q c s) := fun q c s h => by unfold FdR; rw [← hm, ← ha]; exact h
  rw [← hm] at HM HAS HAD
  rw [← ha] at HAO HAL HAS HAD
  clear hm h hp hl hk hb0 ha
  have HLN : Hid (a.ks.length < 17592186044416) := by unfold Hid; have := HAL.out; have := HL.out; omega
  go_enter Tryz.func9, Tryz.ntmps9
  go_upto_region 1 with fail
  rw [← hw0]
  clear hw0
  obtain ⟨c7, c6, cf, hbw⟩ := HF0.out.cell7
  by_cases hsl : m = p.sl
  · have hne : (m == p.sl) = true := by rw [hsl]; simp
    have HFa : Hid (FW w b pv w0 pv a) := by have e := HAD.out; rw [if_pos hsl] at e; rw [e]; exact HF0.out
    clear hsl
    go_upto_region 5 with (go_at_call 19; refine (HM.out _).mono ?_; rintro e w0 ⟨rfl, rfl⟩; (try dsimp only))
    clear HF0 HM HAD
    by_cases hky : key = 27
    · skip
      have hkb : (key == 27) = true := by simpa using hky
      have HRS := hidIt (reset_any HFa.out.ps)
      have HKY := hidIt hky
      clear hky
      go_upto_region 7 with (go_at_call 17; refine HRS.out.mono ?_; rintro e y2 ⟨rfl, hp2, hk2⟩; (try dsimp only); have HF2 := hidIt (HFa.out.reset hp2 hk2); clear hp2 hk2)
      obtain ⟨_, r0, r1, r2, r3, r4, rf⟩ := cells5 HF2.out.rs
      go_wp2_with fail
      have HE := hidIt (HF2.out.fin (.int .i64 0) (.int .i64 0) (.int .i64 0) (.int .i64 0) (.int .i64 0))
      obtain ⟨_, f0, f1, f2, f3, f4, ff⟩ := cells5 HE.out.2.2
      refine bodyPost_ret (v := .tuple #[.agg #[.int .i64 0, .int .i64 0, .int .i64 0, .int .i64 0, .int .i64 0], .int .i64 3]) (by simp [results, Tryz.results9, go_sem, f0, f1, f2, f3, f4]) rfl ⟨ps0 a.sl, cmZ, 3, .slice none 0 0, HFR.out _ _ _ (.inl ⟨HKY.out, by rw [HAS.out], rfl, rfl⟩), rfl, HE.out.1, HE.out.2.1, HF2.out.nw⟩
    · skip
      have hkb : (key == 27) = false := by simpa using hky
      have HKY := hidIt hky
      clear hky
      obtain ⟨k3, HK3⟩ : ∃ k3, Hid (k3 = a.ks ++ [key]) := ⟨_, rfl⟩
      go_upto_region 9 with (at_builtin; refine wpl_int1 _ rfl _ _ 38 rfl Tryz.info_i64 Tryz.underlying38 pv a.ks rfl (HFa.out.ow.ext (ext_alloc (Below.refl _ _) _)) key ⟨w0.heap.size, 0, none⟩ 1 rfl (lit_cell _ _ _) rfl HLN.out ?_; intro v3 y3 ho3 hg3 hv3; have HF3 := hidIt ((HFa.out.ext (ext_alloc (Below.refl _ _) _)).push ho3 hg3 hv3); rw [← HK3.out] at HF3 ho3; obtain ⟨ao3, cu3, rfl, _⟩ := ho3.rds.len; obtain ⟨d7, df⟩ := FW.mid (HFa.out.ext (ext_alloc (Below.refl _ _) _)) hg3; clear ho3 hg3 hv3; (try dsimp only))
      generalize y3.setCell ⟨b, 7, none⟩ (.slice ao3 k3.length cu3) = y4 at HF3 ⊢
      clear d7 df c6 c7 cf
      have HRO := hidIt (readOn_any (ks := k3) HF3.out.ps HAO.out.t (by have := HAO.out.k; rw [HK3.out, List.length_append, List.length_singleton]; show a.t.k ≤ _; omega) (by have := HLN.out; rw [HK3.out, List.length_append, List.length_singleton]; omega) (by
        intro k hk
        rw [HK3.out] at hk
        rcases List.mem_append.1 hk with hk | hk
        · exact HAO.out.i k hk
        · rw [List.mem_singleton.1 hk]; exact HK6.out) (fun y hy => HF3.out.rd hy))
      rw [HAS.out] at HRO
      generalize k3.length = ln at HF3 HRO ⊢
      go_upto_region 10 with (go_at_call 20; refine HRO.out.mono ?_; rintro e y5 ⟨t5, ⟨cr, cc, cv, cm, ca⟩, s5, hrd, rfl, hps5, hk5⟩; (try dsimp only); have HRD := hidIt hrd; have HF5 := hidIt (HF3.out.turn hk5 hps5); clear hrd hps5 hk5)
      obtain ⟨y6, hy6⟩ : ∃ y6, y6 = y5.alloc (.cells #[.int .i64 cr, .int .i64 cc, .int .i64 cv, .int .i64 cm, .int .i64 ca] 33) := ⟨_, rfl⟩
      rw [← hy6]
      have hc6 : y6.heap[y5.heap.size]? = some (.cells #[.int .i64 cr, .int .i64 cc, .int .i64 cv, .int .i64 cm, .int .i64 ca] 33 (0, 0)) := by rw [hy6]; exact heap_alloc_new _ _
      have hb6 : Below y5.heap.size y5 y6 := by rw [hy6]; exact ext_alloc (Below.refl _ _) _
      have HF6 := hidIt (HF5.out.ext hb6)
      have HNE : Hid (y5.heap.size ≠ b ∧ y5.heap.size ≠ w.heap.size) := ⟨by have := HF5.out.ps.lt; omega, by have := (Array.getElem?_eq_some_iff.1 HF5.out.rs).1; omega⟩
      clear hy6 hb6 HF5
      generalize y5.heap.size = g5 at *
      by_cases hs5 : s5 = 0
      · have hsb : (s5 == 0) = true := by simpa using hs5
        obtain ⟨_, g0, g1, g2, g3, g4, gf⟩ := cells5 hc6
        obtain ⟨_, r0, r1, r2, r3, r4, rf⟩ := cells5 HF6.out.rs
        have HS5 := hidIt hs5
        clear hs5 hc6
        go_wp2_with fail
        have HE := hidIt (HF6.out.fin (.int .i64 cr) (.int .i64 cc) (.int .i64 cv) (.int .i64 cm) (.int .i64 ca))
        obtain ⟨_, f0, f1, f2, f3, f4, ff⟩ := cells5 HE.out.2.2
        refine bodyPost_ret (v := .tuple #[.agg #[.int .i64 cr, .int .i64 cc, .int .i64 cv, .int .i64 cm, .int .i64 ca], .int .i64 s5]) (by simp [results, Tryz.results9, go_sem, f0, f1, f2, f3, f4]) rfl ⟨⟨m, k3, t5⟩, ⟨cr, cc, cv, cm, ca⟩, s5, .slice ao3 ln cu3, HFR.out _ _ _ (.inr ⟨HKY.out, t5, by rw [← HK3.out]; exact HRD.out, .inl ⟨HS5.out, by rw [← HK3.out]⟩⟩), rfl, HE.out.1, HE.out.2.1, HF6.out.nw⟩
      · have hsb : (s5 == 0) = false := by simpa using hs5
        have HRS := hidIt (reset_any HF6.out.ps)
        have HS5 := hidIt hs5
        clear hs5
        go_upto_region 12 with (go_at_call 17; refine HRS.out.mono ?_; rintro e y7 ⟨rfl, hp7, hk7⟩; (try dsimp only); have HF7 := hidIt (HF6.out.reset hp7 hk7); have hc7 := (hk7.same _ (Array.getElem?_eq_some_iff.1 hc6).1 HNE.out.1).trans hc6; clear hp7 hk7)
        obtain ⟨_, g0, g1, g2, g3, g4, gf⟩ := cells5 hc7
        obtain ⟨_, r0, r1, r2, r3, r4, rf⟩ := cells5 HF7.out.rs
        clear hc6 hc7
        go_wp2_with fail
        have HE := hidIt (HF7.out.fin (.int .i64 cr) (.int .i64 cc) (.int .i64 cv) (.int .i64 cm) (.int .i64 ca))
        obtain ⟨_, f0, f1, f2, f3, f4, ff⟩ := cells5 HE.out.2.2
        refine bodyPost_ret (v := .tuple #[.agg #[.int .i64 cr, .int .i64 cc, .int .i64 cv, .int .i64 cm, .int .i64 ca], .int .i64 s5]) (by simp [results, Tryz.results9, go_sem, f0, f1, f2, f3, f4]) rfl ⟨ps0 m, ⟨cr, cc, cv, cm, ca⟩, s5, .slice none 0 0, HFR.out _ _ _ (.inr ⟨HKY.out, t5, by rw [← HK3.out]; exact HRD.out, .inr ⟨HS5.out, rfl⟩⟩), rfl, HE.out.1, HE.out.2.1, HF7.out.nw⟩
  · have hne : (m == p.sl) = false := by simpa using hsl
    have HEA : Hid (a = ps0 m) := by have e := HAD.out; rw [if_neg hsl] at e; exact e
    clear hsl
    have HRS0 := hidIt (reset_any HF0.out.ps)
    go_upto_region 4 with (first | (go_at_call 19; refine (HM.out _).mono ?_; rintro e w0 ⟨rfl, rfl⟩; (try dsimp only)) | (go_at_call 17; refine HRS0.out.mono ?_; rintro e y1 ⟨rfl, hp2, hk2⟩; (try dsimp only); have HF1 := hidIt (HF0.out.reset hp2 hk2); clear hp2 hk2))
    obtain ⟨c7, c6, cf, hbw⟩ := HF1.out.cell7
    go_upto_region 5 with fail
    have HFa := hidIt (HF1.out.setS m)
    generalize y1.setCell ⟨b, 6, none⟩ (.bool m) = y0 at HFa ⊢
    rw [show (⟨m, (ps0 p.sl).ks, (ps0 p.sl).t⟩ : Ps) = a from HEA.out.symm] at HFa
    clear HF0 HM HAD HF1 HRS0 c6 c7 cf hbw
    obtain ⟨c7, c6, cf, hbw⟩ := HFa.out.cell7
    by_cases hky : key = 27
    · skip
      have hkb : (key == 27) = true := by simpa using hky
      have HRS := hidIt (reset_any HFa.out.ps)
      have HKY := hidIt hky
      clear hky
      go_upto_region 7 with (go_at_call 17; refine HRS.out.mono ?_; rintro e y2 ⟨rfl, hp2, hk2⟩; (try dsimp only); have HF2 := hidIt (HFa.out.reset hp2 hk2); clear hp2 hk2)
      obtain ⟨_, r0, r1, r2, r3, r4, rf⟩ := cells5 HF2.out.rs
      go_wp2_with fail
      have HE := hidIt (HF2.out.fin (.int .i64 0) (.int .i64 0) (.int .i64 0) (.int .i64 0) (.int .i64 0))
      obtain ⟨_, f0, f1, f2, f3, f4, ff⟩ := cells5 HE.out.2.2
      refine bodyPost_ret (v := .tuple #[.agg #[.int .i64 0, .int .i64 0, .int .i64 0, .int .i64 0, .int .i64 0], .int .i64 3]) (by simp [results, Tryz.results9, go_sem, f0, f1, f2, f3, f4]) rfl ⟨ps0 a.sl, cmZ, 3, .slice none 0 0, HFR.out _ _ _ (.inl ⟨HKY.out, by rw [HAS.out], rfl, rfl⟩), rfl, HE.out.1, HE.out.2.1, HF2.out.nw⟩
    · skip
      have hkb : (key == 27) = false := by simpa using hky
      have HKY := hidIt hky
      clear hky
      obtain ⟨k3, HK3⟩ : ∃ k3, Hid (k3 = a.ks ++ [key]) := ⟨_, rfl⟩
      go_upto_region 9 with (at_builtin; refine wpl_int1 _ rfl _ _ 38 rfl Tryz.info_i64 Tryz.underlying38 (.slice none 0 0) a.ks rfl (HFa.out.ow.ext (ext_alloc (Below.refl _ _) _)) key ⟨y0.heap.size, 0, none⟩ 1 rfl (lit_cell _ _ _) rfl HLN.out ?_; intro v3 y3 ho3 hg3 hv3; have HF3 := hidIt ((HFa.out.ext (ext_alloc (Below.refl _ _) _)).push ho3 hg3 hv3); rw [← HK3.out] at HF3 ho3; obtain ⟨ao3, cu3, rfl, _⟩ := ho3.rds.len; obtain ⟨d7, df⟩ := FW.mid (HFa.out.ext (ext_alloc (Below.refl _ _) _)) hg3; clear ho3 hg3 hv3; (try dsimp only))
      generalize y3.setCell ⟨b, 7, none⟩ (.slice ao3 k3.length cu3) = y4 at HF3 ⊢
      clear d7 df c6 c7 cf
      have HRO := hidIt (readOn_any (ks := k3) HF3.out.ps HAO.out.t (by have := HAO.out.k; rw [HK3.out, List.length_append, List.length_singleton]; show a.t.k ≤ _; omega) (by have := HLN.out; rw [HK3.out, List.length_append, List.length_singleton]; omega) (by
        intro k hk
        rw [HK3.out] at hk
        rcases List.mem_append.1 hk with hk | hk
        · exact HAO.out.i k hk
        · rw [List.mem_singleton.1 hk]; exact HK6.out) (fun y hy => HF3.out.rd hy))
      rw [HAS.out] at HRO
      generalize k3.length = ln at HF3 HRO ⊢
      go_upto_region 10 with (go_at_call 20; refine HRO.out.mono ?_; rintro e y5 ⟨t5, ⟨cr, cc, cv, cm, ca⟩, s5, hrd, rfl, hps5, hk5⟩; (try dsimp only); have HRD := hidIt hrd; have HF5 := hidIt (HF3.out.turn hk5 hps5); clear hrd hps5 hk5)
      obtain ⟨y6, hy6⟩ : ∃ y6, y6 = y5.alloc (.cells #[.int .i64 cr, .int .i64 cc, .int .i64 cv, .int .i64 cm, .int .i64 ca] 33) := ⟨_, rfl⟩
      rw [← hy6]
      have hc6 : y6.heap[y5.heap.size]? = some (.cells #[.int .i64 cr, .int .i64 cc, .int .i64 cv, .int .i64 cm, .int .i64 ca] 33 (0, 0)) := by rw [hy6]; exact heap_alloc_new _ _
      have hb6 : Below y5.heap.size y5 y6 := by rw [hy6]; exact ext_alloc (Below.refl _ _) _
      have HF6 := hidIt (HF5.out.ext hb6)
      have HNE : Hid (y5.heap.size ≠ b ∧ y5.heap.size ≠ w.heap.size) := ⟨by have := HF5.out.ps.lt; omega, by have := (Array.getElem?_eq_some_iff.1 HF5.out.rs).1; omega⟩
      clear hy6 hb6 HF5
      generalize y5.heap.size = g5 at *
      by_cases hs5 : s5 = 0
      · have hsb : (s5 == 0) = true := by simpa using hs5
        obtain ⟨_, g0, g1, g2, g3, g4, gf⟩ := cells5 hc6
        obtain ⟨_, r0, r1, r2, r3, r4, rf⟩ := cells5 HF6.out.rs
        have HS5 := hidIt hs5
        clear hs5 hc6
        go_wp2_with fail
        have HE := hidIt (HF6.out.fin (.int .i64 cr) (.int .i64 cc) (.int .i64 cv) (.int .i64 cm) (.int .i64 ca))
        obtain ⟨_, f0, f1, f2, f3, f4, ff⟩ := cells5 HE.out.2.2
        refine bodyPost_ret (v := .tuple #[.agg #[.int .i64 cr, .int .i64 cc, .int .i64 cv, .int .i64 cm, .int .i64 ca], .int .i64 s5]) (by simp [results, Tryz.results9, go_sem, f0, f1, f2, f3, f4]) rfl ⟨⟨m, k3, t5⟩, ⟨cr, cc, cv, cm, ca⟩, s5, .slice ao3 ln cu3, HFR.out _ _ _ (.inr ⟨HKY.out, t5, by rw [← HK3.out]; exact HRD.out, .inl ⟨HS5.out, by rw [← HK3.out]⟩⟩), rfl, HE.out.1, HE.out.2.1, HF6.out.nw⟩
      · have hsb : (s5 == 0) = false := by simpa using hs5
        have HRS := hidIt (reset_any HF6.out.ps)
        have HS5 := hidIt hs5
        clear hs5
        go_upto_region 12 with (go_at_call 17; refine HRS.out.mono ?_; rintro e y7 ⟨rfl, hp7, hk7⟩; (try dsimp only); have HF7 := hidIt (HF6.out.reset hp7 hk7); have hc7 := (hk7.same _ (Array.getElem?_eq_some_iff.1 hc6).1 HNE.out.1).trans hc6; clear hp7 hk7)
        obtain ⟨_, g0, g1, g2, g3, g4, gf⟩ := cells5 hc7
        obtain ⟨_, r0, r1, r2, r3, r4, rf⟩ := cells5 HF7.out.rs
        clear hc6 hc7
        go_wp2_with fail
        have HE := hidIt (HF7.out.fin (.int .i64 cr) (.int .i64 cc) (.int .i64 cv) (.int .i64 cm) (.int .i64 ca))
        obtain ⟨_, f0, f1, f2, f3, f4, ff⟩ := cells5 HE.out.2.2
        refine bodyPost_ret (v := .tuple #[.agg #[.int .i64 cr, .int .i64 cc, .int .i64 cv, .int .i64 cm, .int .i64 ca], .int .i64 s5]) (by simp [results, Tryz.results9, go_sem, f0, f1, f2, f3, f4]) rfl ⟨ps0 m, ⟨cr, cc, cv, cm, ca⟩, s5, .slice none 0 0, HFR.out _ _ _ (.inr ⟨HKY.out, t5, by rw [← HK3.out]; exact HRD.out, .inr ⟨HS5.out, rfl⟩⟩), rfl, HE.out.1, HE.out.2.1, HF7.out.nw⟩
end Go.Proofs.YtfdceljdhgbkcaaGreatDoor
