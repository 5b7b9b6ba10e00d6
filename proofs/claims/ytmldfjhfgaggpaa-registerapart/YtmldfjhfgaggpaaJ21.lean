import Derived.Test.YtmldfjhfgaggpaaJ20
import Derived.Test.YtmldfjhfgaggpaaJ12
import Derived.Test.YtmldfjhfgaggpaaJ18
import Derived.Deep.CutRange
import Derived.Deep.CutBlock
/- RegisterApart: the walk. -/
namespace Go.Proofs.Ytmldfjhfgaggpaa
open Go.RowKit
variable {F F' : Nat → Prop}

/-- What does not change from round to round. -/
structure Ks where
  B : Nat
  w0 : World
  b : Nat
  bm : Nat
  c : Nat
  cm : Nat
  d : Nat
  dm : Nat
  N : Nat
  s : Bs
  lv : Value
  ev : Value
/-- The state ahead of round j. -/
def Mn (x : Ks) (j : Nat) (sv mv qv uv : Value) (w : World) : Prop := ∃ (F : Nat → Prop) (M : Nat) (t : Bs) (lv2 ev2 : Value) (g2 : List Rg) (e2 : List Int) (ss : List Sf) (us ls : List (Value × List Int)) (ib : List (Nat × Array Value × TypeId)),
  Ap x.B F w ⟨x.b, x.bm, x.c, x.cm, x.d, x.dm, x.N, M, x.s, t, x.lv, x.ev, lv2, ev2, g2, e2, ss, us, ls, ib⟩ ⟨sv, mv, qv, uv, ss.map (·.1), ss.map (·.2.2), ls.map (·.1), us.map (·.1)⟩ ∧ us.map (·.2) = ls.map (·.2) ∧ ls.length = 8 * j ∧ ss.length = 16 * j ∧ M ≤ x.N + 9 * j ∧ Below x.B x.w0 w
theorem OwnG.le {w : World} {base base' : Nat} {v e : Value} {gs : List Rg} (h : OwnG w base v gs e) (hb : base' ≤ base) : OwnG w base' v gs e := by
  obtain ⟨l, h1, h2, h3⟩ := h
  exact ⟨l, h1, own_le h2 hb, fun p hp => ⟨(h3 p hp).1.le hb, (h3 p hp).2⟩⟩
theorem sameS {B : Nat} {w : World} {a : Az} {r : Rz} (h : Ap B F w a r) : (Calls Try.prog 19 #[.pointer (some ⟨a.b, 0, none⟩), a.lv, a.ev] w fun e w' => e = .returned (.bool true) ∧ Below w.heap.size w w') ∧ (Calls Try.prog 19 #[.pointer (some ⟨a.d, 0, none⟩), a.lv, a.ev] w fun e w' => e = .returned (.bool true) ∧ Below w.heap.size w w') :=
  ⟨sameShown_any w a.b a.bm a.N B a.s.m a.s.p a.lv a.ev h.co.bb h.co.sh.g.1 h.co.sh.g.2, sameShown_any w a.d a.dm a.N B a.s.m a.s.p a.lv a.ev h.co.dd h.co.sh.g.1 h.co.sh.g.2⟩
theorem ib_cells {B : Nat} {w : World} {a : Az} {r : Rz} {sb : Nat} {y : Sv} {v : Value} (h : Ap B F w a r) (hm : (sb, stc y v, 47) ∈ a.ib) : w.cell? ⟨sb, 0, none⟩ = some (.int .i64 y.k) ∧ w.cell? ⟨sb, 2, none⟩ = some (.int .i64 y.n) ∧ w.cell? ⟨sb, 3, none⟩ = some (.int .i64 y.s) ∧ w.cell? ⟨sb, 4, none⟩ = some v :=
  cells5 (h.co.ib _ hm).1
/-- Get, as a new list. -/
theorem Get_loose {w : World} {b bm N : Nat} {s : Bs} {n : Int} (hB : Bk F w b bm N s.m s.p) (gs : Good s) (hn : In64 n) : Calls Try.prog 20 #[.pointer (some ⟨b, 0, none⟩), .int .i64 n] w fun e w' => ∃ (k : Int) (u : Value) (er : Int) (z : List Int), e = .returned (.tuple #[.agg #[.int .i64 k, u], .int .i64 er]) ∧ Hid (OwnI w' w.heap.size u z ∧ z.length ≤ 140100 ∧ Below w.heap.size w w') := by
  refine (Get_any w b bm N s.m s.p n hB hn).mono ?_
  rintro e w' ⟨h1, h2⟩
  rcases hg : getB s.m s.p n with ⟨er, _ | y⟩
  · rw [hg] at h1
    exact ⟨0, .slice none 0 0, er, [], h1, OwnI.nil _ _, by simp, h2⟩
  · rw [hg] at h1
    obtain ⟨u, e1, e2⟩ := h1
    refine ⟨y.k, u, er, y.t, e1, e2, ?_, h2⟩
    unfold getB at hg
    split at hg
    · cases hm : s.m (sml (if unB n = true then s.p else n)) with
      | none => rw [hm] at hg; cases hg
      | some r =>
        rw [hm] at hg
        cases hg
        have := (gs.nm _ _ hm).2.2
        omega
    · cases hg
theorem Names_loose {w : World} {b bm N : Nat} {s : Bs} (hB : Bk F w b bm N s.m s.p) (gs : Good s) : Calls Try.prog 23 #[.pointer (some ⟨b, 0, none⟩)] w fun e w' => ∃ (u : Value) (z : List Int), e = .returned u ∧ Hid (OwnI w' w.heap.size u z ∧ z.length ≤ 140100 ∧ Below w.heap.size w w') := by
  refine (Names_any w b bm N s.m s.p hB (nm_some gs)).mono ?_
  rintro e w' ⟨v, h1, h2, h3⟩
  exact ⟨v, _, h1, h2, by have := nms_len s.m 128; omega, h3⟩
theorem Gw.low {B n : Nat} {e : TypeId} {w w' : World} {v v' : Value} {xs : List Value} (g : Gw w w' v v') (h : w.ownsRow B e 1 v n xs) (hB : B ≤ w.heap.size) : Below B w w' := by
  rcases g with ⟨_, g⟩ | ⟨_, g⟩
  · exact (Below.refl B w).grown g hB (fun k hk => (World.ownsRow.lt h k hk).1)
  · exact g.mono hB
/-- The beginning. -/
theorem Ap.begin {B : Nat} {w : World} {b bm c cm d dm N : Nat} {s : Bs} {lv ev : Value} (hb : ∀ F : Nat → Prop, F b → F c → F d → (∀ k, F k → k = b ∨ k = c ∨ k = d) → Bk F w b bm N s.m s.p ∧ Bk F w c cm N s.m s.p ∧ Bk F w d dm N s.m s.p) (gs : Good s) (n1 : b ≠ c ∧ d ≠ c ∧ bm ≠ cm ∧ dm ≠ cm) (h1 : OwnG w B lv (shG s.m s.p 132) ev) (h2 : OwnI w B ev (shE s.m s.p 132)) (lo : B ≤ c ∧ B ≤ cm) (sz : B ≤ w.heap.size) :
    Ap B (fun k => k = b ∨ k = c ∨ k = d) w ⟨b, bm, c, cm, d, dm, N, N, s, s, lv, ev, lv, ev, shG s.m s.p 132, shE s.m s.p 132, [], [], [], []⟩ ⟨.slice none 0 0, .slice none 0 0, .slice none 0 0, .slice none 0 0, [], [], [], []⟩ := by
  obtain ⟨k1, k2, k3⟩ := hb (fun k => k = b ∨ k = c ∨ k = d) (.inl rfl) (.inr (.inl rfl)) (.inr (.inr rfl)) (fun k h => h)
  obtain ⟨⟨c1, b1⟩, _⟩ := k1.typ
  obtain ⟨⟨c3, b3⟩, _⟩ := k2.typ
  obtain ⟨⟨c5, b5⟩, _⟩ := k3.typ
  have nf : ∀ {size n : Nat} {e : TypeId} {v : Value} {xs : List Value}, w.ownsRow B e size v n xs → e ≠ 70 → NF (fun k => k = b ∨ k = c ∨ k = d) v := fun ho he q hq hf => by
    obtain ⟨cs, hc⟩ := own_cells ho hq
    rcases hf with e | e | e
    · exact cells_ne hc b1 he e
    · exact cells_ne hc b3 he e
    · exact cells_ne hc b5 he e
  have sh : Shn (fun k => k = b ∨ k = c ∨ k = d) w B lv (shG s.m s.p 132) ev (shE s.m s.p 132) := by
    obtain ⟨l, a, b, c⟩ := h1
    exact ⟨l, a, b, fun p hp => ⟨(c p hp).1, (c p hp).2, nf (c p hp).1 (by decide)⟩, nf b (by decide), h2, nf h2 (by decide)⟩
  have yn : YF (fun k => k = b ∨ k = c ∨ k = d) (.slice none 0 0) := fun q hq => (by cases hq)
  have an : Av (.slice none 0 0) (.slice none 0 0) := fun q hq => (by cases hq)
  refine ⟨⟨k1, k2, k3, gs, gs, n1, sh, sh, (fun x hx => (by cases hx)), (fun x hx => (by cases hx)), (fun x hx => (by cases hx)), List.Pairwise.nil, (fun x hx => (by cases hx)), lo, sz⟩, ⟨⟨rfl, .inl ⟨rfl, rfl⟩⟩, ⟨rfl, .inl ⟨rfl, rfl⟩⟩, ⟨rfl, .inl ⟨rfl, rfl⟩⟩, ⟨rfl, .inl ⟨rfl, rfl⟩⟩, yn, yn, yn, yn, ⟨an, an, an⟩, (fun x hx => (by cases hx))⟩⟩
set_option maxRecDepth 100000 in
set_option maxHeartbeats 16000000 in
theorem apart_any (v v2 : Value) (xs ys : List Sv) (w : World) (h : RdT w v xs) (h2 : RdT w v2 ys) : Calls Try.prog 7 #[v, v2] w fun e w' => e = .returned (.bool true) ∧ Below w.heap.size w w' := by
  have H := hidIt h
  have H2 := hidIt h2
  obtain ⟨ao, cap, rfl, hl1, hl2, hl3, _, _⟩ := h
  obtain ⟨ao2, cap2, rfl, hm1, hm2, hm3, hok, _⟩ := h2
  have HOK := hidIt hok
  have AB := hidIt (able_any w)
  clear hok
  go_enter Try.func7, Try.ntmps7
  go_upto_region 3 with (go_at_call 12; refine AB.out.mono ?_; rintro e w1 ⟨rfl, hb1⟩; have HB1 := hidIt hb1; clear hb1; (try dsimp only))
  have BN := hidIt (bankG_any _ xs w1 (H.out.ext HB1.out))
  go_upto_region 6 with (go_at_call 13; refine BN.out.mono ?_; rintro e w2 ⟨b, bm, rfl, ⟨s, hbk, hgs⟩, l1, l2, hb2⟩; have HB2 := hidIt (ext_trans HB1.out hb2); have HBK := hidIt hbk; have HGS := hidIt hgs; have L1 := hidIt (And.intro l1 l2); clear hbk hgs l1 l2 hb2; (try dsimp only))
  have SH := hidIt (shown_any w2 b bm _ s.m s.p HBK.out)
  go_upto_region 7 with (go_at_call 17; refine SH.out.mono ?_; rintro e w3 ⟨lv, ev, rfl, hg3, he3, hb3⟩; have G3 := hidIt hg3; have E3 := hidIt he3; have HB3 := hidIt hb3; clear hg3 he3 hb3; (try dsimp only))
  have CP := hidIt (Copy_any w3 b bm _ s.m s.p (HBK.out.ext HB3.out))
  go_upto_region 8 with (go_at_call 22; refine CP.out.mono ?_; rintro e w4 ⟨c, cm, rfl, l1, l2, l3, hb4, hc4⟩; have L4 := hidIt (And.intro l1 (And.intro l2 l3)); have HB4 := hidIt hb4; have C4 := hidIt hc4; clear l1 l2 l3 hb4 hc4; (try dsimp only))
  have CP2 := hidIt (Copy_any (F := fun k => k = b ∨ k = c) w4 b bm _ s.m s.p ((HBK.out.ext HB3.out).avoid HB4.out (.inl rfl) (fun q hq => by
    have hlt := (HBK.out.ext HB3.out).lt
    have := HB4.out.size
    rcases hq with rfl | rfl
    · exact ⟨by omega, .inl rfl⟩
    · exact ⟨L4.out.2.2, .inr L4.out.1⟩)))
  clear CP
  go_upto_region 9 with (go_at_call 22; refine CP2.out.mono ?_; rintro e w5 ⟨d, dm, rfl, l1, l2, l3, hb5, hc5⟩; have L5 := hidIt (And.intro l1 (And.intro l2 l3)); have HB5 := hidIt hb5; have C5 := hidIt hc5; clear l1 l2 l3 hb5 hc5; (try dsimp only))
  clear CP2 SH BN AB
  have A5 : Hid (Ap w.heap.size (fun k => k = b ∨ k = c ∨ k = d) w5 ⟨b, bm, c, cm, d, dm, 9 * xs.length, 9 * xs.length, s, s, lv, ev, lv, ev, shG s.m s.p 132, shE s.m s.p 132, [], [], [], []⟩ ⟨.slice none 0 0, .slice none 0 0, .slice none 0 0, .slice none 0 0, [], [], [], []⟩) := by
    have hlt := HBK.out.lt
    have s3 := HB3.out.size
    have s4 := HB4.out.size
    have s5 := HB5.out.size
    have s2 := HB2.out.size
    obtain ⟨u1, u2, u3⟩ := L4.out
    obtain ⟨z1, z2, z3⟩ := L5.out
    have hcb := (C4.out (fun k => k = b ∨ k = c) (.inr rfl) (fun q hq => by
      rcases hq with rfl | rfl
      · exact ⟨by omega, .inl rfl⟩
      · exact ⟨u3, .inr u1⟩)).lt
    refine Ap.begin (fun F f1 f2 f3 f4 => ⟨?_, ?_, ?_⟩) HGS.out ⟨by omega, by omega, by omega, by omega⟩ (((G3.out.ext HB4.out).ext HB5.out).le s2) (((E3.out.ext HB4.out).ext HB5.out).le s2) ⟨by omega, by omega⟩ (by omega)
    · refine HBK.out.avoid (ext_trans (ext_trans HB3.out HB4.out) HB5.out) f1 (fun q hq => ?_)
      rcases f4 q hq with rfl | rfl | rfl
      · exact ⟨by omega, .inl rfl⟩
      · exact ⟨by omega, .inr (by omega)⟩
      · exact ⟨by omega, .inr (by omega)⟩
    · refine (C4.out (fun k => k = b ∨ k = c) (.inr rfl) (fun q hq => ?_)).avoid HB5.out f2 (fun q hq => ?_)
      · rcases hq with rfl | rfl
        · exact ⟨by omega, .inl rfl⟩
        · exact ⟨u3, .inr u1⟩
      · rcases f4 q hq with rfl | rfl | rfl
        · exact ⟨by omega, .inl (.inl rfl)⟩
        · exact ⟨by omega, .inl (.inr rfl)⟩
        · exact ⟨by omega, .inr (by omega)⟩
    · refine C5.out F f3 (fun q hq => ?_)
      rcases f4 q hq with rfl | rfl | rfl
      · exact ⟨by omega, .inl (.inl rfl)⟩
      · exact ⟨by omega, .inl (.inr rfl)⟩
      · exact ⟨by omega, .inr (by omega)⟩
  have HB05 := hidIt (show Below w.heap.size w w5 from ext_trans (ext_trans (ext_trans HB2.out HB3.out) HB4.out) HB5.out)
  have SC := hidIt (fun w' (hb : Below w5.heap.size w5 w') => sameShown_any w' c cm _ _ s.m s.p lv ev (A5.out.ext hb).co.cc (A5.out.ext hb).co.sh.g.1 (A5.out.ext hb).co.sh.g.2)
  have SD := hidIt (fun w' (hb : Below w5.heap.size w5 w') => sameShown_any w' d dm _ _ s.m s.p lv ev (A5.out.ext hb).co.dd (A5.out.ext hb).co.sh.g.1 (A5.out.ext hb).co.sh.g.2)
  go_upto_region 11 with (go_at_call 19; first | (refine (SC.out w5 (Below.refl _ _)).mono ?_; rintro e w6 ⟨rfl, hb6⟩; have HB6 := hidIt hb6; clear hb6 SC; (try dsimp only)) | (refine (SD.out w6 HB6.out).mono ?_; rintro e w7 ⟨rfl, hb7⟩; have HB7 := hidIt hb7; clear hb7 SD; (try dsimp only)))
  have A7 := hidIt ((A5.out.ext HB6.out).ext HB7.out)
  have HB07 := hidIt (ext_trans (ext_trans HB05.out HB6.out) HB7.out)
  clear A5 HB6 HB7 HB5 HB4 C4 C5 L4 L5 G3 E3 HB3 HBK HB2 HB05 L1 HB1 H
  obtain ⟨x, hx⟩ : ∃ x : Ks, x = ⟨w.heap.size, w, b, bm, c, cm, d, dm, 9 * xs.length, s, lv, ev⟩ := ⟨_, rfl⟩
  have M7 : Hid (Mn x 0 (.slice none 0 0) (.slice none 0 0) (.slice none 0 0) (.slice none 0 0) w7) := by
    subst hx
    exact ⟨_, _, _, _, _, _, _, [], [], [], [], A7.out, rfl, rfl, rfl, Nat.le_add_right _ _, HB07.out⟩
  have HX := hidIt (show x.B = w.heap.size ∧ x.w0 = w ∧ x.b = b ∧ x.c = c ∧ x.d = d ∧ x.lv = lv ∧ x.ev = ev ∧ x.N = 9 * xs.length ∧ x.bm = bm ∧ x.cm = cm ∧ x.dm = dm ∧ x.s = s by subst hx; exact ⟨rfl, rfl, rfl, rfl, rfl, rfl, rfl, rfl, rfl, rfl, rfl, rfl⟩)
  clear hx A7
  go_wp2_with fail
  go_loopw [10, 11, 12, 13, 14] (fun sv mv qv uv i wr => ∃ j : Nat, j ≤ 30 ∧ j ≤ ys.length ∧ i = .int .i64 j ∧ Hid (Mn x j sv mv qv uv wr)) (fun _ _ _ _ i _ => 30 - (RowKit.intOf i).toNat)
  case atStart => exact ⟨0, by omega, by omega, rfl, M7.out⟩
  case round =>
    obtain ⟨j, hj, hj2, rfl, hm⟩ := hrel
    have MN := hidIt hm.out
    clear hm M7
    by_cases hlt : j < ys.length
    · have hi1 : (j : Int) < (ys.length : Int) := by omega
      by_cases h30 : (j : Int) < 30
      · skip
        obtain ⟨F, M, t, lv2, ev2, g2, e2, ss, us, ls, ib, hap, hul, hll, hsl, hM, hbw⟩ := MN.out
        obtain ⟨x1, x2, x3, x4, x5, x6, x7, x8, x9, x10, x11, x12⟩ := HX.out
        rw [x1, x2] at hbw
        rw [x1, x3, x4, x5, x6, x7, x8, x9, x10, x11, x12] at hap
        have hso : RowL wr w.heap.size u10 (ss.map (·.1)) := hap.rw.so
        have hmo : OwnI wr w.heap.size u11 (ss.map (·.2.2)) := hap.rw.mo
        have hqo : RowL wr w.heap.size u12 (ls.map (·.1)) := hap.rw.qo
        have huo : RowL wr w.heap.size u13 (us.map (·.1)) := hap.rw.uo
        obtain ⟨sa, sc, e10, _⟩ := hso.at
        obtain ⟨ma, mc, e11, _⟩ := hmo.at
        obtain ⟨qa, qc, e12, _⟩ := hqo.at
        obtain ⟨ua, uc, e13, _⟩ := huo.at
        clear hso hmo hqo huo
        rw [List.length_map] at e10 e11 e12 e13
        subst e10 e11 e12 e13
        obtain ⟨y, hy⟩ : ∃ y, ys[j]? = some y := ⟨_, List.getElem?_eq_getElem hlt⟩
        obtain ⟨ao', cap', hv', _, _, _, _, h6⟩ := H2.out
        cases hv'
        obtain ⟨pb, po, ea, hpb, hc⟩ := h6 (by intro e; rw [e] at hlt; simp at hlt)
        subst ea
        obtain ⟨c0, c1, c2, c3, pv, c4, c5⟩ := hc j y hy
        have cc : ∀ k, wr.cell? ⟨pb, k, none⟩ = w.cell? ⟨pb, k, none⟩ := fun k => hbw.cell (p := ⟨pb, k, none⟩) hpb
        rw [← cc] at c0 c1 c2 c3 c4
        obtain ⟨pa, pc, epv, _⟩ := c5.len
        subst epv
        have YOK := hidIt (HOK.out y (List.mem_of_getElem? hy))
        have RY := hidIt c5
        have AP := hidIt hap
        have HUL := hidIt hul
        have HLL := hidIt hll
        have HSL := hidIt hsl
        have HM := hidIt (show M ≤ 9 * xs.length + 9 * j by omega)
        have HBW := hidIt hbw
        clear hc h6 c5 hy cc hap hul hll hsl hM hbw x1 x2 x3 x4 x5 x6 x7 x8 x9 x10 x11 x12 MN
        go_upto_region 18 with fail
        generalize hw1 : World.alloc _ _ = w1
        have HB1 : Hid (Below wr.heap.size wr w1) := by unfold Hid; rw [← hw1]; exact ext_alloc (Below.refl _ _) _
        have HK1 : Hid (w1.heap[wr.heap.size]? = some (.cells (stc y (.slice pa y.t.length pc)) 47 (0, 0))) := by unfold Hid; rw [← hw1]; exact heap_alloc_new _ _
        clear hw1 c0 c1 c2 c3 c4
        have A1 := hidIt (AP.out.keep HB1.out (Nat.le_refl _) HK1.out)
        have R1 := hidIt ((RY.out.ext HBW.out).ext HB1.out)
        have HBW1 := hidIt (HBW.out.trans (HB1.out.mono HBW.out.size))
        obtain ⟨c0, c2, c3, c4⟩ := cells5 (show w1.heap[wr.heap.size]? = some (.cells #[.int .i64 y.k, .int .i64 y.who, .int .i64 y.n, .int .i64 y.s, .slice pa y.t.length pc] 47 (0, 0)) from HK1.out)
        have ks := (ib_cells A1.out (y := y) (List.mem_cons_self ..)).2
        go_upto_block 2 with fail
        go_cut [] from 86 to 118 (fun wF => Hid (∃ M' t', Ap w.heap.size F wF ⟨b, bm, c, cm, d, dm, (9 * xs.length), M', s, t', lv, ev, lv2, ev2, g2, e2, ss, us, ls, (wr.heap.size, stc y (.slice pa y.t.length pc), 47) :: ib⟩ ⟨.slice sa ss.length sc, .slice ma ss.length mc, .slice qa ls.length qc, .slice ua us.length uc, ss.map (·.1), ss.map (·.2.2), ls.map (·.1), us.map (·.1)⟩ ∧ M' ≤ (9 * xs.length) + 9 * j + 9 ∧ Below w.heap.size w wF))
        case first =>
          by_cases hk : y.k = 1
          · have t1 : (y.k == 1) = true := by simp [hk]
            clear c2 c3 c4 hk
            go_upto_region 20 with fail
            refine wp_region_held_drew (S := fun w'' => w''.cell? ⟨wr.heap.size, 2, none⟩ = some (.int .i64 y.n) ∧ w''.cell? ⟨wr.heap.size, 3, none⟩ = some (.int .i64 y.s) ∧ w''.cell? ⟨wr.heap.size, 4, none⟩ = some (.slice pa y.t.length pc)) (by kernel_rfl) (ks) (fun hHeld => ?_)
            refine wpAnyH_take (i := 0) (oi := _) (v := ?_) rfl (by kernel_rfl) (by kernel_rfl) (by kernel_rfl) (fun _ _ _ h => h) (Or.inl ⟨by rfl, ?_⟩) (by assumption) ?_
            rotate_left 1
            · intro wq hSw; (try dsimp only at hSw); go_simp; try (with_reducible rfl)
            try simp only [Act.put, List.getElem_toArray, List.getElem_cons_zero, List.setIfInBounds_toArray, List.set_cons_zero, List.set_cons_succ]
            refine wpAnyH_take (i := 1) (oi := _) (v := ?_) rfl (by kernel_rfl) (by kernel_rfl) (by kernel_rfl) (fun _ _ _ h => h) (Or.inl ⟨by rfl, ?_⟩) (by assumption) ?_
            rotate_left 1
            · intro wq hSw; (try dsimp only at hSw); go_simp; try (with_reducible rfl)
            try simp only [Act.put, List.getElem_toArray, List.getElem_cons_succ, List.getElem_cons_zero, List.setIfInBounds_toArray, List.set_cons_zero, List.set_cons_succ]
            refine wpAnyH_take (i := 2) (oi := _) (v := ?_) rfl (by kernel_rfl) (by kernel_rfl) (by kernel_rfl) (fun _ _ _ h => h) (Or.inl ⟨by rfl, ?_⟩) (by assumption) ?_
            rotate_left 1
            · intro wq hSw; (try dsimp only at hSw); go_simp; try (with_reducible rfl)
            try simp only [Act.put, List.getElem_toArray, List.getElem_cons_succ, List.getElem_cons_zero, List.setIfInBounds_toArray, List.set_cons_zero, List.set_cons_succ]
            refine wpAnyH_take (i := 3) (oi := _) (v := ?_) rfl (by kernel_rfl) (by kernel_rfl) (by kernel_rfl) (fun _ _ _ h => h) (Or.inl ⟨by rfl, ?_⟩) (by assumption) ?_
            rotate_left 1
            · intro wq hSw; (try dsimp only at hSw); go_simp; try (with_reducible rfl)
            try simp only [Act.put, List.getElem_toArray, List.getElem_cons_succ, List.getElem_cons_zero, List.setIfInBounds_toArray, List.set_cons_zero, List.set_cons_succ]
            refine wpAnyH_take (i := 4) (oi := _) (v := ?_) rfl (by kernel_rfl) (by kernel_rfl) (by kernel_rfl) (fun _ _ _ h => h) (Or.inl ⟨by rfl, ?_⟩) (by assumption) ?_
            rotate_left 1
            · intro wq hSw; (try dsimp only at hSw); go_simp; try (with_reducible rfl)
            try simp only [Act.put, List.getElem_toArray, List.getElem_cons_succ, List.getElem_cons_zero, List.setIfInBounds_toArray, List.set_cons_zero, List.set_cons_succ]
            refine wpAnyH_take (i := 5) (oi := _) (v := ?_) rfl (by kernel_rfl) (by kernel_rfl) (by kernel_rfl) (fun _ _ _ h => h) (Or.inl ⟨by rfl, ?_⟩) (by assumption) ?_
            rotate_left 1
            · intro wq hSw; (try dsimp only at hSw); go_simp; try (with_reducible rfl)
            try simp only [Act.put, List.getElem_toArray, List.getElem_cons_succ, List.getElem_cons_zero, List.setIfInBounds_toArray, List.set_cons_zero, List.set_cons_succ]
            refine wpAnyH_take (i := 6) (oi := _) (v := ?_) rfl (by kernel_rfl) (by kernel_rfl) (by kernel_rfl) (fun _ _ _ h => h) (Or.inl ⟨by rfl, ?_⟩) (by assumption) ?_
            rotate_left 1
            · intro wq hSw; (try dsimp only at hSw); go_simp; try (with_reducible rfl)
            try simp only [Act.put, List.getElem_toArray, List.getElem_cons_succ, List.getElem_cons_zero, List.setIfInBounds_toArray, List.set_cons_zero, List.set_cons_succ]
            refine wpAnyH_ready (rs := [7]) (by kernel_rfl) (by simp) ?_
            refine AllReadyH.cons (o := _) rfl (fun K hK => ?_) AllReadyH.nil
            rw [if_pos (by rfl)]
            refine wp_append_fresh _ _ _ 29 (by rfl) Try.info_i64 Try.underlying29 (by rfl) _ y.t (by rfl) (R1.out.ext (Below.drew (Below.refl _ _))) (by have := YOK.out.t; omega) ?_; intro v9 w9 ho9 hb9; obtain ⟨a9, n9, c9, e9⟩ := ho9.form; subst e9; have HO9 := hidIt ho9; have HB9 := hidIt (ext_trans (Below.drew (Below.refl w1.heap.size w1)) hb9); clear ho9 hb9 ks; have A9 := hidIt (A1.out.ext HB9.out); have ks := (ib_cells A9.out (y := y) (List.mem_cons_self ..)).2; try dsimp only
            refine hK.out _ _ ?_ (fun hHeld => ?_)
            · (try simp only [World.cell?_drew]); exact ks
            clear hK K
            try simp only [Act.put, List.getElem_toArray, List.getElem_cons_succ, List.getElem_cons_zero, List.setIfInBounds_toArray, List.set_cons_zero, List.set_cons_succ]
            refine wpAnyH_take (i := 8) (oi := _) (v := ?_) rfl (by kernel_rfl) (by kernel_rfl) (by kernel_rfl) (fun _ _ _ h => h) (Or.inl ⟨by rfl, ?_⟩) (by assumption) ?_
            rotate_left 1
            · intro wq hSw; (try dsimp only at hSw); go_simp; try (with_reducible rfl)
            try simp only [Act.put, List.getElem_toArray, List.getElem_cons_succ, List.getElem_cons_zero, List.setIfInBounds_toArray, List.set_cons_zero, List.set_cons_succ]
            refine wpAnyH_ready (rs := [9]) (by kernel_rfl) (by simp) ?_
            refine AllReadyH.cons (o := _) rfl (fun K hK => ?_) AllReadyH.nil
            go_simp
            refine (Yank_any w9 c cm M t y.n ⟨y.s, y.t⟩ _ A9.out.co.cc HO9.out.rds YOK.out.n (by have := HM.out; omega)).mono ?_; rintro e y2 ⟨rfl, hbk, hkb⟩; have A10 := hidIt (A9.out.called hbk hkb (A9.out.co.gc.yank _ _)); clear hbk hkb ks; have ks := (ib_cells A10.out.1 (y := y) (List.mem_cons_self ..)).2; try dsimp only
            refine hK.out _ _ ?_ (fun hHeld => ?_)
            · (try simp only [World.cell?_drew]); exact ks
            clear hK K
            try simp only [Act.put, List.getElem_toArray, List.getElem_cons_succ, List.getElem_cons_zero, List.setIfInBounds_toArray, List.set_cons_zero, List.set_cons_succ]
            refine wpAnyH_done (by kernel_rfl) ?_ _
            go_wp2_with fail
            go_meet
            case rel => exact ⟨_, _, A10.out.1, by have := HM.out; omega, (HBW1.out.trans (HB9.out.mono HBW1.out.size)).trans A10.out.2⟩
          have n1 : (y.k == 1) = false := by simp [hk]
          clear hk
          by_cases hk : y.k = 2
          · have t1 : (y.k == 2) = true := by simp [hk]
            clear c2 c3 c4 hk
            go_upto_region 22 with fail
            refine wp_region_held_drew (S := fun w'' => w''.cell? ⟨wr.heap.size, 2, none⟩ = some (.int .i64 y.n) ∧ w''.cell? ⟨wr.heap.size, 3, none⟩ = some (.int .i64 y.s) ∧ w''.cell? ⟨wr.heap.size, 4, none⟩ = some (.slice pa y.t.length pc)) (by kernel_rfl) (ks) (fun hHeld => ?_)
            refine wpAnyH_take (i := 0) (oi := _) (v := ?_) rfl (by kernel_rfl) (by kernel_rfl) (by kernel_rfl) (fun _ _ _ h => h) (Or.inl ⟨by rfl, ?_⟩) (by assumption) ?_
            rotate_left 1
            · intro wq hSw; (try dsimp only at hSw); go_simp; try (with_reducible rfl)
            try simp only [Act.put, List.getElem_toArray, List.getElem_cons_zero, List.setIfInBounds_toArray, List.set_cons_zero, List.set_cons_succ]
            refine wpAnyH_take (i := 1) (oi := _) (v := ?_) rfl (by kernel_rfl) (by kernel_rfl) (by kernel_rfl) (fun _ _ _ h => h) (Or.inl ⟨by rfl, ?_⟩) (by assumption) ?_
            rotate_left 1
            · intro wq hSw; (try dsimp only at hSw); go_simp; try (with_reducible rfl)
            try simp only [Act.put, List.getElem_toArray, List.getElem_cons_succ, List.getElem_cons_zero, List.setIfInBounds_toArray, List.set_cons_zero, List.set_cons_succ]
            refine wpAnyH_take (i := 2) (oi := _) (v := ?_) rfl (by kernel_rfl) (by kernel_rfl) (by kernel_rfl) (fun _ _ _ h => h) (Or.inl ⟨by rfl, ?_⟩) (by assumption) ?_
            rotate_left 1
            · intro wq hSw; (try dsimp only at hSw); go_simp; try (with_reducible rfl)
            try simp only [Act.put, List.getElem_toArray, List.getElem_cons_succ, List.getElem_cons_zero, List.setIfInBounds_toArray, List.set_cons_zero, List.set_cons_succ]
            refine wpAnyH_take (i := 3) (oi := _) (v := ?_) rfl (by kernel_rfl) (by kernel_rfl) (by kernel_rfl) (fun _ _ _ h => h) (Or.inl ⟨by rfl, ?_⟩) (by assumption) ?_
            rotate_left 1
            · intro wq hSw; (try dsimp only at hSw); go_simp; try (with_reducible rfl)
            try simp only [Act.put, List.getElem_toArray, List.getElem_cons_succ, List.getElem_cons_zero, List.setIfInBounds_toArray, List.set_cons_zero, List.set_cons_succ]
            refine wpAnyH_take (i := 4) (oi := _) (v := ?_) rfl (by kernel_rfl) (by kernel_rfl) (by kernel_rfl) (fun _ _ _ h => h) (Or.inl ⟨by rfl, ?_⟩) (by assumption) ?_
            rotate_left 1
            · intro wq hSw; (try dsimp only at hSw); go_simp; try (with_reducible rfl)
            try simp only [Act.put, List.getElem_toArray, List.getElem_cons_succ, List.getElem_cons_zero, List.setIfInBounds_toArray, List.set_cons_zero, List.set_cons_succ]
            refine wpAnyH_take (i := 5) (oi := _) (v := ?_) rfl (by kernel_rfl) (by kernel_rfl) (by kernel_rfl) (fun _ _ _ h => h) (Or.inl ⟨by rfl, ?_⟩) (by assumption) ?_
            rotate_left 1
            · intro wq hSw; (try dsimp only at hSw); go_simp; try (with_reducible rfl)
            try simp only [Act.put, List.getElem_toArray, List.getElem_cons_succ, List.getElem_cons_zero, List.setIfInBounds_toArray, List.set_cons_zero, List.set_cons_succ]
            refine wpAnyH_take (i := 6) (oi := _) (v := ?_) rfl (by kernel_rfl) (by kernel_rfl) (by kernel_rfl) (fun _ _ _ h => h) (Or.inl ⟨by rfl, ?_⟩) (by assumption) ?_
            rotate_left 1
            · intro wq hSw; (try dsimp only at hSw); go_simp; try (with_reducible rfl)
            try simp only [Act.put, List.getElem_toArray, List.getElem_cons_succ, List.getElem_cons_zero, List.setIfInBounds_toArray, List.set_cons_zero, List.set_cons_succ]
            refine wpAnyH_ready (rs := [7]) (by kernel_rfl) (by simp) ?_
            refine AllReadyH.cons (o := _) rfl (fun K hK => ?_) AllReadyH.nil
            rw [if_pos (by rfl)]
            refine wp_append_fresh _ _ _ 29 (by rfl) Try.info_i64 Try.underlying29 (by rfl) _ y.t (by rfl) (R1.out.ext (Below.drew (Below.refl _ _))) (by have := YOK.out.t; omega) ?_; intro v9 w9 ho9 hb9; obtain ⟨a9, n9, c9, e9⟩ := ho9.form; subst e9; have HO9 := hidIt ho9; have HB9 := hidIt (ext_trans (Below.drew (Below.refl w1.heap.size w1)) hb9); clear ho9 hb9 ks; have A9 := hidIt (A1.out.ext HB9.out); have ks := (ib_cells A9.out (y := y) (List.mem_cons_self ..)).2; try dsimp only
            refine hK.out _ _ ?_ (fun hHeld => ?_)
            · (try simp only [World.cell?_drew]); exact ks
            clear hK K
            try simp only [Act.put, List.getElem_toArray, List.getElem_cons_succ, List.getElem_cons_zero, List.setIfInBounds_toArray, List.set_cons_zero, List.set_cons_succ]
            refine wpAnyH_take (i := 8) (oi := _) (v := ?_) rfl (by kernel_rfl) (by kernel_rfl) (by kernel_rfl) (fun _ _ _ h => h) (Or.inl ⟨by rfl, ?_⟩) (by assumption) ?_
            rotate_left 1
            · intro wq hSw; (try dsimp only at hSw); go_simp; try (with_reducible rfl)
            try simp only [Act.put, List.getElem_toArray, List.getElem_cons_succ, List.getElem_cons_zero, List.setIfInBounds_toArray, List.set_cons_zero, List.set_cons_succ]
            refine wpAnyH_ready (rs := [9]) (by kernel_rfl) (by simp) ?_
            refine AllReadyH.cons (o := _) rfl (fun K hK => ?_) AllReadyH.nil
            go_simp
            refine (Delete_any w9 c cm M t y.n ⟨y.s, y.t⟩ _ A9.out.co.cc HO9.out.rds YOK.out.n (by have := HM.out; omega)).mono ?_; rintro e y2 ⟨rfl, hbk, hkb⟩; have A10 := hidIt (A9.out.called hbk hkb (A9.out.co.gc.delete _ _)); clear hbk hkb ks; have ks := (ib_cells A10.out.1 (y := y) (List.mem_cons_self ..)).2; try dsimp only
            refine hK.out _ _ ?_ (fun hHeld => ?_)
            · (try simp only [World.cell?_drew]); exact ks
            clear hK K
            try simp only [Act.put, List.getElem_toArray, List.getElem_cons_succ, List.getElem_cons_zero, List.setIfInBounds_toArray, List.set_cons_zero, List.set_cons_succ]
            refine wpAnyH_done (by kernel_rfl) ?_ _
            go_wp2_with fail
            go_meet
            case rel => exact ⟨_, _, A10.out.1, by have := HM.out; omega, (HBW1.out.trans (HB9.out.mono HBW1.out.size)).trans A10.out.2⟩
          have n2 : (y.k == 2) = false := by simp [hk]
          clear hk
          by_cases hk : y.k = 3
          · have t1 : (y.k == 3) = true := by simp [hk]
            clear c2 c3 c4 hk
            go_upto_region 24 with fail
            refine wp_region_held_drew (S := fun w'' => w''.cell? ⟨wr.heap.size, 2, none⟩ = some (.int .i64 y.n) ∧ w''.cell? ⟨wr.heap.size, 3, none⟩ = some (.int .i64 y.s) ∧ w''.cell? ⟨wr.heap.size, 4, none⟩ = some (.slice pa y.t.length pc)) (by kernel_rfl) (ks) (fun hHeld => ?_)
            refine wpAnyH_take (i := 0) (oi := _) (v := ?_) rfl (by kernel_rfl) (by kernel_rfl) (by kernel_rfl) (fun _ _ _ h => h) (Or.inl ⟨by rfl, ?_⟩) (by assumption) ?_
            rotate_left 1
            · intro wq hSw; (try dsimp only at hSw); go_simp; try (with_reducible rfl)
            try simp only [Act.put, List.getElem_toArray, List.getElem_cons_zero, List.setIfInBounds_toArray, List.set_cons_zero, List.set_cons_succ]
            refine wpAnyH_take (i := 1) (oi := _) (v := ?_) rfl (by kernel_rfl) (by kernel_rfl) (by kernel_rfl) (fun _ _ _ h => h) (Or.inl ⟨by rfl, ?_⟩) (by assumption) ?_
            rotate_left 1
            · intro wq hSw; (try dsimp only at hSw); go_simp; try (with_reducible rfl)
            try simp only [Act.put, List.getElem_toArray, List.getElem_cons_succ, List.getElem_cons_zero, List.setIfInBounds_toArray, List.set_cons_zero, List.set_cons_succ]
            refine wpAnyH_take (i := 2) (oi := _) (v := ?_) rfl (by kernel_rfl) (by kernel_rfl) (by kernel_rfl) (fun _ _ _ h => h) (Or.inl ⟨by rfl, ?_⟩) (by assumption) ?_
            rotate_left 1
            · intro wq hSw; (try dsimp only at hSw); go_simp; try (with_reducible rfl)
            try simp only [Act.put, List.getElem_toArray, List.getElem_cons_succ, List.getElem_cons_zero, List.setIfInBounds_toArray, List.set_cons_zero, List.set_cons_succ]
            refine wpAnyH_take (i := 3) (oi := _) (v := ?_) rfl (by kernel_rfl) (by kernel_rfl) (by kernel_rfl) (fun _ _ _ h => h) (Or.inl ⟨by rfl, ?_⟩) (by assumption) ?_
            rotate_left 1
            · intro wq hSw; (try dsimp only at hSw); go_simp; try (with_reducible rfl)
            try simp only [Act.put, List.getElem_toArray, List.getElem_cons_succ, List.getElem_cons_zero, List.setIfInBounds_toArray, List.set_cons_zero, List.set_cons_succ]
            refine wpAnyH_take (i := 4) (oi := _) (v := ?_) rfl (by kernel_rfl) (by kernel_rfl) (by kernel_rfl) (fun _ _ _ h => h) (Or.inl ⟨by rfl, ?_⟩) (by assumption) ?_
            rotate_left 1
            · intro wq hSw; (try dsimp only at hSw); go_simp; try (with_reducible rfl)
            try simp only [Act.put, List.getElem_toArray, List.getElem_cons_succ, List.getElem_cons_zero, List.setIfInBounds_toArray, List.set_cons_zero, List.set_cons_succ]
            refine wpAnyH_ready (rs := [5]) (by kernel_rfl) (by simp) ?_
            refine AllReadyH.cons (o := _) rfl (fun K hK => ?_) AllReadyH.nil
            rw [if_pos (by rfl)]
            refine wp_append_fresh _ _ _ 29 (by rfl) Try.info_i64 Try.underlying29 (by rfl) _ y.t (by rfl) (R1.out.ext (Below.drew (Below.refl _ _))) (by have := YOK.out.t; omega) ?_; intro v9 w9 ho9 hb9; obtain ⟨a9, n9, c9, e9⟩ := ho9.form; subst e9; have HO9 := hidIt ho9; have HB9 := hidIt (ext_trans (Below.drew (Below.refl w1.heap.size w1)) hb9); clear ho9 hb9 ks; have A9 := hidIt (A1.out.ext HB9.out); have ks := (ib_cells A9.out (y := y) (List.mem_cons_self ..)).2; try dsimp only
            refine hK.out _ _ ?_ (fun hHeld => ?_)
            · (try simp only [World.cell?_drew]); exact ks
            clear hK K
            try simp only [Act.put, List.getElem_toArray, List.getElem_cons_succ, List.getElem_cons_zero, List.setIfInBounds_toArray, List.set_cons_zero, List.set_cons_succ]
            refine wpAnyH_ready (rs := [6]) (by kernel_rfl) (by simp) ?_
            refine AllReadyH.cons (o := _) rfl (fun K hK => ?_) AllReadyH.nil
            go_simp
            refine (Set_any w9 c cm M t y.n y.t _ A9.out.co.cc HO9.out.rds YOK.out.n (by have := HM.out; omega)).mono ?_; rintro e y2 ⟨rfl, hbk, hkb⟩; have A10 := hidIt (A9.out.called hbk hkb (A9.out.co.gc.set _ _)); clear hbk hkb ks; have ks := (ib_cells A10.out.1 (y := y) (List.mem_cons_self ..)).2; try dsimp only
            refine hK.out _ _ ?_ (fun hHeld => ?_)
            · (try simp only [World.cell?_drew]); exact ks
            clear hK K
            try simp only [Act.put, List.getElem_toArray, List.getElem_cons_succ, List.getElem_cons_zero, List.setIfInBounds_toArray, List.set_cons_zero, List.set_cons_succ]
            refine wpAnyH_done (by kernel_rfl) ?_ _
            go_wp2_with fail
            go_meet
            case rel => exact ⟨_, _, A10.out.1, by have := HM.out; omega, (HBW1.out.trans (HB9.out.mono HBW1.out.size)).trans A10.out.2⟩
          have n3 : (y.k == 3) = false := by simp [hk]
          clear hk
          go_wp2_with fail
          go_meet
          case rel => exact ⟨_, _, A1.out, by have := HM.out; omega, HBW1.out⟩
        obtain ⟨M', t', hap2, hM2, hbw2⟩ := hcut
        have A2 := hidIt hap2
        have HM2 := hidIt hM2
        have HBW2 := hidIt hbw2
        clear hap2 hM2 hbw2 A1 R1 HBW1 HB1 HK1 AP ks c0 c2 c3 c4 HBW HM RY
        have SB := hidIt (sameS A2.out).1
        have SD := hidIt (fun w' (hb : Below wc.heap.size wc w') => (sameS (A2.out.ext hb)).2)
        go_upto_region 27 with (go_at_call 19; first | (refine SB.out.mono ?_; rintro e w2 ⟨rfl, hb2⟩; have HB2 := hidIt hb2; clear hb2 SB; (try dsimp only)) | (refine (SD.out w2 HB2.out).mono ?_; rintro e w3 ⟨rfl, hb3⟩; have HB3 := hidIt (ext_trans HB2.out hb3); clear hb3 SD; (try dsimp only)))
        have A3 := hidIt (A2.out.ext HB3.out)
        have HBW3 := hidIt (HBW2.out.trans (HB3.out.mono HBW2.out.size))
        have SH := hidIt (shown_any w3 c cm M' t'.m t'.p A3.out.co.cc)
        go_upto_region 28 with (go_at_call 17; refine SH.out.mono ?_; rintro e w4 ⟨lv3, ev3, rfl, hg4, he4, hb4⟩; have A4 := hidIt (A3.out.seen hb4 hg4 he4); have HBW4 := hidIt (HBW3.out.trans (hb4.mono HBW3.out.size)); clear hg4 he4 hb4; (try dsimp only))
        clear SH A3 A2 HB2 HB3 HBW3 HBW2
        generalize wr.heap.size = sb at *
        go_wp2_with fail
        go_loopw [12, 13, 18] (fun qv uv k wl => ∃ n : Nat, n ≤ 2 ∧ k = .int .i64 n ∧ Hid (∃ (F : Nat → Prop) (us2 ls2 : List (Value × List Int)) (ib2 : List (Nat × Array Value × TypeId)), Ap w.heap.size F wl ⟨b, bm, c, cm, d, dm, (9 * xs.length), M', s, t', lv, ev, lv3, ev3, shG t'.m t'.p 132, shE t'.m t'.p 132, ss, us2, ls2, ib2⟩ ⟨.slice sa ss.length sc, .slice ma ss.length mc, qv, uv, ss.map (·.1), ss.map (·.2.2), ls2.map (·.1), us2.map (·.1)⟩ ∧ us2.map (·.2) = ls2.map (·.2) ∧ ls2.length = 8 * j + 4 * n ∧ (sb, stc y (.slice pa y.t.length pc), 47) ∈ ib2 ∧ Below w.heap.size w wl)) (fun _ _ k _ => 2 - (RowKit.intOf k).toNat)
        case atStart => exact ⟨0, by omega, rfl, F, us, ls, _, A4.out, HUL.out, HLL.out, List.mem_cons_self .., HBW4.out⟩
        case round =>
          obtain ⟨n, hn, rfl, hx⟩ := hrel
          obtain ⟨F2, us2, ls2, ib2, hap, hul, hll, hsb, hbw⟩ := hx.out
          have hqo : RowL wr w.heap.size u12 (ls2.map (·.1)) := hap.rw.qo
          have huo : RowL wr w.heap.size u13 (us2.map (·.1)) := hap.rw.uo
          obtain ⟨qa2, qc2, e12, _⟩ := hqo.at
          obtain ⟨ua2, uc2, e13, _⟩ := huo.at
          rw [List.length_map] at e12 e13
          clear hqo huo
          subst e12 e13
          have AX := hidIt hap
          have HUL2 := hidIt hul
          have HLL2 := hidIt hll
          have HSB := hidIt hsb
          have HBW5 := hidIt hbw
          clear hx hap hul hll hsb hbw
          by_cases hn2 : (n : Int) < 2
          · skip
            have c2 := (ib_cells AX.out HSB.out).2.1
            go_upto_region 32 with (go_at_call 20; refine (Get_loose AX.out.co.bb AX.out.co.gb YOK.out.n).mono ?_; rintro e w5 ⟨k5, r5, er5, z5, rfl, hx5⟩; obtain ⟨ho5, hz5, hb5⟩ := hx5.out; obtain ⟨a5, l5, d5, e5⟩ := ho5.form; subst e5; have A5 := hidIt (AX.out.loose hb5 ho5 hz5); have HB5 := hidIt hb5; clear hx5 ho5 hz5 hb5 c2; (try dsimp only))
            generalize hw6 : World.alloc _ _ = w6
            have HB6 : Hid (Below w5.heap.size w5 w6) := by unfold Hid; rw [← hw6]; exact ext_alloc (Below.refl _ _) _
            have HK6 : Hid (w6.heap[w5.heap.size]? = some (.cells #[.int .i64 k5, .slice a5 l5 d5] 31 (0, 0))) := by unfold Hid; rw [← hw6]; exact heap_alloc_new _ _
            clear hw6
            have A6 := hidIt (A5.out.ext HB6.out)
            have c2 := (ib_cells A6.out HSB.out).2.1
            go_upto_region 33 with (go_at_call 20; refine (Get_loose A6.out.co.cc A6.out.co.gc YOK.out.n).mono ?_; rintro e w7 ⟨k7, r7, er7, z7, rfl, hx7⟩; obtain ⟨ho7, hz7, hb7⟩ := hx7.out; obtain ⟨a7, l7, d7, e7⟩ := ho7.form; subst e7; have A7 := hidIt (A6.out.loose hb7 ho7 hz7); have HB7 := hidIt hb7; clear hx7 ho7 hz7 hb7 c2; (try dsimp only))
            generalize hw8 : World.alloc _ _ = w8
            have HB8 : Hid (Below w7.heap.size w7 w8) := by unfold Hid; rw [← hw8]; exact ext_alloc (Below.refl _ _) _
            have HK8 : Hid (w8.heap[w7.heap.size]? = some (.cells #[.int .i64 k7, .slice a7 l7 d7] 31 (0, 0))) := by unfold Hid; rw [← hw8]; exact heap_alloc_new _ _
            clear hw8
            have A8 := hidIt (A7.out.ext HB8.out)
            have HF1 : Hid (∀ w', Below w8.heap.size w8 w' → w'.cell? ⟨w5.heap.size, 1, none⟩ = some (.slice a5 l5 d5)) := fun w' hb => (cells2 ((hb.block _ (by have := (Array.getElem?_eq_some_iff.1 HK6.out).1; have := HB7.out.size; have := HB8.out.size; omega)).trans ((HB8.out.block _ (by have := (Array.getElem?_eq_some_iff.1 HK6.out).1; have := HB7.out.size; omega)).trans ((HB7.out.block _ (Array.getElem?_eq_some_iff.1 HK6.out).1).trans HK6.out)))).2.2.1
            have HF2 : Hid (∀ w', Below w8.heap.size w8 w' → w'.cell? ⟨w7.heap.size, 1, none⟩ = some (.slice a7 l7 d7)) := fun w' hb => (cells2 ((hb.block _ (Array.getElem?_eq_some_iff.1 HK8.out).1).trans HK8.out)).2.2.1
            have f1 := HF1.out w8 (Below.refl _ _)
            have f2 := HF2.out w8 (Below.refl _ _)
            have AD := hidIt (A8.out.ext (Below.refl _ _).drew)
            go_region_held3 (fun w' => w'.cell? ⟨w5.heap.size, 1, none⟩ = some (.slice a5 l5 d5) ∧ w'.cell? ⟨w7.heap.size, 1, none⟩ = some (.slice a7 l7 d7)) (go_keep) (first | (go_at_call 23; first | (refine (Names_loose AD.out.co.cc AD.out.co.gc).mono ?_; rintro e w9 ⟨r9, z9, rfl, hx9⟩; obtain ⟨ho9, hz9, hb9⟩ := hx9.out; obtain ⟨a9, l9, d9, e9⟩ := ho9.form; subst e9; have A9 := hidIt (AD.out.loose hb9 ho9 hz9); have HB9 := hidIt hb9; clear hx9 ho9 hz9 hb9 f1 f2 AD; have f1 := HF1.out w9 (ext_trans (Below.refl _ _).drew HB9.out); have f2 := HF2.out w9 (ext_trans (Below.refl _ _).drew HB9.out); (try dsimp only)) | (refine (Names_loose A9.out.co.bb A9.out.co.gb).mono ?_; rintro e w10 ⟨r10, z10, rfl, hx10⟩; obtain ⟨ho10, hz10, hb10⟩ := hx10.out; obtain ⟨a10, l10, d10, e10⟩ := ho10.form; subst e10; have A10 := hidIt (A9.out.loose hb10 ho10 hz10); have HB10 := hidIt hb10; clear hx10 ho10 hz10 hb10 f1 f2 A9; have f1 := HF1.out w10 (ext_trans (ext_trans (Below.refl _ _).drew HB9.out) HB10.out); have f2 := HF2.out w10 (ext_trans (ext_trans (Below.refl _ _).drew HB9.out) HB10.out); (try dsimp only))))
            generalize hw11 : World.alloc _ _ = w11
            have HB11 : Hid (Below w10.heap.size w10 w11) := by unfold Hid; rw [← hw11]; exact ext_alloc (Below.refl _ _) _
            obtain ⟨fl, hfl⟩ : ∃ fl : List (Value × List Int), fl = [(.slice a5 l5 d5, z5), (.slice a7 l7 d7, z7), (.slice a9 l9 d9, z9), (.slice a10 l10 d10, z10)] := ⟨_, rfl⟩
            have HK11 : Hid (w11.heap[w10.heap.size]? = some (.cells (fl.map (·.1)).toArray 29 (0, 0))) := by unfold Hid; rw [← hw11, hfl]; exact heap_alloc_new _ _
            have HFL := hidIt (show fl.length = 4 ∧ ∀ x ∈ fl, ∃ ao n c, x.1 = .slice ao n c by rw [hfl]; refine ⟨rfl, fun x hx => ?_⟩; simp only [List.mem_cons, List.not_mem_nil, or_false] at hx; rcases hx with rfl | rfl | rfl | rfl <;> exact ⟨_, _, _, rfl⟩)
            have HBL := hidIt (ext_trans (ext_trans (ext_trans (ext_trans (ext_trans (ext_trans HB5.out HB6.out) HB7.out) HB8.out) (ext_trans (Below.refl _ _).drew HB9.out)) HB10.out) HB11.out)
            have A11 := hidIt (A10.out.keep HB11.out (Nat.le_refl _) HK11.out)
            have hls : ((((ls2 ++ [(Value.slice a5 l5 d5, z5)]) ++ [(.slice a7 l7 d7, z7)]) ++ [(.slice a9 l9 d9, z9)]) ++ [(.slice a10 l10 d10, z10)]) = ls2 ++ fl := by rw [hfl]; simp
            dsimp only at A11
            rw [hls] at A11
            generalize w10.heap.size = lb at *
            clear hls hfl hw11 HF1 HF2 f1 f2 HK6 HK8 A5 A6 A7 A8 A10 HB5 HB6 HB7 HB8 HB9 HB10 HB11
            generalize Fx (Fx (Fx (Fx F2 (Value.slice a5 l5 d5)) (Value.slice a7 l7 d7)) (Value.slice a9 l9 d9)) (Value.slice a10 l10 d10) = F3 at A11
            have A12 := A11
            have HBW11 := hidIt (HBW5.out.trans (HBL.out.mono HBW5.out.size))
            clear A11 HK11 HBL HBW5 AX
            go_wp2_with fail
            go_loopw [12, 13, 164] (fun qv uv i wl => ∃ p : Nat, p ≤ 4 ∧ i = .int .i64 p ∧ Hid (∃ (F : Nat → Prop) (us3 : List (Value × List Int)), Ap w.heap.size F wl ⟨b, bm, c, cm, d, dm, (9 * xs.length), M', s, t', lv, ev, lv3, ev3, shG t'.m t'.p 132, shE t'.m t'.p 132, ss, us3, ls2 ++ fl, (lb, (fl.map (·.1)).toArray, 29) :: ib2⟩ ⟨.slice sa ss.length sc, .slice ma ss.length mc, qv, uv, ss.map (·.1), ss.map (·.2.2), (ls2 ++ fl.take p).map (·.1), us3.map (·.1)⟩ ∧ us3.map (·.2) = (ls2 ++ fl.take p).map (·.2) ∧ Below w.heap.size w wl)) (fun _ _ i _ => 4 - (RowKit.intOf i).toNat)
            case atStart => exact ⟨0, by omega, rfl, F3, us2, by rw [List.take_zero, List.append_nil]; exact A12.out, by rw [List.take_zero, List.append_nil]; exact HUL2.out, HBW11.out⟩
            case round =>
              obtain ⟨p, hp, rfl, hx⟩ := hrel
              obtain ⟨F4, us3, hap, hul, hbw⟩ := hx.out
              have hqo : RowL wr w.heap.size u12 ((ls2 ++ fl.take p).map (·.1)) := hap.rw.qo
              have huo : RowL wr w.heap.size u13 (us3.map (·.1)) := hap.rw.uo
              obtain ⟨qa3, qc3, e12, _⟩ := hqo.at
              obtain ⟨ua3, uc3, e13, _⟩ := huo.at
              have hul2 := congrArg List.length hul
              rw [List.length_map, List.length_map] at hul2
              rw [List.length_map] at e12 e13
              have hnq : (ls2 ++ fl.take p).length ≤ 300 := by rw [List.length_append, List.length_take]; have := HFL.out.1; have := HLL2.out; omega
              have HNU := hidIt (show us3.length ≤ 300 by omega)
              have HNQ := hidIt hnq
              generalize (ls2 ++ fl.take p).length = nq at e12
              generalize us3.length = nu at e13
              clear hqo huo hul2 hnq
              subst e12 e13
              have AY := hidIt hap
              have HUY := hidIt hul
              have HBY := hidIt hbw
              clear hx hap hul hbw
              by_cases hp4 : (p : Int) < 4
              · obtain ⟨g, hg⟩ : ∃ g, fl[p]? = some g := ⟨_, List.getElem?_eq_getElem (by have := HFL.out.1; omega)⟩
                have HGM := hidIt (List.mem_of_getElem? hg)
                have HTK := hidIt (show fl.take (p + 1) = fl.take p ++ [g] by rw [List.take_succ_eq_append_getElem (by have := HFL.out.1; omega)]; congr 2; rw [List.getElem?_eq_getElem (by have := HFL.out.1; omega)] at hg; cases hg; rfl)
                obtain ⟨ga, gn, gc, hgv⟩ := HFL.out.2 g HGM.out
                have cg : wr.cell? ⟨lb, p, none⟩ = some (.slice ga gn gc) := by
                  rw [cellOf (AY.out.co.ib _ (List.mem_cons_self ..)).1, List.getElem?_toArray, List.getElem?_map, hg, ← hgv]; rfl
                have HGO : Hid (OwnI wr w.heap.size (.slice ga gn gc) g.2) := by
                  have := (AY.out.co.li g (List.mem_append_right _ HGM.out)).1
                  rw [hgv] at this
                  exact this
                have HGV := hidIt hgv
                clear hg hgv
                have QA : Hid (∀ o, RowL (wr.alloc o) w.heap.size (.slice qa3 nq qc3) ((ls2 ++ fl.take p).map (·.1))) := fun o => (AY.out.ext (ext_alloc (Below.refl _ _) o)).rw.qo
                have SZA : Hid (∀ o, w.heap.size ≤ (wr.alloc o).heap.size) := fun o => Nat.le_trans HBY.out.size (ext_alloc (Below.refl wr.heap.size wr) o).size
                have BD : Hid (((ls2 ++ fl.take p).map (·.1)).length + 1 ≤ 1000000) := by unfold Hid; have := HNQ.out; rw [List.length_map]; omega
                have ON : Hid (∀ u ∈ [Value.slice ga gn gc], ∃ ao n c, u = .slice ao n c) := fun u hu => by simp at hu; subst hu; exact ⟨_, _, _, rfl⟩
                have NW : Hid ((wr.alloc (.cells [Value.slice ga gn gc].toArray 29)).heap[wr.heap.size]? = some (.cells [Value.slice ga gn gc].toArray 29 (0, 0))) := heap_alloc_new _ _
                go_upto_region 37 with (at_builtin; refine wpl_rowL rfl _ _ rfl w.heap.size (.slice qa3 nq qc3) ((ls2 ++ fl.take p).map (·.1)) [.slice ga gn gc] rfl (QA.out _) wr.heap.size 1 1 rfl NW.out rfl ON.out (by decide) BD.out (SZA.out _) ?_; intro v5 w5 ho5 hg5; obtain ⟨a5, n5, d5, e5⟩ : ∃ a n d, v5 = Value.slice a n d := (let ⟨a, d, e, _⟩ := ho5.at; ⟨a, _, d, e⟩); subst e5; have HO5 := hidIt ho5; have HG5 := hidIt hg5; clear ho5 hg5)
                have AE : Hid (Ap w.heap.size F4 (wr.alloc (.cells #[Value.slice ga gn gc] 29)) ⟨b, bm, c, cm, d, dm, (9 * xs.length), M', s, t', lv, ev, lv3, ev3, shG t'.m t'.p 132, shE t'.m t'.p 132, ss, us3, ls2 ++ fl, (lb, (fl.map (·.1)).toArray, 29) :: ib2⟩ ⟨.slice sa ss.length sc, .slice ma ss.length mc, .slice qa3 nq qc3, .slice ua3 nu uc3, ss.map (·.1), ss.map (·.2.2), (ls2 ++ fl.take p).map (·.1), us3.map (·.1)⟩) := AY.out.ext (ext_alloc (Below.refl _ _) _)
                have A5 : Hid (Ap w.heap.size (Fx F4 (.slice a5 n5 d5)) w5 ⟨b, bm, c, cm, d, dm, (9 * xs.length), M', s, t', lv, ev, lv3, ev3, shG t'.m t'.p 132, shE t'.m t'.p 132, ss, us3, ls2 ++ fl, (lb, (fl.map (·.1)).toArray, 29) :: ib2⟩ ⟨.slice sa ss.length sc, .slice ma ss.length mc, .slice a5 n5 d5, .slice ua3 nu uc3, ss.map (·.1), ss.map (·.2.2), (ls2 ++ fl.take p).map (·.1) ++ [.slice ga gn gc], us3.map (·.1)⟩) := Ap.pushQ AE.out HG5.out HO5.out
                have HB5 := hidIt (HBY.out.trans ((ext_alloc (Below.refl wr.heap.size wr) (.cells #[Value.slice ga gn gc] 29)).mono HBY.out.size |>.trans (Gw.low HG5.out AE.out.rw.qo (SZA.out _))))
                clear AE HG5 HO5 QA SZA BD ON NW cg HGO AY HBY
                have HG6 : Hid (RdS w5 (.slice ga gn gc) g.2 ∧ g.2.length ≤ 140100) := by
                  have := A5.out.co.li g (List.mem_append_right _ HGM.out)
                  rw [HGV.out] at this
                  exact ⟨this.1.rds, this.2.2⟩
                have UA : Hid (∀ w6 v6, Below w5.heap.size w5 w6 → OwnI w6 w5.heap.size v6 g.2 → ∀ o, RowL (w6.alloc o) w.heap.size (.slice ua3 nu uc3) (us3.map (·.1)) ∧ w.heap.size ≤ (w6.alloc o).heap.size) := fun w6 v6 hb ho o => ⟨((A5.out.want hb ho).ext (ext_alloc (Below.refl _ _) o)).rw.uo, Nat.le_trans HB5.out.size (Nat.le_trans hb.size (ext_alloc (Below.refl w6.heap.size w6) o).size)⟩
                have BU : Hid ((us3.map (·.1)).length + 1 ≤ 1000000) := by unfold Hid; have := HNU.out; rw [List.length_map]; omega
                have OA : Hid (∀ a n d, ∀ u ∈ [Value.slice a n d], ∃ ao n c, u = .slice ao n c) := fun a n d u hu => by simp at hu; subst hu; exact ⟨_, _, _, rfl⟩
                have NA : Hid (∀ (w6 : World) (u : Value), (w6.alloc (.cells [u].toArray 29)).heap[w6.heap.size]? = some (.cells [u].toArray 29 (0, 0))) := fun w6 u => heap_alloc_new _ _
                go_wp2_with (at_builtin; first
                  | (refine wpl_ints rfl _ _ 29 rfl w5.heap.size Try.info_i64 Try.underlying29 _ [] rfl (OwnI.nil _ _) _ g.2 rfl HG6.out.1 (by have := HG6.out.2; simp; omega) (Nat.le_refl _) ?_; intro v6 w6 o6 hb6; obtain ⟨a6, n6, d6, e6⟩ := o6.form; subst e6; have O6 := hidIt (show OwnI w6 w5.heap.size (.slice a6 n6 d6) g.2 from o6); have HB6 := hidIt hb6; clear o6 hb6 HG6)
                  | (refine wpl_rowL rfl _ _ rfl w.heap.size (.slice ua3 nu uc3) (us3.map (·.1)) [.slice a6 n6 d6] rfl (UA.out w6 _ HB6.out O6.out _).1 w6.heap.size 1 1 rfl (NA.out _ _) rfl (OA.out _ _ _) (by decide) BU.out (UA.out w6 _ HB6.out O6.out _).2 ?_; intro v7 w7 ho7 hg7; obtain ⟨a7, n7, d7, e7⟩ : ∃ a n d, v7 = Value.slice a n d := (let ⟨a, d, e, _⟩ := ho7.at; ⟨a, _, d, e⟩); subst e7; have HO7 := hidIt ho7; have HG7 := hidIt hg7; clear ho7 hg7))
                have AF : Hid (Ap w.heap.size (Fx F4 (.slice a5 n5 d5)) (w6.alloc (.cells #[Value.slice a6 n6 d6] 29)) ⟨b, bm, c, cm, d, dm, (9 * xs.length), M', s, t', lv, ev, lv3, ev3, shG t'.m t'.p 132, shE t'.m t'.p 132, ss, us3 ++ [(.slice a6 n6 d6, g.2)], ls2 ++ fl, (lb, (fl.map (·.1)).toArray, 29) :: ib2⟩ ⟨.slice sa ss.length sc, .slice ma ss.length mc, .slice a5 n5 d5, .slice ua3 nu uc3, ss.map (·.1), ss.map (·.2.2), (ls2 ++ fl.take p).map (·.1) ++ [.slice ga gn gc], us3.map (·.1)⟩) := (A5.out.want HB6.out O6.out).ext (ext_alloc (Below.refl _ _) _)
                have A7 := hidIt (Ap.pushU AF.out HG7.out HO7.out)
                have HB7 := hidIt (HB5.out.trans ((HB6.out.mono HB5.out.size).trans (((ext_alloc (Below.refl w6.heap.size w6) (.cells #[Value.slice a6 n6 d6] 29)).mono (Nat.le_trans HB5.out.size HB6.out.size)).trans (Gw.low HG7.out AF.out.rw.uo (UA.out w6 _ HB6.out O6.out _).2))))
                have HQ := hidIt (show (ls2 ++ fl.take (p + 1)).map (·.1) = (ls2 ++ fl.take p).map (·.1) ++ [.slice ga gn gc] by rw [HTK.out, ← List.append_assoc, List.map_append, ← HGV.out]; rfl)
                have HU := hidIt (show (us3 ++ [(Value.slice a6 n6 d6, g.2)]).map (·.1) = us3.map (·.1) ++ [.slice a6 n6 d6] by rw [List.map_append]; rfl)
                have HU2 := hidIt (show (us3 ++ [(Value.slice a6 n6 d6, g.2)]).map (·.2) = (ls2 ++ fl.take (p + 1)).map (·.2) by rw [List.map_append, HUY.out, HTK.out, ← List.append_assoc, List.map_append (l₂ := [g])]; rfl)
                clear AF HG7 HO7 A5 O6 UA BU OA NA
                generalize Fx (Fx F4 (.slice a5 n5 d5)) (.slice a7 n7 d7) = F8 at A7
                have A8 : Hid (Ap w.heap.size F8 w7 ⟨b, bm, c, cm, d, dm, (9 * xs.length), M', s, t', lv, ev, lv3, ev3, shG t'.m t'.p 132, shE t'.m t'.p 132, ss, us3 ++ [(.slice a6 n6 d6, g.2)], ls2 ++ fl, (lb, (fl.map (·.1)).toArray, 29) :: ib2⟩ ⟨.slice sa ss.length sc, .slice ma ss.length mc, .slice a5 n5 d5, .slice a7 n7 d7, ss.map (·.1), ss.map (·.2.2), (ls2 ++ fl.take (p + 1)).map (·.1), (us3 ++ [(Value.slice a6 n6 d6, g.2)]).map (·.1)⟩) := by
                  rw [HQ.out, HU.out]
                  exact A7
                clear A7
                go_roundw
                case rel =>
                  exact ⟨p + 1, by omega, by go_num, F8, us3 ++ [(.slice a6 n6 d6, g.2)], A8.out, HU2.out, HB7.out⟩
                case measure => simp [RowKit.intOf]; omega
              · have hp5 : p = 4 := by omega
                have HT4 := hidIt (show ls2 ++ fl.take p = ls2 ++ fl by rw [List.take_of_length_le (by have := HFL.out.1; omega)])
                go_wp2_with fail
                go_roundw
                case rel =>
                  have hap := AY.out
                  rw [HT4.out] at hap
                  have hul := HUY.out
                  rw [HT4.out] at hul
                  exact ⟨n + 1, by omega, by go_num, F4, us3, ls2 ++ fl, _, hap, hul, by rw [List.length_append]; have := HFL.out.1; have := HLL2.out; omega, List.mem_cons_of_mem _ HSB.out, HBY.out⟩
                case measure => simp [RowKit.intOf]; omega
          · have hn3 : n = 2 := by omega
            subst hn3
            have HLL3 := hidIt (show ls2.length = 8 * (j + 1) by have := HLL2.out; omega)
            clear HLL2
            have c2 := (ib_cells AX.out HSB.out).2.1
            go_upto_region 40 with (go_at_call 20; refine (Get_loose AX.out.co.bb AX.out.co.gb YOK.out.n).mono ?_; rintro e w5 ⟨k5, r5, er5, z5, rfl, hx5⟩; obtain ⟨ho5, hz5, hb5⟩ := hx5.out; obtain ⟨a5, l5, d5, e5⟩ := ho5.form; subst e5; have A5 := hidIt (AX.out.loose hb5 ho5 hz5); have HB5 := hidIt hb5; clear hx5 ho5 hz5 hb5 c2; (try dsimp only))
            generalize hw6 : World.alloc _ _ = w6
            have HB6 : Hid (Below w5.heap.size w5 w6) := by unfold Hid; rw [← hw6]; exact ext_alloc (Below.refl _ _) _
            have HK6 : Hid (w6.heap[w5.heap.size]? = some (.cells #[.int .i64 k5, .slice a5 l5 d5] 31 (0, 0))) := by unfold Hid; rw [← hw6]; exact heap_alloc_new _ _
            clear hw6
            have A6 := hidIt (A5.out.ext HB6.out)
            have c2 := (ib_cells A6.out HSB.out).2.1
            go_upto_region 41 with (go_at_call 20; refine (Get_loose A6.out.co.cc A6.out.co.gc YOK.out.n).mono ?_; rintro e w7 ⟨k7, r7, er7, z7, rfl, hx7⟩; obtain ⟨ho7, hz7, hb7⟩ := hx7.out; obtain ⟨a7, l7, d7, e7⟩ := ho7.form; subst e7; have A7 := hidIt (A6.out.loose hb7 ho7 hz7); have HB7 := hidIt hb7; clear hx7 ho7 hz7 hb7 c2; (try dsimp only))
            generalize hw8 : World.alloc _ _ = w8
            have HB8 : Hid (Below w7.heap.size w7 w8) := by unfold Hid; rw [← hw8]; exact ext_alloc (Below.refl _ _) _
            have HK8 : Hid (w8.heap[w7.heap.size]? = some (.cells #[.int .i64 k7, .slice a7 l7 d7] 31 (0, 0))) := by unfold Hid; rw [← hw8]; exact heap_alloc_new _ _
            clear hw8
            have A8 := hidIt (A7.out.ext HB8.out)
            have HF1 : Hid (∀ w', Below w8.heap.size w8 w' → w'.cell? ⟨w5.heap.size, 1, none⟩ = some (.slice a5 l5 d5)) := fun w' hb => (cells2 ((hb.block _ (by have := (Array.getElem?_eq_some_iff.1 HK6.out).1; have := HB7.out.size; have := HB8.out.size; omega)).trans ((HB8.out.block _ (by have := (Array.getElem?_eq_some_iff.1 HK6.out).1; have := HB7.out.size; omega)).trans ((HB7.out.block _ (Array.getElem?_eq_some_iff.1 HK6.out).1).trans HK6.out)))).2.2.1
            have HF2 : Hid (∀ w', Below w8.heap.size w8 w' → w'.cell? ⟨w7.heap.size, 1, none⟩ = some (.slice a7 l7 d7)) := fun w' hb => (cells2 ((hb.block _ (Array.getElem?_eq_some_iff.1 HK8.out).1).trans HK8.out)).2.2.1
            have f1 := HF1.out w8 (Below.refl _ _)
            have f2 := HF2.out w8 (Below.refl _ _)
            have AD := hidIt (A8.out.ext (Below.refl _ _).drew)
            go_region_held3 (fun w' => w'.cell? ⟨w5.heap.size, 1, none⟩ = some (.slice a5 l5 d5) ∧ w'.cell? ⟨w7.heap.size, 1, none⟩ = some (.slice a7 l7 d7)) (go_keep) (first | (go_at_call 23; first | (refine (Names_loose AD.out.co.cc AD.out.co.gc).mono ?_; rintro e w9 ⟨r9, z9, rfl, hx9⟩; obtain ⟨ho9, hz9, hb9⟩ := hx9.out; obtain ⟨a9, l9, d9, e9⟩ := ho9.form; subst e9; have A9 := hidIt (AD.out.loose hb9 ho9 hz9); have HB9 := hidIt hb9; clear hx9 ho9 hz9 hb9 f1 f2 AD; have f1 := HF1.out w9 (ext_trans (Below.refl _ _).drew HB9.out); have f2 := HF2.out w9 (ext_trans (Below.refl _ _).drew HB9.out); (try dsimp only)) | (refine (Names_loose A9.out.co.bb A9.out.co.gb).mono ?_; rintro e w10 ⟨r10, z10, rfl, hx10⟩; obtain ⟨ho10, hz10, hb10⟩ := hx10.out; obtain ⟨a10, l10, d10, e10⟩ := ho10.form; subst e10; have A10 := hidIt (A9.out.loose hb10 ho10 hz10); have HB10 := hidIt hb10; clear hx10 ho10 hz10 hb10 f1 f2 A9; have f1 := HF1.out w10 (ext_trans (ext_trans (Below.refl _ _).drew HB9.out) HB10.out); have f2 := HF2.out w10 (ext_trans (ext_trans (Below.refl _ _).drew HB9.out) HB10.out); (try dsimp only))))
            generalize hw11 : World.alloc _ _ = w11
            have HB11 : Hid (Below w10.heap.size w10 w11) := by unfold Hid; rw [← hw11]; exact ext_alloc (Below.refl _ _) _
            obtain ⟨fl, hfl⟩ : ∃ fl : List (Value × List Int), fl = [(.slice a5 l5 d5, z5), (.slice a7 l7 d7, z7), (.slice a9 l9 d9, z9), (.slice a10 l10 d10, z10)] := ⟨_, rfl⟩
            have HK11 : Hid (w11.heap[w10.heap.size]? = some (.cells (fl.map (·.1)).toArray 29 (0, 0))) := by unfold Hid; rw [← hw11, hfl]; exact heap_alloc_new _ _
            have HFL := hidIt (show fl.length = 4 ∧ ∀ x ∈ fl, ∃ ao n c, x.1 = .slice ao n c by rw [hfl]; refine ⟨rfl, fun x hx => ?_⟩; simp only [List.mem_cons, List.not_mem_nil, or_false] at hx; rcases hx with rfl | rfl | rfl | rfl <;> exact ⟨_, _, _, rfl⟩)
            have HBL := hidIt (ext_trans (ext_trans (ext_trans (ext_trans (ext_trans (ext_trans HB5.out HB6.out) HB7.out) HB8.out) (ext_trans (Below.refl _ _).drew HB9.out)) HB10.out) HB11.out)
            have A11 := hidIt (A10.out.keep HB11.out (Nat.le_refl _) HK11.out)
            have hls : ((((ls2 ++ [(Value.slice a5 l5 d5, z5)]) ++ [(.slice a7 l7 d7, z7)]) ++ [(.slice a9 l9 d9, z9)]) ++ [(.slice a10 l10 d10, z10)]) = ls2 ++ fl := by rw [hfl]; simp
            dsimp only at A11
            rw [hls] at A11
            generalize w10.heap.size = lb at *
            clear hls hfl hw11 HF1 HF2 f1 f2 HK6 HK8 A5 A6 A7 A8 A10 HB5 HB6 HB7 HB8 HB9 HB10 HB11
            generalize Fx (Fx (Fx (Fx F2 (Value.slice a5 l5 d5)) (Value.slice a7 l7 d7)) (Value.slice a9 l9 d9)) (Value.slice a10 l10 d10) = F3 at A11
            have A12 := A11
            have HBW11 := hidIt (HBW5.out.trans (HBL.out.mono HBW5.out.size))
            clear A11 HK11 HBL HBW5 AX
            go_wp2_with fail
            go_loopw [10, 11, 202] (fun sv mv i wl => ∃ p : Nat, p ≤ 4 ∧ i = .int .i64 p ∧ Hid (∃ (F : Nat → Prop) (ss4 : List Sf), Ap w.heap.size F wl ⟨b, bm, c, cm, d, dm, (9 * xs.length), M', s, t', lv, ev, lv3, ev3, shG t'.m t'.p 132, shE t'.m t'.p 132, ss4, us2, ls2 ++ fl.drop p, (lb, (fl.map (·.1)).toArray, 29) :: ib2⟩ ⟨sv, mv, .slice qa2 ls2.length qc2, .slice ua2 us2.length uc2, ss4.map (·.1), ss4.map (·.2.2), ls2.map (·.1), us2.map (·.1)⟩ ∧ ss4.length = ss.length + 4 * p ∧ Below w.heap.size w wl)) (fun _ _ i _ => 4 - (RowKit.intOf i).toNat)
            case atStart => exact ⟨0, by omega, rfl, F3, ss, A12.out, rfl, HBW11.out⟩
            case round =>
              obtain ⟨p, hp, rfl, hx⟩ := hrel
              obtain ⟨F4, ss4, hap, hsl4, hbw⟩ := hx.out
              have hso : RowL wr w.heap.size u10 (ss4.map (·.1)) := hap.rw.so
              have hmo : OwnI wr w.heap.size u11 (ss4.map (·.2.2)) := hap.rw.mo
              obtain ⟨sa4, sc4, e10, _⟩ := hso.at
              obtain ⟨ma4, mc4, e11, _⟩ := hmo.at
              rw [List.length_map] at e10 e11
              have hns : ss4.length ≤ 600 := by have := HSL.out; omega
              have HNS := hidIt hns
              have HS4 := hidIt hsl4
              obtain ⟨ns, hnse⟩ : ∃ ns, ns = ss4.length := ⟨_, rfl⟩
              rw [← hnse] at e10 e11 hns
              have HNE := hidIt hnse
              clear hso hmo hnse hsl4
              subst e10 e11
              have AY := hidIt hap
              have HBY := hidIt hbw
              clear hx hap hbw
              by_cases hp4 : (p : Int) < 4
              · obtain ⟨g, hg⟩ : ∃ g, fl[p]? = some g := ⟨_, List.getElem?_eq_getElem (by have := HFL.out.1; omega)⟩
                have HGM := hidIt (List.mem_of_getElem? hg)
                have HDR := hidIt (show fl.drop p = g :: fl.drop (p + 1) by rw [List.drop_eq_getElem_cons (by have := HFL.out.1; omega)]; congr 1; rw [List.getElem?_eq_getElem (by have := HFL.out.1; omega)] at hg; cases hg; rfl)
                obtain ⟨ga, gn, gc, hgv⟩ := HFL.out.2 g HGM.out
                have cg : wr.cell? ⟨lb, p, none⟩ = some (.slice ga gn gc) := by
                  rw [cellOf (AY.out.co.ib _ (List.mem_cons_self ..)).1, List.getElem?_toArray, List.getElem?_map, hg, ← hgv]; rfl
                have HGO : Hid (OwnI wr w.heap.size (.slice ga gn gc) g.2 ∧ g.2.length ≤ 140100) := by
                  have := AY.out.co.li g (List.mem_append_right _ (by rw [HDR.out]; exact List.mem_cons_self ..))
                  rw [hgv] at this
                  exact ⟨this.1, this.2.2⟩
                have HGL : Hid (ls2 ++ fl.drop p = ls2 ++ (Value.slice ga gn gc, g.2) :: fl.drop (p + 1)) := by unfold Hid; rw [HDR.out, ← hgv]
                clear hg hgv
                obtain ⟨m, hm⟩ : ∃ m : Int, m = 5000 + (ns : Int) := ⟨_, rfl⟩
                have hwm : IntKind.i64.wrap (5000 + (ns : Int)) = m := by rw [IntKind.wrap_i64, hm]; omega
                clear hm
                have GR := hidIt (grown_any wr (.slice ga gn gc) g.2 m HGO.out.1 HBY.out.size (by have := HGO.out.2; omega))
                have G5 : Hid (∀ w5 rb x1 x2 x3, (wr.heap.size ≤ rb ∧ w5.heap[rb]? = some (.cells #[.slice ga gn gc, x1, x2, x3] 29 (0, 0)) ∧ OwnI w5 w.heap.size (.slice ga gn gc) (List.replicate g.2.length m) ∧ OwnI w5 w.heap.size x1 (List.replicate (g.2.length + 1) m) ∧ OwnI w5 w.heap.size x2 (List.replicate (g.2.length + 2) m) ∧ OwnI w5 w.heap.size x3 (List.replicate (g.2.length + 103) m) ∧ Near wr (.slice ga gn gc) x1 ∧ Near wr (.slice ga gn gc) x2 ∧ Near wr (.slice ga gn gc) x3 ∧ Kps (fun k => (Value.slice ga gn gc).ownBlock = some k) wr w5) → Ap w.heap.size (fun q => F4 q ∧ (Value.slice ga gn gc).ownBlock ≠ some q) w5 ⟨b, bm, c, cm, d, dm, (9 * xs.length), M', s, t', lv, ev, lv3, ev3, shG t'.m t'.p 132, shE t'.m t'.p 132, ss4 ++ [(.slice ga gn gc, g.2.length, m), (x1, g.2.length + 1, m), (x2, g.2.length + 2, m), (x3, g.2.length + 103, m)], us2, ls2 ++ fl.drop (p + 1), (lb, (fl.map (·.1)).toArray, 29) :: ib2⟩ ⟨.slice sa4 ns sc4, .slice ma4 ns mc4, .slice qa2 ls2.length qc2, .slice ua2 us2.length uc2, ss4.map (·.1), ss4.map (·.2.2), ls2.map (·.1), us2.map (·.1)⟩) := fun w5 rb x1 x2 x3 ⟨_, _, o0, o1, o2, o3, m1, m2, m3, k⟩ => AY.out.grown HGL.out (by have := HGO.out.2; omega) o0 o1 o2 o3 m1 m2 m3 k
                have Z5 : Hid (∀ w5 rb x1 x2 x3, (wr.heap.size ≤ rb ∧ w5.heap[rb]? = some (.cells #[.slice ga gn gc, x1, x2, x3] 29 (0, 0)) ∧ OwnI w5 w.heap.size (.slice ga gn gc) (List.replicate g.2.length m) ∧ OwnI w5 w.heap.size x1 (List.replicate (g.2.length + 1) m) ∧ OwnI w5 w.heap.size x2 (List.replicate (g.2.length + 2) m) ∧ OwnI w5 w.heap.size x3 (List.replicate (g.2.length + 103) m) ∧ Near wr (.slice ga gn gc) x1 ∧ Near wr (.slice ga gn gc) x2 ∧ Near wr (.slice ga gn gc) x3 ∧ Kps (fun k => (Value.slice ga gn gc).ownBlock = some k) wr w5) → w.heap.size ≤ w5.heap.size ∧ Below w.heap.size wr w5) := fun w5 rb x1 x2 x3 ⟨_, _, _, _, _, _, _, _, _, k⟩ => ⟨Nat.le_trans HBY.out.size k.size, k.below HBY.out.size (fun q hq => (World.ownsRow.lt HGO.out.1 q hq).1)⟩
                have O5 : Hid (∀ w5 rb x1 x2 x3, (wr.heap.size ≤ rb ∧ w5.heap[rb]? = some (.cells #[.slice ga gn gc, x1, x2, x3] 29 (0, 0)) ∧ OwnI w5 w.heap.size (.slice ga gn gc) (List.replicate g.2.length m) ∧ OwnI w5 w.heap.size x1 (List.replicate (g.2.length + 1) m) ∧ OwnI w5 w.heap.size x2 (List.replicate (g.2.length + 2) m) ∧ OwnI w5 w.heap.size x3 (List.replicate (g.2.length + 103) m) ∧ Near wr (.slice ga gn gc) x1 ∧ Near wr (.slice ga gn gc) x2 ∧ Near wr (.slice ga gn gc) x3 ∧ Kps (fun k => (Value.slice ga gn gc).ownBlock = some k) wr w5) → ∀ u ∈ [Value.slice ga gn gc, x1, x2, x3], ∃ ao n c, u = .slice ao n c) := fun w5 rb x1 x2 x3 ⟨_, _, o0, o1, o2, o3, _⟩ u hu => by
                  simp only [List.mem_cons, List.not_mem_nil, or_false] at hu
                  rcases hu with rfl | rfl | rfl | rfl
                  · exact o0.form
                  · exact o1.form
                  · exact o2.form
                  · exact o3.form
                have BD : Hid ((ss4.map (·.1)).length + 4 ≤ 1000000 ∧ (ss4.map (·.2.2)).length + 4 ≤ 1000000) := by unfold Hid; have := HNS.out; rw [List.length_map, List.length_map]; omega
                go_upto_region 46 with (first
                  | (go_at_call 24; refine GR.out.mono ?_; rintro e w5 ⟨rb, x1, x2, x3, rfl, hx⟩; have HX5 : Hid (wr.heap.size ≤ rb ∧ w5.heap[rb]? = some (.cells #[.slice ga gn gc, x1, x2, x3] 29 (0, 0)) ∧ OwnI w5 w.heap.size (.slice ga gn gc) (List.replicate g.2.length m) ∧ OwnI w5 w.heap.size x1 (List.replicate (g.2.length + 1) m) ∧ OwnI w5 w.heap.size x2 (List.replicate (g.2.length + 2) m) ∧ OwnI w5 w.heap.size x3 (List.replicate (g.2.length + 103) m) ∧ Near wr (.slice ga gn gc) x1 ∧ Near wr (.slice ga gn gc) x2 ∧ Near wr (.slice ga gn gc) x3 ∧ Kps (fun k => (Value.slice ga gn gc).ownBlock = some k) wr w5) := hidIt hx; clear hx GR cg; (try dsimp only))
                  | (at_builtin; refine wpl_rowL rfl _ _ rfl w.heap.size (.slice sa4 ns sc4) (ss4.map (·.1)) [Value.slice ga gn gc, x1, x2, x3] rfl (G5.out w5 rb x1 x2 x3 HX5.out).rw.so rb 4 4 rfl HX5.out.2.1 rfl (O5.out w5 rb x1 x2 x3 HX5.out) (by decide) BD.out.1 (Z5.out w5 rb x1 x2 x3 HX5.out).1 ?_; intro v6 w6 ho6 hg6; obtain ⟨a6, n6, d6, e6⟩ : ∃ a n d, v6 = Value.slice a n d := (let ⟨a, d, e, _⟩ := ho6.at; ⟨a, _, d, e⟩); have n6e : n6 = ns + 4 := (by subst e6; have := HNE.out; obtain ⟨a, d, e, _⟩ := ho6.at; cases e; simp; omega); subst e6; have HO6 := hidIt ho6; have HG6 := hidIt hg6; have HN6 := hidIt n6e; clear ho6 hg6 n6e))
                have A6 := hidIt (Ap.pushS (G5.out w5 rb x1 x2 x3 HX5.out) HG6.out HO6.out)
                have HB6 := hidIt ((HBY.out.trans (Z5.out w5 rb x1 x2 x3 HX5.out).2).trans (Gw.low HG6.out (G5.out w5 rb x1 x2 x3 HX5.out).rw.so (Z5.out w5 rb x1 x2 x3 HX5.out).1))
                clear G5 Z5 O5 HG6 HO6 HX5 AY HBY
                generalize Fx (fun q => F4 q ∧ (Value.slice ga gn gc).ownBlock ≠ some q) (.slice a6 n6 d6) = F6 at A6
                have A6' : Hid (Ap w.heap.size F6 w6 ⟨b, bm, c, cm, d, dm, (9 * xs.length), M', s, t', lv, ev, lv3, ev3, shG t'.m t'.p 132, shE t'.m t'.p 132, ss4 ++ [(.slice ga gn gc, g.2.length, m), (x1, g.2.length + 1, m), (x2, g.2.length + 2, m), (x3, g.2.length + 103, m)], us2, ls2 ++ fl.drop (p + 1), (lb, (fl.map (·.1)).toArray, 29) :: ib2⟩ ⟨.slice a6 n6 d6, .slice ma4 ns mc4, .slice qa2 ls2.length qc2, .slice ua2 us2.length uc2, ss4.map (·.1) ++ [Value.slice ga gn gc, x1, x2, x3], ss4.map (·.2.2), ls2.map (·.1), us2.map (·.1)⟩) := A6
                have MA : Hid (∀ o, OwnI (w6.alloc o) w.heap.size (.slice ma4 ns mc4) (ss4.map (·.2.2)) ∧ w.heap.size ≤ (w6.alloc o).heap.size) := fun o => ⟨(A6'.out.ext (ext_alloc (Below.refl _ _) o)).rw.mo, Nat.le_trans HB6.out.size (ext_alloc (Below.refl w6.heap.size w6) o).size⟩
                have NM : Hid ((w6.alloc (.cells ([m, m, m, m].map (Value.int .i64)).toArray 3)).heap[w6.heap.size]? = some (.cells ([m, m, m, m].map (Value.int .i64)).toArray 3 (0, 0))) := heap_alloc_new _ _
                clear A6
                go_wp2_with (at_builtin; refine wpl_rowM rfl _ _ rfl w.heap.size (.slice ma4 ns mc4) (ss4.map (·.2.2)) [m, m, m, m] rfl (MA.out _).1 w6.heap.size 4 4 rfl NM.out rfl (by decide) BD.out.2 (MA.out _).2 ?_; intro vz wz hoz hgz; obtain ⟨a7', n7', d7', ez⟩ := hoz.form; subst ez; have HOZ := hidIt hoz; have HGZ := hidIt hgz; clear hoz hgz)
                have AE : Hid (Ap w.heap.size F6 (w6.alloc (.cells #[.int .i64 m, .int .i64 m, .int .i64 m, .int .i64 m] 3)) ⟨b, bm, c, cm, d, dm, (9 * xs.length), M', s, t', lv, ev, lv3, ev3, shG t'.m t'.p 132, shE t'.m t'.p 132, ss4 ++ [(.slice ga gn gc, g.2.length, m), (x1, g.2.length + 1, m), (x2, g.2.length + 2, m), (x3, g.2.length + 103, m)], us2, ls2 ++ fl.drop (p + 1), (lb, (fl.map (·.1)).toArray, 29) :: ib2⟩ ⟨.slice a6 n6 d6, .slice ma4 ns mc4, .slice qa2 ls2.length qc2, .slice ua2 us2.length uc2, ss4.map (·.1) ++ [Value.slice ga gn gc, x1, x2, x3], ss4.map (·.2.2), ls2.map (·.1), us2.map (·.1)⟩) := A6'.out.ext (ext_alloc (Below.refl _ _) _)
                have A7 := hidIt (Ap.pushM AE.out HGZ.out HOZ.out)
                have HB7 := hidIt (HB6.out.trans (((ext_alloc (Below.refl w6.heap.size w6) (.cells #[.int .i64 m, .int .i64 m, .int .i64 m, .int .i64 m] 3)).mono HB6.out.size).trans (Gw.low HGZ.out AE.out.rw.mo (MA.out _).2)))
                generalize Fx F6 (.slice a7' n7' d7') = F8 at A7
                have HS7 := hidIt (show (ss4 ++ [((Value.slice ga gn gc, g.2.length, m) : Sf), (x1, g.2.length + 1, m), (x2, g.2.length + 2, m), (x3, g.2.length + 103, m)]).map (·.1) = ss4.map (·.1) ++ [Value.slice ga gn gc, x1, x2, x3] by rw [List.map_append]; rfl)
                have HM7 := hidIt (show (ss4 ++ [((Value.slice ga gn gc, g.2.length, m) : Sf), (x1, g.2.length + 1, m), (x2, g.2.length + 2, m), (x3, g.2.length + 103, m)]).map (·.2.2) = ss4.map (·.2.2) ++ [m, m, m, m] by rw [List.map_append]; rfl)
                have A8 : Hid (Ap w.heap.size F8 wz ⟨b, bm, c, cm, d, dm, (9 * xs.length), M', s, t', lv, ev, lv3, ev3, shG t'.m t'.p 132, shE t'.m t'.p 132, ss4 ++ [(.slice ga gn gc, g.2.length, m), (x1, g.2.length + 1, m), (x2, g.2.length + 2, m), (x3, g.2.length + 103, m)], us2, ls2 ++ fl.drop (p + 1), (lb, (fl.map (·.1)).toArray, 29) :: ib2⟩ ⟨.slice a6 n6 d6, .slice a7' n7' d7', .slice qa2 ls2.length qc2, .slice ua2 us2.length uc2, (ss4 ++ [((Value.slice ga gn gc, g.2.length, m) : Sf), (x1, g.2.length + 1, m), (x2, g.2.length + 2, m), (x3, g.2.length + 103, m)]).map (·.1), (ss4 ++ [((Value.slice ga gn gc, g.2.length, m) : Sf), (x1, g.2.length + 1, m), (x2, g.2.length + 2, m), (x3, g.2.length + 103, m)]).map (·.2.2), ls2.map (·.1), us2.map (·.1)⟩) := by
                  rw [HS7.out, HM7.out]
                  exact A7
                have HL8 := hidIt (show (ss4 ++ [((Value.slice ga gn gc, g.2.length, m) : Sf), (x1, g.2.length + 1, m), (x2, g.2.length + 2, m), (x3, g.2.length + 103, m)]).length = ss.length + 4 * (p + 1) by rw [List.length_append, HS4.out]; simp only [List.length_cons, List.length_nil]; omega)
                clear A7 AE A6' MA NM HGZ HOZ
                go_roundw
                case rel => exact ⟨p + 1, by omega, by go_num, F8, ss4 ++ [((Value.slice ga gn gc, g.2.length, m) : Sf), (x1, g.2.length + 1, m), (x2, g.2.length + 2, m), (x3, g.2.length + 103, m)], A8.out, HL8.out, HB7.out⟩
                case measure => simp [RowKit.intOf]; omega
              · have hp5 : p = 4 := by omega
                subst hp5
                have HD4 := hidIt (show ls2 ++ fl.drop 4 = ls2 by rw [List.drop_of_length_le (by have := HFL.out.1; omega), List.append_nil])
                rw [HD4.out] at AY
                have HMN : Hid (∀ w', Below wr.heap.size wr w' → Mn x (j + 1) (.slice sa4 ns sc4) (.slice ma4 ns mc4) (.slice qa2 ls2.length qc2) (.slice ua2 us2.length uc2) w') := by
                  intro w' hb
                  obtain ⟨x1, x2, x3, x4, x5, x6, x7, x8, x9, x10, x11, x12⟩ := HX.out
                  refine ⟨F4, M', t', lv3, ev3, shG t'.m t'.p 132, shE t'.m t'.p 132, ss4, us2, ls2, (lb, (fl.map (·.1)).toArray, 29) :: ib2, ?_, HUL2.out, HLL3.out, ?_, ?_, ?_⟩
                  · rw [x1, x3, x4, x5, x6, x7, x8, x9, x10, x11, x12]
                    exact AY.out.ext hb
                  · have := HS4.out
                    have := HSL.out
                    omega
                  · have := HM2.out
                    rw [x8]
                    omega
                  · rw [x1, x2]
                    exact HBY.out.trans (hb.mono HBY.out.size)
                have SC := hidIt (sameShown_any wr c cm _ _ t'.m t'.p lv3 ev3 AY.out.co.cc AY.out.co.s2.g.1 AY.out.co.s2.g.2)
                have SB2 := hidIt (fun w' (hb : Below wr.heap.size wr w') => (sameS (AY.out.ext hb)).1)
                have WH := hidIt (fun w' (hb : Below wr.heap.size wr w') => whole_any w' (.slice sa4 ns sc4) (.slice ma4 ns mc4) ss4 (AY.out.ext hb).rw.so (fun x hx => ((AY.out.ext hb).co.sl x hx).1) (AY.out.ext hb).rw.mo (fun x hx => ((AY.out.ext hb).co.sl x hx).2.2))
                clear AY HBY
                go_wp2_with (first
                  | (go_at_call 19; first | (refine SC.out.mono ?_; rintro e wx ⟨rfl, hbx⟩; have HBX := hidIt hbx; clear hbx SC; (try dsimp only)) | (refine (SB2.out wx HBX.out).mono ?_; rintro e wy ⟨rfl, hby⟩; have HBY := hidIt (ext_trans HBX.out hby); clear hby SB2; (try dsimp only)))
                  | (go_at_call 25; refine (WH.out wy HBY.out).mono ?_; rintro e wz ⟨rfl, hbz⟩; have HBZ := hidIt (ext_trans HBY.out hbz); clear hbz WH; (try dsimp only)))
                exact ⟨⟨j + 1, by omega, by omega, by go_num, HMN.out wz HBZ.out⟩, by simp [RowKit.intOf]; omega⟩
      · have hi30 : (30 : Int) ≤ (j : Int) := by omega
        obtain ⟨F, M, t, lv2, ev2, g2, e2, ss, us, ls, ib, hap, hul, hll, hsl, hM, hbw⟩ := MN.out
        obtain ⟨x1, x2, x3, x4, x5, x6, x7, x8, x9, x10, x11, x12⟩ := HX.out
        rw [x1, x2] at hbw
        rw [x1, x3, x4, x5, x6, x7, x8, x9, x10, x11, x12] at hap
        have hso : RowL wr w.heap.size u10 (ss.map (·.1)) := hap.rw.so
        have hmo : OwnI wr w.heap.size u11 (ss.map (·.2.2)) := hap.rw.mo
        have hqo : RowL wr w.heap.size u12 (ls.map (·.1)) := hap.rw.qo
        have huo : RowL wr w.heap.size u13 (us.map (·.1)) := hap.rw.uo
        obtain ⟨sa, sc, e10, _⟩ := hso.at
        obtain ⟨ma, mc, e11, _⟩ := hmo.at
        obtain ⟨qa, qc, e12, _⟩ := hqo.at
        obtain ⟨ua, uc, e13, _⟩ := huo.at
        clear hso hmo hqo huo
        rw [List.length_map] at e10 e11 e12 e13
        subst e10 e11 e12 e13
        have AP := hidIt hap
        have HUL := hidIt hul
        have HLL := hidIt hll
        have HSL := hidIt hsl
        have HBW := hidIt hbw
        have HUN := hidIt (show us.length = ls.length by have := congrArg List.length hul; rw [List.length_map, List.length_map] at this; exact this)
        clear hap hul hll hsl hM hbw x1 x2 x3 x4 x5 x6 x7 x8 x9 x10 x11 x12 MN
        rw [HUN.out]
        have hq1 : (ls.length : Int) ≤ 300 := by have := HLL.out; omega
        generalize wr = wE at *
        go_wp2_with fail
        go_loopw [32] (fun i wl => ∃ p : Nat, p ≤ ls.length ∧ i = .int .i64 p ∧ Hid (Below wE.heap.size wE wl)) (fun i _ => ls.length - (RowKit.intOf i).toNat)
        case atStart => exact ⟨0, Nat.zero_le _, rfl, Below.refl _ _⟩
        case round =>
          obtain ⟨p, hp, rfl, HB⟩ := hrel
          by_cases hpl : (p : Int) < (ls.length : Int)
          · obtain ⟨gq, hgq⟩ : ∃ g, ls[p]? = some g := ⟨_, List.getElem?_eq_getElem (by omega)⟩
            obtain ⟨gu, hgu⟩ : ∃ g, us[p]? = some g := ⟨_, List.getElem?_eq_getElem (by have := HUN.out; omega)⟩
            have h22 : gu.2 = gq.2 := by
              have := congrArg (fun l => l[p]?) HUL.out
              simp only [List.getElem?_map, hgq, hgu, Option.map_some] at this
              exact Option.some.inj this
            have hq2 := ((AP.out.ext HB.out).co.li gq (List.mem_of_getElem? hgq)).1
            have hu2 := ((AP.out.ext HB.out).co.ui gu (List.mem_of_getElem? hgu)).1
            obtain ⟨aq, nq, cq, eq1⟩ := hq2.form
            obtain ⟨au, nu, cu, eu1⟩ := hu2.form
            have SI : Hid (∀ w', Below wr.heap.size wr w' → Calls Try.prog 26 #[.slice aq nq cq, .slice au nu cu] w' fun e w'' => e = .returned (.bool true) ∧ Below w'.heap.size w' w'') := fun w' hb => sameInts_any _ _ gq.2 w' (eq1 ▸ hq2.rd.ext hb) (eu1 ▸ h22 ▸ hu2.rd.ext hb)
            have hqo : RowL wr w.heap.size (.slice qa ls.length qc) (ls.map (·.1)) := (AP.out.ext HB.out).rw.qo
            have huo : RowL wr w.heap.size (.slice ua ls.length uc) (us.map (·.1)) := HUN.out ▸ (AP.out.ext HB.out).rw.uo
            obtain ⟨qa', qc', e1, _, hc1⟩ := hqo.at
            have ea : qa = qa' := by injection e1
            subst ea
            obtain ⟨qg, rfl, s1⟩ := hc1 p gq.1 (by rw [List.getElem?_map, hgq]; rfl)
            obtain ⟨ua', uc', e2', _, hc2⟩ := huo.at
            have eb : ua = ua' := by injection e2'
            subst eb
            obtain ⟨ug, rfl, s2⟩ := hc2 p gu.1 (by rw [List.getElem?_map, hgu]; rfl)
            rw [eq1] at s1
            rw [eu1] at s2
            have HC := hidIt (And.intro s1 s2)
            clear hc1 hc2 hqo huo hq2 hu2 e1 e2' eq1 eu1 h22 hgq hgu
            have HF : Hid (∀ w', Below wr.heap.size wr w' → w'.cell? ⟨qg, p, none⟩ = some (.slice aq nq cq) ∧ w'.cell? ⟨ug, p, none⟩ = some (.slice au nu cu)) := fun w' hb => ⟨(hb.cell (p := ⟨qg, p, none⟩) (World.block_lt_of_cell? wr ⟨qg, p, none⟩ HC.out.1)).trans HC.out.1, (hb.cell (p := ⟨ug, p, none⟩) (World.block_lt_of_cell? wr ⟨ug, p, none⟩ HC.out.2)).trans HC.out.2⟩
            go_upto_region 53 with fail
            go_region_held3 (fun w' => w'.cell? ⟨qg, p, none⟩ = some (.slice aq nq cq) ∧ w'.cell? ⟨ug, p, none⟩ = some (.slice au nu cu)) (go_keep) (first | (go_at_call 26; refine (SI.out _ (Below.refl _ _).drew).mono ?_; rintro e w2 ⟨rfl, hb2⟩; have HB2 := hidIt (ext_trans (Below.refl _ _).drew hb2); clear hb2 SI s1 s2; have s1 := (HF.out w2 HB2.out).1; have s2 := (HF.out w2 HB2.out).2; (try dsimp only)))
            go_wp2_with fail
            go_roundw
            case rel => exact ⟨p + 1, by omega, by go_num, ext_trans HB.out HB2.out⟩
            case measure => simp [RowKit.intOf]; omega
          · have AE := hidIt (AP.out.ext HB.out)
            have HBE := hidIt (HBW.out.trans (HB.out.mono HBW.out.size))
            rw [HUN.out] at AE
            clear AP HB HBW
            generalize wr = wG at *
            go_wp2_with fail
            go_loopw [10, 11, 33] (fun sv mv i wl => ∃ p : Nat, p ≤ ls.length ∧ i = .int .i64 p ∧ Hid (∃ (F : Nat → Prop) (ss4 : List Sf), Ap w.heap.size F wl ⟨b, bm, c, cm, d, dm, 9 * xs.length, M, s, t, lv, ev, lv2, ev2, g2, e2, ss4, us, ls.drop p, ib⟩ ⟨sv, mv, .slice qa ls.length qc, .slice ua ls.length uc, ss4.map (·.1), ss4.map (·.2.2), ls.map (·.1), us.map (·.1)⟩ ∧ ss4.length = ss.length + 4 * p ∧ Below w.heap.size w wl)) (fun _ _ i _ => ls.length - (RowKit.intOf i).toNat)
            case atStart => exact ⟨0, by omega, rfl, F, ss, AE.out, rfl, HBE.out⟩
            case round =>
              obtain ⟨p, hp, rfl, hx⟩ := hrel
              obtain ⟨F4, ss4, hap, hsl4, hbw⟩ := hx.out
              have hso : RowL wr w.heap.size u10 (ss4.map (·.1)) := hap.rw.so
              have hmo : OwnI wr w.heap.size u11 (ss4.map (·.2.2)) := hap.rw.mo
              obtain ⟨sa4, sc4, e10, _⟩ := hso.at
              obtain ⟨ma4, mc4, e11, _⟩ := hmo.at
              rw [List.length_map] at e10 e11
              have hns : ss4.length ≤ 2000 := by have := HSL.out; have := HLL.out; omega
              have HNS := hidIt hns
              have HS4 := hidIt hsl4
              obtain ⟨ns, hnse⟩ : ∃ ns, ns = ss4.length := ⟨_, rfl⟩
              rw [← hnse] at e10 e11 hns
              have HNE := hidIt hnse
              clear hso hmo hnse hsl4
              subst e10 e11
              have AY := hidIt hap
              have HBY := hidIt hbw
              clear hx hap hbw
              by_cases hpl : (p : Int) < (ls.length : Int)
              · obtain ⟨g, hg⟩ : ∃ g, ls[p]? = some g := ⟨_, List.getElem?_eq_getElem (by omega)⟩
                have HDR := hidIt (show ls.drop p = g :: ls.drop (p + 1) by rw [List.drop_eq_getElem_cons (by omega)]; congr 1; rw [List.getElem?_eq_getElem (by omega)] at hg; cases hg; rfl)
                have hq2 := AY.out.co.li g (by rw [HDR.out]; exact List.mem_cons_self ..)
                obtain ⟨ga, gn, gc, hgv⟩ := hq2.1.form
                have HGO : Hid (OwnI wr w.heap.size (.slice ga gn gc) g.2 ∧ g.2.length ≤ 140100) := by
                  rw [hgv] at hq2
                  exact ⟨hq2.1, hq2.2.2⟩
                have hqo : RowL wr w.heap.size (.slice qa ls.length qc) (ls.map (·.1)) := AY.out.rw.qo
                obtain ⟨qa', qc', e1, _, hc1⟩ := hqo.at
                have ea : qa = qa' := by injection e1
                subst ea
                obtain ⟨qg, rfl, cg⟩ := hc1 p g.1 (by rw [List.getElem?_map, hg]; rfl)
                rw [hgv] at cg
                clear hc1 hqo hq2 e1
                have HGL : Hid (ls.drop p = [] ++ (Value.slice ga gn gc, g.2) :: ls.drop (p + 1)) := by unfold Hid; rw [HDR.out, ← hgv]; rfl
                clear hg hgv
                obtain ⟨m, hm⟩ : ∃ m : Int, m = 5000 + (ns : Int) := ⟨_, rfl⟩
                have hwm : IntKind.i64.wrap (5000 + (ns : Int)) = m := by rw [IntKind.wrap_i64, hm]; omega
                clear hm
                have GR := hidIt (grown_any wr (.slice ga gn gc) g.2 m HGO.out.1 HBY.out.size (by have := HGO.out.2; omega))
                have G5 : Hid (∀ w5 rb x1 x2 x3, (wr.heap.size ≤ rb ∧ w5.heap[rb]? = some (.cells #[.slice ga gn gc, x1, x2, x3] 29 (0, 0)) ∧ OwnI w5 w.heap.size (.slice ga gn gc) (List.replicate g.2.length m) ∧ OwnI w5 w.heap.size x1 (List.replicate (g.2.length + 1) m) ∧ OwnI w5 w.heap.size x2 (List.replicate (g.2.length + 2) m) ∧ OwnI w5 w.heap.size x3 (List.replicate (g.2.length + 103) m) ∧ Near wr (.slice ga gn gc) x1 ∧ Near wr (.slice ga gn gc) x2 ∧ Near wr (.slice ga gn gc) x3 ∧ Kps (fun k => (Value.slice ga gn gc).ownBlock = some k) wr w5) → Ap w.heap.size (fun q => F4 q ∧ (Value.slice ga gn gc).ownBlock ≠ some q) w5 ⟨b, bm, c, cm, d, dm, 9 * xs.length, M, s, t, lv, ev, lv2, ev2, g2, e2, ss4 ++ [(.slice ga gn gc, g.2.length, m), (x1, g.2.length + 1, m), (x2, g.2.length + 2, m), (x3, g.2.length + 103, m)], us, ls.drop (p + 1), ib⟩ ⟨.slice sa4 ns sc4, .slice ma4 ns mc4, .slice (some ⟨qg, 0, none⟩) ls.length qc, .slice ua ls.length uc, ss4.map (·.1), ss4.map (·.2.2), ls.map (·.1), us.map (·.1)⟩) := fun w5 rb x1 x2 x3 ⟨_, _, o0, o1, o2, o3, m1, m2, m3, k⟩ => AY.out.grown HGL.out (by have := HGO.out.2; omega) o0 o1 o2 o3 m1 m2 m3 k
                have Z5 : Hid (∀ w5 rb x1 x2 x3, (wr.heap.size ≤ rb ∧ w5.heap[rb]? = some (.cells #[.slice ga gn gc, x1, x2, x3] 29 (0, 0)) ∧ OwnI w5 w.heap.size (.slice ga gn gc) (List.replicate g.2.length m) ∧ OwnI w5 w.heap.size x1 (List.replicate (g.2.length + 1) m) ∧ OwnI w5 w.heap.size x2 (List.replicate (g.2.length + 2) m) ∧ OwnI w5 w.heap.size x3 (List.replicate (g.2.length + 103) m) ∧ Near wr (.slice ga gn gc) x1 ∧ Near wr (.slice ga gn gc) x2 ∧ Near wr (.slice ga gn gc) x3 ∧ Kps (fun k => (Value.slice ga gn gc).ownBlock = some k) wr w5) → w.heap.size ≤ w5.heap.size ∧ Below w.heap.size wr w5) := fun w5 rb x1 x2 x3 ⟨_, _, _, _, _, _, _, _, _, k⟩ => ⟨Nat.le_trans HBY.out.size k.size, k.below HBY.out.size (fun q hq => (World.ownsRow.lt HGO.out.1 q hq).1)⟩
                have O5 : Hid (∀ w5 rb x1 x2 x3, (wr.heap.size ≤ rb ∧ w5.heap[rb]? = some (.cells #[.slice ga gn gc, x1, x2, x3] 29 (0, 0)) ∧ OwnI w5 w.heap.size (.slice ga gn gc) (List.replicate g.2.length m) ∧ OwnI w5 w.heap.size x1 (List.replicate (g.2.length + 1) m) ∧ OwnI w5 w.heap.size x2 (List.replicate (g.2.length + 2) m) ∧ OwnI w5 w.heap.size x3 (List.replicate (g.2.length + 103) m) ∧ Near wr (.slice ga gn gc) x1 ∧ Near wr (.slice ga gn gc) x2 ∧ Near wr (.slice ga gn gc) x3 ∧ Kps (fun k => (Value.slice ga gn gc).ownBlock = some k) wr w5) → ∀ u ∈ [Value.slice ga gn gc, x1, x2, x3], ∃ ao n c, u = .slice ao n c) := fun w5 rb x1 x2 x3 ⟨_, _, o0, o1, o2, o3, _⟩ u hu => by
                  simp only [List.mem_cons, List.not_mem_nil, or_false] at hu
                  rcases hu with rfl | rfl | rfl | rfl
                  · exact o0.form
                  · exact o1.form
                  · exact o2.form
                  · exact o3.form
                have BD : Hid ((ss4.map (·.1)).length + 4 ≤ 1000000 ∧ (ss4.map (·.2.2)).length + 4 ≤ 1000000) := by unfold Hid; have := HNS.out; rw [List.length_map, List.length_map]; omega
                go_upto_region 60 with (first
                  | (go_at_call 24; refine GR.out.mono ?_; rintro e w5 ⟨rb, x1, x2, x3, rfl, hx⟩; have HX5 : Hid (wr.heap.size ≤ rb ∧ w5.heap[rb]? = some (.cells #[.slice ga gn gc, x1, x2, x3] 29 (0, 0)) ∧ OwnI w5 w.heap.size (.slice ga gn gc) (List.replicate g.2.length m) ∧ OwnI w5 w.heap.size x1 (List.replicate (g.2.length + 1) m) ∧ OwnI w5 w.heap.size x2 (List.replicate (g.2.length + 2) m) ∧ OwnI w5 w.heap.size x3 (List.replicate (g.2.length + 103) m) ∧ Near wr (.slice ga gn gc) x1 ∧ Near wr (.slice ga gn gc) x2 ∧ Near wr (.slice ga gn gc) x3 ∧ Kps (fun k => (Value.slice ga gn gc).ownBlock = some k) wr w5) := hidIt hx; clear hx GR cg; (try dsimp only))
                  | (at_builtin; refine wpl_rowL rfl _ _ rfl w.heap.size (.slice sa4 ns sc4) (ss4.map (·.1)) [Value.slice ga gn gc, x1, x2, x3] rfl (G5.out w5 rb x1 x2 x3 HX5.out).rw.so rb 4 4 rfl HX5.out.2.1 rfl (O5.out w5 rb x1 x2 x3 HX5.out) (by decide) BD.out.1 (Z5.out w5 rb x1 x2 x3 HX5.out).1 ?_; intro v6 w6 ho6 hg6; obtain ⟨a6, n6, d6, e6⟩ : ∃ a n d, v6 = Value.slice a n d := (let ⟨a, d, e, _⟩ := ho6.at; ⟨a, _, d, e⟩); have n6e : n6 = ns + 4 := (by subst e6; have := HNE.out; obtain ⟨a, d, e, _⟩ := ho6.at; cases e; simp; omega); subst e6; have HO6 := hidIt ho6; have HG6 := hidIt hg6; have HN6 := hidIt n6e; clear ho6 hg6 n6e))
                have A6 := hidIt (Ap.pushS (G5.out w5 rb x1 x2 x3 HX5.out) HG6.out HO6.out)
                have HB6 := hidIt ((HBY.out.trans (Z5.out w5 rb x1 x2 x3 HX5.out).2).trans (Gw.low HG6.out (G5.out w5 rb x1 x2 x3 HX5.out).rw.so (Z5.out w5 rb x1 x2 x3 HX5.out).1))
                clear G5 Z5 O5 HG6 HO6 HX5 AY HBY
                generalize Fx (fun q => F4 q ∧ (Value.slice ga gn gc).ownBlock ≠ some q) (.slice a6 n6 d6) = F6 at A6
                have A6' : Hid (Ap w.heap.size F6 w6 ⟨b, bm, c, cm, d, dm, 9 * xs.length, M, s, t, lv, ev, lv2, ev2, g2, e2, ss4 ++ [(.slice ga gn gc, g.2.length, m), (x1, g.2.length + 1, m), (x2, g.2.length + 2, m), (x3, g.2.length + 103, m)], us, ls.drop (p + 1), ib⟩ ⟨.slice a6 n6 d6, .slice ma4 ns mc4, .slice (some ⟨qg, 0, none⟩) ls.length qc, .slice ua ls.length uc, ss4.map (·.1) ++ [Value.slice ga gn gc, x1, x2, x3], ss4.map (·.2.2), ls.map (·.1), us.map (·.1)⟩) := A6
                have MA : Hid (∀ o, OwnI (w6.alloc o) w.heap.size (.slice ma4 ns mc4) (ss4.map (·.2.2)) ∧ w.heap.size ≤ (w6.alloc o).heap.size) := fun o => ⟨(A6'.out.ext (ext_alloc (Below.refl _ _) o)).rw.mo, Nat.le_trans HB6.out.size (ext_alloc (Below.refl w6.heap.size w6) o).size⟩
                have NM : Hid ((w6.alloc (.cells ([m, m, m, m].map (Value.int .i64)).toArray 3)).heap[w6.heap.size]? = some (.cells ([m, m, m, m].map (Value.int .i64)).toArray 3 (0, 0))) := heap_alloc_new _ _
                clear A6
                go_wp2_with (at_builtin; refine wpl_rowM rfl _ _ rfl w.heap.size (.slice ma4 ns mc4) (ss4.map (·.2.2)) [m, m, m, m] rfl (MA.out _).1 w6.heap.size 4 4 rfl NM.out rfl (by decide) BD.out.2 (MA.out _).2 ?_; intro vz wz hoz hgz; obtain ⟨a7', n7', d7', ez⟩ := hoz.form; subst ez; have HOZ := hidIt hoz; have HGZ := hidIt hgz; clear hoz hgz)
                have AE : Hid (Ap w.heap.size F6 (w6.alloc (.cells #[.int .i64 m, .int .i64 m, .int .i64 m, .int .i64 m] 3)) ⟨b, bm, c, cm, d, dm, 9 * xs.length, M, s, t, lv, ev, lv2, ev2, g2, e2, ss4 ++ [(.slice ga gn gc, g.2.length, m), (x1, g.2.length + 1, m), (x2, g.2.length + 2, m), (x3, g.2.length + 103, m)], us, ls.drop (p + 1), ib⟩ ⟨.slice a6 n6 d6, .slice ma4 ns mc4, .slice (some ⟨qg, 0, none⟩) ls.length qc, .slice ua ls.length uc, ss4.map (·.1) ++ [Value.slice ga gn gc, x1, x2, x3], ss4.map (·.2.2), ls.map (·.1), us.map (·.1)⟩) := A6'.out.ext (ext_alloc (Below.refl _ _) _)
                have A7 := hidIt (Ap.pushM AE.out HGZ.out HOZ.out)
                have HB7 := hidIt (HB6.out.trans (((ext_alloc (Below.refl w6.heap.size w6) (.cells #[.int .i64 m, .int .i64 m, .int .i64 m, .int .i64 m] 3)).mono HB6.out.size).trans (Gw.low HGZ.out AE.out.rw.mo (MA.out _).2)))
                generalize Fx F6 (.slice a7' n7' d7') = F8 at A7
                have HS7 := hidIt (show (ss4 ++ [((Value.slice ga gn gc, g.2.length, m) : Sf), (x1, g.2.length + 1, m), (x2, g.2.length + 2, m), (x3, g.2.length + 103, m)]).map (·.1) = ss4.map (·.1) ++ [Value.slice ga gn gc, x1, x2, x3] by rw [List.map_append]; rfl)
                have HM7 := hidIt (show (ss4 ++ [((Value.slice ga gn gc, g.2.length, m) : Sf), (x1, g.2.length + 1, m), (x2, g.2.length + 2, m), (x3, g.2.length + 103, m)]).map (·.2.2) = ss4.map (·.2.2) ++ [m, m, m, m] by rw [List.map_append]; rfl)
                have A8 : Hid (Ap w.heap.size F8 wz ⟨b, bm, c, cm, d, dm, 9 * xs.length, M, s, t, lv, ev, lv2, ev2, g2, e2, ss4 ++ [(.slice ga gn gc, g.2.length, m), (x1, g.2.length + 1, m), (x2, g.2.length + 2, m), (x3, g.2.length + 103, m)], us, ls.drop (p + 1), ib⟩ ⟨.slice a6 n6 d6, .slice a7' n7' d7', .slice (some ⟨qg, 0, none⟩) ls.length qc, .slice ua ls.length uc, (ss4 ++ [((Value.slice ga gn gc, g.2.length, m) : Sf), (x1, g.2.length + 1, m), (x2, g.2.length + 2, m), (x3, g.2.length + 103, m)]).map (·.1), (ss4 ++ [((Value.slice ga gn gc, g.2.length, m) : Sf), (x1, g.2.length + 1, m), (x2, g.2.length + 2, m), (x3, g.2.length + 103, m)]).map (·.2.2), ls.map (·.1), us.map (·.1)⟩) := by
                  rw [HS7.out, HM7.out]
                  exact A7
                have HL8 := hidIt (show (ss4 ++ [((Value.slice ga gn gc, g.2.length, m) : Sf), (x1, g.2.length + 1, m), (x2, g.2.length + 2, m), (x3, g.2.length + 103, m)]).length = ss.length + 4 * (p + 1) by rw [List.length_append, HS4.out]; simp only [List.length_cons, List.length_nil]; omega)
                clear A7 AE A6' MA NM HGZ HOZ
                go_roundw
                case rel => exact ⟨p + 1, by omega, by go_num, F8, ss4 ++ [((Value.slice ga gn gc, g.2.length, m) : Sf), (x1, g.2.length + 1, m), (x2, g.2.length + 2, m), (x3, g.2.length + 103, m)], A8.out, HL8.out, HB7.out⟩
                case measure => simp [RowKit.intOf]; omega
              · have WH := hidIt (whole_any wr (.slice sa4 ns sc4) (.slice ma4 ns mc4) ss4 AY.out.rw.so (fun x hx => (AY.out.co.sl x hx).1) AY.out.rw.mo (fun x hx => (AY.out.co.sl x hx).2.2))
                have SB2 := hidIt (fun w' (hb : Below wr.heap.size wr w') => (sameS (AY.out.ext hb)).1)
                have SD2 := hidIt (fun w' (hb : Below wr.heap.size wr w') => (sameS (AY.out.ext hb)).2)
                clear AY
                go_wp2_with (first
                  | (go_at_call 25; refine WH.out.mono ?_; rintro e wx ⟨rfl, hbx⟩; have HBX := hidIt hbx; clear hbx WH; (try dsimp only))
                  | (go_at_call 19; first | (refine (SB2.out wx HBX.out).mono ?_; rintro e wy ⟨rfl, hby⟩; have HBV := hidIt (ext_trans HBX.out hby); clear hby SB2; (try dsimp only)) | (refine (SD2.out wy HBV.out).mono ?_; rintro e wz ⟨rfl, hbz⟩; have HBZ := hidIt (ext_trans HBV.out hbz); clear hbz SD2; (try dsimp only))))
                go_ret
                exact ⟨rfl, HBY.out.trans (HBZ.out.mono HBY.out.size)⟩
    · have hi1 : (ys.length : Int) ≤ (j : Int) := by omega
      obtain ⟨F, M, t, lv2, ev2, g2, e2, ss, us, ls, ib, hap, hul, hll, hsl, hM, hbw⟩ := MN.out
      obtain ⟨x1, x2, x3, x4, x5, x6, x7, x8, x9, x10, x11, x12⟩ := HX.out
      rw [x1, x2] at hbw
      rw [x1, x3, x4, x5, x6, x7, x8, x9, x10, x11, x12] at hap
      have hso : RowL wr w.heap.size u10 (ss.map (·.1)) := hap.rw.so
      have hmo : OwnI wr w.heap.size u11 (ss.map (·.2.2)) := hap.rw.mo
      have hqo : RowL wr w.heap.size u12 (ls.map (·.1)) := hap.rw.qo
      have huo : RowL wr w.heap.size u13 (us.map (·.1)) := hap.rw.uo
      obtain ⟨sa, sc, e10, _⟩ := hso.at
      obtain ⟨ma, mc, e11, _⟩ := hmo.at
      obtain ⟨qa, qc, e12, _⟩ := hqo.at
      obtain ⟨ua, uc, e13, _⟩ := huo.at
      clear hso hmo hqo huo
      rw [List.length_map] at e10 e11 e12 e13
      subst e10 e11 e12 e13
      have AP := hidIt hap
      have HUL := hidIt hul
      have HLL := hidIt hll
      have HSL := hidIt hsl
      have HBW := hidIt hbw
      have HUN := hidIt (show us.length = ls.length by have := congrArg List.length hul; rw [List.length_map, List.length_map] at this; exact this)
      clear hap hul hll hsl hM hbw x1 x2 x3 x4 x5 x6 x7 x8 x9 x10 x11 x12 MN
      rw [HUN.out]
      have hq1 : (ls.length : Int) ≤ 300 := by have := HLL.out; omega
      generalize wr = wE at *
      go_wp2_with fail
      go_loopw [32] (fun i wl => ∃ p : Nat, p ≤ ls.length ∧ i = .int .i64 p ∧ Hid (Below wE.heap.size wE wl)) (fun i _ => ls.length - (RowKit.intOf i).toNat)
      case atStart => exact ⟨0, Nat.zero_le _, rfl, Below.refl _ _⟩
      case round =>
        obtain ⟨p, hp, rfl, HB⟩ := hrel
        by_cases hpl : (p : Int) < (ls.length : Int)
        · obtain ⟨gq, hgq⟩ : ∃ g, ls[p]? = some g := ⟨_, List.getElem?_eq_getElem (by omega)⟩
          obtain ⟨gu, hgu⟩ : ∃ g, us[p]? = some g := ⟨_, List.getElem?_eq_getElem (by have := HUN.out; omega)⟩
          have h22 : gu.2 = gq.2 := by
            have := congrArg (fun l => l[p]?) HUL.out
            simp only [List.getElem?_map, hgq, hgu, Option.map_some] at this
            exact Option.some.inj this
          have hq2 := ((AP.out.ext HB.out).co.li gq (List.mem_of_getElem? hgq)).1
          have hu2 := ((AP.out.ext HB.out).co.ui gu (List.mem_of_getElem? hgu)).1
          obtain ⟨aq, nq, cq, eq1⟩ := hq2.form
          obtain ⟨au, nu, cu, eu1⟩ := hu2.form
          have SI : Hid (∀ w', Below wr.heap.size wr w' → Calls Try.prog 26 #[.slice aq nq cq, .slice au nu cu] w' fun e w'' => e = .returned (.bool true) ∧ Below w'.heap.size w' w'') := fun w' hb => sameInts_any _ _ gq.2 w' (eq1 ▸ hq2.rd.ext hb) (eu1 ▸ h22 ▸ hu2.rd.ext hb)
          have hqo : RowL wr w.heap.size (.slice qa ls.length qc) (ls.map (·.1)) := (AP.out.ext HB.out).rw.qo
          have huo : RowL wr w.heap.size (.slice ua ls.length uc) (us.map (·.1)) := HUN.out ▸ (AP.out.ext HB.out).rw.uo
          obtain ⟨qa', qc', e1, _, hc1⟩ := hqo.at
          have ea : qa = qa' := by injection e1
          subst ea
          obtain ⟨qg, rfl, s1⟩ := hc1 p gq.1 (by rw [List.getElem?_map, hgq]; rfl)
          obtain ⟨ua', uc', e2', _, hc2⟩ := huo.at
          have eb : ua = ua' := by injection e2'
          subst eb
          obtain ⟨ug, rfl, s2⟩ := hc2 p gu.1 (by rw [List.getElem?_map, hgu]; rfl)
          rw [eq1] at s1
          rw [eu1] at s2
          have HC := hidIt (And.intro s1 s2)
          clear hc1 hc2 hqo huo hq2 hu2 e1 e2' eq1 eu1 h22 hgq hgu
          have HF : Hid (∀ w', Below wr.heap.size wr w' → w'.cell? ⟨qg, p, none⟩ = some (.slice aq nq cq) ∧ w'.cell? ⟨ug, p, none⟩ = some (.slice au nu cu)) := fun w' hb => ⟨(hb.cell (p := ⟨qg, p, none⟩) (World.block_lt_of_cell? wr ⟨qg, p, none⟩ HC.out.1)).trans HC.out.1, (hb.cell (p := ⟨ug, p, none⟩) (World.block_lt_of_cell? wr ⟨ug, p, none⟩ HC.out.2)).trans HC.out.2⟩
          go_upto_region 53 with fail
          go_region_held3 (fun w' => w'.cell? ⟨qg, p, none⟩ = some (.slice aq nq cq) ∧ w'.cell? ⟨ug, p, none⟩ = some (.slice au nu cu)) (go_keep) (first | (go_at_call 26; refine (SI.out _ (Below.refl _ _).drew).mono ?_; rintro e w2 ⟨rfl, hb2⟩; have HB2 := hidIt (ext_trans (Below.refl _ _).drew hb2); clear hb2 SI s1 s2; have s1 := (HF.out w2 HB2.out).1; have s2 := (HF.out w2 HB2.out).2; (try dsimp only)))
          go_wp2_with fail
          go_roundw
          case rel => exact ⟨p + 1, by omega, by go_num, ext_trans HB.out HB2.out⟩
          case measure => simp [RowKit.intOf]; omega
        · have AE := hidIt (AP.out.ext HB.out)
          have HBE := hidIt (HBW.out.trans (HB.out.mono HBW.out.size))
          rw [HUN.out] at AE
          clear AP HB HBW
          generalize wr = wG at *
          go_wp2_with fail
          go_loopw [10, 11, 33] (fun sv mv i wl => ∃ p : Nat, p ≤ ls.length ∧ i = .int .i64 p ∧ Hid (∃ (F : Nat → Prop) (ss4 : List Sf), Ap w.heap.size F wl ⟨b, bm, c, cm, d, dm, 9 * xs.length, M, s, t, lv, ev, lv2, ev2, g2, e2, ss4, us, ls.drop p, ib⟩ ⟨sv, mv, .slice qa ls.length qc, .slice ua ls.length uc, ss4.map (·.1), ss4.map (·.2.2), ls.map (·.1), us.map (·.1)⟩ ∧ ss4.length = ss.length + 4 * p ∧ Below w.heap.size w wl)) (fun _ _ i _ => ls.length - (RowKit.intOf i).toNat)
          case atStart => exact ⟨0, by omega, rfl, F, ss, AE.out, rfl, HBE.out⟩
          case round =>
            obtain ⟨p, hp, rfl, hx⟩ := hrel
            obtain ⟨F4, ss4, hap, hsl4, hbw⟩ := hx.out
            have hso : RowL wr w.heap.size u10 (ss4.map (·.1)) := hap.rw.so
            have hmo : OwnI wr w.heap.size u11 (ss4.map (·.2.2)) := hap.rw.mo
            obtain ⟨sa4, sc4, e10, _⟩ := hso.at
            obtain ⟨ma4, mc4, e11, _⟩ := hmo.at
            rw [List.length_map] at e10 e11
            have hns : ss4.length ≤ 2000 := by have := HSL.out; have := HLL.out; omega
            have HNS := hidIt hns
            have HS4 := hidIt hsl4
            obtain ⟨ns, hnse⟩ : ∃ ns, ns = ss4.length := ⟨_, rfl⟩
            rw [← hnse] at e10 e11 hns
            have HNE := hidIt hnse
            clear hso hmo hnse hsl4
            subst e10 e11
            have AY := hidIt hap
            have HBY := hidIt hbw
            clear hx hap hbw
            by_cases hpl : (p : Int) < (ls.length : Int)
            · obtain ⟨g, hg⟩ : ∃ g, ls[p]? = some g := ⟨_, List.getElem?_eq_getElem (by omega)⟩
              have HDR := hidIt (show ls.drop p = g :: ls.drop (p + 1) by rw [List.drop_eq_getElem_cons (by omega)]; congr 1; rw [List.getElem?_eq_getElem (by omega)] at hg; cases hg; rfl)
              have hq2 := AY.out.co.li g (by rw [HDR.out]; exact List.mem_cons_self ..)
              obtain ⟨ga, gn, gc, hgv⟩ := hq2.1.form
              have HGO : Hid (OwnI wr w.heap.size (.slice ga gn gc) g.2 ∧ g.2.length ≤ 140100) := by
                rw [hgv] at hq2
                exact ⟨hq2.1, hq2.2.2⟩
              have hqo : RowL wr w.heap.size (.slice qa ls.length qc) (ls.map (·.1)) := AY.out.rw.qo
              obtain ⟨qa', qc', e1, _, hc1⟩ := hqo.at
              have ea : qa = qa' := by injection e1
              subst ea
              obtain ⟨qg, rfl, cg⟩ := hc1 p g.1 (by rw [List.getElem?_map, hg]; rfl)
              rw [hgv] at cg
              clear hc1 hqo hq2 e1
              have HGL : Hid (ls.drop p = [] ++ (Value.slice ga gn gc, g.2) :: ls.drop (p + 1)) := by unfold Hid; rw [HDR.out, ← hgv]; rfl
              clear hg hgv
              obtain ⟨m, hm⟩ : ∃ m : Int, m = 5000 + (ns : Int) := ⟨_, rfl⟩
              have hwm : IntKind.i64.wrap (5000 + (ns : Int)) = m := by rw [IntKind.wrap_i64, hm]; omega
              clear hm
              have GR := hidIt (grown_any wr (.slice ga gn gc) g.2 m HGO.out.1 HBY.out.size (by have := HGO.out.2; omega))
              have G5 : Hid (∀ w5 rb x1 x2 x3, (wr.heap.size ≤ rb ∧ w5.heap[rb]? = some (.cells #[.slice ga gn gc, x1, x2, x3] 29 (0, 0)) ∧ OwnI w5 w.heap.size (.slice ga gn gc) (List.replicate g.2.length m) ∧ OwnI w5 w.heap.size x1 (List.replicate (g.2.length + 1) m) ∧ OwnI w5 w.heap.size x2 (List.replicate (g.2.length + 2) m) ∧ OwnI w5 w.heap.size x3 (List.replicate (g.2.length + 103) m) ∧ Near wr (.slice ga gn gc) x1 ∧ Near wr (.slice ga gn gc) x2 ∧ Near wr (.slice ga gn gc) x3 ∧ Kps (fun k => (Value.slice ga gn gc).ownBlock = some k) wr w5) → Ap w.heap.size (fun q => F4 q ∧ (Value.slice ga gn gc).ownBlock ≠ some q) w5 ⟨b, bm, c, cm, d, dm, 9 * xs.length, M, s, t, lv, ev, lv2, ev2, g2, e2, ss4 ++ [(.slice ga gn gc, g.2.length, m), (x1, g.2.length + 1, m), (x2, g.2.length + 2, m), (x3, g.2.length + 103, m)], us, ls.drop (p + 1), ib⟩ ⟨.slice sa4 ns sc4, .slice ma4 ns mc4, .slice (some ⟨qg, 0, none⟩) ls.length qc, .slice ua ls.length uc, ss4.map (·.1), ss4.map (·.2.2), ls.map (·.1), us.map (·.1)⟩) := fun w5 rb x1 x2 x3 ⟨_, _, o0, o1, o2, o3, m1, m2, m3, k⟩ => AY.out.grown HGL.out (by have := HGO.out.2; omega) o0 o1 o2 o3 m1 m2 m3 k
              have Z5 : Hid (∀ w5 rb x1 x2 x3, (wr.heap.size ≤ rb ∧ w5.heap[rb]? = some (.cells #[.slice ga gn gc, x1, x2, x3] 29 (0, 0)) ∧ OwnI w5 w.heap.size (.slice ga gn gc) (List.replicate g.2.length m) ∧ OwnI w5 w.heap.size x1 (List.replicate (g.2.length + 1) m) ∧ OwnI w5 w.heap.size x2 (List.replicate (g.2.length + 2) m) ∧ OwnI w5 w.heap.size x3 (List.replicate (g.2.length + 103) m) ∧ Near wr (.slice ga gn gc) x1 ∧ Near wr (.slice ga gn gc) x2 ∧ Near wr (.slice ga gn gc) x3 ∧ Kps (fun k => (Value.slice ga gn gc).ownBlock = some k) wr w5) → w.heap.size ≤ w5.heap.size ∧ Below w.heap.size wr w5) := fun w5 rb x1 x2 x3 ⟨_, _, _, _, _, _, _, _, _, k⟩ => ⟨Nat.le_trans HBY.out.size k.size, k.below HBY.out.size (fun q hq => (World.ownsRow.lt HGO.out.1 q hq).1)⟩
              have O5 : Hid (∀ w5 rb x1 x2 x3, (wr.heap.size ≤ rb ∧ w5.heap[rb]? = some (.cells #[.slice ga gn gc, x1, x2, x3] 29 (0, 0)) ∧ OwnI w5 w.heap.size (.slice ga gn gc) (List.replicate g.2.length m) ∧ OwnI w5 w.heap.size x1 (List.replicate (g.2.length + 1) m) ∧ OwnI w5 w.heap.size x2 (List.replicate (g.2.length + 2) m) ∧ OwnI w5 w.heap.size x3 (List.replicate (g.2.length + 103) m) ∧ Near wr (.slice ga gn gc) x1 ∧ Near wr (.slice ga gn gc) x2 ∧ Near wr (.slice ga gn gc) x3 ∧ Kps (fun k => (Value.slice ga gn gc).ownBlock = some k) wr w5) → ∀ u ∈ [Value.slice ga gn gc, x1, x2, x3], ∃ ao n c, u = .slice ao n c) := fun w5 rb x1 x2 x3 ⟨_, _, o0, o1, o2, o3, _⟩ u hu => by
                simp only [List.mem_cons, List.not_mem_nil, or_false] at hu
                rcases hu with rfl | rfl | rfl | rfl
                · exact o0.form
                · exact o1.form
                · exact o2.form
                · exact o3.form
              have BD : Hid ((ss4.map (·.1)).length + 4 ≤ 1000000 ∧ (ss4.map (·.2.2)).length + 4 ≤ 1000000) := by unfold Hid; have := HNS.out; rw [List.length_map, List.length_map]; omega
              go_upto_region 60 with (first
                | (go_at_call 24; refine GR.out.mono ?_; rintro e w5 ⟨rb, x1, x2, x3, rfl, hx⟩; have HX5 : Hid (wr.heap.size ≤ rb ∧ w5.heap[rb]? = some (.cells #[.slice ga gn gc, x1, x2, x3] 29 (0, 0)) ∧ OwnI w5 w.heap.size (.slice ga gn gc) (List.replicate g.2.length m) ∧ OwnI w5 w.heap.size x1 (List.replicate (g.2.length + 1) m) ∧ OwnI w5 w.heap.size x2 (List.replicate (g.2.length + 2) m) ∧ OwnI w5 w.heap.size x3 (List.replicate (g.2.length + 103) m) ∧ Near wr (.slice ga gn gc) x1 ∧ Near wr (.slice ga gn gc) x2 ∧ Near wr (.slice ga gn gc) x3 ∧ Kps (fun k => (Value.slice ga gn gc).ownBlock = some k) wr w5) := hidIt hx; clear hx GR cg; (try dsimp only))
                | (at_builtin; refine wpl_rowL rfl _ _ rfl w.heap.size (.slice sa4 ns sc4) (ss4.map (·.1)) [Value.slice ga gn gc, x1, x2, x3] rfl (G5.out w5 rb x1 x2 x3 HX5.out).rw.so rb 4 4 rfl HX5.out.2.1 rfl (O5.out w5 rb x1 x2 x3 HX5.out) (by decide) BD.out.1 (Z5.out w5 rb x1 x2 x3 HX5.out).1 ?_; intro v6 w6 ho6 hg6; obtain ⟨a6, n6, d6, e6⟩ : ∃ a n d, v6 = Value.slice a n d := (let ⟨a, d, e, _⟩ := ho6.at; ⟨a, _, d, e⟩); have n6e : n6 = ns + 4 := (by subst e6; have := HNE.out; obtain ⟨a, d, e, _⟩ := ho6.at; cases e; simp; omega); subst e6; have HO6 := hidIt ho6; have HG6 := hidIt hg6; have HN6 := hidIt n6e; clear ho6 hg6 n6e))
              have A6 := hidIt (Ap.pushS (G5.out w5 rb x1 x2 x3 HX5.out) HG6.out HO6.out)
              have HB6 := hidIt ((HBY.out.trans (Z5.out w5 rb x1 x2 x3 HX5.out).2).trans (Gw.low HG6.out (G5.out w5 rb x1 x2 x3 HX5.out).rw.so (Z5.out w5 rb x1 x2 x3 HX5.out).1))
              clear G5 Z5 O5 HG6 HO6 HX5 AY HBY
              generalize Fx (fun q => F4 q ∧ (Value.slice ga gn gc).ownBlock ≠ some q) (.slice a6 n6 d6) = F6 at A6
              have A6' : Hid (Ap w.heap.size F6 w6 ⟨b, bm, c, cm, d, dm, 9 * xs.length, M, s, t, lv, ev, lv2, ev2, g2, e2, ss4 ++ [(.slice ga gn gc, g.2.length, m), (x1, g.2.length + 1, m), (x2, g.2.length + 2, m), (x3, g.2.length + 103, m)], us, ls.drop (p + 1), ib⟩ ⟨.slice a6 n6 d6, .slice ma4 ns mc4, .slice (some ⟨qg, 0, none⟩) ls.length qc, .slice ua ls.length uc, ss4.map (·.1) ++ [Value.slice ga gn gc, x1, x2, x3], ss4.map (·.2.2), ls.map (·.1), us.map (·.1)⟩) := A6
              have MA : Hid (∀ o, OwnI (w6.alloc o) w.heap.size (.slice ma4 ns mc4) (ss4.map (·.2.2)) ∧ w.heap.size ≤ (w6.alloc o).heap.size) := fun o => ⟨(A6'.out.ext (ext_alloc (Below.refl _ _) o)).rw.mo, Nat.le_trans HB6.out.size (ext_alloc (Below.refl w6.heap.size w6) o).size⟩
              have NM : Hid ((w6.alloc (.cells ([m, m, m, m].map (Value.int .i64)).toArray 3)).heap[w6.heap.size]? = some (.cells ([m, m, m, m].map (Value.int .i64)).toArray 3 (0, 0))) := heap_alloc_new _ _
              clear A6
              go_wp2_with (at_builtin; refine wpl_rowM rfl _ _ rfl w.heap.size (.slice ma4 ns mc4) (ss4.map (·.2.2)) [m, m, m, m] rfl (MA.out _).1 w6.heap.size 4 4 rfl NM.out rfl (by decide) BD.out.2 (MA.out _).2 ?_; intro vz wz hoz hgz; obtain ⟨a7', n7', d7', ez⟩ := hoz.form; subst ez; have HOZ := hidIt hoz; have HGZ := hidIt hgz; clear hoz hgz)
              have AE : Hid (Ap w.heap.size F6 (w6.alloc (.cells #[.int .i64 m, .int .i64 m, .int .i64 m, .int .i64 m] 3)) ⟨b, bm, c, cm, d, dm, 9 * xs.length, M, s, t, lv, ev, lv2, ev2, g2, e2, ss4 ++ [(.slice ga gn gc, g.2.length, m), (x1, g.2.length + 1, m), (x2, g.2.length + 2, m), (x3, g.2.length + 103, m)], us, ls.drop (p + 1), ib⟩ ⟨.slice a6 n6 d6, .slice ma4 ns mc4, .slice (some ⟨qg, 0, none⟩) ls.length qc, .slice ua ls.length uc, ss4.map (·.1) ++ [Value.slice ga gn gc, x1, x2, x3], ss4.map (·.2.2), ls.map (·.1), us.map (·.1)⟩) := A6'.out.ext (ext_alloc (Below.refl _ _) _)
              have A7 := hidIt (Ap.pushM AE.out HGZ.out HOZ.out)
              have HB7 := hidIt (HB6.out.trans (((ext_alloc (Below.refl w6.heap.size w6) (.cells #[.int .i64 m, .int .i64 m, .int .i64 m, .int .i64 m] 3)).mono HB6.out.size).trans (Gw.low HGZ.out AE.out.rw.mo (MA.out _).2)))
              generalize Fx F6 (.slice a7' n7' d7') = F8 at A7
              have HS7 := hidIt (show (ss4 ++ [((Value.slice ga gn gc, g.2.length, m) : Sf), (x1, g.2.length + 1, m), (x2, g.2.length + 2, m), (x3, g.2.length + 103, m)]).map (·.1) = ss4.map (·.1) ++ [Value.slice ga gn gc, x1, x2, x3] by rw [List.map_append]; rfl)
              have HM7 := hidIt (show (ss4 ++ [((Value.slice ga gn gc, g.2.length, m) : Sf), (x1, g.2.length + 1, m), (x2, g.2.length + 2, m), (x3, g.2.length + 103, m)]).map (·.2.2) = ss4.map (·.2.2) ++ [m, m, m, m] by rw [List.map_append]; rfl)
              have A8 : Hid (Ap w.heap.size F8 wz ⟨b, bm, c, cm, d, dm, 9 * xs.length, M, s, t, lv, ev, lv2, ev2, g2, e2, ss4 ++ [(.slice ga gn gc, g.2.length, m), (x1, g.2.length + 1, m), (x2, g.2.length + 2, m), (x3, g.2.length + 103, m)], us, ls.drop (p + 1), ib⟩ ⟨.slice a6 n6 d6, .slice a7' n7' d7', .slice (some ⟨qg, 0, none⟩) ls.length qc, .slice ua ls.length uc, (ss4 ++ [((Value.slice ga gn gc, g.2.length, m) : Sf), (x1, g.2.length + 1, m), (x2, g.2.length + 2, m), (x3, g.2.length + 103, m)]).map (·.1), (ss4 ++ [((Value.slice ga gn gc, g.2.length, m) : Sf), (x1, g.2.length + 1, m), (x2, g.2.length + 2, m), (x3, g.2.length + 103, m)]).map (·.2.2), ls.map (·.1), us.map (·.1)⟩) := by
                rw [HS7.out, HM7.out]
                exact A7
              have HL8 := hidIt (show (ss4 ++ [((Value.slice ga gn gc, g.2.length, m) : Sf), (x1, g.2.length + 1, m), (x2, g.2.length + 2, m), (x3, g.2.length + 103, m)]).length = ss.length + 4 * (p + 1) by rw [List.length_append, HS4.out]; simp only [List.length_cons, List.length_nil]; omega)
              clear A7 AE A6' MA NM HGZ HOZ
              go_roundw
              case rel => exact ⟨p + 1, by omega, by go_num, F8, ss4 ++ [((Value.slice ga gn gc, g.2.length, m) : Sf), (x1, g.2.length + 1, m), (x2, g.2.length + 2, m), (x3, g.2.length + 103, m)], A8.out, HL8.out, HB7.out⟩
              case measure => simp [RowKit.intOf]; omega
            · have WH := hidIt (whole_any wr (.slice sa4 ns sc4) (.slice ma4 ns mc4) ss4 AY.out.rw.so (fun x hx => (AY.out.co.sl x hx).1) AY.out.rw.mo (fun x hx => (AY.out.co.sl x hx).2.2))
              have SB2 := hidIt (fun w' (hb : Below wr.heap.size wr w') => (sameS (AY.out.ext hb)).1)
              have SD2 := hidIt (fun w' (hb : Below wr.heap.size wr w') => (sameS (AY.out.ext hb)).2)
              clear AY
              go_wp2_with (first
                | (go_at_call 25; refine WH.out.mono ?_; rintro e wx ⟨rfl, hbx⟩; have HBX := hidIt hbx; clear hbx WH; (try dsimp only))
                | (go_at_call 19; first | (refine (SB2.out wx HBX.out).mono ?_; rintro e wy ⟨rfl, hby⟩; have HBV := hidIt (ext_trans HBX.out hby); clear hby SB2; (try dsimp only)) | (refine (SD2.out wy HBV.out).mono ?_; rintro e wz ⟨rfl, hbz⟩; have HBZ := hidIt (ext_trans HBV.out hbz); clear hbz SD2; (try dsimp only))))
              go_ret
              exact ⟨rfl, HBY.out.trans (HBZ.out.mono HBY.out.size)⟩
end Go.Proofs.Ytmldfjhfgaggpaa
