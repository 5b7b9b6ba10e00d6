/- RegisterHole, as a walk. -/
import Derived.Test.YtmldfjhfgaggpaaGSame
import Derived.Test.YtmldfjhfgaggpaaGBnk2
import Derived.Deep.CutRange
namespace Go.Proofs.Ytmldfjhfgaggpaa
open Go.RowKit

theorem OwnG.le {w : World} {base base' : Nat} {v e : Value} {gs : List Rg} (h : OwnG w base v gs e) (hb : base' ≤ base) : OwnG w base' v gs e := by
  obtain ⟨l, h1, ⟨e1, e2⟩, h3⟩ := h
  refine ⟨l, h1, ⟨e1, ?_⟩, fun p hp => ⟨(h3 p hp).1.le hb, (h3 p hp).2⟩⟩
  rcases e2 with e2 | ⟨g, cap, cur, hv, hg, r⟩
  · exact .inl e2
  · exact .inr ⟨g, cap, cur, hv, Nat.le_trans hb hg, r⟩
theorem take_err {s : Bs} {n : Int} {r : Rg} (h : (takeB s n r).1 ≠ 0) : (takeB s n r).2 = s := by
  cases hc : (n == 95 || nil? r)
  · cases hw : wrtn s.m n r with
    | none => rw [takeB_none hc hw]
    | some x => rw [takeB_some hc hw] at h; exact absurd rfl h
  · rw [takeB_skip hc]
theorem yank_err {s : Bs} {n : Int} {r : Rg} (h : (yankB s n r).1 ≠ 0) : (yankB s n r).2 = s := by
  unfold yankB at h ⊢
  split at h
  · rename_i hc; rw [if_pos hc]; exact take_err h
  · rename_i hc; rw [if_neg hc]
theorem ring_err {s : Bs} {r : Rg} (h : (ringB s r).1 ≠ 0) : (ringB s r).2 = s := by
  unfold ringB at h ⊢
  cases hw : wrtn s.m 49 r with
  | none => rfl
  | some x => rw [hw] at h; exact absurd rfl h
theorem del_err {s : Bs} {n : Int} {r : Rg} (h : (deleteB s n r).1 ≠ 0) : (deleteB s n r).2 = s := by
  by_cases h1 : refE n r.k = 0
  · by_cases h2 : unB n = true
    · by_cases h3 : (r.k == 1 || r.t.any brB) = true
      · have e : deleteB s n r = ringB s r := by unfold deleteB; rw [if_pos h1, if_pos h2, if_pos h3]
        rw [e] at h ⊢
        exact ring_err h
      · have e : deleteB s n r = takeB s 45 r := by unfold deleteB; rw [if_pos h1, if_pos h2, if_neg h3]
        rw [e] at h ⊢
        exact take_err h
    · have e : deleteB s n r = takeB s n r := by unfold deleteB; rw [if_pos h1, if_neg h2]
      rw [e] at h ⊢
      exact take_err h
  · unfold deleteB; rw [if_neg h1]
/-- What holds all through: the bank, the sight of it, the Reg that is handed in. -/
def HIv (b bm N0 : Nat) (W0 : World) (s : Bs) (l ev : Value) (rb : Nat) (k : Int) (rv : Value) (t : List Int) (sh : Bs) (j : Nat) (w : World) : Prop :=
  Bk (F1 b) w b bm (N0 + 9 * j) s.m s.p ∧ OwnG w W0.heap.size l (shG sh.m sh.p 132) ev ∧ OwnI w W0.heap.size ev (shE sh.m sh.p 132) ∧ OwnI w W0.heap.size rv t ∧ w.heap[rb]? = some (.cells #[.int .i64 k, rv] 31 (0, 0)) ∧ (rb ≠ b ∧ rb ≠ bm) ∧ Below W0.heap.size W0 w ∧ (W0.heap.size ≤ b ∧ W0.heap.size ≤ bm)
section
variable {b bm N0 : Nat} {W0 : World} {s : Bs} {l ev : Value} {rb : Nat} {k : Int} {rv : Value} {t : List Int} {sh : Bs} {j : Nat} {w : World}
theorem HIv.cells (h : HIv b bm N0 W0 s l ev rb k rv t sh j w) : w.cell? ⟨rb, 0, none⟩ = some (.int .i64 k) ∧ w.cell? ⟨rb, 1, none⟩ = some rv := ⟨(cells2 h.2.2.2.2.1).2.1, (cells2 h.2.2.2.2.1).2.2.1⟩
theorem HIv.ext (h : HIv b bm N0 W0 s l ev rb k rv t sh j w) {w' : World} (hb : Below w.heap.size w w') : HIv b bm N0 W0 s l ev rb k rv t sh j w' := by
  obtain ⟨h1, h2, h3, h4, h5, h6, h7, h8⟩ := h
  exact ⟨h1.ext hb, h2.ext hb, h3.ext hb, h4.ext hb, (hb.block _ (Array.getElem?_eq_some_iff.1 h5).1).trans h5, h6, h7.trans (hb.mono h7.size), h8⟩
theorem HIv.op (h : HIv b bm N0 W0 s l ev rb k rv t sh j w) {er : Int} {s' : Bs} {e : Ending} {w' : World} (ho : OpR (F1 b) w b bm (N0 + 9 * j + 9) (er, s') e w') : e = .returned (.int .i64 er) ∧ HIv b bm N0 W0 s' l ev rb k rv t sh (j + 1) w' := by
  obtain ⟨h1, h2, h3, h4, h5, h6, h7, h8⟩ := h
  obtain ⟨o1, o2, o3⟩ := ho
  exact ⟨o1, o2, h2.kb o3 h1, h3.kb o3 h1, h4.kb o3 h1, (o3.block (Array.getElem?_eq_some_iff.1 h5).1 h6.1 h6.2).trans h5, h6, h7.trans (o3.below h8.1 h8.2 h7.size), h8⟩
theorem HIv.yank (hN : N0 ≤ 9223372036854770000) {n : Int} (hn : In64 n) {er : Int} {s' : Bs} (hy : yankB s n ⟨k, t⟩ = (er, s')) : ∀ (j : Nat) (w : World), j ≤ 100 → HIv b bm N0 W0 s l ev rb k rv t sh j w → Calls Try.prog 14 #[.pointer (some ⟨b, 0, none⟩), .int .i64 n, .agg #[.int .i64 k, rv]] w fun e w' => e = .returned (.int .i64 er) ∧ HIv b bm N0 W0 s' l ev rb k rv t sh (j + 1) w' := fun j w hj h => by
  have q := Yank_any w b bm (N0 + 9 * j) s n ⟨k, t⟩ rv h.1 h.2.2.2.1.rds hn (by omega)
  rw [hy] at q
  exact q.mono (fun e w' ho => h.op ho)
theorem HIv.del (hN : N0 ≤ 9223372036854770000) {n : Int} (hn : In64 n) {er : Int} {s' : Bs} (hy : deleteB s n ⟨k, t⟩ = (er, s')) : ∀ (j : Nat) (w : World), j ≤ 100 → HIv b bm N0 W0 s l ev rb k rv t sh j w → Calls Try.prog 16 #[.pointer (some ⟨b, 0, none⟩), .int .i64 n, .agg #[.int .i64 k, rv]] w fun e w' => e = .returned (.int .i64 er) ∧ HIv b bm N0 W0 s' l ev rb k rv t sh (j + 1) w' := fun j w hj h => by
  have q := Delete_any w b bm (N0 + 9 * j) s n ⟨k, t⟩ rv h.1 h.2.2.2.1.rds hn (by omega)
  rw [hy] at q
  exact q.mono (fun e w' ho => h.op ho)
theorem HIv.set (hN : N0 ≤ 9223372036854770000) {n : Int} (hn : In64 n) {er : Int} {s' : Bs} (hy : setB s n t = (er, s')) : ∀ (j : Nat) (w : World), j ≤ 100 → HIv b bm N0 W0 s l ev rb k rv t sh j w → Calls Try.prog 18 #[.pointer (some ⟨b, 0, none⟩), .int .i64 n, rv] w fun e w' => e = .returned (.int .i64 er) ∧ HIv b bm N0 W0 s' l ev rb k rv t sh (j + 1) w' := fun j w hj h => by
  have q := Set_any w b bm (N0 + 9 * j) s n t rv h.1 h.2.2.2.1.rds hn (by omega)
  rw [hy] at q
  exact q.mono (fun e w' ho => h.op ho)
theorem HIv.yank0 (hN : N0 ≤ 9223372036854770000) {n : Int} (hn : In64 n) {er : Int} {s' : Bs} (hy : yankB s n ⟨0, []⟩ = (er, s')) : ∀ (j : Nat) (w : World), j ≤ 100 → HIv b bm N0 W0 s l ev rb k rv t sh j w → Calls Try.prog 14 #[.pointer (some ⟨b, 0, none⟩), .int .i64 n, .agg #[.int .i64 0, .slice none 0 0]] w fun e w' => e = .returned (.int .i64 er) ∧ HIv b bm N0 W0 s' l ev rb k rv t sh (j + 1) w' := fun j w hj h => by
  have q := Yank_any w b bm (N0 + 9 * j) s n ⟨0, []⟩ (.slice none 0 0) h.1 (rds_nil w) hn (by omega)
  rw [hy] at q
  exact q.mono (fun e w' ho => h.op ho)
theorem HIv.del0 (hN : N0 ≤ 9223372036854770000) {n : Int} (hn : In64 n) {er : Int} {s' : Bs} (hy : deleteB s n ⟨0, []⟩ = (er, s')) : ∀ (j : Nat) (w : World), j ≤ 100 → HIv b bm N0 W0 s l ev rb k rv t sh j w → Calls Try.prog 16 #[.pointer (some ⟨b, 0, none⟩), .int .i64 n, .agg #[.int .i64 0, .slice none 0 0]] w fun e w' => e = .returned (.int .i64 er) ∧ HIv b bm N0 W0 s' l ev rb k rv t sh (j + 1) w' := fun j w hj h => by
  have q := Delete_any w b bm (N0 + 9 * j) s n ⟨0, []⟩ (.slice none 0 0) h.1 (rds_nil w) hn (by omega)
  rw [hy] at q
  exact q.mono (fun e w' ho => h.op ho)
theorem HIv.same : ∀ (j : Nat) (w : World), j ≤ 100 → HIv b bm N0 W0 s l ev rb k rv t s j w → Calls Try.prog 19 #[.pointer (some ⟨b, 0, none⟩), l, ev] w fun e w' => e = .returned (.bool true) ∧ HIv b bm N0 W0 s l ev rb k rv t s j w' := fun _ w _ h =>
  (sameShown_any w b bm _ W0.heap.size s.m s.p l ev h.1 h.2.1 h.2.2.1).mono (fun _ _ ⟨h1, h2⟩ => ⟨h1, h.ext h2⟩)
end
theorem yank_hole (s : Bs) (k : Int) (t : List Int) : yankB s 95 ⟨k, t⟩ = (if (k == 0 || k == 1) = true then 0 else 1, s) ∧ deleteB s 95 ⟨k, t⟩ = (if (k == 0 || k == 1) = true then 0 else 1, s) := by
  have hr : refE 95 k = if (k == 0 || k == 1) = true then 0 else 1 := by
    unfold refE
    rw [show nmB 95 = true by decide, show rdB 95 = false by decide]
    by_cases h0 : k = 0
    · subst h0; rfl
    · by_cases h1 : k = 1
      · subst h1; rfl
      · simp [h0, h1]
  unfold yankB deleteB
  dsimp only
  rw [hr, show unB 95 = false by decide]
  by_cases hg : (k == 0 || k == 1) = true
  · rw [if_pos hg]
    simp only [if_true, Bool.false_eq_true, if_false]
    rw [takeB_skip (by simp)]
    exact ⟨rfl, rfl⟩
  · rw [if_neg hg]
    simp
theorem ref_no {n k : Int} (h : nmB n = false) : refE n k = 110 := by unfold refE; rw [h]; rfl
theorem ref_rd {n k : Int} (h : nmB n = true) (h2 : rdB n = true) : refE n k = 111 := by unfold refE; rw [h, h2]; rfl
theorem yank_no (s : Bs) {n : Int} {r : Rg} {e : Int} (h : refE n r.k = e) (he : e ≠ 0) : yankB s n r = (e, s) ∧ deleteB s n r = (e, s) := by
  unfold yankB deleteB
  rw [h, if_neg he, if_neg he]
  exact ⟨rfl, rfl⟩

set_option maxRecDepth 100000 in
set_option maxHeartbeats 8000000 in
theorem hole_any (v : Value) (xs : List Sv) (n k : Int) (u : Value) (t : List Int) (w : World) (h : RdT w v xs) (ht : RdS w u t) (hn : In64 n) (htl : t.length * 8 ≤ 140737488351232) :
    Calls Try.prog 4 #[v, .int .i64 n, .int .i64 k, u] w fun e w' => e = .returned (.bool true) ∧ Below w.heap.size w w' := by
  have AB := hidIt (able_any w)
  have H := hidIt h
  have HT := hidIt ht
  have hxl : xs.length ≤ 140737488351232 := by obtain ⟨_, _, _, _, _, h4, _⟩ := h; exact h4
  obtain ⟨ut, uc, rfl, _⟩ := ht.len
  clear h ht
  go_enter Try.func4, Try.ntmps4
  go_upto_region 3 with (go_at_call 12; refine AB.out.mono ?_; rintro e w1 ⟨rfl, hb1⟩; have HB1 := hidIt hb1; clear hb1; (try dsimp only))
  have BA := hidIt (bank95_any v xs w1 (H.out.ext HB1.out))
  go_upto_region 6 with (go_at_call 13; refine BA.out.mono ?_; rintro e w2 ⟨b, bm, rfl, ⟨s, hbk, h95⟩, h1, h2, hb⟩; have HB2 := hidIt (ext_trans HB1.out hb); have HBK2 := hidIt hbk; have H95 := hidIt h95; have HBB := hidIt (show w.heap.size ≤ b ∧ w.heap.size ≤ bm from ⟨Nat.le_trans HB1.out.size h1, Nat.le_trans HB1.out.size h2⟩); clear hb hbk h1 h2 h95; (try dsimp only))
  have SH := hidIt (shown_any w2 b bm _ s.m s.p HBK2.out)
  go_upto_region 7 with (go_at_call 17; refine SH.out.mono ?_; rintro e w3 ⟨l, ev, rfl, hog, hoe, hb3⟩; have HOG := hidIt hog; have HOE := hidIt hoe; have HB23 := hidIt hb3; clear hog hoe hb3; (try dsimp only))
  go_upto_region 8 with (at_builtin; refine wpl_ints rfl _ _ 29 rfl w3.heap.size Try.info_i64 Try.underlying29 _ [] rfl (OwnI.nil _ _) _ t rfl (HT.out.ext (ext_trans HB2.out HB23.out)) (by simp; omega) (Nat.le_refl _) ?_; intro v4 w4 own4 hb4; obtain ⟨ra, rn, rc, e4⟩ := own4.form; subst e4; have HV4 := hidIt (show OwnI w4 w3.heap.size (.slice ra rn rc) t from own4); have HB34 := hidIt hb4; clear own4 hb4)
  generalize hw5 : World.alloc _ _ = w5
  have HB45 : Hid (Below w4.heap.size w4 w5) := by unfold Hid; rw [← hw5]; exact ext_alloc (Below.refl _ _) _
  have HK5 : Hid (w5.heap[w4.heap.size]? = some (.cells #[.int .i64 k, .slice ra rn rc] 31 (0, 0))) := by unfold Hid; rw [← hw5]; exact heap_alloc_new _ _
  clear hw5
  obtain ⟨rb, hrb⟩ : ∃ rb, rb = w4.heap.size := ⟨_, rfl⟩
  have I : Hid (HIv b bm (9 * xs.length) w (s) l ev rb k (.slice ra rn rc) t (s) (0) w5) := by
    have b3 := ext_trans HB23.out (ext_trans HB34.out HB45.out)
    have b5 := ext_trans HB2.out b3
    have hlt := HBK2.out.lt
    have z1 := HB23.out.size
    have z2 := HB34.out.size
    have z0 := HB2.out.size
    rw [hrb]
    exact ⟨HBK2.out.ext b3, (HOG.out.ext (ext_trans HB34.out HB45.out)).le z0, (HOE.out.ext (ext_trans HB34.out HB45.out)).le z0, (HV4.out.ext HB45.out).le (by omega), HK5.out, ⟨by omega, by omega⟩, b5, HBB.out⟩
  rw [← hrb]
  clear hrb HK5 HOG HOE HV4
  have hNN : 9 * xs.length ≤ 9223372036854770000 := by omega
  obtain ⟨c0, c1⟩ := I.out.cells
  go_cut [13] from 33 to 38 (fun o wF => o = .bool (k == 0 || k == 1) ∧ w5 = wF)
  case first =>
    by_cases h0 : k = 0
    · subst h0
      go_wp2_with fail
      go_meet
      case rel => exact ⟨rfl, rfl⟩
    · have hb0 : (k == 0) = false := by simp [h0]
      go_wp2_with fail
      go_meet
      case rel => exact ⟨by rw [hb0]; simp, rfl⟩
  obtain ⟨rfl, rfl⟩ := hcut
  have yh := yank_hole s k t
  have Y95 := hidIt (HIv.yank (W0 := w) (l := l) (ev := ev) (rb := rb) (b := b) (bm := bm) (rv := .slice ra rn rc) (sh := s) hNN (In64.of (by omega) (by omega)) yh.1)
  have D95 := hidIt (HIv.del (W0 := w) (l := l) (ev := ev) (rb := rb) (b := b) (bm := bm) (rv := .slice ra rn rc) (sh := s) hNN (In64.of (by omega) (by omega)) yh.2)
  have S95 := hidIt (HIv.set (k := k) (W0 := w) (l := l) (ev := ev) (rb := rb) (b := b) (bm := bm) (rv := .slice ra rn rc) (sh := s) hNN (n := 95) (In64.of (by omega) (by omega)) (show setB s 95 t = (0, s) by unfold setB; rw [show (!nmB 95 || unB 95) = false by decide]; rfl))
  have SS := hidIt (HIv.same (b := b) (bm := bm) (N0 := 9 * xs.length) (W0 := w) (s := s) (l := l) (ev := ev) (rb := rb) (k := k) (rv := .slice ra rn rc) (t := t))
  clear yh
  go_upto_region 9 with fail
  go_cut [13, 66] from 39 to 65 (fun _ o wF => o = .bool false ∧ Hid (HIv b bm (9 * xs.length) w (s) l ev rb k (.slice ra rn rc) t (s) (3) wF))
  case first =>
    cases hgd : (k == 0 || k == 1)
    · rw [hgd] at Y95 D95
      go_wp2_with (first | (go_at_call 14; (refine (Y95.out _ _ (by omega) I.out).mono ?_; rintro e w9 ⟨rfl, hi⟩; clear I c0 c1; have I := hidIt hi; clear hi; obtain ⟨c0, c1⟩ := I.out.cells; (try dsimp only))) | (go_at_call 16; (refine (D95.out _ _ (by omega) I.out).mono ?_; rintro e w9 ⟨rfl, hi⟩; clear I c0 c1; have I := hidIt hi; clear hi; obtain ⟨c0, c1⟩ := I.out.cells; (try dsimp only))) | (go_at_call 18; (refine (S95.out _ _ (by omega) I.out).mono ?_; rintro e w9 ⟨rfl, hi⟩; clear I c0 c1; have I := hidIt hi; clear hi; obtain ⟨c0, c1⟩ := I.out.cells; (try dsimp only))) | (go_at_call 19; (refine (SS.out _ _ (by omega) I.out).mono ?_; rintro e w9 ⟨rfl, hi⟩; clear I c0 c1; have I := hidIt hi; clear hi; obtain ⟨c0, c1⟩ := I.out.cells; (try dsimp only))))
      go_meet
      case rel => exact ⟨rfl, I.out⟩
    · rw [hgd] at Y95 D95
      go_wp2_with (first | (go_at_call 14; (refine (Y95.out _ _ (by omega) I.out).mono ?_; rintro e w9 ⟨rfl, hi⟩; clear I c0 c1; have I := hidIt hi; clear hi; obtain ⟨c0, c1⟩ := I.out.cells; (try dsimp only))) | (go_at_call 16; (refine (D95.out _ _ (by omega) I.out).mono ?_; rintro e w9 ⟨rfl, hi⟩; clear I c0 c1; have I := hidIt hi; clear hi; obtain ⟨c0, c1⟩ := I.out.cells; (try dsimp only))) | (go_at_call 18; (refine (S95.out _ _ (by omega) I.out).mono ?_; rintro e w9 ⟨rfl, hi⟩; clear I c0 c1; have I := hidIt hi; clear hi; obtain ⟨c0, c1⟩ := I.out.cells; (try dsimp only))) | (go_at_call 19; (refine (SS.out _ _ (by omega) I.out).mono ?_; rintro e w9 ⟨rfl, hi⟩; clear I c0 c1; have I := hidIt hi; clear hi; obtain ⟨c0, c1⟩ := I.out.cells; (try dsimp only))))
      go_meet
      case rel => exact ⟨rfl, I.out⟩
  obtain ⟨rfl, I2⟩ := hcut
  clear I c0 c1 Y95 D95 S95
  have I := hidIt I2.out
  clear I2
  obtain ⟨c0, c1⟩ := I.out.cells
  have Y63 := hidIt (HIv.yank (W0 := w) (l := l) (ev := ev) (rb := rb) (b := b) (bm := bm) (k := k) (t := t) (rv := .slice ra rn rc) (sh := s) hNN (n := 63) (In64.of (by omega) (by omega)) (yank_no s (r := ⟨k, t⟩) (ref_no (by decide)) (by decide)).1)
  have DM1 := hidIt (HIv.del (W0 := w) (l := l) (ev := ev) (rb := rb) (b := b) (bm := bm) (k := k) (t := t) (rv := .slice ra rn rc) (sh := s) hNN (n := -1) (In64.of (by omega) (by omega)) (yank_no s (r := ⟨k, t⟩) (ref_no (by decide)) (by decide)).2)
  have S0 := hidIt (HIv.set (W0 := w) (l := l) (ev := ev) (rb := rb) (b := b) (bm := bm) (k := k) (t := t) (rv := .slice ra rn rc) (sh := s) hNN (n := 0) (In64.of (by omega) (by omega)) (show setB s 0 t = (110, s) by unfold setB; rw [show (!nmB 0 || unB 0) = true by decide]; rfl))
  have Y58 := hidIt (HIv.yank (W0 := w) (l := l) (ev := ev) (rb := rb) (b := b) (bm := bm) (k := k) (t := t) (rv := .slice ra rn rc) (sh := s) hNN (n := 58) (In64.of (by omega) (by omega)) (yank_no s (r := ⟨k, t⟩) (ref_rd (by decide) (by decide)) (by decide)).1)
  have D46 := hidIt (HIv.del (W0 := w) (l := l) (ev := ev) (rb := rb) (b := b) (bm := bm) (k := k) (t := t) (rv := .slice ra rn rc) (sh := s) hNN (n := 46) (In64.of (by omega) (by omega)) (yank_no s (r := ⟨k, t⟩) (ref_rd (by decide) (by decide)) (by decide)).2)
  go_upto_region 13 with (first | (go_at_call 14; first | (refine (Y63.out _ _ (by omega) I.out).mono ?_; rintro e w9 ⟨rfl, hi⟩; clear I c0 c1; have I := hidIt hi; clear hi; obtain ⟨c0, c1⟩ := I.out.cells; (try dsimp only); clear Y63) | (refine (Y58.out _ _ (by omega) I.out).mono ?_; rintro e w9 ⟨rfl, hi⟩; clear I c0 c1; have I := hidIt hi; clear hi; obtain ⟨c0, c1⟩ := I.out.cells; (try dsimp only); clear Y58)) | (go_at_call 16; first | (refine (DM1.out _ _ (by omega) I.out).mono ?_; rintro e w9 ⟨rfl, hi⟩; clear I c0 c1; have I := hidIt hi; clear hi; obtain ⟨c0, c1⟩ := I.out.cells; (try dsimp only); clear DM1) | (refine (D46.out _ _ (by omega) I.out).mono ?_; rintro e w9 ⟨rfl, hi⟩; clear I c0 c1; have I := hidIt hi; clear hi; obtain ⟨c0, c1⟩ := I.out.cells; (try dsimp only); clear D46)) | (go_at_call 18; (refine (S0.out _ _ (by omega) I.out).mono ?_; rintro e w9 ⟨rfl, hi⟩; clear I c0 c1; have I := hidIt hi; clear hi; obtain ⟨c0, c1⟩ := I.out.cells; (try dsimp only))) | (go_at_call 19; (refine (SS.out _ _ (by omega) I.out).mono ?_; rintro e w9 ⟨rfl, hi⟩; clear I c0 c1; have I := hidIt hi; clear hi; obtain ⟨c0, c1⟩ := I.out.cells; (try dsimp only))))
  clear S0
  have Y0 := hidIt (HIv.yank0 (W0 := w) (l := l) (ev := ev) (rb := rb) (b := b) (bm := bm) (k := k) (t := t) (rv := .slice ra rn rc) (sh := s) hNN (n := 0) (In64.of (by omega) (by omega)) (show yankB s 0 ⟨0, []⟩ = (0, s) by unfold yankB; rw [if_pos (by decide), if_pos (by decide), takeB_skip (by decide)]))
  have D34 := hidIt (HIv.del0 (W0 := w) (l := l) (ev := ev) (rb := rb) (b := b) (bm := bm) (k := k) (t := t) (rv := .slice ra rn rc) (sh := s) hNN (n := 34) (In64.of (by omega) (by omega)) (show deleteB s 34 ⟨0, []⟩ = (0, s) by unfold deleteB; rw [if_pos (by decide), if_pos (by decide), if_neg (by decide), takeB_skip (by decide)]))
  go_upto_region 15 with (first | (go_at_call 14; (refine (Y0.out _ _ (by omega) I.out).mono ?_; rintro e w9 ⟨rfl, hi⟩; clear I c0 c1; have I := hidIt hi; clear hi; obtain ⟨c0, c1⟩ := I.out.cells; (try dsimp only))) | (go_at_call 16; (refine (D34.out _ _ (by omega) I.out).mono ?_; rintro e w9 ⟨rfl, hi⟩; clear I c0 c1; have I := hidIt hi; clear hi; obtain ⟨c0, c1⟩ := I.out.cells; (try dsimp only))) | (go_at_call 19; (refine (SS.out _ _ (by omega) I.out).mono ?_; rintro e w9 ⟨rfl, hi⟩; clear I c0 c1; have I := hidIt hi; clear hi; obtain ⟨c0, c1⟩ := I.out.cells; (try dsimp only))))
  clear Y0 D34
  obtain ⟨e1, s1, hy1⟩ : ∃ e1 s1, yankB s n ⟨k, t⟩ = (e1, s1) := ⟨_, _, rfl⟩
  have hs1 : e1 ≠ 0 → s1 = s := fun he => by have := yank_err (s := s) (n := n) (r := ⟨k, t⟩) (by rw [hy1]; exact he); rw [hy1] at this; exact this
  have h951 : s1.m 95 = none := by have := yank95 (n := n) (r := ⟨k, t⟩) H95.out; rw [hy1] at this; exact this
  have H951 := hidIt h951
  have YN := hidIt (HIv.yank (W0 := w) (l := l) (ev := ev) (rb := rb) (b := b) (bm := bm) (k := k) (t := t) (rv := .slice ra rn rc) (sh := s) hNN hn hy1)
  clear hy1 h951
  go_cut [131] from 120 to 130 (fun o wF => o = .bool false ∧ Hid (HIv b bm (9 * xs.length) w (s1) l ev rb k (.slice ra rn rc) t (s) (11) wF))
  case first =>
    by_cases he1 : e1 = 0
    · subst he1
      go_wp2_with (first | (go_at_call 14; (refine (YN.out _ _ (by omega) I.out).mono ?_; rintro e w9 ⟨rfl, hi⟩; clear I c0 c1; have I := hidIt hi; clear hi; obtain ⟨c0, c1⟩ := I.out.cells; (try dsimp only))))
      go_meet
      case rel => exact ⟨rfl, I.out⟩
    · have hbe : (e1 != 0) = true := by simp [he1]
      have hs2 := hs1 he1
      subst hs2
      clear he1 hs1
      go_wp2_with (first | (go_at_call 14; (refine (YN.out _ _ (by omega) I.out).mono ?_; rintro e w9 ⟨rfl, hi⟩; clear I c0 c1; have I := hidIt hi; clear hi; obtain ⟨c0, c1⟩ := I.out.cells; (try dsimp only))) | (go_at_call 19; (refine (SS.out _ _ (by omega) I.out).mono ?_; rintro e w9 ⟨rfl, hi⟩; clear I c0 c1; have I := hidIt hi; clear hi; obtain ⟨c0, c1⟩ := I.out.cells; (try dsimp only))))
      go_meet
      case rel => exact ⟨rfl, I.out⟩
  obtain ⟨rfl, I2⟩ := hcut
  clear I c0 c1 YN SS hs1
  have I := hidIt I2.out
  clear I2
  have SH2 := hidIt (shown_any wc b bm _ s1.m s1.p I.out.1)
  go_upto_region 18 with (go_at_call 17; refine SH2.out.mono ?_; rintro e w6 ⟨l2, ev2, rfl, hog, hoe, hb6⟩; have HOG := hidIt hog; have HOE := hidIt hoe; have HB6 := hidIt hb6; clear hog hoe hb6; (try dsimp only))
  have I2 : Hid (HIv b bm (9 * xs.length) w (s1) l2 ev2 rb k (.slice ra rn rc) t (s1) (11) w6) := by
    obtain ⟨q1, _, _, q4, q5, q6, q7, q8⟩ := I.out.ext HB6.out
    exact ⟨q1, HOG.out.le I.out.2.2.2.2.2.2.1.size, HOE.out.le I.out.2.2.2.2.2.2.1.size, q4, q5, q6, q7, q8⟩
  clear I HOG HOE
  have I := hidIt I2.out
  clear I2
  obtain ⟨c0, c1⟩ := I.out.cells
  have SS := hidIt (HIv.same (b := b) (bm := bm) (N0 := 9 * xs.length) (W0 := w) (s := s1) (l := l2) (ev := ev2) (rb := rb) (k := k) (rv := .slice ra rn rc) (t := t))
  obtain ⟨e2, s2, hy2⟩ : ∃ e2 s2, deleteB s1 n ⟨k, t⟩ = (e2, s2) := ⟨_, _, rfl⟩
  have hs2 : e2 ≠ 0 → s2 = s1 := fun he => by have := del_err (s := s1) (n := n) (r := ⟨k, t⟩) (by rw [hy2]; exact he); rw [hy2] at this; exact this
  have h952 : s2.m 95 = none := by have := del95 (n := n) (r := ⟨k, t⟩) H951.out; rw [hy2] at this; exact this
  have H952 := hidIt h952
  have DN := hidIt (HIv.del (W0 := w) (l := l2) (ev := ev2) (rb := rb) (b := b) (bm := bm) (k := k) (t := t) (rv := .slice ra rn rc) (sh := s1) hNN hn hy2)
  clear hy2 h952
  go_cut [148] from 137 to 147 (fun o wF => o = .bool false ∧ Hid (HIv b bm (9 * xs.length) w (s2) l2 ev2 rb k (.slice ra rn rc) t (s1) (12) wF))
  case first =>
    by_cases he2 : e2 = 0
    · subst he2
      go_wp2_with (first | (go_at_call 16; (refine (DN.out _ _ (by omega) I.out).mono ?_; rintro e w9 ⟨rfl, hi⟩; clear I c0 c1; have I := hidIt hi; clear hi; obtain ⟨c0, c1⟩ := I.out.cells; (try dsimp only))))
      go_meet
      case rel => exact ⟨rfl, I.out⟩
    · have hbe : (e2 != 0) = true := by simp [he2]
      have hs3 := hs2 he2
      subst hs3
      clear he2 hs2
      go_wp2_with (first | (go_at_call 16; (refine (DN.out _ _ (by omega) I.out).mono ?_; rintro e w9 ⟨rfl, hi⟩; clear I c0 c1; have I := hidIt hi; clear hi; obtain ⟨c0, c1⟩ := I.out.cells; (try dsimp only))) | (go_at_call 19; (refine (SS.out _ _ (by omega) I.out).mono ?_; rintro e w9 ⟨rfl, hi⟩; clear I c0 c1; have I := hidIt hi; clear hi; obtain ⟨c0, c1⟩ := I.out.cells; (try dsimp only))))
      go_meet
      case rel => exact ⟨rfl, I.out⟩
  obtain ⟨rfl, I2⟩ := hcut
  clear I c0 c1 DN SS hs2
  have I := hidIt I2.out
  clear I2
  have G95 : Hid (Calls Try.prog 20 #[.pointer (some ⟨b, 0, none⟩), .int .i64 95] wc fun e w' => e = .returned (.tuple #[.agg #[.int .i64 0, .slice none 0 0], .int .i64 112]) ∧ Below wc.heap.size wc w') := by
    have q := Get_any wc b bm _ s2.m s2.p 95 I.out.1 (In64.of (by omega) (by omega))
    rw [show getB s2.m s2.p 95 = (112, none) by unfold getB; rw [if_pos (by decide), show unB 95 = false by decide]; simp only [Bool.false_eq_true, if_false]; rw [show sml 95 = 95 by decide, H952.out]] at q
    exact q
  have G63 : Hid (∀ w', Below wc.heap.size wc w' → Calls Try.prog 20 #[.pointer (some ⟨b, 0, none⟩), .int .i64 63] w' fun e w'' => e = .returned (.tuple #[.agg #[.int .i64 0, .slice none 0 0], .int .i64 110]) ∧ Below w'.heap.size w' w'') := fun w' hb => by
    have q := Get_any w' b bm _ s2.m s2.p 63 (I.out.1.ext hb) (In64.of (by omega) (by omega))
    rw [show getB s2.m s2.p 63 = (110, none) by unfold getB; rw [if_neg (by decide)]] at q
    exact q
  go_upto_region 21 with (go_at_call 20; refine G95.out.mono ?_; rintro e w7 ⟨rfl, hb7⟩; have B7 := hidIt hb7; clear hb7; (try dsimp only))
  generalize hw8 : World.alloc _ _ = w8
  have B8 : Hid (Below wc.heap.size wc w8) := by unfold Hid; rw [← hw8]; exact ext_alloc B7.out _
  clear hw8
  go_wp2_with (go_at_call 20; refine (G63.out _ B8.out).mono ?_; rintro e w9 ⟨rfl, hb9⟩; have B9 := hidIt (ext_trans B8.out hb9); clear hb9; (try dsimp only))
  go_ret
  exact ⟨rfl, I.out.2.2.2.2.2.2.1.trans ((ext_alloc B9.out _).mono I.out.2.2.2.2.2.2.1.size)⟩
end Go.Proofs.Ytmldfjhfgaggpaa
