import Derived.Test.YtfdceljdhgbkcaaGreatDoorJ27
import Derived.Test.YtfdceljdhgbkcaaGreatDoorJ17
import Derived.Test.YtfdceljdhgbkcaaGreatDoorJ29
/- fed: keys, one behind the other, to a new parser. -/
namespace Go.Proofs.YtfdceljdhgbkcaaGreatDoor
open Go.RowKit
abbrev cmA (c : Cm) : Array Value := #[.int .i64 c.r, .int .i64 c.c, .int .i64 c.v, .int .i64 c.m, .int .i64 c.a]
structure FdI (w : World) (mode : Int) (zs : List Int) (b g i : Nat) (wr : World) (pw : Value) (q : Ps) (c : Cm) (s : Int) : Prop where
  pm : PsM wr b pw q
  ok : q.Ok
  ln : q.ks.length ≤ i
  rs : wr.heap[w.heap.size]? = some (.cells #[.int .i64 0, .int .i64 0, .int .i64 0, .int .i64 0, .int .i64 0] 33 (0, 0))
  cs : wr.heap[g]? = some (.cells (cmA c) 33 (0, 0))
  bl : Below w.heap.size w wr
  lt : w.heap.size < b ∧ w.heap.size < g ∧ b ≠ g
  nw : ∀ k, pw.ownBlock = some k → w.heap.size ≤ k
  fin : zs.length = i → FedR mode (ps0 false) zs c s
  stp : i < zs.length → ∀ c' s', FedR mode q (zs.drop i) c' s' → FedR mode (ps0 false) zs c' s'
section
variable {w wr y : World} {mode : Int} {zs : List Int} {b g i : Nat} {pw : Value} {q : Ps} {c : Cm} {s : Int}
theorem FdI.drop (_h : FdI w mode zs b g i wr pw q c s) (hi : i < zs.length) : zs.drop i = zs[i]?.getD 0 :: zs.drop (i + 1) := by
  rw [List.drop_eq_getElem_cons hi]
  simp [hi]
/-- Feed has been called. -/
theorem FdI.fed (h : FdI w mode zs b g i wr pw q c s) (hi : i < zs.length) (h6 : ∀ k ∈ zs, In64 k) (hz : zs.length < 17592186044416) {q' : Ps} {c' : Cm} {s' : Int} {pw' : Value} (hf : FdR q mode (zs[i]?.getD 0) q' c' s') (hp : PsM y b pw' q') (hk : Kps (fun k => k = b ∨ pw.ownBlock = some k) wr y) (hn : ∀ k, pw'.ownBlock = some k → pw.ownBlock = some k ∨ wr.heap.size ≤ k) :
    y.heap[w.heap.size]? = some (.cells #[.int .i64 0, .int .i64 0, .int .i64 0, .int .i64 0, .int .i64 0] 33 (0, 0)) ∧ y.heap[g]? = some (.cells (cmA c) 33 (0, 0)) ∧ (y.heap[g]? = some (.cells (cmA c) 33 (0, 0)) → ∀ y2, y.grownBy y2 (some g) → y2.heap[g]? = some (.cells (cmA c') 33 (0, 0)) → (s' = 0 ∨ i + 1 = zs.length) → FdI w mode zs b g (i + 1) y2 pw' q' c' s') ∧ Below w.heap.size w y ∧ (s' ≠ 0 → i + 1 < zs.length → FedR mode (ps0 false) zs cmZ (-1)) := by
  obtain ⟨l1, l2, l3⟩ := h.lt
  have hbl := h.pm.1.lt
  have hgl := (Array.getElem?_eq_some_iff.1 h.cs).1
  have hrl := (Array.getElem?_eq_some_iff.1 h.rs).1
  have hin : In64 (zs[i]?.getD 0) := h6 _ (by rw [List.getElem?_eq_getElem hi]; exact List.getElem_mem hi)
  obtain ⟨k1, k2, k3, k4, k5, k6, k7⟩ := hf.ok h.ok hin (by have := h.ln; omega)
  have e1 : y.heap[w.heap.size]? = some (.cells #[.int .i64 0, .int .i64 0, .int .i64 0, .int .i64 0, .int .i64 0] 33 (0, 0)) := (hk.same _ hrl (fun e => e.elim (fun e => by omega) (fun e => own_ne h.pm.2 h.rs (by decide) e))).trans h.rs
  have e2 : y.heap[g]? = some (.cells (cmA c) 33 (0, 0)) := (hk.same _ hgl (fun e => e.elim (fun e => l3 e.symm) (fun e => own_ne h.pm.2 h.cs (by decide) e))).trans h.cs
  have e3 : Below w.heap.size w y := h.bl.trans (hk.below h.bl.size (fun k e => e.elim (fun e => by omega) (fun e => h.nw k e)))
  have hd := h.drop hi
  refine ⟨e1, e2, fun _ y2 hg hc ho => ?_, e3, fun hs hl => ?_⟩
  · have hkg : Kps (fun k => k = g) y y2 := Kps.grown hg (fun k e _ => (Option.some.inj e).symm)
    have hbl2 := hp.1.lt
    refine ⟨⟨hp.1.turn hkg (fun j _ e => by subst e; exact not_hv e2 (by decide)) (fun _ _ _ _ _ _ hp => (hkg.same _ hp.lt l3).trans hp), hp.2.stay (fun k hk => ?_)⟩, k1, by have := h.ln; omega, (hkg.same _ (Array.getElem?_eq_some_iff.1 e1).1 (by omega)).trans e1, hc, e3.trans (hkg.below e3.size (fun k e => by omega)), h.lt, fun k hk => ?_, fun hl => ?_, fun hl c2 s2 hr => ?_⟩
    · obtain ⟨_, cur, hcur⟩ := hp.2.blk hk
      exact hkg.same k (Array.getElem?_eq_some_iff.1 hcur).1 (fun e => own_ne hp.2 e2 (by decide) (e ▸ hk))
    · rcases hn k hk with e | e
      · exact h.nw k e
      · have := h.bl.size; omega
    · refine h.stp hi _ _ ?_
      rw [hd]
      have : zs.drop (i + 1) = [] := List.drop_eq_nil_of_le (by omega)
      rw [this]
      exact ⟨q', hf⟩
    · refine h.stp hi _ _ ?_
      rw [hd]
      show (if zs.drop (i + 1) = [] then _ else _)
      rw [if_neg (by intro e; have := List.drop_eq_nil_iff.1 e; omega)]
      refine ⟨q', c', s', hf, .inl ⟨?_, hr⟩⟩
      rcases ho with e | e
      · exact e
      · omega
  · refine h.stp hi _ _ ?_
    rw [hd]
    show (if zs.drop (i + 1) = [] then _ else _)
    rw [if_neg (by intro e; have := List.drop_eq_nil_iff.1 e; omega)]
    exact ⟨q', c', s', hf, .inr ⟨hs, rfl, rfl⟩⟩
end
/-- What fed leaves. -/
def FedP (w : World) (mode : Int) (zs : List Int) (e : Ending) (w' : World) : Prop := ∃ c s, FedR mode (ps0 false) zs c s ∧ e = .returned (.tuple #[cmV c, .int .i64 s]) ∧ Below w.heap.size w w'
theorem fin5 {w y : World} {a0 a1 a2 a3 a4 : Value} (hb : Below w.heap.size w y) (hr : y.heap[w.heap.size]? = some (.cells #[a0, a1, a2, a3, a4] 33 (0, 0))) (x0 x1 x2 x3 x4 : Value) : Below w.heap.size w (((((y.setCell ⟨w.heap.size, 0, none⟩ x0).setCell ⟨w.heap.size, 1, none⟩ x1).setCell ⟨w.heap.size, 2, none⟩ x2).setCell ⟨w.heap.size, 3, none⟩ x3).setCell ⟨w.heap.size, 4, none⟩ x4) ∧ (((((y.setCell ⟨w.heap.size, 0, none⟩ x0).setCell ⟨w.heap.size, 1, none⟩ x1).setCell ⟨w.heap.size, 2, none⟩ x2).setCell ⟨w.heap.size, 3, none⟩ x3).setCell ⟨w.heap.size, 4, none⟩ x4).heap[w.heap.size]? = some (.cells #[x0, x1, x2, x3, x4] 33 (0, 0)) := by
  obtain ⟨g0, g⟩ := put5 hr x0 x1 x2 x3 x4
  exact ⟨hb.grown g hb.size (fun k e => by cases e; exact Nat.le_refl _), g0⟩
set_option maxRecDepth 100000 in
set_option maxHeartbeats 8000000 in
theorem fed_any {w : World} {mode : Int} {v : Value} {zs : List Int} (hv : RdS w v zs) (h6 : ∀ k ∈ zs, In64 k) (hz : zs.length < 17592186044416) :
    Calls Tryz.prog 14 #[.int .i64 mode, v] w fun e w' => FedP w mode zs e w' := by
  obtain ⟨ao, cu, rfl, _⟩ := hv.len
  have HV := hidIt hv
  have H6 := hidIt h6
  obtain ⟨w0, hw0⟩ : ∃ w0, w0 = w.alloc (.cells #[.int .i64 0, .int .i64 0, .int .i64 0, .int .i64 0, .int .i64 0] 33) := ⟨_, rfl⟩
  have HB0 : Hid (Below w.heap.size w w0) := by unfold Hid; rw [hw0]; exact ext_alloc (Below.refl _ _) _
  have HR0 : Hid (w0.heap[w.heap.size]? = some (.cells #[.int .i64 0, .int .i64 0, .int .i64 0, .int .i64 0, .int .i64 0] 33 (0, 0))) := by unfold Hid; rw [hw0]; exact heap_alloc_new _ _
  have HNW := hidIt (new_any w0)
  clear hv h6
  go_enter Tryz.func14, Tryz.ntmps14
  go_upto_region 1 with fail
  rw [← hw0]
  clear hw0
  go_upto_region 4 with (go_at_call 6; refine HNW.out.mono ?_; rintro e w1 ⟨rfl, hb1, hp1⟩; (try dsimp only); have HB1 := hidIt hb1; have HP1 := hidIt hp1; clear hb1 hp1)
  obtain ⟨w2, hw2⟩ : ∃ w2, w2 = w1.alloc (.cells #[.int .i64 0, .int .i64 0, .int .i64 0, .int .i64 0, .int .i64 0] 33) := ⟨_, rfl⟩
  go_upto_region 5 with fail
  rw [← hw2]
  have hb2 : Below w1.heap.size w1 w2 := by rw [hw2]; exact ext_alloc (Below.refl _ _) _
  have HI : Hid (FdI w mode zs w0.heap.size w1.heap.size 0 w2 (.slice none 0 0) (ps0 false) cmZ (-1)) := by
    have h0 := (Array.getElem?_eq_some_iff.1 HR0.out).1
    have h1 : w1.heap[w.heap.size]? = some (.cells #[.int .i64 0, .int .i64 0, .int .i64 0, .int .i64 0, .int .i64 0] 33 (0, 0)) := (HB1.out.block _ h0).trans HR0.out
    have h2 := (Array.getElem?_eq_some_iff.1 h1).1
    have h3 := HP1.out.lt
    refine ⟨⟨HP1.out.ext hb2, OwnI.nil _ _⟩, ps0_ok _, Nat.le_refl _, (hb2.block _ h2).trans h1, by rw [hw2]; exact heap_alloc_new _ _, ext_trans (ext_trans HB0.out HB1.out) hb2, ⟨h0, h2, by omega⟩, fun k hk => (by cases hk), fun hl => ?_, fun _ c' s' hr => hr⟩
    have : zs = [] := List.length_eq_zero_iff.1 hl
    subst this
    exact ⟨rfl, rfl⟩
  clear hw2 hb2 HB1 HP1 HB0 HR0 HNW
  generalize w0.heap.size = b at *
  generalize w1.heap.size = g at *
  go_upto_region 6 with fail
  go_wp2_with fail
  go_loopw [8, 9] (fun sv iv wr => ∃ (i : Nat) (pw : Value) (q : Ps) (c : Cm) (s : Int), i ≤ zs.length ∧ iv = .int .i64 i ∧ sv = .int .i64 s ∧ Hid (FdI w mode zs b g i wr pw q c s)) (fun _ iv _ => zs.length - (RowKit.intOf iv).toNat)
  case atStart => exact ⟨0, _, _, _, _, Nat.zero_le _, rfl, rfl, HI.out⟩
  case round =>
    obtain ⟨i, pw, q, c, s, hil, rfl, rfl, HJ⟩ := hrel
    by_cases hi : i < zs.length
    · have hiI : (i : Int) < (zs.length : Int) := by omega
      obtain ⟨pb, po, hao, hci⟩ : ∃ pb po, ao = some ⟨pb, po, none⟩ ∧ wr.cell? ⟨pb, po + i, none⟩ = some (.int .i64 (zs[i]?.getD 0)) := by
        obtain ⟨⟨ao', cap', e, g1, g2, g3⟩, _⟩ := HV.out.ext HJ.out.bl
        obtain ⟨b', off', e4, h1, h2⟩ := g3 (by intro e; rw [e] at hi; simp at hi)
        injection e with e1 e2 e3
        exact ⟨b', off', e1.trans e4, h2 i hi⟩
      subst hao
      have HFD := hidIt (feed_any HJ.out.pm HJ.out.ok (by have := HJ.out.ln; omega) mode (zs[i]?.getD 0) (H6.out _ (by rw [List.getElem?_eq_getElem hi]; exact List.getElem_mem hi)))
      have HST := hidIt (fun (y : World) (q' : Ps) (c' : Cm) (s' : Int) (pw' : Value) => HJ.out.fed (y := y) hi H6.out hz (q' := q') (c' := c') (s' := s') (pw' := pw'))
      generalize zs[i]?.getD 0 = z at hci HFD HST
      go_upto_region 10 with (go_at_call 9; refine HFD.out.mono ?_; rintro e y ⟨q', ⟨cr, cc, cv, cm, ca⟩, s', pw', hf, rfl, hp, hk, hn⟩; (try dsimp only); have HT := hidIt (HST.out y q' _ s' pw' hf hp hk hn); clear hf hp hk hn HFD HST; obtain ⟨_, t0, t1, t2, t3, t4, tf⟩ := cells5 HT.out.2.1)
      obtain ⟨hg5, gg⟩ := put5 HT.out.2.1 (.int .i64 cr) (.int .i64 cc) (.int .i64 cv) (.int .i64 cm) (.int .i64 ca)
      generalize ((((y.setCell ⟨g, 0, none⟩ (.int .i64 cr)).setCell ⟨g, 1, none⟩ (.int .i64 cc)).setCell ⟨g, 2, none⟩ (.int .i64 cv)).setCell ⟨g, 3, none⟩ (.int .i64 cm)).setCell ⟨g, 4, none⟩ (.int .i64 ca) = y2 at *
      have HN := hidIt (HT.out.2.2.1 HT.out.2.1 y2 gg hg5)
      have HR2 : Hid (y2.heap[w.heap.size]? = some (.cells #[.int .i64 0, .int .i64 0, .int .i64 0, .int .i64 0, .int .i64 0] 33 (0, 0))) := (gg.block _ (Array.getElem?_eq_some_iff.1 HT.out.1).1 (by have := HJ.out.lt; intro e; have := Option.some.inj e; omega)).trans HT.out.1
      have HB2 : Hid (Below w.heap.size w y2) := HT.out.2.2.2.1.grown gg HT.out.2.2.2.1.size (fun k e => by cases e; have := HJ.out.lt; omega)
      have HER := hidIt HT.out.2.2.2.2
      clear t0 t1 t2 t3 t4 tf hg5 gg HT
      by_cases hs : s' = 0
      · have HN2 := hidIt (HN.out (.inl hs))
        subst hs
        clear HN HER
        go_wp2_with fail
        go_roundw
        case rel => exact ⟨i + 1, pw', q', ⟨cr, cc, cv, cm, ca⟩, 0, by omega, rfl, rfl, HN2.out⟩
        case measure => simp [RowKit.intOf]; omega
      · have hsb : (s' == 0) = false := by simpa using hs
        by_cases hl : i + 1 < zs.length
        · have HE2 := hidIt (HER.out hs hl)
          have hw1 : IntKind.i64.wrap ((zs.length : Int) - 1) = ((zs.length - 1 : Nat) : Int) := by rw [IntKind.wrap_i64]; omega
          have hlt : (i : Int) < ((zs.length - 1 : Nat) : Int) := by omega
          obtain ⟨_, r0, r1, r2, r3, r4, rf⟩ := cells5 HR2.out
          go_wp2_with fail
          try rw [Exit.noGoto_ret]
          have HE := hidIt (fin5 HB2.out HR2.out (.int .i64 0) (.int .i64 0) (.int .i64 0) (.int .i64 0) (.int .i64 0))
          obtain ⟨_, f0, f1, f2, f3, f4, ff⟩ := cells5 HE.out.2
          refine bodyPost_ret (v := .tuple #[.agg #[.int .i64 0, .int .i64 0, .int .i64 0, .int .i64 0, .int .i64 0], .int .i64 (-1)]) (by simp [results, Tryz.results14, go_sem, f0, f1, f2, f3, f4]) rfl ⟨cmZ, (-1), HE2.out, rfl, HE.out.1⟩
        · have hw1 : IntKind.i64.wrap ((zs.length : Int) - 1) = ((zs.length - 1 : Nat) : Int) := by rw [IntKind.wrap_i64]; omega
          have hlt : ¬ (i : Int) < ((zs.length - 1 : Nat) : Int) := by omega
          have HN2 := hidIt (HN.out (.inr (by omega)))
          clear HN
          go_wp2_with fail
          go_roundw
          case rel => exact ⟨i + 1, pw', q', ⟨cr, cc, cv, cm, ca⟩, s', by omega, rfl, rfl, HN2.out⟩
          case measure => simp [RowKit.intOf]; omega
    · have hiI : ¬ (i : Int) < (zs.length : Int) := by omega
      have hie : zs.length = i := by omega
      have HFI := hidIt (HJ.out.fin hie)
      clear hie
      obtain ⟨_, g0, g1, g2, g3, g4, gf⟩ := cells5 HJ.out.cs
      obtain ⟨_, r0, r1, r2, r3, r4, rf⟩ := cells5 HJ.out.rs
      go_wp2_with fail
      have HE := hidIt (fin5 HJ.out.bl HJ.out.rs (.int .i64 c.r) (.int .i64 c.c) (.int .i64 c.v) (.int .i64 c.m) (.int .i64 c.a))
      obtain ⟨_, f0, f1, f2, f3, f4, ff⟩ := cells5 HE.out.2
      refine bodyPost_ret (v := .tuple #[.agg #[.int .i64 c.r, .int .i64 c.c, .int .i64 c.v, .int .i64 c.m, .int .i64 c.a], .int .i64 s]) (by simp [results, Tryz.results14, go_sem, f0, f1, f2, f3, f4]) rfl ⟨c, s, HFI.out, rfl, HE.out.1⟩
end Go.Proofs.YtfdceljdhgbkcaaGreatDoor

/- alive; Pending; a parser beside another one. -/
namespace Go.Proofs.YtfdceljdhgbkcaaGreatDoor
open Go.RowKit
theorem bgn_w : bgn (fil tTar) [119] = some 0 := by rw [filT_eq]; kernel_rfl
theorem lks_w : lkS (fil tTar) [119] = 1 := by rw [filT_eq]; kernel_rfl
theorem lkv_w : lkV (fil tTar) [119] = some ⟨1, 21, 0, 0⟩ := by rw [filT_eq]; kernel_rfl
theorem rd_w {ks : List Int} {t : Rdg} (hk : t.k = ks.length) (ho : t.o = 2) : Rdo false (ks ++ [119]) t (endN t) ⟨(endN t).r, (endN t).c, 2, 21, 0⟩ 1 := by
  refine .done (by rw [hk, List.length_append, List.length_singleton]; omega) ?_
  rw [drop_last hk, rst_cmd (by unfold bLs; rw [if_neg (by rw [ho]; decide)]) (gow_big t 119 (by decide)) (by decide) bgn_w lks_w lkv_w rfl]
  unfold rcm
  rw [if_neg (by rw [ho]; decide)]
  show Stp.fin (endN t) (cmdB { v := t.o, m := 21, a := 0, t := 0 } (endN t).r (endN t).c 0) 1 = _
  rw [ho]
  unfold cmdB
  rw [if_neg (fun h => absurd h.1 (by decide)), if_neg (by decide)]
theorem alive_keys : FedR 0 (ps0 false) [50, 100, 51, 119] ⟨0, 6, 2, 21, 0⟩ 1 := by
  have m1 : Mr 0 (ps0 false) [50] ⟨false, [50], ⟨1, 0, 0, 2, 0⟩⟩ := ⟨_, fdr_more (p := ps0 false) rfl (by decide) (rd_dig (ks := []) rfl (by decide)), rfl⟩
  have m2 : Mr 0 ⟨false, [50], ⟨1, 0, 0, 2, 0⟩⟩ [100] ⟨false, [50, 100], ⟨2, 0, 2, 0, 2⟩⟩ := ⟨_, fdr_more (p := ⟨false, [50], ⟨1, 0, 0, 2, 0⟩⟩) rfl (by decide) (rd_d (ks := [50]) rfl rfl), rfl⟩
  have m3 : Mr 0 ⟨false, [50, 100], ⟨2, 0, 2, 0, 2⟩⟩ [51] ⟨false, [50, 100, 51], ⟨3, 0, 2, 3, 2⟩⟩ := ⟨_, fdr_more (p := ⟨false, [50, 100], ⟨2, 0, 2, 0, 2⟩⟩) rfl (by decide) (rd_dig (ks := [50, 100]) rfl (by decide)), rfl⟩
  have m4 : FdR ⟨false, [50, 100, 51], ⟨3, 0, 2, 3, 2⟩⟩ 0 119 (ps0 false) ⟨0, 6, 2, 21, 0⟩ 1 := fdr_done (p := ⟨false, [50, 100, 51], ⟨3, 0, 2, 3, 2⟩⟩) rfl (by decide) (rd_w (ks := [50, 100, 51]) rfl rfl)
  exact FedR.of_mr ((m1.append m2).append m3) m4
theorem own_lit4 (w : World) (x y z u : Int) (base : Nat) (hb : base ≤ w.heap.size) : OwnI (w.alloc (.cells #[.int .i64 x, .int .i64 y, .int .i64 z, .int .i64 u] 3)) base (.slice (some ⟨w.heap.size, 0, none⟩) 4 4) [x, y, z, u] :=
  ⟨rfl, .inr ⟨w.heap.size, 4, #[.int .i64 x, .int .i64 y, .int .i64 z, .int .i64 u], rfl, hb, heap_alloc_new _ _, Nat.le_refl _, by decide, rfl, rfl⟩⟩
theorem own_lit5 (w : World) (x y z u v : Int) (base : Nat) (hb : base ≤ w.heap.size) : OwnI (w.alloc (.cells #[.int .i64 x, .int .i64 y, .int .i64 z, .int .i64 u, .int .i64 v] 3)) base (.slice (some ⟨w.heap.size, 0, none⟩) 5 5) [x, y, z, u, v] :=
  ⟨rfl, .inr ⟨w.heap.size, 5, #[.int .i64 x, .int .i64 y, .int .i64 z, .int .i64 u, .int .i64 v], rfl, hb, heap_alloc_new _ _, Nat.le_refl _, by decide, rfl, rfl⟩⟩
set_option maxRecDepth 100000 in
set_option maxHeartbeats 4000000 in
theorem alive_any (w : World) (hT : Tb w) : Calls Tryz.prog 5 #[] w fun e w' => e = .returned (.bool true) ∧ Below w.heap.size w w' := by
  have HTb := hidIt hT
  obtain ⟨w0, hw0⟩ : ∃ w0, w0 = w.alloc (.cells #[.int .i64 50, .int .i64 100, .int .i64 51, .int .i64 119] 3) := ⟨_, rfl⟩
  have HB0 : Hid (Below w.heap.size w w0) := by unfold Hid; rw [hw0]; exact ext_alloc (Below.refl _ _) _
  have HL0 : Hid (RdS w0 (.slice (some ⟨w.heap.size, 0, none⟩) 4 4) [50, 100, 51, 119]) := by unfold Hid; rw [hw0]; exact (own_lit4 w 50 100 51 119 0 (Nat.zero_le _)).rds
  have HFE := hidIt (fed_any (mode := 0) HL0.out (by intro k hk; simp only [List.mem_cons, List.not_mem_nil, or_false] at hk; exact In64.of (by omega) (by omega)) (by simp))
  have HAK := hidIt alive_keys
  have HSA := hidIt spell_alive
  clear hT
  go_enter Tryz.func5, Tryz.ntmps5
  go_upto_region 2 with (go_at_call 14; rw [← hw0]; refine HFE.out.mono ?_; rintro e y ⟨c7, s7, hfr, rfl, hb7⟩; obtain ⟨rfl, rfl⟩ := hfr.det HAK.out; (try dsimp only); have HB7 := hidIt (ext_trans HB0.out hb7); clear hfr hb7)
  obtain ⟨y8, hy8⟩ : ∃ y8, y8 = y.alloc (.cells #[.int .i64 0, .int .i64 6, .int .i64 2, .int .i64 21, .int .i64 0] 33) := ⟨_, rfl⟩
  rw [← hy8]
  have HC8 : Hid (y8.heap[y.heap.size]? = some (.cells #[.int .i64 0, .int .i64 6, .int .i64 2, .int .i64 21, .int .i64 0] 33 (0, 0))) := by unfold Hid; rw [hy8]; exact heap_alloc_new _ _
  have HB8 : Hid (Below w.heap.size w y8) := by unfold Hid; rw [hy8]; exact ext_alloc HB7.out _
  clear hy8 hw0
  have HSP := hidIt (Spell_any 0 ⟨97, 6, 2, 21, 0⟩ y8 (HTb.out.ext HB8.out))
  rw [HSA.out] at HSP
  generalize y.heap.size = g8 at *
  go_upto_region 3 with (go_at_call 11; refine HSP.out.mono ?_; rintro e y9 ⟨u9, rfl, ho9, hb9⟩; obtain ⟨ka, kn, kc, rfl, hkr⟩ := ho9.some; (try dsimp only); have HK9 := hidIt hkr; have HB9 := hidIt hb9; clear ho9 hb9 hkr)
  have HC9 := hidIt ((HB9.out.block _ (Array.getElem?_eq_some_iff.1 HC8.out).1).trans HC8.out)
  obtain ⟨_, g0, g1, g2, g3, g4, gf⟩ := cells5 HC9.out
  have HSI : Hid (Calls Tryz.prog 12 #[.slice (some ka) kn kc, .slice (some ⟨y9.heap.size, 0, none⟩) 5 5] (y9.alloc (.cells #[.int .i64 34, .int .i64 97, .int .i64 54, .int .i64 100, .int .i64 119] 3)) fun e w' => e = .returned (.bool true) ∧ Below (y9.alloc (.cells #[.int .i64 34, .int .i64 97, .int .i64 54, .int .i64 100, .int .i64 119] 3)).heap.size (y9.alloc (.cells #[.int .i64 34, .int .i64 97, .int .i64 54, .int .i64 100, .int .i64 119] 3)) w') := sameInts_any _ _ [34, 97, 54, 100, 119] _ (HK9.out.ext (ext_alloc (Below.refl _ _) _)).1 (own_lit5 y9 34 97 54 100 119 0 (Nat.zero_le _)).rds.1
  go_wp2_with (go_at_call 12; refine HSI.out.mono ?_; rintro e z ⟨rfl, hbz⟩; (try dsimp only); have HBZ := hidIt hbz; clear hbz)
  go_ret
  exact ⟨rfl, ext_trans (ext_alloc (ext_trans HB8.out HB9.out) _) HBZ.out⟩
set_option maxRecDepth 100000 in
/-- slices.Clone of whatever slice. -/
theorem clone_opt (v : Value) (zs : List Int) (w : World) (h : RdS w v zs) (hl : zs.length * 8 ≤ 140737488355328) :
    Calls Tryz.prog 37 #[v] w fun e w' => ∃ v', e = .returned v' ∧ OwnI w' w.heap.size v' zs ∧ Below w.heap.size w w' := by
  by_cases h0 : zs = []
  · subst h0
    rcases h.2 with rfl | ⟨ad, n, c, rfl⟩
    · have he := Lib.run_eql_slice_nil (P := Tryz.prog) w 38 3 none 0 0 0 0 Tryz.underlying38
      clear h hl
      go_enter Tryz.func37, Tryz.ntmps37
      go_wp2_with fail
      go_ret
      exact ⟨_, rfl, OwnI.nil _ _, Below.refl _ _⟩
    · have H := hidIt h
      have he := Lib.run_eql_slice_nil (P := Tryz.prog) w 38 3 (some ad) n c 0 0 Tryz.underlying38
      clear h
      go_enter Tryz.func37, Tryz.ntmps37
      go_wp2_with (at_builtin; refine wpl_ints rfl _ _ 38 rfl w.heap.size Tryz.info_i64 Tryz.underlying38 _ [] rfl ⟨rfl, .inr ⟨w.heap.size, 0, #[], rfl, Nat.le_refl _, heap_alloc_new _ _, Nat.le_refl _, by simp [maxLen], rfl, rfl⟩⟩ _ [] rfl (H.out.ext (ext_alloc (Below.refl _ _) _)) (by simp) (by simp) ?_; intro v2 w2 own2 hb2; have O2 := hidIt own2; have B2 := hidIt hb2; clear own2 hb2; (try dsimp only))
      go_ret
      exact ⟨_, rfl, O2.out, ((Below.refl _ _).alloc (Nat.le_refl _) _).trans B2.out⟩
  · exact clone_any v zs w h h0 hl
set_option maxRecDepth 100000 in
theorem Pending_any {w : World} {b : Nat} {pv : Value} {p : Ps} (h : PsM w b pv p) (hl : p.ks.length * 8 ≤ 140737488355328) :
    Calls Tryz.prog 16 #[.pointer (some ⟨b, 0, none⟩)] w fun e w' => ∃ v, e = .returned v ∧ OwnI w' w.heap.size v p.ks ∧ Below w.heap.size w w' := by
  have HC := hidIt (clone_opt pv p.ks w h.2.rds hl)
  obtain ⟨c7, hbl⟩ : w.cell? ⟨b, 7, none⟩ = some pv ∧ b < w.heap.size := by
    obtain ⟨m0, s0, m1, s1, m2, s2, hp, _⟩ := h.1
    obtain ⟨_, _, _, _, _, _, _, _, c7, _⟩ := cells13 hp
    exact ⟨c7, hp.lt⟩
  obtain ⟨ao, cu, rfl, _⟩ := h.2.rds.len
  clear h
  go_enter Tryz.func16, Tryz.ntmps16
  go_wp2_with (go_at_call 37; refine HC.out.mono ?_; rintro e y ⟨v, rfl, ho, hb⟩; (try dsimp only); have HO := hidIt ho; have HB := hidIt hb; clear ho hb)
  go_ret
  exact ⟨_, rfl, HO.out, HB.out⟩
/-- Another parser was fed: this one stays. -/
theorem PsM.other {w w' : World} {b1 b2 : Nat} {pv1 pv2 : Value} {p q : Ps} (h : PsM w b2 pv2 q) (h1 : PsM w b1 pv1 p) (hk : Kps (fun k => k = b1 ∨ pv1.ownBlock = some k) w w') (hne : b1 ≠ b2) (hd : ∀ k, pv1.ownBlock = some k → pv2.ownBlock ≠ some k) : PsM w' b2 pv2 q := by
  obtain ⟨cs, hcs⟩ := psr_typ h.1
  obtain ⟨cs1, hcs1⟩ := psr_typ h1.1
  refine ⟨h.1.turn hk (fun i _ e => ?_) (fun _ _ _ _ _ _ hp => (hk.same _ hp.lt (fun e => ?_)).trans hp), h.2.stay (fun g hg => ?_)⟩
  · rcases e with rfl | e
    · exact not_hv hcs1 (by decide)
    · obtain ⟨_, cur, hc⟩ := h1.2.blk e
      exact not_hv hc (by decide)
  · rcases e with e | e
    · exact hne e.symm
    · exact own_ne h1.2 hcs (by decide) e
  · obtain ⟨_, cur, hc⟩ := h.2.blk hg
    refine hk.same g (Array.getElem?_eq_some_iff.1 hc).1 (fun e => ?_)
    rcases e with rfl | e
    · rw [hc] at hcs1; cases hcs1
    · exact hd g e hg
theorem PsM.ext {w w' : World} {b : Nat} {pv : Value} {p : Ps} (h : PsM w b pv p) (hb : Below w.heap.size w w') : PsM w' b pv p := ⟨h.1.ext hb, h.2.ext hb⟩
end Go.Proofs.YtfdceljdhgbkcaaGreatDoor
