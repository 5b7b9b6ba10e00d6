/- KeysUnbound: the walk. -/
import Derived.Test.YtdbmgjkgfmdmjaaDoorKAlv
namespace Go.Proofs.YtdbmgjkgfmdmjaaDoor
open Go.RowKit
/-- While the script is fed to p: q is new. -/
structure UI (w wA : World) (mode : Int) (b1 b2 : Nat) (av : Value) (zs : List Int) (i : Nat) (wr : World) (pv : Value) (p : Ps) (s : Int) : Prop where
  pm : PsM wr b1 pv p
  qm : PsM wr b2 (.slice none 0 0) (ps0 false)
  ok : p.Ok
  ln : p.ks.length ≤ i
  al : OwnI wr 0 av zs
  ab : ∀ g, av.ownBlock = some g → g < wA.heap.size
  nb : ∀ k, pv.ownBlock = some k → wA.heap.size ≤ k
  bl : Below w.heap.size w wr
  lt : w.heap.size ≤ b1 ∧ b1 ≠ b2 ∧ w.heap.size ≤ wA.heap.size ∧ wA.heap.size ≤ wr.heap.size
  st : 0 < i → p.sl = isl mode ∧ (s ≠ 0 → p = ps0 (isl mode))
section
variable {w wA wr y : World} {mode : Int} {b1 b2 i : Nat} {av pv : Value} {zs : List Int} {p : Ps} {s : Int}
theorem UI.ext (h : UI w wA mode b1 b2 av zs i wr pv p s) (hb : Below wr.heap.size wr y) : UI w wA mode b1 b2 av zs i y pv p s :=
  ⟨h.pm.ext hb, h.qm.ext hb, h.ok, h.ln, h.al.ext hb, h.ab, h.nb, ext_trans h.bl hb, ⟨h.lt.1, h.lt.2.1, h.lt.2.2.1, Nat.le_trans h.lt.2.2.2 hb.size⟩, h.st⟩
theorem UI.fed (h : UI w wA mode b1 b2 av zs i wr pv p s) {key : Int} (h6 : In64 key) (hi : i < 17592186044416) {q : Ps} {c : Cm} {s' : Int} {pw : Value} (hf : FdR p mode key q c s') (hp : PsM y b1 pw q) (hk : Kps (fun k => k = b1 ∨ pv.ownBlock = some k) wr y) (hn : ∀ k, pw.ownBlock = some k → pv.ownBlock = some k ∨ wr.heap.size ≤ k) :
    UI w wA mode b1 b2 av zs (i + 1) y pw q s' ∧ (0 ≤ s' ∧ s' ≤ 3) ∧ (s' ≠ 1 → c = cmZ) ∧ (s' = 0 → q.ks ≠ []) ∧ (s' ≠ 0 → q.ks = []) := by
  obtain ⟨k1, k2, k3, k4, k5, k6, k7⟩ := hf.ok h.ok h6 (by have := h.ln; omega)
  obtain ⟨l1, l2, l3, l4⟩ := h.lt
  obtain ⟨cs, hcs⟩ := psr_typ h.pm.1
  refine ⟨⟨hp, h.qm.other h.pm hk l2 (fun k _ e => by cases e), k1, by have := h.ln; omega, h.al.stay (fun g hg => ?_), h.ab, fun k hk => ?_, h.bl.trans (hk.below h.bl.size (fun k e => e.elim (fun e => by omega) (fun e => Nat.le_trans l3 (h.nb k e)))), ⟨l1, l2, l3, Nat.le_trans l4 hk.size⟩, fun _ => ⟨k2, k7⟩⟩, k4, k5, k6, fun e => by rw [k7 e]; rfl⟩
  · obtain ⟨_, cur, hc⟩ := h.al.blk hg
    refine hk.same g (Array.getElem?_eq_some_iff.1 hc).1 (fun e => ?_)
    rcases e with rfl | e
    · rw [hc] at hcs; cases hcs
    · have := h.ab g hg
      have := h.nb g e
      omega
  · rcases hn k hk with e | e
    · exact h.nb k e
    · omega
end
/-- While more is fed to both. -/
structure UJ (w : World) (mode : Int) (b1 b2 : Nat) (i : Nat) (wr : World) (pv qv : Value) (p q : Ps) : Prop where
  pm : PsM wr b1 pv p
  qm : PsM wr b2 qv q
  po : p.Ok
  qo : q.Ok
  pl : p.ks.length ≤ i
  ql : q.ks.length ≤ i
  ah : ahd p mode = ahd q mode
  dj : ∀ k, pv.ownBlock = some k → qv.ownBlock ≠ some k
  nb : ∀ k, pv.ownBlock = some k ∨ qv.ownBlock = some k → w.heap.size ≤ k
  bl : Below w.heap.size w wr
  lt : w.heap.size ≤ b1 ∧ w.heap.size ≤ b2 ∧ b1 ≠ b2
theorem FdR.ahd {p q r : Ps} {mode key : Int} {c : Cm} {s : Int} (h : FdR p mode key r c s) (e : ahd p mode = ahd q mode) : FdR q mode key r c s := by
  unfold FdR at *
  rw [← e]
  exact h
section
variable {w wr y : World} {mode : Int} {b1 b2 i : Nat} {pv qv : Value} {p q : Ps}
theorem UJ.ext (h : UJ w mode b1 b2 i wr pv qv p q) (hb : Below wr.heap.size wr y) : UJ w mode b1 b2 i y pv qv p q :=
  ⟨h.pm.ext hb, h.qm.ext hb, h.po, h.qo, h.pl, h.ql, h.ah, h.dj, h.nb, ext_trans h.bl hb, h.lt⟩
/-- p was fed, then q, the same key. -/
theorem UJ.fed1 (h : UJ w mode b1 b2 i wr pv qv p q) {pw : Value} (hk : Kps (fun k => k = b1 ∨ pv.ownBlock = some k) wr y) (hn : ∀ k, pw.ownBlock = some k → pv.ownBlock = some k ∨ wr.heap.size ≤ k) :
    PsM y b2 qv q ∧ (∀ k, pw.ownBlock = some k → qv.ownBlock ≠ some k) ∧ (∀ k, pw.ownBlock = some k ∨ qv.ownBlock = some k → w.heap.size ≤ k) ∧ Below w.heap.size w y := by
  obtain ⟨l1, l2, l3⟩ := h.lt
  refine ⟨h.qm.other h.pm hk l3 h.dj, fun k e e2 => ?_, fun k e => ?_, h.bl.trans (hk.below h.bl.size (fun k e => e.elim (fun e => by omega) (fun e => h.nb k (.inl e))))⟩
  · rcases hn k e with e | e
    · exact h.dj k e e2
    · obtain ⟨_, cur, hc⟩ := h.qm.2.blk e2
      have := (Array.getElem?_eq_some_iff.1 hc).1
      omega
  · rcases e with e | e
    · rcases hn k e with e | e
      · exact h.nb k (.inl e)
      · have := h.bl.size; omega
    · exact h.nb k (.inr e)
theorem UJ.fed2 (hlt : w.heap.size ≤ b1 ∧ w.heap.size ≤ b2 ∧ b1 ≠ b2) {y z : World} {pw qv qw : Value} {q r r2 : Ps} (hp : PsM y b1 pw r) (hq : PsM y b2 qv q) (hd : ∀ k, pw.ownBlock = some k → qv.ownBlock ≠ some k) (hn : ∀ k, pw.ownBlock = some k ∨ qv.ownBlock = some k → w.heap.size ≤ k) (hb : Below w.heap.size w y)
    (hz : PsM z b2 qw r2) (hk : Kps (fun k => k = b2 ∨ qv.ownBlock = some k) y z) (hn2 : ∀ k, qw.ownBlock = some k → qv.ownBlock = some k ∨ y.heap.size ≤ k) (ho : r.Ok) (hl : r.ks.length ≤ i + 1) (he : r = r2) : UJ w mode b1 b2 (i + 1) z pw qw r r2 := by
  obtain ⟨l1, l2, l3⟩ := hlt
  subst he
  refine ⟨hp.other hq hk (fun e => l3 e.symm) (fun k e e2 => hd k e2 e), hz, ho, ho, hl, hl, rfl, fun k e e2 => ?_, fun k e => ?_, hb.trans (hk.below hb.size (fun k e => e.elim (fun e => by omega) (fun e => hn k (.inr e)))), ⟨l1, l2, l3⟩⟩
  · rcases hn2 k e2 with e3 | e3
    · exact hd k e e3
    · obtain ⟨_, cur, hc⟩ := hp.2.blk e
      have := (Array.getElem?_eq_some_iff.1 hc).1
      omega
  · rcases e with e | e
    · exact hn k (.inl e)
    · rcases hn2 k e with e | e
      · exact hn k (.inr e)
      · have := hb.size; omega
end
theorem ahd_ps0 (b : Bool) (mode : Int) : ahd (ps0 b) mode = ps0 (isl mode) := by
  unfold ahd
  split
  · rename_i h
    rw [show b = isl mode from h.symm]
  · rfl
theorem UI.uj {w wA wr : World} {mode : Int} {b1 b2 i : Nat} {av pv : Value} {zs : List Int} {p : Ps} {s : Int} (h : UI w wA mode b1 b2 av zs i wr pv p s) (hp : p = ps0 (isl mode)) (hb2 : w.heap.size ≤ b2) : UJ w mode b1 b2 0 wr pv (.slice none 0 0) (ps0 (isl mode)) (ps0 false) := by
  subst hp
  obtain ⟨l1, l2, l3, l4⟩ := h.lt
  exact ⟨h.pm, h.qm, ps0_ok _, ps0_ok _, Nat.le_refl _, Nat.le_refl _, by rw [ahd_ps0, ahd_ps0], fun k _ e => (by cases e), fun k e => e.elim (fun e => Nat.le_trans l3 (h.nb k e)) (fun e => (by cases e)), h.bl, ⟨l1, hb2, l2⟩⟩
theorem UI.ujr {w wA wr y : World} {mode : Int} {b1 b2 i : Nat} {av pv : Value} {zs : List Int} {p : Ps} {s : Int} (h : UI w wA mode b1 b2 av zs i wr pv p s) (hp : p.sl = isl mode) (hb2 : w.heap.size ≤ b2) (hr : Psr y b1 p.sl (.slice none 0 0) rdg0) (hk : Kps (fun k => k = b1) wr y) : UJ w mode b1 b2 0 y (.slice none 0 0) (.slice none 0 0) (ps0 (isl mode)) (ps0 false) := by
  obtain ⟨l1, l2, l3, l4⟩ := h.lt
  rw [hp] at hr
  exact ⟨⟨hr, OwnI.nil _ _⟩, h.qm.other h.pm (hk.mono (fun _ _ e => .inl e)) l2 (fun k _ e => (by cases e)), ps0_ok _, ps0_ok _, Nat.le_refl _, Nat.le_refl _, by rw [ahd_ps0, ahd_ps0], fun k _ e => (by cases e), fun k e => e.elim (fun e => (by cases e)) (fun e => (by cases e)), h.bl.trans (hk.below h.bl.size (fun k e => by omega)), ⟨l1, hb2, l2⟩⟩
set_option maxRecDepth 100000 in
set_option maxHeartbeats 16000000 in
theorem unb_any (mode : Int) (sv : Value) (xs : List Int) (mv : Value) (ms : List Int) (w : World) (hs : RdS w sv xs) (hm : RdS w mv ms) (h6s : ∀ k ∈ xs, In64 k) (h6m : ∀ k ∈ ms, In64 k) (hxl : xs.length * 8 ≤ 140737488351232) (hml : ms.length * 8 ≤ 140737488351232) (hT : Tb w) :
    Calls Tryd.prog 5 #[.int .i64 mode, sv, mv] w fun e w' => e = .returned (.bool true) ∧ Below w.heap.size w w' := by
  obtain ⟨sa, sc, rfl, _⟩ := hs.len
  obtain ⟨ma, mc, rfl, _⟩ := hm.len
  have HAL := hidIt (alive_any w hT)
  have HS := hidIt hs
  have HM := hidIt hm
  have HNW := hidIt (fun w => new_any w)
  have H6M := hidIt h6m
  have HXL : Hid (xs.length < 17592186044000) := by unfold Hid; omega
  have HML : Hid (ms.length < 17592186044000) := by unfold Hid; omega
  obtain ⟨zs, HZ⟩ : ∃ zs, Hid (zs = xs ++ [10]) := ⟨_, hidIt rfl⟩
  have HZL : Hid (zs.length = xs.length + 1) := by unfold Hid; rw [HZ.out, List.length_append]; rfl
  have H6Z : Hid (∀ k ∈ zs, In64 k) := by
    intro k hk
    rw [HZ.out] at hk
    rcases List.mem_append.1 hk with hk | hk
    · exact h6s k hk
    · rw [List.mem_singleton.1 hk]; exact In64.of (by omega) (by omega)
  clear hs hm h6s h6m hxl hml hT
  go_enter Tryd.func5, Tryd.ntmps5
  go_upto_region 2 with (go_at_call 9; refine HAL.out.mono ?_; rintro e w1 ⟨rfl, hb1⟩; (try dsimp only); have HB1 := hidIt hb1; clear hb1)
  go_upto_region 3 with (go_at_call 13; refine (HNW.out _).mono ?_; rintro e w2 ⟨rfl, hb2, hp2⟩; (try dsimp only); have HB2 := hidIt hb2; have HP2 := hidIt hp2; clear hb2 hp2)
  go_upto_region 4 with (go_at_call 13; refine (HNW.out _).mono ?_; rintro e w3 ⟨rfl, hb3, hp3⟩; (try dsimp only); have HB3 := hidIt hb3; have HQ3 := hidIt hp3; clear hb3 hp3)
  have HP3 := hidIt (HP2.out.ext HB3.out)
  have HBW3 : Hid (Below w.heap.size w w3) := ext_trans (ext_trans HB1.out HB2.out) HB3.out
  have HLB : Hid (w.heap.size ≤ w1.heap.size ∧ w1.heap.size ≠ w2.heap.size ∧ w1.heap.size < w3.heap.size ∧ w2.heap.size < w3.heap.size ∧ w.heap.size ≤ w2.heap.size) := ⟨HB1.out.size, by have := HP2.out.lt; omega, HP3.out.lt, HQ3.out.lt, by have := HB1.out.size; have := HB2.out.size; omega⟩
  clear HB1 HB2 HB3 HP2 HNW HAL
  generalize w1.heap.size = b1 at *
  generalize w2.heap.size = b2 at *
  go_upto_region 6 with fail
  have HS3 := hidIt (HS.out.ext HBW3.out)
  go_upto_region 7 with (first | (at_builtin; refine wpl_ints rfl _ _ 25 rfl w3.heap.size Tryd.info_i64 Tryd.underlying25 _ [] rfl (OwnI.nil _ _) _ xs rfl HS3.out (by have := HXL.out; simp; omega) (Nat.le_refl _) ?_; intro v4 w4 ho4 hb4; obtain ⟨a4, c4, rfl, _⟩ := ho4.rds.len; have HO4 := hidIt ho4; have HB4 := hidIt hb4; clear ho4 hb4 HS3; (try dsimp only)) | (at_builtin; refine wpl_ints rfl _ _ 25 rfl w3.heap.size Tryd.info_i64 Tryd.underlying25 _ ([] ++ xs) rfl (HO4.out.ext (ext_alloc (Below.refl _ _) _)) _ [10] rfl (own_lit1 _ _ 0 (Nat.zero_le _)).rds (by have := HXL.out; simp; omega) (by have := HB4.out.size; simp; omega) ?_; intro v5 w5 ho5 hb5; rw [List.nil_append, ← HZ.out] at ho5; obtain ⟨a5, c5, rfl, _⟩ := ho5.rds.len; have HO5 := hidIt ho5; have HB5 := hidIt ((ext_alloc HB4.out _).trans hb5); clear ho5 hb5; (try dsimp only)))
  have HLS : Hid (w3.heap.size ≤ w5.heap.size) := HB5.out.size
  have HI : Hid (UI w w5 mode b1 b2 (.slice a5 zs.length c5) zs 0 w5 (.slice none 0 0) (ps0 false) (-1)) := ⟨⟨HP3.out.ext HB5.out, OwnI.nil _ _⟩, ⟨HQ3.out.ext HB5.out, OwnI.nil _ _⟩, ps0_ok _, Nat.le_refl _, HO5.out.le (Nat.zero_le _), fun g hg => by obtain ⟨_, cur, hc⟩ := HO5.out.blk hg; exact (Array.getElem?_eq_some_iff.1 hc).1, fun k hk => (by cases hk), ext_trans HBW3.out HB5.out, ⟨HLB.out.1, HLB.out.2.1, by have := HBW3.out.size; have := HLS.out; omega, Nat.le_refl _⟩, fun h => absurd h (by omega)⟩
  have HZ9 : Hid (zs.length < 17592186044100) := by unfold Hid; have := HZL.out; have := HXL.out; omega
  have hz9 : zs.length ≤ 9223372036854775807 := by have := HZ9.out; omega
  clear HO4 HB4 HO5 HB5 HP3 HQ3
  go_upto_region 9 with fail
  go_wp2_with fail
  go_loopw [11, 12] (fun sv iv wr => ∃ (i : Nat) (pv : Value) (p : Ps) (s : Int), i ≤ zs.length ∧ iv = .int .i64 i ∧ sv = .int .i64 s ∧ Hid (UI w w5 mode b1 b2 (.slice a5 zs.length c5) zs i wr pv p s)) (fun _ iv _ => zs.length - (RowKit.intOf iv).toNat)
  case atStart => exact ⟨0, _, _, _, Nat.zero_le _, rfl, rfl, HI.out⟩
  case round =>
    obtain ⟨i, pv, p, s, hil, rfl, rfl, HJ⟩ := hrel
    by_cases hi : i < zs.length
    · have hiI : (i : Int) < (zs.length : Int) := by omega
      obtain ⟨pb, po, rfl, hci⟩ := rd_at HJ.out.al.rds hi
      have HIN := hidIt (H6Z.out (zs[i]?.getD 0) (by rw [List.getElem?_eq_getElem hi]; exact List.getElem_mem hi))
      have HFD := hidIt (feed_any HJ.out.pm HJ.out.ok (by have := HJ.out.ln; have := HZ9.out; omega) mode (zs[i]?.getD 0) HIN.out)
      generalize zs[i]?.getD 0 = z at hci HFD HIN
      go_upto_region 12 with (go_at_call 14; refine HFD.out.mono ?_; rintro e y ⟨q, ⟨cr, cc, cv, cm, ca⟩, s', pw, hf, rfl, hp, hk, hn⟩; (try dsimp only); have HT := hidIt (HJ.out.fed HIN.out (by have := HZ9.out; omega) hf hp hk hn); clear hf hp hk hn HFD)
      obtain ⟨hu, ⟨hs0, hs3⟩, hcz, hk0, hkz⟩ := HT.out
      obtain ⟨y2, hy2⟩ : ∃ y2, y2 = y.alloc (.cells #[.int .i64 cr, .int .i64 cc, .int .i64 cv, .int .i64 cm, .int .i64 ca] 23) := ⟨_, rfl⟩
      rw [← hy2]
      have hb2 : Below y.heap.size y y2 := by rw [hy2]; exact ext_alloc (Below.refl _ _) _
      have HC2 : Hid (y2.heap[y.heap.size]? = some (.cells #[.int .i64 cr, .int .i64 cc, .int .i64 cv, .int .i64 cm, .int .i64 ca] 23 (0, 0))) := by unfold Hid; rw [hy2]; exact heap_alloc_new _ _
      have HU := hidIt (hu.ext hb2)
      clear hy2 hb2 hu HT
      generalize y.heap.size = gy at *
      have HPE := hidIt (Pending_any HU.out.pm (by have := HU.out.ln; have := HZ9.out; omega))
      have HKL := hidIt HU.out.ln
      obtain rfl | rfl | rfl | rfl : s' = 0 ∨ s' = 1 ∨ s' = 2 ∨ s' = 3 := by omega
      · obtain ⟨rfl, rfl, rfl, rfl, rfl⟩ : cr = 0 ∧ cc = 0 ∧ cv = 0 ∧ cm = 0 ∧ ca = 0 := by have := hcz (by decide); injection this with a b c d e; exact ⟨a, b, c, d, e⟩
        obtain ⟨_, g0, g1, g2, g3, g4, gf⟩ := cells5 HC2.out
        have hkn : 0 < q.ks.length := List.length_pos_iff.2 (hk0 rfl)
        have hkm : ¬ q.ks.length = 0 := by omega
        have hkp : (q.ks.length : Int) > 0 := by omega
        have hkd : decide (0 < q.ks.length) = true := by simpa using hkn
        have hkq : ¬ q.ks = [] := hk0 rfl
        clear hcz hk0 hkz hs0 hs3
        go_wp2_with (go_at_call 15; refine HPE.out.mono ?_; rintro e yp ⟨vp, rfl, hop, hbp⟩; obtain ⟨pa, pc, rfl, _⟩ := hop.rds.len; (try dsimp only); have HBP := hidIt hbp; clear hop hbp)
        go_roundw
        case rel => exact ⟨i + 1, pw, q, 0, by omega, rfl, rfl, HU.out.ext HBP.out⟩
        case measure => simp [RowKit.intOf]; omega
      · skip
        obtain ⟨_, g0, g1, g2, g3, g4, gf⟩ := cells5 HC2.out
        have hkn := hkz (by decide)
        rw [hkn] at HPE
        clear hkn
        clear hcz hk0 hkz hs0 hs3
        go_wp2_with (go_at_call 15; refine HPE.out.mono ?_; rintro e yp ⟨vp, rfl, hop, hbp⟩; obtain ⟨pa, pc, rfl, _⟩ := hop.rds.len; (try dsimp only); have HBP := hidIt hbp; clear hop hbp)
        go_roundw
        case rel => exact ⟨i + 1, pw, q, 1, by omega, rfl, rfl, HU.out.ext HBP.out⟩
        case measure => simp [RowKit.intOf]; omega
      · obtain ⟨rfl, rfl, rfl, rfl, rfl⟩ : cr = 0 ∧ cc = 0 ∧ cv = 0 ∧ cm = 0 ∧ ca = 0 := by have := hcz (by decide); injection this with a b c d e; exact ⟨a, b, c, d, e⟩
        obtain ⟨_, g0, g1, g2, g3, g4, gf⟩ := cells5 HC2.out
        have hkn := hkz (by decide)
        rw [hkn] at HPE
        clear hkn
        clear hcz hk0 hkz hs0 hs3
        go_wp2_with (go_at_call 15; refine HPE.out.mono ?_; rintro e yp ⟨vp, rfl, hop, hbp⟩; obtain ⟨pa, pc, rfl, _⟩ := hop.rds.len; (try dsimp only); have HBP := hidIt hbp; clear hop hbp)
        go_roundw
        case rel => exact ⟨i + 1, pw, q, 2, by omega, rfl, rfl, HU.out.ext HBP.out⟩
        case measure => simp [RowKit.intOf]; omega
      · obtain ⟨rfl, rfl, rfl, rfl, rfl⟩ : cr = 0 ∧ cc = 0 ∧ cv = 0 ∧ cm = 0 ∧ ca = 0 := by have := hcz (by decide); injection this with a b c d e; exact ⟨a, b, c, d, e⟩
        obtain ⟨_, g0, g1, g2, g3, g4, gf⟩ := cells5 HC2.out
        have hkn := hkz (by decide)
        rw [hkn] at HPE
        clear hkn
        clear hcz hk0 hkz hs0 hs3
        go_wp2_with (go_at_call 15; refine HPE.out.mono ?_; rintro e yp ⟨vp, rfl, hop, hbp⟩; obtain ⟨pa, pc, rfl, _⟩ := hop.rds.len; (try dsimp only); have HBP := hidIt hbp; clear hop hbp)
        go_roundw
        case rel => exact ⟨i + 1, pw, q, 3, by omega, rfl, rfl, HU.out.ext HBP.out⟩
        case measure => simp [RowKit.intOf]; omega
    · have hiI : ¬ (i : Int) < (zs.length : Int) := by omega
      have HST := hidIt (HJ.out.st (by have := HZL.out; omega))
      have HB2W : Hid (w.heap.size ≤ b2) := HLB.out.2.2.2.2
      by_cases hs0 : s = 0
      · have HJR := hidIt (fun y => HJ.out.ujr (y := y) HST.out.1 HB2W.out)
        have HRS := hidIt (reset_any HJ.out.pm.1)
        subst hs0
        go_upto_region 19 with (go_at_call 16; refine HRS.out.mono ?_; rintro e y ⟨rfl, hp2, hk2⟩; (try dsimp only); have HV := hidIt (HJR.out y hp2 hk2); clear hp2 hk2)
        clear HJ HI HST HJR HRS
        have HPE := hidIt (Pending_any HV.out.pm (Nat.le_trans (Nat.le_of_eq (Nat.zero_mul 8)) (Nat.zero_le _)))
        rw [show (ps0 (isl mode)).ks = [] from rfl] at HPE
        go_upto_region 21 with (go_at_call 15; refine HPE.out.mono ?_; rintro e yp ⟨vp, rfl, hop, hbp⟩; obtain ⟨pa, pc, rfl, _⟩ := hop.rds.len; (try dsimp only); have HBP := hidIt hbp; clear hop hbp)
        have HV2 := hidIt (HV.out.ext HBP.out)
        have hm9 : ms.length ≤ 9223372036854775807 := by have := HML.out; omega
        clear HV HPE
        go_wp2_with fail
        go_loopw [15] (fun iv wr => ∃ (i : Nat) (pv qv : Value) (p q : Ps), i ≤ ms.length ∧ iv = .int .i64 i ∧ Hid (UJ w mode b1 b2 i wr pv qv p q)) (fun iv _ => ms.length - (RowKit.intOf iv).toNat)
        case atStart => exact ⟨0, _, _, _, _, Nat.zero_le _, rfl, HV2.out⟩
        case round =>
          obtain ⟨i, pv, qv, p, q, hil, rfl, HJ⟩ := hrel
          by_cases hi : i < ms.length
          · have hiI : (i : Int) < (ms.length : Int) := by omega
            have HMR := hidIt (fun (y : World) (hy : Below w.heap.size w y) => rd_at (HM.out.ext hy) hi)
            obtain ⟨pb, po, rfl, hci⟩ := HMR.out wr HJ.out.bl
            have HIN := hidIt (H6M.out (ms[i]?.getD 0) (by rw [List.getElem?_eq_getElem hi]; exact List.getElem_mem hi))
            have HFD := hidIt (feed_any HJ.out.pm HJ.out.po (by have := HJ.out.pl; have := HML.out; omega) mode (ms[i]?.getD 0) HIN.out)
            have HFQ := hidIt (fun (y : World) (h : PsM y b2 qv q) => feed_any h HJ.out.qo (by have := HJ.out.ql; have := HML.out; omega) mode (ms[i]?.getD 0) HIN.out)
            have HMC : Hid (∀ y, Below w.heap.size w y → y.cell? ⟨pb, po + i, none⟩ = some (.int .i64 (ms[i]?.getD 0))) := fun y hy => by
              obtain ⟨pb', po', e, h⟩ := HMR.out y hy
              cases e
              exact h
            generalize ms[i]?.getD 0 = z at hci HFD HFQ HIN HMC
            clear HMR
            go_upto_region 25 with (go_at_call 14; refine HFD.out.mono ?_; rintro e y ⟨r, ⟨cr, cc, cv, cm, ca⟩, s', pw, hf, rfl, hp, hk, hn⟩; (try dsimp only); have HT := hidIt (HJ.out.fed1 hk hn); have HF := hidIt (hf.ahd HJ.out.ah); have HR := hidIt (hf.ok HJ.out.po HIN.out (by have := HJ.out.pl; have := HML.out; omega)); have HP := hidIt hp; clear hf hp hk hn HFD)
            obtain ⟨y2, hy2⟩ : ∃ y2, y2 = y.alloc (.cells #[.int .i64 cr, .int .i64 cc, .int .i64 cv, .int .i64 cm, .int .i64 ca] 23) := ⟨_, rfl⟩
            rw [← hy2]
            have hb2 : Below y.heap.size y y2 := by rw [hy2]; exact ext_alloc (Below.refl _ _) _
            have HC2 : Hid (y2.heap[y.heap.size]? = some (.cells #[.int .i64 cr, .int .i64 cc, .int .i64 cv, .int .i64 cm, .int .i64 ca] 23 (0, 0))) := by unfold Hid; rw [hy2]; exact heap_alloc_new _ _
            have HP2 := hidIt (HP.out.ext hb2)
            have HQ2 := hidIt (HT.out.1.ext hb2)
            have HBY2 : Hid (Below w.heap.size w y2) := ext_trans HT.out.2.2.2 hb2
            have hc2 := HMC.out y2 HBY2.out
            have HFQ2 := hidIt (HFQ.out y2 HQ2.out)
            clear hy2 hb2 hci HFQ
            generalize y.heap.size = g2 at *
            go_upto_region 26 with (go_at_call 14; refine HFQ2.out.mono ?_; rintro e z3 ⟨r3, c3, s3, qw, hf3, rfl, hp3, hk3, hn3⟩; (try dsimp only); obtain ⟨rfl, rfl, rfl⟩ := HF.out.det hf3; have HV3 := hidIt (UJ.fed2 (mode := mode) (i := i) HJ.out.lt HP2.out HQ2.out HT.out.2.1 HT.out.2.2.1 HBY2.out hp3 hk3 hn3 HR.out.1 (by have := HR.out.2.2.1; have := HJ.out.pl; omega) rfl); have HC3 := hidIt ((hk3.same _ (Array.getElem?_eq_some_iff.1 HC2.out).1 (fun e => e.elim (fun e => by obtain ⟨cs, hcs⟩ := psr_typ HQ2.out.1; rw [← e, HC2.out] at hcs; cases hcs) (fun e => own_ne HQ2.out.2 HC2.out (by decide) e))).trans HC2.out); clear hf3 hp3 hk3 hn3)
            obtain ⟨z4, hz4⟩ : ∃ z4, z4 = z3.alloc (.cells #[.int .i64 cr, .int .i64 cc, .int .i64 cv, .int .i64 cm, .int .i64 ca] 23) := ⟨_, rfl⟩
            rw [← hz4]
            have hb4 : Below z3.heap.size z3 z4 := by rw [hz4]; exact ext_alloc (Below.refl _ _) _
            have HC4 : Hid (z4.heap[z3.heap.size]? = some (.cells #[.int .i64 cr, .int .i64 cc, .int .i64 cv, .int .i64 cm, .int .i64 ca] 23 (0, 0))) := by unfold Hid; rw [hz4]; exact heap_alloc_new _ _
            have HD4 := hidIt ((hb4.block _ (Array.getElem?_eq_some_iff.1 HC3.out).1).trans HC3.out)
            have HV4 := hidIt (HV3.out.ext hb4)
            clear hz4 hb4 hc2 HC2 HC3 HV3
            generalize z3.heap.size = g4 at *
            obtain ⟨_, e0, e1, e2, e3, e4, ef⟩ := cells5 HC4.out
            obtain ⟨_, f0, f1, f2, f3, f4, ff⟩ := cells5 HD4.out
            have HPA := hidIt (Pending_any HV4.out.pm (by have := HV4.out.pl; have := HML.out; omega))
            have HPB := hidIt (fun (y : World) (hy : Below z4.heap.size z4 y) => Pending_any (HV4.out.ext hy).qm (by have := HV4.out.pl; have := HML.out; omega))
            go_wp2_with (first | (go_at_call 15; refine HPA.out.mono ?_; clear HPA; rintro e ya ⟨va, rfl, hoa, hba⟩; obtain ⟨pa, pc, rfl, _⟩ := hoa.rds.len; (try dsimp only); have HOA := hidIt hoa; have HBA := hidIt hba; clear hoa hba) | (go_at_call 15; refine (HPB.out _ HBA.out).mono ?_; clear HPB; rintro e yb ⟨vb, rfl, hob, hbb⟩; obtain ⟨qa, qc, rfl, _⟩ := hob.rds.len; (try dsimp only); have HOB := hidIt hob; have HBB := hidIt hbb; clear hob hbb) | (go_at_call 17; refine (sameInts_any _ _ _ _ (HOA.out.ext HBB.out).rds.1 HOB.out.rds.1).mono ?_; rintro e yc ⟨rfl, hbc⟩; (try dsimp only); have HBC := hidIt hbc; clear hbc))
            go_roundw
            case rel => exact ⟨i + 1, _, _, _, _, by omega, rfl, HV4.out.ext (ext_trans (ext_trans HBA.out HBB.out) HBC.out)⟩
            case measure => simp [RowKit.intOf]; omega
          · have hiI : ¬ (i : Int) < (ms.length : Int) := by omega
            go_wp2_with fail
            go_ret
            exact ⟨rfl, HJ.out.bl⟩
      · have hsb : (s == 0) = false := by simpa using hs0
        have HV := hidIt (HJ.out.uj (HST.out.2 hs0) HB2W.out)
        go_upto_region 19 with fail
        clear HJ HI HST hs0
        have HPE := hidIt (Pending_any HV.out.pm (Nat.le_trans (Nat.le_of_eq (Nat.zero_mul 8)) (Nat.zero_le _)))
        rw [show (ps0 (isl mode)).ks = [] from rfl] at HPE
        go_upto_region 21 with (go_at_call 15; refine HPE.out.mono ?_; rintro e yp ⟨vp, rfl, hop, hbp⟩; obtain ⟨pa, pc, rfl, _⟩ := hop.rds.len; (try dsimp only); have HBP := hidIt hbp; clear hop hbp)
        have HV2 := hidIt (HV.out.ext HBP.out)
        have hm9 : ms.length ≤ 9223372036854775807 := by have := HML.out; omega
        clear HV HPE
        go_wp2_with fail
        go_loopw [15] (fun iv wr => ∃ (i : Nat) (pv qv : Value) (p q : Ps), i ≤ ms.length ∧ iv = .int .i64 i ∧ Hid (UJ w mode b1 b2 i wr pv qv p q)) (fun iv _ => ms.length - (RowKit.intOf iv).toNat)
        case atStart => exact ⟨0, _, _, _, _, Nat.zero_le _, rfl, HV2.out⟩
        case round =>
          obtain ⟨i, pv, qv, p, q, hil, rfl, HJ⟩ := hrel
          by_cases hi : i < ms.length
          · have hiI : (i : Int) < (ms.length : Int) := by omega
            have HMR := hidIt (fun (y : World) (hy : Below w.heap.size w y) => rd_at (HM.out.ext hy) hi)
            obtain ⟨pb, po, rfl, hci⟩ := HMR.out wr HJ.out.bl
            have HIN := hidIt (H6M.out (ms[i]?.getD 0) (by rw [List.getElem?_eq_getElem hi]; exact List.getElem_mem hi))
            have HFD := hidIt (feed_any HJ.out.pm HJ.out.po (by have := HJ.out.pl; have := HML.out; omega) mode (ms[i]?.getD 0) HIN.out)
            have HFQ := hidIt (fun (y : World) (h : PsM y b2 qv q) => feed_any h HJ.out.qo (by have := HJ.out.ql; have := HML.out; omega) mode (ms[i]?.getD 0) HIN.out)
            have HMC : Hid (∀ y, Below w.heap.size w y → y.cell? ⟨pb, po + i, none⟩ = some (.int .i64 (ms[i]?.getD 0))) := fun y hy => by
              obtain ⟨pb', po', e, h⟩ := HMR.out y hy
              cases e
              exact h
            generalize ms[i]?.getD 0 = z at hci HFD HFQ HIN HMC
            clear HMR
            go_upto_region 25 with (go_at_call 14; refine HFD.out.mono ?_; rintro e y ⟨r, ⟨cr, cc, cv, cm, ca⟩, s', pw, hf, rfl, hp, hk, hn⟩; (try dsimp only); have HT := hidIt (HJ.out.fed1 hk hn); have HF := hidIt (hf.ahd HJ.out.ah); have HR := hidIt (hf.ok HJ.out.po HIN.out (by have := HJ.out.pl; have := HML.out; omega)); have HP := hidIt hp; clear hf hp hk hn HFD)
            obtain ⟨y2, hy2⟩ : ∃ y2, y2 = y.alloc (.cells #[.int .i64 cr, .int .i64 cc, .int .i64 cv, .int .i64 cm, .int .i64 ca] 23) := ⟨_, rfl⟩
            rw [← hy2]
            have hb2 : Below y.heap.size y y2 := by rw [hy2]; exact ext_alloc (Below.refl _ _) _
            have HC2 : Hid (y2.heap[y.heap.size]? = some (.cells #[.int .i64 cr, .int .i64 cc, .int .i64 cv, .int .i64 cm, .int .i64 ca] 23 (0, 0))) := by unfold Hid; rw [hy2]; exact heap_alloc_new _ _
            have HP2 := hidIt (HP.out.ext hb2)
            have HQ2 := hidIt (HT.out.1.ext hb2)
            have HBY2 : Hid (Below w.heap.size w y2) := ext_trans HT.out.2.2.2 hb2
            have hc2 := HMC.out y2 HBY2.out
            have HFQ2 := hidIt (HFQ.out y2 HQ2.out)
            clear hy2 hb2 hci HFQ
            generalize y.heap.size = g2 at *
            go_upto_region 26 with (go_at_call 14; refine HFQ2.out.mono ?_; rintro e z3 ⟨r3, c3, s3, qw, hf3, rfl, hp3, hk3, hn3⟩; (try dsimp only); obtain ⟨rfl, rfl, rfl⟩ := HF.out.det hf3; have HV3 := hidIt (UJ.fed2 (mode := mode) (i := i) HJ.out.lt HP2.out HQ2.out HT.out.2.1 HT.out.2.2.1 HBY2.out hp3 hk3 hn3 HR.out.1 (by have := HR.out.2.2.1; have := HJ.out.pl; omega) rfl); have HC3 := hidIt ((hk3.same _ (Array.getElem?_eq_some_iff.1 HC2.out).1 (fun e => e.elim (fun e => by obtain ⟨cs, hcs⟩ := psr_typ HQ2.out.1; rw [← e, HC2.out] at hcs; cases hcs) (fun e => own_ne HQ2.out.2 HC2.out (by decide) e))).trans HC2.out); clear hf3 hp3 hk3 hn3)
            obtain ⟨z4, hz4⟩ : ∃ z4, z4 = z3.alloc (.cells #[.int .i64 cr, .int .i64 cc, .int .i64 cv, .int .i64 cm, .int .i64 ca] 23) := ⟨_, rfl⟩
            rw [← hz4]
            have hb4 : Below z3.heap.size z3 z4 := by rw [hz4]; exact ext_alloc (Below.refl _ _) _
            have HC4 : Hid (z4.heap[z3.heap.size]? = some (.cells #[.int .i64 cr, .int .i64 cc, .int .i64 cv, .int .i64 cm, .int .i64 ca] 23 (0, 0))) := by unfold Hid; rw [hz4]; exact heap_alloc_new _ _
            have HD4 := hidIt ((hb4.block _ (Array.getElem?_eq_some_iff.1 HC3.out).1).trans HC3.out)
            have HV4 := hidIt (HV3.out.ext hb4)
            clear hz4 hb4 hc2 HC2 HC3 HV3
            generalize z3.heap.size = g4 at *
            obtain ⟨_, e0, e1, e2, e3, e4, ef⟩ := cells5 HC4.out
            obtain ⟨_, f0, f1, f2, f3, f4, ff⟩ := cells5 HD4.out
            have HPA := hidIt (Pending_any HV4.out.pm (by have := HV4.out.pl; have := HML.out; omega))
            have HPB := hidIt (fun (y : World) (hy : Below z4.heap.size z4 y) => Pending_any (HV4.out.ext hy).qm (by have := HV4.out.pl; have := HML.out; omega))
            go_wp2_with (first | (go_at_call 15; refine HPA.out.mono ?_; clear HPA; rintro e ya ⟨va, rfl, hoa, hba⟩; obtain ⟨pa, pc, rfl, _⟩ := hoa.rds.len; (try dsimp only); have HOA := hidIt hoa; have HBA := hidIt hba; clear hoa hba) | (go_at_call 15; refine (HPB.out _ HBA.out).mono ?_; clear HPB; rintro e yb ⟨vb, rfl, hob, hbb⟩; obtain ⟨qa, qc, rfl, _⟩ := hob.rds.len; (try dsimp only); have HOB := hidIt hob; have HBB := hidIt hbb; clear hob hbb) | (go_at_call 17; refine (sameInts_any _ _ _ _ (HOA.out.ext HBB.out).rds.1 HOB.out.rds.1).mono ?_; rintro e yc ⟨rfl, hbc⟩; (try dsimp only); have HBC := hidIt hbc; clear hbc))
            go_roundw
            case rel => exact ⟨i + 1, _, _, _, _, by omega, rfl, HV4.out.ext (ext_trans (ext_trans HBA.out HBB.out) HBC.out)⟩
            case measure => simp [RowKit.intOf]; omega
          · have hiI : ¬ (i : Int) < (ms.length : Int) := by omega
            go_wp2_with fail
            go_ret
            exact ⟨rfl, HJ.out.bl⟩
end Go.Proofs.YtdbmgjkgfmdmjaaDoor
