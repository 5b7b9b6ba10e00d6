/- The document's take. -/
import Derived.Test.YtmldfjhfgaggpaaGRefO
namespace Go.Proofs.Ytmldfjhfgaggpaa
open Go.RowKit
variable {F : Nat → Prop}

/-- The document's way of taking y under the name n; ring: the ring is moved on first. -/
def tkD (s : Bs) (n : Int) (y : Rg) (ring : Bool) : Int × Bs := if 140000 < (ow s.m n y).t.length then (3, s) else (0, ⟨upd (if ring = true then rng s.m 49 else s.m) (sml n) (some (ow s.m n y)), sml n⟩)
/-- What a call on the document's bank answers and leaves. -/
def TkR (F : Nat → Prop) (w : World) (q : Nat) (x : Int × Bs) (e : Ending) (w' : World) : Prop := e = .returned (.int .i64 x.1) ∧ Rb F w' q x.2 ∧ Kq q w w'
theorem Rb.rds {w w' : World} {q : Nat} {v : Value} {t : List Int} (h : RdS w v t) (ho : t ≠ [] → Off v q) (k : Kq q w w') : RdS w' v t := by
  obtain ⟨⟨ao, cap, hv, h1, h2, h3⟩, hs⟩ := h
  refine ⟨⟨ao, cap, hv, h1, h2, fun hn => ?_⟩, hs⟩
  obtain ⟨b, off, rfl, hb, hc⟩ := h3 hn
  refine ⟨b, off, rfl, Nat.lt_of_lt_of_le hb k.size, fun i hi => ?_⟩
  have e := k.same b hb (ho hn b off t.length cap hv)
  rw [← hc i hi]
  unfold World.cell?
  simp only [e]
theorem ow_kd {F : Nat → Prop} {w : World} {q : Nat} {s : Bs} (h : Rb F w q s) {n : Int} (hn : 0 ≤ n ∧ n < 128) {y : Rg} (hy : y.k = 0 ∨ y.k = 1) : (ow s.m n y).k = 0 ∨ (ow s.m n y).k = 1 := by
  cases hg : grB n with
  | false => unfold ow; rw [hg]; exact hy
  | true =>
    have hr := sml_range hn
    obtain ⟨a, ha⟩ : ∃ a : Nat, (a : Int) = sml n := ⟨(sml n).toNat, by omega⟩
    obtain ⟨k, u, _, _, hh⟩ := h.at a (by omega)
    rw [ha] at hh
    obtain ⟨hk, t, _, _, _, how⟩ := ow_held hh hg y
    rw [how]
    unfold jnd
    split
    · exact hy
    · split
      · exact hk
      · dsimp only
        rcases hk with rfl | rfl <;> rcases hy with h | h <;> rw [h] <;> decide
set_option maxRecDepth 100000 in
set_option maxHeartbeats 4000000 in
theorem r_take_name (w : World) (q : Nat) (s : Bs) (n at' : Int) (j : Int) (u : Value) (y : List Int) (hun : unB n = false) (hat : at' ≠ 49) (hR : Rb F w q s) (hn : 0 ≤ n ∧ n < 128) (hu : RdS w u y) (ho : y ≠ [] → ∀ g, F g → Off u g) (hj : j = 0 ∨ j = 1) (hy : y.length * 8 ≤ 140737488355240) :
    Calls Try.prog 85 #[.pointer (some ⟨q, 0, none⟩), .int .i64 n, .agg #[.int .i64 j, u], .int .i64 at'] w (TkR F w q (tkD s n ⟨j, y⟩ false)) := by
  obtain ⟨ao, c, rfl, _⟩ := hu.len
  obtain ⟨w1, hw1, k0, hb1⟩ : ∃ w1, w1 = w.alloc (.cells #[.int .i64 j, .slice ao y.length c] 94) ∧ w1.heap[w.heap.size]? = some (.cells #[.int .i64 j, .slice ao y.length c] 94 (0, 0)) ∧ Below w.heap.size w w1 := ⟨_, rfl, heap_alloc_new _ _, ext_alloc (Below.refl _ _) _⟩
  obtain ⟨_, c0, c1, _⟩ := cells2 k0
  have UN := hidIt (r_unnamed_any n w1)
  rw [hun] at UN
  have OWN := hidIt (r_own_any w1 q s n j _ y (hR.ext hb1) hn (hu.ext hb1) ho hj hy)
  have HKD := hidIt (ow_kd hR hn (y := ⟨j, y⟩) hj)
  have HR := hidIt hR
  have HB1 := hidIt hb1
  have HRG := hidIt (sml_range hn)
  have HSM := hidIt (sml_range hn)
  obtain ⟨a, ha⟩ : ∃ a : Nat, (a : Int) = sml n := ⟨(sml n).toNat, by have := sml_range hn; omega⟩
  have HAL := hidIt (show a < 128 by have := sml_range hn; omega)
  have hal : (a : Int) < 128 := by have := sml_range hn; omega
  have HA := hidIt ha
  generalize hx : ow s.m n ⟨j, y⟩ = x at *
  rw [← ha] at OWN
  clear hR hn hu ho hj hy hb1 k0 hun ha HRG HSM
  have hatb : (at' == 49) = false := by simp [hat]
  clear hat
  go_enter Try.func85, Try.ntmps85
  go_upto_region 1 with fail
  rw [← hw1]
  clear hw1
  go_upto_region 4 with (first | (go_at_call 67; refine UN.out.mono ?_; rintro e y8 ⟨rfl, rfl⟩; (try dsimp only)) | (go_at_call 86; refine OWN.out.mono ?_; rintro e w2 ⟨v2, rfl, hr2, ho2, hb2⟩; obtain ⟨ra2, rc2, re2, _⟩ := hr2.len; subst re2; have R2 := hidIt hr2; have B2 := hidIt hb2; have O2 := hidIt ho2; clear hr2 hb2 ho2 c0 c1; (try dsimp only)))
  generalize hw3 : World.alloc _ _ = w3
  have HB3 : Hid (Below w2.heap.size w2 w3) := by unfold Hid; rw [← hw3]; exact ext_alloc (Below.refl _ _) _
  have HK3 : Hid (w3.heap[w2.heap.size]? = some (.cells #[.int .i64 x.k, .slice ra2 x.t.length rc2] 94 (0, 0))) := by unfold Hid; rw [← hw3]; exact heap_alloc_new _ _
  clear hw3
  have HB13 := hidIt (ext_trans (ext_trans HB1.out B2.out) HB3.out)
  have HQ := hidIt (show q < w2.heap.size by have := HR.out.lt; have := HB1.out.size; have := B2.out.size; omega)
  obtain ⟨_, e0, e1, _⟩ := cells2 HK3.out
  by_cases hbig : (x.t.length : Int) > 140000
  · have HT := hidIt (show tkD s n ⟨j, y⟩ false = (3, s) by unfold tkD; rw [hx, if_pos (by omega)])
    go_wp2_with fail
    go_ret
    exact ⟨by rw [HT.out]; rfl, by rw [HT.out]; exact HR.out.ext HB13.out, Kq.of HB13.out⟩
  have HT := hidIt (show tkD s n ⟨j, y⟩ false = (0, ⟨upd s.m (a : Int) (some x), (a : Int)⟩) by unfold tkD; rw [hx, if_neg (by omega), ← HA.out]; rfl)
  have HLE := hidIt (show x.t.length ≤ 140000 by omega)
  have fr := fun i => (HR.out.ext HB13.out).froz i
  have hlt : q < w3.heap.size := by have := HQ.out; have := HB3.out.size; omega
  have HPU := hidIt ((HR.out.ext HB13.out).put a HAL.out x.k (.slice ra2 x.t.length rc2) (some x) ⟨HKD.out, x.t, R2.out.ext HB3.out, O2.out, HLE.out, rfl, rfl⟩)
  obtain ⟨k7, u7, f0, f1, _⟩ := (HR.out.ext HB13.out).at a HAL.out
  cases h49b : ((a : Int) == 49)
  · go_upto_region 11 with fail
    go_region
    generalize hw4 : World.setCell (World.setCell _ _ _) _ _ = w4
    have HP : Hid (Rb F w4 q ⟨upd s.m (a : Int) (some x), s.p⟩ ∧ w3.grownBy w4 (some q)) := by unfold Hid; rw [← hw4]; exact HPU.out
    clear hw4 f0 f1 fr e0 e1 HPU
    have ft := HP.out.1.to
    have fr := fun i => HP.out.1.froz i
    go_wp2_with fail
    go_ret
    have hp := (HP.out.1.ext (Below.refl _ _).drew).point (a : Int)
    exact ⟨by rw [HT.out]; rfl, by rw [HT.out]; exact hp.1, (Kq.of HB13.out).trans ((Kq.set HP.out.2).trans ((Kq.of (Below.refl _ _).drew).trans (Kq.set hp.2)))⟩
  · go_upto_region 11 with fail
    go_region
    generalize hw4 : World.setCell (World.setCell _ _ _) _ _ = w4
    have HP : Hid (Rb F w4 q ⟨upd s.m (a : Int) (some x), s.p⟩ ∧ w3.grownBy w4 (some q)) := by unfold Hid; rw [← hw4]; exact HPU.out
    clear hw4 f0 f1 fr e0 e1 HPU
    have ft := HP.out.1.to
    have fr := fun i => HP.out.1.froz i
    go_wp2_with fail
    go_ret
    have hp := (HP.out.1.ext (Below.refl _ _).drew).point (a : Int)
    exact ⟨by rw [HT.out]; rfl, by rw [HT.out]; exact hp.1, (Kq.of HB13.out).trans ((Kq.set HP.out.2).trans ((Kq.of (Below.refl _ _).drew).trans (Kq.set hp.2)))⟩
set_option maxRecDepth 100000 in
set_option maxHeartbeats 4000000 in
theorem r_take_at (w : World) (q : Nat) (s : Bs) (n at' : Int) (j : Int) (u : Value) (y : List Int) (hun : unB n = true) (hat : at' ≠ 49) (hR : Rb F w q s) (hn : 0 ≤ at' ∧ at' < 128) (hu : RdS w u y) (ho : y ≠ [] → ∀ g, F g → Off u g) (hj : j = 0 ∨ j = 1) (hy : y.length * 8 ≤ 140737488355240) :
    Calls Try.prog 85 #[.pointer (some ⟨q, 0, none⟩), .int .i64 n, .agg #[.int .i64 j, u], .int .i64 at'] w (TkR F w q (tkD s at' ⟨j, y⟩ false)) := by
  obtain ⟨ao, c, rfl, _⟩ := hu.len
  obtain ⟨w1, hw1, k0, hb1⟩ : ∃ w1, w1 = w.alloc (.cells #[.int .i64 j, .slice ao y.length c] 94) ∧ w1.heap[w.heap.size]? = some (.cells #[.int .i64 j, .slice ao y.length c] 94 (0, 0)) ∧ Below w.heap.size w w1 := ⟨_, rfl, heap_alloc_new _ _, ext_alloc (Below.refl _ _) _⟩
  obtain ⟨_, c0, c1, _⟩ := cells2 k0
  have UN := hidIt (r_unnamed_any n w1)
  rw [hun] at UN
  have OWN := hidIt (r_own_any w1 q s at' j _ y (hR.ext hb1) hn (hu.ext hb1) ho hj hy)
  have HKD := hidIt (ow_kd hR hn (y := ⟨j, y⟩) hj)
  have HR := hidIt hR
  have HB1 := hidIt hb1
  have HRG := hidIt (sml_range hn)
  have HSM := hidIt (sml_range hn)
  obtain ⟨a, ha⟩ : ∃ a : Nat, (a : Int) = sml at' := ⟨(sml at').toNat, by have := sml_range hn; omega⟩
  have HAL := hidIt (show a < 128 by have := sml_range hn; omega)
  have hal : (a : Int) < 128 := by have := sml_range hn; omega
  have HA := hidIt ha
  generalize hx : ow s.m at' ⟨j, y⟩ = x at *
  rw [← ha] at OWN
  clear hR hn hu ho hj hy hb1 k0 hun ha HRG HSM
  have hatb : (at' == 49) = false := by simp [hat]
  clear hat
  go_enter Try.func85, Try.ntmps85
  go_upto_region 1 with fail
  rw [← hw1]
  clear hw1
  go_upto_region 4 with (first | (go_at_call 67; refine UN.out.mono ?_; rintro e y8 ⟨rfl, rfl⟩; (try dsimp only)) | (go_at_call 86; refine OWN.out.mono ?_; rintro e w2 ⟨v2, rfl, hr2, ho2, hb2⟩; obtain ⟨ra2, rc2, re2, _⟩ := hr2.len; subst re2; have R2 := hidIt hr2; have B2 := hidIt hb2; have O2 := hidIt ho2; clear hr2 hb2 ho2 c0 c1; (try dsimp only)))
  generalize hw3 : World.alloc _ _ = w3
  have HB3 : Hid (Below w2.heap.size w2 w3) := by unfold Hid; rw [← hw3]; exact ext_alloc (Below.refl _ _) _
  have HK3 : Hid (w3.heap[w2.heap.size]? = some (.cells #[.int .i64 x.k, .slice ra2 x.t.length rc2] 94 (0, 0))) := by unfold Hid; rw [← hw3]; exact heap_alloc_new _ _
  clear hw3
  have HB13 := hidIt (ext_trans (ext_trans HB1.out B2.out) HB3.out)
  have HQ := hidIt (show q < w2.heap.size by have := HR.out.lt; have := HB1.out.size; have := B2.out.size; omega)
  obtain ⟨_, e0, e1, _⟩ := cells2 HK3.out
  by_cases hbig : (x.t.length : Int) > 140000
  · have HT := hidIt (show tkD s at' ⟨j, y⟩ false = (3, s) by unfold tkD; rw [hx, if_pos (by omega)])
    go_wp2_with fail
    go_ret
    exact ⟨by rw [HT.out]; rfl, by rw [HT.out]; exact HR.out.ext HB13.out, Kq.of HB13.out⟩
  have HT := hidIt (show tkD s at' ⟨j, y⟩ false = (0, ⟨upd s.m (a : Int) (some x), (a : Int)⟩) by unfold tkD; rw [hx, if_neg (by omega), ← HA.out]; rfl)
  have HLE := hidIt (show x.t.length ≤ 140000 by omega)
  have fr := fun i => (HR.out.ext HB13.out).froz i
  have hlt : q < w3.heap.size := by have := HQ.out; have := HB3.out.size; omega
  have HPU := hidIt ((HR.out.ext HB13.out).put a HAL.out x.k (.slice ra2 x.t.length rc2) (some x) ⟨HKD.out, x.t, R2.out.ext HB3.out, O2.out, HLE.out, rfl, rfl⟩)
  obtain ⟨k7, u7, f0, f1, _⟩ := (HR.out.ext HB13.out).at a HAL.out
  cases h49b : ((a : Int) == 49)
  · go_upto_region 11 with fail
    go_region
    generalize hw4 : World.setCell (World.setCell _ _ _) _ _ = w4
    have HP : Hid (Rb F w4 q ⟨upd s.m (a : Int) (some x), s.p⟩ ∧ w3.grownBy w4 (some q)) := by unfold Hid; rw [← hw4]; exact HPU.out
    clear hw4 f0 f1 fr e0 e1 HPU
    have ft := HP.out.1.to
    have fr := fun i => HP.out.1.froz i
    go_wp2_with fail
    go_ret
    have hp := (HP.out.1.ext (Below.refl _ _).drew).point (a : Int)
    exact ⟨by rw [HT.out]; rfl, by rw [HT.out]; exact hp.1, (Kq.of HB13.out).trans ((Kq.set HP.out.2).trans ((Kq.of (Below.refl _ _).drew).trans (Kq.set hp.2)))⟩
  · go_upto_region 11 with fail
    go_region
    generalize hw4 : World.setCell (World.setCell _ _ _) _ _ = w4
    have HP : Hid (Rb F w4 q ⟨upd s.m (a : Int) (some x), s.p⟩ ∧ w3.grownBy w4 (some q)) := by unfold Hid; rw [← hw4]; exact HPU.out
    clear hw4 f0 f1 fr e0 e1 HPU
    have ft := HP.out.1.to
    have fr := fun i => HP.out.1.froz i
    go_wp2_with fail
    go_ret
    have hp := (HP.out.1.ext (Below.refl _ _).drew).point (a : Int)
    exact ⟨by rw [HT.out]; rfl, by rw [HT.out]; exact hp.1, (Kq.of HB13.out).trans ((Kq.set HP.out.2).trans ((Kq.of (Below.refl _ _).drew).trans (Kq.set hp.2)))⟩
set_option maxRecDepth 100000 in
set_option maxHeartbeats 4000000 in
theorem r_take_ring (w : World) (q : Nat) (s : Bs) (n at' : Int) (j : Int) (u : Value) (y : List Int) (hun : unB n = true) (hat : at' = 49) (hR : Rb F w q s) (hn : 0 ≤ at' ∧ at' < 128) (hu : RdS w u y) (ho : y ≠ [] → ∀ g, F g → Off u g) (hj : j = 0 ∨ j = 1) (hy : y.length * 8 ≤ 140737488355240) :
    Calls Try.prog 85 #[.pointer (some ⟨q, 0, none⟩), .int .i64 n, .agg #[.int .i64 j, u], .int .i64 at'] w (TkR F w q (tkD s at' ⟨j, y⟩ true)) := by
  obtain ⟨ao, c, rfl, _⟩ := hu.len
  obtain ⟨w1, hw1, k0, hb1⟩ : ∃ w1, w1 = w.alloc (.cells #[.int .i64 j, .slice ao y.length c] 94) ∧ w1.heap[w.heap.size]? = some (.cells #[.int .i64 j, .slice ao y.length c] 94 (0, 0)) ∧ Below w.heap.size w w1 := ⟨_, rfl, heap_alloc_new _ _, ext_alloc (Below.refl _ _) _⟩
  obtain ⟨_, c0, c1, _⟩ := cells2 k0
  have UN := hidIt (r_unnamed_any n w1)
  rw [hun] at UN
  have OWN := hidIt (r_own_any w1 q s at' j _ y (hR.ext hb1) hn (hu.ext hb1) ho hj hy)
  have HKD := hidIt (ow_kd hR hn (y := ⟨j, y⟩) hj)
  have HR := hidIt hR
  have HB1 := hidIt hb1
  have HRG := hidIt (sml_range hn)
  have HSM := hidIt (sml_range hn)
  obtain ⟨a, ha⟩ : ∃ a : Nat, (a : Int) = sml at' := ⟨(sml at').toNat, by have := sml_range hn; omega⟩
  have HAL := hidIt (show a < 128 by have := sml_range hn; omega)
  have hal : (a : Int) < 128 := by have := sml_range hn; omega
  have HA := hidIt ha
  subst hat
  have ha49 : a = 49 := by
    have : sml 49 = 49 := by decide
    omega
  generalize hx : ow s.m 49 ⟨j, y⟩ = x at *
  rw [← ha] at OWN
  clear hR hn hu ho hj hy hb1 k0 hun ha HRG HSM
  subst ha49
  go_enter Try.func85, Try.ntmps85
  go_upto_region 1 with fail
  rw [← hw1]
  clear hw1
  go_upto_region 4 with (first | (go_at_call 67; refine UN.out.mono ?_; rintro e y8 ⟨rfl, rfl⟩; (try dsimp only)) | (go_at_call 86; refine OWN.out.mono ?_; rintro e w2 ⟨v2, rfl, hr2, ho2, hb2⟩; obtain ⟨ra2, rc2, re2, _⟩ := hr2.len; subst re2; have R2 := hidIt hr2; have B2 := hidIt hb2; have O2 := hidIt ho2; clear hr2 hb2 ho2 c0 c1; (try dsimp only)))
  generalize hw3 : World.alloc _ _ = w3
  have HB3 : Hid (Below w2.heap.size w2 w3) := by unfold Hid; rw [← hw3]; exact ext_alloc (Below.refl _ _) _
  have HK3 : Hid (w3.heap[w2.heap.size]? = some (.cells #[.int .i64 x.k, .slice ra2 x.t.length rc2] 94 (0, 0))) := by unfold Hid; rw [← hw3]; exact heap_alloc_new _ _
  clear hw3
  have HB13 := hidIt (ext_trans (ext_trans HB1.out B2.out) HB3.out)
  have HQ := hidIt (show q < w2.heap.size by have := HR.out.lt; have := HB1.out.size; have := B2.out.size; omega)
  obtain ⟨_, e0, e1, _⟩ := cells2 HK3.out
  by_cases hbig : (x.t.length : Int) > 140000
  · have HT := hidIt (show tkD s 49 ⟨j, y⟩ true = (3, s) by unfold tkD; rw [hx, if_pos (by omega)])
    go_wp2_with fail
    go_ret
    exact ⟨by rw [HT.out]; rfl, by rw [HT.out]; exact HR.out.ext HB13.out, Kq.of HB13.out⟩
  have HT := hidIt (show tkD s 49 ⟨j, y⟩ true = (0, ⟨upd (rng s.m 49) 49 (some x), 49⟩) by unfold tkD; rw [hx, if_neg (by omega)]; rfl)
  have HLE := hidIt (show x.t.length ≤ 140000 by omega)
  have HR3 := hidIt (HR.out.ext HB13.out)
  go_wp2_with fail
  go_loopw [11] (fun i wr => ∃ c : Nat, 49 ≤ c ∧ c ≤ 57 ∧ i = .int .i32 (c : Int) ∧ Rb F wr q ⟨rng s.m (c : Int), s.p⟩ ∧ Kq q w3 wr) (fun i _ => ((RowKit.intOf i) - 49).toNat)
  case atStart => exact ⟨57, by omega, by omega, rfl, by rw [show ((57 : Nat) : Int) = 57 from rfl, rng_top]; exact HR3.out, Kps.refl _ _⟩
  case round =>
    obtain ⟨c, hc1, hc2, rfl, hbw, hkw⟩ := hrel
    have HBW := hidIt hbw
    have HKW := hidIt hkw
    clear hbw hkw
    by_cases hk0 : (c : Int) > 49
    · obtain ⟨e, he⟩ : ∃ e : Nat, e + 1 = c := ⟨c - 1, by omega⟩
      have hwr : IntKind.i32.wrap ((c : Int) - 1) = (e : Int) := by
        rw [IntKind.wrap_i32]; omega
      have hcl : (c : Int) < 128 := by omega
      have hel : (e : Int) < 128 := by omega
      have fr := fun i => HBW.out.froz i
      obtain ⟨k8, u8, g0, g1, _⟩ := HBW.out.at c (by omega)
      obtain ⟨k7, u7, f0, f1, hh⟩ := HBW.out.at e (by omega)
      obtain ⟨a7, n7, c7, rfl⟩ := hh.form
      have HPU := hidIt (HBW.out.put c (by omega) k7 _ _ hh)
      have HST := hidIt (show upd (rng s.m (c : Int)) (c : Int) (rng s.m (c : Int) (e : Int)) = rng s.m (e : Int) by rw [show (e : Int) = (c : Int) - 1 by omega]; exact rng_step _ _ (by omega))
      have HE := hidIt he
      clear hh he
      go_upto_region 10 with fail
      go_region
      generalize hw4 : World.setCell (World.setCell _ _ _) _ _ = w4
      have HP : Hid (Rb F w4 q ⟨rng s.m (e : Int), s.p⟩ ∧ wr.grownBy w4 (some q)) := by unfold Hid; rw [← hw4]; have := HPU.out; dsimp only at this; rw [HST.out] at this; exact this
      clear hw4 f0 f1 g0 g1 fr HPU
      go_wp2_with fail
      go_roundw
      case rel => exact ⟨e, by have := HE.out; omega, by have := HE.out; omega, rfl, HP.out.1.ext (Below.refl _ _).drew, HKW.out.trans ((Kq.set HP.out.2).trans (Kq.of (Below.refl _ _).drew))⟩
      case measure => have := HE.out; simp [RowKit.intOf]; omega
    · have hcz : c = 49 := by omega
      subst hcz
      have HPU := hidIt (HBW.out.put 49 (by omega) x.k (.slice ra2 x.t.length rc2) (some x) ⟨HKD.out, x.t, Rb.rds (R2.out.ext HB3.out) (fun hn => O2.out hn q HR.out.fq) HKW.out, O2.out, HLE.out, rfl, rfl⟩)
      have hblk := (HKW.out.same w2.heap.size (Array.getElem?_eq_some_iff.1 HK3.out).1 (by have := HQ.out; omega)).trans HK3.out
      obtain ⟨_, e0, e1, _⟩ := cells2 hblk
      obtain ⟨k7, u7, f0, f1, _⟩ := HBW.out.at 49 (by omega)
      have fr := fun i => HBW.out.froz i
      clear hblk
      go_upto_region 11 with fail
      go_region
      generalize hw4 : World.setCell (World.setCell _ _ _) _ _ = w4
      have HP : Hid (Rb F w4 q ⟨upd (rng s.m 49) 49 (some x), s.p⟩ ∧ wr.grownBy w4 (some q)) := by unfold Hid; rw [← hw4]; exact HPU.out
      clear hw4 f0 f1 fr e0 e1 HPU
      have ft := HP.out.1.to
      have fr := fun i => HP.out.1.froz i
      go_wp2_with fail
      go_ret
      have hp := (HP.out.1.ext (Below.refl _ _).drew).point 49
      exact ⟨by rw [HT.out]; rfl, by rw [HT.out]; exact hp.1, (Kq.of HB13.out).trans (HKW.out.trans ((Kq.set HP.out.2).trans ((Kq.of (Below.refl _ _).drew).trans (Kq.set hp.2))))⟩
end Go.Proofs.Ytmldfjhfgaggpaa
