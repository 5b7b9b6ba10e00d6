import Derived.Test.YtmldfjhfgaggpaaJ10
import Derived.Shelf.Sort.Plain
import Derived.Test.YtmldfjhfgaggpaaProg
/- The document's take. -/
namespace Go.Proofs.Ytmldfjhfgaggpaa
open Go.RowKit
variable {F : Nat → Prop}

/-- The document's way of taking y under the name n; ring: the ring is moved on first. -/
def tkD (s : Bs) (n : Int) (y : Rg) (ring : Bool) : Int × Bs := if 140000 < (ow s.m n y).t.length then (3, s) else (0, ⟨upd (if ring = true then rng s.m 49 else s.m) (sml n) (some (ow s.m n y)), sml n⟩)
/-- What a call on the document's bank answers and leaves. -/
def TkR (F : Nat → Prop) (w : World) (q : Nat) (x : Int × Bs) (e : Ending) (w' : World) : Prop := e = .returned (.int .i64 x.1) ∧ Rb F w' q x.2 ∧ Kq q w w'
theorem Rb.rds {w w' : World} {q : Nat} {v : Value} {t : List Int} (h : RdS w v t) (ho : t ≠ [] → Off v q) (k : Kq q w w') : RdS w' v t := by
  obtain ⟨⟨ao, cap, hv, h1, h2, h3⟩, hs⟩ := h
  refine ⟨⟨ao, cap, hv, h1, h2, fun hn => ?_⟩, hs⟩
  obtain ⟨b, off, rfl, hb, hc⟩ := h3 hn
  refine ⟨b, off, rfl, Nat.lt_of_lt_of_le hb k.size, fun i hi => ?_⟩
  have e := k.same b hb (ho hn b off t.length cap hv)
  rw [← hc i hi]
  unfold World.cell?
  simp only [e]
theorem ow_kd {F : Nat → Prop} {w : World} {q : Nat} {s : Bs} (h : Rb F w q s) {n : Int} (hn : 0 ≤ n ∧ n < 128) {y : Rg} (hy : y.k = 0 ∨ y.k = 1) : (ow s.m n y).k = 0 ∨ (ow s.m n y).k = 1 := by
  cases hg : grB n with
  | false => unfold ow; rw [hg]; exact hy
  | true =>
    have hr := sml_range hn
    obtain ⟨a, ha⟩ : ∃ a : Nat, (a : Int) = sml n := ⟨(sml n).toNat, by omega⟩
    obtain ⟨k, u, _, _, hh⟩ := h.at a (by omega)
    rw [ha] at hh
    obtain ⟨hk, t, _, _, _, how⟩ := ow_held hh hg y
    rw [how]
    unfold jnd
    split
    · exact hy
    · split
      · exact hk
      · dsimp only
        rcases hk with rfl | rfl <;> rcases hy with h | h <;> rw [h] <;> decide
set_option maxRecDepth 100000 in
set_option maxHeartbeats 4000000 in
theorem r_take_name (w : World) (q : Nat) (s : Bs) (n at' : Int) (j : Int) (u : Value) (y : List Int) (hun : unB n = false) (hat : at' ≠ 49) (hR : Rb F w q s) (hn : 0 ≤ n ∧ n < 128) (hu : RdS w u y) (ho : y ≠ [] → ∀ g, F g → Off u g) (hj : j = 0 ∨ j = 1) (hy : y.length * 8 ≤ 140737488355240) :
    Calls Try.prog 85 #[.pointer (some ⟨q, 0, none⟩), .int .i64 n, .agg #[.int .i64 j, u], .int .i64 at'] w (TkR F w q (tkD s n ⟨j, y⟩ false)) := by
  obtain ⟨ao, c, rfl, _⟩ := hu.len
  obtain ⟨w1, hw1, k0, hb1⟩ : ∃ w1, w1 = w.alloc (.cells #[.int .i64 j, .slice ao y.length c] 94) ∧ w1.heap[w.heap.size]? = some (.cells #[.int .i64 j, .slice ao y.length c] 94 (0, 0)) ∧ Below w.heap.size w w1 := ⟨_, rfl, heap_alloc_new _ _, ext_alloc (Below.refl _ _) _⟩
  obtain ⟨_, c0, c1, _⟩ := cells2 k0
  have UN := hidIt (r_unnamed_any n w1)
  rw [hun] at UN
  have OWN := hidIt (r_own_any w1 q s n j _ y (hR.ext hb1) hn (hu.ext hb1) ho hj hy)
  have HKD := hidIt (ow_kd hR hn (y := ⟨j, y⟩) hj)
  have HR := hidIt hR
  have HB1 := hidIt hb1
  have HRG := hidIt (sml_range hn)
  have HSM := hidIt (sml_range hn)
  obtain ⟨a, ha⟩ : ∃ a : Nat, (a : Int) = sml n := ⟨(sml n).toNat, by have := sml_range hn; omega⟩
  have HAL := hidIt (show a < 128 by have := sml_range hn; omega)
  have hal : (a : Int) < 128 := by have := sml_range hn; omega
  have HA := hidIt ha
  generalize hx : ow s.m n ⟨j, y⟩ = x at *
  rw [← ha] at OWN
  clear hR hn hu ho hj hy hb1 k0 hun ha HRG HSM
  have hatb : (at' == 49) = false := by simp [hat]
  clear hat
  go_enter Try.func85, Try.ntmps85
  go_upto_region 1 with fail
  rw [← hw1]
  clear hw1
  go_upto_region 4 with (first | (go_at_call 67; refine UN.out.mono ?_; rintro e y8 ⟨rfl, rfl⟩; (try dsimp only)) | (go_at_call 86; refine OWN.out.mono ?_; rintro e w2 ⟨v2, rfl, hr2, ho2, hb2⟩; obtain ⟨ra2, rc2, re2, _⟩ := hr2.len; subst re2; have R2 := hidIt hr2; have B2 := hidIt hb2; have O2 := hidIt ho2; clear hr2 hb2 ho2 c0 c1; (try dsimp only)))
  generalize hw3 : World.alloc _ _ = w3
  have HB3 : Hid (Below w2.heap.size w2 w3) := by unfold Hid; rw [← hw3]; exact ext_alloc (Below.refl _ _) _
  have HK3 : Hid (w3.heap[w2.heap.size]? = some (.cells #[.int .i64 x.k, .slice ra2 x.t.length rc2] 94 (0, 0))) := by unfold Hid; rw [← hw3]; exact heap_alloc_new _ _
  clear hw3
  have HB13 := hidIt (ext_trans (ext_trans HB1.out B2.out) HB3.out)
  have HQ := hidIt (show q < w2.heap.size by have := HR.out.lt; have := HB1.out.size; have := B2.out.size; omega)
  obtain ⟨_, e0, e1, _⟩ := cells2 HK3.out
  by_cases hbig : (x.t.length : Int) > 140000
  · have HT := hidIt (show tkD s n ⟨j, y⟩ false = (3, s) by unfold tkD; rw [hx, if_pos (by omega)])
    go_wp2_with fail
    go_ret
    exact ⟨by rw [HT.out]; rfl, by rw [HT.out]; exact HR.out.ext HB13.out, Kq.of HB13.out⟩
  have HT := hidIt (show tkD s n ⟨j, y⟩ false = (0, ⟨upd s.m (a : Int) (some x), (a : Int)⟩) by unfold tkD; rw [hx, if_neg (by omega), ← HA.out]; rfl)
  have HLE := hidIt (show x.t.length ≤ 140000 by omega)
  have fr := fun i => (HR.out.ext HB13.out).froz i
  have hlt : q < w3.heap.size := by have := HQ.out; have := HB3.out.size; omega
  have HPU := hidIt ((HR.out.ext HB13.out).put a HAL.out x.k (.slice ra2 x.t.length rc2) (some x) ⟨HKD.out, x.t, R2.out.ext HB3.out, O2.out, HLE.out, rfl, rfl⟩)
  obtain ⟨k7, u7, f0, f1, _⟩ := (HR.out.ext HB13.out).at a HAL.out
  cases h49b : ((a : Int) == 49)
  · go_upto_region 11 with fail
    go_region
    generalize hw4 : World.setCell (World.setCell _ _ _) _ _ = w4
    have HP : Hid (Rb F w4 q ⟨upd s.m (a : Int) (some x), s.p⟩ ∧ w3.grownBy w4 (some q)) := by unfold Hid; rw [← hw4]; exact HPU.out
    clear hw4 f0 f1 fr e0 e1 HPU
    have ft := HP.out.1.to
    have fr := fun i => HP.out.1.froz i
    go_wp2_with fail
    go_ret
    have hp := (HP.out.1.ext (Below.refl _ _).drew).point (a : Int)
    exact ⟨by rw [HT.out]; rfl, by rw [HT.out]; exact hp.1, (Kq.of HB13.out).trans ((Kq.set HP.out.2).trans ((Kq.of (Below.refl _ _).drew).trans (Kq.set hp.2)))⟩
  · go_upto_region 11 with fail
    go_region
    generalize hw4 : World.setCell (World.setCell _ _ _) _ _ = w4
    have HP : Hid (Rb F w4 q ⟨upd s.m (a : Int) (some x), s.p⟩ ∧ w3.grownBy w4 (some q)) := by unfold Hid; rw [← hw4]; exact HPU.out
    clear hw4 f0 f1 fr e0 e1 HPU
    have ft := HP.out.1.to
    have fr := fun i => HP.out.1.froz i
    go_wp2_with fail
    go_ret
    have hp := (HP.out.1.ext (Below.refl _ _).drew).point (a : Int)
    exact ⟨by rw [HT.out]; rfl, by rw [HT.out]; exact hp.1, (Kq.of HB13.out).trans ((Kq.set HP.out.2).trans ((Kq.of (Below.refl _ _).drew).trans (Kq.set hp.2)))⟩
set_option maxRecDepth 100000 in
set_option maxHeartbeats 4000000 in
theorem r_take_at (w : World) (q : Nat) (s : Bs) (n at' : Int) (j : Int) (u : Value) (y : List Int) (hun : unB n = true) (hat : at' ≠ 49) (hR : Rb F w q s) (hn : 0 ≤ at' ∧ at' < 128) (hu : RdS w u y) (ho : y ≠ [] → ∀ g, F g → Off u g) (hj : j = 0 ∨ j = 1) (hy : y.length * 8 ≤ 140737488355240) :
    Calls Try.prog 85 #[.pointer (some ⟨q, 0, none⟩), .int .i64 n, .agg #[.int .i64 j, u], .int .i64 at'] w (TkR F w q (tkD s at' ⟨j, y⟩ false)) := by
  obtain ⟨ao, c, rfl, _⟩ := hu.len
  obtain ⟨w1, hw1, k0, hb1⟩ : ∃ w1, w1 = w.alloc (.cells #[.int .i64 j, .slice ao y.length c] 94) ∧ w1.heap[w.heap.size]? = some (.cells #[.int .i64 j, .slice ao y.length c] 94 (0, 0)) ∧ Below w.heap.size w w1 := ⟨_, rfl, heap_alloc_new _ _, ext_alloc (Below.refl _ _) _⟩
  obtain ⟨_, c0, c1, _⟩ := cells2 k0
  have UN := hidIt (r_unnamed_any n w1)
  rw [hun] at UN
  have OWN := hidIt (r_own_any w1 q s at' j _ y (hR.ext hb1) hn (hu.ext hb1) ho hj hy)
  have HKD := hidIt (ow_kd hR hn (y := ⟨j, y⟩) hj)
  have HR := hidIt hR
  have HB1 := hidIt hb1
  have HRG := hidIt (sml_range hn)
  have HSM := hidIt (sml_range hn)
  obtain ⟨a, ha⟩ : ∃ a : Nat, (a : Int) = sml at' := ⟨(sml at').toNat, by have := sml_range hn; omega⟩
  have HAL := hidIt (show a < 128 by have := sml_range hn; omega)
  have hal : (a : Int) < 128 := by have := sml_range hn; omega
  have HA := hidIt ha
  generalize hx : ow s.m at' ⟨j, y⟩ = x at *
  rw [← ha] at OWN
  clear hR hn hu ho hj hy hb1 k0 hun ha HRG HSM
  have hatb : (at' == 49) = false := by simp [hat]
  clear hat
  go_enter Try.func85, Try.ntmps85
  go_upto_region 1 with fail
  rw [← hw1]
  clear hw1
  go_upto_region 4 with (first | (go_at_call 67; refine UN.out.mono ?_; rintro e y8 ⟨rfl, rfl⟩; (try dsimp only)) | (go_at_call 86; refine OWN.out.mono ?_; rintro e w2 ⟨v2, rfl, hr2, ho2, hb2⟩; obtain ⟨ra2, rc2, re2, _⟩ := hr2.len; subst re2; have R2 := hidIt hr2; have B2 := hidIt hb2; have O2 := hidIt ho2; clear hr2 hb2 ho2 c0 c1; (try dsimp only)))
  generalize hw3 : World.alloc _ _ = w3
  have HB3 : Hid (Below w2.heap.size w2 w3) := by unfold Hid; rw [← hw3]; exact ext_alloc (Below.refl _ _) _
  have HK3 : Hid (w3.heap[w2.heap.size]? = some (.cells #[.int .i64 x.k, .slice ra2 x.t.length rc2] 94 (0, 0))) := by unfold Hid; rw [← hw3]; exact heap_alloc_new _ _
  clear hw3
  have HB13 := hidIt (ext_trans (ext_trans HB1.out B2.out) HB3.out)
  have HQ := hidIt (show q < w2.heap.size by have := HR.out.lt; have := HB1.out.size; have := B2.out.size; omega)
  obtain ⟨_, e0, e1, _⟩ := cells2 HK3.out
  by_cases hbig : (x.t.length : Int) > 140000
  · have HT := hidIt (show tkD s at' ⟨j, y⟩ false = (3, s) by unfold tkD; rw [hx, if_pos (by omega)])
    go_wp2_with fail
    go_ret
    exact ⟨by rw [HT.out]; rfl, by rw [HT.out]; exact HR.out.ext HB13.out, Kq.of HB13.out⟩
  have HT := hidIt (show tkD s at' ⟨j, y⟩ false = (0, ⟨upd s.m (a : Int) (some x), (a : Int)⟩) by unfold tkD; rw [hx, if_neg (by omega), ← HA.out]; rfl)
  have HLE := hidIt (show x.t.length ≤ 140000 by omega)
  have fr := fun i => (HR.out.ext HB13.out).froz i
  have hlt : q < w3.heap.size := by have := HQ.out; have := HB3.out.size; omega
  have HPU := hidIt ((HR.out.ext HB13.out).put a HAL.out x.k (.slice ra2 x.t.length rc2) (some x) ⟨HKD.out, x.t, R2.out.ext HB3.out, O2.out, HLE.out, rfl, rfl⟩)
  obtain ⟨k7, u7, f0, f1, _⟩ := (HR.out.ext HB13.out).at a HAL.out
  cases h49b : ((a : Int) == 49)
  · go_upto_region 11 with fail
    go_region
    generalize hw4 : World.setCell (World.setCell _ _ _) _ _ = w4
    have HP : Hid (Rb F w4 q ⟨upd s.m (a : Int) (some x), s.p⟩ ∧ w3.grownBy w4 (some q)) := by unfold Hid; rw [← hw4]; exact HPU.out
    clear hw4 f0 f1 fr e0 e1 HPU
    have ft := HP.out.1.to
    have fr := fun i => HP.out.1.froz i
    go_wp2_with fail
    go_ret
    have hp := (HP.out.1.ext (Below.refl _ _).drew).point (a : Int)
    exact ⟨by rw [HT.out]; rfl, by rw [HT.out]; exact hp.1, (Kq.of HB13.out).trans ((Kq.set HP.out.2).trans ((Kq.of (Below.refl _ _).drew).trans (Kq.set hp.2)))⟩
  · go_upto_region 11 with fail
    go_region
    generalize hw4 : World.setCell (World.setCell _ _ _) _ _ = w4
    have HP : Hid (Rb F w4 q ⟨upd s.m (a : Int) (some x), s.p⟩ ∧ w3.grownBy w4 (some q)) := by unfold Hid; rw [← hw4]; exact HPU.out
    clear hw4 f0 f1 fr e0 e1 HPU
    have ft := HP.out.1.to
    have fr := fun i => HP.out.1.froz i
    go_wp2_with fail
    go_ret
    have hp := (HP.out.1.ext (Below.refl _ _).drew).point (a : Int)
    exact ⟨by rw [HT.out]; rfl, by rw [HT.out]; exact hp.1, (Kq.of HB13.out).trans ((Kq.set HP.out.2).trans ((Kq.of (Below.refl _ _).drew).trans (Kq.set hp.2)))⟩
set_option maxRecDepth 100000 in
set_option maxHeartbeats 4000000 in
theorem r_take_ring (w : World) (q : Nat) (s : Bs) (n at' : Int) (j : Int) (u : Value) (y : List Int) (hun : unB n = true) (hat : at' = 49) (hR : Rb F w q s) (hn : 0 ≤ at' ∧ at' < 128) (hu : RdS w u y) (ho : y ≠ [] → ∀ g, F g → Off u g) (hj : j = 0 ∨ j = 1) (hy : y.length * 8 ≤ 140737488355240) :
    Calls Try.prog 85 #[.pointer (some ⟨q, 0, none⟩), .int .i64 n, .agg #[.int .i64 j, u], .int .i64 at'] w (TkR F w q (tkD s at' ⟨j, y⟩ true)) := by
  obtain ⟨ao, c, rfl, _⟩ := hu.len
  obtain ⟨w1, hw1, k0, hb1⟩ : ∃ w1, w1 = w.alloc (.cells #[.int .i64 j, .slice ao y.length c] 94) ∧ w1.heap[w.heap.size]? = some (.cells #[.int .i64 j, .slice ao y.length c] 94 (0, 0)) ∧ Below w.heap.size w w1 := ⟨_, rfl, heap_alloc_new _ _, ext_alloc (Below.refl _ _) _⟩
  obtain ⟨_, c0, c1, _⟩ := cells2 k0
  have UN := hidIt (r_unnamed_any n w1)
  rw [hun] at UN
  have OWN := hidIt (r_own_any w1 q s at' j _ y (hR.ext hb1) hn (hu.ext hb1) ho hj hy)
  have HKD := hidIt (ow_kd hR hn (y := ⟨j, y⟩) hj)
  have HR := hidIt hR
  have HB1 := hidIt hb1
  have HRG := hidIt (sml_range hn)
  have HSM := hidIt (sml_range hn)
  obtain ⟨a, ha⟩ : ∃ a : Nat, (a : Int) = sml at' := ⟨(sml at').toNat, by have := sml_range hn; omega⟩
  have HAL := hidIt (show a < 128 by have := sml_range hn; omega)
  have hal : (a : Int) < 128 := by have := sml_range hn; omega
  have HA := hidIt ha
  subst hat
  have ha49 : a = 49 := by
    have : sml 49 = 49 := by decide
    omega
  generalize hx : ow s.m 49 ⟨j, y⟩ = x at *
  rw [← ha] at OWN
  clear hR hn hu ho hj hy hb1 k0 hun ha HRG HSM
  subst ha49
  go_enter Try.func85, Try.ntmps85
  go_upto_region 1 with fail
  rw [← hw1]
  clear hw1
  go_upto_region 4 with (first | (go_at_call 67; refine UN.out.mono ?_; rintro e y8 ⟨rfl, rfl⟩; (try dsimp only)) | (go_at_call 86; refine OWN.out.mono ?_; rintro e w2 ⟨v2, rfl, hr2, ho2, hb2⟩; obtain ⟨ra2, rc2, re2, _⟩ := hr2.len; subst re2; have R2 := hidIt hr2; have B2 := hidIt hb2; have O2 := hidIt ho2; clear hr2 hb2 ho2 c0 c1; (try dsimp only)))
  generalize hw3 : World.alloc _ _ = w3
  have HB3 : Hid (Below w2.heap.size w2 w3) := by unfold Hid; rw [← hw3]; exact ext_alloc (Below.refl _ _) _
  have HK3 : Hid (w3.heap[w2.heap.size]? = some (.cells #[.int .i64 x.k, .slice ra2 x.t.length rc2] 94 (0, 0))) := by unfold Hid; rw [← hw3]; exact heap_alloc_new _ _
  clear hw3
  have HB13 := hidIt (ext_trans (ext_trans HB1.out B2.out) HB3.out)
  have HQ := hidIt (show q < w2.heap.size by have := HR.out.lt; have := HB1.out.size; have := B2.out.size; omega)
  obtain ⟨_, e0, e1, _⟩ := cells2 HK3.out
  by_cases hbig : (x.t.length : Int) > 140000
  · have HT := hidIt (show tkD s 49 ⟨j, y⟩ true = (3, s) by unfold tkD; rw [hx, if_pos (by omega)])
    go_wp2_with fail
    go_ret
    exact ⟨by rw [HT.out]; rfl, by rw [HT.out]; exact HR.out.ext HB13.out, Kq.of HB13.out⟩
  have HT := hidIt (show tkD s 49 ⟨j, y⟩ true = (0, ⟨upd (rng s.m 49) 49 (some x), 49⟩) by unfold tkD; rw [hx, if_neg (by omega)]; rfl)
  have HLE := hidIt (show x.t.length ≤ 140000 by omega)
  have HR3 := hidIt (HR.out.ext HB13.out)
  go_wp2_with fail
  go_loopw [11] (fun i wr => ∃ c : Nat, 49 ≤ c ∧ c ≤ 57 ∧ i = .int .i32 (c : Int) ∧ Rb F wr q ⟨rng s.m (c : Int), s.p⟩ ∧ Kq q w3 wr) (fun i _ => ((RowKit.intOf i) - 49).toNat)
  case atStart => exact ⟨57, by omega, by omega, rfl, by rw [show ((57 : Nat) : Int) = 57 from rfl, rng_top]; exact HR3.out, Kps.refl _ _⟩
  case round =>
    obtain ⟨c, hc1, hc2, rfl, hbw, hkw⟩ := hrel
    have HBW := hidIt hbw
    have HKW := hidIt hkw
    clear hbw hkw
    by_cases hk0 : (c : Int) > 49
    · obtain ⟨e, he⟩ : ∃ e : Nat, e + 1 = c := ⟨c - 1, by omega⟩
      have hwr : IntKind.i32.wrap ((c : Int) - 1) = (e : Int) := by
        rw [IntKind.wrap_i32]; omega
      have hcl : (c : Int) < 128 := by omega
      have hel : (e : Int) < 128 := by omega
      have fr := fun i => HBW.out.froz i
      obtain ⟨k8, u8, g0, g1, _⟩ := HBW.out.at c (by omega)
      obtain ⟨k7, u7, f0, f1, hh⟩ := HBW.out.at e (by omega)
      obtain ⟨a7, n7, c7, rfl⟩ := hh.form
      have HPU := hidIt (HBW.out.put c (by omega) k7 _ _ hh)
      have HST := hidIt (show upd (rng s.m (c : Int)) (c : Int) (rng s.m (c : Int) (e : Int)) = rng s.m (e : Int) by rw [show (e : Int) = (c : Int) - 1 by omega]; exact rng_step _ _ (by omega))
      have HE := hidIt he
      clear hh he
      go_upto_region 10 with fail
      go_region
      generalize hw4 : World.setCell (World.setCell _ _ _) _ _ = w4
      have HP : Hid (Rb F w4 q ⟨rng s.m (e : Int), s.p⟩ ∧ wr.grownBy w4 (some q)) := by unfold Hid; rw [← hw4]; have := HPU.out; dsimp only at this; rw [HST.out] at this; exact this
      clear hw4 f0 f1 g0 g1 fr HPU
      go_wp2_with fail
      go_roundw
      case rel => exact ⟨e, by have := HE.out; omega, by have := HE.out; omega, rfl, HP.out.1.ext (Below.refl _ _).drew, HKW.out.trans ((Kq.set HP.out.2).trans (Kq.of (Below.refl _ _).drew))⟩
      case measure => have := HE.out; simp [RowKit.intOf]; omega
    · have hcz : c = 49 := by omega
      subst hcz
      have HPU := hidIt (HBW.out.put 49 (by omega) x.k (.slice ra2 x.t.length rc2) (some x) ⟨HKD.out, x.t, Rb.rds (R2.out.ext HB3.out) (fun hn => O2.out hn q HR.out.fq) HKW.out, O2.out, HLE.out, rfl, rfl⟩)
      have hblk := (HKW.out.same w2.heap.size (Array.getElem?_eq_some_iff.1 HK3.out).1 (by have := HQ.out; omega)).trans HK3.out
      obtain ⟨_, e0, e1, _⟩ := cells2 hblk
      obtain ⟨k7, u7, f0, f1, _⟩ := HBW.out.at 49 (by omega)
      have fr := fun i => HBW.out.froz i
      clear hblk
      go_upto_region 11 with fail
      go_region
      generalize hw4 : World.setCell (World.setCell _ _ _) _ _ = w4
      have HP : Hid (Rb F w4 q ⟨upd (rng s.m 49) 49 (some x), s.p⟩ ∧ wr.grownBy w4 (some q)) := by unfold Hid; rw [← hw4]; exact HPU.out
      clear hw4 f0 f1 fr e0 e1 HPU
      have ft := HP.out.1.to
      have fr := fun i => HP.out.1.froz i
      go_wp2_with fail
      go_ret
      have hp := (HP.out.1.ext (Below.refl _ _).drew).point 49
      exact ⟨by rw [HT.out]; rfl, by rw [HT.out]; exact hp.1, (Kq.of HB13.out).trans (HKW.out.trans ((Kq.set HP.out.2).trans ((Kq.of (Below.refl _ _).drew).trans (Kq.set hp.2))))⟩
end Go.Proofs.Ytmldfjhfgaggpaa

/- The document's Yank, Delete. -/
namespace Go.Proofs.Ytmldfjhfgaggpaa
open Go.RowKit
variable {F : Nat → Prop}

theorem nil_cls {k : Int} {t : List Int} (hk : k = 0 ∨ k = 1) : nil? ⟨k, t⟩ = ((cls k t).length == 0) := by
  unfold nil?
  rcases hk with rfl | rfl
  · unfold cls
    simp only [show ((0 : Int) == 1) = false from rfl, Bool.false_and, Bool.false_eq_true, if_false, beq_self_eq_true, Bool.true_and]
    cases t <;> simp
    omega
  · have := cls_pos ⟨1, t⟩ (.inr rfl)
    dsimp only at this ⊢
    cases h : ((cls 1 t).length == 0)
    · rfl
    · simp at h; rw [h] at this; simp at this
theorem tkD_take {s : Bs} (hs : Good s) {n : Int} {r : Rg} (hk : r.k = 0 ∨ r.k = 1) (h : (n == 95 || nil? r) = false) : tkD s n ⟨r.k, cls r.k r.t⟩ false = takeB s n r := by
  have hr := not_nil (Bool.or_eq_false_iff.1 h).2 hk
  unfold tkD
  rw [ow_nxt hs hk hr]
  have hw := wrtn_fine s.m n r
  by_cases hl : 140000 < (nxt s.m n r).t.length
  · rw [if_pos hl] at hw ⊢
    rw [takeB_none h hw]
  · rw [if_neg hl] at hw ⊢
    rw [takeB_some h hw]
    rfl
theorem tkD_ring {s : Bs} (hs : Good s) {r : Rg} (hk : r.k = 0 ∨ r.k = 1) (hr : r.t ≠ [] ∨ r.k = 1) : tkD s 49 ⟨r.k, cls r.k r.t⟩ true = ringB s r := by
  unfold tkD ringB
  rw [ow_nxt hs hk hr]
  have hw := wrtn_fine s.m 49 r
  by_cases hl : 140000 < (nxt s.m 49 r).t.length
  · rw [if_pos hl] at hw ⊢
    rw [hw]
  · rw [if_neg hl] at hw ⊢
    rw [hw]
    rfl
set_option maxRecDepth 100000 in
set_option maxHeartbeats 4000000 in
theorem r_Yank_any (w : World) (q : Nat) (s : Bs) (n k : Int) (v : Value) (t : List Int) (hR : Rb F w q s) (hs : Good s) (hv : RdS w v t) (hl : t.length * 8 ≤ 140737488351232) :
    Calls Try.prog 62 #[.pointer (some ⟨q, 0, none⟩), .int .i64 n, .int .i64 k, v] w (TkR F w q (yankB s n ⟨k, t⟩)) := by
  obtain ⟨ao, c, rfl, _⟩ := hv.len
  have RF := hidIt (r_refuse_any n k w)
  have WR := hidIt (r_written_any k _ t w hv hl)
  have HR := hidIt hR
  have HV := hidIt hv
  have HLL := hidIt (show (cls k t).length * 8 ≤ 140737488355240 by have := (cls_len k t).2; omega)
  by_cases hrf : refE n k = 0
  · obtain ⟨hnm, _, hk⟩ := refE_ok hrf
    have HNR := hidIt (nm_range hnm)
    have HNC := hidIt (nil_cls (t := t) hk)
    have HG := hidIt hs
    have HK := hidIt hk
    rw [hrf] at RF
    clear hR hv hl hs hnm hk
    go_enter Try.func62, Try.ntmps62
    go_upto_region 5 with (first | (go_at_call 83; refine RF.out.mono ?_; rintro e y8 ⟨rfl, rfl⟩; (try dsimp only)) | (go_at_call 84; refine WR.out.mono ?_; rintro e w2 ⟨v2, rfl, hr2, hb2⟩; obtain ⟨ra2, rc2, re2, _⟩ := hr2.rds.len; subst re2; have R2 := hidIt hr2; have B2 := hidIt hb2; clear hr2 hb2; (try dsimp only)))
    generalize hw3 : World.alloc _ _ = w3
    have HB3 : Hid (Below w2.heap.size w2 w3) := by unfold Hid; rw [← hw3]; exact ext_alloc (Below.refl _ _) _
    have HK3 : Hid (w3.heap[w2.heap.size]? = some (.cells #[.int .i64 k, .slice ra2 (cls k t).length rc2] 94 (0, 0))) := by unfold Hid; rw [← hw3]; exact heap_alloc_new _ _
    clear hw3
    have HB13 := hidIt (ext_trans B2.out HB3.out)
    obtain ⟨_, e0, e1, _⟩ := cells2 HK3.out
    have HOF := hidIt (fun (_ : cls k t ≠ []) g (hg : F g) => R2.out.off (HR.out.fl g hg))
    have HRD := hidIt (R2.out.rds.ext HB3.out)
    by_cases h95 : n = 95
    · have HT := hidIt (show yankB s n ⟨k, t⟩ = (0, s) by subst h95; unfold yankB; rw [if_pos hrf]; show takeB s 95 _ = _; exact takeB_skip rfl)
      subst h95
      clear hrf
      go_wp2_with fail
      go_ret
      exact ⟨by rw [HT.out]; rfl, by rw [HT.out]; exact HR.out.ext HB13.out, Kq.of HB13.out⟩
    have h95b : (n == 95) = false := by simp [h95]
    by_cases hz : (cls k t).length = 0
    · have HT := hidIt (show yankB s n ⟨k, t⟩ = (0, s) by unfold yankB; rw [if_pos hrf]; exact takeB_skip (by rw [HNC.out, hz]; simp))
      have hzb : (((cls k t).length : Int) == 0) = true := by simp [hz]
      clear hrf h95
      go_wp2_with fail
      go_ret
      exact ⟨by rw [HT.out]; rfl, by rw [HT.out]; exact HR.out.ext HB13.out, Kq.of HB13.out⟩
    have hzb : (((cls k t).length : Int) == 0) = false := by simp [hz]
    have HNZ := hidIt (show nil? ⟨k, t⟩ = false by rw [HNC.out]; simp [hz])
    have HYB := hidIt (show yankB s n ⟨k, t⟩ = takeB s (if unB n = true then 48 else n) ⟨k, t⟩ by unfold yankB; rw [if_pos hrf])
    cases hun : unB n
    · rw [hun] at HYB
      have TK := hidIt (r_take_name w3 q s n 48 k _ (cls k t) hun (by decide) (HR.out.ext HB13.out) (by exact HNR.out) HRD.out HOF.out HK.out HLL.out)
      have HT := hidIt (show _ = _ from HYB.out.trans (tkD_take HG.out HK.out (by rw [show ((if false = true then (48 : Int) else n) == 95) = false from h95b, HNZ.out]; rfl)).symm)
      clear hrf h95 hz
      go_wp2_with (first | (go_at_call 67; refine UN.out.mono ?_; rintro e y9 ⟨rfl, rfl⟩; (try dsimp only)) | (go_at_call 85; refine TK.out.mono ?_; rintro e w4 ⟨rfl, hr4, hk4⟩; have R4 := hidIt hr4; have K4 := hidIt hk4; clear hr4 hk4; (try dsimp only)))
      go_ret
      exact ⟨by rw [HT.out]; rfl, by rw [HT.out]; exact R4.out, (Kq.of HB13.out).trans K4.out⟩
    · rw [hun] at HYB
      have TK := hidIt (r_take_at w3 q s n 48 k _ (cls k t) hun (by decide) (HR.out.ext HB13.out) (by decide) HRD.out HOF.out HK.out HLL.out)
      have HT := hidIt (show _ = _ from HYB.out.trans (tkD_take HG.out HK.out (by rw [HNZ.out]; rfl)).symm)
      clear hrf h95 hz
      go_wp2_with (first | (go_at_call 67; refine UN.out.mono ?_; rintro e y9 ⟨rfl, rfl⟩; (try dsimp only)) | (go_at_call 85; refine TK.out.mono ?_; rintro e w4 ⟨rfl, hr4, hk4⟩; have R4 := hidIt hr4; have K4 := hidIt hk4; clear hr4 hk4; (try dsimp only)))
      go_ret
      exact ⟨by rw [HT.out]; rfl, by rw [HT.out]; exact R4.out, (Kq.of HB13.out).trans K4.out⟩
  · have HT := hidIt (show yankB s n ⟨k, t⟩ = (refE n k, s) by unfold yankB; rw [if_neg hrf])
    have hne : (refE n k != 0) = true := by simp [hrf]
    generalize refE n k = er at *
    clear hR hv hl hs
    go_enter Try.func62, Try.ntmps62
    go_wp2_with (go_at_call 83; refine RF.out.mono ?_; rintro e y8 ⟨rfl, rfl⟩; (try dsimp only))
    go_ret
    exact ⟨by rw [HT.out]; rfl, by rw [HT.out]; exact HR.out, Kps.refl _ _⟩
end Go.Proofs.Ytmldfjhfgaggpaa

/- The document's Delete. -/
namespace Go.Proofs.Ytmldfjhfgaggpaa
open Go.RowKit
variable {F : Nat → Prop}

theorem del_nil {s : Bs} {n k : Int} {t : List Int} (hrf : refE n k = 0) (hz : nil? ⟨k, t⟩ = true) : deleteB s n ⟨k, t⟩ = (0, s) := by
  have h0 : (k == 1 || t.any brB) = false := by
    unfold nil? at hz
    simp only [Bool.and_eq_true, beq_iff_eq] at hz
    obtain ⟨rfl, h2⟩ := hz
    have : t = [] := List.length_eq_zero_iff.1 (by omega)
    rw [this]
    rfl
  unfold deleteB
  rw [if_pos hrf]
  dsimp only
  rw [h0]
  split
  · exact takeB_skip (by rw [hz]; simp)
  · exact takeB_skip (by rw [hz]; simp)
theorem rd_cell {w : World} {ao : Option Addr} {n c : Nat} {t : List Int} (h : RdS w (.slice ao n c) t) (j : Nat) (hj : j < t.length) : ∃ b off, ao = some ⟨b, off, none⟩ ∧ w.cell? ⟨b, off + j, none⟩ = some (.int .i64 (t[j]?.getD 0)) := by
  have hn : t ≠ [] := by intro e; rw [e] at hj; simp at hj
  obtain ⟨b, off, c', e, _, _, _, hc⟩ := h.last hn
  cases e
  exact ⟨b, off, rfl, hc j hj⟩
set_option maxRecDepth 100000 in
set_option maxHeartbeats 4000000 in
theorem r_Delete_any (w : World) (q : Nat) (s : Bs) (n k : Int) (v : Value) (t : List Int) (hR : Rb F w q s) (hs : Good s) (hv : RdS w v t) (hl : t.length * 8 ≤ 140737488351232) :
    Calls Try.prog 63 #[.pointer (some ⟨q, 0, none⟩), .int .i64 n, .int .i64 k, v] w (TkR F w q (deleteB s n ⟨k, t⟩)) := by
  obtain ⟨ao, c, rfl, _⟩ := hv.len
  have RF := hidIt (r_refuse_any n k w)
  have WR := hidIt (r_written_any k _ t w hv hl)
  have HR := hidIt hR
  have HV := hidIt hv
  have HLL := hidIt (show (cls k t).length * 8 ≤ 140737488355240 by have := (cls_len k t).2; omega)
  by_cases hrf : refE n k = 0
  · obtain ⟨hnm, _, hk⟩ := refE_ok hrf
    have HNR := hidIt (nm_range hnm)
    have HNC := hidIt (nil_cls (t := t) hk)
    have HG := hidIt hs
    have HK := hidIt hk
    rw [hrf] at RF
    clear hR hv hl hs hnm hk
    go_enter Try.func63, Try.ntmps63
    go_upto_region 5 with (first | (go_at_call 83; refine RF.out.mono ?_; rintro e y8 ⟨rfl, rfl⟩; (try dsimp only)) | (go_at_call 84; refine WR.out.mono ?_; rintro e w2 ⟨v2, rfl, hr2, hb2⟩; obtain ⟨ra2, rc2, re2, _⟩ := hr2.rds.len; subst re2; have R2 := hidIt hr2; have B2 := hidIt hb2; clear hr2 hb2; (try dsimp only)))
    generalize hw3 : World.alloc _ _ = w3
    have HB3 : Hid (Below w2.heap.size w2 w3) := by unfold Hid; rw [← hw3]; exact ext_alloc (Below.refl _ _) _
    have HK3 : Hid (w3.heap[w2.heap.size]? = some (.cells #[.int .i64 k, .slice ra2 (cls k t).length rc2] 94 (0, 0))) := by unfold Hid; rw [← hw3]; exact heap_alloc_new _ _
    clear hw3
    have HB13 := hidIt (ext_trans B2.out HB3.out)
    obtain ⟨_, e0, e1, _⟩ := cells2 HK3.out
    have HOF := hidIt (fun (_ : cls k t ≠ []) g (hg : F g) => R2.out.off (HR.out.fl g hg))
    have HRD := hidIt (R2.out.rds.ext HB3.out)
    by_cases h95 : n = 95
    · have HT := hidIt (show deleteB s n ⟨k, t⟩ = (0, s) by subst h95; unfold deleteB; rw [if_pos hrf]; show takeB s 95 ⟨k, t⟩ = _; exact takeB_skip rfl)
      subst h95
      clear hrf
      go_wp2_with fail
      go_ret
      exact ⟨by rw [HT.out]; rfl, by rw [HT.out]; exact HR.out.ext HB13.out, Kq.of HB13.out⟩
    have h95b : (n == 95) = false := by simp [h95]
    by_cases hz : (cls k t).length = 0
    · have HT := hidIt (show deleteB s n ⟨k, t⟩ = (0, s) by exact del_nil hrf (by rw [HNC.out, hz]; rfl))
      have hzb : (((cls k t).length : Int) == 0) = true := by simp [hz]
      clear hrf h95
      go_wp2_with fail
      go_ret
      exact ⟨by rw [HT.out]; rfl, by rw [HT.out]; exact HR.out.ext HB13.out, Kq.of HB13.out⟩
    have hzb : (((cls k t).length : Int) == 0) = false := by simp [hz]
    have HNZ := hidIt (show nil? ⟨k, t⟩ = false by rw [HNC.out]; simp [hz])
    have UN := hidIt (r_unnamed_any n w3)
    cases hun : unB n
    · rw [hun] at UN
      have HYB := hidIt (show deleteB s n ⟨k, t⟩ = takeB s n ⟨k, t⟩ by unfold deleteB; rw [if_pos hrf, hun]; rfl)
      have TK := hidIt (r_take_name w3 q s n 0 k _ (cls k t) hun (by decide) (HR.out.ext HB13.out) (by exact HNR.out) HRD.out HOF.out HK.out HLL.out)
      have HT := hidIt (show _ = _ from HYB.out.trans (tkD_take HG.out HK.out (by rw [h95b, HNZ.out]; rfl)).symm)
      clear hrf h95 hz
      go_wp2_with (first | (go_at_call 67; refine UN.out.mono ?_; rintro e y9 ⟨rfl, rfl⟩; (try dsimp only)) | (go_at_call 85; refine TK.out.mono ?_; rintro e w4 ⟨rfl, hr4, hk4⟩; have R4 := hidIt hr4; have K4 := hidIt hk4; clear hr4 hk4; (try dsimp only)))
      go_ret
      exact ⟨by rw [HT.out]; rfl, by rw [HT.out]; exact R4.out, (Kq.of HB13.out).trans K4.out⟩
    · rw [hun] at UN
      have HYB := hidIt (show deleteB s n ⟨k, t⟩ = if (k == 1 || t.any brB) = true then ringB s ⟨k, t⟩ else takeB s 45 ⟨k, t⟩ by unfold deleteB; rw [if_pos hrf, hun]; rfl)
      have TK1 := hidIt (r_take_ring w3 q s n 49 k _ (cls k t) hun rfl (HR.out.ext HB13.out) (by decide) HRD.out HOF.out HK.out HLL.out)
      have TK2 := hidIt (r_take_at w3 q s n 45 k _ (cls k t) hun (by decide) (HR.out.ext HB13.out) (by decide) HRD.out HOF.out HK.out HLL.out)
      have HT1 := hidIt (tkD_ring (r := ⟨k, t⟩) HG.out HK.out (not_nil HNZ.out HK.out))
      have HT2 := hidIt (tkD_take (n := 45) (r := ⟨k, t⟩) HG.out HK.out (by rw [HNZ.out]; rfl))
      have HCELL := hidIt (rd_cell (HV.out.ext HB13.out))
      clear hrf h95 hz
      go_wp2_with (go_at_call 67; refine UN.out.mono ?_; rintro e y9 ⟨rfl, rfl⟩; (try dsimp only))
      go_loopw [11, 12] (fun wh i wr => ∃ j : Nat, j ≤ t.length ∧ i = .int .i64 j ∧ wh = .bool (k == 1 || (t.take j).any brB) ∧ w3 = wr) (fun _ i _ => t.length - (RowKit.intOf i).toNat)
      case atStart => exact ⟨0, Nat.zero_le _, rfl, by simp, rfl⟩
      case round =>
        obtain ⟨j, hj, rfl, rfl, rfl⟩ := hrel
        by_cases hlt : j < t.length
        · obtain ⟨b, off, rfl, c1⟩ := HCELL.out j hlt
          have hi1 : (j : Int) < (t.length : Int) := by omega
          have HST := hidIt (show (k == 1 || (t.take (j + 1)).any brB) = ((k == 1 || (t.take j).any brB) || brB (t[j]?.getD 0)) by
            rw [List.take_succ_eq_append_getElem hlt, List.any_append, ← Bool.or_assoc]
            simp [hlt])
          generalize t[j]?.getD 0 = x at *
          generalize (k == 1 || (t.take j).any brB) = hb at *
          by_cases h10 : x = 10
          · subst h10
            go_wp2_with fail
            go_roundw
            case rel => exact ⟨j + 1, by omega, by go_num, by rw [HST.out]; simp [brB], trivial⟩
            case measure => simp [RowKit.intOf]; omega
          · have hb10 : (x == 10) = false := by simp [h10]
            clear h10
            by_cases h13 : x = 13
            · subst h13
              go_wp2_with fail
              go_roundw
              case rel => exact ⟨j + 1, by omega, by go_num, by rw [HST.out]; simp [brB], trivial⟩
              case measure => simp [RowKit.intOf]; omega
            · have hb13 : (x == 13) = false := by simp [h13]
              have HX := hidIt (show brB x = false by unfold brB; rw [hb10, hb13]; rfl)
              clear h13
              go_wp2_with fail
              go_roundw
              case rel => exact ⟨j + 1, by omega, by go_num, by rw [HST.out, HX.out]; simp, trivial⟩
              case measure => simp [RowKit.intOf]; omega
        · have hje : j = t.length := by omega
          have hi1 : ¬ (j : Int) < (t.length : Int) := by omega
          have HTA := hidIt (show t.take j = t by rw [hje, List.take_length])
          clear hlt hj hje
          rw [HTA.out]
          have HYC := hidIt (show ∀ b, (k == 1 || t.any brB) = b → deleteB s n ⟨k, t⟩ = if b = true then ringB s ⟨k, t⟩ else takeB s 45 ⟨k, t⟩ from fun b hb => by rw [HYB.out, hb])
          cases hb : (k == 1 || t.any brB)
          · have HT := hidIt ((HYC.out false hb).trans HT2.out.symm)
            clear hb
            go_wp2_with (go_at_call 85; refine TK2.out.mono ?_; rintro e w4 ⟨rfl, hr4, hk4⟩; have R4 := hidIt hr4; have K4 := hidIt hk4; clear hr4 hk4; (try dsimp only))
            go_ret
            exact ⟨by rw [HT.out]; rfl, by rw [HT.out]; exact R4.out, (Kq.of HB13.out).trans K4.out⟩
          · have HT := hidIt ((HYC.out true hb).trans HT1.out.symm)
            clear hb
            go_wp2_with (go_at_call 85; refine TK1.out.mono ?_; rintro e w4 ⟨rfl, hr4, hk4⟩; have R4 := hidIt hr4; have K4 := hidIt hk4; clear hr4 hk4; (try dsimp only))
            go_ret
            exact ⟨by rw [HT.out]; rfl, by rw [HT.out]; exact R4.out, (Kq.of HB13.out).trans K4.out⟩
  · have HT := hidIt (show deleteB s n ⟨k, t⟩ = (refE n k, s) by unfold deleteB; rw [if_neg hrf])
    have hne : (refE n k != 0) = true := by simp [hrf]
    generalize refE n k = er at *
    clear hR hv hl hs
    go_enter Try.func63, Try.ntmps63
    go_wp2_with (go_at_call 83; refine RF.out.mono ?_; rintro e y8 ⟨rfl, rfl⟩; (try dsimp only))
    go_ret
    exact ⟨by rw [HT.out]; rfl, by rw [HT.out]; exact HR.out, Kps.refl _ _⟩
end Go.Proofs.Ytmldfjhfgaggpaa

/- slices.Sort at []int: the library's contract laid at this program (by the shelf's lay-shelf.mjs and lay-plain.mjs at this seat: the numbers are this seat's; write it anew for another seat with mksort.py). -/
namespace Go.Proofs.Ytmldfjhfgaggpaa
open Go.Shelf
def lays189_ren : Go.Shelf.Ren := ⟨fun | 189 => 46 | 125 => 60 | 257 => 59 | 128 => 81 | 129 => 82 | 294 => 72 | 295 => 73 | 296 => 74 | 297 => 75 | 298 => 76 | 299 => 77 | 216 => 78 | 300 => 79 | 301 => 80 | 328 => 92 | 329 => 93 | 330 => 94 | 331 => 95 | 332 => 96 | 215 => 97 | 343 => 101 | n => n, fun | 28 => 29 | 3 => 3 | 46 => 93 | 0 => 0 | 51 => 113 | 53 => 115 | 4 => 4 | 183 => 106 | 182 => 105 | 131 => 110 | 5 => 5 | 9 => 9 | 218 => 122 | 222 => 126 | 228 => 130 | 229 => 131 | n => n, fun | n => n⟩
theorem lays189 : Go.Proofs.Lays.n189 Try.prog lays189_ren := {
  mixed := by kernel_rfl
  f125 := Try.func60.trans (congrArg some (by kernel_rfl))
  f128 := Try.func81.trans (congrArg some (by kernel_rfl))
  f129 := Try.func82.trans (congrArg some (by kernel_rfl))
  f189 := Try.func46.trans (congrArg some (by kernel_rfl))
  f215 := Try.func97.trans (congrArg some (by kernel_rfl))
  f216 := Try.func78.trans (congrArg some (by kernel_rfl))
  f257 := Try.func59.trans (congrArg some (by kernel_rfl))
  f294 := Try.func72.trans (congrArg some (by kernel_rfl))
  f295 := Try.func73.trans (congrArg some (by kernel_rfl))
  f296 := Try.func74.trans (congrArg some (by kernel_rfl))
  f297 := Try.func75.trans (congrArg some (by kernel_rfl))
  f298 := Try.func76.trans (congrArg some (by kernel_rfl))
  f299 := Try.func77.trans (congrArg some (by kernel_rfl))
  f300 := Try.func79.trans (congrArg some (by kernel_rfl))
  f301 := Try.func80.trans (congrArg some (by kernel_rfl))
  f328 := Try.func92.trans (congrArg some (by kernel_rfl))
  f329 := Try.func93.trans (congrArg some (by kernel_rfl))
  f330 := Try.func94.trans (congrArg some (by kernel_rfl))
  f331 := Try.func95.trans (congrArg some (by kernel_rfl))
  f332 := Try.func96.trans (congrArg some (by kernel_rfl))
  f343 := Try.func101.trans (congrArg some (by kernel_rfl))
  t0 := Try.underlying0
  a0 := Try.isAgg0
  z0 := Try.sizeOf0
  v0 := Try.zeroValue0
  t3 := Try.underlying3
  a3 := Try.isAgg3
  z3 := Try.sizeOf3
  v3 := Try.zeroValue3
  t4 := Try.underlying4
  a4 := Try.isAgg4
  z4 := Try.sizeOf4
  v4 := Try.zeroValue4
  t5 := Try.underlying5
  a5 := Try.isAgg5
  z5 := Try.sizeOf5
  v5 := Try.zeroValue5
  t9 := Try.underlying9
  a9 := Try.isAgg9
  z9 := Try.sizeOf9
  v9 := Try.zeroValue9
  t28 := Try.underlying29
  a28 := Try.isAgg29
  z28 := Try.sizeOf29
  v28 := Try.zeroValue29
  t46 := Try.underlying93
  a46 := Try.isAgg93
  z46 := Try.sizeOf93
  v46 := Try.zeroValue93
  t51 := Try.underlying113
  a51 := Try.isAgg113
  z51 := Try.sizeOf113
  v51 := Try.zeroValue113
  t53 := Try.underlying115
  a53 := Try.isAgg115
  z53 := Try.sizeOf115
  v53 := Try.zeroValue115
  t131 := Try.underlying110
  a131 := Try.isAgg110
  z131 := Try.sizeOf110
  v131 := Try.zeroValue110
  t182 := Try.underlying105
  a182 := Try.isAgg105
  z182 := Try.sizeOf105
  v182 := Try.zeroValue105
  t183 := Try.underlying106
  a183 := Try.isAgg106
  z183 := Try.sizeOf106
  v183 := Try.zeroValue106
  t218 := Try.underlying122
  a218 := Try.isAgg122
  z218 := Try.sizeOf122
  v218 := Try.zeroValue122
  t222 := Try.underlying126
  a222 := Try.isAgg126
  z222 := Try.sizeOf126
  v222 := Try.zeroValue126
  t228 := Try.underlying130
  a228 := Try.isAgg130
  z228 := Try.sizeOf130
  v228 := Try.zeroValue130
  t229 := Try.underlying131
  a229 := Try.isAgg131
  z229 := Try.sizeOf131
  v229 := Try.zeroValue131 }
open Go.Sort Go.RowKit in
theorem sort_ints (blk off cap : Nat) (zs : List Int) (w : World) (hH : Holds (Value.int .i64) w blk off zs.toArray) (hblk : blk < w.heap.size) (hsz : zs.length < 4611686018427387904) :
    Calls Try.prog 46 #[.slice (some ⟨blk, off, none⟩) zs.length cap] w fun e w' =>
      e = .returned (.tuple #[]) ∧ ∃ n os, w' = grow (putRow (Value.int .i64) (Sort.ahead w n) blk off (zs.mergeSort fun x y => decide (x ≤ y)).toArray) os := Any.slices_Sort_int lays189 blk off cap zs w hH hblk hsz
end Go.Proofs.Ytmldfjhfgaggpaa
