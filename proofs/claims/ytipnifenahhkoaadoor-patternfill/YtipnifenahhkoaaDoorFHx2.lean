/- The document's hex, of two digits. -/
import Derived.Test.YtipnifenahhkoaaDoorFDoc
import Derived.BigQuiet
namespace Go.Proofs.YtipnifenahhkoaaDoor
open Go.RowKit

theorem Dr.lt {w : World} {g : Nat} {s : Value} {p : Nat} (h : Dr w g s p) : g < w.heap.size := by
  obtain ⟨a, hq⟩ := h
  exact (Array.getElem?_eq_some_iff.1 hq).1
theorem Dr.ext {w w' : World} {g : Nat} {s : Value} {p : Nat} (h : Dr w g s p) (hb : Below w.heap.size w w') : Dr w' g s p := by
  have hl := h.lt
  obtain ⟨a, hq⟩ := h
  exact ⟨a, (hb.block g hl).trans hq⟩
/-- What is held ahead of a round of hex. -/
def Hs (src : List Int) (p : Nat) (k : Nat) (m : Int) : Prop := (k = 0 ∧ m = 0) ∨ (k = 1 ∧ p < src.length ∧ hexD (src[p]?.getD 0) = some m) ∨ (k = 2 ∧ hx2 src p = some m)
theorem Hs.end' {src : List Int} {p k : Nat} {m : Int} (h : Hs src p k m) (hk : k < 2) (hl : src.length ≤ p + k) : hx2 src p = none := by
  unfold hx2
  rcases h with ⟨rfl, _⟩ | ⟨rfl, h1, h2⟩ | ⟨rfl, _⟩
  · rw [if_pos (by omega)]
  · rw [if_neg (by omega), h2]; simp only; rw [if_pos hl]
  · omega
theorem Hs.bad {src : List Int} {p k : Nat} {m : Int} (h : Hs src p k m) (hk : k < 2) (hl : p + k < src.length) (hd : hexD (src[p + k]?.getD 0) = none) : hx2 src p = none := by
  unfold hx2
  rcases h with ⟨rfl, _⟩ | ⟨rfl, h1, h2⟩ | ⟨rfl, _⟩
  · rw [if_neg (by omega)]; simp only [Nat.add_zero] at hd; rw [hd]
  · rw [if_neg (by omega), h2]; simp only; rw [if_neg (by omega), hd]
  · omega
theorem Hs.next {src : List Int} {p k : Nat} {m d : Int} (h : Hs src p k m) (hk : k < 2) (hl : p + k < src.length) (hd : hexD (src[p + k]?.getD 0) = some d) : Hs src p (k + 1) (16 * m + d) := by
  rcases h with ⟨rfl, rfl⟩ | ⟨rfl, h1, h2⟩ | ⟨rfl, _⟩
  · refine .inr (.inl ⟨rfl, by omega, ?_⟩)
    simp only [Nat.add_zero] at hd
    rw [hd]; congr 1; omega
  · refine .inr (.inr ⟨rfl, ?_⟩)
    unfold hx2
    rw [if_neg (by omega), h2]; simp only; rw [if_neg (by omega), hd]; simp only; congr 1; omega
  · omega
theorem Hs.rng {src : List Int} {p k : Nat} {m : Int} (h : Hs src p k m) (hk : k < 2) : 0 ≤ m ∧ m ≤ 15 ∧ (k = 0 → m = 0) := by
  rcases h with ⟨rfl, rfl⟩ | ⟨rfl, h1, h2⟩ | ⟨rfl, _⟩
  · omega
  · have := hexD_r h2; omega
  · omega
set_option maxRecDepth 100000 in
set_option maxHeartbeats 8000000 in
theorem rhex_any {w : World} {g : Nat} {sa : Option Addr} {sc : Nat} {src : List Int} {p : Nat} (h : Dr w g (.slice sa src.length sc) p) (hr : ∀ w', Below g w w' → Rd .i64 w' (.slice sa src.length sc) src) (h64 : In64 src) (hp : p ≤ 1000) :
    Calls Tryd.prog 23 #[.pointer (some ⟨g, 0, none⟩), .int .i64 2, .int .i64 255] w fun e w' => e = .returned (.int .i64 ((hx2 src p).getD (-1))) ∧ Below g w w' := by
  have HR := hidIt hr
  have HD := hidIt h
  have H6 := hidIt h64
  have HP := hidIt hp
  clear h hr h64 hp
  go_enter Tryd.func23, Tryd.ntmps23
  go_wp2_with fail
  go_loopw [7, 8] (fun n i wr => ∃ (k : Nat) (m : Int), k ≤ 2 ∧ n = .int .i64 m ∧ i = .int .i64 (k : Int) ∧ Hid (Hs src p k m) ∧ Hid (Dr wr g (.slice sa src.length sc) (p + k)) ∧ Hid (Below g w wr)) (fun _ i _ => 2 - (intOf i).toNat)
  case atStart => exact ⟨0, 0, by omega, rfl, rfl, .inl ⟨rfl, rfl⟩, HD.out, Below.refl _ _⟩
  case round =>
    obtain ⟨k, m, hk, rfl, rfl, HS, HDR, HB⟩ := hrel
    clear HD
    by_cases hk2 : k < 2
    · have hd0 : decide ((k : Int) < 2) = true := by simp; omega
      obtain ⟨q, hq⟩ : ∃ q, q = p + k := ⟨_, rfl⟩
      rw [← hq] at HDR
      obtain ⟨a, hblk⟩ := HDR.out
      obtain ⟨c0, c1, c2, c3⟩ := cells4 hblk
      have HE := hidIt (HS.out.end' hk2)
      have HBD := hidIt (HS.out.bad hk2)
      have HNX := hidIt (fun d => HS.out.next (d := d) hk2)
      have HRG := hidIt (HS.out.rng hk2)
      rw [← hq] at HE HBD HNX
      have HQ := hidIt hq
      have HK2 := hidIt hk2
      clear hblk hq hk2
      by_cases hl : src.length ≤ q
      · have hd1 : decide ((src.length : Int) ≤ (q : Int)) = true := by simp; omega
        go_upto_region 5 with fail
        go_quiet (fail)
        obtain ⟨y, hy, hb0⟩ : ∃ y, y = wr.drewN nq ∧ Below wr.heap.size wr y := ⟨_, rfl, below_drewN (Below.refl _ _) _⟩
        rw [← hy]
        have DY := hidIt (HDR.out.ext hb0)
        have BY : Hid (Below g w y) := HB.out.trans (hb0.mono (Nat.le_of_lt HDR.out.lt))
        obtain ⟨_, hblk⟩ := DY.out
        obtain ⟨e0, e1, e2, e3⟩ := cells4 hblk
        have he := HE.out hl
        clear hy hb0 hblk c0 c1 c2 c3
        go_wp2_with (go_at_call 34; refine (rfail_any _ DY.out).mono ?_; rintro e w1 ⟨rfl, b1⟩; (try dsimp only); have B1 := hidIt b1; clear b1)
        go_ret
        exact ⟨by rw [he]; rfl, BY.out.trans B1.out⟩
      · have hd1 : decide ((src.length : Int) ≤ (q : Int)) = false := by simp; omega
        go_upto_region 5 with fail
        go_quiet (fail)
        obtain ⟨y, hy, hb0⟩ : ∃ y, y = wr.drewN nq ∧ Below wr.heap.size wr y := ⟨_, rfl, below_drewN (Below.refl _ _) _⟩
        rw [← hy]
        have DY := hidIt (HDR.out.ext hb0)
        have BY : Hid (Below g w y) := HB.out.trans (hb0.mono (Nat.le_of_lt HDR.out.lt))
        clear hy hb0 c0 c1 c2 c3
        obtain ⟨_, hblk⟩ := DY.out
        obtain ⟨e0, e1, e2, e3⟩ := cells4 hblk
        obtain ⟨la', lc', hv', _, hcp, hcl⟩ := HR.out y BY.out
        obtain ⟨sb, so, rfl, _, hcc⟩ := hcl (List.length_pos_iff.1 (by omega))
        cases hv'
        have hcj := hcc q (by omega)
        have hji : (q : Int) < (src.length : Int) := by omega
        have HC := hidIt (H6.out q)
        have HBD1 := hidIt (HBD.out (by omega))
        have HNX1 := hidIt (fun d => HNX.out d (by omega))
        clear HBD HNX hcl hcc hblk
        generalize src[q]?.getD 0 = c at *
        go_upto_region 8 with fail
        go_quiet (fail)
        obtain ⟨z, hz, hb1⟩ : ∃ z, z = y.drewN nq ∧ Below y.heap.size y z := ⟨_, rfl, below_drewN (Below.refl _ _) _⟩
        rw [← hz]
        have DZ := hidIt (DY.out.ext hb1)
        have BZ : Hid (Below g w z) := BY.out.trans (hb1.mono (Nat.le_of_lt DY.out.lt))
        clear hz hb1 e0 e1 e2 e3 hcj
        obtain ⟨_, hblk⟩ := DZ.out
        obtain ⟨e0, e1, e2, e3⟩ := cells4 hblk
        have z2 := unfrozen hblk 2
        clear hblk
        go_upto_region 10 with fail
        rcases (show c < 48 ∨ (48 ≤ c ∧ c ≤ 57) ∨ (57 < c ∧ c < 65) ∨ (65 ≤ c ∧ c ≤ 70) ∨ (70 < c ∧ c < 97) ∨ (97 ≤ c ∧ c ≤ 102) ∨ 102 < c from by omega) with h | ⟨h, h'⟩ | ⟨h, h'⟩ | ⟨h, h'⟩ | ⟨h, h'⟩ | ⟨h, h'⟩ | h
        · skip
          have hb : hexD c = none := by unfold hexD; rw [if_neg (by omega), if_neg (by omega), if_neg (by omega)]
          have he := HBD1.out hb
          clear HBD1 HNX1 HE
          go_wp2_with fail
          go_loopw [11, 12] (fun l j wr => ∃ (L : Int) (J : Nat), l = .int .i64 L ∧ j = .int .i64 (J : Int) ∧ J ≤ 2 ∧ wr = z) (fun _ j _ => 2 - (intOf j).toNat)
          case atStart => exact ⟨_, k + 1, rfl, by go_num, by have := HK2.out; omega, rfl⟩
          case round =>
            obtain ⟨L, J, rfl, rfl, hJ, rfl⟩ := hrel
            by_cases hJ2 : J < 2
            · have hd5 : decide ((J : Int) < 2) = true := by simp; omega
              go_wp2_with fail
              go_roundw
              case rel => exact ⟨_, J + 1, rfl, by go_num, by omega, by trivial⟩
              case measure => simp [intOf]; omega
            · have hd5 : decide ((J : Int) < 2) = false := by simp; omega
              go_wp2_with (go_at_call 34; refine (rfail_any _ DZ.out).mono ?_; rintro e w1 ⟨rfl, b1⟩; (try dsimp only); have B1 := hidIt b1; clear b1)
              go_ret
              exact ⟨by rw [he]; rfl, BZ.out.trans B1.out⟩
        · skip
          have hb : hexD c = some (c - 48) := by unfold hexD; rw [if_pos (by omega)]
          have HN := hidIt (HNX1.out _ hb)
          have hrg := HRG.out
          have s1 : IntKind.i64.wrap (16 * m) = 16 * m := by rw [IntKind.wrap_i64]; omega
          have s2 : IntKind.i64.wrap (16 * m + (c - 48)) = 16 * m + (c - 48) := by rw [IntKind.wrap_i64]; omega
          have hdn : decide ((c - 48) < 0) = false := by simp; omega
          have HST := hidIt (DZ.out.step (q + 1))
          have ec : ((q + 1 : Nat) : Int) = (q : Int) + 1 := by omega
          rw [ec] at HST
          clear HBD1 HNX1 HE hb
          go_wp2_with fail
          go_loopw [11, 12] (fun l j wr => ∃ (L : Int) (J : Nat), l = .int .i64 L ∧ j = .int .i64 (J : Int) ∧ J ≤ 2 ∧ (1 ≤ J ∧ 0 ≤ L ∧ L ≤ 255 ∧ (J ≤ 1 → L ≤ 15)) ∧ wr = z) (fun _ j _ => 2 - (intOf j).toNat)
          case atStart => exact ⟨_, k + 1, rfl, by go_num, by have := HK2.out; omega, by omega, rfl⟩
          case round =>
            obtain ⟨L, J, rfl, rfl, hJ, hL, rfl⟩ := hrel
            by_cases hJ2 : J < 2
            · have hd5 : decide ((J : Int) < 2) = true := by simp; omega
              have s3 : IntKind.i64.wrap (L * 16) = L * 16 := by rw [IntKind.wrap_i64]; omega
              go_wp2_with fail
              go_roundw
              case rel => exact ⟨_, J + 1, rfl, by go_num, by omega, by omega, by trivial⟩
              case measure => simp [intOf]; omega
            · have hd5 : decide ((J : Int) < 2) = false := by simp; omega
              have hd6 : decide ((255 : Int) < L) = false := by simp; omega
              have hqq : (q : Int) + 1 ≤ 2000 := by have := HQ.out; have := HP.out; have := HK2.out; omega
              go_wp2_with fail
              have eq1 : p + (k + 1) = q + 1 := by have := HQ.out; omega
              have hk2 := HK2.out
              refine ⟨⟨k + 1, _, by omega, rfl, by go_num, HN.out, ?_, BZ.out.trans HST.out.2.1⟩, ?_⟩
              · unfold Hid; rw [eq1]; exact HST.out.1
              · simp only [intOf]; omega
        · skip
          have hb : hexD c = none := by unfold hexD; rw [if_neg (by omega), if_neg (by omega), if_neg (by omega)]
          have he := HBD1.out hb
          clear HBD1 HNX1 HE
          go_wp2_with fail
          go_loopw [11, 12] (fun l j wr => ∃ (L : Int) (J : Nat), l = .int .i64 L ∧ j = .int .i64 (J : Int) ∧ J ≤ 2 ∧ wr = z) (fun _ j _ => 2 - (intOf j).toNat)
          case atStart => exact ⟨_, k + 1, rfl, by go_num, by have := HK2.out; omega, rfl⟩
          case round =>
            obtain ⟨L, J, rfl, rfl, hJ, rfl⟩ := hrel
            by_cases hJ2 : J < 2
            · have hd5 : decide ((J : Int) < 2) = true := by simp; omega
              go_wp2_with fail
              go_roundw
              case rel => exact ⟨_, J + 1, rfl, by go_num, by omega, by trivial⟩
              case measure => simp [intOf]; omega
            · have hd5 : decide ((J : Int) < 2) = false := by simp; omega
              go_wp2_with (go_at_call 34; refine (rfail_any _ DZ.out).mono ?_; rintro e w1 ⟨rfl, b1⟩; (try dsimp only); have B1 := hidIt b1; clear b1)
              go_ret
              exact ⟨by rw [he]; rfl, BZ.out.trans B1.out⟩
        · skip
          have hb : hexD c = some (c - 65 + 10) := by unfold hexD; rw [if_neg (by omega), if_neg (by omega), if_pos (by omega)]
          have HN := hidIt (HNX1.out _ hb)
          have hrg := HRG.out
          have s1 : IntKind.i64.wrap (16 * m) = 16 * m := by rw [IntKind.wrap_i64]; omega
          have s2 : IntKind.i64.wrap (16 * m + (c - 65 + 10)) = 16 * m + (c - 65 + 10) := by rw [IntKind.wrap_i64]; omega
          have hdn : decide ((c - 65 + 10) < 0) = false := by simp; omega
          have HST := hidIt (DZ.out.step (q + 1))
          have ec : ((q + 1 : Nat) : Int) = (q : Int) + 1 := by omega
          rw [ec] at HST
          clear HBD1 HNX1 HE hb
          go_wp2_with fail
          go_loopw [11, 12] (fun l j wr => ∃ (L : Int) (J : Nat), l = .int .i64 L ∧ j = .int .i64 (J : Int) ∧ J ≤ 2 ∧ (1 ≤ J ∧ 0 ≤ L ∧ L ≤ 255 ∧ (J ≤ 1 → L ≤ 15)) ∧ wr = z) (fun _ j _ => 2 - (intOf j).toNat)
          case atStart => exact ⟨_, k + 1, rfl, by go_num, by have := HK2.out; omega, by omega, rfl⟩
          case round =>
            obtain ⟨L, J, rfl, rfl, hJ, hL, rfl⟩ := hrel
            by_cases hJ2 : J < 2
            · have hd5 : decide ((J : Int) < 2) = true := by simp; omega
              have s3 : IntKind.i64.wrap (L * 16) = L * 16 := by rw [IntKind.wrap_i64]; omega
              go_wp2_with fail
              go_roundw
              case rel => exact ⟨_, J + 1, rfl, by go_num, by omega, by omega, by trivial⟩
              case measure => simp [intOf]; omega
            · have hd5 : decide ((J : Int) < 2) = false := by simp; omega
              have hd6 : decide ((255 : Int) < L) = false := by simp; omega
              have hqq : (q : Int) + 1 ≤ 2000 := by have := HQ.out; have := HP.out; have := HK2.out; omega
              go_wp2_with fail
              have eq1 : p + (k + 1) = q + 1 := by have := HQ.out; omega
              have hk2 := HK2.out
              refine ⟨⟨k + 1, _, by omega, rfl, by go_num, HN.out, ?_, BZ.out.trans HST.out.2.1⟩, ?_⟩
              · unfold Hid; rw [eq1]; exact HST.out.1
              · simp only [intOf]; omega
        · skip
          have hb : hexD c = none := by unfold hexD; rw [if_neg (by omega), if_neg (by omega), if_neg (by omega)]
          have he := HBD1.out hb
          clear HBD1 HNX1 HE
          go_wp2_with fail
          go_loopw [11, 12] (fun l j wr => ∃ (L : Int) (J : Nat), l = .int .i64 L ∧ j = .int .i64 (J : Int) ∧ J ≤ 2 ∧ wr = z) (fun _ j _ => 2 - (intOf j).toNat)
          case atStart => exact ⟨_, k + 1, rfl, by go_num, by have := HK2.out; omega, rfl⟩
          case round =>
            obtain ⟨L, J, rfl, rfl, hJ, rfl⟩ := hrel
            by_cases hJ2 : J < 2
            · have hd5 : decide ((J : Int) < 2) = true := by simp; omega
              go_wp2_with fail
              go_roundw
              case rel => exact ⟨_, J + 1, rfl, by go_num, by omega, by trivial⟩
              case measure => simp [intOf]; omega
            · have hd5 : decide ((J : Int) < 2) = false := by simp; omega
              go_wp2_with (go_at_call 34; refine (rfail_any _ DZ.out).mono ?_; rintro e w1 ⟨rfl, b1⟩; (try dsimp only); have B1 := hidIt b1; clear b1)
              go_ret
              exact ⟨by rw [he]; rfl, BZ.out.trans B1.out⟩
        · skip
          have hb : hexD c = some (c - 97 + 10) := by unfold hexD; rw [if_neg (by omega), if_pos (by omega)]
          have HN := hidIt (HNX1.out _ hb)
          have hrg := HRG.out
          have s1 : IntKind.i64.wrap (16 * m) = 16 * m := by rw [IntKind.wrap_i64]; omega
          have s2 : IntKind.i64.wrap (16 * m + (c - 97 + 10)) = 16 * m + (c - 97 + 10) := by rw [IntKind.wrap_i64]; omega
          have hdn : decide ((c - 97 + 10) < 0) = false := by simp; omega
          have HST := hidIt (DZ.out.step (q + 1))
          have ec : ((q + 1 : Nat) : Int) = (q : Int) + 1 := by omega
          rw [ec] at HST
          clear HBD1 HNX1 HE hb
          go_wp2_with fail
          go_loopw [11, 12] (fun l j wr => ∃ (L : Int) (J : Nat), l = .int .i64 L ∧ j = .int .i64 (J : Int) ∧ J ≤ 2 ∧ (1 ≤ J ∧ 0 ≤ L ∧ L ≤ 255 ∧ (J ≤ 1 → L ≤ 15)) ∧ wr = z) (fun _ j _ => 2 - (intOf j).toNat)
          case atStart => exact ⟨_, k + 1, rfl, by go_num, by have := HK2.out; omega, by omega, rfl⟩
          case round =>
            obtain ⟨L, J, rfl, rfl, hJ, hL, rfl⟩ := hrel
            by_cases hJ2 : J < 2
            · have hd5 : decide ((J : Int) < 2) = true := by simp; omega
              have s3 : IntKind.i64.wrap (L * 16) = L * 16 := by rw [IntKind.wrap_i64]; omega
              go_wp2_with fail
              go_roundw
              case rel => exact ⟨_, J + 1, rfl, by go_num, by omega, by omega, by trivial⟩
              case measure => simp [intOf]; omega
            · have hd5 : decide ((J : Int) < 2) = false := by simp; omega
              have hd6 : decide ((255 : Int) < L) = false := by simp; omega
              have hqq : (q : Int) + 1 ≤ 2000 := by have := HQ.out; have := HP.out; have := HK2.out; omega
              go_wp2_with fail
              have eq1 : p + (k + 1) = q + 1 := by have := HQ.out; omega
              have hk2 := HK2.out
              refine ⟨⟨k + 1, _, by omega, rfl, by go_num, HN.out, ?_, BZ.out.trans HST.out.2.1⟩, ?_⟩
              · unfold Hid; rw [eq1]; exact HST.out.1
              · simp only [intOf]; omega
        · skip
          have hb : hexD c = none := by unfold hexD; rw [if_neg (by omega), if_neg (by omega), if_neg (by omega)]
          have he := HBD1.out hb
          clear HBD1 HNX1 HE
          go_wp2_with fail
          go_loopw [11, 12] (fun l j wr => ∃ (L : Int) (J : Nat), l = .int .i64 L ∧ j = .int .i64 (J : Int) ∧ J ≤ 2 ∧ wr = z) (fun _ j _ => 2 - (intOf j).toNat)
          case atStart => exact ⟨_, k + 1, rfl, by go_num, by have := HK2.out; omega, rfl⟩
          case round =>
            obtain ⟨L, J, rfl, rfl, hJ, rfl⟩ := hrel
            by_cases hJ2 : J < 2
            · have hd5 : decide ((J : Int) < 2) = true := by simp; omega
              go_wp2_with fail
              go_roundw
              case rel => exact ⟨_, J + 1, rfl, by go_num, by omega, by trivial⟩
              case measure => simp [intOf]; omega
            · have hd5 : decide ((J : Int) < 2) = false := by simp; omega
              go_wp2_with (go_at_call 34; refine (rfail_any _ DZ.out).mono ?_; rintro e w1 ⟨rfl, b1⟩; (try dsimp only); have B1 := hidIt b1; clear b1)
              go_ret
              exact ⟨by rw [he]; rfl, BZ.out.trans B1.out⟩
    · obtain rfl : k = 2 := by omega
      have he : hx2 src p = some m := by
        rcases HS.out with ⟨e, _⟩ | ⟨e, _⟩ | ⟨_, e⟩
        · omega
        · omega
        · exact e
      have hd0 : decide (((2 : Nat) : Int) < 2) = false := by simp
      go_wp2_with fail
      go_ret
      exact ⟨by rw [he]; rfl, HB.out⟩
end Go.Proofs.YtipnifenahhkoaaDoor
