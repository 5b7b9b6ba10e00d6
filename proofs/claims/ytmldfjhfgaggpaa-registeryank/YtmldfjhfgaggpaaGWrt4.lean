/- The law's writes. -/
import Derived.Test.YtmldfjhfgaggpaaGWrt
import Derived.Test.YtmldfjhfgaggpaaGPub2
namespace Go.Proofs.Ytmldfjhfgaggpaa
open Go.RowKit
variable {F : Nat → Prop}

set_option maxRecDepth 100000 in
set_option maxHeartbeats 8000000 in
theorem writes3_any {B N : Nat} (w : World) (g : Nat) (z : Ws) (pv : Value) (i : Nat) (x : Sv) (v : Value) (hW : Wd B F N w g z pv) (hS : Syn z) (hi : i < 2) (hB : B ≤ w.heap.size) (hx : x.Ok) (hk : x.k = 3) (hv : RdS w v x.t) (ho : x.t ≠ [] → Old B v) (hN : N < 9223372036854770000) :
    Calls Try.prog 48 #[.pointer (some ⟨g, 0, none⟩), .int .i64 i, .agg (stc x v)] w (StR B (N + 9) w g) := by
  obtain ⟨ao, c, rfl, _⟩ := hv.len
  obtain ⟨w1, hw1, k0, hb1⟩ : ∃ w1, w1 = w.alloc (.cells (stc x (.slice ao x.t.length c)) 47) ∧ w1.heap[w.heap.size]? = some (.cells (stc x (.slice ao x.t.length c)) 47 (0, 0)) ∧ Below w.heap.size w w1 := ⟨_, rfl, heap_alloc_new _ _, ext_alloc (Below.refl _ _) _⟩
  obtain ⟨m, hm⟩ : ∃ m : Nat, m = x.t.length + 100 := ⟨_, rfl⟩
  have hml : (x.t.length : Int) ≤ (m : Int) := by omega
  have hB1 : B ≤ w1.heap.size := Nat.le_trans hB hb1.size
  have HD := hidIt (handed_any w1 g z pv _ x.t (hW.ext hb1) hB1 (hv.ext hb1) ho hx.t)
  unfold HnR at HD
  rw [← hm] at HD
  obtain ⟨c0, _, _, c4⟩ := cells5 k0
  have HM := hidIt hm
  have HX := hidIt hx
  have HS := hidIt hS
  have HI := hidIt hi
  have hil : (i : Int) < 2 := by omega
  have HO := hidIt ho
  have HNN := hidIt hN
  have HB1 := hidIt hb1
  have HK0 := hidIt k0
  have HFS := hidIt (show ¬ F w.heap.size from fun h => absurd (hW.fl _ h) (by omega))
  have HST := hidIt (Array.getElem?_eq_some_iff.1 k0).1
  have HBB := hidIt hB
  have HBL := hidIt (show Below B w w1 from hb1.mono hB)
  have HT := hidIt hx.t
  clear hW hS hi hB hx hv ho hN hm k0 hb1 hB1
  rw [hk] at c0
  have HKK := hidIt hk
  clear hk
  go_enter Try.func48, Try.ntmps48
  go_upto_region 1 with fail
  rw [← hw1]
  clear hw1
  go_upto_region 2 with (go_at_call 61; refine HD.out.mono ?_; rintro e w2 ⟨lb, pv2, F2, rfl, hw2, hf2, hl2, hls2, hr2, hb2, hkp2⟩; have HB2 := hidIt (HBL.out.trans hb2); have HLB := hidIt hl2; have I2 := hidIt (show Wr B F2 N w2 g z pv2 w.heap.size x (.slice ao x.t.length c) lb from ⟨hw2, (hkp2.same _ HST.out HFS.out).trans HK0.out, hls2, hr2, HO.out, hf2, by have := hb2.size; have := HB1.out.size; have := HBB.out; omega⟩); clear hw2 hf2 hl2 hls2 hr2 hb2 hkp2; (try dsimp only))
  clear c0 c4
  obtain ⟨c1, _, c0, c2, c3, c4⟩ := I2.out.cells HI.out
  rw [HKK.out] at c0
  have hsl : ((x.t.length : Int) ≤ (m : Int)) := hml
  have PY : Hid (Calls Try.prog 18 #[.pointer (some ⟨z.b i, 0, none⟩), .int .i64 x.n, .slice (some ⟨lb, 0, none⟩) x.t.length m] w2.drew (OpR F2 w2.drew (z.b i) (z.bm i) (N + 9) (setB (z.s i) x.n x.t))) := Set_any w2.drew (z.b i) (z.bm i) N (z.s i) x.n x.t _ (I2.out.drew.wd.bk i HI.out) (by have h := I2.out.drew.ls.rds HT.out; rw [← HM.out] at h; exact h) HX.out.n (by have := HNN.out; omega)
  go_upto_region 13 with fail
  go_region_held3 (fun w' => w'.cell? ⟨g, i, none⟩ = some (.pointer (some ⟨z.b i, 0, none⟩)) ∧ w'.cell? ⟨w.heap.size, 2, none⟩ = some (.int .i64 x.n) ∧ w'.cell? ⟨w.heap.size, 3, none⟩ = some (.int .i64 x.s)) (go_keep) (first | (go_at_call 18; refine PY.out.mono ?_; rintro e w3 ⟨rfl, hb3, hk3⟩; have J3 := hidIt (I2.out.drew.bank HI.out (Nat.le_add_right N 9) hb3 hk3 ((I2.out.wd.gs i HI.out).set _ _)); clear hb3 hk3 c0 c1 c2 c3 c4; obtain ⟨c1, c5, c0, c2, c3, c4⟩ := J3.out.1.cells HI.out; rw [HKK.out] at c0; (try dsimp only)))
  have RY : Hid (Calls Try.prog 64 #[.pointer (some ⟨z.q i, 0, none⟩), .int .i64 x.n, .slice ao x.t.length c] w3.drew (TkR F2 w3.drew (z.q i) (setB (z.s i) x.n x.t))) := by
    unfold Hid
    rw [HS.out i HI.out]
    exact r_Set_any w3.drew (z.q i) (z.d i) x.n _ x.t (J3.out.1.drew.wd.rb i HI.out) (J3.out.1.wd.gd i HI.out) J3.out.1.drew.rd HT.out
  clear PY
  go_upto_region 14 with fail
  go_region_held3 (fun w' => w'.cell? ⟨g, 2 + i, none⟩ = some (.pointer (some ⟨z.q i, 0, none⟩)) ∧ w'.cell? ⟨w.heap.size, 2, none⟩ = some (.int .i64 x.n) ∧ w'.cell? ⟨w.heap.size, 3, none⟩ = some (.int .i64 x.s) ∧ w'.cell? ⟨w.heap.size, 4, none⟩ = some (.slice ao x.t.length c)) (go_keep) (first | (go_at_call 64; refine RY.out.mono ?_; rintro e w4 ⟨rfl, hb4, hk4⟩; have J4 := hidIt (J3.out.1.drew.ref HI.out hb4 hk4 ((I2.out.wd.gs i HI.out).set _ _)); clear hb4 hk4 c0 c1 c2 c3 c4 c5; obtain ⟨c1, c5, c0, c2, c3, c4⟩ := J4.out.1.cells HI.out; rw [HKK.out] at c0; (try dsimp only)))
  have BA : Hid (Calls Try.prog 65 #[.slice (some ⟨lb, 0, none⟩) m m, .slice ao x.t.length c] w4 fun e w' => e = .returned (.bool true) ∧ BkR w4 lb w') := by
    have h := back_any w4 lb _ x.t J4.out.1.ls J4.out.1.rd HT.out
    rw [← HM.out] at h
    exact h
  clear RY
  generalize setB (z.s i) x.n x.t = res at *
  go_wp2_with (go_at_call 65; refine BA.out.mono ?_; rintro e w5 ⟨rfl, hb5⟩; have K5 := hidIt (J4.out.1.back HLB.out hb5); clear hb5; (try dsimp only))
  go_ret
  refine ⟨rfl, _, _, _, K5.out.1, HS.out.put i res.2, ?_⟩
  exact (((HB2.out.trans (Below.refl B w2).drew).trans J3.out.2).trans (Below.refl B w3).drew).trans (J4.out.2.trans K5.out.2)
end Go.Proofs.Ytmldfjhfgaggpaa
