/- alive, fits. -/
import Derived.Test.YtlnachbigchobaaWood
import Derived.Test.YtlnachbigchobaaSame
namespace Go.Proofs.Ytlnachbigchobaa
open Go.RowKit

theorem RdR.lit2 (w : World) (e : TypeId) (x y : It) : RdR (w.alloc (.cells #[.int .i64 x.1, .int .i64 x.2, .int .i64 y.1, .int .i64 y.2] e)) (.slice (some ⟨w.heap.size, 0, none⟩) 2 2) [x, y] := by
  have h := World.ownsRow_lit (base := w.heap.size) (e := e) (size := 2) w #[.int .i64 x.1, .int .i64 x.2, .int .i64 y.1, .int .i64 y.2] 2 (Nat.le_refl _) (by simp [maxLen]) (by simp)
  exact OwnR.rd (base := w.heap.size) (e := e) (xs := [x, y]) (by simpa [OwnR, flat] using h)

set_option maxRecDepth 100000 in
set_option maxHeartbeats 2000000 in
theorem alive_any (w : World) : Calls Try.prog 60 #[] w fun e w' => e = .returned (.bool true) ∧ Below w.heap.size w w' := by
  have hwt : wt [((5 : Int), (2 : Int)), (6, 3)] ≤ 4611686018427387904 := by decide
  have hsu : rA.su [((5 : Int), (2 : Int)), (6, 3)] = ⟨5, 2, 5, 6⟩ := by rfl
  have HW := hidIt hwt
  have HS := hidIt hsu
  clear hwt hsu
  go_enter Try.func60, Try.ntmps60
  go_wp2_with fail
  refine (Of_any _ [(5, 2), (6, 3)] _ (RdR.lit2 w 24 (5, 2) (6, 3)) HW.out).mono ?_
  rintro e w1 ⟨u, rfl, hT, hb1⟩
  have HB1 := hidIt (ext_trans (ext_alloc (Below.refl _ _) _) hb1)
  have HT := hidIt hT
  clear hT hb1
  obtain ⟨w2, hw2⟩ : ∃ w2, w2 = w1.alloc (.cells #[.pointer u] 39) := ⟨_, rfl⟩
  have hb2 : Below w1.heap.size w1 w2 := by rw [hw2]; exact ext_alloc (Below.refl _ _) _
  have q0 : w2.cell? ⟨w1.heap.size, 0, none⟩ = some (.pointer u) := by rw [hw2]; simp
  have hq : w1.heap.size < w2.heap.size := by rw [hw2]; simp
  have HT2 := hidIt (HT.out.ext hb2)
  have HB2 := hidIt (ext_trans HB1.out hb2)
  have HC : Hid (∀ w', Below w2.heap.size w2 w' → w'.cell? ⟨w1.heap.size, 0, none⟩ = some (.pointer u) ∧ TT w' (.agg #[.pointer u]) [(5, 2), (6, 3)]) := fun w' hb => ⟨(hb.cell (p := ⟨w1.heap.size, 0, none⟩) hq).trans q0, HT2.out.ext hb⟩
  clear hb2
  go_upto_region 2 with fail
  rw [← hw2]
  clear hw2
  generalize w1.heap.size = tb at *
  go_wp2_with fail
  refine (at_in u [(5, 2), (6, 3)] 1 w2 HT2.out HW.out (by decide)).mono ?_
  rintro e w3 ⟨rfl, hb3⟩
  have H3 := hidIt hb3
  clear hb3 q0
  obtain ⟨q0, t3⟩ := HC.out (w3.alloc (.cells #[.int .i64 6, .int .i64 3] 24)) (ext_alloc H3.out _)
  have HT3 := hidIt t3
  clear t3
  have x0 : (w3.alloc (.cells #[.int .i64 6, .int .i64 3] 24)).cell? ⟨w3.heap.size, 0, none⟩ = some (.int .i64 6) := by simp
  have x1 : (w3.alloc (.cells #[.int .i64 6, .int .i64 3] 24)).cell? ⟨w3.heap.size, 1, none⟩ = some (.int .i64 3) := by simp
  obtain ⟨w4, hw4⟩ : ∃ w4, w4 = w3.alloc (.cells #[.int .i64 6, .int .i64 3] 24) := ⟨_, rfl⟩
  have hx : w3.heap.size < w4.heap.size := by rw [hw4]; simp
  have H4 : Hid (Below w2.heap.size w2 w4) := by rw [hw4]; exact ext_alloc H3.out _
  rw [← hw4] at q0 HT3 x0 x1
  go_upto_region 3 with fail
  rw [← hw4]
  clear hw4 H3
  generalize w3.heap.size = xb at *
  go_wp2_with fail
  refine (Sum_any u _ w4 HT3.out).mono ?_
  rintro e w5 ⟨s, hs, rfl, hb5⟩
  obtain rfl : s = ⟨5, 2, 5, 6⟩ := hs.out.trans HS.out
  have H5 := hidIt (ext_trans H4.out hb5)
  have y0 := (hb5.cell (p := ⟨xb, 0, none⟩) hx).trans x0
  have y1 := (hb5.cell (p := ⟨xb, 1, none⟩) hx).trans x1
  have hx5 : xb < w5.heap.size := by have := hb5.size; omega
  clear hb5 q0 x0 x1 hs
  obtain ⟨w6, hw6⟩ : ∃ w6, w6 = w5.alloc (.cells #[.int .i64 5, .int .i64 2, .int .i64 5, .int .i64 6] 26) := ⟨_, rfl⟩
  have hS6 : Blk 26 w6 w5.heap.size ⟨5, 2, 5, 6⟩ := by rw [hw6]; exact Blk.new _ w5 ⟨5, 2, 5, 6⟩
  have e6 : Below w5.heap.size w5 w6 := by rw [hw6]; exact ext_alloc (Below.refl _ _) _
  have x0 := (e6.cell (p := ⟨xb, 0, none⟩) hx5).trans y0
  have x1 := (e6.cell (p := ⟨xb, 1, none⟩) hx5).trans y1
  have hx6 : xb < w6.heap.size := by have := e6.size; omega
  have H6 := hidIt (ext_trans H5.out e6)
  obtain ⟨q0, t6⟩ := HC.out w6 H6.out
  clear e6 y0 y1
  go_upto_region 4 with fail
  rw [← hw6]
  clear hw6
  generalize w5.heap.size = sb at *
  go_wp2_with fail
  refine (Size_any u _ w6 t6).mono ?_
  rintro e w7 ⟨rfl, hb7⟩
  obtain ⟨s0, s1, s2, s3, _⟩ := (hS6.ext hb7).cells
  have y0 := (hb7.cell (p := ⟨xb, 0, none⟩) hx6).trans x0
  have y1 := (hb7.cell (p := ⟨xb, 1, none⟩) hx6).trans x1
  have H7 := hidIt (ext_trans H6.out hb7)
  clear hb7 q0 t6 x0 x1
  simp only [List.length_cons, List.length_nil] at *
  go_wp2_with fail
  go_ret
  exact ⟨rfl, ext_trans HB2.out H7.out⟩

/-- How many things a script has. -/
def tot : List Sp → Nat
  | [] => 0
  | o :: os => o.zs.length + tot os
theorem tot_app (a b : List Sp) : tot (a ++ b) = tot a + tot b := by
  induction a with
  | nil => simp [tot]
  | cons x a ih => simp only [List.cons_append, tot, ih]; omega
theorem tot_take (os : List Sp) (k : Nat) (o : Sp) (h : os[k]? = some o) : tot (os.take (k + 1)) = tot (os.take k) + o.zs.length := by
  have hk := (List.getElem?_eq_some_iff.1 h).1
  have e : os[k] = o := (List.getElem?_eq_some_iff.1 h).2
  rw [List.take_succ_eq_append_getElem hk, tot_app, e]
  simp [tot]
theorem tot_le (os : List Sp) (k : Nat) : tot (os.take k) ≤ tot os := by
  have := tot_app (os.take k) (os.drop k)
  rw [List.take_append_drop] at this
  omega

/-- What fits may answer. -/
def Fit (os : List Sp) (e : Ending) : Prop := ∃ b, e = .returned (.bool b) ∧ (b = true → tot os + 1 ≤ 4194304 ∧ os.length ≤ 67108864)
theorem Fit.no (os : List Sp) : Fit os (.returned (.bool false)) := ⟨false, rfl, by simp⟩
theorem Fit.yes {os : List Sp} (b : Bool) (h : tot os + 1 ≤ 4194304 ∧ os.length ≤ 67108864) : Fit os (.returned (.bool b)) := ⟨b, rfl, fun _ => h⟩

set_option maxRecDepth 100000 in
set_option maxHeartbeats 2000000 in
theorem fits_any (v : Value) (os : List Sp) (w : World) (h : RdO w v os) :
    Calls Try.prog 36 #[v] w fun e w' => Fit os e ∧ w' = w := by
  obtain ⟨ao, cap, rfl, hl, hm, hby, hc⟩ := h
  unfold maxLen at hm
  have HC := hidIt hc
  clear hc
  go_enter Try.func36, Try.ntmps36
  go_wp2_with fail
  go_loopw [3, 4, 5] (fun n m i wr => ∃ a b k : Nat, k ≤ os.length ∧ n = .int .i64 a ∧ m = .int .i64 b ∧ i = .int .i64 k ∧ Hid (a = tot (os.take k) + 1) ∧ a ≤ 4611686018427387904 ∧ b ≤ k + 1 ∧ w = wr) (fun _ _ i _ => os.length - (intOf i).toNat)
  case atStart => exact ⟨1, 1, 0, Nat.zero_le _, rfl, rfl, rfl, rfl, by omega, by omega, rfl⟩
  case round =>
    obtain ⟨a, b, k, hk, rfl, rfl, rfl, HA, ha, hb, rfl⟩ := hrel
    by_cases hlt : k < os.length
    · have hlt' : (k : Int) < (os.length : Int) := by omega
      by_cases hn : a ≤ 4194304
      · have hn' : (a : Int) ≤ 4194304 := by omega
        obtain ⟨bb, off, rfl, hbl, hcc⟩ := HC.out (by omega)
        obtain ⟨o, ho⟩ : ∃ o, os[k]? = some o := ⟨os[k], List.getElem?_eq_getElem hlt⟩
        have hO := hcc k o ho
        have c0 : w.cell? ⟨bb, off + k * 7, none⟩ = some (.int .i64 o.kind) := hO.c0
        have c6 : w.cell? ⟨bb, off + k * 7 + 6, none⟩ = some (.slice o.ai o.zs.length o.ci) := hO.c6
        have hz := hO.hz
        have HT : Hid (a + o.zs.length = tot (os.take (k + 1)) + 1) := by unfold Hid; rw [tot_take os k o ho, HA.out]; omega
        generalize o.zs.length = z at *
        generalize o.kind = kd at *
        clear hcc hO ho
        by_cases k1 : kd = 1
        · have k1' : (kd == 1) = true := by simpa using k1
          go_wp2_with fail
          go_roundw
          case rel => exact ⟨a + z, b + 1, k + 1, by omega, by go_num, by go_num, by go_num, HT.out, by omega, by omega, by trivial⟩
          case measure => simp [intOf]; omega
        · have k1' : (kd == 1) = false := by simpa using k1
          by_cases k2 : kd = 2
          · go_wp2_with fail
            go_roundw
            case rel => exact ⟨a + z, b + 1, k + 1, by omega, by go_num, by go_num, by go_num, HT.out, by omega, by omega, by trivial⟩
            case measure => simp [intOf]; omega
          · go_wp2_with fail
            go_roundw
            case rel => exact ⟨a + z, b, k + 1, by omega, by go_num, rfl, by go_num, HT.out, by omega, by omega, by trivial⟩
            case measure => simp [intOf]; omega
      · have hn' : ¬ (a : Int) ≤ 4194304 := by omega
        have hnd : decide ((a : Int) ≤ 4194304) = false := by simp; omega
        go_wp2_with fail
        go_ret
        exact ⟨Fit.no _, rfl⟩
    · obtain rfl : k = os.length := by omega
      have hge : ¬ (os.length : Int) < (os.length : Int) := by omega
      have hged : decide ((os.length : Int) < (os.length : Int)) = false := by simp
      by_cases hn : a ≤ 4194304
      · have hn' : (a : Int) ≤ 4194304 := by omega
        by_cases hq : os.length ≤ 67108864
        · have hq' : (os.length : Int) ≤ 67108864 := by omega
          have HOK : Hid (tot os + 1 ≤ 4194304 ∧ os.length ≤ 67108864) := by have := HA.out; rw [List.take_length] at this; exact ⟨by omega, hq⟩
          have m1 : (b : Int) * (a : Int) ≤ 67108866 * 4194304 := Int.mul_le_mul (by omega) hn' (by omega) (by omega)
          have m2 : (os.length : Int) * (a : Int) ≤ 67108864 * 4194304 := Int.mul_le_mul hq' hn' (by omega) (by omega)
          have m3 : 0 ≤ (b : Int) * (a : Int) := Int.mul_nonneg (by omega) (by omega)
          have m4 : 0 ≤ (os.length : Int) * (a : Int) := Int.mul_nonneg (by omega) (by omega)
          obtain ⟨p1, hp1⟩ : ∃ p, (b : Int) * (a : Int) = p := ⟨_, rfl⟩
          obtain ⟨p2, hp2⟩ : ∃ p, (os.length : Int) * (a : Int) = p := ⟨_, rfl⟩
          rw [hp1] at m1 m3
          rw [hp2] at m2 m4
          by_cases r1 : p1 ≤ 4194304
          · go_wp2_with fail
            go_ret
            exact ⟨Fit.yes _ HOK.out, rfl⟩
          · have r1d : decide (p1 ≤ 4194304) = false := by simp; omega
            go_wp2_with fail
            go_ret
            exact ⟨Fit.no _, rfl⟩
        · have hq' : ¬ (os.length : Int) ≤ 67108864 := by omega
          have hqd : decide ((os.length : Int) ≤ 67108864) = false := by simp; omega
          go_wp2_with fail
          go_ret
          exact ⟨Fit.no _, rfl⟩
      · have hn' : ¬ (a : Int) ≤ 4194304 := by omega
        have hnd : decide ((a : Int) ≤ 4194304) = false := by simp; omega
        go_wp2_with fail
        go_ret
        exact ⟨Fit.no _, rfl⟩
end Go.Proofs.Ytlnachbigchobaa
