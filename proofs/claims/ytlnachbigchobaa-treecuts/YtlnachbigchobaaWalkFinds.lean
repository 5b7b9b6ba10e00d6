/- TreeFinds. -/
import Derived.Test.YtlnachbigchobaaFind
import Derived.Test.YtlnachbigchobaaUpto
namespace Go.Proofs.Ytlnachbigchobaa
open Go.RowKit

theorem OwnR.form1 {w : World} {base : Nat} {e : TypeId} {v : Value} {xs : List It} (h : OwnR w base e v xs) : ∃ ao cap, v = .slice ao xs.length cap := by
  obtain ⟨ao, cap, hv, _⟩ := h.rd
  exact ⟨ao, cap, hv⟩
theorem OwnR.lit1 (w : World) (e : TypeId) (x : It) : OwnR (w.alloc (.cells #[.int .i64 x.1, .int .i64 x.2] e)) w.heap.size e (.slice (some ⟨w.heap.size, 0, none⟩) 1 1) [x] := by
  have h := World.ownsRow_lit (base := w.heap.size) (e := e) (size := 2) w #[.int .i64 x.1, .int .i64 x.2] 1 (Nat.le_refl _) (by simp [maxLen]) (by simp)
  simpa [OwnR, flat] using h
theorem fnd_upto (xs : List It) (k n : Int) : (rA.fnd k n Rs.zero xs ≤ xs.length + 1) ∧ (rA.fnd k n Rs.zero xs ≤ xs.length → n ≤ Rs.key (rA.su (xs.take (rA.fnd k n Rs.zero xs))) k) ∧ (∀ i, i < rA.fnd k n Rs.zero xs → Rs.key (rA.su (xs.take i)) k < n) := by
  refine ⟨rA.fnd_le k n xs Rs.zero, fun h => ?_, fun i h => ?_⟩
  · have := rA.fnd_hit k n xs Rs.zero rA.okz h
    have e : rA.add Rs.zero (rA.su (xs.take (rA.fnd k n Rs.zero xs))) = rA.su (xs.take (rA.fnd k n Rs.zero xs)) := rA.zadd _ (rA.ok _)
    rw [e] at this
    exact this
  · have := rA.fnd_less k n xs Rs.zero i rA.okz h
    have e : rA.add Rs.zero (rA.su (xs.take i)) = rA.su (xs.take i) := rA.zadd _ (rA.ok _)
    rw [e] at this
    exact this
theorem su_first (xs : List It) : 1 ≤ Rs.key (rA.su ((1, 1) :: xs)) 0 := by
  rw [Alg.su_cons]
  have := rA.mono (rA.meas (1, 1)) (rA.su xs) 0 (rA.okm _) (rA.ok _)
  have e : rA.key (rA.meas ((1 : Int), (1 : Int))) 0 = 1 := by decide
  rw [e] at this
  exact this

set_option maxRecDepth 100000 in
set_option maxHeartbeats 4000000 in
theorem law_finds (v : Value) (zs : List It) (k n : Int) (w : World) (h : RdR w v zs) (_hz : 0 ≤ 0) :
    Calls Try.prog 4 #[v, .int .i64 k, .int .i64 n] w fun e w' => e = .returned (.bool true) ∧ Below w.heap.size w w' := by
  have HR := hidIt h
  obtain ⟨ao, cap, rfl, _⟩ := h
  by_cases g0 : 1099511627776 < zs.length
  · have g0' : (1099511627776 : Int) < (zs.length : Int) := by omega
    go_enter Try.func4, Try.ntmps4
    go_wp2_with fail
    go_ret
    exact ⟨rfl, Below.refl _ _⟩
  have g0' : ¬ (1099511627776 : Int) < (zs.length : Int) := by omega
  obtain ⟨l, hl⟩ : ∃ l, l = ((1 : Int), (1 : Int)) :: zs := ⟨_, rfl⟩
  have HLL := hidIt hl
  have hlen : l.length ≤ 1099511627777 := by rw [hl, List.length_cons]; omega
  have HWT : Hid (wt l ≤ 4611686018427387904) := by have := wt_le l; unfold Hid; omega
  have HLE : Hid (zs.length ≤ 1099511627776) := by unfold Hid; omega
  clear hl g0
  obtain ⟨f1, f2, f3⟩ := fnd_upto l k n
  have HF2 := hidIt f2
  have HF3 := hidIt f3
  have HS1 : Hid (1 ≤ Rs.key (rA.su l) 0) := by rw [HLL.out]; exact su_first zs
  clear f2 f3
  generalize hF : rA.fnd k n Rs.zero l = F at *
  have EF := hidIt hF
  clear hF
  go_enter Try.func4, Try.ntmps4
  go_upto_region 4 with (at_builtin; refine wpList_append_runs rfl _ _ 22 rfl w.heap.size 24 Try.info_run Try.underlying22 _ [(1, 1)] rfl (OwnR.lit1 w 24 (1, 1)) _ zs rfl (HR.out.ext (ext_alloc (Below.refl _ _) _)) (by have := HLE.out; simp only [List.length_cons, List.length_nil]; omega) (by simp) ?_; intro o1 w1 hO hg; have HB1 := hidIt (OwnR.below (ext_alloc (Below.refl _ _) _) (OwnR.lit1 w 24 (1, 1)) hg); rw [List.singleton_append, ← HLL.out] at hO; have HO := hidIt hO; obtain ⟨ao1, cap1, rfl⟩ := hO.form1; clear hO hg)
  go_wp2_with fail
  refine (Of_any _ l w1 HO.out.rd HWT.out).mono ?_
  rintro e w2 ⟨u, rfl, hT, hb2⟩
  have HT := hidIt hT
  have HB2 := hidIt (ext_trans HB1.out hb2)
  clear hT hb2
  obtain ⟨w3, hw3⟩ : ∃ w3, w3 = w2.alloc (.cells #[.pointer u] 39) := ⟨_, rfl⟩
  have hb3 : Below w2.heap.size w2 w3 := by rw [hw3]; exact ext_alloc (Below.refl _ _) _
  have HT3 := hidIt (HT.out.ext hb3)
  have HB3 := hidIt (ext_trans HB2.out hb3)
  have q0 : w3.cell? ⟨w2.heap.size, 0, none⟩ = some (.pointer u) := by rw [hw3]; simp
  have hq : w2.heap.size < w3.heap.size := by rw [hw3]; simp
  have HC : Hid (∀ w', Below w3.heap.size w3 w' → w'.cell? ⟨w2.heap.size, 0, none⟩ = some (.pointer u) ∧ Below w.heap.size w w' ∧ TT w' (.agg #[.pointer u]) l) := fun w' hb => ⟨(hb.cell (p := ⟨w2.heap.size, 0, none⟩) hq).trans q0, HB3.out.trans (hb.mono HB3.out.size), HT3.out.ext hb⟩
  clear hb3
  go_upto_region 5 with fail
  rw [← hw3]
  clear hw3
  generalize w2.heap.size = tb at *
  go_wp2_with fail
  refine (Sum_any u l w3 HT3.out).mono ?_
  rintro e w4 ⟨s, HS, rfl, hb4⟩
  have H4 := hidIt hb4
  have hk0 : 1 ≤ Rs.key s 0 := by rw [HS.out]; exact HS1.out
  have e4 : Below w3.heap.size w3 (w4.alloc (.cells #[.int .i64 s.l, .int .i64 s.s, .int .i64 s.f, .int .i64 s.z] 26)) := ext_alloc hb4 _
  obtain ⟨w5, hw5⟩ : ∃ w5, w5 = w4.alloc (.cells #[.int .i64 s.l, .int .i64 s.s, .int .i64 s.f, .int .i64 s.z] 26) := ⟨_, rfl⟩
  have hS5 : Blk 26 w5 w4.heap.size s := by rw [hw5]; exact Blk.new _ _ _
  rw [← hw5] at e4
  have H5 := hidIt e4
  clear hb4 e4
  go_upto_region 6 with fail
  rw [← hw5]
  clear hw5 q0
  generalize w4.heap.size = sb at *
  obtain ⟨q0, _, t5⟩ := HC.out w5 H5.out
  go_wp2_with fail
  refine (Size_any u l w5 t5).mono ?_
  rintro e w6 ⟨rfl, hb6⟩
  have H6 := hidIt (ext_trans H5.out hb6)
  obtain ⟨s0, s1, s2, s3, _⟩ := (hS5.ext hb6).cells
  clear hb6 q0 t5
  go_wp2_with fail
  refine (Key_any s 0 w6).mono ?_
  rintro e w7 ⟨rfl, hb7⟩
  have H7 := hidIt (ext_trans H6.out hb7)
  clear hb7 s0 s1 s2 s3
  generalize Rs.key s 0 = k0 at *
  have hk0' : ¬ k0 < 1 := by omega
  obtain ⟨q0, _, t7⟩ := HC.out w7 H7.out
  go_wp2_with fail
  refine (Find_any u l k n w7 t7 HWT.out).mono ?_
  rintro e w8 ⟨rfl, hb8⟩
  have H8 := hidIt (ext_trans H7.out hb8)
  rw [EF.out]
  clear hb8 q0 t7
  obtain ⟨q0, _, t8⟩ := HC.out w8 H8.out
  have hF0 : ¬ (F : Int) < 0 := by omega
  have hF0d : decide ((F : Int) < 0) = false := by simp
  have hF1 : ¬ (l.length : Int) + 1 < (F : Int) := by omega
  by_cases hA : F ≤ l.length
  · have hA1 : (F : Int) ≤ (l.length : Int) := by omega
    have hA2 : (F : Int) ≤ 9223372036854775807 := by omega
    go_wp2_with fail
    refine (Upto_any u l (F : Int) w8 t8 HWT.out hA2).mono ?_
    rintro e w9 ⟨s9, HS9, rfl, hb9⟩
    have H9 := hidIt (ext_trans H8.out hb9)
    have hk9 : n ≤ Rs.key s9 k := by rw [HS9.out, show (F : Int).toNat = F by omega]; exact HF2.out hA
    clear hb9 q0 t8
    go_wp2_with fail
    refine (Key_any s9 k _).mono ?_
    rintro e w10 ⟨rfl, hb10⟩
    have H10 := hidIt (ext_trans (ext_alloc H9.out _) hb10)
    clear hb10
    generalize Rs.key s9 k = k9 at *
    have hk9' : ¬ k9 < n := by omega
    obtain ⟨q0, _, t10⟩ := HC.out w10 H10.out
    by_cases hZ : F = 0
    · have hF4 : ¬ (0 : Int) < (F : Int) := by omega
      have HZ := hidIt hZ
      clear hZ
      go_wp2_with fail
      go_ret
      exact ⟨rfl, (HC.out _ H10.out).2.1⟩
    · have hF3 : (0 : Int) < (F : Int) := by omega
      have hlb : (F : Int) - 1 ≤ 9223372036854775807 := by omega
      go_wp2_with fail
      refine (Upto_any u l ((F : Int) - 1) w10 t10 HWT.out hlb).mono ?_
      rintro e wa ⟨sa, HSA, rfl, hba⟩
      have HA1 := hidIt (ext_trans H10.out hba)
      have hka : Rs.key sa k < n := by rw [HSA.out, show ((F : Int) - 1).toNat = F - 1 by omega]; exact HF3.out (F - 1) (by omega)
      clear hba
      go_wp2_with fail
      refine (Key_any sa k _).mono ?_
      rintro e wb ⟨rfl, hbb⟩
      have HB9 := hidIt (ext_trans (ext_alloc HA1.out _) hbb)
      clear hbb
      generalize Rs.key sa k = kz at *
      have hka' : ¬ n ≤ kz := by omega
      have hkad : decide (n ≤ kz) = false := by simp; omega
      go_wp2_with fail
      go_ret
      exact ⟨rfl, (HC.out _ HB9.out).2.1⟩

  · have hA1 : ¬ (F : Int) ≤ (l.length : Int) := by omega
    have hF3 : (0 : Int) < (F : Int) := by omega
    have hlb : (F : Int) - 1 ≤ 9223372036854775807 := by omega
    go_wp2_with fail
    refine (Upto_any u l ((F : Int) - 1) w8 t8 HWT.out hlb).mono ?_
    rintro e wa ⟨sa, HSA, rfl, hba⟩
    have HA1 := hidIt (ext_trans H8.out hba)
    have hka : Rs.key sa k < n := by rw [HSA.out, show ((F : Int) - 1).toNat = F - 1 by omega]; exact HF3.out (F - 1) (by omega)
    clear hba
    go_wp2_with fail
    refine (Key_any sa k _).mono ?_
    rintro e wb ⟨rfl, hbb⟩
    have HB9 := hidIt (ext_trans (ext_alloc HA1.out _) hbb)
    clear hbb
    generalize Rs.key sa k = kz at *
    have hka' : ¬ n ≤ kz := by omega
    have hkad : decide (n ≤ kz) = false := by simp; omega
    go_wp2_with fail
    go_ret
    exact ⟨rfl, (HC.out _ HB9.out).2.1⟩
end Go.Proofs.Ytlnachbigchobaa
