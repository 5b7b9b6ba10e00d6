/- Words: Key. -/
import Derived.Test.YtcdamhgblolofaaWMem
import Derived.Deep.RegionHeld3
import Derived.Deep.CutRange
namespace Go.Proofs.Ytcdamhgblolofaa.W
open Go.RowKit

theorem slot10_any (i : Int) (w : World) : Calls Try.prog 25 #[.int .i64 i, .int .i64 10] w fun e w' => e = .returned (.int .i64 (kd i : Nat)) ∧ w' = w := by
  have h1 : Int.tmod i 11 < 11 := Int.tmod_lt_of_pos i (by omega)
  have h2 : -11 < Int.tmod i 11 := by
    have := Int.tmod_lt_of_pos (-i) (b := 11) (by omega)
    rw [Int.neg_tmod] at this
    omega
  have h3 := Int.mul_tdiv_add_tmod i 11
  generalize hq : Int.tmod i 11 = q at *
  generalize Int.tdiv i 11 = d at *
  have hk : Hid (((kd i : Nat) : Int) = if q < 0 then q + 11 else q) := by unfold Hid kd; split <;> omega
  clear h3
  by_cases hs : q < 0
  · have HK : Hid (((kd i : Nat) : Int) = q + 10 + 1) := by have := hk.out; rw [if_pos hs] at this; unfold Hid; omega
    clear hk
    go_enter Try.func25, Try.ntmps25
    go_wp2_with fail
    go_ret
    exact ⟨ret_int (by rw [HK.out]), rfl⟩
  · have HK : Hid (((kd i : Nat) : Int) = q) := by have := hk.out; rw [if_neg hs] at this; exact this
    clear hk
    go_enter Try.func25, Try.ntmps25
    go_wp2_with fail
    go_ret
    exact ⟨ret_int (by rw [HK.out]), rfl⟩

theorem cnt_snoc (k : Nat) (l : List UInt8) (j : Nat) (h : j < l.length) : cnt k (l.take (j + 1)) = cnt k (l.take j) + if l[j].toNat % 11 = k then 1 else 0 := by
  rw [List.take_succ_eq_append_getElem h, cnt, cnt, List.filter_append, List.length_append]
  congr 1
  by_cases hh : l[j].toNat % 11 = k <;> simp [hh]

set_option maxRecDepth 100000 in
set_option maxHeartbeats 2000000 in
theorem Key_any (a : Ws) (k : Int) (w : World) (hn : 0 ≤ a.n) (hb : a.t.size + 2 * a.n ≤ 9223372036854775807) : Calls Try.prog 55 #[.agg #[.string a.t, .int .i64 a.n], .int .i64 k] w fun e w' => e = .returned (.int .i64 (Ws.key a k)) ∧ Below w.heap.size w w' := by
  obtain ⟨t, n⟩ := a
  simp only at *
  have hts : (t.size : Int) ≤ 9223372036854775807 := by omega
  by_cases e1 : k = 0
  · have HE : Hid (Ws.key ⟨t, n⟩ k = t.size) := by simp [Hid, Ws.key, e1]
    go_enter Try.func55, Try.ntmps55
    go_wp2_with fail
    go_ret
    exact ⟨ret_int HE.out.symm, ext_alloc (Below.refl _ _) _⟩
  by_cases e2 : k = 9
  · have HE : Hid (Ws.key ⟨t, n⟩ k = n) := by simp [Hid, Ws.key, e2]
    go_enter Try.func55, Try.ntmps55
    go_wp2_with fail
    go_ret
    exact ⟨ret_int HE.out.symm, ext_alloc (Below.refl _ _) _⟩
  by_cases e3 : k = -1099511627776
  · have HE : Hid (Ws.key ⟨t, n⟩ k = t.size + 2 * n) := by simp [Hid, Ws.key, e3]
    go_enter Try.func55, Try.ntmps55
    go_wp2_with fail
    go_ret
    exact ⟨ret_int HE.out.symm, ext_alloc (Below.refl _ _) _⟩
  by_cases e4 : k = 1099511627776
  · have HE : Hid (Ws.key ⟨t, n⟩ k = t.size + 2 * n) := by simp [Hid, Ws.key, e4]
    go_enter Try.func55, Try.ntmps55
    go_wp2_with fail
    go_ret
    exact ⟨ret_int HE.out.symm, ext_alloc (Below.refl _ _) _⟩
  have HE : Hid (Ws.key ⟨t, n⟩ k = cnt (kd k) t.data.toList) := by simp [Hid, Ws.key, e1, e2, e3, e4]
  obtain ⟨w0, hw0⟩ : ∃ w0, w0 = w.alloc (.cells #[.string t, .int .i64 n] 65) := ⟨_, rfl⟩
  have c0 : w0.cell? ⟨w.heap.size, 0, none⟩ = some (.string t) := by rw [hw0]; simp
  have hb0 : Below w.heap.size w w0 := by rw [hw0]; exact ext_alloc (Below.refl _ _) _
  have HB0 := hidIt hb0
  have hsz : t.data.toList.length = t.size := by rw [Array.length_toList]; rfl
  have HSZ := hidIt hsz
  have b1 : (k == 0) = false := by simpa using e1
  have b2 : (k == 9) = false := by simpa using e2
  have b3 : (k == -1099511627776) = false := by simpa using e3
  have b4 : (k == 1099511627776) = false := by simpa using e4
  clear hb0 hsz
  go_enter Try.func55, Try.ntmps55
  go_wp2_with fail
  rw [← hw0]
  clear hw0
  go_loopw [5, 6] (fun c i wr => ∃ m j : Nat, j ≤ t.size ∧ m ≤ j ∧ c = .int .i64 m ∧ i = .int .i64 j ∧ Hid (m = cnt (kd k) (t.data.toList.take j)) ∧ Hid (∃ nq, wr = w0.drewN nq)) (fun _ i _ => t.size - (intOf i).toNat)
  case atStart => exact ⟨0, 0, Nat.zero_le _, Nat.le_refl _, rfl, rfl, rfl, 0, rfl⟩
  case round =>
    obtain ⟨m, j, hj, hmj, rfl, rfl, HM, HD⟩ := hrel
    obtain ⟨nq, rfl⟩ := HD.out
    by_cases hlt : j < t.size
    · have hlt' : (j : Int) < (t.size : Int) := by omega
      have hjl : j < t.data.toList.length := by rw [HSZ.out]; exact hlt
      have ej : t.data.toList[j] = t[j]'hlt := by rw [Array.getElem_toList]; rfl
      have HC : Hid (cnt (kd k) (t.data.toList.take (j + 1)) = cnt (kd k) (t.data.toList.take j) + if (t[j]'hlt).toNat % 11 = kd k then 1 else 0) := by have := cnt_snoc (kd k) t.data.toList j hjl; rw [ej] at this; exact this
      have hwr : IntKind.i64.wrap (((t[j]'hlt).toNat : Nat) : Int) = (((t[j]'hlt).toNat : Nat) : Int) := by have := (t[j]'hlt).toNat_lt; rw [IntKind.wrap_i64]; omega
      have htm : Int.tmod (((t[j]'hlt).toNat : Nat) : Int) 11 = (((t[j]'hlt).toNat % 11 : Nat) : Int) := by rw [Int.tmod_eq_emod_of_nonneg (by omega)]; omega
      have HEQ : Hid (((IntKind.i64.wrap (((t[j]'hlt).toNat : Nat) : Int)).tmod 11 == ((kd k : Nat) : Int)) = decide ((t[j]'hlt).toNat % 11 = kd k)) := by
        unfold Hid
        rw [hwr, htm]
        by_cases h : (t[j]'hlt).toNat % 11 = kd k
        · rw [h]; simp
        · simp only [h, decide_false, beq_eq_false_iff_ne, ne_eq]; omega
      clear ej hwr htm hjl
      go_wp2_with fail
      go_region_held3 (fun w' => w'.cell? ⟨w.heap.size, 0, none⟩ = some (.string t)) (go_keep) (
        (go_at_call 25; refine (slot10_any k _).mono ?_; rintro e w1 ⟨rfl, hw1⟩; subst hw1))
      all_goals
        go_upto_if 42 with fail
        rw [HEQ.out]
        by_cases hq : (t[j]'hlt).toNat % 11 = kd k
        · have HC1 : Hid (m + 1 = cnt (kd k) (t.data.toList.take (j + 1))) := by have h1 := HC.out; rw [if_pos hq] at h1; have h2 := HM.out; unfold Hid; omega
          rw [decide_eq_true hq]
          clear HEQ HC hq
          go_wp2_with fail
          go_roundw
          case rel => exact ⟨m + 1, j + 1, by omega, by omega, by go_num, by go_num, HC1.out, _, rfl⟩
          case measure => simp [intOf]; omega
        · have HC1 : Hid (m = cnt (kd k) (t.data.toList.take (j + 1))) := by have h1 := HC.out; rw [if_neg hq] at h1; have h2 := HM.out; unfold Hid; omega
          rw [decide_eq_false hq]
          clear HEQ HC hq
          go_wp2_with fail
          go_roundw
          case rel => exact ⟨m, j + 1, by omega, by omega, rfl, by go_num, HC1.out, _, rfl⟩
          case measure => simp [intOf]; omega
    · obtain rfl : j = t.size := by omega
      have hge : ¬ (t.size : Int) < (t.size : Int) := by omega
      have HF : Hid ((m : Int) = Ws.key ⟨t, n⟩ k) := by rw [HE.out]; have := HM.out; rw [← HSZ.out, List.take_length] at this; unfold Hid; omega
      go_wp2_with fail
      go_ret
      exact ⟨ret_int HF.out, below_drewN HB0.out _⟩
end Go.Proofs.Ytcdamhgblolofaa.W
