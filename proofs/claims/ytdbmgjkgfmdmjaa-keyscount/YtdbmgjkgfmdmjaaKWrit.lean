/- written: the digits of a number. -/
import Derived.Test.YtdbmgjkgfmdmjaaKFd1
import Derived.Test.YtdbmgjkgfmdmjaaKAppI
namespace Go.Proofs.Ytdbmgjkgfmdmjaa
open Go.RowKit
theorem own_lit1 (w : World) (x : Int) (base : Nat) (hb : base ≤ w.heap.size) : OwnI (w.alloc (.cells #[.int .i64 x] 3)) base (.slice (some ⟨w.heap.size, 0, none⟩) 1 1) [x] :=
  ⟨rfl, .inr ⟨w.heap.size, 1, #[.int .i64 x], rfl, hb, heap_alloc_new _ _, Nat.le_refl _, by decide, rfl, rfl⟩⟩
theorem dg_step {N n : Nat} {acc : List Int} (hN : N ≤ 100000) (hn : n ≤ N) (h0 : 0 < n) (h : dg 20 N = dg 20 n ++ acc) : dg 20 N = dg 20 (n / 10) ++ ([48 + ((n % 10 : Nat) : Int)] ++ acc) := by
  rw [h, ← List.append_assoc]
  congr 1
  rw [show dg 20 n = if n = 0 then [] else dg 19 (n / 10) ++ [48 + ((n % 10 : Nat) : Int)] from rfl, if_neg (by omega), dg_fuel 19 20 (n / 10) (Nat.lt_of_le_of_lt (Nat.div_le_self _ _) (Nat.lt_of_le_of_lt hn (Nat.lt_of_le_of_lt hN (by decide)))) (by decide)]
set_option maxRecDepth 100000 in
set_option maxHeartbeats 4000000 in
theorem written_any (N : Nat) (hN : N ≤ 100000) (w : World) :
    Calls Try.prog 6 #[.int .i64 N] w fun e w' => ∃ v, e = .returned v ∧ OwnI w' w.heap.size v (dg 20 N) ∧ Below w.heap.size w w' := by
  go_enter Try.func6, Try.ntmps6
  go_upto_region 1 with fail
  go_wp2_with fail
  go_loopw [0, 3] (fun nv ov wr => ∃ (n : Nat) (ao : Option Addr) (ln cu : Nat) (acc : List Int), n ≤ N ∧ nv = .int .i64 n ∧ ov = .slice ao ln cu ∧ Hid (OwnI wr w.heap.size (.slice ao ln cu) acc) ∧ Hid (dg 20 N = dg 20 n ++ acc) ∧ Hid (Below w.heap.size w wr)) (fun nv _ _ => (RowKit.intOf nv).toNat)
  case atStart => exact ⟨N, none, 0, 0, [], Nat.le_refl _, rfl, rfl, OwnI.nil _ _, by unfold Hid; rw [List.append_nil], Below.refl _ _⟩
  case round =>
    obtain ⟨n, ao, ln, cu, acc, hn, rfl, rfl, HO, HD, HB⟩ := hrel
    have HAL : Hid (acc.length ≤ 20) := by
      unfold Hid
      have h1 := dg_len 20 N
      rw [HD.out, List.length_append] at h1
      omega
    by_cases h0 : 0 < n
    · have h0I : (n : Int) > 0 := by omega
      have hrm : Int.tmod (n : Int) 10 = ((n % 10 : Nat) : Int) := by rw [Int.tmod_eq_emod_of_nonneg (by omega)]; omega
      have hqt : Int.tdiv (n : Int) 10 = ((n / 10 : Nat) : Int) := by rw [Int.tdiv_eq_ediv_of_nonneg (by omega)]; omega
      have hm : n % 10 < 10 := Nat.mod_lt _ (by decide)
      have HST := hidIt (dg_step hN hn h0 HD.out)
      have hkN : n / 10 ≤ 100000 := by omega
      have HM : Hid (n / 10 < n) := by unfold Hid; omega
      clear HD
      generalize hdd : n % 10 = d at *
      generalize hqq : n / 10 = k at *
      have HQ := hidIt hqq
      clear hdd hqq
      go_upto_region 4 with (at_builtin; refine wpl_ints rfl _ _ 32 rfl w.heap.size Try.info_i64 Try.underlying32 _ [48 + (d : Int)] rfl (own_lit1 _ _ _ HB.out.size) _ acc rfl (HO.out.ext (ext_alloc (Below.refl _ _) _)).rds (by have := HAL.out; simp; omega) (Nat.le_trans HB.out.size (by simp)) ?_; intro v2 w2 own2 hb2; obtain ⟨ao2, cu2, rfl, _⟩ := own2.rds.len; have HO2 := hidIt own2; have HB2 := hidIt (HB.out.trans ((ext_alloc (Below.refl _ _) _ : Below wr.heap.size wr _).mono HB.out.size |>.trans hb2)); clear own2 hb2; (try dsimp only))
      go_wp2_with fail
      go_roundw
      case rel => exact ⟨k, ao2, acc.length + 1, cu2, [48 + (d : Int)] ++ acc, by have := HM.out; omega, rfl, rfl, HO2.out, HST.out, HB2.out⟩
      case measure => have := HM.out; simp [RowKit.intOf]; omega
    · have h0I : ¬ (n : Int) > 0 := by omega
      have hz : n = 0 := by omega
      have HE : Hid (dg 20 N = acc) := by unfold Hid; rw [HD.out, hz, dg_zero]; rfl
      clear hz
      go_wp2_with fail
      go_ret
      exact ⟨_, rfl, by rw [HE.out]; exact HO.out, HB.out⟩
end Go.Proofs.Ytdbmgjkgfmdmjaa
