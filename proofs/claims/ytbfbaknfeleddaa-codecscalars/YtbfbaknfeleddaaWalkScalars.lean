/- scalar; the law CodecScalars. -/
import Derived.Test.YtbfbaknfeleddaaDec4
import Derived.Test.YtbfbaknfeleddaaDecodeS
namespace Go.Proofs.Ytbfbaknfeleddaa
open Go.RowKit

theorem i64_and255 (n : Int) : bits .and .i64 n 255 = n % 256 := by
  have h3 : (BitVec.ofInt 64 255).toNat = 2 ^ 8 - 1 := by decide
  have key : (BitVec.ofInt 64 n &&& BitVec.ofInt 64 255).toNat = (n % ((2 ^ 64 : Nat) : Int)).toNat % 2 ^ 8 := by
    rw [BitVec.toNat_and, BitVec.toNat_ofInt, h3, Nat.and_two_pow_sub_one_eq_mod]
  show IntKind.i64.wrap ((BitVec.ofInt 64 n &&& BitVec.ofInt 64 255).toNat : Nat) = n % 256
  rw [key, IntKind.wrap_i64]
  omega
theorem i64_and21 (n : Int) : bits .and .i64 n 2097151 = n % 2097152 := by
  have h3 : (BitVec.ofInt 64 2097151).toNat = 2 ^ 21 - 1 := by decide
  have key : (BitVec.ofInt 64 n &&& BitVec.ofInt 64 2097151).toNat = (n % ((2 ^ 64 : Nat) : Int)).toNat % 2 ^ 21 := by
    rw [BitVec.toNat_and, BitVec.toNat_ofInt, h3, Nat.and_two_pow_sub_one_eq_mod]
  show IntKind.i64.wrap ((BitVec.ofInt 64 n &&& BitVec.ofInt 64 2097151).toNat : Nat) = n % 2097152
  rw [key, IntKind.wrap_i64]
  omega
theorem i64_and11 (n : Int) : bits .and .i64 n 2047 = n % 2048 := by
  have h3 : (BitVec.ofInt 64 2047).toNat = 2 ^ 11 - 1 := by decide
  have key : (BitVec.ofInt 64 n &&& BitVec.ofInt 64 2047).toNat = (n % ((2 ^ 64 : Nat) : Int)).toNat % 2 ^ 11 := by
    rw [BitVec.toNat_and, BitVec.toNat_ofInt, h3, Nat.and_two_pow_sub_one_eq_mod]
  show IntKind.i64.wrap ((BitVec.ofInt 64 n &&& BitVec.ofInt 64 2047).toNat : Nat) = n % 2048
  rw [key, IntKind.wrap_i64]
  omega

def Cx.Good (enc a : Int) : Prop := Cx.isSc a = true ∧ Cx.fits enc a = true
theorem Cx.good_of (enc a : Int) (he : enc = 1 ∨ enc = 2 ∨ enc = 3 ∨ enc = 4) (h : Cx.isSc a = true) (h4 : enc = 4 → a ≤ 255) : Cx.Good enc a := by
  have hs := (Cx.sc_iff a).1 h
  refine ⟨h, ?_⟩
  rcases he with rfl | rfl | rfl | rfl
  · unfold Cx.fits; rw [if_pos rfl, h, Bool.true_or]
  · unfold Cx.fits; simp; omega
  · unfold Cx.fits; simp; omega
  · have := h4 rfl
    unfold Cx.fits; simp; omega

theorem scalarL_any (k n : Int) (w : World) (hk : k = 1 ∨ k = 2 ∨ k = 3 ∨ k = 4) : Calls Try.prog 30 #[.int .i64 k, .int .i64 n] w fun e w' => ∃ a, e = .returned (.int .i64 a) ∧ Cx.Good k a ∧ w' = w := by
  by_cases h4 : k = 4
  · subst h4
    have e1 := i64_and255 n
    have HG : Hid (Cx.Good 4 (n % 256)) := Cx.good_of 4 _ hk ((Cx.sc_iff _).2 (by omega)) (by omega)
    clear hk
    go_enter Try.func30, Try.ntmps30
    go_wp2
    go_ret
    exact ⟨_, rfl, HG.out, rfl⟩
  · have q4 : (k == 4) = false := by simp [h4]
    have e1 := i64_and21 n
    have e2 := i64_and11 (n % 2097152)
    have hm0 : 0 ≤ n % 2097152 := by omega
    have HG1 : Hid (n % 2097152 ≤ 1114111 → ¬ (55296 ≤ n % 2097152 ∧ n % 2097152 < 57344) → Cx.Good k (n % 2097152)) := fun h1 h2 => Cx.good_of k _ hk ((Cx.sc_iff _).2 (by omega)) (by omega)
    have HG2 : Hid (Cx.Good k (n % 2097152 % 2048)) := Cx.good_of k _ hk ((Cx.sc_iff _).2 (by omega)) (by omega)
    clear hk h4
    generalize n % 2097152 = m at *
    by_cases c1 : 1114111 < m
    · go_enter Try.func30, Try.ntmps30
      go_wp2
      go_ret
      exact ⟨_, rfl, HG2.out, rfl⟩
    · by_cases c2 : 55296 ≤ m
      · by_cases c3 : m < 57344
        · go_enter Try.func30, Try.ntmps30
          go_wp2
          go_ret
          exact ⟨_, rfl, HG2.out, rfl⟩
        · have HG : Hid (Cx.Good k m) := HG1.out (by omega) (by omega)
          clear HG1
          go_enter Try.func30, Try.ntmps30
          go_wp2
          go_ret
          exact ⟨_, rfl, HG.out, rfl⟩
      · have HG : Hid (Cx.Good k m) := HG1.out (by omega) (by omega)
        clear HG1
        go_enter Try.func30, Try.ntmps30
        go_wp2
        go_ret
        exact ⟨_, rfl, HG.out, rfl⟩

set_option maxRecDepth 100000 in
set_option maxHeartbeats 2000000 in
theorem law_scalars (enc : Int) (v : Value) (z : List Int) (w : World) (h : Rd .i64 w v z) (hz : z.length * 8 + 400 ≤ 140737488355328) :
    Calls Try.prog 9 #[.int .i64 enc, v] w fun e w' => e = .returned (.bool true) ∧ Below w.heap.size w w' := by
  obtain ⟨i0, hi, hz0, hz1, hz2⟩ := info_parts Try.info_i64
  obtain ⟨ao, cp, rfl, _, _, hzc⟩ := id h
  have HZC : Hid (z ≠ [] → ∃ b off, ao = some ⟨b, off, none⟩ ∧ b < w.heap.size ∧ ∀ i, i < z.length → w.cell? ⟨b, off + i, none⟩ = some (.int .i64 (z[i]?.getD 0))) := hzc
  clear h hzc
  have he := whole_in enc
  go_enter Try.func9, Try.ntmps9
  go_wp2_with fail
  refine (whole_any enc _).mono ?_
  rintro e w' ⟨rfl, hw'⟩
  subst hw'
  generalize enc % 4 + 1 = k at *
  have HK : Hid (k = 1 ∨ k = 2 ∨ k = 3 ∨ k = 4) := he
  clear he
  have HO0 : Hid ((w'.alloc (.cells #[.int .i64 65] 3)).ownsRow w'.heap.size 3 1 (.slice (some ⟨w'.heap.size, 0, none⟩) 1 1) 1 ([65].map (Value.int .i64))) :=
    World.ownsRow_lit (base := w'.heap.size) (e := 3) (size := 1) w' #[.int .i64 65] 1 (Nat.le_refl _) (by simp [maxLen]) (by simp)
  have HG0 : Hid (∀ a ∈ [(65 : Int)], Cx.Good k a) := fun a ha => ⟨by simp at ha; subst ha; decide, Cx.fits65 k HK.out a ha⟩
  go_wp2_with fail
  go_loopw [6, 7] (fun o i wr => ∃ (j : Nat) (l : List Int), j ≤ z.length ∧ i = .int .i64 j ∧ l.length = j + 1 ∧ Hid (∀ a ∈ l, Cx.Good k a) ∧ wr.ownsRow w'.heap.size 3 1 o l.length (l.map (Value.int .i64)) ∧ Below w'.heap.size w' wr) (fun _ i _ => z.length - (intOf i).toNat)
  case atStart => exact ⟨0, [65], Nat.zero_le _, rfl, rfl, HG0.out, HO0.out, (Below.refl _ _).alloc (Nat.le_refl _) _⟩
  case round =>
    obtain ⟨j, l, hj, rfl, hll, HG, hown, hbw⟩ := hrel
    have hs' : w'.heap.size ≤ wr.heap.size := hbw.size
    have hl1 : l.length ≤ j + 1 := by omega
    have hl2 : j + 1 ≤ l.length := by omega
    clear HO0 HG0 hll
    by_cases hlt : j < z.length
    · obtain ⟨b, off, rfl, hbl, hcl⟩ := HZC.out (List.length_pos_iff.1 (by omega))
      have hcx : wr.cell? ⟨b, off + j, none⟩ = some (.int .i64 (z[j]?.getD 0)) := (hbw.cell (p := ⟨b, off + j, none⟩) hbl).trans (hcl j hlt)
      generalize z[j]?.getD 0 = x at *
      generalize hml : l.map (Value.int .i64) = ml at *
      have HML : Hid (l.map (Value.int .i64) = ml) := hml
      clear hcl hml
      go_wp2_with fail
      refine (scalarL_any k x _ HK.out).mono ?_
      rintro e w1 ⟨a, rfl, hga, hw1⟩
      subst hw1
      have HGA : Hid (Cx.Good k a) := hga
      clear hga
      go_wp2_with (at_builtin; refine wpList_append_own _ rfl _ _ 26 rfl w'.heap.size 3 i0 (.int .i64 0) 1 8 Try.underlying26 hi hz0 hz1 hz2 rfl (by decide) _ _ _ rfl (hown.alloc _) ⟨w1.heap.size, 0, none⟩ 1 1 [.int .i64 a] rfl rfl (cell_one_new _ _ _) (one_i64 _) (by unfold maxLen; omega) (by omega) (by simp; omega) ?_; intro v' w2 hown' hg' hx')
      go_roundw
      case rel => exact ⟨j + 1, l ++ [a], by omega, by go_num, by rw [List.length_append, List.length_singleton]; omega, fun y hy => by
          rcases List.mem_append.1 hy with hy | hy
          · exact HG.out y hy
          · simp at hy; subst hy; exact HGA.out, by rw [List.length_append, List.map_append, HML.out]; exact hown', below_push hbw hown hg'⟩
      case measure => simp [intOf]; omega
    · obtain ⟨la, lc, rfl, _⟩ := Rd.of_own hown
      have HL : Hid (Rd .i64 wr (.slice la l.length lc) l) := Rd.of_own hown
      have HBW : Hid (Below w'.heap.size w' wr) := hbw
      obtain ⟨r1, r2, r3⟩ := Cx.read_all k HK.out l HG.out
      have HR1 : Hid (Cx.dec k (Cx.encB k l) = l) := r1
      have HR2 : Hid (Byt (Cx.encB k l)) := r2
      have HER : Hid (Cx.encR k l = (Cx.encB k l, 0, 0)) := Cx.encR_known k l HK.out (fun a ha => (HG.out a ha).2)
      clear hown hbw HG r1 r2
      go_wp2_with fail
      refine (copyInts_any _ l _ HL.out (by omega)).mono ?_
      rintro e w1 ⟨v1, rfl, hv1, hb1⟩
      have HV1 : Hid (Rd .i64 w1 v1 l) := Rd.of_own hv1
      have HW1 : Hid (Below wr.heap.size wr w1) := hb1
      clear hv1 hb1
      go_wp2_with fail
      refine (Encode_any k _ l _ HV1.out (by omega)).mono ?_
      rintro e w2 ⟨bv, rfl, hb2o, hb2⟩
      rw [HER.out] at hb2o ⊢
      simp only at hb2o ⊢
      obtain ⟨ba, bc, rfl, _⟩ := Rd.of_own hb2o
      have HB2 : Hid (Rd .u8 w2 (.slice ba (Cx.encB k l).length bc) (Cx.encB k l)) := Rd.of_own hb2o
      have HW2 : Hid (Below wr.heap.size wr w2) := ext_trans HW1.out hb2
      clear hb2o hb2
      have hnl : decide ((Cx.encB k l).length < l.length) = false := by simp; omega
      have hnl2 : decide (((Cx.encB k l).length : Int) < (l.length : Int)) = false := by simp; omega
      go_wp2_with fail
      refine (num_any _ _).mono ?_
      rintro e w3 ⟨rfl, hw3⟩
      subst hw3
      go_wp2_with fail
      refine (DecodeS_any k HK.out _ (Cx.encB k l) _ HB2.out HR2.out (by rw [HR1.out]; omega)).mono ?_
      rintro e w4 ⟨mv, rfl, hm4, hb4⟩
      rw [HR1.out] at hm4
      have HM4 : Hid (Rd .i64 w4 mv l) := Rd.of_own hm4
      have HW4 : Hid (Below w3.heap.size w3 w4) := hb4
      clear hm4 hb4
      go_wp2_with fail
      refine (num_any _ _).mono ?_
      rintro e w5 ⟨rfl, hw5⟩
      subst hw5
      go_wp2_with fail
      refine (sameInts_any _ _ l _ (HL.out.ext (ext_trans HW2.out HW4.out)) HM4.out).mono ?_
      rintro e w6 ⟨rfl, hb6⟩
      have HW6 : Hid (Below w5.heap.size w5 w6) := hb6
      clear hb6
      go_wp2
      go_ret
      exact ⟨rfl, ext_trans HBW.out (ext_trans HW2.out (ext_trans HW4.out HW6.out))⟩
end Go.Proofs.Ytbfbaknfeleddaa
