/- whole; the law CodecBack. -/
import Derived.Test.YtbfbaknfeleddaaDec3
import Derived.Test.YtbfbaknfeleddaaWalkEncode
namespace Go.Proofs.Ytbfbaknfeleddaa
open Go.RowKit

theorem i64_and3 (n : Int) : bits .and .i64 n 3 = n % 4 := by
  have h3 : (BitVec.ofInt 64 3).toNat = 2 ^ 2 - 1 := by decide
  have key : (BitVec.ofInt 64 n &&& BitVec.ofInt 64 3).toNat = (n % ((2 ^ 64 : Nat) : Int)).toNat % 2 ^ 2 := by
    rw [BitVec.toNat_and, BitVec.toNat_ofInt, h3, Nat.and_two_pow_sub_one_eq_mod]
  show IntKind.i64.wrap ((BitVec.ofInt 64 n &&& BitVec.ofInt 64 3).toNat : Nat) = n % 4
  rw [key, IntKind.wrap_i64]
  omega

/-- 1 to 4, made of any int. -/
theorem whole_any (n : Int) (w : World) : Calls Try.prog 17 #[.int .i64 n] w fun e w' => e = .returned (.int .i64 (n % 4 + 1)) ∧ w' = w := by
  have e1 := i64_and3 n
  go_enter Try.func17, Try.ntmps17
  go_wp2
  go_ret
  exact ⟨rfl, rfl⟩
theorem whole_in (n : Int) : n % 4 + 1 = 1 ∨ n % 4 + 1 = 2 ∨ n % 4 + 1 = 3 ∨ n % 4 + 1 = 4 := by omega

theorem Cx.er_known (enc : Int) (he : enc = 1 ∨ enc = 2 ∨ enc = 3 ∨ enc = 4) : Cx.er enc = 0 := by unfold Cx.er; rw [if_pos ((Cx.known_iff enc).2 he)]
theorem Cx.dd_known (enc : Int) (zs : List Int) (he : enc = 1 ∨ enc = 2 ∨ enc = 3 ∨ enc = 4) : Cx.dd enc zs = Cx.dec enc zs := Cx.dd_yes enc zs ((Cx.known_iff enc).2 he)
theorem Cx.encR_known (enc : Int) (l : List Int) (he : enc = 1 ∨ enc = 2 ∨ enc = 3 ∨ enc = 4) (h : ∀ a ∈ l, Cx.fits enc a = true) : Cx.encR enc l = (Cx.encB enc l, 0, 0) :=
  Cx.encR_all enc l ((Cx.known_iff enc).2 he) fun j hj => by
    have : l[j]?.getD 0 ∈ l := by simp [hj]
    exact h _ this
theorem Cx.fits65 (enc : Int) (he : enc = 1 ∨ enc = 2 ∨ enc = 3 ∨ enc = 4) : ∀ a ∈ [(65 : Int)], Cx.fits enc a = true := by
  intro a ha; simp at ha; subst ha
  rcases he with rfl | rfl | rfl | rfl <;> decide
theorem Cx.size_fit (enc a : Int) (h : Cx.fits enc a = true) : Cx.size enc a = ((Cx.put enc a).length : Int) := by unfold Cx.size; rw [if_pos h]
theorem Cx.dec_pos (enc : Int) (b : List Int) (hn : b ≠ []) : 0 < (Cx.dec enc b).length := by
  have hbd := Cx.fst_bd enc b hn
  have e : Cx.fst enc b = ((Cx.fst enc b).1, ((Cx.fst enc b).2.toNat : Int)) := Prod.ext rfl (by simp only; omega)
  rw [Cx.dec_cons enc b hn _ _ e]; simp

set_option maxRecDepth 100000 in
set_option maxHeartbeats 2000000 in
theorem law_back (enc : Int) (v : Value) (z : List Int) (w : World) (h : Rd .u8 w v z) (hb : Byt z) (hz : z.length * 8 + 320 ≤ 140737488355328) :
    Calls Try.prog 10 #[.int .i64 enc, v] w fun e w' => e = .returned (.bool true) ∧ Below w.heap.size w w' := by
  obtain ⟨ao, cp, rfl, _⟩ := id h
  have HR : Hid (Rd .u8 w (.slice ao z.length cp) z) := h
  have HB : Hid (Byt z) := hb
  clear h hb
  have he := whole_in enc
  go_enter Try.func10, Try.ntmps10
  go_wp2_with fail
  refine (whole_any enc _).mono ?_
  rintro e w' ⟨rfl, hw'⟩
  subst hw'
  generalize enc % 4 + 1 = k at *
  have HK : Hid (k = 1 ∨ k = 2 ∨ k = 3 ∨ k = 4) := he
  clear he
  have HBA := Cx.back_all k HK.out z.length z (Nat.le_refl _) HB.out
  have HE : Hid (Cx.encB k (Cx.dec k z) = z) := HBA.1
  have HFT : Hid (∀ a ∈ Cx.dec k z, Cx.fits k a = true) := HBA.2
  have hdl : (Cx.dec k z).length ≤ z.length := Cx.dec_len k _ z
  have HDP : Hid (z ≠ [] → 0 < (Cx.dec k z).length) := Cx.dec_pos k z
  clear HBA
  go_wp2_with fail
  refine (copyBytes_any _ z _ HR.out (by omega)).mono ?_
  rintro e w1 ⟨v1, rfl, hv1, hb1⟩
  have HV1 : Hid (Rd .u8 w1 v1 z) := Rd.of_own hv1
  have HW1 : Hid (Below w'.heap.size w' w1) := hb1
  clear hv1 hb1
  go_wp2_with fail
  refine (Decode_any k _ z _ HV1.out HB.out (by omega)).mono ?_
  rintro e w2 ⟨l, rfl, hl2, hb2⟩
  rw [Cx.er_known k HK.out]
  rw [Cx.dd_known k z HK.out] at hl2
  obtain ⟨la, lc, rfl, hlc, _, hlcell⟩ := Rd.of_own hl2
  have HL2 : Hid (Rd .i64 w2 (.slice la (Cx.dec k z).length lc) (Cx.dec k z)) := Rd.of_own hl2
  have HLC : Hid (Cx.dec k z ≠ [] → ∃ b off, la = some ⟨b, off, none⟩ ∧ b < w2.heap.size ∧ ∀ i, i < (Cx.dec k z).length → w2.cell? ⟨b, off + i, none⟩ = some (.int .i64 ((Cx.dec k z)[i]?.getD 0))) := hlcell
  have HW2 : Hid (Below w'.heap.size w' w2) := ext_trans HW1.out hb2
  clear hl2 hb2 hlcell
  generalize Cx.dec k z = ds at *
  go_wp2_with fail
  refine (num_any _ _).mono ?_
  rintro e w'' ⟨rfl, hw''⟩
  subst hw''
  have hz1 : 0 < z.length → 0 < ds.length := fun h => HDP.out (List.length_pos_iff.1 h)
  by_cases hzp : 0 < z.length
  · have hdp := hz1 hzp
    have hq : ((ds.length : Int) == 0) = false := by rw [beq_eq_false_iff_ne]; omega
    have hnl : decide (z.length < ds.length) = false := by simp; omega
    clear hz1 HDP
    go_wp2_with fail
    go_loopw [8, 9] (fun n i wr => ∃ j : Nat, j ≤ ds.length ∧ i = .int .i64 j ∧ n = .int .i64 (((Cx.encB k (ds.take j)).length : Nat) : Int) ∧ Below w''.heap.size w'' wr) (fun _ i _ => ds.length - (intOf i).toNat)
    case atStart => exact ⟨0, Nat.zero_le _, rfl, rfl, Below.refl _ _⟩
    case round =>
      obtain ⟨j, hj, rfl, rfl, hbw⟩ := hrel
      have HBW : Hid (Below w''.heap.size w'' wr) := hbw
      by_cases hlt : j < ds.length
      · obtain ⟨b, off, rfl, hbl, hcl⟩ := HLC.out (List.length_pos_iff.1 (by omega))
        have hcx : wr.cell? ⟨b, off + j, none⟩ = some (.int .i64 (ds[j]?.getD 0)) := (hbw.cell (p := ⟨b, off + j, none⟩) hbl).trans (hcl j hlt)
        have hfa : Cx.fits k (ds[j]?.getD 0) = true := HFT.out _ (by simp [hlt])
        have HSZ : Hid (Cx.size k (ds[j]?.getD 0) = ((Cx.put k (ds[j]?.getD 0)).length : Int)) := Cx.size_fit k _ hfa
        have HES : Hid ((Cx.encB k (ds.take (j + 1))).length = (Cx.encB k (ds.take j)).length + (Cx.put k (ds[j]?.getD 0)).length) := by unfold Hid; rw [Cx.encB_succ k ds j hlt, List.length_append]
        have hel := Cx.encB_len k (ds.take j)
        have htk : (ds.take j).length = j := by rw [List.length_take]; omega
        have hpl := (Cx.put_len k (ds[j]?.getD 0)).2
        generalize ds[j]?.getD 0 = a at *
        generalize (Cx.encB k (ds.take j)).length = E at *
        generalize (Cx.put k a).length = S at *
        clear hcl hbw
        go_wp2_with fail
        refine (Fits_any k a _).mono ?_
        rintro e w3 ⟨rfl, hb3⟩
        rw [hfa]
        have hcx3 : w3.cell? ⟨b, off + j, none⟩ = some (.int .i64 a) := (hb3.cell (p := ⟨b, off + j, none⟩) (World.block_lt_of_cell? wr _ hcx)).trans hcx
        have HW3 : Hid (Below w''.heap.size w'' w3) := ext_trans HBW.out hb3
        clear hb3 hcx HBW
        go_wp2_with fail
        refine (Size_any k a _).mono ?_
        rintro e w4 ⟨rfl, hb4⟩
        rw [HSZ.out]
        have HW4 : Hid (Below w''.heap.size w'' w4) := ext_trans HW3.out hb4
        clear hb4 hcx3 HW3
        go_wp2_with fail
        go_roundw
        case rel => exact ⟨j + 1, by omega, by go_num, by rw [HES.out]; go_num, HW4.out⟩
        case measure => simp [intOf]; omega
      · have hje : j = ds.length := by omega
        subst hje
        have HR1 : Hid (Cx.encR k ds = (z, 0, 0)) := by unfold Hid; rw [Cx.encR_known k ds HK.out HFT.out, HE.out]
        have HR2 : Hid (Cx.encR k [65] = (Cx.put k 65, 0, 0)) := by unfold Hid; rw [Cx.encR_known k [65] HK.out (Cx.fits65 k HK.out)]; simp [Cx.encB]
        have hn : Hid ((Cx.encB k (ds.take ds.length)).length = z.length) := by unfold Hid; rw [List.take_length, HE.out]
        rw [hn.out]
        have hp65 := (Cx.put_len k 65).1
        clear hbw
        go_wp2_with fail
        refine (Encode_any k _ ds _ (HL2.out.ext HBW.out) (by omega)).mono ?_
        rintro e w3 ⟨cv, rfl, hc3, hb3⟩
        rw [HR1.out] at hc3 ⊢
        have HC3 : Hid (Rd .u8 w3 cv z) := Rd.of_own hc3
        have HW3 : Hid (Below w''.heap.size w'' w3) := ext_trans HBW.out hb3
        clear hc3 hb3
        go_wp2_with fail
        refine (Encode_any k _ [65] _ (Rd.lit .i64 w3 3 [65] (by simp [maxLen])) (by simp)).mono ?_
        rintro e w4 ⟨ov, rfl, ho4, hb4⟩
        rw [HR2.out] at ho4 ⊢
        obtain ⟨oa, oc, rfl, _⟩ := Rd.of_own ho4
        have HW4 : Hid (Below w3.heap.size w3 w4) := ext_trans ((Below.refl _ _).alloc (Nat.le_refl _) _) hb4
        clear ho4 hb4
        simp only
        generalize (Cx.put k 65).length = L at *
        go_wp2_with fail
        refine (num_any _ _).mono ?_
        rintro e w5 ⟨rfl, hw5⟩
        subst hw5
        go_wp2_with fail
        refine (num_any _ _).mono ?_
        rintro e w6 ⟨rfl, hw6⟩
        subst hw6
        have hzz : ((z.length : Int) == (z.length : Int)) = true := by simp
        go_wp2_with fail
        refine (sameBytes_eq _ _ z _ (HR.out.ext (ext_trans HW2.out (ext_trans HW3.out HW4.out))) (HC3.out.ext HW4.out)).mono ?_
        rintro e w7 ⟨rfl, hb7⟩
        have HW7 : Hid (Below w6.heap.size w6 w7) := hb7
        clear hb7
        go_wp2
        go_ret
        exact ⟨rfl, ext_trans HW2.out (ext_trans HW3.out (ext_trans HW4.out HW7.out))⟩
  · have hnl : decide (z.length < ds.length) = false := by simp; omega
    clear hz1 HDP
    go_wp2_with fail
    go_loopw [8, 9] (fun n i wr => ∃ j : Nat, j ≤ ds.length ∧ i = .int .i64 j ∧ n = .int .i64 (((Cx.encB k (ds.take j)).length : Nat) : Int) ∧ Below w''.heap.size w'' wr) (fun _ i _ => ds.length - (intOf i).toNat)
    case atStart => exact ⟨0, Nat.zero_le _, rfl, rfl, Below.refl _ _⟩
    case round =>
      obtain ⟨j, hj, rfl, rfl, hbw⟩ := hrel
      have HBW : Hid (Below w''.heap.size w'' wr) := hbw
      by_cases hlt : j < ds.length
      · obtain ⟨b, off, rfl, hbl, hcl⟩ := HLC.out (List.length_pos_iff.1 (by omega))
        have hcx : wr.cell? ⟨b, off + j, none⟩ = some (.int .i64 (ds[j]?.getD 0)) := (hbw.cell (p := ⟨b, off + j, none⟩) hbl).trans (hcl j hlt)
        have hfa : Cx.fits k (ds[j]?.getD 0) = true := HFT.out _ (by simp [hlt])
        have HSZ : Hid (Cx.size k (ds[j]?.getD 0) = ((Cx.put k (ds[j]?.getD 0)).length : Int)) := Cx.size_fit k _ hfa
        have HES : Hid ((Cx.encB k (ds.take (j + 1))).length = (Cx.encB k (ds.take j)).length + (Cx.put k (ds[j]?.getD 0)).length) := by unfold Hid; rw [Cx.encB_succ k ds j hlt, List.length_append]
        have hel := Cx.encB_len k (ds.take j)
        have htk : (ds.take j).length = j := by rw [List.length_take]; omega
        have hpl := (Cx.put_len k (ds[j]?.getD 0)).2
        generalize ds[j]?.getD 0 = a at *
        generalize (Cx.encB k (ds.take j)).length = E at *
        generalize (Cx.put k a).length = S at *
        clear hcl hbw
        go_wp2_with fail
        refine (Fits_any k a _).mono ?_
        rintro e w3 ⟨rfl, hb3⟩
        rw [hfa]
        have hcx3 : w3.cell? ⟨b, off + j, none⟩ = some (.int .i64 a) := (hb3.cell (p := ⟨b, off + j, none⟩) (World.block_lt_of_cell? wr _ hcx)).trans hcx
        have HW3 : Hid (Below w''.heap.size w'' w3) := ext_trans HBW.out hb3
        clear hb3 hcx HBW
        go_wp2_with fail
        refine (Size_any k a _).mono ?_
        rintro e w4 ⟨rfl, hb4⟩
        rw [HSZ.out]
        have HW4 : Hid (Below w''.heap.size w'' w4) := ext_trans HW3.out hb4
        clear hb4 hcx3 HW3
        go_wp2_with fail
        go_roundw
        case rel => exact ⟨j + 1, by omega, by go_num, by rw [HES.out]; go_num, HW4.out⟩
        case measure => simp [intOf]; omega
      · have hje : j = ds.length := by omega
        subst hje
        have HR1 : Hid (Cx.encR k ds = (z, 0, 0)) := by unfold Hid; rw [Cx.encR_known k ds HK.out HFT.out, HE.out]
        have HR2 : Hid (Cx.encR k [65] = (Cx.put k 65, 0, 0)) := by unfold Hid; rw [Cx.encR_known k [65] HK.out (Cx.fits65 k HK.out)]; simp [Cx.encB]
        have hn : Hid ((Cx.encB k (ds.take ds.length)).length = z.length) := by unfold Hid; rw [List.take_length, HE.out]
        rw [hn.out]
        have hp65 := (Cx.put_len k 65).1
        clear hbw
        go_wp2_with fail
        refine (Encode_any k _ ds _ (HL2.out.ext HBW.out) (by omega)).mono ?_
        rintro e w3 ⟨cv, rfl, hc3, hb3⟩
        rw [HR1.out] at hc3 ⊢
        have HC3 : Hid (Rd .u8 w3 cv z) := Rd.of_own hc3
        have HW3 : Hid (Below w''.heap.size w'' w3) := ext_trans HBW.out hb3
        clear hc3 hb3
        go_wp2_with fail
        refine (Encode_any k _ [65] _ (Rd.lit .i64 w3 3 [65] (by simp [maxLen])) (by simp)).mono ?_
        rintro e w4 ⟨ov, rfl, ho4, hb4⟩
        rw [HR2.out] at ho4 ⊢
        obtain ⟨oa, oc, rfl, _⟩ := Rd.of_own ho4
        have HW4 : Hid (Below w3.heap.size w3 w4) := ext_trans ((Below.refl _ _).alloc (Nat.le_refl _) _) hb4
        clear ho4 hb4
        simp only
        generalize (Cx.put k 65).length = L at *
        go_wp2_with fail
        refine (num_any _ _).mono ?_
        rintro e w5 ⟨rfl, hw5⟩
        subst hw5
        go_wp2_with fail
        refine (num_any _ _).mono ?_
        rintro e w6 ⟨rfl, hw6⟩
        subst hw6
        have hzz : ((z.length : Int) == (z.length : Int)) = true := by simp
        go_wp2_with fail
        refine (sameBytes_eq _ _ z _ (HR.out.ext (ext_trans HW2.out (ext_trans HW3.out HW4.out))) (HC3.out.ext HW4.out)).mono ?_
        rintro e w7 ⟨rfl, hb7⟩
        have HW7 : Hid (Below w6.heap.size w6 w7) := hb7
        clear hb7
        go_wp2
        go_ret
        exact ⟨rfl, ext_trans HW2.out (ext_trans HW3.out (ext_trans HW4.out HW7.out))⟩
end Go.Proofs.Ytbfbaknfeleddaa
