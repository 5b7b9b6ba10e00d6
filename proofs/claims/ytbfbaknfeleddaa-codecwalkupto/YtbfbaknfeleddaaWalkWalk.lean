/- The law CodecWalk. -/
import Derived.Test.YtbfbaknfeleddaaDec6
import Derived.Test.YtbfbaknfeleddaaTok2
import Derived.Test.YtbfbaknfeleddaaWalkBack
namespace Go.Proofs.Ytbfbaknfeleddaa
open Go.RowKit

theorem Cx.nx00 (k : Int) (he : k = 1 ∨ k = 2 ∨ k = 3 ∨ k = 4) : ∃ o : Int, 1 ≤ o ∧ o ≤ 2 ∧ Cx.nx k [0, 0] 0 = (0, o) := by
  rcases he with rfl | rfl | rfl | rfl
  · exact ⟨1, by decide, by decide, by decide⟩
  · exact ⟨2, by decide, by decide, by decide⟩
  · exact ⟨2, by decide, by decide, by decide⟩
  · exact ⟨1, by decide, by decide, by decide⟩
theorem Cx.nx_end (k : Int) (z : List Int) : Cx.nx k z (z.length : Int) = (0, 0) := by unfold Cx.nx; rw [if_neg (by omega)]
theorem Cx.pv_zero (k : Int) (z : List Int) : Cx.pv k z 0 = (0, 0) := by unfold Cx.pv; rw [if_neg (by omega)]
theorem Byt.zz : Byt [0, 0] := by unfold Byt; simp
theorem Cx.head_of (ds t : List Int) (j : Nat) (a : Int) (h : ds.drop j = a :: t) : ds[j]?.getD 0 = a ∧ ds.drop (j + 1) = t := by
  constructor
  · have := congrArg (fun l : List Int => l[0]?) h
    simp only [List.getElem?_drop, Nat.add_zero, List.getElem?_cons_zero] at this
    rw [this]; rfl
  · have := congrArg (List.drop 1) h
    rwa [List.drop_drop] at this

set_option maxRecDepth 100000 in
set_option maxHeartbeats 4000000 in
theorem law_walk (enc : Int) (v : Value) (z : List Int) (w : World) (h : Rd .u8 w v z) (hb : Byt z) (hz : z.length * 8 + 320 ≤ 140737488355328) :
    Calls Try.prog 5 #[.int .i64 enc, v] w fun e w' => e = .returned (.bool true) ∧ Below w.heap.size w w' := by
  obtain ⟨ao, cp, rfl, _⟩ := id h
  have HR : Hid (Rd .u8 w (.slice ao z.length cp) z) := h
  have HB : Hid (Byt z) := hb
  clear h hb
  have he := whole_in enc
  go_enter Try.func5, Try.ntmps5
  go_wp2_with fail
  refine (whole_any enc _).mono ?_
  rintro e w' ⟨rfl, hw'⟩
  subst hw'
  generalize enc % 4 + 1 = k at *
  have HK : Hid (k = 1 ∨ k = 2 ∨ k = 3 ∨ k = 4) := he
  have HKN : Hid (Cx.known k = true) := (Cx.known_iff k).2 he
  clear he
  have hdl : (Cx.dec k z).length ≤ z.length := Cx.dec_len k _ z
  have HDP : Hid (z ≠ [] → 0 < (Cx.dec k z).length) := Cx.dec_pos k z
  go_wp2_with fail
  refine (copyBytes_any _ z _ HR.out (by omega)).mono ?_
  rintro e w1 ⟨v1, rfl, hv1, hb1⟩
  have HV1 : Hid (Rd .u8 w1 v1 z) := Rd.of_own hv1
  have HW1 : Hid (Below w'.heap.size w' w1) := hb1
  clear hv1 hb1
  go_wp2_with fail
  refine (Decode_any k _ z _ HV1.out HB.out (by omega)).mono ?_
  rintro e w2 ⟨l, rfl, hl2, hb2⟩
  rw [Cx.er_known k HK.out]
  rw [Cx.dd_known k z HK.out] at hl2
  obtain ⟨la, lc, rfl, hlc, hlm, hlcell⟩ := Rd.of_own hl2
  have hlm' : lc ≤ 9223372036854775807 := hlm
  have HLC : Hid (Cx.dec k z ≠ [] → ∃ b off, la = some ⟨b, off, none⟩ ∧ b < w2.heap.size ∧ ∀ i, i < (Cx.dec k z).length → w2.cell? ⟨b, off + i, none⟩ = some (.int .i64 ((Cx.dec k z)[i]?.getD 0))) := hlcell
  have HW2 : Hid (Below w'.heap.size w' w2) := ext_trans HW1.out hb2
  clear hl2 hb2 hlcell hlm
  generalize hds : Cx.dec k z = ds at *
  have HDS : Hid (Cx.dec k z = ds) := hds
  clear hds
  go_wp2_with fail
  refine (num_any _ _).mono ?_
  rintro e w'' ⟨rfl, hw''⟩
  subst hw''
  have hz1 : 0 < z.length → 0 < ds.length := fun h => HDP.out (List.length_pos_iff.1 h)
  obtain ⟨o, ho1, ho2, ho3⟩ := Cx.nx00 k HK.out
  have HO : Hid (Cx.nx k [0, 0] 0 = (0, o)) := ho3
  have hdo : decide (o < 1) = false := decide_eq_false (by omega)
  clear ho3
  by_cases hzp : 0 < z.length
  · have hdp := hz1 hzp
    have hq : ((ds.length : Int) == 0) = false := by rw [beq_eq_false_iff_ne]; omega
    clear hz1 HDP
    go_wp2_with fail
    refine (Next_any k _ [0, 0] 0 _ (Rd.lit .u8 w'' 5 [0, 0] (by simp [maxLen])) Byt.zz).mono ?_
    rintro e w3 ⟨rfl, hb3⟩
    rw [HO.out]
    have HW3 : Hid (Below w''.heap.size w'' w3) := ext_trans ((Below.refl _ _).alloc (Nat.le_refl _) _) hb3
    clear hb3
    go_wp2_with fail
    go_loopw [10, 11] (fun av i wr => ∃ (j p : Nat), j ≤ ds.length ∧ p ≤ z.length ∧ av = .int .i64 p ∧ i = .int .i64 j ∧ Hid (ds.drop j = Cx.dec k (z.drop p)) ∧ Hid (∀ M, p < M → M ≤ z.length → Cx.lst k (z.take M) = Cx.lst k ((z.take M).drop p)) ∧ Below w3.heap.size w3 wr) (fun _ i _ => ds.length - (intOf i).toNat)
    case atStart => exact ⟨0, 0, Nat.zero_le _, Nat.zero_le _, rfl, rfl, by unfold Hid; rw [List.drop_zero, List.drop_zero, HDS.out], fun M _ _ => by rw [List.drop_zero], Below.refl _ _⟩
    case round =>
      obtain ⟨j, p, hj, hp, rfl, rfl, HJ, HI, hbw⟩ := hrel
      have HBW : Hid (Below w3.heap.size w3 wr) := hbw
      have HBW2 : Hid (Below w''.heap.size w'' wr) := ext_trans HW3.out hbw
      by_cases hlt : j < ds.length
      · have hpl : p < z.length := by
          by_cases hc : p < z.length
          · exact hc
          · have e1 := HJ.out
            rw [List.drop_eq_nil_of_le (show z.length ≤ p by omega), Cx.dec_nil] at e1
            have e2 := congrArg List.length e1
            rw [List.length_drop, List.length_nil] at e2
            omega
        have hne : z.drop p ≠ [] := List.length_pos_iff.1 (by rw [List.length_drop]; omega)
        obtain ⟨a, n, hf, hn1, hn4, hn2⟩ : ∃ (a : Int) (n : Nat), Cx.fst k (z.drop p) = (a, (n : Int)) ∧ 1 ≤ n ∧ n ≤ 4 ∧ n ≤ (z.drop p).length := by
          have := Cx.fst_bd k (z.drop p) hne
          exact ⟨_, (Cx.fst k (z.drop p)).2.toNat, Prod.ext rfl (by simp only; omega), by omega, by omega, by omega⟩
        rw [List.length_drop] at hn2
        have hpn : p + n ≤ z.length := by omega
        have hhd := Cx.head_of ds (Cx.dec k (z.drop (p + n))) j a (by rw [HJ.out, Cx.dec_cons k _ hne a n hf, List.drop_drop])
        have HJ' : Hid (ds.drop (j + 1) = Cx.dec k (z.drop (p + n))) := hhd.2
        have hst := Cx.walk_step k z HB.out HK.out p n a hpl hf hn1 hpn HI.out
        have HI' : Hid (∀ M, p + n < M → M ≤ z.length → Cx.lst k (z.take M) = Cx.lst k ((z.take M).drop (p + n))) := hst.2
        have HNX : Hid (Cx.nx k z (p : Int) = (a, (n : Int))) := by unfold Hid; rw [Cx.nx_yes k z p HKN.out hpl, hf]
        have HPV : Hid (Cx.pv k z ((p : Int) + (n : Int)) = (a, (n : Int))) := by
          unfold Hid; rw [show (p : Int) + (n : Int) = ((p + n : Nat) : Int) by omega, Cx.pv_yes k z (p + n) HKN.out (by omega) hpn, hst.1]
        obtain ⟨b, off, rfl, hbl, hcl⟩ := HLC.out (List.length_pos_iff.1 (by omega))
        have hcx : wr.cell? ⟨b, off + j, none⟩ = some (.int .i64 a) := by
          have := (HBW2.out.cell (p := ⟨b, off + j, none⟩) hbl).trans (hcl j hlt)
          rwa [hhd.1] at this
        clear hcl hbw hst hhd hf hne HI HJ
        go_wp2_with fail
        refine (Next_any k _ z _ _ (HR.out.ext (ext_trans HW2.out HBW2.out)) HB.out).mono ?_
        rintro e w4 ⟨rfl, hb4⟩
        rw [HNX.out]
        have hcx4 : w4.cell? ⟨b, off + j, none⟩ = some (.int .i64 a) := (hb4.cell (p := ⟨b, off + j, none⟩) (World.block_lt_of_cell? wr _ hcx)).trans hcx
        have HW4 : Hid (Below w3.heap.size w3 w4) := ext_trans HBW.out hb4
        have HW4' : Hid (Below w''.heap.size w'' w4) := ext_trans HBW2.out hb4
        clear hb4 hcx HBW HBW2
        go_wp2_with fail
        refine (Prev_any k _ z _ _ (HR.out.ext (ext_trans HW2.out HW4'.out)) HB.out).mono ?_
        rintro e w5 ⟨rfl, hb5⟩
        rw [HPV.out]
        have HW5 : Hid (Below w3.heap.size w3 w5) := ext_trans HW4.out hb5
        clear hb5 hcx4 HW4 HW4'
        go_wp2_with fail
        go_roundw
        case rel => exact ⟨j + 1, p + n, by omega, by omega, by go_num, by go_num, HJ'.out, HI'.out, HW5.out⟩
        case measure => simp [intOf]; omega
      · have hpe : p = z.length := by
          by_cases hc : p = z.length
          · exact hc
          · have hne : z.drop p ≠ [] := List.length_pos_iff.1 (by rw [List.length_drop]; omega)
            have := Cx.dec_pos k (z.drop p) hne
            rw [← HJ.out, List.length_drop] at this
            omega
        subst hpe
        have HN0 : Hid (Cx.nx k z (z.length : Int) = (0, 0)) := Cx.nx_end k z
        have HP0 : Hid (Cx.pv k z 0 = (0, 0)) := Cx.pv_zero k z
        have hzz : ((z.length : Int) == (z.length : Int)) = true := by simp
        clear HI HJ hbw
        go_wp2_with fail
        refine (Next_any k _ z _ _ (HR.out.ext (ext_trans HW2.out HBW2.out)) HB.out).mono ?_
        rintro e w4 ⟨rfl, hb4⟩
        rw [HN0.out]
        have HW4 : Hid (Below w''.heap.size w'' w4) := ext_trans HBW2.out hb4
        clear hb4
        go_wp2_with fail
        refine (Prev_any k _ z _ _ (HR.out.ext (ext_trans HW2.out HW4.out)) HB.out).mono ?_
        rintro e w5 ⟨rfl, hb5⟩
        rw [HP0.out]
        have HW5 : Hid (Below w''.heap.size w'' w5) := ext_trans HW4.out hb5
        clear hb5
        go_wp2
        go_ret
        exact ⟨rfl, ext_trans HW2.out HW5.out⟩
  · clear hz1 HDP
    go_wp2_with fail
    refine (Next_any k _ [0, 0] 0 _ (Rd.lit .u8 w'' 5 [0, 0] (by simp [maxLen])) Byt.zz).mono ?_
    rintro e w3 ⟨rfl, hb3⟩
    rw [HO.out]
    have HW3 : Hid (Below w''.heap.size w'' w3) := ext_trans ((Below.refl _ _).alloc (Nat.le_refl _) _) hb3
    clear hb3
    go_wp2_with fail
    go_loopw [10, 11] (fun av i wr => ∃ (j p : Nat), j ≤ ds.length ∧ p ≤ z.length ∧ av = .int .i64 p ∧ i = .int .i64 j ∧ Hid (ds.drop j = Cx.dec k (z.drop p)) ∧ Hid (∀ M, p < M → M ≤ z.length → Cx.lst k (z.take M) = Cx.lst k ((z.take M).drop p)) ∧ Below w3.heap.size w3 wr) (fun _ i _ => ds.length - (intOf i).toNat)
    case atStart => exact ⟨0, 0, Nat.zero_le _, Nat.zero_le _, rfl, rfl, by unfold Hid; rw [List.drop_zero, List.drop_zero, HDS.out], fun M _ _ => by rw [List.drop_zero], Below.refl _ _⟩
    case round =>
      obtain ⟨j, p, hj, hp, rfl, rfl, HJ, HI, hbw⟩ := hrel
      have HBW : Hid (Below w3.heap.size w3 wr) := hbw
      have HBW2 : Hid (Below w''.heap.size w'' wr) := ext_trans HW3.out hbw
      by_cases hlt : j < ds.length
      · omega
      · have hpe : p = z.length := by
          by_cases hc : p = z.length
          · exact hc
          · have hne : z.drop p ≠ [] := List.length_pos_iff.1 (by rw [List.length_drop]; omega)
            have := Cx.dec_pos k (z.drop p) hne
            rw [← HJ.out, List.length_drop] at this
            omega
        subst hpe
        have HN0 : Hid (Cx.nx k z (z.length : Int) = (0, 0)) := Cx.nx_end k z
        have HP0 : Hid (Cx.pv k z 0 = (0, 0)) := Cx.pv_zero k z
        have hzz : ((z.length : Int) == (z.length : Int)) = true := by simp
        clear HI HJ hbw
        go_wp2_with fail
        refine (Next_any k _ z _ _ (HR.out.ext (ext_trans HW2.out HBW2.out)) HB.out).mono ?_
        rintro e w4 ⟨rfl, hb4⟩
        rw [HN0.out]
        have HW4 : Hid (Below w''.heap.size w'' w4) := ext_trans HBW2.out hb4
        clear hb4
        go_wp2_with fail
        refine (Prev_any k _ z _ _ (HR.out.ext (ext_trans HW2.out HW4.out)) HB.out).mono ?_
        rintro e w5 ⟨rfl, hb5⟩
        rw [HP0.out]
        have HW5 : Hid (Below w''.heap.size w'' w5) := ext_trans HW4.out hb5
        clear hb5
        go_wp2
        go_ret
        exact ⟨rfl, ext_trans HW2.out HW5.out⟩
end Go.Proofs.Ytbfbaknfeleddaa
