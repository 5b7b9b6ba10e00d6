/- sameInts; decoded; the law CodecDecode. -/
import Derived.Test.YtbfbaknfeleddaaDecode2
import Derived.Test.YtbfbaknfeleddaaWalkMarks
namespace Go.Proofs.Ytbfbaknfeleddaa
open Go.RowKit

theorem num_any (a : Int) (w : World) : Calls Try.prog 20 #[.int .i64 a] w fun e w' => e = .returned (.int .i64 a) ∧ w' = w := by
  go_enter Try.func20, Try.ntmps20
  go_wp2
  go_ret
  exact ⟨rfl, rfl⟩

set_option maxRecDepth 100000 in
/-- Two lists that read alike. -/
theorem sameInts_any (v1 v2 : Value) (zs : List Int) (w : World) (h1 : Rd .i64 w v1 zs) (h2 : Rd .i64 w v2 zs) :
    Calls Try.prog 27 #[v1, v2] w fun e w' => e = .returned (.bool true) ∧ Below w.heap.size w w' := by
  have hlen := h1.len
  obtain ⟨ao, cap, rfl, hl1, hc1, h1⟩ := h1
  obtain ⟨ao2, cap2, rfl, hl2, hc2, h2⟩ := h2
  by_cases hn : zs = []
  · subst hn
    clear h1 h2
    simp only [List.length_nil]
    go_enter Try.func27, Try.ntmps27
    go_wp2
    refine wp_loop_rounds 1 ?_
    rw [rounds_succ]
    go_wp2
    go_ret
    exact ⟨rfl, Below.refl _ _⟩
  · obtain ⟨b, off, rfl, hb, hcl⟩ := h1 hn
    obtain ⟨b2, off2, rfl, hb2, hcl2⟩ := h2 hn
    have hq : ((zs.length : Int) != (zs.length : Int)) = false := by simp
    clear h1 h2 hn
    go_enter Try.func27, Try.ntmps27
    go_wp2
    go_loopw [5] (fun i wr => ∃ k : Nat, k ≤ zs.length ∧ i = .int .i64 k ∧ Below w.heap.size w wr) (fun i _ => zs.length - (intOf i).toNat)
    case atStart => exact ⟨0, Nat.zero_le _, rfl, Below.refl _ _⟩
    case round =>
      obtain ⟨k, hk, rfl, hbw⟩ := hrel
      by_cases hlt : k < zs.length
      · have c1 : wr.cell? ⟨b, off + k, none⟩ = some (.int .i64 (zs[k]?.getD 0)) := (hbw.cell (p := ⟨b, off + k, none⟩) hb).trans (hcl _ hlt)
        have c2 : wr.cell? ⟨b2, off2 + k, none⟩ = some (.int .i64 (zs[k]?.getD 0)) := (hbw.cell (p := ⟨b2, off2 + k, none⟩) hb2).trans (hcl2 _ hlt)
        have hi1 : (k : Int) < (zs.length : Int) := by omega
        generalize zs[k]?.getD 0 = x at *
        clear hcl hcl2
        go_wp2
        go_quiet (fail)
        go_wp2
        go_roundw
        case rel => exact ⟨k + 1, by omega, by go_num, below_drewN hbw _⟩
        case measure => simp [intOf]; omega
      · clear hcl hcl2
        go_wp2
        go_ret
        exact ⟨rfl, hbw⟩

theorem Cx.dd_nil (enc : Int) : Cx.dd enc [] = [] := by unfold Cx.dd; split <;> rfl

set_option maxRecDepth 100000 in
set_option maxHeartbeats 1000000 in
theorem decoded_any (enc : Int) (v : Value) (z : List Int) (w : World) (h : Rd .u8 w v z) (hb : Byt z) (hz : (z.length + 40) * 8 ≤ 140737488355328) :
    Calls Try.prog 36 #[.int .i64 enc, v] w fun e w' => e = .returned (.bool true) ∧ Below w.heap.size w w' := by
  obtain ⟨ao, cp, rfl, _⟩ := id h
  have HR : Hid (Rd .u8 w (.slice ao z.length cp) z) := h
  have HB : Hid (Byt z) := hb
  clear h hb
  go_enter Try.func36, Try.ntmps36
  go_wp2_with fail
  refine (lend_any _ z _ HR.out (by omega)).mono ?_
  rintro e w1 ⟨g, cap, rfl, hL1, hb1⟩
  have HL : Hid (Lent w1 w.heap.size g cap z) := hL1
  have hcap : z.length + 40 ≤ cap := hL1.1
  have hcm : cap ≤ 9223372036854775807 := hL1.2.1
  have HW1 : Hid (Below w.heap.size w w1) := hb1
  clear hL1 hb1
  go_wp2_with fail
  refine (Decode_any enc _ z _ HL.out.rd HB.out (by omega)).mono ?_
  rintro e w2 ⟨l, rfl, hl2, hb2⟩
  have HO2 : Hid (Rd .i64 w2 l (Cx.dd enc z)) := Rd.of_own hl2
  have HW2 : Hid (Below w1.heap.size w1 w2) := hb2
  clear hl2 hb2
  go_wp2_with fail
  refine (rDecode_any enc _ z _ (HR.out.ext (ext_trans HW1.out HW2.out)) HB.out (by omega)).mono ?_
  rintro e w3 ⟨m, rfl, hm3, hb3⟩
  have HO3 : Hid (Rd .i64 w3 m (Cx.dd enc z)) := Rd.of_own hm3
  have HW3 : Hid (Below w2.heap.size w2 w3) := hb3
  clear hm3 hb3
  go_wp2_with fail
  refine (Decode_any enc _ [] _ (Rd.nil _ _) (by intro x hx; simp at hx) (by simp)).mono ?_
  rintro e w4 ⟨zv, rfl, hz4, hb4⟩
  have hz4' := Rd.of_own hz4
  rw [Cx.dd_nil] at hz4'
  obtain ⟨za, zc, rfl, _⟩ := hz4'
  have HW4 : Hid (Below w3.heap.size w3 w4) := hb4
  clear hz4 hb4
  simp only [List.length_nil]
  go_wp2_with fail
  refine (rDecode_any enc _ [] _ (Rd.nil _ _) (by intro x hx; simp at hx) (by simp)).mono ?_
  rintro e w5 ⟨yv, rfl, hy5, hb5⟩
  have HW5 : Hid (Below w4.heap.size w4 w5) := hb5
  have HA : Hid (Below w1.heap.size w1 w5) := ext_trans HW2.out (ext_trans HW3.out (ext_trans HW4.out hb5))
  have HR5 : Hid (Rd .u8 w5 (.slice ao z.length cp) z) := HR.out.ext (ext_trans HW1.out HA.out)
  have HM5 : Hid (Rd .i64 w5 m (Cx.dd enc z)) := HO3.out.ext (ext_trans HW4.out hb5)
  have HL5 : Hid (Rd .i64 w5 l (Cx.dd enc z)) := HO2.out.ext (ext_trans HW3.out (ext_trans HW4.out hb5))
  clear hy5 hb5
  have hner : (Cx.er enc != Cx.er enc) = false := by simp
  have heer : (Cx.er enc == Cx.er enc) = true := by simp
  generalize Cx.er enc = er at *
  go_wp2_with fail
  refine (num_any _ _).mono ?_
  rintro e w' ⟨rfl, hw'⟩
  subst hw'
  go_wp2_with fail
  refine (sameInts_any _ _ _ _ HL5.out HM5.out).mono ?_
  rintro e w6 ⟨rfl, hb6⟩
  have HW6 : Hid (Below w'.heap.size w' w6) := hb6
  have HL6 : Hid (Lent w6 w.heap.size g cap z) := HL.out.ext (ext_trans HA.out hb6)
  have HR6 : Hid (Rd .u8 w6 (.slice ao z.length cp) z) := HR5.out.ext hb6
  clear hb6
  go_wp2_with fail
  refine (kept_any _ z g cap _ _ HR6.out HL6.out).mono ?_
  rintro e w7 ⟨rfl, hb7⟩
  have HW7 : Hid (Below w6.heap.size w6 w7) := hb7
  have HL7 : Hid (Lent w7 w.heap.size g cap z) := HL6.out.ext hb7
  clear hb7
  go_wp2_with fail
  refine (num_any _ _).mono ?_
  rintro e w'' ⟨rfl, hw''⟩
  subst hw''
  go_wp2_with fail
  refine (turned_any z g cap _ _ (by omega) HL7.out).mono ?_
  rintro e w8 ⟨o, rfl, hL8, hO8, hg8⟩
  have hT := turn_len z
  have hTb : Hid (Byt (turn z)) := turn_byt z
  have HL8 : Hid (Lent w8 w.heap.size g cap (turn z)) := hL8
  have HO8 : Hid (Rd .u8 w8 o (turn z)) := Rd.of_own hO8
  have HG8 : Hid (w''.grownBy w8 (some g)) := hg8
  clear hL8 hO8 hg8
  go_wp2_with fail
  have hrd8 := HL8.out.rd
  rw [hT] at hrd8
  refine (Decode_any enc _ (turn z) _ hrd8 hTb.out (by omega)).mono ?_
  rintro e w9 ⟨l9, rfl, hl9, hb9⟩
  have HO9 : Hid (Rd .i64 w9 l9 (Cx.dd enc (turn z))) := Rd.of_own hl9
  have HW9 : Hid (Below w8.heap.size w8 w9) := hb9
  clear hb9 hrd8 hl9
  go_wp2_with fail
  refine (rDecode_any enc _ (turn z) _ (HO8.out.ext HW9.out) hTb.out (by omega)).mono ?_
  rintro e w10 ⟨m10, rfl, hm10, hb10⟩
  have HO10 : Hid (Rd .i64 w10 m10 (Cx.dd enc (turn z))) := Rd.of_own hm10
  have HW10 : Hid (Below w9.heap.size w9 w10) := hb10
  clear hm10 hb10
  generalize Cx.er enc = er2 at *
  go_wp2_with fail
  refine (num_any _ _).mono ?_
  rintro e w11 ⟨rfl, hw11⟩
  subst hw11
  go_wp2_with fail
  refine (sameInts_any _ _ _ _ (HO9.out.ext HW10.out) HO10.out).mono ?_
  rintro e w12 ⟨rfl, hb12⟩
  have HW12 : Hid (Below w11.heap.size w11 w12) := hb12
  clear hb12
  go_wp2
  go_ret
  refine ⟨rfl, ?_⟩
  have hA : Below w.heap.size w w'' := ext_trans HW1.out (ext_trans HA.out (ext_trans HW6.out HW7.out))
  have hB : Below w.heap.size w w8 := hA.grown HG8.out hA.size (fun k hk => by cases hk; exact HL8.out.2.2.1)
  exact ext_trans hB (ext_trans HW9.out (ext_trans HW10.out HW12.out))

theorem Byt.two2 : Byt [195, 169] := by unfold Byt; simp

set_option maxRecDepth 100000 in
theorem law_decode (enc : Int) (v : Value) (z : List Int) (w : World) (h : Rd .u8 w v z) (hb : Byt z) (hz : (z.length + 40) * 8 ≤ 140737488355328) :
    Calls Try.prog 11 #[.int .i64 enc, v] w fun e w' => e = .returned (.bool true) ∧ Below w.heap.size w w' := by
  have HR : Hid (Rd .u8 w v z) := h
  have HB : Hid (Byt z) := hb
  clear h hb
  go_enter Try.func11, Try.ntmps11
  go_wp2_with fail
  refine (decoded_any _ _ [195, 169] _ (Rd.lit .u8 w 5 [195, 169] (by simp [maxLen])) Byt.two2 (by simp)).mono ?_
  rintro e w1 ⟨rfl, hb1⟩
  have HW1 : Hid (Below w.heap.size w w1) := ext_trans ((Below.refl _ _).alloc (Nat.le_refl _) _) hb1
  clear hb1
  go_wp2_with fail
  refine (decoded_any _ _ z _ (HR.out.ext HW1.out) HB.out hz).mono ?_
  rintro e w2 ⟨rfl, hb2⟩
  have HW2 : Hid (Below w1.heap.size w1 w2) := hb2
  clear hb2
  go_wp2
  go_ret
  exact ⟨rfl, ext_trans HW1.out HW2.out⟩
end Go.Proofs.Ytbfbaknfeleddaa
