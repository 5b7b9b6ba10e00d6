/- tokens and the law CodecTokens. -/
import Derived.Test.YtbfbaknfeleddaaTok3
import Derived.Test.YtbfbaknfeleddaaWalkDecode
namespace Go.Proofs.Ytbfbaknfeleddaa
open Go.RowKit

set_option maxRecDepth 100000 in
set_option maxHeartbeats 1000000 in
theorem tokens_any (enc : Int) (v : Value) (z : List Int) (a : Int) (w : World) (h : Rd .u8 w v z) (hb : Byt z) (hz : z.length + 40 ≤ 140737488355328) :
    Calls Try.prog 37 #[.int .i64 enc, v, .int .i64 a] w fun e w' => e = .returned (.bool true) ∧ Below w.heap.size w w' := by
  obtain ⟨ao, cp, rfl, _⟩ := id h
  have HR : Hid (Rd .u8 w (.slice ao z.length cp) z) := h
  have HB : Hid (Byt z) := hb
  clear h hb
  go_enter Try.func37, Try.ntmps37
  go_wp2_with fail
  refine (lend_any _ z _ HR.out (by omega)).mono ?_
  rintro e w1 ⟨g, cap, rfl, hL1, hb1⟩
  have HL : Hid (Lent w1 w.heap.size g cap z) := hL1
  have hcap : z.length + 40 ≤ cap := hL1.1
  have hcm : cap ≤ 9223372036854775807 := hL1.2.1
  have HW1 : Hid (Below w.heap.size w w1) := hb1
  clear hL1 hb1
  go_wp2_with fail
  refine (Next_any enc _ z a _ HL.out.rd HB.out).mono ?_
  rintro e w2 ⟨rfl, hb2⟩
  have HW2 : Hid (Below w1.heap.size w1 w2) := hb2
  clear hb2
  go_wp2_with fail
  refine (Prev_any enc _ z a _ (HL.out.rd.ext HW2.out) HB.out).mono ?_
  rintro e w3 ⟨rfl, hb3⟩
  have HW3 : Hid (Below w1.heap.size w1 w3) := ext_trans HW2.out hb3
  clear hb3
  go_wp2_with fail
  refine (rNext_any enc _ z a _ (HR.out.ext (ext_trans HW1.out HW3.out)) HB.out (by omega)).mono ?_
  rintro e w4 ⟨rfl, hb4⟩
  have HW4 : Hid (Below w1.heap.size w1 w4) := ext_trans HW3.out hb4
  clear hb4
  go_wp2_with fail
  refine (rPrev_any enc _ z a _ (HR.out.ext (ext_trans HW1.out HW4.out)) HB.out (by omega)).mono ?_
  rintro e w5 ⟨rfl, hb5⟩
  have HW5 : Hid (Below w1.heap.size w1 w5) := ext_trans HW4.out hb5
  have HR5 : Hid (Rd .u8 w5 (.slice ao z.length cp) z) := HR.out.ext (ext_trans HW1.out HW5.out)
  have HL5 : Hid (Lent w5 w.heap.size g cap z) := HL.out.ext HW5.out
  clear hb5
  generalize (Cx.nx enc z a).1 = x1 at *
  generalize (Cx.nx enc z a).2 = x2 at *
  generalize (Cx.pv enc z a).1 = y1 at *
  generalize (Cx.pv enc z a).2 = y2 at *
  go_wp2_with fail
  refine (kept_any _ z g cap _ _ HR5.out HL5.out).mono ?_
  rintro e w7 ⟨rfl, hb7⟩
  have HW7 : Hid (Below w1.heap.size w1 w7) := ext_trans HW5.out hb7
  have HL7 : Hid (Lent w7 w.heap.size g cap z) := HL5.out.ext hb7
  clear hb7
  go_wp2_with fail
  refine (turned_any z g cap _ _ (by omega) HL7.out).mono ?_
  rintro e w8 ⟨o, rfl, hL8, hO8, hg8⟩
  have hT := turn_len z
  have hTb : Hid (Byt (turn z)) := turn_byt z
  have HL8 : Hid (Lent w8 w.heap.size g cap (turn z)) := hL8
  have HO8 : Hid (Rd .u8 w8 o (turn z)) := Rd.of_own hO8
  have HG8 : Hid (w7.grownBy w8 (some g)) := hg8
  clear hL8 hO8 hg8
  have hrd8 := HL8.out.rd
  rw [hT] at hrd8
  have HRD : Hid (Rd .u8 w8 (.slice (some ⟨g, 0, none⟩) z.length cap) (turn z)) := hrd8
  have HTL : Hid ((turn z).length ≤ 4611686018427387000) := by unfold Hid; omega
  clear hrd8 hT
  go_wp2_with fail
  refine (Next_any enc _ (turn z) a _ HRD.out hTb.out).mono ?_
  rintro e w9 ⟨rfl, hb9⟩
  have HW9 : Hid (Below w8.heap.size w8 w9) := hb9
  clear hb9
  go_wp2_with fail
  refine (Prev_any enc _ (turn z) a _ (HRD.out.ext HW9.out) hTb.out).mono ?_
  rintro e w10 ⟨rfl, hb10⟩
  have HW10 : Hid (Below w8.heap.size w8 w10) := ext_trans HW9.out hb10
  clear hb10
  go_wp2_with fail
  refine (rNext_any enc _ (turn z) a _ (HO8.out.ext HW10.out) hTb.out HTL.out).mono ?_
  rintro e w11 ⟨rfl, hb11⟩
  have HW11 : Hid (Below w8.heap.size w8 w11) := ext_trans HW10.out hb11
  clear hb11
  go_wp2_with fail
  refine (rPrev_any enc _ (turn z) a _ (HO8.out.ext HW11.out) hTb.out HTL.out).mono ?_
  rintro e w12 ⟨rfl, hb12⟩
  have HW12 : Hid (Below w8.heap.size w8 w12) := ext_trans HW11.out hb12
  clear hb12
  generalize (Cx.nx enc (turn z) a).1 = x3 at *
  generalize (Cx.nx enc (turn z) a).2 = x4 at *
  generalize (Cx.pv enc (turn z) a).1 = y3 at *
  generalize (Cx.pv enc (turn z) a).2 = y4 at *
  go_wp2
  go_ret
  refine ⟨rfl, ?_⟩
  have hA : Below w.heap.size w w7 := ext_trans HW1.out HW7.out
  have hB : Below w.heap.size w w8 := hA.grown HG8.out hA.size (fun k hk => by cases hk; exact HL8.out.2.2.1)
  exact ext_trans hB HW12.out

set_option maxRecDepth 100000 in
theorem law_tokens (enc : Int) (v : Value) (z : List Int) (a : Int) (w : World) (h : Rd .u8 w v z) (hb : Byt z) (hz : z.length + 40 ≤ 140737488355328) :
    Calls Try.prog 12 #[.int .i64 enc, v, .int .i64 a] w fun e w' => e = .returned (.bool true) ∧ Below w.heap.size w w' := by
  have HR : Hid (Rd .u8 w v z) := h
  have HB : Hid (Byt z) := hb
  clear h hb
  go_enter Try.func12, Try.ntmps12
  go_wp2_with fail
  refine (tokens_any _ _ [195, 169] _ _ (Rd.lit .u8 w 5 [195, 169] (by simp [maxLen])) Byt.two2 (by simp)).mono ?_
  rintro e w1 ⟨rfl, hb1⟩
  have HW1 : Hid (Below w.heap.size w w1) := ext_trans ((Below.refl _ _).alloc (Nat.le_refl _) _) hb1
  clear hb1
  go_wp2_with fail
  refine (tokens_any _ _ z _ _ (HR.out.ext HW1.out) HB.out hz).mono ?_
  rintro e w2 ⟨rfl, hb2⟩
  have HW2 : Hid (Below w1.heap.size w1 w2) := hb2
  clear hb2
  go_wp2
  go_ret
  exact ⟨rfl, ext_trans HW1.out HW2.out⟩
end Go.Proofs.Ytbfbaknfeleddaa
