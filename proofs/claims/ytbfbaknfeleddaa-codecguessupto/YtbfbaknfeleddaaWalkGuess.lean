/- guessed and the law CodecGuess. -/
import Derived.Test.YtbfbaknfeleddaaGuess5
import Derived.Test.YtbfbaknfeleddaaWalkDecode
namespace Go.Proofs.Ytbfbaknfeleddaa
open Go.RowKit

theorem Fl.one_ok : Fl.Ok (Ieee.double.read 4607182418800017408) := .inl Fl.one_num
theorem Cx.nar_ok (zs : List Int) (hb : Byt zs) (hz : zs.length ≤ 140737488355328) : Fl.Ok (Ieee.double.read (Cx.nar zs).2) := by
  have hle := Cx.hi8_le zs
  have hrl := Cx.rw_le zs.length zs (Nat.le_refl _) hb
  unfold Cx.nar
  split
  · exact Fl.one_ok
  · have hok := Fl.shr_ok (Cx.hi8 zs - Cx.rw8 zs) (Cx.hi8 zs) (by omega) (by omega)
    split
    · exact hok
    · exact Fl.less_ok _ hok
theorem Cx.wid_ok (zs : List Int) (u : Nat) (hu : u ≤ 140737488355328) (h : (Cx.wid zs u).1 ≠ 0) : Fl.Ok (Ieee.double.read (Cx.wid zs u).2) := by
  unfold Cx.wid at h ⊢
  split
  · rename_i h0; rw [if_pos h0] at h; exact absurd rfl h
  · rename_i h0; rw [if_neg h0] at h
    split
    · exact Fl.shr_ok _ _ (by omega) (by omega)
    · rename_i h1; rw [if_neg h1] at h
      split
      · exact Fl.shr_ok _ _ (by omega) (by omega)
      · rename_i h2; rw [if_neg h2] at h; exact absurd rfl h
theorem Cx.gue_self (zs : List Int) (hb : Byt zs) (hz : zs.length ≤ 140737488355328) : FloatKind.f64.format.order (Cx.gue zs).2 (Cx.gue zs).2 = some .eq := by
  refine Fl.self_eq _ ?_
  unfold Cx.gue
  split
  · exact Fl.one_ok
  · split
    · exact Cx.wid_ok zs _ (by omega) (by assumption)
    · exact Cx.nar_ok zs hb hz

set_option maxRecDepth 100000 in
set_option maxHeartbeats 1000000 in
theorem guessed_any (v : Value) (z : List Int) (w : World) (h : Rd .u8 w v z) (hb : Byt z) (hz : (z.length + 40) * 8 ≤ 140737488355328) :
    Calls Try.prog 29 #[v] w fun e w' => e = .returned (.bool true) ∧ Below w.heap.size w w' := by
  obtain ⟨ao, cp, rfl, _⟩ := id h
  have HR : Hid (Rd .u8 w (.slice ao z.length cp) z) := h
  have HB : Hid (Byt z) := hb
  clear h hb
  go_enter Try.func29, Try.ntmps29
  go_wp2_with fail
  refine (lend_any _ z _ HR.out (by omega)).mono ?_
  rintro e w1 ⟨g, cap, rfl, hL1, hb1⟩
  have HL : Hid (Lent w1 w.heap.size g cap z) := hL1
  have hcap : z.length + 40 ≤ cap := hL1.1
  have hcm : cap ≤ 9223372036854775807 := hL1.2.1
  have HW1 : Hid (Below w.heap.size w w1) := hb1
  clear hL1 hb1
  go_wp2_with fail
  refine (Guess_any _ z _ HL.out.rd HB.out (by omega)).mono ?_
  rintro e w2 ⟨rfl, hb2⟩
  have HW2 : Hid (Below w1.heap.size w1 w2) := hb2
  clear hb2
  go_wp2_with fail
  refine (rGuess_any _ z _ (HR.out.ext (ext_trans HW1.out HW2.out)) HB.out (by omega)).mono ?_
  rintro e w5 ⟨rfl, hb5⟩
  have HW5 : Hid (Below w1.heap.size w1 w5) := ext_trans HW2.out hb5
  have HR5 : Hid (Rd .u8 w5 (.slice ao z.length cp) z) := HR.out.ext (ext_trans HW1.out HW5.out)
  have HL5 : Hid (Lent w5 w.heap.size g cap z) := HL.out.ext HW5.out
  clear hb5
  have hse := Cx.gue_self z HB.out (by omega)
  generalize (Cx.gue z).1 = x1 at *
  generalize (Cx.gue z).2 = x2 at *
  go_wp2_with fail
  refine (kept_any _ z g cap _ _ HR5.out HL5.out).mono ?_
  rintro e w7 ⟨rfl, hb7⟩
  have HW7 : Hid (Below w1.heap.size w1 w7) := ext_trans HW5.out hb7
  have HL7 : Hid (Lent w7 w.heap.size g cap z) := HL5.out.ext hb7
  clear hb7 hse
  go_wp2_with fail
  refine (turned_any z g cap _ _ (by omega) HL7.out).mono ?_
  rintro e w8 ⟨o, rfl, hL8, hO8, hg8⟩
  have hT := turn_len z
  have hTb : Hid (Byt (turn z)) := turn_byt z
  have HL8 : Hid (Lent w8 w.heap.size g cap (turn z)) := hL8
  have HO8 : Hid (Rd .u8 w8 o (turn z)) := Rd.of_own hO8
  have HG8 : Hid (w7.grownBy w8 (some g)) := hg8
  clear hL8 hO8 hg8
  have hrd8 := HL8.out.rd
  rw [hT] at hrd8
  have HRD : Hid (Rd .u8 w8 (.slice (some ⟨g, 0, none⟩) z.length cap) (turn z)) := hrd8
  have HTL : Hid ((turn z).length * 8 ≤ 140737488355328) := by unfold Hid; omega
  have hse := Cx.gue_self (turn z) hTb.out (by omega)
  clear hrd8 hT
  go_wp2_with fail
  refine (Guess_any _ (turn z) _ HRD.out hTb.out (by have := HTL.out; omega)).mono ?_
  rintro e w9 ⟨rfl, hb9⟩
  have HW9 : Hid (Below w8.heap.size w8 w9) := hb9
  clear hb9
  go_wp2_with fail
  refine (rGuess_any _ (turn z) _ (HO8.out.ext HW9.out) hTb.out HTL.out).mono ?_
  rintro e w12 ⟨rfl, hb12⟩
  have HW12 : Hid (Below w8.heap.size w8 w12) := ext_trans HW9.out hb12
  clear hb12
  generalize (Cx.gue (turn z)).1 = x3 at *
  generalize (Cx.gue (turn z)).2 = x4 at *
  go_wp2
  go_ret
  refine ⟨rfl, ?_⟩
  have hA : Below w.heap.size w w7 := ext_trans HW1.out HW7.out
  have hB : Below w.heap.size w w8 := hA.grown HG8.out hA.size (fun k hk => by cases hk; exact HL8.out.2.2.1)
  exact ext_trans hB HW12.out

theorem Byt.two3 : Byt [65, 233] := by unfold Byt; simp

set_option maxRecDepth 100000 in
theorem law_guess (v : Value) (z : List Int) (w : World) (h : Rd .u8 w v z) (hb : Byt z) (hz : (z.length + 40) * 8 ≤ 140737488355328) :
    Calls Try.prog 8 #[v] w fun e w' => e = .returned (.bool true) ∧ Below w.heap.size w w' := by
  have HR : Hid (Rd .u8 w v z) := h
  have HB : Hid (Byt z) := hb
  clear h hb
  go_enter Try.func8, Try.ntmps8
  go_wp2_with fail
  refine (guessed_any _ [65, 233] _ (Rd.lit .u8 w 5 [65, 233] (by simp [maxLen])) Byt.two3 (by simp)).mono ?_
  rintro e w1 ⟨rfl, hb1⟩
  have HW1 : Hid (Below w.heap.size w w1) := ext_trans ((Below.refl _ _).alloc (Nat.le_refl _) _) hb1
  clear hb1
  go_wp2_with fail
  refine (guessed_any _ z _ (HR.out.ext HW1.out) HB.out hz).mono ?_
  rintro e w2 ⟨rfl, hb2⟩
  have HW2 : Hid (Below w1.heap.size w1 w2) := hb2
  clear hb2
  go_wp2
  go_ret
  exact ⟨rfl, ext_trans HW1.out HW2.out⟩
end Go.Proofs.Ytbfbaknfeleddaa
