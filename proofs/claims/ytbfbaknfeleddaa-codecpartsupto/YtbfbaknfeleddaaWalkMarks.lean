/- marked and the law CodecMarks. -/
import Derived.Test.YtbfbaknfeleddaaMarks
namespace Go.Proofs.Ytbfbaknfeleddaa
open Go.RowKit

theorem grown_rd {k : IntKind} {w w' : World} {v : Value} {zs : List Int} {g B : Nat} (h : Rd k w v zs) (hg : w.grownBy w' (some g)) (hB : B ≤ g) (hv : zs ≠ [] → ∀ b off n c, v = .slice (some ⟨b, off, none⟩) n c → b < B) : Rd k w' v zs := by
  obtain ⟨ao, cap, hv', h1, h2, h3⟩ := h
  refine ⟨ao, cap, hv', h1, h2, fun hn => ?_⟩
  obtain ⟨b, off, ha, hlt, hc⟩ := h3 hn
  have hlt' := hv hn b off zs.length cap (by rw [hv', ha])
  refine ⟨b, off, ha, Nat.lt_of_lt_of_le hlt hg.size, fun i hi => ?_⟩
  rw [World.cell?_of_block (w := w) (hg.block b hlt (by intro e; cases e; omega))]
  exact hc i hi

/-- A slice that could be read in an elder world lies below that world's end. -/
theorem Rd.low {k : IntKind} {w : World} {v : Value} {zs : List Int} (h : Rd k w v zs) : zs ≠ [] → ∀ b off n c, v = .slice (some ⟨b, off, none⟩) n c → b < w.heap.size := by
  intro hn b off n c hv
  obtain ⟨ao, cap, hv', h1, h2, h3⟩ := h
  obtain ⟨b', off', ha, hlt, _⟩ := h3 hn
  rw [hv', ha] at hv
  cases hv
  exact hlt

set_option maxRecDepth 100000 in
theorem marked_any (enc : Int) (v : Value) (z : List Int) (w : World) (h : Rd .u8 w v z) (hb : Byt z) (hz : z.length + 40 ≤ 140737488355328) :
    Calls Try.prog 15 #[.int .i64 enc, v] w fun e w' => e = .returned (.bool true) ∧ Below w.heap.size w w' := by
  obtain ⟨ao, cp, rfl, _⟩ := id h
  have HR : Hid (Rd .u8 w (.slice ao z.length cp) z) := h
  have HB : Hid (Byt z) := hb
  clear h hb
  go_enter Try.func15, Try.ntmps15
  go_wp2_with fail
  refine (Mark_any _ _).mono ?_
  rintro e w1 ⟨m, rfl, hm1, hb1⟩
  have HM : Hid (Rd .u8 w1 m (Cx.mk enc)) := hm1
  have HW1 : Hid (Below w.heap.size w w1) := hb1
  clear hm1 hb1
  go_wp2_with fail
  refine (lend_any _ z _ (HR.out.ext HW1.out) (by omega)).mono ?_
  rintro e w2 ⟨g, cap, rfl, hL2, hb2⟩
  have HL : Hid (Lent w2 w1.heap.size g cap z) := hL2
  have hcap : z.length + 40 ≤ cap := hL2.1
  have hcm : cap ≤ 9223372036854775807 := hL2.2.1
  have HW2 : Hid (Below w1.heap.size w1 w2) := hb2
  clear hL2 hb2
  go_wp2_with fail
  refine (Detect_any _ z _ HL.out.rd HB.out).mono ?_
  rintro e w3 ⟨rfl, hb3⟩
  have HW3 : Hid (Below w2.heap.size w2 w3) := hb3
  clear hb3
  go_wp2_with fail
  refine (rDetect_any _ z _ (HR.out.ext (ext_trans HW1.out (ext_trans HW2.out HW3.out))) (by omega)).mono ?_
  rintro e w4 ⟨rfl, hb4⟩
  have HW4 : Hid (Below w3.heap.size w3 w4) := hb4
  clear hb4
  generalize hd1 : (Cx.det z).1 = d1 at *
  generalize hd2 : (Cx.det z).2 = d2 at *
  clear hd1 hd2
  go_wp2_with fail
  refine (rMark_any _ _).mono ?_
  rintro e w5 ⟨m', rfl, hm5, hb5⟩
  have HM5 : Hid (Rd .u8 w5 m' (Cx.mk enc)) := hm5
  have HW5 : Hid (Below w4.heap.size w4 w5) := hb5
  have HA : Hid (Below w2.heap.size w2 w5) := ext_trans HW3.out (ext_trans HW4.out hb5)
  have HM' : Hid (Rd .u8 w5 m (Cx.mk enc)) := HM.out.ext (ext_trans HW2.out HA.out)
  have HR5 : Hid (Rd .u8 w5 (.slice ao z.length cp) z) := HR.out.ext (ext_trans HW1.out (ext_trans HW2.out HA.out))
  clear hm5 hb5
  go_wp2_with fail
  refine (sameBytes_any _ _ _ _ _ HM'.out HM5.out).mono ?_
  rintro e w6 ⟨rfl, hb6⟩
  have HW6 : Hid (Below w5.heap.size w5 w6) := hb6
  have HL6 : Hid (Lent w6 w1.heap.size g cap z) := HL.out.ext (ext_trans HA.out hb6)
  clear hb6
  go_wp2_with fail
  refine (kept_any _ z g cap _ _ (HR5.out.ext HW6.out) HL6.out).mono ?_
  rintro e w7 ⟨rfl, hb7⟩
  have HW7 : Hid (Below w6.heap.size w6 w7) := hb7
  have HL7 : Hid (Lent w7 w1.heap.size g cap z) := HL6.out.ext hb7
  have HR7 : Hid (Rd .u8 w7 (.slice ao z.length cp) z) := (HR5.out.ext HW6.out).ext hb7
  clear hb7
  go_wp2_with fail
  refine (turned_any z g cap _ _ (by omega) HL7.out).mono ?_
  rintro e w8 ⟨o, rfl, hL8, hO8, hg8⟩
  have hT := turn_len z
  have hTb : Hid (Byt (turn z)) := turn_byt z
  have HL8 : Hid (Lent w8 w1.heap.size g cap (turn z)) := hL8
  have HO8 : Hid (Rd .u8 w8 o (turn z)) := Rd.of_own hO8
  have HG8 : Hid (w7.grownBy w8 (some g)) := hg8
  clear hL8 hO8 hg8
  go_wp2_with fail
  have hrd8 := HL8.out.rd
  rw [hT] at hrd8
  refine (Detect_any _ (turn z) _ hrd8 hTb.out).mono ?_
  rintro e w9 ⟨rfl, hb9⟩
  have HW9 : Hid (Below w8.heap.size w8 w9) := hb9
  clear hb9 hrd8
  go_wp2_with fail
  refine (rDetect_any _ (turn z) _ (HO8.out.ext HW9.out) (by omega)).mono ?_
  rintro e w10 ⟨rfl, hb10⟩
  generalize (Cx.det (turn z)).1 = d3 at *
  generalize (Cx.det (turn z)).2 = d4 at *
  have HW10 : Hid (Below w9.heap.size w9 w10) := hb10
  clear hb10
  go_wp2
  go_ret
  refine ⟨rfl, ?_⟩
  have hA : Below w.heap.size w w7 := ext_trans HW1.out (ext_trans HW2.out (ext_trans HA.out (ext_trans HW6.out HW7.out)))
  have hB : Below w.heap.size w w8 := hA.grown HG8.out hA.size (fun k hk => by cases hk; exact Nat.le_trans HW1.out.size HL8.out.2.2.1)
  exact ext_trans hB (ext_trans HW9.out HW10.out)

theorem Byt.two : Byt [254, 255] := by unfold Byt; simp

set_option maxRecDepth 100000 in
theorem law_marks (enc : Int) (v : Value) (z : List Int) (w : World) (h : Rd .u8 w v z) (hb : Byt z) (hz : z.length + 40 ≤ 140737488355328) :
    Calls Try.prog 3 #[.int .i64 enc, v] w fun e w' => e = .returned (.bool true) ∧ Below w.heap.size w w' := by
  have HR : Hid (Rd .u8 w v z) := h
  have HB : Hid (Byt z) := hb
  clear h hb
  go_enter Try.func3, Try.ntmps3
  go_wp2_with fail
  refine (marked_any _ _ [254, 255] _ (Rd.lit .u8 w 5 [254, 255] (by simp [maxLen])) Byt.two (by simp)).mono ?_
  rintro e w1 ⟨rfl, hb1⟩
  have HW1 : Hid (Below w.heap.size w w1) := ext_trans ((Below.refl _ _).alloc (Nat.le_refl _) _) hb1
  clear hb1
  go_wp2_with fail
  refine (marked_any _ _ z _ (HR.out.ext HW1.out) HB.out hz).mono ?_
  rintro e w2 ⟨rfl, hb2⟩
  have HW2 : Hid (Below w1.heap.size w1 w2) := hb2
  clear hb2
  go_wp2
  go_ret
  exact ⟨rfl, ext_trans HW1.out HW2.out⟩
end Go.Proofs.Ytbfbaknfeleddaa
