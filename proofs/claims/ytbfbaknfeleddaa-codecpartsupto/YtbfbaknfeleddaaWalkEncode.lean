/- encoded; the law CodecEncode. -/
import Derived.Test.YtbfbaknfeleddaaEncode2
import Derived.Test.YtbfbaknfeleddaaIntsLend
namespace Go.Proofs.Ytbfbaknfeleddaa
open Go.RowKit

theorem sameBytes_eq (v1 v2 : Value) (z : List Int) (w : World) (h1 : Rd .u8 w v1 z) (h2 : Rd .u8 w v2 z) :
    Calls Try.prog 35 #[v1, v2] w fun e w' => e = .returned (.bool true) ∧ Below w.heap.size w w' := by
  have := sameBytes_any v1 v2 z z w h1 h2
  simpa using this

theorem Cx.encR_nil (enc : Int) : Cx.encR enc [] = ([], 0, Cx.er enc) := by
  unfold Cx.encR Cx.er
  split <;> simp [Cx.bad, Cx.encB]

/-- One atom written over. -/
def tx (x : Int) : Int := bits .xor .i64 x 1
def flip (zs : List Int) : List Int := zs.map tx
theorem flip_len (zs : List Int) : (flip zs).length = zs.length := by simp [flip]
theorem flip_step (zs : List Int) (F : List Int) (k : Nat) (h : k < zs.length) :
    (((flip zs).take k ++ zs.drop k ++ F).map (Value.int .i64)).set k (.int .i64 (tx (zs[k]?.getD 0))) = ((flip zs).take (k + 1) ++ zs.drop (k + 1) ++ F).map (Value.int .i64) := by
  have hT : k < (flip zs).length := by rw [flip_len]; exact h
  rw [List.take_succ_eq_append_getElem hT, List.drop_eq_getElem_cons h]
  simp only [List.map_append, List.map_cons, List.append_assoc, List.cons_append]
  rw [set_mid _ _ _ _ k (by simp; omega)]
  simp [flip, h]
theorem flip_cell (zs : List Int) (F : List Int) (k : Nat) (h : k < zs.length) : (((flip zs).take k ++ zs.drop k ++ F).map (Value.int .i64))[k]? = some (.int .i64 (zs[k]?.getD 0)) := by
  have hT : k < (flip zs).length := by rw [flip_len]; exact h
  rw [List.drop_eq_getElem_cons h]
  simp only [List.map_append, List.map_cons, List.append_assoc, List.cons_append]
  rw [List.getElem?_append_right (by simp; omega)]
  simp [h, show k - min k (flip zs).length = 0 from by omega]

set_option maxRecDepth 100000 in
set_option maxHeartbeats 2000000 in
theorem encoded_any (enc : Int) (v : Value) (z : List Int) (w : World) (h : Rd .i64 w v z) (hz : z.length * 8 + 320 ≤ 140737488355328) :
    Calls Try.prog 28 #[.int .i64 enc, v] w fun e w' => e = .returned (.bool true) ∧ Below w.heap.size w w' := by
  obtain ⟨ao, cp, rfl, _⟩ := id h
  have HR : Hid (Rd .i64 w (.slice ao z.length cp) z) := h
  clear h
  go_enter Try.func28, Try.ntmps28
  go_wp2_with fail
  refine (lendInts_any _ z _ HR.out (by omega)).mono ?_
  rintro e w1 ⟨g, cap, rfl, hL1, hb1⟩
  have HL : Hid (LentI w1 w.heap.size g cap z) := hL1
  have hcap : z.length + 40 ≤ cap := hL1.1
  have hcm : cap ≤ 9223372036854775807 := hL1.2.1
  have HW1 : Hid (Below w.heap.size w w1) := hb1
  clear hL1 hb1
  go_wp2_with fail
  refine (Encode_any enc _ z _ HL.out.rd hz).mono ?_
  rintro e w2 ⟨l, rfl, hl2, hb2⟩
  have HO2 : Hid (Rd .u8 w2 l (Cx.encR enc z).1) := Rd.of_own hl2
  have HW2 : Hid (Below w1.heap.size w1 w2) := hb2
  clear hl2 hb2
  go_wp2_with fail
  refine (rEncode_any enc _ z _ (HR.out.ext (ext_trans HW1.out HW2.out)) hz).mono ?_
  rintro e w3 ⟨m, rfl, hm3, hb3⟩
  have HO3 : Hid (Rd .u8 w3 m (Cx.encR enc z).1) := Rd.of_own hm3
  have HW3 : Hid (Below w2.heap.size w2 w3) := hb3
  clear hm3 hb3
  generalize (Cx.encR enc z).2.1 = r1 at *
  generalize (Cx.encR enc z).2.2 = r2 at *
  go_wp2_with fail
  refine (Encode_any enc _ [] _ (Rd.nil _ _) (by simp)).mono ?_
  rintro e w4 ⟨zv, rfl, hz4, hb4⟩
  have hz4' := Rd.of_own hz4
  simp only [Cx.encR_nil] at hz4' ⊢
  obtain ⟨za, zc, rfl, _⟩ := hz4'
  have HW4 : Hid (Below w3.heap.size w3 w4) := hb4
  clear hz4 hb4
  simp only [List.length_nil]
  go_wp2_with fail
  refine (rEncode_any enc _ [] _ (Rd.nil _ _) (by simp)).mono ?_
  rintro e w5 ⟨yv, rfl, hy5, hb5⟩
  simp only [Cx.encR_nil]
  have HW5 : Hid (Below w4.heap.size w4 w5) := hb5
  have HA : Hid (Below w1.heap.size w1 w5) := ext_trans HW2.out (ext_trans HW3.out (ext_trans HW4.out hb5))
  have HR5 : Hid (Rd .i64 w5 (.slice ao z.length cp) z) := HR.out.ext (ext_trans HW1.out HA.out)
  have HM5 : Hid (Rd .u8 w5 m (Cx.encR enc z).1) := HO3.out.ext (ext_trans HW4.out hb5)
  have HL5 : Hid (Rd .u8 w5 l (Cx.encR enc z).1) := HO2.out.ext (ext_trans HW3.out (ext_trans HW4.out hb5))
  clear hy5 hb5
  have hner : (Cx.er enc != Cx.er enc) = false := by simp
  generalize Cx.er enc = er at *
  go_wp2_with fail
  refine (num_any _ _).mono ?_
  rintro e w' ⟨rfl, hw'⟩
  subst hw'
  have hnr2 : (r2 != r2) = false := by simp
  have hnr1 : (r1 != r1) = false := by simp
  go_wp2_with fail
  refine (num_any _ _).mono ?_
  rintro e w'' ⟨rfl, hw''⟩
  subst hw''
  go_wp2_with fail
  refine (sameBytes_eq _ _ _ _ HL5.out HM5.out).mono ?_
  rintro e w6 ⟨rfl, hb6⟩
  have HW6 : Hid (Below w''.heap.size w'' w6) := hb6
  have HL6 : Hid (LentI w6 w.heap.size g cap z) := HL.out.ext (ext_trans HA.out hb6)
  have HR6 : Hid (Rd .i64 w6 (.slice ao z.length cp) z) := HR5.out.ext hb6
  clear hb6
  go_wp2_with fail
  refine (keptInts_any _ z g cap _ _ HR6.out HL6.out).mono ?_
  rintro e w7 ⟨rfl, hb7⟩
  have HW7 : Hid (Below w''.heap.size w'' w7) := ext_trans HW6.out hb7
  have hL7 : LentI w7 w.heap.size g cap z := HL6.out.ext hb7
  clear hb7
  obtain ⟨hl1, hl2, hl3, hl4, hown⟩ := hL7
  generalize hF : filli z.length (cap - z.length) = F at *
  have HF : Hid (filli z.length (cap - z.length) = F) := hF
  clear hF
  go_wp2_with fail
  go_loopw [19] (fun i wr => ∃ (k : Nat), k ≤ z.length ∧ i = .int .i64 k ∧ wr.ownsRow w.heap.size 3 1 (.slice (some ⟨g, 0, none⟩) cap cap) cap (((flip z).take k ++ z.drop k ++ F).map (Value.int .i64)) ∧ w7.grownBy wr (some g)) (fun i _ => z.length - (intOf i).toNat)
  case atStart => exact ⟨0, Nat.zero_le _, rfl, by simpa using hown, World.grownBy.refl _ _⟩
  case round =>
    obtain ⟨k, hk1, rfl, howr, hg⟩ := hrel
    by_cases hlt : k < z.length
    · have hcx : wr.cell? ⟨g, k, none⟩ = some (.int .i64 (z[k]?.getD 0)) := by
        rw [howr.cellAt k (by omega), flip_cell z F k hlt]
      have hfz := howr.frozenAt k
      have hst := (howr.stored k (.int .i64 (tx (z[k]?.getD 0)))).1
      rw [flip_step z F k hlt] at hst
      generalize z[k]?.getD 0 = x at *
      have HS : Hid ((wr.setCell ⟨g, k, none⟩ (.int .i64 (tx x))).ownsRow w.heap.size 3 1 (.slice (some ⟨g, 0, none⟩) cap cap) cap (((flip z).take (k + 1) ++ z.drop (k + 1) ++ F).map (Value.int .i64))) := hst
      clear hst howr hown
      go_wp2
      go_roundw
      case rel => exact ⟨k + 1, by omega, by go_num, HS.out, grown_setCell hg _⟩
      case measure => simp [intOf]; omega
    · have hke : k = z.length := by omega
      subst hke
      have e : (flip z).take z.length ++ z.drop z.length ++ F = flip z ++ F := by rw [List.take_of_length_le (by rw [flip_len]; exact Nat.le_refl _), List.drop_length, List.append_nil]
      rw [e] at howr
      have HL8 : Hid (LentI wr w.heap.size g cap (flip z)) := by
        refine ⟨by rw [flip_len]; exact hl1, hl2, hl3, Nat.lt_of_lt_of_le hl4 hg.size, ?_⟩
        rw [flip_len, HF.out]
        exact howr
      clear howr hown e
      have hT := flip_len z
      have HG8 : Hid (w7.grownBy wr (some g)) := hg
      clear hg
      go_wp2_with fail
      have hrd8 := HL8.out.rd
      rw [hT] at hrd8
      refine (copyInts_any _ (flip z) _ hrd8 (by rw [hT]; omega)).mono ?_
      rintro e w8 ⟨o, rfl, hO8, hb8⟩
      have HO8 : Hid (Rd .i64 w8 o (flip z)) := Rd.of_own hO8
      have HW8 : Hid (Below wr.heap.size wr w8) := hb8
      have hrd8' := hrd8.ext hb8
      clear hO8 hb8 hrd8
      have HRD8 : Hid (Rd .i64 w8 (.slice (some ⟨g, 0, none⟩) z.length cap) (flip z)) := hrd8'
      clear hrd8'
      go_wp2_with fail
      refine (Encode_any enc _ (flip z) _ HRD8.out (by rw [hT]; omega)).mono ?_
      rintro e w9 ⟨l9, rfl, hl9, hb9⟩
      have HO9 : Hid (Rd .u8 w9 l9 (Cx.encR enc (flip z)).1) := Rd.of_own hl9
      have HW9 : Hid (Below w8.heap.size w8 w9) := hb9
      clear hl9 hb9
      go_wp2_with fail
      refine (rEncode_any enc _ (flip z) _ (HO8.out.ext HW9.out) (by rw [hT]; omega)).mono ?_
      rintro e w10 ⟨m10, rfl, hm10, hb10⟩
      have HO10 : Hid (Rd .u8 w10 m10 (Cx.encR enc (flip z)).1) := Rd.of_own hm10
      have HW10 : Hid (Below w9.heap.size w9 w10) := hb10
      clear hm10 hb10
      generalize (Cx.encR enc (flip z)).2.1 = s1 at *
      generalize (Cx.encR enc (flip z)).2.2 = s2 at *
      have hes2 : (s2 == s2) = true := by simp
      have hes1 : (s1 == s1) = true := by simp
      go_wp2_with fail
      refine (num_any _ _).mono ?_
      rintro e w11 ⟨rfl, hw11⟩
      subst hw11
      go_wp2_with fail
      refine (sameBytes_eq _ _ _ _ (HO9.out.ext HW10.out) HO10.out).mono ?_
      rintro e w12 ⟨rfl, hb12⟩
      have HW12 : Hid (Below w11.heap.size w11 w12) := hb12
      clear hb12
      go_wp2
      go_ret
      refine ⟨rfl, ?_⟩
      have hA : Below w.heap.size w w7 := ext_trans HW1.out (ext_trans HA.out HW7.out)
      have hB : Below w.heap.size w wr := hA.grown HG8.out hA.size (fun k hk => by cases hk; exact HL8.out.2.2.1)
      exact ext_trans hB (ext_trans HW8.out (ext_trans HW9.out (ext_trans HW10.out HW12.out)))

set_option maxRecDepth 100000 in
theorem law_encode (enc : Int) (v : Value) (z : List Int) (w : World) (h : Rd .i64 w v z) (hz : z.length * 8 + 320 ≤ 140737488355328) :
    Calls Try.prog 7 #[.int .i64 enc, v] w fun e w' => e = .returned (.bool true) ∧ Below w.heap.size w w' := by
  have HR : Hid (Rd .i64 w v z) := h
  clear h
  go_enter Try.func7, Try.ntmps7
  go_wp2_with fail
  refine (encoded_any _ _ [233] _ (Rd.lit .i64 w 3 [233] (by simp [maxLen])) (by simp)).mono ?_
  rintro e w1 ⟨rfl, hb1⟩
  have HW1 : Hid (Below w.heap.size w w1) := ext_trans ((Below.refl _ _).alloc (Nat.le_refl _) _) hb1
  clear hb1
  go_wp2_with fail
  refine (encoded_any _ _ z _ (HR.out.ext HW1.out) hz).mono ?_
  rintro e w2 ⟨rfl, hb2⟩
  have HW2 : Hid (Below w1.heap.size w1 w2) := hb2
  clear hb2
  go_wp2
  go_ret
  exact ⟨rfl, ext_trans HW1.out HW2.out⟩
end Go.Proofs.Ytbfbaknfeleddaa
