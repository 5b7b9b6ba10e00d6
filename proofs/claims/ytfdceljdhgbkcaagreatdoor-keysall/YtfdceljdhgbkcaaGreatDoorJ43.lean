import Derived.Test.YtfdceljdhgbkcaaGreatDoorJ27
import Derived.Test.YtfdceljdhgbkcaaGreatDoorJ38
import Derived.Test.YtfdceljdhgbkcaaGreatDoorJ42
/- The document's better. -/
namespace Go.Proofs.YtfdceljdhgbkcaaGreatDoor
open Go.RowKit
theorem btr_27 {sl : Bool} {c : Cm} {o : Option (List Int)} {K : List Int} (h : 27 ∈ K) : dBtr sl c o K = o := by unfold dBtr; rw [if_pos h]
theorem btr_n {sl : Bool} {c : Cm} {K : List Int} (h : 27 ∉ K) : dBtr sl c none K = if eqC (dRds sl K).1 c = true ∧ (dRds sl K).2 = 1 then some K else none := by unfold dBtr; rw [if_neg h]
theorem btr_s {sl : Bool} {c : Cm} {K : List Int} (l : List Int) (h : 27 ∉ K) : dBtr sl c (some l) K = if bfr K l = true then (if eqC (dRds sl K).1 c = true ∧ (dRds sl K).2 = 1 then some K else some l) else some l := by unfold dBtr; rw [if_neg h]
set_option maxRecDepth 100000 in
set_option maxHeartbeats 8000000 in
theorem r_better_any {b : Nat} {sl : Bool} (bv kv : Value) (o : Option (List Int)) (K : List Int) (c : Cm) (w : World) (hT : TbM w b sl) (hb : OptI w 0 bv o) (hk : OwnI w 0 kv K) (hK0 : K ≠ []) (hKl : K.length ≤ 20000) :
    Calls Tryz.prog 28 #[.pointer (some ⟨b, 0, none⟩), bv, kv, cmV c] w fun e w' => ∃ v, e = .returned v ∧ OptI w' 0 v (dBtr sl c o K) ∧ Below w.heap.size w w' := by
  obtain ⟨cr, cc, cv, cm, ca⟩ := c
  obtain ⟨RES, HX⟩ : ∃ R, Hid (R = dBtr sl ⟨cr, cc, cv, cm, ca⟩ o K) := ⟨_, hidIt rfl⟩
  rw [← HX.out]
  obtain ⟨ka, kc, rfl, _⟩ := hk.rds.len
  have HT := hidIt hT
  have HBV := hidIt hb
  have HK := hidIt hk
  have HK0 := hidIt hK0
  have HKL := hidIt hKl
  have hk9 : K.length ≤ 9223372036854775807 := by omega
  obtain ⟨w0, hw0⟩ : ∃ w0, w0 = w.alloc (.cells #[.int .i64 cr, .int .i64 cc, .int .i64 cv, .int .i64 cm, .int .i64 ca] 33) := ⟨_, rfl⟩
  have HB0 : Hid (Below w.heap.size w w0) := by unfold Hid; rw [hw0]; exact ext_alloc (Below.refl _ _) _
  have HR0 : Hid (w0.heap[w.heap.size]? = some (.cells #[.int .i64 cr, .int .i64 cc, .int .i64 cv, .int .i64 cm, .int .i64 ca] 33 (0, 0))) := by unfold Hid; rw [hw0]; exact heap_alloc_new _ _
  clear hT hb hk hK0 hKl
  go_enter Tryz.func28, Tryz.ntmps28
  go_upto_region 1 with fail
  rw [← hw0]
  clear hw0
  go_wp2_with fail
  go_loopw [9] (fun iv wr => ∃ p : Nat, p ≤ K.length ∧ iv = .int .i64 p ∧ Hid (27 ∉ K.take p) ∧ Hid (Below w0.heap.size w0 wr)) (fun iv _ => K.length - (RowKit.intOf iv).toNat)
  case atStart => exact ⟨0, Nat.zero_le _, rfl, by unfold Hid; simp, Below.refl _ _⟩
  case round =>
    obtain ⟨p, hp, rfl, HN, HBW⟩ := hrel
    by_cases hlt : p < K.length
    · have hltI : (p : Int) < (K.length : Int) := by omega
      obtain ⟨kb, ko, rfl, ck⟩ := rd_at (HK.out.ext (ext_trans HB0.out HBW.out)).rds hlt
      by_cases h27 : K[p]?.getD 0 = 27
      · have HXX : Hid (RES = o) := HX.out.trans (btr_27 (List.mem_of_getElem? (i := p) (by rw [List.getElem?_eq_getElem hlt] at h27 ⊢; exact congrArg some h27)))
        rw [h27] at ck
        clear h27
        have HBX := HBW
        go_wp2_with fail
        go_ret
        exact ⟨_, rfl, by rw [HXX.out]; exact HBV.out.ext (HB0.out.trans (HBX.out.mono HB0.out.size)), ext_trans HB0.out HBX.out⟩
      · have h27b : (K[p]?.getD 0 == 27) = false := by simpa using h27
        have HN2 : Hid (27 ∉ K.take (p + 1)) := by
          unfold Hid
          rw [List.take_add_one, List.getElem?_eq_getElem hlt]
          intro h
          rcases List.mem_append.1 h with h | h
          · exact HN.out h
          · rw [List.getElem?_eq_getElem hlt] at h27
            simp at h
            exact h27 h.symm
        generalize K[p]?.getD 0 = z at ck h27b
        clear h27
        go_wp2_with fail
        go_roundw
        case rel => exact ⟨p + 1, by omega, by go_num, HN2.out, HBW.out⟩
        case measure => simp [RowKit.intOf]; omega
    · obtain rfl : p = K.length := by omega
      have hge : ¬ (K.length : Int) < (K.length : Int) := by omega
      have HN2 : Hid (27 ∉ K) := by have := HN.out; rw [List.take_length] at this; exact this
      clear HN
      cases o with
      | none =>
        obtain rfl : bv = .slice none 0 0 := HBV.out
        replace HX := hidIt (HX.out.trans (btr_n HN2.out))
        go_upto_region 8 with fail
        have HRE := hidIt (r_Reads_any (.slice ka K.length kc) K wr (HT.out.ext (ext_trans HB0.out HBW.out)) (HK.out.ext (ext_trans HB0.out HBW.out)).rds HK0.out (by have := HKL.out; omega))
        generalize dRds sl K = X at HX HRE
        obtain ⟨⟨d0, d1, d2, d3, d4⟩, s9⟩ := X
        dsimp only at HX HRE
        go_upto_region 9 with (go_at_call 22; refine HRE.out.mono ?_; rintro e y ⟨rfl, hb⟩; (try dsimp only); have HBY := hidIt (ext_trans HBW.out hb); clear hb HRE)
        obtain ⟨w5, hw5⟩ : ∃ w5, w5 = y.alloc (.cells #[.int .i64 d0, .int .i64 d1, .int .i64 d2, .int .i64 d3, .int .i64 d4] 33) := ⟨_, rfl⟩
        rw [← hw5]
        have HBX : Hid (Below w0.heap.size w0 w5) := by unfold Hid; rw [hw5]; exact ext_alloc HBY.out _
        have HC5 : Hid (w5.heap[y.heap.size]? = some (.cells #[.int .i64 d0, .int .i64 d1, .int .i64 d2, .int .i64 d3, .int .i64 d4] 33 (0, 0))) := by unfold Hid; rw [hw5]; exact heap_alloc_new _ _
        have HR5 := hidIt ((HBX.out.block _ (Array.getElem?_eq_some_iff.1 HR0.out).1).trans HR0.out)
        clear hw5 HBY
        generalize y.heap.size = g5 at HC5 ⊢
        obtain ⟨_, e0, e1, e2, e3, e4, ef⟩ := cells5 HC5.out
        obtain ⟨_, r0, r1, r2, r3, r4, rf⟩ := cells5 HR5.out
        by_cases hs : s9 = 1
        · subst hs
          by_cases he : d0 = cr ∧ d1 = cc ∧ d2 = cv ∧ d3 = cm ∧ d4 = ca
          · obtain ⟨rfl, rfl, rfl, rfl, rfl⟩ := he
            have HXX : Hid (RES = some K) := by
              have := HX.out
              rw [if_pos ⟨eqC_iff.2 rfl, rfl⟩] at this
              exact this
            go_wp2_with fail
            go_ret
            exact ⟨.slice ka K.length kc, rfl, by rw [HXX.out]; exact ⟨HK.out.ext (ext_trans HB0.out HBX.out), HK0.out⟩, ext_trans HB0.out HBX.out⟩
          · have HXX : Hid (RES = none) := by
              have := HX.out
              rw [if_neg (fun h => he (by have := eqC_iff.1 h.1; injection this with a b c d e; exact ⟨a, b, c, d, e⟩))] at this
              exact this
            have HEN := hidIt he
            clear he
            go_wp2_with fail
            · exact absurd ⟨by assumption, by assumption, by assumption, by assumption, by assumption⟩ HEN.out
            all_goals
              go_ret
              exact ⟨(.slice none 0 0), rfl, by rw [HXX.out]; exact HBV.out.ext (HB0.out.trans (HBX.out.mono HB0.out.size)), ext_trans HB0.out HBX.out⟩
        · have hsb : (s9 != 1) = true := by simpa using hs
          have HXX : Hid (RES = none) := by
            have := HX.out
            rw [if_neg (fun h => hs h.2)] at this
            exact this
          clear hs
          go_wp2_with fail
          go_ret
          exact ⟨(.slice none 0 0), rfl, by rw [HXX.out]; exact HBV.out.ext (HB0.out.trans (HBX.out.mono HB0.out.size)), ext_trans HB0.out HBX.out⟩
      | some l =>
        obtain ⟨ba, bn, bc, rfl, hbr⟩ := HBV.out.some
        have HLE := hidIt (r_less_any (.slice ka K.length kc) (.slice (some ba) bn bc) K l wr (HK.out.ext (ext_trans HB0.out HBW.out)).rds (hbr.ext (ext_trans HB0.out HBW.out)))
        clear hbr
        replace HX := hidIt (HX.out.trans (btr_s l HN2.out))
        cases hbf : bfr K l with
        | false =>
          rw [hbf] at HX HLE
          have HXX : Hid (RES = some l) := HX.out
          clear hbf
          go_wp2_with (go_at_call 55; refine HLE.out.mono ?_; rintro e y ⟨rfl, hb⟩; (try dsimp only); have HBX := hidIt (ext_trans HBW.out hb); clear hb HLE)
          go_ret
          exact ⟨_, rfl, by rw [HXX.out]; exact HBV.out.ext (HB0.out.trans (HBX.out.mono HB0.out.size)), ext_trans HB0.out HBX.out⟩
        | true =>
          rw [hbf, if_pos rfl] at HX
          rw [hbf] at HLE
          clear hbf
          go_upto_region 8 with (go_at_call 55; refine HLE.out.mono ?_; rintro e y ⟨rfl, hb⟩; (try dsimp only); have HBX := hidIt (ext_trans HBW.out hb); clear hb HLE)
          clear HBW
          have HBW := HBX
          clear HBX
          obtain ⟨wr, rfl⟩ : ∃ wr, wr = y := ⟨_, rfl⟩
          have HRE := hidIt (r_Reads_any (.slice ka K.length kc) K wr (HT.out.ext (ext_trans HB0.out HBW.out)) (HK.out.ext (ext_trans HB0.out HBW.out)).rds HK0.out (by have := HKL.out; omega))
          generalize dRds sl K = X at HX HRE
          obtain ⟨⟨d0, d1, d2, d3, d4⟩, s9⟩ := X
          dsimp only at HX HRE
          go_upto_region 9 with (go_at_call 22; refine HRE.out.mono ?_; rintro e y ⟨rfl, hb⟩; (try dsimp only); have HBY := hidIt (ext_trans HBW.out hb); clear hb HRE)
          obtain ⟨w5, hw5⟩ : ∃ w5, w5 = y.alloc (.cells #[.int .i64 d0, .int .i64 d1, .int .i64 d2, .int .i64 d3, .int .i64 d4] 33) := ⟨_, rfl⟩
          rw [← hw5]
          have HBX : Hid (Below w0.heap.size w0 w5) := by unfold Hid; rw [hw5]; exact ext_alloc HBY.out _
          have HC5 : Hid (w5.heap[y.heap.size]? = some (.cells #[.int .i64 d0, .int .i64 d1, .int .i64 d2, .int .i64 d3, .int .i64 d4] 33 (0, 0))) := by unfold Hid; rw [hw5]; exact heap_alloc_new _ _
          have HR5 := hidIt ((HBX.out.block _ (Array.getElem?_eq_some_iff.1 HR0.out).1).trans HR0.out)
          clear hw5 HBY
          generalize y.heap.size = g5 at HC5 ⊢
          obtain ⟨_, e0, e1, e2, e3, e4, ef⟩ := cells5 HC5.out
          obtain ⟨_, r0, r1, r2, r3, r4, rf⟩ := cells5 HR5.out
          by_cases hs : s9 = 1
          · subst hs
            by_cases he : d0 = cr ∧ d1 = cc ∧ d2 = cv ∧ d3 = cm ∧ d4 = ca
            · obtain ⟨rfl, rfl, rfl, rfl, rfl⟩ := he
              have HXX : Hid (RES = some K) := by
                have := HX.out
                rw [if_pos ⟨eqC_iff.2 rfl, rfl⟩] at this
                exact this
              go_wp2_with fail
              go_ret
              exact ⟨.slice ka K.length kc, rfl, by rw [HXX.out]; exact ⟨HK.out.ext (ext_trans HB0.out HBX.out), HK0.out⟩, ext_trans HB0.out HBX.out⟩
            · have HXX : Hid (RES = some l) := by
                have := HX.out
                rw [if_neg (fun h => he (by have := eqC_iff.1 h.1; injection this with a b c d e; exact ⟨a, b, c, d, e⟩))] at this
                exact this
              have HEN := hidIt he
              clear he
              go_wp2_with fail
              · exact absurd ⟨by assumption, by assumption, by assumption, by assumption, by assumption⟩ HEN.out
              all_goals
                go_ret
                exact ⟨(.slice (some ba) bn bc), rfl, by rw [HXX.out]; exact HBV.out.ext (HB0.out.trans (HBX.out.mono HB0.out.size)), ext_trans HB0.out HBX.out⟩
          · have hsb : (s9 != 1) = true := by simpa using hs
            have HXX : Hid (RES = some l) := by
              have := HX.out
              rw [if_neg (fun h => hs h.2)] at this
              exact this
            clear hs
            go_wp2_with fail
            go_ret
            exact ⟨(.slice (some ba) bn bc), rfl, by rw [HXX.out]; exact HBV.out.ext (HB0.out.trans (HBX.out.mono HB0.out.size)), ext_trans HB0.out HBX.out⟩
end Go.Proofs.YtfdceljdhgbkcaaGreatDoor
