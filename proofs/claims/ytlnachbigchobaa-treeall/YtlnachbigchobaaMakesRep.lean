/- makes, a step KReplace. -/
import Derived.Test.YtlnachbigchobaaTells
import Derived.Test.YtlnachbigchobaaBegin
import Derived.Deep.CutRange
namespace Go.Proofs.Ytlnachbigchobaa
open Go.RowKit

set_option maxRecDepth 100000 in
set_option maxHeartbeats 8000000 in
theorem makes_rep {base gw gt ct gl cl N : Nat} {us : List (Option Addr)} {ls : List Value} {xss : List (List It)} (o : Sp) (w : World) (h : Wd w base gw gt ct gl cl us ls xss xss) (h1 : 1 ≤ us.length) (h2 : us.length ≤ 4294967296) (hs : ∀ xs ∈ xss, xs.length ≤ N) (hN : N + o.zs.length ≤ 4194304) (hr : RdR w (.slice o.ai o.zs.length o.ci) o.zs) (hold : ∀ b off, o.zs ≠ [] → o.ai = some ⟨b, off, none⟩ → b < base) (hbw : base ≤ w.heap.size) (hk : ¬ o.kind = 1) :
    Calls Try.prog 62 #[.pointer (some ⟨gw, 0, none⟩), opv o] w fun e w' => e = .returned (.bool true) ∧ Hid (∃ gt' ct' gl' cl' us' ls' xss', Wd w' base gw gt' ct' gl' cl' us' ls' xss' xss' ∧ us.length ≤ us'.length ∧ us'.length ≤ us.length + 1 ∧ ∀ xs ∈ xss', xs.length ≤ N + o.zs.length) ∧ Hid (Below base w w') := by
  obtain ⟨i0, hi, hz0, hz1, hz2⟩ := info_parts Try.info_tree
  obtain ⟨i1, hj, hy0, hy1, hy2⟩ := info_parts Try.info_list
  obtain ⟨w0, hw0⟩ : ∃ w0, w0 = w.alloc (.cells #[.int .i64 o.kind, .int .i64 o.who, .int .i64 o.fr, .int .i64 o.to, .int .i64 o.k, .int .i64 o.n, .slice o.ai o.zs.length o.ci] 95) := ⟨_, rfl⟩
  have hb0 : Below w.heap.size w w0 := by rw [hw0]; exact ext_alloc (Below.refl _ _) _
  have hs0 : w.heap.size < w0.heap.size := by rw [hw0]; simp
  have HW0 := hidIt (h.ext hb0)
  have hop : w0.heap[w.heap.size]? = some (.cells #[.int .i64 o.kind, .int .i64 o.who, .int .i64 o.fr, .int .i64 o.to, .int .i64 o.k, .int .i64 o.n, .slice o.ai o.zs.length o.ci] 95 (0, 0)) := by rw [hw0]; exact heap_alloc_new _ _
  have HAND : Hid (Calls Try.prog 73 #[.agg #[.int .i64 o.kind, .int .i64 o.who, .int .i64 o.fr, .int .i64 o.to, .int .i64 o.k, .int .i64 o.n, .slice o.ai o.zs.length o.ci]] w0 fun e w' => ∃ g cap, e = .returned (.slice (some ⟨g, 0, none⟩) cap cap) ∧ OwnR w' w0.heap.size 24 (.slice (some ⟨g, 0, none⟩) cap cap) (hnd o.zs 0 cap) ∧ o.zs.length ≤ cap ∧ cap ≤ 9223372036854775807 ∧ Below w0.heap.size w0 w') := handed_any o w0 (hr.ext hb0) (by omega)
  have hne0 : Hid (gw ≠ w.heap.size ∧ gl ≠ w.heap.size) := ⟨by have := h.lt; omega, by have := h.caps.2.2.2.2.2.2.2; omega⟩
  have HOP := hidIt hop
  have HR0 := hidIt hr
  have HB0 := hidIt hb0
  have HSX := hidIt hs
  have HD := hidIt hold
  have HK := hidIt hk
  clear hb0 hop hs h hr hold hk
  unfold opv
  obtain ⟨kind, who, fr, tt, kk, nn, ai, ci, zs⟩ := o
  simp only at *
  obtain ⟨hcm, hlc⟩ : ci ≤ 9223372036854775807 ∧ zs.length ≤ ci := by obtain ⟨ao', cap', e1, e2, e3, _⟩ := HR0.out; cases e1; exact ⟨e3, e2⟩
  have hzl : zs.length ≤ 4194304 := by omega
  have HOC : Hid (∀ w' : World, w'.heap[w.heap.size]? = some (.cells #[.int .i64 kind, .int .i64 who, .int .i64 fr, .int .i64 tt, .int .i64 kk, .int .i64 nn, .slice ai zs.length ci] 95 (0, 0)) → w'.cell? ⟨w.heap.size, 0, none⟩ = some (.int .i64 kind) ∧ w'.cell? ⟨w.heap.size, 1, none⟩ = some (.int .i64 who) ∧ w'.cell? ⟨w.heap.size, 2, none⟩ = some (.int .i64 fr) ∧ w'.cell? ⟨w.heap.size, 3, none⟩ = some (.int .i64 tt) ∧ w'.cell? ⟨w.heap.size, 4, none⟩ = some (.int .i64 kk) ∧ w'.cell? ⟨w.heap.size, 5, none⟩ = some (.int .i64 nn) ∧ w'.cell? ⟨w.heap.size, 6, none⟩ = some (.slice ai zs.length ci) ∧ w.heap.size < w'.heap.size) := fun w' hop => by
    refine ⟨?_, ?_, ?_, ?_, ?_, ?_, ?_, (Array.getElem?_eq_some_iff.1 hop).1⟩
    · rw [cell_of_row w' _ 0 _ _ _ hop]; rfl
    · rw [cell_of_row w' _ 1 _ _ _ hop]; rfl
    · rw [cell_of_row w' _ 2 _ _ _ hop]; rfl
    · rw [cell_of_row w' _ 3 _ _ _ hop]; rfl
    · rw [cell_of_row w' _ 4 _ _ _ hop]; rfl
    · rw [cell_of_row w' _ 5 _ _ _ hop]; rfl
    · rw [cell_of_row w' _ 6 _ _ _ hop]; rfl
  go_enter Try.func62, Try.ntmps62
  go_upto_region 2 with (go_at_call 73; rw [← hw0]; refine HAND.out.mono ?_; clear hw0 HAND; rintro e w1 ⟨g, cap, rfl, hO, hcz, hcap, hb1⟩; have HB1 := hidIt hb1; have HW1 := hidIt (HW0.out.ext hb1); have HOP1 : Hid (w1.heap[w.heap.size]? = some (.cells #[.int .i64 kind, .int .i64 who, .int .i64 fr, .int .i64 tt, .int .i64 kk, .int .i64 nn, .slice ai zs.length ci] 95 (0, 0))) := (by unfold Hid; rw [hb1.block _ hs0]; exact HOP.out); have HO1 := hidIt hO; clear hO hb1)
  have HBA := hidIt (ext_trans HB0.out HB1.out)
  clear HOP HW0
  obtain ⟨p0, p1, p2, p3, p4, p5, p6, pz⟩ := HOC.out w1 HOP1.out
  have hzc : (zs.length : Int) ≤ (cap : Int) := by omega
  have HRL : Hid (∀ w', OwnR w' w0.heap.size 24 (.slice (some ⟨g, 0, none⟩) cap cap) (hnd zs 0 cap) → RdR w' (.slice (some ⟨g, 0, none⟩) zs.length cap) zs) := fun w' hO => by
    have := (hO.rd).upto zs.length (by rw [hnd_len]; exact hcz)
    rw [hnd_take zs cap hcz] at this
    exact this
  have HWZ := hidIt (wt_small hzl)
  have HW0L := hidIt HW1.out.ul
  have hk1 : ¬ kind = 1 := HK.out
  have hk1' : (kind == 1) = false := by simpa using hk1
  go_wp2_with fail
  refine (who_any ⟨kind, who, fr, tt, kk, nn, ai, ci, zs⟩ w1 HW1.out h1 (by omega)).mono ?_
  rintro e w2 ⟨k, rfl, hkl, hb2⟩
  have HW2 := hidIt (HW1.out.ext hb2)
  have HO2 := hidIt (HO1.out.ext hb2)
  have HOP2 : Hid (w2.heap[w.heap.size]? = some (.cells #[.int .i64 kind, .int .i64 who, .int .i64 fr, .int .i64 tt, .int .i64 kk, .int .i64 nn, .slice ai zs.length ci] 95 (0, 0))) := by unfold Hid; rw [hb2.block _ pz]; exact HOP1.out
  have HB2 := hidIt (ext_trans HBA.out hb2)
  clear hb2 HW1 HO1 HOP1 HBA p0 p1 p2 p3 p4 p5 p6
  obtain ⟨u, hu⟩ : ∃ u, us[k]? = some u := ⟨us[k], List.getElem?_eq_getElem hkl⟩
  have hkl2 : k < ls.length := by rw [HW2.out.ll, ← HW2.out.ul]; exact hkl
  obtain ⟨v, hv⟩ : ∃ v, ls[k]? = some v := ⟨ls[k], List.getElem?_eq_getElem hkl2⟩
  obtain ⟨xs, hx⟩ : ∃ xs, xss[k]? = some xs := ⟨xss[k]'(by rw [← HW2.out.ul]; exact hkl), List.getElem?_eq_getElem _⟩
  have HTT := hidIt (HW2.out.tt k u xs hu hx)
  have HLL := hidIt (HW2.out.lo k v xs hv hx)
  have HLN := hidIt (HSX.out xs (List.mem_of_getElem? hx))
  have d0 := HW2.out.tcell k u hu
  have d1 := HW2.out.lcell k v hv
  obtain ⟨ao, capl, rfl⟩ := HLL.out.form1
  clear hu hv hx
  obtain ⟨c0, c1, _⟩ := HW2.out.cells
  obtain ⟨m1, m2, m3, m4, _, _, m5, m6⟩ := HW2.out.caps
  have hk1i : (k : Int) < (us.length : Int) := by omega
  have hk2i : (k : Int) < (ls.length : Int) := by omega
  obtain ⟨p0, p1, p2, p3, p4, p5, p6, pz2⟩ := HOC.out w2 HOP2.out
  have hgw2 := HW2.out.lt
  have HCS : Hid (∀ w', Below w2.heap.size w2 w' → (w'.cell? ⟨gw, 0, none⟩ = some (.slice (some ⟨gt, 0, none⟩) us.length ct) ∧ w'.cell? ⟨gt, k, none⟩ = some (.pointer u) ∧ w'.cell? ⟨gw, 1, none⟩ = some (.slice (some ⟨gl, 0, none⟩) ls.length cl) ∧ w'.cell? ⟨gl, k, none⟩ = some (.slice ao xs.length capl)) ∧ w'.cell? ⟨w.heap.size, 2, none⟩ = some (.int .i64 fr) ∧ w'.cell? ⟨w.heap.size, 3, none⟩ = some (.int .i64 tt) ∧ w'.cell? ⟨w.heap.size, 6, none⟩ = some (.slice ai zs.length ci)) := fun w' hb => ⟨⟨(hb.cell (p := ⟨gw, 0, none⟩) hgw2).trans c0, (hb.cell (p := ⟨gt, k, none⟩) m5).trans d0, (hb.cell (p := ⟨gw, 1, none⟩) hgw2).trans c1, (hb.cell (p := ⟨gl, k, none⟩) m6).trans d1⟩, (hb.cell (p := ⟨w.heap.size, 2, none⟩) pz2).trans p2, (hb.cell (p := ⟨w.heap.size, 3, none⟩) pz2).trans p3, (hb.cell (p := ⟨w.heap.size, 6, none⟩) pz2).trans p6⟩
  have HWX : Hid (wt xs + wt zs ≤ 4611686018427387904) := by have e1 := wt_le xs; have e2 := wt_le zs; have e3 := HLN.out; unfold Hid; omega
  have HR2 := hidIt (HR0.out.old HD.out (HB2.out.mono hbw))
  have PL : Hid (∀ w', Below w2.heap.size w2 w' → Calls Try.prog 16 #[.slice ai zs.length ci] w' fun e w'' => ∃ aov capv, e = .returned (.slice aov zs.length capv) ∧ Hid (RdR w'' (.slice aov zs.length capv) zs) ∧ Below w2.heap.size w2 w'' ∧ Below w'.heap.size w' w'') := fun w' hb => (plain_any _ zs w' (HR2.out.ext hb) (by omega)).mono fun e w'' ⟨v', e1, e2, e3⟩ => by
    obtain ⟨aov, capv, hv⟩ := e2.form1
    subst hv
    exact ⟨aov, capv, e1, e2.rd, ext_trans hb e3, e3⟩
  by_cases hg : 0 ≤ fr ∧ fr ≤ tt ∧ tt ≤ (xs.length : Int)
  · obtain ⟨g1, g2, g3⟩ := hg
    have RP : Hid (∀ w', Below w2.heap.size w2 w' → Calls Try.prog 26 #[.agg #[.pointer u], .int .i64 fr, .int .i64 tt, .slice (some ⟨g, 0, none⟩) zs.length cap] w' fun e w'' => ∃ u', e = .returned (.tuple #[.agg #[.pointer u'], .int .i64 0]) ∧ Hid (TT w'' (.agg #[.pointer u']) (xs.take fr.toNat ++ zs ++ xs.drop tt.toNat) ∧ Below w2.heap.size w2 w'') ∧ Below w'.heap.size w' w'') := fun w' hb => by
      have := Replace_good u xs fr.toNat tt.toNat (.slice (some ⟨g, 0, none⟩) zs.length cap) zs w' (HTT.out.ext hb) ((HRL.out w2 HO2.out).ext hb) (by omega) (by omega) HWX.out
      rw [Int.toNat_of_nonneg g1, Int.toNat_of_nonneg (by omega)] at this
      exact this.mono fun _ _ ⟨u', e1, e2, e3⟩ => ⟨u', e1, ⟨e2, ext_trans hb e3⟩, e3⟩
    have RR : Hid (∀ aov capv w', Hid (RdR w' (.slice aov zs.length capv) zs) → Below w2.heap.size w2 w' → Calls Try.prog 77 #[.slice ao xs.length capl, .int .i64 fr, .int .i64 tt, .slice aov zs.length capv] w' fun e w'' => ∃ aor capr, e = .returned (.tuple #[.slice aor (xs.take fr.toNat ++ zs ++ xs.drop tt.toNat).length capr, .int .i64 0]) ∧ Hid (OwnR w'' w2.heap.size 76 (.slice aor (xs.take fr.toNat ++ zs ++ xs.drop tt.toNat).length capr) (xs.take fr.toNat ++ zs ++ xs.drop tt.toNat)) ∧ Below w2.heap.size w2 w'' ∧ Below w'.heap.size w' w'') := fun aov capv w' hv hb => by
      have := rReplace_good (.slice ao xs.length capl) xs fr.toNat tt.toNat (.slice aov zs.length capv) zs w' (HLL.out.rd.ext hb) hv.out (by omega) (by omega) (by have := HLN.out; omega)
      rw [Int.toNat_of_nonneg g1, Int.toNat_of_nonneg (by omega)] at this
      exact this.mono fun _ _ ⟨v', e1, e2, e3⟩ => by
        obtain ⟨aor, capr, hv⟩ := e2.form1
        subst hv
        exact ⟨aor, capr, e1, e2.le hb.size, ext_trans hb e3, e3⟩
    have HNL : Hid ((xs.take fr.toNat ++ zs ++ xs.drop tt.toNat).length ≤ N + zs.length) := by have := HLN.out; unfold Hid; simp only [List.length_append, List.length_take, List.length_drop]; omega
    generalize xs.take fr.toNat ++ zs ++ xs.drop tt.toNat = NL at *
    go_upto_region 20 with fail
    go_cut [14, 15] from 111 to 130 (fun p e wF => ∃ tb : Nat, p = .pointer (some ⟨tb, 0, none⟩) ∧ e = .int .i64 0 ∧ Hid (∃ u', BlkT wF tb u' ∧ TT wF (.agg #[.pointer u']) NL ∧ Below w2.heap.size w2 wF ∧ w2.heap.size ≤ tb))
    case first =>
      go_region_held3 (fun w' => (w'.cell? ⟨gw, 0, none⟩ = some (.slice (some ⟨gt, 0, none⟩) us.length ct) ∧ w'.cell? ⟨gt, k, none⟩ = some (.pointer u) ∧ w'.cell? ⟨gw, 1, none⟩ = some (.slice (some ⟨gl, 0, none⟩) ls.length cl) ∧ w'.cell? ⟨gl, k, none⟩ = some (.slice ao xs.length capl)) ∧ w'.cell? ⟨w.heap.size, 2, none⟩ = some (.int .i64 fr) ∧ w'.cell? ⟨w.heap.size, 3, none⟩ = some (.int .i64 tt) ∧ w'.cell? ⟨w.heap.size, 6, none⟩ = some (.slice ai zs.length ci)) (first | exact HCS.out _ (by repeat (first | exact HB3.out | exact Below.refl _ _ | apply Below.drew | refine ext_alloc ?_ _ | refine Below.setCell ?_ (by first | exact Nat.le_refl _ | exact HB3.out.size) _)) | go_keep) (
        (go_at_call 26; refine (RP.out _ (by repeat (first | exact Below.refl _ _ | apply Below.drew | refine ext_alloc ?_ _))).mono ?_; rintro e w3 ⟨u', rfl, HT3, hb3⟩; have HB3 := hidIt HT3.out.2; (first | (have HT14 := hidIt (BlkT.ext (w := (w2.alloc (.cells #[.pointer none] 39)).drew) (g := w2.heap.size) (u := none) (heap_alloc_new _ _) hb3); obtain ⟨z0, zf⟩ := HT14.out.cells; have hz14 := HT14.out.lt) | skip); clear hb3))
      all_goals
        go_wp2_with fail
        go_meet
        case rel =>
          first
            | (obtain ⟨y1, y2⟩ := HT14.out.put u'; exact ⟨_, rfl, rfl, u', y1, HT3.out.1.put HT14.out y2, below_put HB3.out HB3.out.size y2 (Nat.le_refl _), Nat.le_refl _⟩)
            | exact ⟨_, rfl, rfl, u', heap_alloc_new _ _, HT3.out.1.ext (ext_alloc (Below.refl _ _) _), ext_alloc HB3.out _, HB3.out.size⟩
    obtain ⟨tb, rfl, rfl, HQ⟩ := hcut
    obtain ⟨u3, hBT, hT4, hb4, htb⟩ := HQ.out
    generalize hwc : wc = w4 at *
    have HBT4 := hidIt hBT
    have HT4 := hidIt hT4
    have HB4 := hidIt hb4
    clear hwc HQ hBT hT4 hb4 c0 c1 d0 d1 p0 p1 p2 p3 p4 p5 p6
    obtain ⟨⟨c0, d0, c1, d1⟩, p2, p3, p6⟩ := HCS.out w4 HB4.out
    go_upto_region 21 with fail
    go_region_held3 (fun w' => (w'.cell? ⟨gw, 0, none⟩ = some (.slice (some ⟨gt, 0, none⟩) us.length ct) ∧ w'.cell? ⟨gt, k, none⟩ = some (.pointer u) ∧ w'.cell? ⟨gw, 1, none⟩ = some (.slice (some ⟨gl, 0, none⟩) ls.length cl) ∧ w'.cell? ⟨gl, k, none⟩ = some (.slice ao xs.length capl)) ∧ w'.cell? ⟨w.heap.size, 2, none⟩ = some (.int .i64 fr) ∧ w'.cell? ⟨w.heap.size, 3, none⟩ = some (.int .i64 tt) ∧ w'.cell? ⟨w.heap.size, 6, none⟩ = some (.slice ai zs.length ci)) (first | exact HCS.out _ (by repeat (first | exact HB6.out | exact HB5.out | exact HB4.out | apply Below.drew)) | go_keep) (first
      | (go_at_call 16; refine (PL.out _ (by repeat (first | exact HB4.out | apply Below.drew))).mono ?_; rintro e w5 ⟨aov, capv, rfl, HRV, hb5, hx5⟩; have HB5 := hidIt hb5; have HX5 : Hid (Below w4.heap.size w4 w5) := ext_trans (by repeat (first | exact Below.refl _ _ | apply Below.drew)) hx5; clear hb5 hx5 c0 d0 c1 d1 p2 p3 p6; obtain ⟨⟨c0, d0, c1, d1⟩, p2, p3, p6⟩ := HCS.out w5 HB5.out)
      | (go_at_call 77; refine (RR.out _ _ _ HRV (by repeat (first | exact HB5.out | apply Below.drew))).mono ?_; rintro e w6 ⟨aor, capr, rfl, HOR, hb6, hx6⟩; have HB6 := hidIt hb6; have HX6 : Hid (Below w4.heap.size w4 w6) := ext_trans HX5.out (ext_trans (by repeat (first | exact Below.refl _ _ | apply Below.drew)) hx6); clear hb6 hx6 c0 d0 c1 d1 p2 p3 p6; obtain ⟨⟨c0, d0, c1, d1⟩, p2, p3, p6⟩ := HCS.out w6 HB6.out))
    have HW6 := hidIt (HW2.out.ext HB6.out)
    have HT6 := hidIt (HT4.out.ext HX6.out)
    have HBT6 := hidIt (HBT4.out.ext HX6.out)
    have HO6 := hidIt (HO2.out.ext HB6.out)
    have HOP6 : Hid (w6.heap[w.heap.size]? = some (.cells #[.int .i64 kind, .int .i64 who, .int .i64 fr, .int .i64 tt, .int .i64 kk, .int .i64 nn, .slice ai zs.length ci] 95 (0, 0))) := by unfold Hid; rw [HB6.out.block _ pz2]; exact HOP2.out
    have HBW6 := hidIt (ext_trans HB2.out HB6.out)
    have hgt3 : gt ≠ tb := by omega
    have hgw3 : gw ≠ tb := by omega
    have hbs3 : base ≤ w6.heap.size := by have := HBW6.out.size; omega
    obtain ⟨q0, _⟩ := HBT6.out.cells
    have hq := HBT6.out.lt
    have HX3 := hidIt (HW6.out.ext (ext_alloc (Below.refl w6.heap.size w6) (.cells #[.pointer u3] 39)))
    have HY3 := hidIt (HT6.out.ext (ext_alloc (Below.refl w6.heap.size w6) (.cells #[.pointer u3] 39)))
    have c0a := HX3.out.cells.1
    have q0a : (w6.alloc (.cells #[.pointer u3] 39)).cell? ⟨tb, 0, none⟩ = some (.pointer u3) := ((ext_alloc (Below.refl w6.heap.size w6) _).cell (p := ⟨tb, 0, none⟩) hq).trans q0
    have hll : ls.length ≤ 4294967296 := by rw [HW6.out.ll, ← HW0L.out]; exact h2
    clear HX5 HX6 HB5 HRV HT4 HBT4 HO2 HOP2 RP RR PL HR2 HWX d0 d1 m1 m2 m3 m4 hk1i hk2i HTT HLL HW2 HCS hkl hkl2 g1 g2 g3
    go_upto_region 26 with (go_at_call 28; refine (num_any 0 w6).mono ?_; rintro e wn ⟨rfl, hwn⟩; obtain rfl : w6 = wn := hwn.symm)
    go_cut [] from 158 to 167 (fun wF => Hid (∃ gt' ct', Wd wF base gw gt' ct' gl cl (us ++ [u3]) ls (xss ++ [NL]) xss ∧ Fr [116, 39] w6 wF ∧ Below base w6 wF))
    case first =>
      refine wp_region_held_drew (S := fun w' => w'.cell? ⟨tb, 0, none⟩ = some (.pointer u3)) (by kernel_rfl) (by first | exact q0 | (dsimp only; go_keep)) (fun hHeld => ?_)
      refine wpAnyH_take (i := 0) (oi := _) (v := ?_) rfl (by kernel_rfl) (by kernel_rfl) (by kernel_rfl) (fun _ _ _ h => h) (Or.inl ⟨by rfl, ?_⟩) (by assumption) ?_
      rotate_left 1
      · intro wq hSw; (try dsimp only at hSw); go_simp; try (with_reducible rfl)
      try simp only [Act.put, List.setIfInBounds_toArray]
      refine wpAnyH_take (i := 1) (oi := _) (v := ?_) rfl (by kernel_rfl) (by kernel_rfl) (by kernel_rfl) (fun _ _ _ h => h) (Or.inl ⟨by rfl, ?_⟩) (by assumption) ?_
      rotate_left 1
      · intro wq hSw; (try dsimp only at hSw); go_simp; try (with_reducible rfl)
      try simp only [Act.put]
      refine wpAnyH_take (i := 2) (oi := _) (v := ?_) rfl (by kernel_rfl) (by kernel_rfl) (by kernel_rfl) (fun _ _ _ h => h) (Or.inl ⟨by rfl, ?_⟩) (by assumption) ?_
      rotate_left 1
      · intro wq hSw; (try dsimp only at hSw); go_simp; try (with_reducible rfl)
      try simp only [Act.put]
      refine wpAnyH_take (i := 3) (oi := _) (v := ?_) rfl (by kernel_rfl) (by kernel_rfl) (by kernel_rfl) (fun _ _ _ h => h) (Or.inl ⟨by rfl, ?_⟩) (by assumption) ?_
      rotate_left 1
      · intro wq hSw; (try dsimp only at hSw); go_simp; try (with_reducible rfl)
      try simp only [Act.put]
      refine wpAnyH_take (i := 5) (oi := _) (v := ?_) rfl (by kernel_rfl) (by kernel_rfl) (by kernel_rfl) (fun _ _ _ h => h) (Or.inl ⟨by rfl, ?_⟩) (by assumption) ?_
      rotate_left 1
      · intro wq hSw; (try dsimp only at hSw); go_simp; try (with_reducible rfl)
      try simp only [Act.put]
      refine wpAnyH_ready (rs := [4, 6]) (by kernel_rfl) (by simp) ?_
      refine AllReadyH.cons (o := _) rfl (fun K hK => ?_) (AllReadyH.cons (o := _) rfl (fun K hK => ?_) AllReadyH.nil)
      · skip
        go_simp
        refine hK.out _ _ ?_ (fun hHeld => ?_)
        · first | exact q5 | exact q4 | exact q0 | exact q0a | ((try dsimp only); go_keep)
        clear hK K
        try simp only [Act.put, List.setIfInBounds_toArray, List.set_cons_zero, List.set_cons_succ]
        refine wpAnyH_ready (rs := [6]) (by kernel_rfl) (by simp) ?_
        refine AllReadyH.cons (o := _) rfl (fun K hK => ?_) AllReadyH.nil
        go_simp
        refine hK.out _ _ ?_ (fun hHeld => ?_)
        · first | exact q5 | exact q4 | exact q0 | exact q0a | ((try dsimp only); go_keep)
        clear hK K
        try simp only [Act.put, List.setIfInBounds_toArray, List.set_cons_zero, List.set_cons_succ]
        refine wpAnyH_ready (rs := [7]) (by kernel_rfl) (by simp) ?_
        refine AllReadyH.cons (o := _) rfl (fun K hK => ?_) AllReadyH.nil
        rw [if_pos (by rfl)]
        refine wp_append_own _ _ _ 113 rfl base 39 i0 _ 1 8 Try.underlying113 hi hz0 hz1 hz2 rfl (by decide) (.slice (some ⟨gt, 0, none⟩) us.length ct) us.length (us.map Value.pointer) rfl HX3.out.tr ⟨w6.heap.size, 0, none⟩ 1 1 [.pointer u3] rfl rfl (cell1_new _ _ _) (by simp [Value.oneCell']) (by unfold maxLen; omega) (by omega) (Nat.le_trans hbs3 (size_ad _ _)) ?_; intro v' w4 hown' hg' _; obtain ⟨gt', ct', rfl, hW4, hF4, hB4, d0, df⟩ := HX3.out.pushT (w1 := w4) hown' ⟨hg'.os, hg'.tape, hg'.output, hg'.size, hg'.block⟩ HY3.out; have q4 : w4.cell? ⟨tb, 0, none⟩ = some (.pointer u3) := hg'.cell (a := ⟨tb, 0, none⟩) q0a (by simpa [Value.ownBlock] using hgt3.symm); have q5 := (World.cell?_of_block (a := ⟨tb, 0, none⟩) (heap_setCell_other w4 ⟨gw, 0, none⟩ tb (.slice (some ⟨gt', 0, none⟩) (us.length + 1) ct') (by first | exact hgw3 | exact hgw3.symm))).trans q4; have HW4 := hidIt hW4; have HF4 := hidIt ((Fr.of_below (ext_alloc (Below.refl w6.heap.size w6) _)).trans hF4); have HB4 := hidIt (((Below.refl base w6).alloc hbs3 _).trans hB4); clear hown' hg' hW4 hF4 hB4
        refine hK.out _ _ ?_ (fun hHeld => ?_)
        · first | exact q5 | exact q4 | exact q0 | exact q0a | ((try dsimp only); go_keep)
        clear hK K
        try simp only [Act.put, List.setIfInBounds_toArray]
        refine wpAnyH_take (i := 8) (oi := _) (v := ?_) rfl (by kernel_rfl) (by kernel_rfl) (by kernel_rfl) (fun _ _ _ h => h) (Or.inl ⟨by rfl, ?_⟩) (by assumption) ?_
        rotate_left 1
        · intro wq hSw; (try dsimp only at hSw); go_simp; try (with_reducible rfl)
        try simp only [Act.put]
        refine wpAnyH_take (i := 9) (oi := _) (v := ?_) rfl (by kernel_rfl) (by kernel_rfl) (by kernel_rfl) (fun _ _ _ h => h) (Or.inl ⟨by rfl, ?_⟩) (by assumption) ?_
        rotate_left 1
        · intro wq hSw; (try dsimp only at hSw); go_simp; try (with_reducible rfl)
        try simp only [Act.put]
        refine wpAnyH_ready (rs := [10]) (by kernel_rfl) (by simp) ?_
        refine AllReadyH.cons (o := _) rfl (fun K hK => ?_) AllReadyH.nil
        go_simp
        refine hK.out _ _ ?_ (fun hHeld => ?_)
        · first | exact q5 | exact q4 | exact q0 | exact q0a | ((try dsimp only); go_keep)
        clear hK K
        try simp only [Act.put, List.setIfInBounds_toArray, List.set_cons_zero, List.set_cons_succ]
        refine wpAnyH_done (by kernel_rfl) ?_ _
        go_wp2_with fail
        go_meet
        case rel =>
          exact ⟨gt', ct', HW4.out, HF4.out, HB4.out⟩
      · skip
        go_simp
        refine hK.out _ _ ?_ (fun hHeld => ?_)
        · first | exact q5 | exact q4 | exact q0 | exact q0a | ((try dsimp only); go_keep)
        clear hK K
        try simp only [Act.put, List.setIfInBounds_toArray, List.set_cons_zero, List.set_cons_succ]
        refine wpAnyH_ready (rs := [4]) (by kernel_rfl) (by simp) ?_
        refine AllReadyH.cons (o := _) rfl (fun K hK => ?_) AllReadyH.nil
        go_simp
        refine hK.out _ _ ?_ (fun hHeld => ?_)
        · first | exact q5 | exact q4 | exact q0 | exact q0a | ((try dsimp only); go_keep)
        clear hK K
        try simp only [Act.put, List.setIfInBounds_toArray, List.set_cons_zero, List.set_cons_succ]
        refine wpAnyH_ready (rs := [7]) (by kernel_rfl) (by simp) ?_
        refine AllReadyH.cons (o := _) rfl (fun K hK => ?_) AllReadyH.nil
        rw [if_pos (by rfl)]
        refine wp_append_own _ _ _ 113 rfl base 39 i0 _ 1 8 Try.underlying113 hi hz0 hz1 hz2 rfl (by decide) (.slice (some ⟨gt, 0, none⟩) us.length ct) us.length (us.map Value.pointer) rfl HX3.out.tr ⟨w6.heap.size, 0, none⟩ 1 1 [.pointer u3] rfl rfl (cell1_new _ _ _) (by simp [Value.oneCell']) (by unfold maxLen; omega) (by omega) (Nat.le_trans hbs3 (size_ad _ _)) ?_; intro v' w4 hown' hg' _; obtain ⟨gt', ct', rfl, hW4, hF4, hB4, d0, df⟩ := HX3.out.pushT (w1 := w4) hown' ⟨hg'.os, hg'.tape, hg'.output, hg'.size, hg'.block⟩ HY3.out; have q4 : w4.cell? ⟨tb, 0, none⟩ = some (.pointer u3) := hg'.cell (a := ⟨tb, 0, none⟩) q0a (by simpa [Value.ownBlock] using hgt3.symm); have q5 := (World.cell?_of_block (a := ⟨tb, 0, none⟩) (heap_setCell_other w4 ⟨gw, 0, none⟩ tb (.slice (some ⟨gt', 0, none⟩) (us.length + 1) ct') (by first | exact hgw3 | exact hgw3.symm))).trans q4; have HW4 := hidIt hW4; have HF4 := hidIt ((Fr.of_below (ext_alloc (Below.refl w6.heap.size w6) _)).trans hF4); have HB4 := hidIt (((Below.refl base w6).alloc hbs3 _).trans hB4); clear hown' hg' hW4 hF4 hB4
        refine hK.out _ _ ?_ (fun hHeld => ?_)
        · first | exact q5 | exact q4 | exact q0 | exact q0a | ((try dsimp only); go_keep)
        clear hK K
        try simp only [Act.put, List.setIfInBounds_toArray]
        refine wpAnyH_take (i := 8) (oi := _) (v := ?_) rfl (by kernel_rfl) (by kernel_rfl) (by kernel_rfl) (fun _ _ _ h => h) (Or.inl ⟨by rfl, ?_⟩) (by assumption) ?_
        rotate_left 1
        · intro wq hSw; (try dsimp only at hSw); go_simp; try (with_reducible rfl)
        try simp only [Act.put]
        refine wpAnyH_take (i := 9) (oi := _) (v := ?_) rfl (by kernel_rfl) (by kernel_rfl) (by kernel_rfl) (fun _ _ _ h => h) (Or.inl ⟨by rfl, ?_⟩) (by assumption) ?_
        rotate_left 1
        · intro wq hSw; (try dsimp only at hSw); go_simp; try (with_reducible rfl)
        try simp only [Act.put]
        refine wpAnyH_ready (rs := [10]) (by kernel_rfl) (by simp) ?_
        refine AllReadyH.cons (o := _) rfl (fun K hK => ?_) AllReadyH.nil
        go_simp
        refine hK.out _ _ ?_ (fun hHeld => ?_)
        · first | exact q5 | exact q4 | exact q0 | exact q0a | ((try dsimp only); go_keep)
        clear hK K
        try simp only [Act.put, List.setIfInBounds_toArray, List.set_cons_zero, List.set_cons_succ]
        refine wpAnyH_done (by kernel_rfl) ?_ _
        go_wp2_with fail
        go_meet
        case rel =>
          exact ⟨gt', ct', HW4.out, HF4.out, HB4.out⟩
    obtain ⟨gt', ct', hW7, hF7, hB7⟩ := hcut.out
    generalize hwc : wc = w7 at *
    have HW7 := hidIt hW7
    have HO7 := hidIt (own_fr HO6.out hF7 (by decide))
    have HOP7 := hidIt (hF7.blk _ _ _ HOP6.out (by decide))
    have HOR7 := hidIt (own_fr HOR.out hF7 (by decide))
    have HB7 := hidIt ((HBW6.out.mono hbw).trans hB7)
    have hs7 : w6.heap.size ≤ w7.heap.size := hF7.size
    clear hcut hW7 hF7 hB7 hwc HX3 HY3 c0a q0 q0a HW6 HT6 HO6 HOP6 HBT6 c0 c1 p2 p3 p6 HOR
    obtain ⟨c0, c1, _⟩ := HW7.out.cells
    have HX7 := hidIt (HW7.out.ext (ext_alloc (Below.refl w7.heap.size w7) (.cells #[.slice aor NL.length capr] 31)))
    have HY7 : Hid (OwnR (w7.alloc (.cells #[.slice aor NL.length capr] 31)) base 76 (.slice aor NL.length capr) NL) := (OwnR.le (base' := base) (base := w2.heap.size) (e := 76) (v := .slice aor NL.length capr) (xs := NL) HOR7.out (by have := HB2.out.size; omega)).ext (ext_alloc (Below.refl w7.heap.size w7) _)
    have hbs7 : base ≤ w7.heap.size := by omega
    go_upto_region 28 with (at_builtin; refine wpList_append_own _ rfl _ _ 114 rfl base 31 i1 _ 1 24 Try.underlying114 hj hy0 hy1 hy2 rfl (by decide) (.slice (some ⟨gl, 0, none⟩) ls.length cl) ls.length ls rfl HX7.out.lr ⟨w7.heap.size, 0, none⟩ 1 1 [.slice aor NL.length capr] rfl rfl (cell1_new' _ _ _) (by simp [Value.oneCell']) (by unfold maxLen; omega) (by omega) (by simp; omega) ?_; intro v' w8 hown' hg' _; obtain ⟨gl', cl', rfl, hW8, hF8, hB8, e1, ef⟩ := HX7.out.pushL (w1 := w8) hown' hg' HY7.out; have HW8 := hidIt hW8; have HF8 := hidIt ((Fr.of_below (ext_alloc (Below.refl w7.heap.size w7) _)).trans hF8); have HB8 := hidIt ((((Below.refl base w7).alloc hbs7 _)).trans hB8); clear hown' hg' hW8 hF8 hB8)
    obtain ⟨w9, hw9⟩ : ∃ w9, w9 = w8.setCell ⟨gw, 1, none⟩ (.slice (some ⟨gl', 0, none⟩) (ls.length + 1) cl') := ⟨_, rfl⟩
    rw [← hw9] at HW8 HF8 HB8 ⊢
    clear hw9 e1 ef
    have HO9 := hidIt (own_fr HO7.out HF8.out (by decide))
    have HOP9 := hidIt (HF8.out.blk _ _ _ HOP7.out (by decide))
    have HB9 := hidIt (HB7.out.trans HB8.out)
    have hs9 := HF8.out.size
    clear HW7 HO7 HOP7 HX7 HY7 HOR7 c0 c1
    obtain ⟨p0, p1, p2, p3, p4, p5, p6, pz9⟩ := HOC.out w9 HOP9.out
    have HR9 := hidIt (HR0.out.old HD.out HB9.out)
    have SPO := hidIt (spoil_any ai ci g cap w0.heap.size zs w9 HR9.out hzl (fun b off h1 h2 => by have := HD.out b off h1 h2; omega) hcz hcap HO9.out)
    go_wp2_with (go_at_call 74; refine SPO.out.mono ?_; clear SPO; rintro e w10 ⟨rfl, hO10, hF10, hB10⟩; have HW10 := hidIt (HW8.out.fr hF10 (by decide)); have HB10 := hidIt (HB9.out.trans (hB10.mono (by omega))); clear hO10 hF10 hB10)
    go_ret
    refine ⟨rfl, ⟨gt', ct', gl', cl', us ++ [u3], ls ++ [.slice aor NL.length capr], xss ++ [NL], HW10.out, by simp, by simp, fun xs hx => ?_⟩, HB10.out⟩
    rcases List.mem_append.1 hx with hx | hx
    · have := HSX.out xs hx; omega
    · simp at hx; subst hx; exact HNL.out
  · have hbad : fr < 0 ∨ tt < fr ∨ (xs.length : Int) < tt := by omega
    have HBAD := hidIt hbad
    have RP : Hid (∀ w', Below w2.heap.size w2 w' → Calls Try.prog 26 #[.agg #[.pointer u], .int .i64 fr, .int .i64 tt, .slice (some ⟨g, 0, none⟩) zs.length cap] w' fun e w'' => e = .returned (.tuple #[.agg #[.pointer none], .int .i64 1]) ∧ Hid (Below w2.heap.size w2 w'') ∧ Below w'.heap.size w' w'') := fun w' hb => (Replace_bad u xs fr tt (.slice (some ⟨g, 0, none⟩) zs.length cap) zs w' (HTT.out.ext hb) ((HRL.out w2 HO2.out).ext hb) HBAD.out).mono fun _ _ ⟨e1, e3⟩ => ⟨e1, ext_trans hb e3, e3⟩
    have RR : Hid (∀ aov capv w', Hid (RdR w' (.slice aov zs.length capv) zs) → Below w2.heap.size w2 w' → Calls Try.prog 77 #[.slice ao xs.length capl, .int .i64 fr, .int .i64 tt, .slice aov zs.length capv] w' fun e w'' => e = .returned (.tuple #[.slice none 0 0, .int .i64 1]) ∧ Below w2.heap.size w2 w'' ∧ Below w'.heap.size w' w'') := fun aov capv w' hv hb => (rReplace_bad (.slice ao xs.length capl) xs fr tt (.slice aov zs.length capv) zs w' (HLL.out.rd.ext hb) hv.out HBAD.out).mono fun _ _ ⟨e1, e2⟩ => ⟨e1, by rw [e2]; exact hb, by rw [e2]; exact Below.refl _ _⟩
    clear hbad hg
    go_upto_region 20 with fail
    go_cut [14, 15] from 111 to 130 (fun p e wF => ∃ tb : Nat, p = .pointer (some ⟨tb, 0, none⟩) ∧ e = .int .i64 1 ∧ Hid (BlkT wF tb none ∧ Below w2.heap.size w2 wF ∧ w2.heap.size ≤ tb))
    case first =>
      go_region_held3 (fun w' => (w'.cell? ⟨gw, 0, none⟩ = some (.slice (some ⟨gt, 0, none⟩) us.length ct) ∧ w'.cell? ⟨gt, k, none⟩ = some (.pointer u) ∧ w'.cell? ⟨gw, 1, none⟩ = some (.slice (some ⟨gl, 0, none⟩) ls.length cl) ∧ w'.cell? ⟨gl, k, none⟩ = some (.slice ao xs.length capl)) ∧ w'.cell? ⟨w.heap.size, 2, none⟩ = some (.int .i64 fr) ∧ w'.cell? ⟨w.heap.size, 3, none⟩ = some (.int .i64 tt) ∧ w'.cell? ⟨w.heap.size, 6, none⟩ = some (.slice ai zs.length ci)) (first | exact HCS.out _ (by repeat (first | exact HB3.out | exact Below.refl _ _ | apply Below.drew | refine ext_alloc ?_ _ | refine Below.setCell ?_ (by first | exact Nat.le_refl _ | exact HB3.out.size) _)) | go_keep) (
        (go_at_call 26; refine (RP.out _ (by repeat (first | exact Below.refl _ _ | apply Below.drew | refine ext_alloc ?_ _))).mono ?_; rintro e w3 ⟨rfl, HT3, hb3⟩; have HB3 := hidIt HT3.out; (first | (have HT14 := hidIt (BlkT.ext (w := (w2.alloc (.cells #[.pointer none] 39)).drew) (g := w2.heap.size) (u := none) (heap_alloc_new _ _) hb3); obtain ⟨z0, zf⟩ := HT14.out.cells; have hz14 := HT14.out.lt) | skip); clear hb3))
      all_goals
        go_wp2_with fail
        go_meet
        case rel =>
          first
            | (obtain ⟨y1, y2⟩ := HT14.out.put none; exact ⟨_, rfl, rfl, y1, below_put HB3.out HB3.out.size y2 (Nat.le_refl _), Nat.le_refl _⟩)
            | exact ⟨_, rfl, rfl, heap_alloc_new _ _, ext_alloc HB3.out _, HB3.out.size⟩
    obtain ⟨tb, rfl, rfl, HQ⟩ := hcut
    obtain ⟨hBT, hb4, htb⟩ := HQ.out
    generalize hwc : wc = w4 at *
    have HBT4 := hidIt hBT
    have HB4 := hidIt hb4
    clear hwc HQ hBT hb4 c0 c1 d0 d1 p0 p1 p2 p3 p4 p5 p6
    obtain ⟨⟨c0, d0, c1, d1⟩, p2, p3, p6⟩ := HCS.out w4 HB4.out
    go_upto_region 21 with fail
    go_region_held3 (fun w' => (w'.cell? ⟨gw, 0, none⟩ = some (.slice (some ⟨gt, 0, none⟩) us.length ct) ∧ w'.cell? ⟨gt, k, none⟩ = some (.pointer u) ∧ w'.cell? ⟨gw, 1, none⟩ = some (.slice (some ⟨gl, 0, none⟩) ls.length cl) ∧ w'.cell? ⟨gl, k, none⟩ = some (.slice ao xs.length capl)) ∧ w'.cell? ⟨w.heap.size, 2, none⟩ = some (.int .i64 fr) ∧ w'.cell? ⟨w.heap.size, 3, none⟩ = some (.int .i64 tt) ∧ w'.cell? ⟨w.heap.size, 6, none⟩ = some (.slice ai zs.length ci)) (first | exact HCS.out _ (by repeat (first | exact HB6.out | exact HB5.out | exact HB4.out | apply Below.drew)) | go_keep) (first
      | (go_at_call 16; refine (PL.out _ (by repeat (first | exact HB4.out | apply Below.drew))).mono ?_; rintro e w5 ⟨aov, capv, rfl, HRV, hb5, hx5⟩; have HB5 := hidIt hb5; have HX5 : Hid (Below w4.heap.size w4 w5) := ext_trans (by repeat (first | exact Below.refl _ _ | apply Below.drew)) hx5; clear hb5 hx5 c0 d0 c1 d1 p2 p3 p6; obtain ⟨⟨c0, d0, c1, d1⟩, p2, p3, p6⟩ := HCS.out w5 HB5.out)
      | (go_at_call 77; refine (RR.out _ _ _ HRV (by repeat (first | exact HB5.out | apply Below.drew))).mono ?_; rintro e w6 ⟨rfl, hb6, hx6⟩; have HB6 := hidIt hb6; have HX6 : Hid (Below w4.heap.size w4 w6) := ext_trans HX5.out (ext_trans (by repeat (first | exact Below.refl _ _ | apply Below.drew)) hx6); clear hb6 hx6 c0 d0 c1 d1 p2 p3 p6; obtain ⟨⟨c0, d0, c1, d1⟩, p2, p3, p6⟩ := HCS.out w6 HB6.out))
    have HBT6 := hidIt (HBT4.out.ext HX6.out)
    have HW6 := hidIt (HW2.out.ext HB6.out)
    have HBW6 := hidIt (ext_trans HB2.out HB6.out)
    obtain ⟨q0, _⟩ := HBT6.out.cells
    go_wp2_with (first
      | (go_at_call 28; refine (num_any 1 w6).mono ?_; rintro e wn ⟨rfl, hwn⟩; obtain rfl : w6 = wn := hwn.symm)
      | (go_at_call 22; refine (Size_any none [] w6 (TT.nil _)).mono ?_; rintro e w7 ⟨rfl, hb7⟩; have HB7 := hidIt hb7; clear hb7))
    go_ret
    exact ⟨ret_bool (by simp), ⟨gt, ct, gl, cl, us, ls, xss, HW6.out.ext HB7.out, Nat.le_refl _, by omega, fun xs hx => by have := HSX.out xs hx; omega⟩, (ext_trans HBW6.out HB7.out).mono hbw⟩
end Go.Proofs.Ytlnachbigchobaa
