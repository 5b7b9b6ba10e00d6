/- TreeCuts. -/
import Derived.Test.YtlnachbigchobaaWalkFinds
import Derived.Test.YtlnachbigchobaaWalkGrows
import Derived.Test.YtlnachbigchobaaSame
import Derived.Test.YtlnachbigchobaaRef3
import Derived.Deep.CutRange
namespace Go.Proofs.Ytlnachbigchobaa
open Go.RowKit

/-- Tree variables, each in a block of its own. -/
def Vars (w : World) (l : List (Nat × Option Addr × List It)) : Prop := ∀ p ∈ l, BlkT w p.1 p.2.1 ∧ TT w (.agg #[.pointer p.2.1]) p.2.2
theorem Vars.ext {w w' : World} {l : List (Nat × Option Addr × List It)} (h : Vars w l) (hb : Below w.heap.size w w') : Vars w' l := fun p hp => ⟨(h p hp).1.ext hb, (h p hp).2.ext hb⟩
theorem Vars.add {w w' : World} {l : List (Nat × Option Addr × List It)} {g : Nat} {u : Option Addr} {xs : List It} (h : Vars w l) (hb : Below w.heap.size w w') (h1 : BlkT w' g u) (h2 : TT w' (.agg #[.pointer u]) xs) : Vars w' ((g, u, xs) :: l) := by
  intro p hp
  rcases List.mem_cons.1 hp with rfl | hp
  · exact ⟨h1, h2⟩
  · exact h.ext hb p hp

theorem OwnR.form_pos1 {w : World} {base : Nat} {e : TypeId} {v : Value} {xs : List It} (h : OwnR w base e v xs) (hn : 0 < xs.length) : ∃ g cap, v = .slice (some ⟨g, 0, none⟩) xs.length cap := by
  rcases h.2 with ⟨_, h2⟩ | ⟨g, cap, cur, hv, hb, hg, _⟩
  · omega
  · exact ⟨g, cap, hv⟩

set_option maxRecDepth 100000 in
set_option maxHeartbeats 8000000 in
theorem law_cuts (v : Value) (zs : List It) (from' to' : Int) (v2 : Value) (ys : List It) (w : World) (h : RdR w v zs) (h2 : RdR w v2 ys) :
    Calls Try.prog 6 #[v, .int .i64 from', .int .i64 to', v2] w fun e w' => e = .returned (.bool true) ∧ Below w.heap.size w w' := by
  have HR := hidIt h
  have HR2 := hidIt h2
  obtain ⟨ao, cap, rfl, _⟩ := h
  obtain ⟨ao2, cap2, rfl, _⟩ := h2
  by_cases g0 : 1099511627776 < zs.length
  · have g0' : (1099511627776 : Int) < (zs.length : Int) := by omega
    go_enter Try.func6, Try.ntmps6
    go_wp2_with fail
    go_ret
    exact ⟨rfl, Below.refl _ _⟩
  have g0' : ¬ (1099511627776 : Int) < (zs.length : Int) := by omega
  have g0d : decide ((1099511627776 : Int) < (zs.length : Int)) = false := by simpa using g0'
  by_cases g1 : 1099511627776 < ys.length
  · have g1' : (1099511627776 : Int) < (ys.length : Int) := by omega
    go_enter Try.func6, Try.ntmps6
    go_wp2_with fail
    go_ret
    exact ⟨rfl, Below.refl _ _⟩
  have g1' : ¬ (1099511627776 : Int) < (ys.length : Int) := by omega
  obtain ⟨l, hl⟩ : ∃ l, l = ((1 : Int), (1 : Int)) :: zs := ⟨_, rfl⟩
  have HLL := hidIt hl
  have hlen : l.length ≤ 1099511627777 := by rw [hl, List.length_cons]; omega
  have hle2 : ys.length ≤ 1099511627776 := by omega
  have HWT : Hid (wt l ≤ 1152922604119523329) := by have := wt_le l; unfold Hid; omega
  have HW2 : Hid (wt ys ≤ 1152922604119523329) := by have := wt_le ys; unfold Hid; omega
  have HLE : Hid (zs.length ≤ 1099511627776) := by unfold Hid; omega
  clear hl g0 g1
  go_enter Try.func6, Try.ntmps6
  go_upto_region 4 with (at_builtin; refine wpList_append_runs rfl _ _ 22 rfl w.heap.size 24 Try.info_run Try.underlying22 _ [(1, 1)] rfl (OwnR.lit1 w 24 (1, 1)) _ zs rfl (HR.out.ext (ext_alloc (Below.refl _ _) _)) (by have := HLE.out; simp only [List.length_cons, List.length_nil]; omega) (by simp) ?_; intro o1 w1 hO hg; have HB1 := hidIt (OwnR.below (ext_alloc (Below.refl _ _) _) (OwnR.lit1 w 24 (1, 1)) hg); rw [List.singleton_append, ← HLL.out] at hO; have HO := hidIt hO; obtain ⟨ao1, cap1, rfl⟩ := hO.form1; clear hO hg)
  go_wp2_with fail
  refine (Of_any _ l w1 HO.out.rd (by have := HWT.out; omega)).mono ?_
  rintro e w2 ⟨u, rfl, hT, hb2⟩
  have HB2 := hidIt (ext_trans HB1.out hb2)
  obtain ⟨w3, hw3⟩ : ∃ w3, w3 = w2.alloc (.cells #[.pointer u] 39) := ⟨_, rfl⟩
  have hb3 : Below w2.heap.size w2 w3 := by rw [hw3]; exact ext_alloc (Below.refl _ _) _
  have HV3 : Hid (Vars w3 [(w2.heap.size, u, l)]) := by
    intro p hp
    simp at hp
    subst hp
    exact ⟨by rw [hw3]; exact heap_alloc_new _ _, hT.ext hb3⟩
  have HO3 := hidIt (HO.out.rd.ext (ext_trans hb2 hb3))
  have HOL := hidIt HO.out
  have HB3 := hidIt (ext_trans HB2.out hb3)
  go_upto_region 5 with fail
  rw [← hw3]
  generalize w2.heap.size = t0 at *
  clear hw3 hb2 hb3 hT HB2 HO
  go_upto_region 6 with (go_at_call 25; refine (slot_any from' l.length w3 (by omega)).mono ?_; rintro e wn ⟨i, rfl, hi, hwn⟩; obtain rfl : w3 = wn := hwn.symm)
  go_upto_region 7 with (go_at_call 25; refine (slot_any to' l.length w3 (by omega)).mono ?_; rintro e wn ⟨j, rfl, hj, hwn⟩; obtain rfl : w3 = wn := hwn.symm)
  go_upto_if 45 with fail
  go_cut [10, 11] from 43 to 47 (fun a b wF => ∃ i j : Nat, a = .int .i64 i ∧ b = .int .i64 j ∧ i ≤ j ∧ j ≤ l.length ∧ wF = w3)
  case first =>
    by_cases hij : j < i
    · have hij' : (j : Int) < (i : Int) := by omega
      go_wp2_with fail
      go_meet
      case rel => exact ⟨j, i, rfl, rfl, by omega, hi, rfl⟩
    · have hij' : ¬ (j : Int) < (i : Int) := by omega
      go_wp2_with fail
      go_meet
      case rel => exact ⟨i, j, rfl, rfl, by omega, hj, rfl⟩
  obtain ⟨i', j', rfl, rfl, hij, hjl, hwc⟩ := hcut
  obtain rfl : w3 = wc := hwc.symm
  clear hi hj
  generalize i' = i at *
  generalize j' = j at *
  obtain ⟨gl, cl, hvl⟩ := HOL.out.form_pos1 (by rw [HLL.out]; simp)
  simp only [Value.slice.injEq, true_and] at hvl
  obtain ⟨rfl, rfl⟩ := hvl
  obtain ⟨M, hM⟩ : ∃ M, M = (l.drop i).take (j - i) := ⟨_, rfl⟩
  obtain ⟨U, hU⟩ : ∃ U, U = l.take i ++ ys ++ l.drop j := ⟨_, rfl⟩
  have HM := hidIt hM
  have HU := hidIt hU
  have hML : M.length = j - i := by rw [hM, List.length_take, List.length_drop]; omega
  have hUL : U.length + (j - i) = l.length + ys.length := by rw [hU]; simp only [List.length_append, List.length_take, List.length_drop]; omega
  have EL : Hid (l.take i ++ M ++ l.drop j = l) := by
    unfold Hid
    have e1 : l.take i ++ M = l.take j := by
      rw [hM, ← List.take_append_drop i (l.take j), List.take_take, Nat.min_eq_left hij, List.drop_take]
    rw [e1, List.take_append_drop]
  have EU : Hid (U.take i ++ M ++ U.drop (i + ys.length) = l) := by
    unfold Hid
    have e1 : U.take i = l.take i := by rw [hU, List.append_assoc, List.take_left' (by rw [List.length_take]; omega)]
    have e2 : U.drop (i + ys.length) = l.drop j := by rw [hU, List.drop_left' (by rw [List.length_append, List.length_take]; omega)]
    rw [e1, e2]; exact EL.out
  have HWM : Hid (wt M ≤ wt l ∧ wt U ≤ wt l + wt ys ∧ wt (l.take i) + wt M + wt (l.drop j) = wt l ∧ wt (l.take i) + wt ys + wt (l.drop j) = wt U) := by
    have e1 := congrArg wt EL.out
    have e2 := congrArg wt hU
    simp only [wt_app] at e1 e2
    unfold Hid
    omega
  have hcl : l.length ≤ cap1 ∧ cap1 ≤ 9223372036854775807 := by obtain ⟨_, _, e1, e2, e3, _⟩ := HO3.out; simp only [Value.slice.injEq] at e1; rw [e1.2.2]; exact ⟨e2, e3⟩
  have SLM : Hid (¬ cap1 = i → RdR w3 (.slice (some ⟨gl, i * 2, none⟩) (j - i) (cap1 - i)) M) := fun _ => by
    have := (HO3.out.from i (by omega)).upto (j - i) (by rw [List.length_drop]; omega)
    rw [← hM, Nat.zero_add] at this
    exact this
  have SLE : Hid (cap1 = i → RdR w3 (.slice (some ⟨gl, 0, none⟩) (j - i) (cap1 - i)) M) := fun hc => by
    have h0 : j - i = 0 := by omega
    have hM0 : M = [] := by rw [hM, h0, List.take_zero]
    refine ⟨some ⟨gl, 0, none⟩, cap1 - i, by rw [hML], by rw [hML]; omega, by unfold maxLen; omega, (fun h => by cases h), fun hn => absurd hM0 hn⟩
  clear hM hU
  obtain ⟨q0, _⟩ := (HV3.out _ (by simp : (t0, u, l) ∈ [(t0, u, l)])).1.cells
  have RU := hidIt (Replace_good u l i j (.slice ao2 ys.length cap2) ys w3 (HV3.out _ (by simp : (t0, u, l) ∈ [(t0, u, l)])).2 (HR2.out.ext HB3.out) hij hjl (by have h1 := HWT.out; have h2 := HW2.out; omega))
  rw [← HU.out] at RU
  go_wp2_with fail
  refine RU.out.mono ?_
  rintro e w4 ⟨u1, rfl, hT4, hb4⟩
  obtain ⟨w5, hw5⟩ : ∃ w5, w5 = w4.alloc (.cells #[.pointer u1] 39) := ⟨_, rfl⟩
  have hb5 : Below w4.heap.size w4 w5 := by rw [hw5]; exact ext_alloc (Below.refl _ _) _
  have HV5 : Hid (Vars w5 [(w4.heap.size, u1, U), (t0, u, l)]) := HV3.out.add (ext_trans hb4 hb5) (by rw [hw5]; exact heap_alloc_new _ _) (hT4.ext hb5)
  have HX5 := hidIt (ext_trans hb4 hb5)
  have HB5 := hidIt (ext_trans HB3.out HX5.out)
  go_upto_region 10 with fail
  rw [← hw5]
  generalize w4.heap.size = t1 at *
  clear hw5 hb4 hb5 hT4 RU q0 HV3
  have RB : Hid (∀ vv w', RdR w3 vv M → Below w5.heap.size w5 w' → Calls Try.prog 26 #[.agg #[.pointer u1], .int .i64 (i : Nat), .int .i64 ((i + ys.length : Nat) : Int), vv] w' fun e w'' => ∃ u', e = .returned (.tuple #[.agg #[.pointer u'], .int .i64 0]) ∧ Hid (TT w'' (.agg #[.pointer u']) l ∧ Below w5.heap.size w5 w'') ∧ Below w'.heap.size w' w'') := fun vv w' hv hb => by
    have := Replace_good u1 U i (i + ys.length) vv M w' ((HV5.out (t1, u1, U) (by simp)).2.ext hb) ((hv.ext HX5.out).ext hb) (by omega) (by omega) (by have h1 := HWT.out; have h2 := HW2.out; have h3 := HWM.out; omega)
    rw [EU.out] at this
    exact this.mono fun _ _ ⟨u', e1, e2, e3⟩ => ⟨u', e1, ⟨e2, ext_trans hb e3⟩, e3⟩
  obtain ⟨q1, _⟩ := (HV5.out (t1, u1, U) (by simp)).1.cells
  have hq1 := (HV5.out (t1, u1, U) (by simp)).1.lt
  have HCS : Hid (∀ w', Below w5.heap.size w5 w' → w'.cell? ⟨t1, 0, none⟩ = some (.pointer u1)) := fun w' hb => (hb.cell (p := ⟨t1, 0, none⟩) hq1).trans q1
  obtain ⟨qq, hqq⟩ : ∃ qq : Nat, qq = i + ys.length := ⟨_, rfl⟩
  have hwq : IntKind.i64.wrap ((i : Int) + (ys.length : Int)) = (qq : Int) := by rw [IntKind.wrap_i64]; omega
  rw [← hqq] at RB
  have i1 : (0 : Int) ≤ (i : Int) := by omega
  have i2 : (i : Int) ≤ (j : Int) := by omega
  have i3 : (j : Int) ≤ (cap1 : Int) := by omega
  have i4 : ((j : Int) - (i : Int)).toNat = j - i := by omega
  have HQQ := hidIt hqq
  clear hqq
  go_cut [14, 15] from 56 to 69 (fun p e wF => ∃ tb : Nat, p = .pointer (some ⟨tb, 0, none⟩) ∧ e = .int .i64 0 ∧ Hid (∃ u', BlkT wF tb u' ∧ TT wF (.agg #[.pointer u']) l ∧ Below w5.heap.size w5 wF))
  case first =>
    by_cases hci : cap1 = i
    · have HSL0 := hidIt (SLE.out hci)
      obtain rfl : i = j := by omega
      obtain rfl : i = cap1 := hci.symm
      have HSL : Hid (RdR w3 (.slice (some ⟨gl, 0, none⟩) 0 0) M) := by have := HSL0.out; rw [Nat.sub_self] at this; exact this
      clear HSL0 SLM SLE hci
      go_region_held3 (fun w' => w'.cell? ⟨t1, 0, none⟩ = some (.pointer u1)) (first | exact HCS.out _ (by repeat (first | exact HB6.out | exact Below.refl _ _ | apply Below.drew | refine ext_alloc ?_ _ | refine Below.setCell ?_ (by first | exact Nat.le_refl _ | exact HB6.out.size) _)) | go_keep) (
        (go_at_call 26; refine (RB.out _ _ HSL.out (by repeat (first | exact Below.refl _ _ | apply Below.drew | refine ext_alloc ?_ _))).mono ?_; rintro e w6 ⟨u', rfl, HT6, hb6⟩; have HB6 := hidIt HT6.out.2; (first | (have HT14 := hidIt (BlkT.ext (w := (w5.alloc (.cells #[.pointer none] 39)).drew) (g := w5.heap.size) (u := none) (heap_alloc_new _ _) hb6); obtain ⟨z0, zf⟩ := HT14.out.cells; have hz14 := HT14.out.lt) | skip); clear hb6))
      all_goals
        go_wp2_with fail
        go_meet
        case rel =>
          first
            | (obtain ⟨y1, y2⟩ := HT14.out.put u'; exact ⟨_, rfl, rfl, u', y1, HT6.out.1.put HT14.out y2, below_put HB6.out HB6.out.size y2 (Nat.le_refl _)⟩)
            | exact ⟨_, rfl, rfl, u', heap_alloc_new _ _, HT6.out.1.ext (ext_alloc (Below.refl _ _) _), ext_alloc HB6.out _⟩
    · have HSL := hidIt (SLM.out hci)
      go_region_held3 (fun w' => w'.cell? ⟨t1, 0, none⟩ = some (.pointer u1)) (first | exact HCS.out _ (by repeat (first | exact HB6.out | exact Below.refl _ _ | apply Below.drew | refine ext_alloc ?_ _ | refine Below.setCell ?_ (by first | exact Nat.le_refl _ | exact HB6.out.size) _)) | go_keep) (
        (go_at_call 26; refine (RB.out _ _ HSL.out (by repeat (first | exact Below.refl _ _ | apply Below.drew | refine ext_alloc ?_ _))).mono ?_; rintro e w6 ⟨u', rfl, HT6, hb6⟩; have HB6 := hidIt HT6.out.2; (first | (have HT14 := hidIt (BlkT.ext (w := (w5.alloc (.cells #[.pointer none] 39)).drew) (g := w5.heap.size) (u := none) (heap_alloc_new _ _) hb6); obtain ⟨z0, zf⟩ := HT14.out.cells; have hz14 := HT14.out.lt) | skip); clear hb6))
      all_goals
        go_wp2_with fail
        go_meet
        case rel =>
          first
            | (obtain ⟨y1, y2⟩ := HT14.out.put u'; exact ⟨_, rfl, rfl, u', y1, HT6.out.1.put HT14.out y2, below_put HB6.out HB6.out.size y2 (Nat.le_refl _)⟩)
            | exact ⟨_, rfl, rfl, u', heap_alloc_new _ _, HT6.out.1.ext (ext_alloc (Below.refl _ _) _), ext_alloc HB6.out _⟩
  obtain ⟨t2, rfl, rfl, HQ⟩ := hcut
  obtain ⟨u2, hB6, hT6, hb6⟩ := HQ.out
  generalize hwc : wc = w6 at *
  have HV6 : Hid (Vars w6 [(t2, u2, l), (t1, u1, U), (t0, u, l)]) := HV5.out.add hb6 hB6 hT6
  have HX6 := hidIt (ext_trans HX5.out hb6)
  have HB6 := hidIt (ext_trans HB5.out hb6)
  clear hwc HQ hB6 hT6 hb6 HV5 RB HCS q1 hq1 hwq HX5 HB5
  obtain ⟨q0, _⟩ := (HV6.out (t0, u, l) (by simp)).1.cells
  have RT : Hid (Calls Try.prog 26 #[.agg #[.pointer u], .int .i64 0, .int .i64 (j : Nat), .slice none 0 0] w6 fun e w'' => ∃ u', e = .returned (.tuple #[.agg #[.pointer u'], .int .i64 0]) ∧ Hid (TT w'' (.agg #[.pointer u']) (l.drop j)) ∧ Below w6.heap.size w6 w'') := by
    have := Replace_good u l 0 j (.slice none 0 0) [] w6 (HV6.out (t0, u, l) (by simp)).2 (RdR.nil _) (Nat.zero_le _) hjl (by have h1 := HWT.out; rw [wt_nil]; omega)
    rw [show (((0 : Nat) : Int)) = 0 from rfl, List.take_zero, List.nil_append, List.nil_append] at this
    exact this
  go_wp2_with fail
  refine RT.out.mono ?_
  rintro e w7 ⟨u3, rfl, HT7, hb7⟩
  obtain ⟨w8, hw8⟩ : ∃ w8, w8 = w7.alloc (.cells #[.pointer u3] 39) := ⟨_, rfl⟩
  have hb8 : Below w7.heap.size w7 w8 := by rw [hw8]; exact ext_alloc (Below.refl _ _) _
  have HV8 : Hid (Vars w8 [(w7.heap.size, u3, l.drop j), (t2, u2, l), (t1, u1, U), (t0, u, l)]) := HV6.out.add (ext_trans hb7 hb8) (by rw [hw8]; exact heap_alloc_new _ _) (HT7.out.ext hb8)
  have HX8 := hidIt (ext_trans HX6.out (ext_trans hb7 hb8))
  have HB8 := hidIt (ext_trans HB6.out (ext_trans hb7 hb8))
  go_upto_region 12 with fail
  rw [← hw8]
  generalize w7.heap.size = t3 at *
  clear hw8 hb7 hb8 HT7 RT HV6 q0 HX6 HB6
  go_upto_region 14 with (go_at_call 28; refine (num_any 0 w8).mono ?_; rintro e wn ⟨rfl, hwn⟩; obtain rfl : w8 = wn := hwn.symm)
  have OM : Hid (∀ vv, RdR w3 vv M → Calls Try.prog 20 #[vv] w8 fun e w'' => ∃ u', e = .returned (.agg #[.pointer u']) ∧ Hid (TT w'' (.agg #[.pointer u']) M) ∧ Below w8.heap.size w8 w'') := fun vv hv => (Of_any vv M w8 (hv.ext HX8.out) (by have h1 := HWT.out; have h2 := HWM.out; omega)).mono fun _ _ ⟨u', e1, e2, e3⟩ => ⟨u', e1, e2, e3⟩
  go_cut [18] from 89 to 93 (fun p wF => ∃ tb : Nat, p = .pointer (some ⟨tb, 0, none⟩) ∧ Hid (∃ u', BlkT wF tb u' ∧ TT wF (.agg #[.pointer u']) M ∧ Below w8.heap.size w8 wF))
  case first =>
    by_cases hci : cap1 = i
    · have HSL0 := hidIt (SLE.out hci)
      obtain rfl : i = j := by omega
      obtain rfl : i = cap1 := hci.symm
      have HSL : Hid (RdR w3 (.slice (some ⟨gl, 0, none⟩) 0 0) M) := by have := HSL0.out; rw [Nat.sub_self] at this; exact this
      clear HSL0 SLM SLE hci
      go_wp2_with fail
      refine (OM.out _ HSL.out).mono ?_
      rintro e w9 ⟨u', rfl, HT9, hb9⟩
      have HB9 := hidIt hb9
      clear hb9
      go_wp2_with fail
      go_meet
      case rel => exact ⟨_, rfl, u', heap_alloc_new _ _, HT9.out.ext (ext_alloc (Below.refl _ _) _), ext_alloc HB9.out _⟩
    · have HSL := hidIt (SLM.out hci)
      go_wp2_with fail
      refine (OM.out _ HSL.out).mono ?_
      rintro e w9 ⟨u', rfl, HT9, hb9⟩
      have HB9 := hidIt hb9
      clear hb9
      go_wp2_with fail
      go_meet
      case rel => exact ⟨_, rfl, u', heap_alloc_new _ _, HT9.out.ext (ext_alloc (Below.refl _ _) _), ext_alloc HB9.out _⟩
  obtain ⟨t4, rfl, HQ⟩ := hcut
  obtain ⟨u4, hB9, hT9, hb9⟩ := HQ.out
  generalize hwc : wc = w9 at *
  have HV9 : Hid (Vars w9 [(t4, u4, M), (t3, u3, l.drop j), (t2, u2, l), (t1, u1, U), (t0, u, l)]) := HV8.out.add hb9 hB9 hT9
  have HX9 := hidIt (ext_trans HX8.out hb9)
  have HB9 := hidIt (ext_trans HB8.out hb9)
  clear hwc HQ hB9 hT9 hb9 HV8 OM SLM SLE HX8 HB8
  have HWB : Hid (wt l ≤ 4611686018427387904 ∧ wt M ≤ 4611686018427387904 ∧ wt (l.drop j) ≤ 4611686018427387904 ∧ wt (l.take i ++ M) ≤ 4611686018427387904 ∧ wt ((l.take i ++ M) ++ l.drop j) ≤ 4611686018427387904 ∧ wt U ≤ 4611686018427387904 ∧ wt ys ≤ 4611686018427387904 ∧ wt (l.take i ++ ys) ≤ 4611686018427387904 ∧ wt ((l.take i ++ ys) ++ l.drop j) ≤ 4611686018427387904) := by have h1 := HWT.out; have h2 := HWM.out; have h3 := HW2.out; simp only [Hid, wt_app]; omega
  have C1 : Hid (∀ w', Below w9.heap.size w9 w' → Calls Try.prog 24 #[.agg #[.pointer u], .int .i64 (i : Nat)] w' fun e w'' => e = .returned (.agg #[.int .i64 (rA.su (l.take i)).l, .int .i64 (rA.su (l.take i)).s, .int .i64 (rA.su (l.take i)).f, .int .i64 (rA.su (l.take i)).z]) ∧ Below w9.heap.size w9 w'' ∧ Below w'.heap.size w' w'') := fun w' hb => (Upto_any u l i w' ((HV9.out (t0, u, l) (by simp)).2.ext hb) HWB.out.1 (by omega)).mono fun _ _ ⟨s, k0, k1, k2⟩ => ⟨by have := k0.out; rw [Int.toNat_natCast] at this; rw [← this]; exact k1, ext_trans hb k2, k2⟩
  have C2 : Hid (∀ w', Below w9.heap.size w9 w' → Calls Try.prog 21 #[.agg #[.pointer u4]] w' fun e w'' => e = .returned (.agg #[.int .i64 (rA.su M).l, .int .i64 (rA.su M).s, .int .i64 (rA.su M).f, .int .i64 (rA.su M).z]) ∧ Below w9.heap.size w9 w'' ∧ Below w'.heap.size w' w'') := fun w' hb => (Sum_any u4 M w' ((HV9.out (t4, u4, M) (by simp)).2.ext hb)).mono fun _ _ ⟨s, k0, k1, k2⟩ => ⟨by rw [← k0.out]; exact k1, ext_trans hb k2, k2⟩
  have C3 : Hid (∀ w', Below w9.heap.size w9 w' → Calls Try.prog 14 #[.agg #[.int .i64 (rA.su (l.take i)).l, .int .i64 (rA.su (l.take i)).s, .int .i64 (rA.su (l.take i)).f, .int .i64 (rA.su (l.take i)).z], .agg #[.int .i64 (rA.su M).l, .int .i64 (rA.su M).s, .int .i64 (rA.su M).f, .int .i64 (rA.su M).z]] w' fun e w'' => e = .returned (.agg #[.int .i64 (rA.su (l.take i ++ M)).l, .int .i64 (rA.su (l.take i ++ M)).s, .int .i64 (rA.su (l.take i ++ M)).f, .int .i64 (rA.su (l.take i ++ M)).z]) ∧ Below w9.heap.size w9 w'' ∧ Below w'.heap.size w' w'') := fun w' hb => (add_su (l.take i) M _ _ w' rfl rfl HWB.out.2.2.2.1).mono fun _ _ ⟨s, k0, k1, k2⟩ => ⟨by rw [← k0.out]; exact k1, ext_trans hb k2, k2⟩
  have C4 : Hid (∀ w', Below w9.heap.size w9 w' → Calls Try.prog 21 #[.agg #[.pointer u3]] w' fun e w'' => e = .returned (.agg #[.int .i64 (rA.su (l.drop j)).l, .int .i64 (rA.su (l.drop j)).s, .int .i64 (rA.su (l.drop j)).f, .int .i64 (rA.su (l.drop j)).z]) ∧ Below w9.heap.size w9 w'' ∧ Below w'.heap.size w' w'') := fun w' hb => (Sum_any u3 (l.drop j) w' ((HV9.out (t3, u3, l.drop j) (by simp)).2.ext hb)).mono fun _ _ ⟨s, k0, k1, k2⟩ => ⟨by rw [← k0.out]; exact k1, ext_trans hb k2, k2⟩
  have C5 : Hid (∀ w', Below w9.heap.size w9 w' → Calls Try.prog 14 #[.agg #[.int .i64 (rA.su (l.take i ++ M)).l, .int .i64 (rA.su (l.take i ++ M)).s, .int .i64 (rA.su (l.take i ++ M)).f, .int .i64 (rA.su (l.take i ++ M)).z], .agg #[.int .i64 (rA.su (l.drop j)).l, .int .i64 (rA.su (l.drop j)).s, .int .i64 (rA.su (l.drop j)).f, .int .i64 (rA.su (l.drop j)).z]] w' fun e w'' => e = .returned (.agg #[.int .i64 (rA.su l).l, .int .i64 (rA.su l).s, .int .i64 (rA.su l).f, .int .i64 (rA.su l).z]) ∧ Below w9.heap.size w9 w'' ∧ Below w'.heap.size w' w'') := fun w' hb => (add_su (l.take i ++ M) (l.drop j) _ _ w' rfl rfl HWB.out.2.2.2.2.1).mono fun _ _ ⟨s, k0, k1, k2⟩ => ⟨by have := k0.out; rw [EL.out] at this; rw [← this]; exact k1, ext_trans hb k2, k2⟩
  have HSUMS : Hid (∃ s1 s2 s3 s12 sl, rA.su (l.take i) = s1 ∧ rA.su M = s2 ∧ rA.su (l.drop j) = s3 ∧ rA.su (l.take i ++ M) = s12 ∧ rA.su l = sl) := ⟨_, _, _, _, _, rfl, rfl, rfl, rfl, rfl⟩
  obtain ⟨s1, s2, s3, s12, sl, h_1, h_2, h_3, h_12, h_l⟩ := HSUMS.out
  rw [h_1] at C1 C3
  rw [h_2] at C2 C3
  rw [h_12] at C3 C5
  rw [h_3] at C4 C5
  rw [h_l] at C5
  have E1 := hidIt h_1
  have E2 := hidIt h_2
  have E3 := hidIt h_3
  have E12 := hidIt h_12
  have ES := hidIt h_l
  clear h_1 h_2 h_3 h_12 h_l HSUMS
  have HCS : Hid (∀ w', Below w9.heap.size w9 w' → w'.cell? ⟨t0, 0, none⟩ = some (.pointer u) ∧ w'.cell? ⟨t3, 0, none⟩ = some (.pointer u3) ∧ w'.cell? ⟨t4, 0, none⟩ = some (.pointer u4)) := fun w' hb => ⟨(hb.cell (p := ⟨t0, 0, none⟩) (HV9.out (t0, u, l) (by simp)).1.lt).trans (HV9.out (t0, u, l) (by simp)).1.cells.1, (hb.cell (p := ⟨t3, 0, none⟩) (HV9.out (t3, u3, l.drop j) (by simp)).1.lt).trans (HV9.out (t3, u3, l.drop j) (by simp)).1.cells.1, (hb.cell (p := ⟨t4, 0, none⟩) (HV9.out (t4, u4, M) (by simp)).1.lt).trans (HV9.out (t4, u4, M) (by simp)).1.cells.1⟩
  go_upto_region 15 with fail
  go_cut [19] from 94 to 102 (fun p wF => ∃ tb : Nat, p = .pointer (some ⟨tb, 0, none⟩) ∧ Hid (Blk 26 wF tb sl ∧ Below w9.heap.size w9 wF))
  case first =>
    obtain ⟨q0, q3, q4⟩ := HCS.out w9 (Below.refl _ _)
    go_region_held3 (fun w' => w'.cell? ⟨t0, 0, none⟩ = some (.pointer u) ∧ w'.cell? ⟨t3, 0, none⟩ = some (.pointer u3) ∧ w'.cell? ⟨t4, 0, none⟩ = some (.pointer u4)) (first | exact HCS.out _ (by repeat (first | exact HBY.out | exact Below.refl _ _ | apply Below.drew | refine ext_alloc ?_ _ | refine Below.setCell ?_ (by first | exact Nat.le_refl _ | exact HBY.out.size | omega) _)) | go_keep) (first
        | (go_at_call_of 24 u; refine (C1.out _ (by repeat (first | exact HBY.out | exact Below.refl _ _ | apply Below.drew | refine ext_alloc ?_ _))).mono ?_; rintro e wy ⟨rfl, hbx, hbr⟩; have hC1 := hbx.size; (first | (have HT' := hidIt (HT.out.ext hbr); clear HT; have HT := HT'; clear HT' z0 z1 z2 z3 zf hzl; obtain ⟨z0, z1, z2, z3, zf⟩ := HT.out.cells; have hzl := HT.out.lt) | (have HT := hidIt (Blk.ext (Blk.new_drew' 26 _ Rs.zero) hbr); obtain ⟨z0, z1, z2, z3, zf⟩ := HT.out.cells; have hzl := HT.out.lt) | (have HT := hidIt (Blk.ext (Blk.new 26 _ Rs.zero) hbr); obtain ⟨z0, z1, z2, z3, zf⟩ := HT.out.cells; have hzl := HT.out.lt) | skip); (try clear HBY); have HBY := hidIt hbx; clear hbx hbr q0 q3 q4; obtain ⟨q0, q3, q4⟩ := HCS.out wy HBY.out) 
        | (go_at_call_of 21 u4; refine (C2.out _ (by repeat (first | exact HBY.out | exact Below.refl _ _ | apply Below.drew | refine ext_alloc ?_ _))).mono ?_; rintro e wy ⟨rfl, hbx, hbr⟩; have hC2 := hbx.size; (first | (have HT' := hidIt (HT.out.ext hbr); clear HT; have HT := HT'; clear HT' z0 z1 z2 z3 zf hzl; obtain ⟨z0, z1, z2, z3, zf⟩ := HT.out.cells; have hzl := HT.out.lt) | (have HT := hidIt (Blk.ext (Blk.new_drew' 26 _ Rs.zero) hbr); obtain ⟨z0, z1, z2, z3, zf⟩ := HT.out.cells; have hzl := HT.out.lt) | (have HT := hidIt (Blk.ext (Blk.new 26 _ Rs.zero) hbr); obtain ⟨z0, z1, z2, z3, zf⟩ := HT.out.cells; have hzl := HT.out.lt) | skip); (try clear HBY); have HBY := hidIt hbx; clear hbx hbr q0 q3 q4; obtain ⟨q0, q3, q4⟩ := HCS.out wy HBY.out) 
        | (go_at_call_of 14 s1; refine (C3.out _ (by repeat (first | exact HBY.out | exact Below.refl _ _ | apply Below.drew | refine ext_alloc ?_ _))).mono ?_; rintro e wy ⟨rfl, hbx, hbr⟩; have hC3 := hbx.size; (first | (have HT' := hidIt (HT.out.ext hbr); clear HT; have HT := HT'; clear HT' z0 z1 z2 z3 zf hzl; obtain ⟨z0, z1, z2, z3, zf⟩ := HT.out.cells; have hzl := HT.out.lt) | (have HT := hidIt (Blk.ext (Blk.new_drew' 26 _ Rs.zero) hbr); obtain ⟨z0, z1, z2, z3, zf⟩ := HT.out.cells; have hzl := HT.out.lt) | (have HT := hidIt (Blk.ext (Blk.new 26 _ Rs.zero) hbr); obtain ⟨z0, z1, z2, z3, zf⟩ := HT.out.cells; have hzl := HT.out.lt) | skip); (try clear HBY); have HBY := hidIt hbx; clear hbx hbr q0 q3 q4; obtain ⟨q0, q3, q4⟩ := HCS.out wy HBY.out) 
        | (go_at_call_of 21 u3; refine (C4.out _ (by repeat (first | exact HBY.out | exact Below.refl _ _ | apply Below.drew | refine ext_alloc ?_ _))).mono ?_; rintro e wy ⟨rfl, hbx, hbr⟩; have hC4 := hbx.size; (first | (have HT' := hidIt (HT.out.ext hbr); clear HT; have HT := HT'; clear HT' z0 z1 z2 z3 zf hzl; obtain ⟨z0, z1, z2, z3, zf⟩ := HT.out.cells; have hzl := HT.out.lt) | (have HT := hidIt (Blk.ext (Blk.new_drew' 26 _ Rs.zero) hbr); obtain ⟨z0, z1, z2, z3, zf⟩ := HT.out.cells; have hzl := HT.out.lt) | (have HT := hidIt (Blk.ext (Blk.new 26 _ Rs.zero) hbr); obtain ⟨z0, z1, z2, z3, zf⟩ := HT.out.cells; have hzl := HT.out.lt) | skip); (try clear HBY); have HBY := hidIt hbx; clear hbx hbr q0 q3 q4; obtain ⟨q0, q3, q4⟩ := HCS.out wy HBY.out) 
        | (go_at_call_of 14 s12; refine (C5.out _ (by repeat (first | exact HBY.out | exact Below.refl _ _ | apply Below.drew | refine ext_alloc ?_ _))).mono ?_; rintro e wy ⟨rfl, hbx, hbr⟩; have hC5 := hbx.size; (first | (have HT' := hidIt (HT.out.ext hbr); clear HT; have HT := HT'; clear HT' z0 z1 z2 z3 zf hzl; obtain ⟨z0, z1, z2, z3, zf⟩ := HT.out.cells; have hzl := HT.out.lt) | (have HT := hidIt (Blk.ext (Blk.new_drew' 26 _ Rs.zero) hbr); obtain ⟨z0, z1, z2, z3, zf⟩ := HT.out.cells; have hzl := HT.out.lt) | (have HT := hidIt (Blk.ext (Blk.new 26 _ Rs.zero) hbr); obtain ⟨z0, z1, z2, z3, zf⟩ := HT.out.cells; have hzl := HT.out.lt) | skip); (try clear HBY); have HBY := hidIt hbx; clear hbx hbr q0 q3 q4; obtain ⟨q0, q3, q4⟩ := HCS.out wy HBY.out))
    all_goals
      go_wp2_with fail
      go_meet
      case rel =>
        first
          | (obtain ⟨y1, y2⟩ := HT.out.put sl; exact ⟨_, rfl, y1, below_put HBY.out HBY.out.size y2 (by first | exact Nat.le_refl _ | omega)⟩)
          | exact ⟨_, rfl, Blk.new _ _ _, ext_alloc HBY.out _⟩
  obtain ⟨t6, rfl, HQ⟩ := hcut
  obtain ⟨hBS, hb10⟩ := HQ.out
  generalize hwc : wc = wA at *
  have HVA : Hid (Vars wA [(t4, u4, M), (t3, u3, l.drop j), (t2, u2, l), (t1, u1, U), (t0, u, l)]) := HV9.out.ext hb10
  have HXA := hidIt (ext_trans HX9.out hb10)
  have HBA := hidIt (ext_trans HB9.out hb10)
  have HSA := hidIt hBS
  clear hwc HQ hBS hb10 HV9 C1 C2 C3 C4 C5 HCS HX9 HB9
  go_wp2_with fail
  refine (Of_any _ l wA (HO3.out.ext HXA.out) HWB.out.1).mono ?_
  rintro e wB ⟨u5, rfl, hTB, hbB⟩
  obtain ⟨wC, hwC⟩ : ∃ wC, wC = wB.alloc (.cells #[.pointer u5] 39) := ⟨_, rfl⟩
  have hbC : Below wB.heap.size wB wC := by rw [hwC]; exact ext_alloc (Below.refl _ _) _
  have HVC : Hid (Vars wC [(wB.heap.size, u5, l), (t4, u4, M), (t3, u3, l.drop j), (t2, u2, l), (t1, u1, U), (t0, u, l)]) := HVA.out.add (ext_trans hbB hbC) (by rw [hwC]; exact heap_alloc_new _ _) (hTB.ext hbC)
  have HSC := hidIt (HSA.out.ext (ext_trans hbB hbC))
  have HBC := hidIt (ext_trans HBA.out (ext_trans hbB hbC))
  go_upto_region 17 with fail
  rw [← hwC]
  generalize wB.heap.size = t5 at *
  clear hwC hbB hbC hTB HVA HSA HXA HBA
  have TO : Hid (∀ w', Below wC.heap.size wC w' → ∀ p ∈ [(t5, u5, l), (t4, u4, M), (t3, u3, l.drop j), (t2, u2, l), (t1, u1, U), (t0, u, l)], TT w' (.agg #[.pointer p.2.1]) p.2.2 ∧ w'.cell? ⟨p.1, 0, none⟩ = some (.pointer p.2.1)) := fun w' hb p hp => ⟨(HVC.out p hp).2.ext hb, ((HVC.out p hp).1.ext hb).cells.1⟩
  have D1 : Hid (∀ w', Below wC.heap.size wC w' → Calls Try.prog 22 #[.agg #[.pointer u]] w' fun e w'' => e = .returned (.int .i64 (l.length : Nat)) ∧ Below wC.heap.size wC w'') := fun w' hb => (Size_any u l w' (TO.out w' hb (t0, u, l) (by simp)).1).mono fun _ _ ⟨k1, k2⟩ => ⟨k1, ext_trans hb k2⟩
  have D2 : Hid (∀ w', Below wC.heap.size wC w' → Calls Try.prog 21 #[.agg #[.pointer u]] w' fun e w'' => e = .returned (.agg #[.int .i64 (sl).l, .int .i64 (sl).s, .int .i64 (sl).f, .int .i64 (sl).z]) ∧ Below wC.heap.size wC w'') := fun w' hb => (Sum_any u l w' (TO.out w' hb (t0, u, l) (by simp)).1).mono fun _ _ ⟨s, k0, k1, k2⟩ => ⟨by have := k0.out; rw [ES.out] at this; rw [← this]; exact k1, ext_trans hb k2⟩
  have D3 : Hid (∀ w', Below wC.heap.size wC w' → Calls Try.prog 31 #[.agg #[.pointer u2], .agg #[.pointer u]] w' fun e w'' => e = .returned (.bool true) ∧ Below wC.heap.size wC w'') := fun w' hb => (same_any u2 u l w' (TO.out w' hb (t2, u2, l) (by simp)).1 (TO.out w' hb (t0, u, l) (by simp)).1 HWB.out.1).mono fun _ _ ⟨k1, k2⟩ => ⟨k1, ext_trans hb k2⟩
  have D4 : Hid (∀ w', Below wC.heap.size wC w' → Calls Try.prog 31 #[.agg #[.pointer u5], .agg #[.pointer u]] w' fun e w'' => e = .returned (.bool true) ∧ Below wC.heap.size wC w'') := fun w' hb => (same_any u5 u l w' (TO.out w' hb (t5, u5, l) (by simp)).1 (TO.out w' hb (t0, u, l) (by simp)).1 HWB.out.1).mono fun _ _ ⟨k1, k2⟩ => ⟨k1, ext_trans hb k2⟩
  have D5 : Hid (∀ w', Below wC.heap.size wC w' → Calls Try.prog 22 #[.agg #[.pointer u1]] w' fun e w'' => e = .returned (.int .i64 (U.length : Nat)) ∧ Below wC.heap.size wC w'') := fun w' hb => (Size_any u1 U w' (TO.out w' hb (t1, u1, U) (by simp)).1).mono fun _ _ ⟨k1, k2⟩ => ⟨k1, ext_trans hb k2⟩
  obtain ⟨sU, hsU⟩ : ∃ sU, rA.su U = sU := ⟨_, rfl⟩
  obtain ⟨sy, hsy⟩ : ∃ sy, rA.su ys = sy := ⟨_, rfl⟩
  obtain ⟨s1y, hs1y⟩ : ∃ s1y, rA.su (l.take i ++ ys) = s1y := ⟨_, rfl⟩
  have D6 : Hid (∀ w', Below wC.heap.size wC w' → Calls Try.prog 21 #[.agg #[.pointer u1]] w' fun e w'' => e = .returned (.agg #[.int .i64 (sU).l, .int .i64 (sU).s, .int .i64 (sU).f, .int .i64 (sU).z]) ∧ Below wC.heap.size wC w'') := fun w' hb => (Sum_any u1 U w' (TO.out w' hb (t1, u1, U) (by simp)).1).mono fun _ _ ⟨s, k0, k1, k2⟩ => ⟨by have := k0.out; rw [hsU] at this; rw [← this]; exact k1, ext_trans hb k2⟩
  have D7 : Hid (∀ w', Below wC.heap.size wC w' → Calls Try.prog 24 #[.agg #[.pointer u], .int .i64 (i : Nat)] w' fun e w'' => e = .returned (.agg #[.int .i64 (s1).l, .int .i64 (s1).s, .int .i64 (s1).f, .int .i64 (s1).z]) ∧ Below wC.heap.size wC w'') := fun w' hb => (Upto_any u l i w' (TO.out w' hb (t0, u, l) (by simp)).1 HWB.out.1 (by omega)).mono fun _ _ ⟨s, k0, k1, k2⟩ => ⟨by have := k0.out; rw [Int.toNat_natCast, E1.out] at this; rw [← this]; exact k1, ext_trans hb k2⟩
  have D8 : Hid (∀ w', Below wC.heap.size wC w' → Calls Try.prog 13 #[.slice ao2 ys.length cap2] w' fun e w'' => e = .returned (.agg #[.int .i64 (sy).l, .int .i64 (sy).s, .int .i64 (sy).f, .int .i64 (sy).z]) ∧ Below wC.heap.size wC w'') := fun w' hb => (added_any _ ys w' (HR2.out.ext (ext_trans HBC.out hb)) HWB.out.2.2.2.2.2.2.1).mono fun _ _ ⟨s, k0, k1, k2⟩ => ⟨by have := k0.out; rw [hsy] at this; rw [← this]; exact k1, ext_trans hb k2⟩
  have D9 : Hid (∀ w', Below wC.heap.size wC w' → Calls Try.prog 14 #[.agg #[.int .i64 s1.l, .int .i64 s1.s, .int .i64 s1.f, .int .i64 s1.z], .agg #[.int .i64 sy.l, .int .i64 sy.s, .int .i64 sy.f, .int .i64 sy.z]] w' fun e w'' => e = .returned (.agg #[.int .i64 (s1y).l, .int .i64 (s1y).s, .int .i64 (s1y).f, .int .i64 (s1y).z]) ∧ Below wC.heap.size wC w'') := fun w' hb => (add_su (l.take i) ys s1 sy w' E1.out.symm hsy.symm HWB.out.2.2.2.2.2.2.2.1).mono fun _ _ ⟨s, k0, k1, k2⟩ => ⟨by have := k0.out; rw [hs1y] at this; rw [← this]; exact k1, ext_trans hb k2⟩
  have D10 : Hid (∀ w', Below wC.heap.size wC w' → Calls Try.prog 21 #[.agg #[.pointer u3]] w' fun e w'' => e = .returned (.agg #[.int .i64 (s3).l, .int .i64 (s3).s, .int .i64 (s3).f, .int .i64 (s3).z]) ∧ Below wC.heap.size wC w'') := fun w' hb => (Sum_any u3 (l.drop j) w' (TO.out w' hb (t3, u3, l.drop j) (by simp)).1).mono fun _ _ ⟨s, k0, k1, k2⟩ => ⟨by have := k0.out; rw [E3.out] at this; rw [← this]; exact k1, ext_trans hb k2⟩
  have D11 : Hid (∀ w', Below wC.heap.size wC w' → Calls Try.prog 14 #[.agg #[.int .i64 s1y.l, .int .i64 s1y.s, .int .i64 s1y.f, .int .i64 s1y.z], .agg #[.int .i64 s3.l, .int .i64 s3.s, .int .i64 s3.f, .int .i64 s3.z]] w' fun e w'' => e = .returned (.agg #[.int .i64 (sU).l, .int .i64 (sU).s, .int .i64 (sU).f, .int .i64 (sU).z]) ∧ Below wC.heap.size wC w'') := fun w' hb => (add_su (l.take i ++ ys) (l.drop j) s1y s3 w' hs1y.symm E3.out.symm HWB.out.2.2.2.2.2.2.2.2).mono fun _ _ ⟨s, k0, k1, k2⟩ => ⟨by have := k0.out; rw [← HU.out, hsU] at this; rw [← this]; exact k1, ext_trans hb k2⟩
  have HCS : Hid (∀ w', Below wC.heap.size wC w' → w'.cell? ⟨t0, 0, none⟩ = some (.pointer u) ∧ w'.cell? ⟨t1, 0, none⟩ = some (.pointer u1) ∧ w'.cell? ⟨t2, 0, none⟩ = some (.pointer u2) ∧ w'.cell? ⟨t3, 0, none⟩ = some (.pointer u3) ∧ w'.cell? ⟨t5, 0, none⟩ = some (.pointer u5) ∧ w'.cell? ⟨t6, 0, none⟩ = some (.int .i64 sl.l) ∧ w'.cell? ⟨t6, 1, none⟩ = some (.int .i64 sl.s) ∧ w'.cell? ⟨t6, 2, none⟩ = some (.int .i64 sl.f) ∧ w'.cell? ⟨t6, 3, none⟩ = some (.int .i64 sl.z)) := fun w' hb => ⟨(TO.out w' hb (t0, u, l) (by simp)).2, (TO.out w' hb (t1, u1, U) (by simp)).2, (TO.out w' hb (t2, u2, l) (by simp)).2, (TO.out w' hb (t3, u3, l.drop j) (by simp)).2, (TO.out w' hb (t5, u5, l) (by simp)).2, (HSC.out.ext hb).cells.1, (HSC.out.ext hb).cells.2.1, (HSC.out.ext hb).cells.2.2.1, (HSC.out.ext hb).cells.2.2.2.1⟩
  obtain ⟨q0, q1, q2, q3, q5, z0, z1, z2, z3⟩ := HCS.out wC (Below.refl _ _)
  obtain ⟨d1, hd1⟩ : ∃ d : Nat, d = j - i := ⟨_, rfl⟩
  obtain ⟨d2, hd2⟩ : ∃ d : Nat, d = l.length - d1 := ⟨_, rfl⟩
  have hv1 : IntKind.i64.wrap ((j : Int) - (i : Int)) = (d1 : Int) := by rw [IntKind.wrap_i64]; omega
  have hv2 : IntKind.i64.wrap ((l.length : Int) - (d1 : Int)) = (d2 : Int) := by rw [IntKind.wrap_i64]; omega
  have hv3 : IntKind.i64.wrap ((d2 : Int) + (ys.length : Int)) = (U.length : Int) := by rw [IntKind.wrap_i64]; omega
  clear hsU hsy hs1y TO HVC HSC hd1 hd2 hML hUL hij hjl hcl i1 i2 i3 i4 hlen hle2 g0' g1' g0d
  go_region_held3 (fun w' => w'.cell? ⟨t0, 0, none⟩ = some (.pointer u) ∧ w'.cell? ⟨t1, 0, none⟩ = some (.pointer u1) ∧ w'.cell? ⟨t2, 0, none⟩ = some (.pointer u2) ∧ w'.cell? ⟨t3, 0, none⟩ = some (.pointer u3) ∧ w'.cell? ⟨t5, 0, none⟩ = some (.pointer u5) ∧ w'.cell? ⟨t6, 0, none⟩ = some (.int .i64 sl.l) ∧ w'.cell? ⟨t6, 1, none⟩ = some (.int .i64 sl.s) ∧ w'.cell? ⟨t6, 2, none⟩ = some (.int .i64 sl.f) ∧ w'.cell? ⟨t6, 3, none⟩ = some (.int .i64 sl.z)) (go_keep) (first
        | (go_at_call_of 22 u; refine (D1.out _ (by repeat (first | exact HBY.out | exact Below.refl _ _ | apply Below.drew))).mono ?_; rintro e wy ⟨rfl, hbx⟩; (try clear HBY); have HBY := hidIt hbx; clear hbx q0 q1 q2 q3 q5 z0 z1 z2 z3; obtain ⟨q0, q1, q2, q3, q5, z0, z1, z2, z3⟩ := HCS.out wy HBY.out)
        | (go_at_call_of 21 u; refine (D2.out _ (by repeat (first | exact HBY.out | exact Below.refl _ _ | apply Below.drew))).mono ?_; rintro e wy ⟨rfl, hbx⟩; (try clear HBY); have HBY := hidIt hbx; clear hbx q0 q1 q2 q3 q5 z0 z1 z2 z3; obtain ⟨q0, q1, q2, q3, q5, z0, z1, z2, z3⟩ := HCS.out wy HBY.out)
        | (go_at_call_of 31 u2; refine (D3.out _ (by repeat (first | exact HBY.out | exact Below.refl _ _ | apply Below.drew))).mono ?_; rintro e wy ⟨rfl, hbx⟩; (try clear HBY); have HBY := hidIt hbx; clear hbx q0 q1 q2 q3 q5 z0 z1 z2 z3; obtain ⟨q0, q1, q2, q3, q5, z0, z1, z2, z3⟩ := HCS.out wy HBY.out)
        | (go_at_call_of 31 u5; refine (D4.out _ (by repeat (first | exact HBY.out | exact Below.refl _ _ | apply Below.drew))).mono ?_; rintro e wy ⟨rfl, hbx⟩; (try clear HBY); have HBY := hidIt hbx; clear hbx q0 q1 q2 q3 q5 z0 z1 z2 z3; obtain ⟨q0, q1, q2, q3, q5, z0, z1, z2, z3⟩ := HCS.out wy HBY.out)
        | (go_at_call_of 22 u1; refine (D5.out _ (by repeat (first | exact HBY.out | exact Below.refl _ _ | apply Below.drew))).mono ?_; rintro e wy ⟨rfl, hbx⟩; (try clear HBY); have HBY := hidIt hbx; clear hbx q0 q1 q2 q3 q5 z0 z1 z2 z3; obtain ⟨q0, q1, q2, q3, q5, z0, z1, z2, z3⟩ := HCS.out wy HBY.out)
        | (go_at_call_of 21 u1; refine (D6.out _ (by repeat (first | exact HBY.out | exact Below.refl _ _ | apply Below.drew))).mono ?_; rintro e wy ⟨rfl, hbx⟩; (try clear HBY); have HBY := hidIt hbx; clear hbx q0 q1 q2 q3 q5 z0 z1 z2 z3; obtain ⟨q0, q1, q2, q3, q5, z0, z1, z2, z3⟩ := HCS.out wy HBY.out)
        | (go_at_call_of 24 u; refine (D7.out _ (by repeat (first | exact HBY.out | exact Below.refl _ _ | apply Below.drew))).mono ?_; rintro e wy ⟨rfl, hbx⟩; (try clear HBY); have HBY := hidIt hbx; clear hbx q0 q1 q2 q3 q5 z0 z1 z2 z3; obtain ⟨q0, q1, q2, q3, q5, z0, z1, z2, z3⟩ := HCS.out wy HBY.out)
        | (go_at_call_of 13 ao2; refine (D8.out _ (by repeat (first | exact HBY.out | exact Below.refl _ _ | apply Below.drew))).mono ?_; rintro e wy ⟨rfl, hbx⟩; (try clear HBY); have HBY := hidIt hbx; clear hbx q0 q1 q2 q3 q5 z0 z1 z2 z3; obtain ⟨q0, q1, q2, q3, q5, z0, z1, z2, z3⟩ := HCS.out wy HBY.out)
        | (go_at_call_of 14 sy; refine (D9.out _ (by repeat (first | exact HBY.out | exact Below.refl _ _ | apply Below.drew))).mono ?_; rintro e wy ⟨rfl, hbx⟩; (try clear HBY); have HBY := hidIt hbx; clear hbx q0 q1 q2 q3 q5 z0 z1 z2 z3; obtain ⟨q0, q1, q2, q3, q5, z0, z1, z2, z3⟩ := HCS.out wy HBY.out)
        | (go_at_call_of 21 u3; refine (D10.out _ (by repeat (first | exact HBY.out | exact Below.refl _ _ | apply Below.drew))).mono ?_; rintro e wy ⟨rfl, hbx⟩; (try clear HBY); have HBY := hidIt hbx; clear hbx q0 q1 q2 q3 q5 z0 z1 z2 z3; obtain ⟨q0, q1, q2, q3, q5, z0, z1, z2, z3⟩ := HCS.out wy HBY.out)
        | (go_at_call_of 14 s1y; refine (D11.out _ (by repeat (first | exact HBY.out | exact Below.refl _ _ | apply Below.drew))).mono ?_; rintro e wy ⟨rfl, hbx⟩; (try clear HBY); have HBY := hidIt hbx; clear hbx q0 q1 q2 q3 q5 z0 z1 z2 z3; obtain ⟨q0, q1, q2, q3, q5, z0, z1, z2, z3⟩ := HCS.out wy HBY.out))
  all_goals
    go_wp2_with fail
    go_ret
    exact ⟨rfl, ext_trans HBC.out HBY.out⟩
end Go.Proofs.Ytlnachbigchobaa
