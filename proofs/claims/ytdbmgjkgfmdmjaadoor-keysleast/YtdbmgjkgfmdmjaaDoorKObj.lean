/- objects. -/
import Derived.Test.YtdbmgjkgfmdmjaaDoorKBlk
namespace Go.Proofs.YtdbmgjkgfmdmjaaDoor
open Go.RowKit
def quoR (ks : List Int) : List Rw := ks.flatMap fun k => [⟨⟨1, 65, k, 0⟩, [105, k]⟩, ⟨⟨1, 66, k, 0⟩, [97, k]⟩]
theorem quoR_succ (ks : List Int) (i : Nat) (h : i < ks.length) : quoR (ks.take (i + 1)) = quoR (ks.take i) ++ [⟨⟨1, 65, ks[i], 0⟩, [105, ks[i]]⟩, ⟨⟨1, 66, ks[i], 0⟩, [97, ks[i]]⟩] := by
  unfold quoR
  rw [List.take_succ_eq_append_getElem h, List.flatMap_append]
  rfl
def tSix : List Rw := [⟨⟨1, 61, 0, 0⟩, [105, 119]⟩, ⟨⟨1, 62, 0, 0⟩, [97, 119]⟩, ⟨⟨1, 63, 0, 0⟩, [105, 87]⟩, ⟨⟨1, 64, 0, 0⟩, [97, 87]⟩, ⟨⟨1, 69, 0, 0⟩, [105, 112]⟩, ⟨⟨1, 70, 0, 0⟩, [97, 112]⟩]
def tObj : List Rw := tSix ++ quoR [34, 39, 96] ++ blkR 40 [40, 41, 98] ++ blkR 91 [91, 93] ++ blkR 123 [123, 125, 66] ++ blkR 60 [60, 62]
theorem lit_ints (w : World) (ks : List Int) (hl : ks.length ≤ 100) : Rd .i64 (w.alloc (.cells (ks.map (Value.int .i64)).toArray 3)) (.slice (some ⟨w.heap.size, 0, none⟩) ks.length ks.length) ks := (ki_of ((AccB.nil w).push (Below.refl _ _)) (g := w.heap.size) (by simp) rfl hl).1.1
theorem own_move {W1 W2 : World} {base : Nat} {v : Value} {xs : List (Rw × Value)} (h : Hid (OwnW W1 base v xs)) (e : W1 = W2) : Hid (OwnW W2 base v xs) := e ▸ h
theorem own_pack {W : World} {base : Nat} {v : Value} {xs : List (Rw × Value)} {T : List Rw} (h : Hid (OwnW W base v xs)) (e : xs.map Prod.fst = T) : ∃ xs0, Hid (OwnW W base v xs0) ∧ Hid (xs0.map Prod.fst = T) := ⟨xs, h, e⟩
set_option maxRecDepth 100000 in
set_option maxHeartbeats 4000000 in
theorem objects_any (w : World) : Calls Tryd.prog 68 #[] w fun e w' => ∃ v xs, e = .returned v ∧ OwnW w' w.heap.size v xs ∧ Hid (xs.map Prod.fst = tObj) ∧ Below w.heap.size w w' := by
  have HA := hidIt (AccB.nil w)
  have HB := hidIt (Below.refl w.heap.size w)
  go_enter Tryd.func68, Tryd.ntmps68
  go_upto_region 2 with (first | (go_at_call 83; refine (moves_any _ _ _ _ _).mono ?_; rintro e y ⟨rfl, hb⟩; (try dsimp only); replace HA := hidIt (HA.out.push hb); replace HB := hidIt (ext_trans (ext_alloc HB.out _) hb); clear hb))
  have HO0 := hidIt ((OwnW.lit (xs := [(⟨⟨1, 61, 0, 0⟩, [105, 119]⟩, _), (⟨⟨1, 62, 0, 0⟩, [97, 119]⟩, _), (⟨⟨1, 63, 0, 0⟩, [105, 87]⟩, _), (⟨⟨1, 64, 0, 0⟩, [97, 87]⟩, _), (⟨⟨1, 69, 0, 0⟩, [105, 112]⟩, _), (⟨⟨1, 70, 0, 0⟩, [97, 112]⟩, _)]) _ rfl (acc_of HA.out _ (by simp) rfl) (by simp)).le HB.out.size)
  generalize hwz : World.alloc y _ = wz
  obtain ⟨xs0, HX0, HM0⟩ := own_pack (v := .slice (some ⟨y.heap.size, 0, none⟩) 6 6) (T := tSix) (own_move HO0 hwz) rfl
  have HBZ : Hid (Below w.heap.size w wz) := by unfold Hid; rw [← hwz]; exact ext_alloc HB.out _
  clear HO0 HA HB hwz
  generalize y.heap.size = g6 at *
  have hgl : (wz.alloc (.cells #[.int .i64 34, .int .i64 39, .int .i64 96] 3)).heap[wz.heap.size]? = some (.cells #[.int .i64 34, .int .i64 39, .int .i64 96] 3 (0, 0)) := heap_alloc_new _ _
  have HGL := hidIt hgl
  have HBQ := hidIt (ext_alloc HBZ.out (.cells #[.int .i64 34, .int .i64 39, .int .i64 96] 3))
  have HX1 := hidIt (HX0.out.ext (ext_alloc (Below.refl _ _) (.cells #[.int .i64 34, .int .i64 39, .int .i64 96] 3)))
  clear hgl HX0
  go_wp2
  generalize World.alloc wz _ = wq at *
  generalize wz.heap.size = gl at *
  go_loopw [1, 19] (fun v i wr => ∃ (p : Nat) (ao : Option Addr) (n c : Nat) (xs : List (Rw × Value)), p ≤ 3 ∧ i = .int .i64 p ∧ v = .slice ao n c ∧ Hid (OwnW wr w.heap.size (.slice ao n c) xs) ∧ Hid (xs.map Prod.fst = tSix ++ quoR ([34, 39, 96].take p)) ∧ Hid (wr.heap[gl]? = some (.cells #[.int .i64 34, .int .i64 39, .int .i64 96] 3 (0, 0))) ∧ Below w.heap.size w wr) (fun _ i _ => 3 - (RowKit.intOf i).toNat)
  case atStart => exact ⟨0, _, _, _, xs0, Nat.zero_le _, rfl, rfl, HX1.out, by unfold Hid; rw [HM0.out]; rfl, HGL.out, HBQ.out⟩
  case round =>
    obtain ⟨p, ao, n, c, xs, hp, rfl, rfl, HO, HM, HG, hbw⟩ := hrel
    by_cases hlt : p < 3
    · have c1 : wr.cell? ⟨gl, p, none⟩ = some (.int .i64 ([34, 39, 96] : List Int)[p]) := by
        rw [cell_of_row _ _ _ _ _ _ HG.out]
        obtain rfl | rfl | rfl : p = 0 ∨ p = 1 ∨ p = 2 := by omega
        · rfl
        · rfl
        · rfl
      have hi1 : (p : Int) < 3 := by omega
      have HM2 := hidIt (quoR_succ [34, 39, 96] p hlt)
      have HBW := hidIt hbw
      have HXL := hidIt (show xs.length ≤ 202 by
        have := congrArg List.length HM.out
        obtain rfl | rfl | rfl : p = 0 ∨ p = 1 ∨ p = 2 := by omega
        · rw [List.length_map] at this; rw [this]; decide
        · rw [List.length_map] at this; rw [this]; decide
        · rw [List.length_map] at this; rw [this]; decide)
      generalize ([34, 39, 96] : List Int)[p] = x at *
      have HB : Hid (Below wr.heap.size wr wr) := Below.refl _ _
      have HA : Hid (AccB wr []) := AccB.nil _
      clear hbw
      go_wp2_with (first | (go_at_call 83; refine (moves_any _ _ _ _ _).mono ?_; rintro e y ⟨rfl, hb⟩; (try dsimp only); replace HA := hidIt (HA.out.push hb); replace HB := hidIt (ext_trans (ext_alloc HB.out _) hb); clear hb) | (go_at_call 87; refine (with_any _ _ _ _ _ _ _ _ _).mono ?_; rintro e y ⟨rfl, hb⟩; (try dsimp only); replace HA := hidIt (HA.out.ext hb); replace HB := hidIt (ext_trans HB.out hb); clear hb) | (at_builtin; refine wpl_rowsG rfl _ _ rfl w.heap.size (.slice ao n c) xs rfl ((HO.out.ext HB.out).ext (ext_alloc (Below.refl _ _) _)) _ [(⟨⟨1, 65, x, 0⟩, [105, x]⟩, _), (⟨⟨1, 66, x, 0⟩, [97, x]⟩, _)] rfl (OwnW.lit _ rfl (acc2 HA.out (by simp) (by simp) rfl rfl) (by simp)).rd (by have := HXL.out; simp only [List.length_cons, List.length_nil]; omega) (by have := HB.out.size; have := HBW.out.size; rw [World.size_alloc]; omega) ?_; intro v' w' ho' hb' hk'; obtain ⟨a', n', c', e'⟩ := ho'.form; subst e'; have HO' := hidIt ho'; have HB' := hidIt hb'; have HGL' := hidIt (hk' gl _ ((((ext_alloc HB.out _).block gl (Array.getElem?_eq_some_iff.1 HG.out).1)).trans HG.out)); clear ho' hb' hk'))
      go_roundw
      case rel => exact ⟨p + 1, _, _, _, _, by omega, by go_num, rfl, HO'.out, by unfold Hid; rw [List.map_append, HM.out, HM2.out, List.append_assoc]; rfl, HGL'.out, HBW.out.trans ((HB.out.mono HBW.out.size).trans (((Below.refl _ _).alloc (by have := HB.out.size; have := HBW.out.size; omega) _).trans HB'.out))⟩
      case measure => simp [RowKit.intOf]; omega
    · obtain rfl : p = 3 := by omega
      have HB := hidIt hbw
      clear hbw hp hlt HG HX1 HGL HBQ
      have HXL := hidIt (show xs.length = 12 by have := congrArg List.length HM.out; rw [List.length_map] at this; rw [this]; decide)
      go_upto_region 8 with (first | (go_at_call 88; refine (blocks_any _ 40 [41, 98] _ (lit_ints _ [40, 41, 98] (by simp)) (by simp)).mono ?_; rintro e yb ⟨vb, xb, rfl, hob, hmb, hbb⟩; (try dsimp only); obtain ⟨ab, nb, cb, eb⟩ := hob.form; subst eb; have HOB := hidIt hob; have HMB := hidIt (show xb.map Prod.fst = blkR 40 [40, 41, 98] from hmb); have HBB := hidIt (ext_trans (ext_alloc (Below.refl _ _) _) hbb); clear hob hmb hbb) | (at_builtin; refine wpl_rows rfl _ _ rfl w.heap.size (.slice ao n c) xs rfl (HO.out.ext HBB.out) _ xb rfl HOB.out.rd (by have := HXL.out; have := congrArg List.length HMB.out; rw [List.length_map] at this; have e2 : (blkR 40 [40, 41, 98]).length = 6 := rfl; omega) (by have := HB.out.size; have := HBB.out.size; omega) ?_; intro v' w' ho' hb'; obtain ⟨a', n', c', e'⟩ := ho'.form; subst e'; have HO' := hidIt ho'; have HB' := hidIt hb'; clear ho' hb'))
      have HM' : Hid ((xs ++ xb).map Prod.fst = tSix ++ quoR [34, 39, 96] ++ blkR 40 [40, 41, 98]) := by unfold Hid; rw [List.map_append, HMB.out]; exact congrArg (· ++ _) HM.out
      have HB2 := hidIt (HB.out.trans ((HBB.out.mono HB.out.size).trans HB'.out))
      have HXL' := hidIt (show (xs ++ xb).length = 18 by have := congrArg List.length HM'.out; rw [List.length_map] at this; rw [this]; decide)
      clear HO HM HB HXL HMB HOB HBB HB'
      generalize xs ++ xb = xs at *
      rename Hid (OwnW _ _ _ _) => HO
      rename Hid (List.map _ _ = _) => HM
      rename Hid (Below _ _ _) => HB
      rename Hid (List.length _ = _) => HXL
      obtain ⟨ao, rfl⟩ : ∃ ao, ao = a' := ⟨_, rfl⟩
      obtain ⟨n, rfl⟩ : ∃ n, n = n' := ⟨_, rfl⟩
      obtain ⟨c, rfl⟩ : ∃ c, c = c' := ⟨_, rfl⟩
      go_upto_region 9 with (first | (go_at_call 88; refine (blocks_any _ 91 [93] _ (lit_ints _ [91, 93] (by simp)) (by simp)).mono ?_; rintro e yb ⟨vb, xb, rfl, hob, hmb, hbb⟩; (try dsimp only); obtain ⟨ab, nb, cb, eb⟩ := hob.form; subst eb; have HOB := hidIt hob; have HMB := hidIt (show xb.map Prod.fst = blkR 91 [91, 93] from hmb); have HBB := hidIt (ext_trans (ext_alloc (Below.refl _ _) _) hbb); clear hob hmb hbb) | (at_builtin; refine wpl_rows rfl _ _ rfl w.heap.size (.slice ao n c) xs rfl (HO.out.ext HBB.out) _ xb rfl HOB.out.rd (by have := HXL.out; have := congrArg List.length HMB.out; rw [List.length_map] at this; have e2 : (blkR 91 [91, 93]).length = 4 := rfl; omega) (by have := HB.out.size; have := HBB.out.size; omega) ?_; intro v' w' ho' hb'; obtain ⟨a', n', c', e'⟩ := ho'.form; subst e'; have HO' := hidIt ho'; have HB' := hidIt hb'; clear ho' hb'))
      have HM' : Hid ((xs ++ xb).map Prod.fst = tSix ++ quoR [34, 39, 96] ++ blkR 40 [40, 41, 98] ++ blkR 91 [91, 93]) := by unfold Hid; rw [List.map_append, HMB.out]; exact congrArg (· ++ _) HM.out
      have HB2 := hidIt (HB.out.trans ((HBB.out.mono HB.out.size).trans HB'.out))
      have HXL' := hidIt (show (xs ++ xb).length = 22 by have := congrArg List.length HM'.out; rw [List.length_map] at this; rw [this]; decide)
      clear HO HM HB HXL HMB HOB HBB HB'
      generalize xs ++ xb = xs at *
      rename Hid (OwnW _ _ _ _) => HO
      rename Hid (List.map _ _ = _) => HM
      rename Hid (Below _ _ _) => HB
      rename Hid (List.length _ = _) => HXL
      obtain ⟨ao, rfl⟩ : ∃ ao, ao = a' := ⟨_, rfl⟩
      obtain ⟨n, rfl⟩ : ∃ n, n = n' := ⟨_, rfl⟩
      obtain ⟨c, rfl⟩ : ∃ c, c = c' := ⟨_, rfl⟩
      go_upto_region 10 with (first | (go_at_call 88; refine (blocks_any _ 123 [125, 66] _ (lit_ints _ [123, 125, 66] (by simp)) (by simp)).mono ?_; rintro e yb ⟨vb, xb, rfl, hob, hmb, hbb⟩; (try dsimp only); obtain ⟨ab, nb, cb, eb⟩ := hob.form; subst eb; have HOB := hidIt hob; have HMB := hidIt (show xb.map Prod.fst = blkR 123 [123, 125, 66] from hmb); have HBB := hidIt (ext_trans (ext_alloc (Below.refl _ _) _) hbb); clear hob hmb hbb) | (at_builtin; refine wpl_rows rfl _ _ rfl w.heap.size (.slice ao n c) xs rfl (HO.out.ext HBB.out) _ xb rfl HOB.out.rd (by have := HXL.out; have := congrArg List.length HMB.out; rw [List.length_map] at this; have e2 : (blkR 123 [123, 125, 66]).length = 6 := rfl; omega) (by have := HB.out.size; have := HBB.out.size; omega) ?_; intro v' w' ho' hb'; obtain ⟨a', n', c', e'⟩ := ho'.form; subst e'; have HO' := hidIt ho'; have HB' := hidIt hb'; clear ho' hb'))
      have HM' : Hid ((xs ++ xb).map Prod.fst = tSix ++ quoR [34, 39, 96] ++ blkR 40 [40, 41, 98] ++ blkR 91 [91, 93] ++ blkR 123 [123, 125, 66]) := by unfold Hid; rw [List.map_append, HMB.out]; exact congrArg (· ++ _) HM.out
      have HB2 := hidIt (HB.out.trans ((HBB.out.mono HB.out.size).trans HB'.out))
      have HXL' := hidIt (show (xs ++ xb).length = 28 by have := congrArg List.length HM'.out; rw [List.length_map] at this; rw [this]; decide)
      clear HO HM HB HXL HMB HOB HBB HB'
      generalize xs ++ xb = xs at *
      rename Hid (OwnW _ _ _ _) => HO
      rename Hid (List.map _ _ = _) => HM
      rename Hid (Below _ _ _) => HB
      rename Hid (List.length _ = _) => HXL
      obtain ⟨ao, rfl⟩ : ∃ ao, ao = a' := ⟨_, rfl⟩
      obtain ⟨n, rfl⟩ : ∃ n, n = n' := ⟨_, rfl⟩
      obtain ⟨c, rfl⟩ : ∃ c, c = c' := ⟨_, rfl⟩
      go_wp2_with (first | (go_at_call 88; refine (blocks_any _ 60 [62] _ (lit_ints _ [60, 62] (by simp)) (by simp)).mono ?_; rintro e yb ⟨vb, xb, rfl, hob, hmb, hbb⟩; (try dsimp only); obtain ⟨ab, nb, cb, eb⟩ := hob.form; subst eb; have HOB := hidIt hob; have HMB := hidIt (show xb.map Prod.fst = blkR 60 [60, 62] from hmb); have HBB := hidIt (ext_trans (ext_alloc (Below.refl _ _) _) hbb); clear hob hmb hbb) | (at_builtin; refine wpl_rows rfl _ _ rfl w.heap.size (.slice ao n c) xs rfl (HO.out.ext HBB.out) _ xb rfl HOB.out.rd (by have := HXL.out; have := congrArg List.length HMB.out; rw [List.length_map] at this; have e2 : (blkR 60 [60, 62]).length = 4 := rfl; omega) (by have := HB.out.size; have := HBB.out.size; omega) ?_; intro v' w' ho' hb'; obtain ⟨a', n', c', e'⟩ := ho'.form; subst e'; have HO' := hidIt ho'; have HB' := hidIt hb'; clear ho' hb'))
      have HM' : Hid ((xs ++ xb).map Prod.fst = tSix ++ quoR [34, 39, 96] ++ blkR 40 [40, 41, 98] ++ blkR 91 [91, 93] ++ blkR 123 [123, 125, 66] ++ blkR 60 [60, 62]) := by unfold Hid; rw [List.map_append, HMB.out]; exact congrArg (· ++ _) HM.out
      have HB2 := hidIt (HB.out.trans ((HBB.out.mono HB.out.size).trans HB'.out))
      go_ret
      exact ⟨_, _, rfl, HO'.out, HM'.out, HB2.out⟩
end Go.Proofs.YtdbmgjkgfmdmjaaDoor
