import Derived.Test.YtfdceljdhgbkcaaGreatDoorJ07
import Derived.Test.YtfdceljdhgbkcaaGreatDoorJ08
/- objects. -/
namespace Go.Proofs.YtfdceljdhgbkcaaGreatDoor
open Go.RowKit
def quoR (ks : List Int) : List Rw := ks.flatMap fun k => [⟨⟨1, 65, k, 0⟩, [105, k]⟩, ⟨⟨1, 66, k, 0⟩, [97, k]⟩]
theorem quoR_succ (ks : List Int) (i : Nat) (h : i < ks.length) : quoR (ks.take (i + 1)) = quoR (ks.take i) ++ [⟨⟨1, 65, ks[i], 0⟩, [105, ks[i]]⟩, ⟨⟨1, 66, ks[i], 0⟩, [97, ks[i]]⟩] := by
  unfold quoR
  rw [List.take_succ_eq_append_getElem h, List.flatMap_append]
  rfl
def tSix : List Rw := [⟨⟨1, 61, 0, 0⟩, [105, 119]⟩, ⟨⟨1, 62, 0, 0⟩, [97, 119]⟩, ⟨⟨1, 63, 0, 0⟩, [105, 87]⟩, ⟨⟨1, 64, 0, 0⟩, [97, 87]⟩, ⟨⟨1, 69, 0, 0⟩, [105, 112]⟩, ⟨⟨1, 70, 0, 0⟩, [97, 112]⟩]
def tObj : List Rw := tSix ++ quoR [34, 39, 96] ++ blkR 40 [40, 41, 98] ++ blkR 91 [91, 93] ++ blkR 123 [123, 125, 66] ++ blkR 60 [60, 62]
theorem lit_ints (w : World) (ks : List Int) (hl : ks.length ≤ 100) : Rd .i64 (w.alloc (.cells (ks.map (Value.int .i64)).toArray 3)) (.slice (some ⟨w.heap.size, 0, none⟩) ks.length ks.length) ks := (ki_of ((AccB.nil w).push (Below.refl _ _)) (g := w.heap.size) (by simp) rfl hl).1.1
theorem own_move {W1 W2 : World} {base : Nat} {v : Value} {xs : List (Rw × Value)} (h : Hid (OwnW W1 base v xs)) (e : W1 = W2) : Hid (OwnW W2 base v xs) := e ▸ h
theorem own_pack {W : World} {base : Nat} {v : Value} {xs : List (Rw × Value)} {T : List Rw} (h : Hid (OwnW W base v xs)) (e : xs.map Prod.fst = T) : ∃ xs0, Hid (OwnW W base v xs0) ∧ Hid (xs0.map Prod.fst = T) := ⟨xs, h, e⟩
set_option maxRecDepth 100000 in
set_option maxHeartbeats 4000000 in
theorem objects_any (w : World) : Calls Tryz.prog 72 #[] w fun e w' => ∃ v xs, e = .returned v ∧ OwnW w' w.heap.size v xs ∧ Hid (xs.map Prod.fst = tObj) ∧ Below w.heap.size w w' := by
  have HA := hidIt (AccB.nil w)
  have HB := hidIt (Below.refl w.heap.size w)
  go_enter Tryz.func72, Tryz.ntmps72
  go_upto_region 2 with (first | (go_at_call 83; refine (moves_any _ _ _ _ _).mono ?_; rintro e y ⟨rfl, hb⟩; (try dsimp only); replace HA := hidIt (HA.out.push hb); replace HB := hidIt (ext_trans (ext_alloc HB.out _) hb); clear hb))
  have HO0 := hidIt ((OwnW.lit (xs := [(⟨⟨1, 61, 0, 0⟩, [105, 119]⟩, _), (⟨⟨1, 62, 0, 0⟩, [97, 119]⟩, _), (⟨⟨1, 63, 0, 0⟩, [105, 87]⟩, _), (⟨⟨1, 64, 0, 0⟩, [97, 87]⟩, _), (⟨⟨1, 69, 0, 0⟩, [105, 112]⟩, _), (⟨⟨1, 70, 0, 0⟩, [97, 112]⟩, _)]) _ rfl (acc_of HA.out _ (by simp) rfl) (by simp)).le HB.out.size)
  generalize hwz : World.alloc y _ = wz
  obtain ⟨xs0, HX0, HM0⟩ := own_pack (v := .slice (some ⟨y.heap.size, 0, none⟩) 6 6) (T := tSix) (own_move HO0 hwz) rfl
  have HBZ : Hid (Below w.heap.size w wz) := by unfold Hid; rw [← hwz]; exact ext_alloc HB.out _
  clear HO0 HA HB hwz
  generalize y.heap.size = g6 at *
  have hgl : (wz.alloc (.cells #[.int .i64 34, .int .i64 39, .int .i64 96] 3)).heap[wz.heap.size]? = some (.cells #[.int .i64 34, .int .i64 39, .int .i64 96] 3 (0, 0)) := heap_alloc_new _ _
  have HGL := hidIt hgl
  have HBQ := hidIt (ext_alloc HBZ.out (.cells #[.int .i64 34, .int .i64 39, .int .i64 96] 3))
  have HX1 := hidIt (HX0.out.ext (ext_alloc (Below.refl _ _) (.cells #[.int .i64 34, .int .i64 39, .int .i64 96] 3)))
  clear hgl HX0
  go_wp2
  generalize World.alloc wz _ = wq at *
  generalize wz.heap.size = gl at *
  go_loopw [1, 19] (fun v i wr => ∃ (p : Nat) (ao : Option Addr) (n c : Nat) (xs : List (Rw × Value)), p ≤ 3 ∧ i = .int .i64 p ∧ v = .slice ao n c ∧ Hid (OwnW wr w.heap.size (.slice ao n c) xs) ∧ Hid (xs.map Prod.fst = tSix ++ quoR ([34, 39, 96].take p)) ∧ Hid (wr.heap[gl]? = some (.cells #[.int .i64 34, .int .i64 39, .int .i64 96] 3 (0, 0))) ∧ Below w.heap.size w wr) (fun _ i _ => 3 - (RowKit.intOf i).toNat)
  case atStart => exact ⟨0, _, _, _, xs0, Nat.zero_le _, rfl, rfl, HX1.out, by unfold Hid; rw [HM0.out]; rfl, HGL.out, HBQ.out⟩
  case round =>
    obtain ⟨p, ao, n, c, xs, hp, rfl, rfl, HO, HM, HG, hbw⟩ := hrel
    by_cases hlt : p < 3
    · have c1 : wr.cell? ⟨gl, p, none⟩ = some (.int .i64 ([34, 39, 96] : List Int)[p]) := by
        rw [cell_of_row _ _ _ _ _ _ HG.out]
        obtain rfl | rfl | rfl : p = 0 ∨ p = 1 ∨ p = 2 := by omega
        · rfl
        · rfl
        · rfl
      have hi1 : (p : Int) < 3 := by omega
      have HM2 := hidIt (quoR_succ [34, 39, 96] p hlt)
      have HBW := hidIt hbw
      have HXL := hidIt (show xs.length ≤ 202 by
        have := congrArg List.length HM.out
        obtain rfl | rfl | rfl : p = 0 ∨ p = 1 ∨ p = 2 := by omega
        · rw [List.length_map] at this; rw [this]; decide
        · rw [List.length_map] at this; rw [this]; decide
        · rw [List.length_map] at this; rw [this]; decide)
      generalize ([34, 39, 96] : List Int)[p] = x at *
      have HB : Hid (Below wr.heap.size wr wr) := Below.refl _ _
      have HA : Hid (AccB wr []) := AccB.nil _
      clear hbw
      go_wp2_with (first | (go_at_call 83; refine (moves_any _ _ _ _ _).mono ?_; rintro e y ⟨rfl, hb⟩; (try dsimp only); replace HA := hidIt (HA.out.push hb); replace HB := hidIt (ext_trans (ext_alloc HB.out _) hb); clear hb) | (go_at_call 87; refine (with_any _ _ _ _ _ _ _ _ _).mono ?_; rintro e y ⟨rfl, hb⟩; (try dsimp only); replace HA := hidIt (HA.out.ext hb); replace HB := hidIt (ext_trans HB.out hb); clear hb) | (at_builtin; refine wpl_rowsG rfl _ _ rfl w.heap.size (.slice ao n c) xs rfl ((HO.out.ext HB.out).ext (ext_alloc (Below.refl _ _) _)) _ [(⟨⟨1, 65, x, 0⟩, [105, x]⟩, _), (⟨⟨1, 66, x, 0⟩, [97, x]⟩, _)] rfl (OwnW.lit _ rfl (acc2 HA.out (by simp) (by simp) rfl rfl) (by simp)).rd (by have := HXL.out; simp only [List.length_cons, List.length_nil]; omega) (by have := HB.out.size; have := HBW.out.size; rw [World.size_alloc]; omega) ?_; intro v' w' ho' hb' hk'; obtain ⟨a', n', c', e'⟩ := ho'.form; subst e'; have HO' := hidIt ho'; have HB' := hidIt hb'; have HGL' := hidIt (hk' gl _ ((((ext_alloc HB.out _).block gl (Array.getElem?_eq_some_iff.1 HG.out).1)).trans HG.out)); clear ho' hb' hk'))
      go_roundw
      case rel => exact ⟨p + 1, _, _, _, _, by omega, by go_num, rfl, HO'.out, by unfold Hid; rw [List.map_append, HM.out, HM2.out, List.append_assoc]; rfl, HGL'.out, HBW.out.trans ((HB.out.mono HBW.out.size).trans (((Below.refl _ _).alloc (by have := HB.out.size; have := HBW.out.size; omega) _).trans HB'.out))⟩
      case measure => simp [RowKit.intOf]; omega
    · obtain rfl : p = 3 := by omega
      have HB := hidIt hbw
      clear hbw hp hlt HG HX1 HGL HBQ
      have HXL := hidIt (show xs.length = 12 by have := congrArg List.length HM.out; rw [List.length_map] at this; rw [this]; decide)
      go_upto_region 8 with (first | (go_at_call 88; refine (blocks_any _ 40 [41, 98] _ (lit_ints _ [40, 41, 98] (by simp)) (by simp)).mono ?_; rintro e yb ⟨vb, xb, rfl, hob, hmb, hbb⟩; (try dsimp only); obtain ⟨ab, nb, cb, eb⟩ := hob.form; subst eb; have HOB := hidIt hob; have HMB := hidIt (show xb.map Prod.fst = blkR 40 [40, 41, 98] from hmb); have HBB := hidIt (ext_trans (ext_alloc (Below.refl _ _) _) hbb); clear hob hmb hbb) | (at_builtin; refine wpl_rows rfl _ _ rfl w.heap.size (.slice ao n c) xs rfl (HO.out.ext HBB.out) _ xb rfl HOB.out.rd (by have := HXL.out; have := congrArg List.length HMB.out; rw [List.length_map] at this; have e2 : (blkR 40 [40, 41, 98]).length = 6 := rfl; omega) (by have := HB.out.size; have := HBB.out.size; omega) ?_; intro v' w' ho' hb'; obtain ⟨a', n', c', e'⟩ := ho'.form; subst e'; have HO' := hidIt ho'; have HB' := hidIt hb'; clear ho' hb'))
      have HM' : Hid ((xs ++ xb).map Prod.fst = tSix ++ quoR [34, 39, 96] ++ blkR 40 [40, 41, 98]) := by unfold Hid; rw [List.map_append, HMB.out]; exact congrArg (· ++ _) HM.out
      have HB2 := hidIt (HB.out.trans ((HBB.out.mono HB.out.size).trans HB'.out))
      have HXL' := hidIt (show (xs ++ xb).length = 18 by have := congrArg List.length HM'.out; rw [List.length_map] at this; rw [this]; decide)
      clear HO HM HB HXL HMB HOB HBB HB'
      generalize xs ++ xb = xs at *
      rename Hid (OwnW _ _ _ _) => HO
      rename Hid (List.map _ _ = _) => HM
      rename Hid (Below _ _ _) => HB
      rename Hid (List.length _ = _) => HXL
      obtain ⟨ao, rfl⟩ : ∃ ao, ao = a' := ⟨_, rfl⟩
      obtain ⟨n, rfl⟩ : ∃ n, n = n' := ⟨_, rfl⟩
      obtain ⟨c, rfl⟩ : ∃ c, c = c' := ⟨_, rfl⟩
      go_upto_region 9 with (first | (go_at_call 88; refine (blocks_any _ 91 [93] _ (lit_ints _ [91, 93] (by simp)) (by simp)).mono ?_; rintro e yb ⟨vb, xb, rfl, hob, hmb, hbb⟩; (try dsimp only); obtain ⟨ab, nb, cb, eb⟩ := hob.form; subst eb; have HOB := hidIt hob; have HMB := hidIt (show xb.map Prod.fst = blkR 91 [91, 93] from hmb); have HBB := hidIt (ext_trans (ext_alloc (Below.refl _ _) _) hbb); clear hob hmb hbb) | (at_builtin; refine wpl_rows rfl _ _ rfl w.heap.size (.slice ao n c) xs rfl (HO.out.ext HBB.out) _ xb rfl HOB.out.rd (by have := HXL.out; have := congrArg List.length HMB.out; rw [List.length_map] at this; have e2 : (blkR 91 [91, 93]).length = 4 := rfl; omega) (by have := HB.out.size; have := HBB.out.size; omega) ?_; intro v' w' ho' hb'; obtain ⟨a', n', c', e'⟩ := ho'.form; subst e'; have HO' := hidIt ho'; have HB' := hidIt hb'; clear ho' hb'))
      have HM' : Hid ((xs ++ xb).map Prod.fst = tSix ++ quoR [34, 39, 96] ++ blkR 40 [40, 41, 98] ++ blkR 91 [91, 93]) := by unfold Hid; rw [List.map_append, HMB.out]; exact congrArg (· ++ _) HM.out
      have HB2 := hidIt (HB.out.trans ((HBB.out.mono HB.out.size).trans HB'.out))
      have HXL' := hidIt (show (xs ++ xb).length = 22 by have := congrArg List.length HM'.out; rw [List.length_map] at this; rw [this]; decide)
      clear HO HM HB HXL HMB HOB HBB HB'
      generalize xs ++ xb = xs at *
      rename Hid (OwnW _ _ _ _) => HO
      rename Hid (List.map _ _ = _) => HM
      rename Hid (Below _ _ _) => HB
      rename Hid (List.length _ = _) => HXL
      obtain ⟨ao, rfl⟩ : ∃ ao, ao = a' := ⟨_, rfl⟩
      obtain ⟨n, rfl⟩ : ∃ n, n = n' := ⟨_, rfl⟩
      obtain ⟨c, rfl⟩ : ∃ c, c = c' := ⟨_, rfl⟩
      go_upto_region 10 with (first | (go_at_call 88; refine (blocks_any _ 123 [125, 66] _ (lit_ints _ [123, 125, 66] (by simp)) (by simp)).mono ?_; rintro e yb ⟨vb, xb, rfl, hob, hmb, hbb⟩; (try dsimp only); obtain ⟨ab, nb, cb, eb⟩ := hob.form; subst eb; have HOB := hidIt hob; have HMB := hidIt (show xb.map Prod.fst = blkR 123 [123, 125, 66] from hmb); have HBB := hidIt (ext_trans (ext_alloc (Below.refl _ _) _) hbb); clear hob hmb hbb) | (at_builtin; refine wpl_rows rfl _ _ rfl w.heap.size (.slice ao n c) xs rfl (HO.out.ext HBB.out) _ xb rfl HOB.out.rd (by have := HXL.out; have := congrArg List.length HMB.out; rw [List.length_map] at this; have e2 : (blkR 123 [123, 125, 66]).length = 6 := rfl; omega) (by have := HB.out.size; have := HBB.out.size; omega) ?_; intro v' w' ho' hb'; obtain ⟨a', n', c', e'⟩ := ho'.form; subst e'; have HO' := hidIt ho'; have HB' := hidIt hb'; clear ho' hb'))
      have HM' : Hid ((xs ++ xb).map Prod.fst = tSix ++ quoR [34, 39, 96] ++ blkR 40 [40, 41, 98] ++ blkR 91 [91, 93] ++ blkR 123 [123, 125, 66]) := by unfold Hid; rw [List.map_append, HMB.out]; exact congrArg (· ++ _) HM.out
      have HB2 := hidIt (HB.out.trans ((HBB.out.mono HB.out.size).trans HB'.out))
      have HXL' := hidIt (show (xs ++ xb).length = 28 by have := congrArg List.length HM'.out; rw [List.length_map] at this; rw [this]; decide)
      clear HO HM HB HXL HMB HOB HBB HB'
      generalize xs ++ xb = xs at *
      rename Hid (OwnW _ _ _ _) => HO
      rename Hid (List.map _ _ = _) => HM
      rename Hid (Below _ _ _) => HB
      rename Hid (List.length _ = _) => HXL
      obtain ⟨ao, rfl⟩ : ∃ ao, ao = a' := ⟨_, rfl⟩
      obtain ⟨n, rfl⟩ : ∃ n, n = n' := ⟨_, rfl⟩
      obtain ⟨c, rfl⟩ : ∃ c, c = c' := ⟨_, rfl⟩
      go_wp2_with (first | (go_at_call 88; refine (blocks_any _ 60 [62] _ (lit_ints _ [60, 62] (by simp)) (by simp)).mono ?_; rintro e yb ⟨vb, xb, rfl, hob, hmb, hbb⟩; (try dsimp only); obtain ⟨ab, nb, cb, eb⟩ := hob.form; subst eb; have HOB := hidIt hob; have HMB := hidIt (show xb.map Prod.fst = blkR 60 [60, 62] from hmb); have HBB := hidIt (ext_trans (ext_alloc (Below.refl _ _) _) hbb); clear hob hmb hbb) | (at_builtin; refine wpl_rows rfl _ _ rfl w.heap.size (.slice ao n c) xs rfl (HO.out.ext HBB.out) _ xb rfl HOB.out.rd (by have := HXL.out; have := congrArg List.length HMB.out; rw [List.length_map] at this; have e2 : (blkR 60 [60, 62]).length = 4 := rfl; omega) (by have := HB.out.size; have := HBB.out.size; omega) ?_; intro v' w' ho' hb'; obtain ⟨a', n', c', e'⟩ := ho'.form; subst e'; have HO' := hidIt ho'; have HB' := hidIt hb'; clear ho' hb'))
      have HM' : Hid ((xs ++ xb).map Prod.fst = tSix ++ quoR [34, 39, 96] ++ blkR 40 [40, 41, 98] ++ blkR 91 [91, 93] ++ blkR 123 [123, 125, 66] ++ blkR 60 [60, 62]) := by unfold Hid; rw [List.map_append, HMB.out]; exact congrArg (· ++ _) HM.out
      have HB2 := hidIt (HB.out.trans ((HBB.out.mono HB.out.size).trans HB'.out))
      go_ret
      exact ⟨_, _, rfl, HO'.out, HM'.out, HB2.out⟩
end Go.Proofs.YtfdceljdhgbkcaaGreatDoor

/- The table motions. -/
namespace Go.Proofs.YtfdceljdhgbkcaaGreatDoor
open Go.RowKit
/-- The rows of a table, with the blocks of their keys. -/
def xsOf (T : List Rw) (l : List (Nat × Array Value)) : List (Rw × Value) := (T.zip l.reverse).map fun x => (x.1, .slice (some ⟨x.2.1, 0, none⟩) x.2.2.size x.2.2.size)
/-- A list of many rows, written out. -/
theorem wpl_lit {d : Nat} {W : World} {ops : Array Oper} {rest : List Oper} {o : Oper} {a : Act} {Q : Exit → Act → World → Prop} {l : List (Nat × Array Value)} (_ : o.dst = some d) (hgd : o.guard = none) (_ : AccB W l) (T : List Rw) (n : Nat)
    (hr : (execOp a.eval o).run Tryz.prog W = .ok (.value (.slice (some ⟨W.heap.size, 0, none⟩) n n)) (W.alloc (.cells (fr (xsOf T l)).toArray 64)))
    (h : wpList Tryz.prog ops Q rest (a.put o.dst (.slice (some ⟨W.heap.size, 0, none⟩) n n)) (W.alloc (.cells (fr (xsOf T l)).toArray 64))) : wpList Tryz.prog ops Q (o :: rest) a W :=
  wpList_plain hgd fun K hK => by unfold Oper.wp; rw [hr]; exact hK _ _ h
def tMot : List Rw := [
  ⟨⟨1, 1, 0, 0⟩, [104]⟩, ⟨⟨1, 1, 0, 0⟩, [8]⟩, ⟨⟨1, 2, 0, 0⟩, [108]⟩, ⟨⟨1, 2, 0, 0⟩, [32]⟩, ⟨⟨1, 3, 0, 0⟩, [48]⟩, ⟨⟨1, 4, 0, 0⟩, [94]⟩, ⟨⟨1, 5, 0, 0⟩, [36]⟩, ⟨⟨1, 6, 0, 0⟩, [124]⟩, ⟨⟨1, 11, 0, 0⟩, [106]⟩, ⟨⟨1, 12, 0, 0⟩, [107]⟩, ⟨⟨1, 13, 0, 0⟩, [43]⟩, ⟨⟨1, 13, 0, 0⟩, [13]⟩, ⟨⟨1, 14, 0, 0⟩, [45]⟩, ⟨⟨1, 15, 0, 0⟩, [95]⟩, ⟨⟨1, 16, 0, 0⟩, [71]⟩, ⟨⟨1, 17, 0, 0⟩, [103, 103]⟩, ⟨⟨1, 21, 0, 0⟩, [119]⟩, ⟨⟨1, 25, 0, 0⟩, [87]⟩, ⟨⟨1, 22, 0, 0⟩, [98]⟩, ⟨⟨1, 26, 0, 0⟩, [66]⟩, ⟨⟨1, 23, 0, 0⟩, [101]⟩, ⟨⟨1, 27, 0, 0⟩, [69]⟩, ⟨⟨1, 24, 0, 0⟩, [103, 101]⟩, ⟨⟨1, 28, 0, 0⟩, [103, 69]⟩, ⟨⟨1, 31, 0, 0⟩, [125]⟩, ⟨⟨1, 32, 0, 0⟩, [123]⟩, ⟨⟨1, 41, 0, 0⟩, [59]⟩, ⟨⟨1, 42, 0, 0⟩, [44]⟩, ⟨⟨1, 43, 0, 0⟩, [47]⟩, ⟨⟨1, 44, 0, 0⟩, [63]⟩, ⟨⟨1, 45, 0, 0⟩, [110]⟩, ⟨⟨1, 46, 0, 0⟩, [78]⟩, ⟨⟨1, 47, 0, 0⟩, [42]⟩, ⟨⟨1, 48, 0, 0⟩, [35]⟩, ⟨⟨1, 51, 0, 0⟩, [72]⟩, ⟨⟨1, 52, 0, 0⟩, [77]⟩, ⟨⟨1, 53, 0, 0⟩, [76]⟩, ⟨⟨1, 33, 0, 0⟩, [37]⟩, ⟨⟨1, 7, 0, 1⟩, [102]⟩, ⟨⟨1, 8, 0, 1⟩, [70]⟩, ⟨⟨1, 9, 0, 1⟩, [116]⟩, ⟨⟨1, 10, 0, 1⟩, [84]⟩, ⟨⟨1, 49, 0, 1⟩, [96]⟩, ⟨⟨1, 50, 0, 1⟩, [39]⟩]
set_option maxRecDepth 100000 in
set_option maxHeartbeats 4000000 in
theorem motions_any (w : World) : Calls Tryz.prog 68 #[] w fun e w' => ∃ v xs, e = .returned v ∧ OwnW w' w.heap.size v xs ∧ Hid (xs.map Prod.fst = tMot) ∧ Below w.heap.size w w' := by
  have HA := hidIt (AccB.nil w)
  have HB := hidIt (Below.refl w.heap.size w)
  go_enter Tryz.func68, Tryz.ntmps68
  go_wp2_with (first | (go_at_call 83; refine (moves_any _ _ _ _ _).mono ?_; rintro e y ⟨rfl, hb⟩; (try dsimp only); replace HA := hidIt (HA.out.push hb); replace HB := hidIt (ext_trans (ext_alloc HB.out _) hb); clear hb) | (go_at_call 85; refine (does_any _ _ _ _ _).mono ?_; rintro e y ⟨rfl, hb⟩; (try dsimp only); replace HA := hidIt (HA.out.push hb); replace HB := hidIt (ext_trans (ext_alloc HB.out _) hb); clear hb) | (go_at_call 86; refine (takes_any _ _ _ _ _ _).mono ?_; rintro e y ⟨rfl, hb⟩; (try dsimp only); replace HA := hidIt (HA.out.push hb); replace HB := hidIt (ext_trans (ext_alloc HB.out _) hb); clear hb) | (go_at_call 84; refine (before_any _ _ _ _ _ _ _ _ _).mono ?_; rintro e y ⟨rfl, hb⟩; (try dsimp only); replace HA := hidIt (HA.out.ext hb); replace HB := hidIt (ext_trans HB.out hb); clear hb) | (refine wpl_lit (d := 95) rfl rfl HA.out tMot 44 (by kernel_rfl) ?_))
  go_ret
  refine ⟨_, xsOf tMot _, rfl, (OwnW.lit _ rfl (acc_of HA.out _ (by simp) (by kernel_rfl)) (by show 44 ≤ 1000; omega)).le HB.out.size, by unfold Hid; kernel_rfl, ext_alloc HB.out _⟩
end Go.Proofs.YtfdceljdhgbkcaaGreatDoor

/- The table operators. -/
namespace Go.Proofs.YtfdceljdhgbkcaaGreatDoor
open Go.RowKit
def tOps : List Rw := [
  ⟨⟨2, 0, 0, 2⟩, [100]⟩, ⟨⟨3, 0, 0, 2⟩, [99]⟩, ⟨⟨4, 0, 0, 2⟩, [121]⟩, ⟨⟨8, 0, 0, 2⟩, [62]⟩, ⟨⟨9, 0, 0, 2⟩, [60]⟩, ⟨⟨5, 0, 0, 2⟩, [103, 85]⟩, ⟨⟨6, 0, 0, 2⟩, [103, 117]⟩, ⟨⟨7, 0, 0, 2⟩, [103, 126]⟩]
set_option maxRecDepth 100000 in
set_option maxHeartbeats 4000000 in
theorem operators_any (w : World) : Calls Tryz.prog 69 #[] w fun e w' => ∃ v xs, e = .returned v ∧ OwnW w' w.heap.size v xs ∧ Hid (xs.map Prod.fst = tOps) ∧ Below w.heap.size w w' := by
  have HA := hidIt (AccB.nil w)
  have HB := hidIt (Below.refl w.heap.size w)
  go_enter Tryz.func69, Tryz.ntmps69
  go_wp2_with (first | (go_at_call 83; refine (moves_any _ _ _ _ _).mono ?_; rintro e y ⟨rfl, hb⟩; (try dsimp only); replace HA := hidIt (HA.out.push hb); replace HB := hidIt (ext_trans (ext_alloc HB.out _) hb); clear hb) | (go_at_call 85; refine (does_any _ _ _ _ _).mono ?_; rintro e y ⟨rfl, hb⟩; (try dsimp only); replace HA := hidIt (HA.out.push hb); replace HB := hidIt (ext_trans (ext_alloc HB.out _) hb); clear hb) | (go_at_call 86; refine (takes_any _ _ _ _ _ _).mono ?_; rintro e y ⟨rfl, hb⟩; (try dsimp only); replace HA := hidIt (HA.out.push hb); replace HB := hidIt (ext_trans (ext_alloc HB.out _) hb); clear hb) | (go_at_call 84; refine (before_any _ _ _ _ _ _ _ _ _).mono ?_; rintro e y ⟨rfl, hb⟩; (try dsimp only); replace HA := hidIt (HA.out.ext hb); replace HB := hidIt (ext_trans HB.out hb); clear hb))
  go_ret
  refine ⟨_, [(⟨⟨2, 0, 0, 2⟩, [100]⟩, _),
      (⟨⟨3, 0, 0, 2⟩, [99]⟩, _),
      (⟨⟨4, 0, 0, 2⟩, [121]⟩, _),
      (⟨⟨8, 0, 0, 2⟩, [62]⟩, _),
      (⟨⟨9, 0, 0, 2⟩, [60]⟩, _),
      (⟨⟨5, 0, 0, 2⟩, [103, 85]⟩, _),
      (⟨⟨6, 0, 0, 2⟩, [103, 117]⟩, _),
      (⟨⟨7, 0, 0, 2⟩, [103, 126]⟩, _)], rfl, (OwnW.lit _ rfl (acc_of HA.out _ (by simp) rfl) (by simp)).le HB.out.size, rfl, ext_alloc HB.out _⟩
end Go.Proofs.YtfdceljdhgbkcaaGreatDoor

/- The table doubles. -/
namespace Go.Proofs.YtfdceljdhgbkcaaGreatDoor
open Go.RowKit
def tDbl : List Rw := [
  ⟨⟨2, 60, 0, 0⟩, [100]⟩, ⟨⟨3, 60, 0, 0⟩, [99]⟩, ⟨⟨4, 60, 0, 0⟩, [121]⟩, ⟨⟨8, 60, 0, 0⟩, [62]⟩, ⟨⟨9, 60, 0, 0⟩, [60]⟩, ⟨⟨5, 60, 0, 0⟩, [85]⟩, ⟨⟨5, 60, 0, 0⟩, [103, 85]⟩, ⟨⟨6, 60, 0, 0⟩, [117]⟩, ⟨⟨6, 60, 0, 0⟩, [103, 117]⟩, ⟨⟨7, 60, 0, 0⟩, [126]⟩, ⟨⟨7, 60, 0, 0⟩, [103, 126]⟩]
set_option maxRecDepth 100000 in
set_option maxHeartbeats 4000000 in
theorem doubles_any (w : World) : Calls Tryz.prog 79 #[] w fun e w' => ∃ v xs, e = .returned v ∧ OwnW w' w.heap.size v xs ∧ Hid (xs.map Prod.fst = tDbl) ∧ Below w.heap.size w w' := by
  have HA := hidIt (AccB.nil w)
  have HB := hidIt (Below.refl w.heap.size w)
  go_enter Tryz.func79, Tryz.ntmps79
  go_wp2_with (first | (go_at_call 83; refine (moves_any _ _ _ _ _).mono ?_; rintro e y ⟨rfl, hb⟩; (try dsimp only); replace HA := hidIt (HA.out.push hb); replace HB := hidIt (ext_trans (ext_alloc HB.out _) hb); clear hb) | (go_at_call 85; refine (does_any _ _ _ _ _).mono ?_; rintro e y ⟨rfl, hb⟩; (try dsimp only); replace HA := hidIt (HA.out.push hb); replace HB := hidIt (ext_trans (ext_alloc HB.out _) hb); clear hb) | (go_at_call 86; refine (takes_any _ _ _ _ _ _).mono ?_; rintro e y ⟨rfl, hb⟩; (try dsimp only); replace HA := hidIt (HA.out.push hb); replace HB := hidIt (ext_trans (ext_alloc HB.out _) hb); clear hb) | (go_at_call 84; refine (before_any _ _ _ _ _ _ _ _ _).mono ?_; rintro e y ⟨rfl, hb⟩; (try dsimp only); replace HA := hidIt (HA.out.ext hb); replace HB := hidIt (ext_trans HB.out hb); clear hb))
  go_ret
  refine ⟨_, [(⟨⟨2, 60, 0, 0⟩, [100]⟩, _),
      (⟨⟨3, 60, 0, 0⟩, [99]⟩, _),
      (⟨⟨4, 60, 0, 0⟩, [121]⟩, _),
      (⟨⟨8, 60, 0, 0⟩, [62]⟩, _),
      (⟨⟨9, 60, 0, 0⟩, [60]⟩, _),
      (⟨⟨5, 60, 0, 0⟩, [85]⟩, _),
      (⟨⟨5, 60, 0, 0⟩, [103, 85]⟩, _),
      (⟨⟨6, 60, 0, 0⟩, [117]⟩, _),
      (⟨⟨6, 60, 0, 0⟩, [103, 117]⟩, _),
      (⟨⟨7, 60, 0, 0⟩, [126]⟩, _),
      (⟨⟨7, 60, 0, 0⟩, [103, 126]⟩, _)], rfl, (OwnW.lit _ rfl (acc_of HA.out _ (by simp) rfl) (by simp)).le HB.out.size, rfl, ext_alloc HB.out _⟩
end Go.Proofs.YtfdceljdhgbkcaaGreatDoor

/- The table edits. -/
namespace Go.Proofs.YtfdceljdhgbkcaaGreatDoor
open Go.RowKit
def tEdt : List Rw := [
  ⟨⟨2, 2, 0, 0⟩, [120]⟩, ⟨⟨2, 1, 0, 0⟩, [88]⟩, ⟨⟨2, 5, 0, 0⟩, [68]⟩, ⟨⟨3, 2, 0, 0⟩, [115]⟩, ⟨⟨3, 60, 0, 0⟩, [83]⟩, ⟨⟨3, 5, 0, 0⟩, [67]⟩, ⟨⟨4, 60, 0, 0⟩, [89]⟩, ⟨⟨10, 0, 0, 0⟩, [105]⟩, ⟨⟨12, 0, 0, 0⟩, [73]⟩, ⟨⟨11, 0, 0, 0⟩, [97]⟩, ⟨⟨13, 0, 0, 0⟩, [65]⟩, ⟨⟨14, 0, 0, 0⟩, [111]⟩, ⟨⟨15, 0, 0, 0⟩, [79]⟩, ⟨⟨17, 0, 0, 0⟩, [82]⟩, ⟨⟨22, 0, 0, 0⟩, [126]⟩, ⟨⟨23, 0, 0, 0⟩, [117]⟩, ⟨⟨24, 0, 0, 0⟩, [18]⟩, ⟨⟨25, 0, 0, 0⟩, [46]⟩, ⟨⟨43, 0, 0, 0⟩, [38]⟩, ⟨⟨44, 0, 0, 0⟩, [103, 118]⟩, ⟨⟨41, 0, 0, 0⟩, [90, 90]⟩, ⟨⟨42, 0, 0, 0⟩, [90, 81]⟩]
set_option maxRecDepth 100000 in
set_option maxHeartbeats 4000000 in
theorem edits_any (w : World) : Calls Tryz.prog 70 #[] w fun e w' => ∃ v xs, e = .returned v ∧ OwnW w' w.heap.size v xs ∧ Hid (xs.map Prod.fst = tEdt) ∧ Below w.heap.size w w' := by
  have HA := hidIt (AccB.nil w)
  have HB := hidIt (Below.refl w.heap.size w)
  go_enter Tryz.func70, Tryz.ntmps70
  go_wp2_with (first | (go_at_call 83; refine (moves_any _ _ _ _ _).mono ?_; rintro e y ⟨rfl, hb⟩; (try dsimp only); replace HA := hidIt (HA.out.push hb); replace HB := hidIt (ext_trans (ext_alloc HB.out _) hb); clear hb) | (go_at_call 85; refine (does_any _ _ _ _ _).mono ?_; rintro e y ⟨rfl, hb⟩; (try dsimp only); replace HA := hidIt (HA.out.push hb); replace HB := hidIt (ext_trans (ext_alloc HB.out _) hb); clear hb) | (go_at_call 86; refine (takes_any _ _ _ _ _ _).mono ?_; rintro e y ⟨rfl, hb⟩; (try dsimp only); replace HA := hidIt (HA.out.push hb); replace HB := hidIt (ext_trans (ext_alloc HB.out _) hb); clear hb) | (go_at_call 84; refine (before_any _ _ _ _ _ _ _ _ _).mono ?_; rintro e y ⟨rfl, hb⟩; (try dsimp only); replace HA := hidIt (HA.out.ext hb); replace HB := hidIt (ext_trans HB.out hb); clear hb))
  go_ret
  refine ⟨_, [(⟨⟨2, 2, 0, 0⟩, [120]⟩, _),
      (⟨⟨2, 1, 0, 0⟩, [88]⟩, _),
      (⟨⟨2, 5, 0, 0⟩, [68]⟩, _),
      (⟨⟨3, 2, 0, 0⟩, [115]⟩, _),
      (⟨⟨3, 60, 0, 0⟩, [83]⟩, _),
      (⟨⟨3, 5, 0, 0⟩, [67]⟩, _),
      (⟨⟨4, 60, 0, 0⟩, [89]⟩, _),
      (⟨⟨10, 0, 0, 0⟩, [105]⟩, _),
      (⟨⟨12, 0, 0, 0⟩, [73]⟩, _),
      (⟨⟨11, 0, 0, 0⟩, [97]⟩, _),
      (⟨⟨13, 0, 0, 0⟩, [65]⟩, _),
      (⟨⟨14, 0, 0, 0⟩, [111]⟩, _),
      (⟨⟨15, 0, 0, 0⟩, [79]⟩, _),
      (⟨⟨17, 0, 0, 0⟩, [82]⟩, _),
      (⟨⟨22, 0, 0, 0⟩, [126]⟩, _),
      (⟨⟨23, 0, 0, 0⟩, [117]⟩, _),
      (⟨⟨24, 0, 0, 0⟩, [18]⟩, _),
      (⟨⟨25, 0, 0, 0⟩, [46]⟩, _),
      (⟨⟨43, 0, 0, 0⟩, [38]⟩, _),
      (⟨⟨44, 0, 0, 0⟩, [103, 118]⟩, _),
      (⟨⟨41, 0, 0, 0⟩, [90, 90]⟩, _),
      (⟨⟨42, 0, 0, 0⟩, [90, 81]⟩, _)], rfl, (OwnW.lit _ rfl (acc_of HA.out _ (by simp) rfl) (by simp)).le HB.out.size, rfl, ext_alloc HB.out _⟩
end Go.Proofs.YtfdceljdhgbkcaaGreatDoor

/- The table onSelection. -/
namespace Go.Proofs.YtfdceljdhgbkcaaGreatDoor
open Go.RowKit
def tSel : List Rw := [
  ⟨⟨2, 0, 0, 0⟩, [100]⟩, ⟨⟨2, 0, 0, 0⟩, [120]⟩, ⟨⟨3, 0, 0, 0⟩, [99]⟩, ⟨⟨3, 0, 0, 0⟩, [115]⟩, ⟨⟨4, 0, 0, 0⟩, [121]⟩, ⟨⟨8, 0, 0, 0⟩, [62]⟩, ⟨⟨9, 0, 0, 0⟩, [60]⟩, ⟨⟨5, 0, 0, 0⟩, [85]⟩, ⟨⟨5, 0, 0, 0⟩, [103, 85]⟩, ⟨⟨6, 0, 0, 0⟩, [117]⟩, ⟨⟨6, 0, 0, 0⟩, [103, 117]⟩, ⟨⟨7, 0, 0, 0⟩, [126]⟩, ⟨⟨7, 0, 0, 0⟩, [103, 126]⟩, ⟨⟨45, 0, 0, 0⟩, [111]⟩]
set_option maxRecDepth 100000 in
set_option maxHeartbeats 4000000 in
theorem onSelection_any (w : World) : Calls Tryz.prog 73 #[] w fun e w' => ∃ v xs, e = .returned v ∧ OwnW w' w.heap.size v xs ∧ Hid (xs.map Prod.fst = tSel) ∧ Below w.heap.size w w' := by
  have HA := hidIt (AccB.nil w)
  have HB := hidIt (Below.refl w.heap.size w)
  go_enter Tryz.func73, Tryz.ntmps73
  go_wp2_with (first | (go_at_call 83; refine (moves_any _ _ _ _ _).mono ?_; rintro e y ⟨rfl, hb⟩; (try dsimp only); replace HA := hidIt (HA.out.push hb); replace HB := hidIt (ext_trans (ext_alloc HB.out _) hb); clear hb) | (go_at_call 85; refine (does_any _ _ _ _ _).mono ?_; rintro e y ⟨rfl, hb⟩; (try dsimp only); replace HA := hidIt (HA.out.push hb); replace HB := hidIt (ext_trans (ext_alloc HB.out _) hb); clear hb) | (go_at_call 86; refine (takes_any _ _ _ _ _ _).mono ?_; rintro e y ⟨rfl, hb⟩; (try dsimp only); replace HA := hidIt (HA.out.push hb); replace HB := hidIt (ext_trans (ext_alloc HB.out _) hb); clear hb) | (go_at_call 84; refine (before_any _ _ _ _ _ _ _ _ _).mono ?_; rintro e y ⟨rfl, hb⟩; (try dsimp only); replace HA := hidIt (HA.out.ext hb); replace HB := hidIt (ext_trans HB.out hb); clear hb))
  go_ret
  refine ⟨_, [(⟨⟨2, 0, 0, 0⟩, [100]⟩, _),
      (⟨⟨2, 0, 0, 0⟩, [120]⟩, _),
      (⟨⟨3, 0, 0, 0⟩, [99]⟩, _),
      (⟨⟨3, 0, 0, 0⟩, [115]⟩, _),
      (⟨⟨4, 0, 0, 0⟩, [121]⟩, _),
      (⟨⟨8, 0, 0, 0⟩, [62]⟩, _),
      (⟨⟨9, 0, 0, 0⟩, [60]⟩, _),
      (⟨⟨5, 0, 0, 0⟩, [85]⟩, _),
      (⟨⟨5, 0, 0, 0⟩, [103, 85]⟩, _),
      (⟨⟨6, 0, 0, 0⟩, [117]⟩, _),
      (⟨⟨6, 0, 0, 0⟩, [103, 117]⟩, _),
      (⟨⟨7, 0, 0, 0⟩, [126]⟩, _),
      (⟨⟨7, 0, 0, 0⟩, [103, 126]⟩, _),
      (⟨⟨45, 0, 0, 0⟩, [111]⟩, _)], rfl, (OwnW.lit _ rfl (acc_of HA.out _ (by simp) rfl) (by simp)).le HB.out.size, rfl, ext_alloc HB.out _⟩
end Go.Proofs.YtfdceljdhgbkcaaGreatDoor
