import Derived.Test.YtfdceljdhgbkcaaGreatDoorJ02
import Derived.Test.YtfdceljdhgbkcaaGreatDoorJ00
import Derived.Test.YtfdceljdhgbkcaaGreatDoorJ09
import Derived.Test.YtfdceljdhgbkcaaGreatDoorJ07
/- The table shared. -/
namespace Go.Proofs.YtfdceljdhgbkcaaGreatDoor
open Go.RowKit
def tShr : List Rw := [
  ⟨⟨18, 0, 0, 0⟩, [112]⟩, ⟨⟨19, 0, 0, 0⟩, [80]⟩, ⟨⟨20, 0, 0, 0⟩, [74]⟩, ⟨⟨21, 0, 0, 0⟩, [103, 74]⟩, ⟨⟨26, 0, 0, 0⟩, [118]⟩, ⟨⟨27, 0, 0, 0⟩, [86]⟩, ⟨⟨31, 0, 0, 0⟩, [58]⟩, ⟨⟨38, 0, 0, 0⟩, [122, 116]⟩, ⟨⟨39, 0, 0, 0⟩, [122, 122]⟩, ⟨⟨40, 0, 0, 0⟩, [122, 98]⟩, ⟨⟨32, 0, 0, 0⟩, [6]⟩, ⟨⟨33, 0, 0, 0⟩, [2]⟩, ⟨⟨34, 0, 0, 0⟩, [4]⟩, ⟨⟨35, 0, 0, 0⟩, [21]⟩, ⟨⟨36, 0, 0, 0⟩, [5]⟩, ⟨⟨37, 0, 0, 0⟩, [25]⟩, ⟨⟨16, 0, 0, 1⟩, [114]⟩, ⟨⟨28, 0, 0, 1⟩, [113]⟩, ⟨⟨29, 0, 0, 1⟩, [64]⟩, ⟨⟨30, 0, 0, 1⟩, [109]⟩]
set_option maxRecDepth 100000 in
set_option maxHeartbeats 4000000 in
theorem shared_any (w : World) : Calls Tryz.prog 71 #[] w fun e w' => ∃ v xs, e = .returned v ∧ OwnW w' w.heap.size v xs ∧ Hid (xs.map Prod.fst = tShr) ∧ Below w.heap.size w w' := by
  have HA := hidIt (AccB.nil w)
  have HB := hidIt (Below.refl w.heap.size w)
  go_enter Tryz.func71, Tryz.ntmps71
  go_wp2_with (first | (go_at_call 83; refine (moves_any _ _ _ _ _).mono ?_; rintro e y ⟨rfl, hb⟩; (try dsimp only); replace HA := hidIt (HA.out.push hb); replace HB := hidIt (ext_trans (ext_alloc HB.out _) hb); clear hb) | (go_at_call 85; refine (does_any _ _ _ _ _).mono ?_; rintro e y ⟨rfl, hb⟩; (try dsimp only); replace HA := hidIt (HA.out.push hb); replace HB := hidIt (ext_trans (ext_alloc HB.out _) hb); clear hb) | (go_at_call 86; refine (takes_any _ _ _ _ _ _).mono ?_; rintro e y ⟨rfl, hb⟩; (try dsimp only); replace HA := hidIt (HA.out.push hb); replace HB := hidIt (ext_trans (ext_alloc HB.out _) hb); clear hb) | (go_at_call 84; refine (before_any _ _ _ _ _ _ _ _ _).mono ?_; rintro e y ⟨rfl, hb⟩; (try dsimp only); replace HA := hidIt (HA.out.ext hb); replace HB := hidIt (ext_trans HB.out hb); clear hb))
  go_ret
  refine ⟨_, [(⟨⟨18, 0, 0, 0⟩, [112]⟩, _),
      (⟨⟨19, 0, 0, 0⟩, [80]⟩, _),
      (⟨⟨20, 0, 0, 0⟩, [74]⟩, _),
      (⟨⟨21, 0, 0, 0⟩, [103, 74]⟩, _),
      (⟨⟨26, 0, 0, 0⟩, [118]⟩, _),
      (⟨⟨27, 0, 0, 0⟩, [86]⟩, _),
      (⟨⟨31, 0, 0, 0⟩, [58]⟩, _),
      (⟨⟨38, 0, 0, 0⟩, [122, 116]⟩, _),
      (⟨⟨39, 0, 0, 0⟩, [122, 122]⟩, _),
      (⟨⟨40, 0, 0, 0⟩, [122, 98]⟩, _),
      (⟨⟨32, 0, 0, 0⟩, [6]⟩, _),
      (⟨⟨33, 0, 0, 0⟩, [2]⟩, _),
      (⟨⟨34, 0, 0, 0⟩, [4]⟩, _),
      (⟨⟨35, 0, 0, 0⟩, [21]⟩, _),
      (⟨⟨36, 0, 0, 0⟩, [5]⟩, _),
      (⟨⟨37, 0, 0, 0⟩, [25]⟩, _),
      (⟨⟨16, 0, 0, 1⟩, [114]⟩, _),
      (⟨⟨28, 0, 0, 1⟩, [113]⟩, _),
      (⟨⟨29, 0, 0, 1⟩, [64]⟩, _),
      (⟨⟨30, 0, 0, 1⟩, [109]⟩, _)], rfl, (OwnW.lit _ rfl (acc_of HA.out _ (by simp) rfl) (by simp)).le HB.out.size, rfl, ext_alloc HB.out _⟩
end Go.Proofs.YtfdceljdhgbkcaaGreatDoor

/- The rows of a mode, and those behind an operator. -/
namespace Go.Proofs.YtfdceljdhgbkcaaGreatDoor
open Go.RowKit
def tNor : List Rw := tMot ++ (tOps ++ (tEdt ++ (tShr ++ [])))
def tSln : List Rw := tMot ++ (tObj ++ (tSel ++ (tShr ++ [])))
def tTar : List Rw := tMot ++ (tObj ++ (tDbl ++ []))
set_option maxRecDepth 100000 in
set_option maxHeartbeats 4000000 in
theorem normalRows_any (w : World) : Calls Tryz.prog 49 #[] w fun e w' => ∃ v xs, e = .returned v ∧ OwnW w' w.heap.size v xs ∧ Hid (xs.map Prod.fst = tNor) ∧ Below w.heap.size w w' := by
  go_enter Tryz.func49, Tryz.ntmps49
  go_wp2_with (first | (go_at_call 68; refine (motions_any _).mono ?_; rintro e y1 ⟨v1, x1, rfl, ho1, hm1, hb1⟩; (try dsimp only); obtain ⟨a1, n1, c1, e1⟩ := ho1.form; subst e1; have HO1 := hidIt ho1.rd; have HM1 := hidIt (show x1.map Prod.fst = tMot from hm1); have HB1 := hidIt hb1; clear ho1 hm1 hb1) | (go_at_call 69; refine (operators_any _).mono ?_; rintro e y2 ⟨v2, x2, rfl, ho2, hm2, hb2⟩; (try dsimp only); obtain ⟨a2, n2, c2, e2⟩ := ho2.form; subst e2; have HO2 := hidIt ho2.rd; have HM2 := hidIt (show x2.map Prod.fst = tOps from hm2); have HB2 := hidIt hb2; clear ho2 hm2 hb2) | (go_at_call 70; refine (edits_any _).mono ?_; rintro e y3 ⟨v3, x3, rfl, ho3, hm3, hb3⟩; (try dsimp only); obtain ⟨a3, n3, c3, e3⟩ := ho3.form; subst e3; have HO3 := hidIt ho3.rd; have HM3 := hidIt (show x3.map Prod.fst = tEdt from hm3); have HB3 := hidIt hb3; clear ho3 hm3 hb3) | (go_at_call 71; refine (shared_any _).mono ?_; rintro e y4 ⟨v4, x4, rfl, ho4, hm4, hb4⟩; (try dsimp only); obtain ⟨a4, n4, c4, e4⟩ := ho4.form; subst e4; have HO4 := hidIt ho4.rd; have HM4 := hidIt (show x4.map Prod.fst = tShr from hm4); have HB4 := hidIt hb4; clear ho4 hm4 hb4) | (go_at_call 67; refine (concatR_any y4.heap.size [(.slice a1 n1 c1, x1), (.slice a2 n2 c2, x2), (.slice a3 n3 c3, x3), (.slice a4 n4 c4, x4)] (y4.alloc (.cells #[.slice a1 n1 c1, .slice a2 n2 c2, .slice a3 n3 c3, .slice a4 n4 c4] 58)) ?rw (by simp) ?ps ?bd).mono ?_; rotate_left 3; rintro e z ⟨vz, rfl, hoz, hbz⟩; (try dsimp only); obtain ⟨az, nz, cz, ez⟩ := hoz.form; subst ez; have HOZ := hidIt hoz; have HBZ := hidIt hbz; clear hoz hbz))
  case rw =>
    refine ⟨by rw [World.size_alloc]; omega, fun i p hp => ?_⟩
    have hc : ∀ j u, (#[.slice a1 n1 c1, .slice a2 n2 c2, .slice a3 n3 c3, .slice a4 n4 c4] : Array Value)[j]? = some u → (y4.alloc (.cells #[.slice a1 n1 c1, .slice a2 n2 c2, .slice a3 n3 c3, .slice a4 n4 c4] 58)).cell? ⟨y4.heap.size, j, none⟩ = some u := fun j u hj => by rw [cell_of_row _ _ _ _ _ _ (heap_alloc_new _ _)]; exact hj
    match i, hp with
    | 0, hp => simp only [List.getElem?_cons_zero, Option.some.injEq] at hp; subst hp; exact ⟨hc 0 _ rfl, (((HO1.out.ext HB2.out).ext HB3.out).ext HB4.out).ext (ext_alloc (Below.refl _ _) _)⟩
    | 1, hp => simp only [List.getElem?_cons_zero, List.getElem?_cons_succ, Option.some.injEq] at hp; subst hp; exact ⟨hc 1 _ rfl, ((HO2.out.ext HB3.out).ext HB4.out).ext (ext_alloc (Below.refl _ _) _)⟩
    | 2, hp => simp only [List.getElem?_cons_zero, List.getElem?_cons_succ, Option.some.injEq] at hp; subst hp; exact ⟨hc 2 _ rfl, (HO3.out.ext HB4.out).ext (ext_alloc (Below.refl _ _) _)⟩
    | 3, hp => simp only [List.getElem?_cons_zero, List.getElem?_cons_succ, Option.some.injEq] at hp; subst hp; exact ⟨hc 3 _ rfl, HO4.out.ext (ext_alloc (Below.refl _ _) _)⟩
    | i + 4, hp => simp at hp
  case ps =>
    have := congrArg List.length HM1.out
    rw [List.length_map] at this
    have e : (tMot).length = 44 := rfl
    show 0 < (x1 ++ (x2 ++ (x3 ++ (x4 ++ [])))).length
    rw [List.length_append]
    omega
  case bd =>
    have E : (catW [(.slice a1 n1 c1, x1), (.slice a2 n2 c2, x2), (.slice a3 n3 c3, x3), (.slice a4 n4 c4, x4)]).length = (tNor).length := by
      show (x1 ++ (x2 ++ (x3 ++ (x4 ++ [])))).length = _
      have := congrArg List.length (show (x1 ++ (x2 ++ (x3 ++ (x4 ++ [])))).map Prod.fst = tNor by simp only [List.map_append, HM1.out, HM2.out, HM3.out, HM4.out]; rfl)
      rwa [List.length_map] at this
    rw [E]
    decide
  go_ret
  refine ⟨_, _, rfl, HOZ.out.le ?_, ?_, ?_⟩
  · have := (ext_trans (ext_trans (ext_trans HB1.out HB2.out) HB3.out) HB4.out).size; rw [World.size_alloc]; omega
  · show (x1 ++ (x2 ++ (x3 ++ (x4 ++ [])))).map Prod.fst = tNor
    simp only [List.map_append, HM1.out, HM2.out, HM3.out, HM4.out]
    rfl
  · exact ext_trans (ext_alloc (ext_trans (ext_trans (ext_trans HB1.out HB2.out) HB3.out) HB4.out) _) HBZ.out
set_option maxRecDepth 100000 in
set_option maxHeartbeats 4000000 in
theorem selectionRows_any (w : World) : Calls Tryz.prog 50 #[] w fun e w' => ∃ v xs, e = .returned v ∧ OwnW w' w.heap.size v xs ∧ Hid (xs.map Prod.fst = tSln) ∧ Below w.heap.size w w' := by
  go_enter Tryz.func50, Tryz.ntmps50
  go_wp2_with (first | (go_at_call 68; refine (motions_any _).mono ?_; rintro e y1 ⟨v1, x1, rfl, ho1, hm1, hb1⟩; (try dsimp only); obtain ⟨a1, n1, c1, e1⟩ := ho1.form; subst e1; have HO1 := hidIt ho1.rd; have HM1 := hidIt (show x1.map Prod.fst = tMot from hm1); have HB1 := hidIt hb1; clear ho1 hm1 hb1) | (go_at_call 72; refine (objects_any _).mono ?_; rintro e y2 ⟨v2, x2, rfl, ho2, hm2, hb2⟩; (try dsimp only); obtain ⟨a2, n2, c2, e2⟩ := ho2.form; subst e2; have HO2 := hidIt ho2.rd; have HM2 := hidIt (show x2.map Prod.fst = tObj from hm2); have HB2 := hidIt hb2; clear ho2 hm2 hb2) | (go_at_call 73; refine (onSelection_any _).mono ?_; rintro e y3 ⟨v3, x3, rfl, ho3, hm3, hb3⟩; (try dsimp only); obtain ⟨a3, n3, c3, e3⟩ := ho3.form; subst e3; have HO3 := hidIt ho3.rd; have HM3 := hidIt (show x3.map Prod.fst = tSel from hm3); have HB3 := hidIt hb3; clear ho3 hm3 hb3) | (go_at_call 71; refine (shared_any _).mono ?_; rintro e y4 ⟨v4, x4, rfl, ho4, hm4, hb4⟩; (try dsimp only); obtain ⟨a4, n4, c4, e4⟩ := ho4.form; subst e4; have HO4 := hidIt ho4.rd; have HM4 := hidIt (show x4.map Prod.fst = tShr from hm4); have HB4 := hidIt hb4; clear ho4 hm4 hb4) | (go_at_call 67; refine (concatR_any y4.heap.size [(.slice a1 n1 c1, x1), (.slice a2 n2 c2, x2), (.slice a3 n3 c3, x3), (.slice a4 n4 c4, x4)] (y4.alloc (.cells #[.slice a1 n1 c1, .slice a2 n2 c2, .slice a3 n3 c3, .slice a4 n4 c4] 58)) ?rw (by simp) ?ps ?bd).mono ?_; rotate_left 3; rintro e z ⟨vz, rfl, hoz, hbz⟩; (try dsimp only); obtain ⟨az, nz, cz, ez⟩ := hoz.form; subst ez; have HOZ := hidIt hoz; have HBZ := hidIt hbz; clear hoz hbz))
  case rw =>
    refine ⟨by rw [World.size_alloc]; omega, fun i p hp => ?_⟩
    have hc : ∀ j u, (#[.slice a1 n1 c1, .slice a2 n2 c2, .slice a3 n3 c3, .slice a4 n4 c4] : Array Value)[j]? = some u → (y4.alloc (.cells #[.slice a1 n1 c1, .slice a2 n2 c2, .slice a3 n3 c3, .slice a4 n4 c4] 58)).cell? ⟨y4.heap.size, j, none⟩ = some u := fun j u hj => by rw [cell_of_row _ _ _ _ _ _ (heap_alloc_new _ _)]; exact hj
    match i, hp with
    | 0, hp => simp only [List.getElem?_cons_zero, Option.some.injEq] at hp; subst hp; exact ⟨hc 0 _ rfl, (((HO1.out.ext HB2.out).ext HB3.out).ext HB4.out).ext (ext_alloc (Below.refl _ _) _)⟩
    | 1, hp => simp only [List.getElem?_cons_zero, List.getElem?_cons_succ, Option.some.injEq] at hp; subst hp; exact ⟨hc 1 _ rfl, ((HO2.out.ext HB3.out).ext HB4.out).ext (ext_alloc (Below.refl _ _) _)⟩
    | 2, hp => simp only [List.getElem?_cons_zero, List.getElem?_cons_succ, Option.some.injEq] at hp; subst hp; exact ⟨hc 2 _ rfl, (HO3.out.ext HB4.out).ext (ext_alloc (Below.refl _ _) _)⟩
    | 3, hp => simp only [List.getElem?_cons_zero, List.getElem?_cons_succ, Option.some.injEq] at hp; subst hp; exact ⟨hc 3 _ rfl, HO4.out.ext (ext_alloc (Below.refl _ _) _)⟩
    | i + 4, hp => simp at hp
  case ps =>
    have := congrArg List.length HM1.out
    rw [List.length_map] at this
    have e : (tMot).length = 44 := rfl
    show 0 < (x1 ++ (x2 ++ (x3 ++ (x4 ++ [])))).length
    rw [List.length_append]
    omega
  case bd =>
    have E : (catW [(.slice a1 n1 c1, x1), (.slice a2 n2 c2, x2), (.slice a3 n3 c3, x3), (.slice a4 n4 c4, x4)]).length = (tSln).length := by
      show (x1 ++ (x2 ++ (x3 ++ (x4 ++ [])))).length = _
      have := congrArg List.length (show (x1 ++ (x2 ++ (x3 ++ (x4 ++ [])))).map Prod.fst = tSln by simp only [List.map_append, HM1.out, HM2.out, HM3.out, HM4.out]; rfl)
      rwa [List.length_map] at this
    rw [E]
    decide
  go_ret
  refine ⟨_, _, rfl, HOZ.out.le ?_, ?_, ?_⟩
  · have := (ext_trans (ext_trans (ext_trans HB1.out HB2.out) HB3.out) HB4.out).size; rw [World.size_alloc]; omega
  · show (x1 ++ (x2 ++ (x3 ++ (x4 ++ [])))).map Prod.fst = tSln
    simp only [List.map_append, HM1.out, HM2.out, HM3.out, HM4.out]
    rfl
  · exact ext_trans (ext_alloc (ext_trans (ext_trans (ext_trans HB1.out HB2.out) HB3.out) HB4.out) _) HBZ.out
set_option maxRecDepth 100000 in
set_option maxHeartbeats 4000000 in
theorem targetRows_any (w : World) : Calls Tryz.prog 62 #[] w fun e w' => ∃ v xs, e = .returned v ∧ OwnW w' w.heap.size v xs ∧ Hid (xs.map Prod.fst = tTar) ∧ Below w.heap.size w w' := by
  go_enter Tryz.func62, Tryz.ntmps62
  go_wp2_with (first | (go_at_call 68; refine (motions_any _).mono ?_; rintro e y1 ⟨v1, x1, rfl, ho1, hm1, hb1⟩; (try dsimp only); obtain ⟨a1, n1, c1, e1⟩ := ho1.form; subst e1; have HO1 := hidIt ho1.rd; have HM1 := hidIt (show x1.map Prod.fst = tMot from hm1); have HB1 := hidIt hb1; clear ho1 hm1 hb1) | (go_at_call 72; refine (objects_any _).mono ?_; rintro e y2 ⟨v2, x2, rfl, ho2, hm2, hb2⟩; (try dsimp only); obtain ⟨a2, n2, c2, e2⟩ := ho2.form; subst e2; have HO2 := hidIt ho2.rd; have HM2 := hidIt (show x2.map Prod.fst = tObj from hm2); have HB2 := hidIt hb2; clear ho2 hm2 hb2) | (go_at_call 79; refine (doubles_any _).mono ?_; rintro e y3 ⟨v3, x3, rfl, ho3, hm3, hb3⟩; (try dsimp only); obtain ⟨a3, n3, c3, e3⟩ := ho3.form; subst e3; have HO3 := hidIt ho3.rd; have HM3 := hidIt (show x3.map Prod.fst = tDbl from hm3); have HB3 := hidIt hb3; clear ho3 hm3 hb3) | (go_at_call 67; refine (concatR_any y3.heap.size [(.slice a1 n1 c1, x1), (.slice a2 n2 c2, x2), (.slice a3 n3 c3, x3)] (y3.alloc (.cells #[.slice a1 n1 c1, .slice a2 n2 c2, .slice a3 n3 c3] 58)) ?rw (by simp) ?ps ?bd).mono ?_; rotate_left 3; rintro e z ⟨vz, rfl, hoz, hbz⟩; (try dsimp only); obtain ⟨az, nz, cz, ez⟩ := hoz.form; subst ez; have HOZ := hidIt hoz; have HBZ := hidIt hbz; clear hoz hbz))
  case rw =>
    refine ⟨by rw [World.size_alloc]; omega, fun i p hp => ?_⟩
    have hc : ∀ j u, (#[.slice a1 n1 c1, .slice a2 n2 c2, .slice a3 n3 c3] : Array Value)[j]? = some u → (y3.alloc (.cells #[.slice a1 n1 c1, .slice a2 n2 c2, .slice a3 n3 c3] 58)).cell? ⟨y3.heap.size, j, none⟩ = some u := fun j u hj => by rw [cell_of_row _ _ _ _ _ _ (heap_alloc_new _ _)]; exact hj
    match i, hp with
    | 0, hp => simp only [List.getElem?_cons_zero, Option.some.injEq] at hp; subst hp; exact ⟨hc 0 _ rfl, ((HO1.out.ext HB2.out).ext HB3.out).ext (ext_alloc (Below.refl _ _) _)⟩
    | 1, hp => simp only [List.getElem?_cons_zero, List.getElem?_cons_succ, Option.some.injEq] at hp; subst hp; exact ⟨hc 1 _ rfl, (HO2.out.ext HB3.out).ext (ext_alloc (Below.refl _ _) _)⟩
    | 2, hp => simp only [List.getElem?_cons_zero, List.getElem?_cons_succ, Option.some.injEq] at hp; subst hp; exact ⟨hc 2 _ rfl, HO3.out.ext (ext_alloc (Below.refl _ _) _)⟩
    | i + 3, hp => simp at hp
  case ps =>
    have := congrArg List.length HM1.out
    rw [List.length_map] at this
    have e : (tMot).length = 44 := rfl
    show 0 < (x1 ++ (x2 ++ (x3 ++ []))).length
    rw [List.length_append]
    omega
  case bd =>
    have E : (catW [(.slice a1 n1 c1, x1), (.slice a2 n2 c2, x2), (.slice a3 n3 c3, x3)]).length = (tTar).length := by
      show (x1 ++ (x2 ++ (x3 ++ []))).length = _
      have := congrArg List.length (show (x1 ++ (x2 ++ (x3 ++ []))).map Prod.fst = tTar by simp only [List.map_append, HM1.out, HM2.out, HM3.out]; rfl)
      rwa [List.length_map] at this
    rw [E]
    decide
  go_ret
  refine ⟨_, _, rfl, HOZ.out.le ?_, ?_, ?_⟩
  · have := (ext_trans (ext_trans HB1.out HB2.out) HB3.out).size; rw [World.size_alloc]; omega
  · show (x1 ++ (x2 ++ (x3 ++ []))).map Prod.fst = tTar
    simp only [List.map_append, HM1.out, HM2.out, HM3.out]
    rfl
  · exact ext_trans (ext_alloc (ext_trans (ext_trans HB1.out HB2.out) HB3.out) _) HBZ.out
end Go.Proofs.YtfdceljdhgbkcaaGreatDoor

/- append onto a slice of the call's own: where the result lies: in the old block, or in the newest one. -/
namespace Go.Proofs.YtfdceljdhgbkcaaGreatDoor
open Go.RowKit
section
variable {P : Program} (w : World)

theorem run_append_blk (base : Nat) (t ty e : TypeId) (i : TypeInfo) (z : Value) (size bytes : Nat) (ht : P.underlying t = some (.slice e)) (hi : P.info? e = some i) (hz : i.zero = some z)
    (hsize : i.size = size) (hby : i.bytes = bytes) (hzs : z.cells.size = size) (hsz : 0 < size)
    (v : Value) (n : Nat) (xs : List Value) (hown : w.ownsRow base e size v n xs)
    (a : Addr) (m c : Nat) (news : List Value) (hl : news.length = m * size) (hnews : ∀ j u, news[j]? = some u → w.cell? (a.add j) = some u) (h1 : ∀ u ∈ news, u.oneCell' = true)
    (h63 : n + m ≤ maxLen) (hbytes : (n + m) * bytes ≤ 140737488355328) (hbase : base ≤ w.heap.size) (hm : 0 < m) :
    ∃ v' w', (Builtin.append_ #[t, t] ty #[v, .slice (some a) m c]).run P w = .ok v' w' ∧ w'.ownsRow base e size v' (n + m) (xs ++ news) ∧ w.grownBy w' v.ownBlock ∧
      (v'.ownBlock = v.ownBlock ∨ v'.ownBlock = some w.heap.size) := by
  obtain ⟨v', w', hr, h2, h3, _⟩ := run_append_own (P := P) w base t ty e i z size bytes ht hi hz hsize hby hzs hsz v n xs hown a m c news hl hnews h1 h63 hbytes hbase
  refine ⟨v', w', hr, h2, h3, ?_⟩
  subst hsize
  subst hby
  have hsmall : n + m ≤ 9223372036854775807 := by simp only [maxLen] at h63; omega
  rcases hown.2 with ⟨rfl, rfl⟩ | ⟨g, cap, cur, rfl, hbg, hg, hnc, hcm, hcs, htake⟩
  · have h := run_append_nil (P := P) w t ty e i z ht hi hz a m c news hl hnews hm (by omega) (by simp only [Nat.zero_add] at hbytes; omega)
    rw [h] at hr
    cases hr
    exact .inr rfl
  · by_cases hroom : n + m ≤ cap
    · have hfit : n * i.size + news.length ≤ cur.size := by rw [hl, hcs, ← Nat.add_mul]; exact Nat.mul_le_mul_right _ hroom
      have h := run_append_room (P := P) w t ty e i ht hi g n cap cur hg a m c news hl hnews h1 hroom hfit
      rw [h] at hr
      cases hr
      exact .inl rfl
    · have holds : ∀ j u, xs[j]? = some u → w.cell? ((⟨g, 0, none⟩ : Addr).add j) = some u := hown.cells (g := g) rfl
      have h := run_append_grow (P := P) w t ty e i z ht hi hz ⟨g, 0, none⟩ n cap xs hown.1 holds a m c news hl hnews (by omega) (by omega) (growslice_fits (by omega) hbytes)
      rw [h] at hr
      cases hr
      exact .inr rfl

theorem wpList_append_blk {ops : Array Oper} {rest : List Oper} {o : Oper} {a : Act} {Q : Exit → Act → World → Prop} (hgd : o.guard = none) (s x : Operand) (t : TypeId)
    (ho : o.op = .call { callee := .builtin .append, args := #[s, x], argTypes := #[t, t] })
    (base : Nat) (e : TypeId) (i : TypeInfo) (z : Value) (size bytes : Nat) (ht : P.underlying t = some (.slice e)) (hi : P.info? e = some i) (hz : i.zero = some z)
    (hsize : i.size = size) (hby : i.bytes = bytes) (hzs : z.cells.size = size) (hsz : 0 < size)
    (v : Value) (n : Nat) (xs : List Value) (hs : a.eval s = v) (hown : w.ownsRow base e size v n xs)
    (ad : Addr) (m c : Nat) (news : List Value) (hx : a.eval x = .slice (some ad) m c) (hl : news.length = m * size) (hnews : ∀ j u, news[j]? = some u → w.cell? (ad.add j) = some u) (h1 : ∀ u ∈ news, u.oneCell' = true)
    (h63 : n + m ≤ maxLen) (hbytes : (n + m) * bytes ≤ 140737488355328) (hbase : base ≤ w.heap.size) (hm : 0 < m)
    (h : ∀ v' w', w'.ownsRow base e size v' (n + m) (xs ++ news) → w.grownBy w' v.ownBlock → (v'.ownBlock = v.ownBlock ∨ v'.ownBlock = some w.heap.size) → wpList P ops Q rest (a.put o.dst v') w') : wpList P ops Q (o :: rest) a w :=
  wpList_plain hgd fun K hK => by
    obtain ⟨v', w', hr, h2, h3, h4⟩ := run_append_blk (P := P) w base t o.type e i z size bytes ht hi hz hsize hby hzs hsz v n xs hown ad m c news hl hnews h1 h63 hbytes hbase hm
    unfold Oper.wp execOp
    simp only [ho, resolve, invoke, builtin, Sem.run_bind, Sem.run_pure, Result.andThen_ok, List.map_toArray, List.map_cons, List.map_nil, hs, hx, hr]
    exact hK _ _ (h v' w' h2 h3 h4)
end
end Go.Proofs.YtfdceljdhgbkcaaGreatDoor

/- One place more, a place written; a round of Put, at keys.binding. -/
namespace Go.Proofs.YtfdceljdhgbkcaaGreatDoor
open Go.RowKit

theorem mk_oneB (w : World) : (Instr.makeSlice 46 (.int .i64 1) (.int .i64 1)).run Tryz.prog w = .ok (.slice (some ⟨w.heap.size, 0, none⟩) 1 1) (w.alloc (.cells #[.int .i64 0, .int .i64 0, .int .i64 0, .int .i64 0, .bool false] 125)) := by kernel_rfl
theorem Tryz.info_plB : (Tryz.prog.info? 125).map (fun i => (i.zero, i.size, i.bytes)) = some (some (.agg #[.int .i64 0, .int .i64 0, .int .i64 0, .int .i64 0, .bool false]), 5, 40) := by kernel_rfl
section
variable {W : World} {ops : Array Oper} {rest : List Oper} {o : Oper} {a : Act} {Q : Exit → Act → World → Prop}
/-- append(l, a place without a value). -/
theorem wpl_plB (hgd : o.guard = none) (s x : Operand) (ho : o.op = .call { callee := .builtin .append, args := #[s, x], argTypes := #[46, 46] })
    (g n c : Nat) (vs : List (Option Bd)) (hs : a.eval s = .slice (some ⟨g, 0, none⟩) n c) (hown : PlB W (.slice (some ⟨g, 0, none⟩) n c) vs) (h' : Nat) (hx : a.eval x = .slice (some ⟨h', 0, none⟩) 1 1)
    (hc : W.heap[h']? = some (.cells #[.int .i64 0, .int .i64 0, .int .i64 0, .int .i64 0, .bool false] 125 (0, 0))) (hl : (vs.length + 1) * 40 ≤ 140737488355328)
    (h : ∀ g' c' w', PlB w' (.slice (some ⟨g', 0, none⟩) (n + 1) c') (vs ++ [none]) → W.grownBy w' (some g) → (g' = g ∨ g' = W.heap.size) → wpList Tryz.prog ops Q rest (a.put o.dst (.slice (some ⟨g', 0, none⟩) (n + 1) c')) w') : wpList Tryz.prog ops Q (o :: rest) a W := by
  obtain ⟨i0, hi, hz0, hz1, hz2⟩ := info_parts Tryz.info_plB
  have hn := hown.blk.1
  subst hn
  refine wpList_append_blk W hgd s x 46 ho 0 125 i0 (.agg #[.int .i64 0, .int .i64 0, .int .i64 0, .int .i64 0, .bool false]) 5 40 Tryz.underlying46 hi hz0 hz1 hz2 rfl (by decide) (.slice (some ⟨g, 0, none⟩) vs.length c) vs.length (flB vs) hs hown ⟨h', 0, none⟩ 1 1 (pcB none) hx rfl (fun j u hj => ?_) (fun u hu => flB_one [none] u (by simpa [flB] using hu)) (by unfold maxLen; omega) (by omega) (Nat.zero_le _) (by decide) ?_
  · rw [Addr.add_lit, cell_of_row W h' _ _ _ (0, 0) hc, Nat.zero_add]
    simpa [pcB] using hj
  intro v' w' k1 k2 k3
  have hp : w'.ownsRow 0 125 5 v' (vs ++ [none]).length (flB (vs ++ [none])) := by
    rw [flB_app, List.length_append]
    simpa [flB] using k1
  rcases k1.2 with ⟨_, e⟩ | ⟨g', cap, cur', rfl, _, hg', _⟩
  · omega
  · refine h g' cap w' ?_ k2 ?_
    · unfold PlB
      simpa using hp
    · rcases k3 with k3 | k3
      · left; simpa [Value.ownBlock] using k3
      · right; simpa [Value.ownBlock] using k3
end
/-- A row that holds these cells. -/
theorem PlB.of {w : World} {g c : Nat} {cur : Array Value} {xs : List (Option Bd)} (hg : w.heap[g]? = some (.cells cur 125 (0, 0))) (hs : cur.size = c * 5) (hl : xs.length ≤ c) (hc : c ≤ 9223372036854775807) (ht : cur.toList.take (xs.length * 5) = flB xs) : PlB w (.slice (some ⟨g, 0, none⟩) xs.length c) xs :=
  ⟨flB_len xs, .inr ⟨g, c, cur, rfl, Nat.zero_le _, hg, hl, by unfold maxLen; exact hc, hs, ht⟩⟩
theorem PlB.cap {w : World} {g n c : Nat} {xs : List (Option Bd)} (h : PlB w (.slice (some ⟨g, 0, none⟩) n c) xs) : c ≤ 9223372036854775807 := by
  rcases h.2 with ⟨e, _⟩ | ⟨q, cap, cur, hv, hq, hg, hn, hc, _⟩
  · cases e
  · cases hv
    unfold maxLen at hc
    exact hc
/-- A place's value is written. -/
theorem PlB.set {w : World} {g n c : Nat} {xs : List (Option Bd)} (h : PlB w (.slice (some ⟨g, 0, none⟩) n c) xs) (q : Nat) (hq : q < xs.length) (v : Bd) :
    PlB (((((w.setCell ⟨g, q * 5, none⟩ (.int .i64 v.v)).setCell ⟨g, q * 5 + 1, none⟩ (.int .i64 v.m)).setCell ⟨g, q * 5 + 2, none⟩ (.int .i64 v.a)).setCell ⟨g, q * 5 + 3, none⟩ (.int .i64 v.t)).setCell ⟨g, q * 5 + 4, none⟩ (.bool true)) (.slice (some ⟨g, 0, none⟩) n c) (xs.set q (some v)) ∧ w.grownBy (((((w.setCell ⟨g, q * 5, none⟩ (.int .i64 v.v)).setCell ⟨g, q * 5 + 1, none⟩ (.int .i64 v.m)).setCell ⟨g, q * 5 + 2, none⟩ (.int .i64 v.a)).setCell ⟨g, q * 5 + 3, none⟩ (.int .i64 v.t)).setCell ⟨g, q * 5 + 4, none⟩ (.bool true)) (some g) := by
  have hcap := h.cap
  obtain ⟨rfl, cur, hg, hs, hl, ht⟩ := h.blk
  obtain ⟨h1, g1⟩ := set1 hg (q * 5) (.int .i64 v.v)
  obtain ⟨h2, g2⟩ := set1 h1 (q * 5 + 1) (.int .i64 v.m)
  obtain ⟨h3, g3⟩ := set1 h2 (q * 5 + 2) (.int .i64 v.a)
  obtain ⟨h4, g4⟩ := set1 h3 (q * 5 + 3) (.int .i64 v.t)
  obtain ⟨h5, g5⟩ := set1 h4 (q * 5 + 4) (.bool true)
  refine ⟨?_, (grown_trans (grown_trans (grown_trans (grown_trans g1 g2) g3) g4) g5)⟩
  have := PlB.of (xs := xs.set q (some v)) h5 (c := c) (by simpa using hs) (by simpa using hl) hcap ?_
  · simpa using this
  · have hqk : q * 5 + 5 ≤ xs.length * 5 := by rw [← Nat.succ_mul]; exact Nat.mul_le_mul_right _ hq
    have hlk : xs.length * 5 ≤ c * 5 := Nat.mul_le_mul_right _ hl
    apply List.ext_getElem?
    intro j
    rw [flB_set _ _ _ hq, ← ht, List.length_set]
    by_cases hj : j < xs.length * 5
    · rw [List.getElem?_take, if_pos hj, List.getElem?_take, if_pos hj]
      by_cases hc : q * 5 ≤ j ∧ j < q * 5 + 5
      · rw [if_pos hc]
        obtain ⟨r, hr, rfl⟩ : ∃ r, r < 5 ∧ j = q * 5 + r := ⟨j - q * 5, by omega, by omega⟩
        have e : q * 5 + r - q * 5 = r := by omega
        rw [e]
        have hsz : q * 5 + r < cur.size := by omega
        clear h ht hc e hj hqk hlk
        obtain rfl | rfl | rfl | rfl | rfl : r = 0 ∨ r = 1 ∨ r = 2 ∨ r = 3 ∨ r = 4 := by omega
        · simp only [Nat.add_zero, Array.toList_setIfInBounds] at hsz ⊢
          rw [List.getElem?_set_ne (by omega)]
          rw [List.getElem?_set_ne (by omega)]
          rw [List.getElem?_set_ne (by omega)]
          rw [List.getElem?_set_ne (by omega)]
          rw [List.getElem?_set_self (by simpa using hsz)]
          rfl
        · simp only [Array.toList_setIfInBounds] at hsz ⊢
          rw [List.getElem?_set_ne (by omega)]
          rw [List.getElem?_set_ne (by omega)]
          rw [List.getElem?_set_ne (by omega)]
          rw [List.getElem?_set_self (by simpa using hsz)]
          rfl
        · simp only [Array.toList_setIfInBounds] at hsz ⊢
          rw [List.getElem?_set_ne (by omega)]
          rw [List.getElem?_set_ne (by omega)]
          rw [List.getElem?_set_self (by simpa using hsz)]
          rfl
        · simp only [Array.toList_setIfInBounds] at hsz ⊢
          rw [List.getElem?_set_ne (by omega)]
          rw [List.getElem?_set_self (by simpa using hsz)]
          rfl
        · simp only [Array.toList_setIfInBounds] at hsz ⊢
          rw [List.getElem?_set_self (by simpa using hsz)]
          rfl

      · rw [if_neg hc]
        simp only [Array.toList_setIfInBounds]
        rw [List.getElem?_set_ne (by omega)]
        rw [List.getElem?_set_ne (by omega)]
        rw [List.getElem?_set_ne (by omega)]
        rw [List.getElem?_set_ne (by omega)]
        rw [List.getElem?_set_ne (by omega)]
    · rw [List.getElem?_take, if_neg hj, if_neg (by omega), List.getElem?_take, if_neg hj]
end Go.Proofs.YtfdceljdhgbkcaaGreatDoor
