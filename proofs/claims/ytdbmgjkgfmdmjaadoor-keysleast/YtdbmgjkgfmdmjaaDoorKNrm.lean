/- The rows of a mode, and those behind an operator. -/
import Derived.Test.YtdbmgjkgfmdmjaaDoorKObj
import Derived.Test.YtdbmgjkgfmdmjaaDoorKTbMot
import Derived.Test.YtdbmgjkgfmdmjaaDoorKTbOps
import Derived.Test.YtdbmgjkgfmdmjaaDoorKTbDbl
import Derived.Test.YtdbmgjkgfmdmjaaDoorKTbEdt
import Derived.Test.YtdbmgjkgfmdmjaaDoorKTbSel
import Derived.Test.YtdbmgjkgfmdmjaaDoorKTbShr
namespace Go.Proofs.YtdbmgjkgfmdmjaaDoor
open Go.RowKit
def tNor : List Rw := tMot ++ (tOps ++ (tEdt ++ (tShr ++ [])))
def tSln : List Rw := tMot ++ (tObj ++ (tSel ++ (tShr ++ [])))
def tTar : List Rw := tMot ++ (tObj ++ (tDbl ++ []))
set_option maxRecDepth 100000 in
set_option maxHeartbeats 4000000 in
theorem normalRows_any (w : World) : Calls Tryd.prog 45 #[] w fun e w' => ∃ v xs, e = .returned v ∧ OwnW w' w.heap.size v xs ∧ Hid (xs.map Prod.fst = tNor) ∧ Below w.heap.size w w' := by
  go_enter Tryd.func45, Tryd.ntmps45
  go_wp2_with (first | (go_at_call 64; refine (motions_any _).mono ?_; rintro e y1 ⟨v1, x1, rfl, ho1, hm1, hb1⟩; (try dsimp only); obtain ⟨a1, n1, c1, e1⟩ := ho1.form; subst e1; have HO1 := hidIt ho1.rd; have HM1 := hidIt (show x1.map Prod.fst = tMot from hm1); have HB1 := hidIt hb1; clear ho1 hm1 hb1) | (go_at_call 65; refine (operators_any _).mono ?_; rintro e y2 ⟨v2, x2, rfl, ho2, hm2, hb2⟩; (try dsimp only); obtain ⟨a2, n2, c2, e2⟩ := ho2.form; subst e2; have HO2 := hidIt ho2.rd; have HM2 := hidIt (show x2.map Prod.fst = tOps from hm2); have HB2 := hidIt hb2; clear ho2 hm2 hb2) | (go_at_call 66; refine (edits_any _).mono ?_; rintro e y3 ⟨v3, x3, rfl, ho3, hm3, hb3⟩; (try dsimp only); obtain ⟨a3, n3, c3, e3⟩ := ho3.form; subst e3; have HO3 := hidIt ho3.rd; have HM3 := hidIt (show x3.map Prod.fst = tEdt from hm3); have HB3 := hidIt hb3; clear ho3 hm3 hb3) | (go_at_call 67; refine (shared_any _).mono ?_; rintro e y4 ⟨v4, x4, rfl, ho4, hm4, hb4⟩; (try dsimp only); obtain ⟨a4, n4, c4, e4⟩ := ho4.form; subst e4; have HO4 := hidIt ho4.rd; have HM4 := hidIt (show x4.map Prod.fst = tShr from hm4); have HB4 := hidIt hb4; clear ho4 hm4 hb4) | (go_at_call 63; refine (concatR_any y4.heap.size [(.slice a1 n1 c1, x1), (.slice a2 n2 c2, x2), (.slice a3 n3 c3, x3), (.slice a4 n4 c4, x4)] (y4.alloc (.cells #[.slice a1 n1 c1, .slice a2 n2 c2, .slice a3 n3 c3, .slice a4 n4 c4] 52)) ?rw (by simp) ?ps ?bd).mono ?_; rotate_left 3; rintro e z ⟨vz, rfl, hoz, hbz⟩; (try dsimp only); obtain ⟨az, nz, cz, ez⟩ := hoz.form; subst ez; have HOZ := hidIt hoz; have HBZ := hidIt hbz; clear hoz hbz))
  case rw =>
    refine ⟨by rw [World.size_alloc]; omega, fun i p hp => ?_⟩
    have hc : ∀ j u, (#[.slice a1 n1 c1, .slice a2 n2 c2, .slice a3 n3 c3, .slice a4 n4 c4] : Array Value)[j]? = some u → (y4.alloc (.cells #[.slice a1 n1 c1, .slice a2 n2 c2, .slice a3 n3 c3, .slice a4 n4 c4] 52)).cell? ⟨y4.heap.size, j, none⟩ = some u := fun j u hj => by rw [cell_of_row _ _ _ _ _ _ (heap_alloc_new _ _)]; exact hj
    match i, hp with
    | 0, hp => simp only [List.getElem?_cons_zero, Option.some.injEq] at hp; subst hp; exact ⟨hc 0 _ rfl, (((HO1.out.ext HB2.out).ext HB3.out).ext HB4.out).ext (ext_alloc (Below.refl _ _) _)⟩
    | 1, hp => simp only [List.getElem?_cons_zero, List.getElem?_cons_succ, Option.some.injEq] at hp; subst hp; exact ⟨hc 1 _ rfl, ((HO2.out.ext HB3.out).ext HB4.out).ext (ext_alloc (Below.refl _ _) _)⟩
    | 2, hp => simp only [List.getElem?_cons_zero, List.getElem?_cons_succ, Option.some.injEq] at hp; subst hp; exact ⟨hc 2 _ rfl, (HO3.out.ext HB4.out).ext (ext_alloc (Below.refl _ _) _)⟩
    | 3, hp => simp only [List.getElem?_cons_zero, List.getElem?_cons_succ, Option.some.injEq] at hp; subst hp; exact ⟨hc 3 _ rfl, HO4.out.ext (ext_alloc (Below.refl _ _) _)⟩
    | i + 4, hp => simp at hp
  case ps =>
    have := congrArg List.length HM1.out
    rw [List.length_map] at this
    have e : (tMot).length = 44 := rfl
    show 0 < (x1 ++ (x2 ++ (x3 ++ (x4 ++ [])))).length
    rw [List.length_append]
    omega
  case bd =>
    have E : (catW [(.slice a1 n1 c1, x1), (.slice a2 n2 c2, x2), (.slice a3 n3 c3, x3), (.slice a4 n4 c4, x4)]).length = (tNor).length := by
      show (x1 ++ (x2 ++ (x3 ++ (x4 ++ [])))).length = _
      have := congrArg List.length (show (x1 ++ (x2 ++ (x3 ++ (x4 ++ [])))).map Prod.fst = tNor by simp only [List.map_append, HM1.out, HM2.out, HM3.out, HM4.out]; rfl)
      rwa [List.length_map] at this
    rw [E]
    decide
  go_ret
  refine ⟨_, _, rfl, HOZ.out.le ?_, ?_, ?_⟩
  · have := (ext_trans (ext_trans (ext_trans HB1.out HB2.out) HB3.out) HB4.out).size; rw [World.size_alloc]; omega
  · show (x1 ++ (x2 ++ (x3 ++ (x4 ++ [])))).map Prod.fst = tNor
    simp only [List.map_append, HM1.out, HM2.out, HM3.out, HM4.out]
    rfl
  · exact ext_trans (ext_alloc (ext_trans (ext_trans (ext_trans HB1.out HB2.out) HB3.out) HB4.out) _) HBZ.out
set_option maxRecDepth 100000 in
set_option maxHeartbeats 4000000 in
theorem selectionRows_any (w : World) : Calls Tryd.prog 46 #[] w fun e w' => ∃ v xs, e = .returned v ∧ OwnW w' w.heap.size v xs ∧ Hid (xs.map Prod.fst = tSln) ∧ Below w.heap.size w w' := by
  go_enter Tryd.func46, Tryd.ntmps46
  go_wp2_with (first | (go_at_call 64; refine (motions_any _).mono ?_; rintro e y1 ⟨v1, x1, rfl, ho1, hm1, hb1⟩; (try dsimp only); obtain ⟨a1, n1, c1, e1⟩ := ho1.form; subst e1; have HO1 := hidIt ho1.rd; have HM1 := hidIt (show x1.map Prod.fst = tMot from hm1); have HB1 := hidIt hb1; clear ho1 hm1 hb1) | (go_at_call 68; refine (objects_any _).mono ?_; rintro e y2 ⟨v2, x2, rfl, ho2, hm2, hb2⟩; (try dsimp only); obtain ⟨a2, n2, c2, e2⟩ := ho2.form; subst e2; have HO2 := hidIt ho2.rd; have HM2 := hidIt (show x2.map Prod.fst = tObj from hm2); have HB2 := hidIt hb2; clear ho2 hm2 hb2) | (go_at_call 69; refine (onSelection_any _).mono ?_; rintro e y3 ⟨v3, x3, rfl, ho3, hm3, hb3⟩; (try dsimp only); obtain ⟨a3, n3, c3, e3⟩ := ho3.form; subst e3; have HO3 := hidIt ho3.rd; have HM3 := hidIt (show x3.map Prod.fst = tSel from hm3); have HB3 := hidIt hb3; clear ho3 hm3 hb3) | (go_at_call 67; refine (shared_any _).mono ?_; rintro e y4 ⟨v4, x4, rfl, ho4, hm4, hb4⟩; (try dsimp only); obtain ⟨a4, n4, c4, e4⟩ := ho4.form; subst e4; have HO4 := hidIt ho4.rd; have HM4 := hidIt (show x4.map Prod.fst = tShr from hm4); have HB4 := hidIt hb4; clear ho4 hm4 hb4) | (go_at_call 63; refine (concatR_any y4.heap.size [(.slice a1 n1 c1, x1), (.slice a2 n2 c2, x2), (.slice a3 n3 c3, x3), (.slice a4 n4 c4, x4)] (y4.alloc (.cells #[.slice a1 n1 c1, .slice a2 n2 c2, .slice a3 n3 c3, .slice a4 n4 c4] 52)) ?rw (by simp) ?ps ?bd).mono ?_; rotate_left 3; rintro e z ⟨vz, rfl, hoz, hbz⟩; (try dsimp only); obtain ⟨az, nz, cz, ez⟩ := hoz.form; subst ez; have HOZ := hidIt hoz; have HBZ := hidIt hbz; clear hoz hbz))
  case rw =>
    refine ⟨by rw [World.size_alloc]; omega, fun i p hp => ?_⟩
    have hc : ∀ j u, (#[.slice a1 n1 c1, .slice a2 n2 c2, .slice a3 n3 c3, .slice a4 n4 c4] : Array Value)[j]? = some u → (y4.alloc (.cells #[.slice a1 n1 c1, .slice a2 n2 c2, .slice a3 n3 c3, .slice a4 n4 c4] 52)).cell? ⟨y4.heap.size, j, none⟩ = some u := fun j u hj => by rw [cell_of_row _ _ _ _ _ _ (heap_alloc_new _ _)]; exact hj
    match i, hp with
    | 0, hp => simp only [List.getElem?_cons_zero, Option.some.injEq] at hp; subst hp; exact ⟨hc 0 _ rfl, (((HO1.out.ext HB2.out).ext HB3.out).ext HB4.out).ext (ext_alloc (Below.refl _ _) _)⟩
    | 1, hp => simp only [List.getElem?_cons_zero, List.getElem?_cons_succ, Option.some.injEq] at hp; subst hp; exact ⟨hc 1 _ rfl, ((HO2.out.ext HB3.out).ext HB4.out).ext (ext_alloc (Below.refl _ _) _)⟩
    | 2, hp => simp only [List.getElem?_cons_zero, List.getElem?_cons_succ, Option.some.injEq] at hp; subst hp; exact ⟨hc 2 _ rfl, (HO3.out.ext HB4.out).ext (ext_alloc (Below.refl _ _) _)⟩
    | 3, hp => simp only [List.getElem?_cons_zero, List.getElem?_cons_succ, Option.some.injEq] at hp; subst hp; exact ⟨hc 3 _ rfl, HO4.out.ext (ext_alloc (Below.refl _ _) _)⟩
    | i + 4, hp => simp at hp
  case ps =>
    have := congrArg List.length HM1.out
    rw [List.length_map] at this
    have e : (tMot).length = 44 := rfl
    show 0 < (x1 ++ (x2 ++ (x3 ++ (x4 ++ [])))).length
    rw [List.length_append]
    omega
  case bd =>
    have E : (catW [(.slice a1 n1 c1, x1), (.slice a2 n2 c2, x2), (.slice a3 n3 c3, x3), (.slice a4 n4 c4, x4)]).length = (tSln).length := by
      show (x1 ++ (x2 ++ (x3 ++ (x4 ++ [])))).length = _
      have := congrArg List.length (show (x1 ++ (x2 ++ (x3 ++ (x4 ++ [])))).map Prod.fst = tSln by simp only [List.map_append, HM1.out, HM2.out, HM3.out, HM4.out]; rfl)
      rwa [List.length_map] at this
    rw [E]
    decide
  go_ret
  refine ⟨_, _, rfl, HOZ.out.le ?_, ?_, ?_⟩
  · have := (ext_trans (ext_trans (ext_trans HB1.out HB2.out) HB3.out) HB4.out).size; rw [World.size_alloc]; omega
  · show (x1 ++ (x2 ++ (x3 ++ (x4 ++ [])))).map Prod.fst = tSln
    simp only [List.map_append, HM1.out, HM2.out, HM3.out, HM4.out]
    rfl
  · exact ext_trans (ext_alloc (ext_trans (ext_trans (ext_trans HB1.out HB2.out) HB3.out) HB4.out) _) HBZ.out
set_option maxRecDepth 100000 in
set_option maxHeartbeats 4000000 in
theorem targetRows_any (w : World) : Calls Tryd.prog 70 #[] w fun e w' => ∃ v xs, e = .returned v ∧ OwnW w' w.heap.size v xs ∧ Hid (xs.map Prod.fst = tTar) ∧ Below w.heap.size w w' := by
  go_enter Tryd.func70, Tryd.ntmps70
  go_wp2_with (first | (go_at_call 64; refine (motions_any _).mono ?_; rintro e y1 ⟨v1, x1, rfl, ho1, hm1, hb1⟩; (try dsimp only); obtain ⟨a1, n1, c1, e1⟩ := ho1.form; subst e1; have HO1 := hidIt ho1.rd; have HM1 := hidIt (show x1.map Prod.fst = tMot from hm1); have HB1 := hidIt hb1; clear ho1 hm1 hb1) | (go_at_call 68; refine (objects_any _).mono ?_; rintro e y2 ⟨v2, x2, rfl, ho2, hm2, hb2⟩; (try dsimp only); obtain ⟨a2, n2, c2, e2⟩ := ho2.form; subst e2; have HO2 := hidIt ho2.rd; have HM2 := hidIt (show x2.map Prod.fst = tObj from hm2); have HB2 := hidIt hb2; clear ho2 hm2 hb2) | (go_at_call 89; refine (doubles_any _).mono ?_; rintro e y3 ⟨v3, x3, rfl, ho3, hm3, hb3⟩; (try dsimp only); obtain ⟨a3, n3, c3, e3⟩ := ho3.form; subst e3; have HO3 := hidIt ho3.rd; have HM3 := hidIt (show x3.map Prod.fst = tDbl from hm3); have HB3 := hidIt hb3; clear ho3 hm3 hb3) | (go_at_call 63; refine (concatR_any y3.heap.size [(.slice a1 n1 c1, x1), (.slice a2 n2 c2, x2), (.slice a3 n3 c3, x3)] (y3.alloc (.cells #[.slice a1 n1 c1, .slice a2 n2 c2, .slice a3 n3 c3] 52)) ?rw (by simp) ?ps ?bd).mono ?_; rotate_left 3; rintro e z ⟨vz, rfl, hoz, hbz⟩; (try dsimp only); obtain ⟨az, nz, cz, ez⟩ := hoz.form; subst ez; have HOZ := hidIt hoz; have HBZ := hidIt hbz; clear hoz hbz))
  case rw =>
    refine ⟨by rw [World.size_alloc]; omega, fun i p hp => ?_⟩
    have hc : ∀ j u, (#[.slice a1 n1 c1, .slice a2 n2 c2, .slice a3 n3 c3] : Array Value)[j]? = some u → (y3.alloc (.cells #[.slice a1 n1 c1, .slice a2 n2 c2, .slice a3 n3 c3] 52)).cell? ⟨y3.heap.size, j, none⟩ = some u := fun j u hj => by rw [cell_of_row _ _ _ _ _ _ (heap_alloc_new _ _)]; exact hj
    match i, hp with
    | 0, hp => simp only [List.getElem?_cons_zero, Option.some.injEq] at hp; subst hp; exact ⟨hc 0 _ rfl, ((HO1.out.ext HB2.out).ext HB3.out).ext (ext_alloc (Below.refl _ _) _)⟩
    | 1, hp => simp only [List.getElem?_cons_zero, List.getElem?_cons_succ, Option.some.injEq] at hp; subst hp; exact ⟨hc 1 _ rfl, (HO2.out.ext HB3.out).ext (ext_alloc (Below.refl _ _) _)⟩
    | 2, hp => simp only [List.getElem?_cons_zero, List.getElem?_cons_succ, Option.some.injEq] at hp; subst hp; exact ⟨hc 2 _ rfl, HO3.out.ext (ext_alloc (Below.refl _ _) _)⟩
    | i + 3, hp => simp at hp
  case ps =>
    have := congrArg List.length HM1.out
    rw [List.length_map] at this
    have e : (tMot).length = 44 := rfl
    show 0 < (x1 ++ (x2 ++ (x3 ++ []))).length
    rw [List.length_append]
    omega
  case bd =>
    have E : (catW [(.slice a1 n1 c1, x1), (.slice a2 n2 c2, x2), (.slice a3 n3 c3, x3)]).length = (tTar).length := by
      show (x1 ++ (x2 ++ (x3 ++ []))).length = _
      have := congrArg List.length (show (x1 ++ (x2 ++ (x3 ++ []))).map Prod.fst = tTar by simp only [List.map_append, HM1.out, HM2.out, HM3.out]; rfl)
      rwa [List.length_map] at this
    rw [E]
    decide
  go_ret
  refine ⟨_, _, rfl, HOZ.out.le ?_, ?_, ?_⟩
  · have := (ext_trans (ext_trans HB1.out HB2.out) HB3.out).size; rw [World.size_alloc]; omega
  · show (x1 ++ (x2 ++ (x3 ++ []))).map Prod.fst = tTar
    simp only [List.map_append, HM1.out, HM2.out, HM3.out]
    rfl
  · exact ext_trans (ext_alloc (ext_trans (ext_trans HB1.out HB2.out) HB3.out) _) HBZ.out
end Go.Proofs.YtdbmgjkgfmdmjaaDoor
