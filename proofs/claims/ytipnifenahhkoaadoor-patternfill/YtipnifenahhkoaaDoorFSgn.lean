/- sign. -/
import Derived.Test.YtipnifenahhkoaaDoorFRd2
namespace Go.Proofs.YtipnifenahhkoaaDoor
open Go.RowKit

theorem lit0 (y : World) (s : Int) : (y.alloc (.cells #[.int .i64 s] 3)).cell? ⟨y.heap.size, 0, none⟩ = some (.int .i64 s) := by
  rw [cell_of_row _ _ 0 _ _ _ (heap_alloc_new _ _)]
  rfl
theorem raw_any (n : Int) (h : 0 ≤ n ∧ n ≤ 255) (w : World) : Calls Tryd.prog 46 #[.int .i64 n] w fun e w' => e = .returned (.int .i64 (-1 - n)) ∧ w' = w := by
  have s1 : IntKind.i64.wrap (-1 - n) = -1 - n := by rw [IntKind.wrap_i64]; omega
  go_enter Tryd.func46, Tryd.ntmps46
  go_wp2
  go_ret
  exact ⟨rfl, rfl⟩
theorem hx2_bd {src : List Int} {p : Nat} {v : Int} (h : hx2 src p = some v) : 0 ≤ v ∧ v ≤ 255 := by
  unfold hx2 at h
  split at h
  · cases h
  · split at h
    · cases h
    · rename_i a ha
      split at h
      · cases h
      · split at h
        · cases h
        · rename_i c hc
          cases h
          have := hexD_bd ha
          have := hexD_bd hc
          omega
/-- What sign leaves: the atom, or the panic. -/
def SgR (w : World) (b : Nat) (sa : Option Addr) (sc : Nat) (rep : List Int) (p : Nat) (la : Option Addr) (lc : Nat) (line mt : List Int) (e : Ending) (w' : World) : Prop :=
  match sgn rep p with
  | none => e = .panicked gvP ∧ w.grownBy w' (some b)
  | some x => e = .returned (.int .i64 x.1) ∧ MvR w b sa sc rep x.2 la lc line mt w'
set_option maxRecDepth 100000 in
set_option maxHeartbeats 4000000 in
theorem sign_any {w : World} {b : Nat} {sa : Option Addr} {sc : Nat} {rep : List Int} {p : Nat} {la : Option Addr} {lc : Nat} {line mt : List Int} (h : Fl w b sa sc rep p la lc line mt) (ha : Apt b sa la) (hi : In64 rep) (hp : p < rep.length) :
    Calls Tryd.prog 38 #[.pointer (some ⟨b, 0, none⟩)] w fun e w' => SgR w b sa sc rep p la lc line mt e w' := by
  have F0 := hidIt h
  have HA := hidIt ha
  have HI := hidIt hi
  have HP := hidIt hp
  have G0 : Hid (w.grownBy w (some b)) := grown_of (Below.refl _ _) _
  have HR : Hid (∀ e w', (match sgn rep p with | none => e = .panicked gvP ∧ w.grownBy w' (some b) | some x => e = .returned (.int .i64 x.1) ∧ MvR w b sa sc rep x.2 la lc line mt w') → SgR w b sa sc rep p la lc line mt e w') := fun e w' h => h
  clear h ha hi hp
  by_cases h1 : rep[p]?.getD 0 = 116
  · have HX := hidIt h1
    have h0 : sgn rep p = some (9, p + 1) := by unfold sgn; rw [if_pos h1]
    rw [h0] at HR
    have SK1 : Hid (∀ y, w.grownBy y (some b) → Fl y b sa sc rep p la lc line mt → Calls Tryd.prog 25 #[.pointer (some ⟨b, 0, none⟩), .slice (some ⟨y.heap.size, 0, none⟩) 1 1] (y.alloc (.cells #[.int .i64 116] 3)) fun e w' => e = .returned (.bool true) ∧ Fl w' b sa sc rep (p + 1) la lc line mt ∧ w.grownBy w' (some b)) := fun y gy fy => by
      have := skip_any (fy.ext (ext_alloc (Below.refl _ _) _)) HA.out y.heap.size 116 (lit0 y 116)
      rw [show isN rep p 116 = true from by unfold isN; rw [decide_eq_true HP.out]; simp [HX.out]] at this
      refine this.mono ?_
      rintro e w' ⟨rfl, m1, m2⟩
      exact ⟨rfl, m1, grown_trans gy (grown_trans (grown_of (ext_alloc (Below.refl _ _) _) _) m2)⟩
    clear h1 h0 HX
    go_enter Tryd.func38, Tryd.ntmps38
    go_wp2_with (go_at_call 25; refine (SK1.out _ G0.out F0.out).mono ?_; rintro e w1 ⟨rfl, f1, g1⟩; (try dsimp only); have F1 := hidIt f1; have G1 := hidIt g1; clear f1 g1 SK1)
    go_ret
    exact HR.out _ _ ⟨rfl, F1.out, G1.out⟩
  by_cases h2 : rep[p]?.getD 0 = 101
  · have HX := hidIt h2
    have h0 : sgn rep p = some (27, p + 1) := by unfold sgn; rw [if_neg h1, if_pos h2]
    rw [h0] at HR
    have SK1 : Hid (∀ y, w.grownBy y (some b) → Fl y b sa sc rep p la lc line mt → Calls Tryd.prog 25 #[.pointer (some ⟨b, 0, none⟩), .slice (some ⟨y.heap.size, 0, none⟩) 1 1] (y.alloc (.cells #[.int .i64 116] 3)) fun e w' => e = .returned (.bool false) ∧ Fl w' b sa sc rep (p) la lc line mt ∧ w.grownBy w' (some b)) := fun y gy fy => by
      have := skip_any (fy.ext (ext_alloc (Below.refl _ _) _)) HA.out y.heap.size 116 (lit0 y 116)
      rw [show isN rep p 116 = false from by unfold isN; rw [decide_eq_true HP.out]; simp [HX.out]] at this
      refine this.mono ?_
      rintro e w' ⟨rfl, m1, m2⟩
      exact ⟨rfl, m1, grown_trans gy (grown_trans (grown_of (ext_alloc (Below.refl _ _) _) _) m2)⟩
    have SK2 : Hid (∀ y, w.grownBy y (some b) → Fl y b sa sc rep p la lc line mt → Calls Tryd.prog 25 #[.pointer (some ⟨b, 0, none⟩), .slice (some ⟨y.heap.size, 0, none⟩) 1 1] (y.alloc (.cells #[.int .i64 101] 3)) fun e w' => e = .returned (.bool true) ∧ Fl w' b sa sc rep (p + 1) la lc line mt ∧ w.grownBy w' (some b)) := fun y gy fy => by
      have := skip_any (fy.ext (ext_alloc (Below.refl _ _) _)) HA.out y.heap.size 101 (lit0 y 101)
      rw [show isN rep p 101 = true from by unfold isN; rw [decide_eq_true HP.out]; simp [HX.out]] at this
      refine this.mono ?_
      rintro e w' ⟨rfl, m1, m2⟩
      exact ⟨rfl, m1, grown_trans gy (grown_trans (grown_of (ext_alloc (Below.refl _ _) _) _) m2)⟩
    clear h1 h2 h0 HX
    go_enter Tryd.func38, Tryd.ntmps38
    go_wp2_with (first | (go_at_call 25; refine (SK1.out _ G0.out F0.out).mono ?_; rintro e w1 ⟨rfl, f1, g1⟩; (try dsimp only); have F1 := hidIt f1; have G1 := hidIt g1; clear f1 g1 SK1) | (go_at_call 25; refine (SK2.out _ G1.out F1.out).mono ?_; rintro e w2 ⟨rfl, f2, g2⟩; (try dsimp only); have F2 := hidIt f2; have G2 := hidIt g2; clear f2 g2 SK2))
    go_ret
    exact HR.out _ _ ⟨rfl, F2.out, G2.out⟩
  by_cases h3 : rep[p]?.getD 0 = 120
  · have HX := hidIt h3
    have h0 : sgn rep p = (hx2 rep (p + 1)).map (fun v => (-1 - v, p + 3)) := by unfold sgn; rw [if_neg h1, if_neg h2, if_pos h3]
    rw [h0] at HR
    have SK1 : Hid (∀ y, w.grownBy y (some b) → Fl y b sa sc rep p la lc line mt → Calls Tryd.prog 25 #[.pointer (some ⟨b, 0, none⟩), .slice (some ⟨y.heap.size, 0, none⟩) 1 1] (y.alloc (.cells #[.int .i64 116] 3)) fun e w' => e = .returned (.bool false) ∧ Fl w' b sa sc rep (p) la lc line mt ∧ w.grownBy w' (some b)) := fun y gy fy => by
      have := skip_any (fy.ext (ext_alloc (Below.refl _ _) _)) HA.out y.heap.size 116 (lit0 y 116)
      rw [show isN rep p 116 = false from by unfold isN; rw [decide_eq_true HP.out]; simp [HX.out]] at this
      refine this.mono ?_
      rintro e w' ⟨rfl, m1, m2⟩
      exact ⟨rfl, m1, grown_trans gy (grown_trans (grown_of (ext_alloc (Below.refl _ _) _) _) m2)⟩
    have SK2 : Hid (∀ y, w.grownBy y (some b) → Fl y b sa sc rep p la lc line mt → Calls Tryd.prog 25 #[.pointer (some ⟨b, 0, none⟩), .slice (some ⟨y.heap.size, 0, none⟩) 1 1] (y.alloc (.cells #[.int .i64 101] 3)) fun e w' => e = .returned (.bool false) ∧ Fl w' b sa sc rep (p) la lc line mt ∧ w.grownBy w' (some b)) := fun y gy fy => by
      have := skip_any (fy.ext (ext_alloc (Below.refl _ _) _)) HA.out y.heap.size 101 (lit0 y 101)
      rw [show isN rep p 101 = false from by unfold isN; rw [decide_eq_true HP.out]; simp [HX.out]] at this
      refine this.mono ?_
      rintro e w' ⟨rfl, m1, m2⟩
      exact ⟨rfl, m1, grown_trans gy (grown_trans (grown_of (ext_alloc (Below.refl _ _) _) _) m2)⟩
    have SK3 : Hid (∀ y, w.grownBy y (some b) → Fl y b sa sc rep p la lc line mt → Calls Tryd.prog 25 #[.pointer (some ⟨b, 0, none⟩), .slice (some ⟨y.heap.size, 0, none⟩) 1 1] (y.alloc (.cells #[.int .i64 120] 3)) fun e w' => e = .returned (.bool true) ∧ Fl w' b sa sc rep (p + 1) la lc line mt ∧ w.grownBy w' (some b)) := fun y gy fy => by
      have := skip_any (fy.ext (ext_alloc (Below.refl _ _) _)) HA.out y.heap.size 120 (lit0 y 120)
      rw [show isN rep p 120 = true from by unfold isN; rw [decide_eq_true HP.out]; simp [HX.out]] at this
      refine this.mono ?_
      rintro e w' ⟨rfl, m1, m2⟩
      exact ⟨rfl, m1, grown_trans gy (grown_trans (grown_of (ext_alloc (Below.refl _ _) _) _) m2)⟩
    clear h1 h2 h3 h0 HX
    cases hx : hx2 rep (p + 1) with
    | none =>
      rw [hx] at HR
      have HH : Hid (∀ y, Fl y b sa sc rep (p + 1) la lc line mt → Calls Tryd.prog 47 #[.pointer (some ⟨b, 0, none⟩), .int .i64 2] y fun e w' => e = .panicked gvP ∧ y.grownBy w' (some b)) := fun y fy => by
        have := hex_any fy HA.out HI.out
        unfold HxR at this
        rw [hx] at this
        exact this
      clear hx
      go_enter Tryd.func38, Tryd.ntmps38
      go_wp2_with (first | (go_at_call 25; refine (SK1.out _ G0.out F0.out).mono ?_; rintro e w1 ⟨rfl, f1, g1⟩; (try dsimp only); have F1 := hidIt f1; have G1 := hidIt g1; clear f1 g1 SK1) | (go_at_call 25; refine (SK2.out _ G1.out F1.out).mono ?_; rintro e w2 ⟨rfl, f2, g2⟩; (try dsimp only); have F2 := hidIt f2; have G2 := hidIt g2; clear f2 g2 SK2) | (go_at_call 25; refine (SK3.out _ G2.out F2.out).mono ?_; rintro e w3 ⟨rfl, f3, g3⟩; (try dsimp only); have F3 := hidIt f3; have G3 := hidIt g3; clear f3 g3 SK3) | (go_at_call 47; refine (HH.out _ F3.out).mono ?_; rintro e w4 ⟨rfl, g4⟩; (try dsimp only); have G4 := hidIt g4; clear g4))
      exact ⟨rfl, HR.out _ _ ⟨rfl, grown_trans G3.out G4.out⟩⟩
    | some v =>
      rw [hx] at HR
      obtain ⟨v0, v255⟩ := hx2_bd hx
      have HH : Hid (∀ y, Fl y b sa sc rep (p + 1) la lc line mt → Calls Tryd.prog 47 #[.pointer (some ⟨b, 0, none⟩), .int .i64 2] y fun e w' => e = .returned (.int .i64 v) ∧ Fl w' b sa sc rep (p + 1 + 2) la lc line mt ∧ y.grownBy w' (some b)) := fun y fy => by
        have := hex_any fy HA.out HI.out
        unfold HxR at this
        rw [hx] at this
        exact this
      clear hx
      go_enter Tryd.func38, Tryd.ntmps38
      go_wp2_with (first | (go_at_call 25; refine (SK1.out _ G0.out F0.out).mono ?_; rintro e w1 ⟨rfl, f1, g1⟩; (try dsimp only); have F1 := hidIt f1; have G1 := hidIt g1; clear f1 g1 SK1) | (go_at_call 25; refine (SK2.out _ G1.out F1.out).mono ?_; rintro e w2 ⟨rfl, f2, g2⟩; (try dsimp only); have F2 := hidIt f2; have G2 := hidIt g2; clear f2 g2 SK2) | (go_at_call 25; refine (SK3.out _ G2.out F2.out).mono ?_; rintro e w3 ⟨rfl, f3, g3⟩; (try dsimp only); have F3 := hidIt f3; have G3 := hidIt g3; clear f3 g3 SK3) | (go_at_call 47; refine (HH.out _ F3.out).mono ?_; rintro e w4 ⟨rfl, f4, g4⟩; (try dsimp only); have F4 := hidIt f4; have G4 := hidIt g4; clear f4 g4) | (go_at_call 46; refine (raw_any v ⟨v0, v255⟩ _).mono ?_; rintro e w5 ⟨rfl, h9⟩; obtain rfl := h9.symm; (try dsimp only)))
      go_ret
      exact HR.out _ _ ⟨rfl, F4.out, grown_trans G3.out G4.out⟩
  · have h0 : sgn rep p = none := by unfold sgn; rw [if_neg h1, if_neg h2, if_neg h3]
    rw [h0] at HR
    have HX : Hid (¬ rep[p]?.getD 0 = 116 ∧ ¬ rep[p]?.getD 0 = 101 ∧ ¬ rep[p]?.getD 0 = 120) := ⟨h1, h2, h3⟩
    have SK1 : Hid (∀ y, w.grownBy y (some b) → Fl y b sa sc rep p la lc line mt → Calls Tryd.prog 25 #[.pointer (some ⟨b, 0, none⟩), .slice (some ⟨y.heap.size, 0, none⟩) 1 1] (y.alloc (.cells #[.int .i64 116] 3)) fun e w' => e = .returned (.bool false) ∧ Fl w' b sa sc rep (p) la lc line mt ∧ w.grownBy w' (some b)) := fun y gy fy => by
      have := skip_any (fy.ext (ext_alloc (Below.refl _ _) _)) HA.out y.heap.size 116 (lit0 y 116)
      rw [show isN rep p 116 = false from by unfold isN; rw [decide_eq_true HP.out]; simp [HX.out]] at this
      refine this.mono ?_
      rintro e w' ⟨rfl, m1, m2⟩
      exact ⟨rfl, m1, grown_trans gy (grown_trans (grown_of (ext_alloc (Below.refl _ _) _) _) m2)⟩
    have SK2 : Hid (∀ y, w.grownBy y (some b) → Fl y b sa sc rep p la lc line mt → Calls Tryd.prog 25 #[.pointer (some ⟨b, 0, none⟩), .slice (some ⟨y.heap.size, 0, none⟩) 1 1] (y.alloc (.cells #[.int .i64 101] 3)) fun e w' => e = .returned (.bool false) ∧ Fl w' b sa sc rep (p) la lc line mt ∧ w.grownBy w' (some b)) := fun y gy fy => by
      have := skip_any (fy.ext (ext_alloc (Below.refl _ _) _)) HA.out y.heap.size 101 (lit0 y 101)
      rw [show isN rep p 101 = false from by unfold isN; rw [decide_eq_true HP.out]; simp [HX.out]] at this
      refine this.mono ?_
      rintro e w' ⟨rfl, m1, m2⟩
      exact ⟨rfl, m1, grown_trans gy (grown_trans (grown_of (ext_alloc (Below.refl _ _) _) _) m2)⟩
    have SK3 : Hid (∀ y, w.grownBy y (some b) → Fl y b sa sc rep p la lc line mt → Calls Tryd.prog 25 #[.pointer (some ⟨b, 0, none⟩), .slice (some ⟨y.heap.size, 0, none⟩) 1 1] (y.alloc (.cells #[.int .i64 120] 3)) fun e w' => e = .returned (.bool false) ∧ Fl w' b sa sc rep (p) la lc line mt ∧ w.grownBy w' (some b)) := fun y gy fy => by
      have := skip_any (fy.ext (ext_alloc (Below.refl _ _) _)) HA.out y.heap.size 120 (lit0 y 120)
      rw [show isN rep p 120 = false from by unfold isN; rw [decide_eq_true HP.out]; simp [HX.out]] at this
      refine this.mono ?_
      rintro e w' ⟨rfl, m1, m2⟩
      exact ⟨rfl, m1, grown_trans gy (grown_trans (grown_of (ext_alloc (Below.refl _ _) _) _) m2)⟩
    clear h1 h2 h3 h0 HX
    go_enter Tryd.func38, Tryd.ntmps38
    go_wp2_with (first | (go_at_call 25; refine (SK1.out _ G0.out F0.out).mono ?_; rintro e w1 ⟨rfl, f1, g1⟩; (try dsimp only); have F1 := hidIt f1; have G1 := hidIt g1; clear f1 g1 SK1) | (go_at_call 25; refine (SK2.out _ G1.out F1.out).mono ?_; rintro e w2 ⟨rfl, f2, g2⟩; (try dsimp only); have F2 := hidIt f2; have G2 := hidIt g2; clear f2 g2 SK2) | (go_at_call 25; refine (SK3.out _ G2.out F2.out).mono ?_; rintro e w3 ⟨rfl, f3, g3⟩; (try dsimp only); have F3 := hidIt f3; have G3 := hidIt g3; clear f3 g3 SK3) | (go_at_call 45; refine (giveUp_any _ _).mono ?_; rintro e w7 ⟨rfl, h9⟩; obtain rfl := h9.symm; (try dsimp only)))
    exact ⟨rfl, HR.out _ _ ⟨rfl, G3.out⟩⟩
end Go.Proofs.YtipnifenahhkoaaDoor
