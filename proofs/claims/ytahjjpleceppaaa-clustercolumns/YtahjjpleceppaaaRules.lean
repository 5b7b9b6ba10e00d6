/- The rules R1 to R13. -/
import Derived.Test.YtahjjpleceppaaaLook
namespace Go.Proofs.Ytahjjpleceppaaa
open Go.RowKit

/-- The rules as the code asks them. -/
def Cl.JR (cl cr : Int) (b10 b11 b12 : Bool) : Bool :=
  if cl = 1 ∧ cr = 2 then true
  else if Cl.alone cl = true then false else if Cl.alone cr = true then false
  else Cl.hg cl cr || (cr == 4 || cr == 5) || cr == 8 || cl == 7 || ((cl == 4 || cl == 5) && b10) || (cl == 5 && cr == 14 && b11) || (cl == 6 && cr == 6 && b12)

theorem Cl.JF_JR (cl nl cr nr : Int) (j p f : Nat) (h : (nl = 2 ∨ nl = 3) → (cl = 4 ∨ cl = 5)) :
    Cl.JF cl cr nr (Cl.cjF nl j) (Cl.piF cl p) (Cl.flF cl f % 2) = Cl.JR cl cr (nr == 1 && Cl.cjF nl j == 2) (p == 1) ((f + 1) % 2 == 1) := by
  have e1 : (nr == 1 && Cl.cjF nl j == 2) = ((cl == 4 || cl == 5) && (nr == 1 && Cl.cjF nl j == 2)) := by
    cases hb : Cl.cjF nl j == 2 with
    | false => simp
    | true =>
      have : nl = 2 ∨ nl = 3 := by
        simp only [Cl.cjF, beq_iff_eq] at hb
        split at hb
        · cases hb
        · split at hb
          · right; assumption
          · split at hb
            · left; assumption
            · cases hb
      rcases h this with rfl | rfl <;> simp
  have e2 : (cr == 14 && Cl.piF cl p == 2) = (cl == 5 && cr == 14 && p == 1) := by
    rw [Bool.eq_iff_iff]
    simp only [Cl.piF, Bool.and_eq_true, beq_iff_eq]
    constructor
    · intro ⟨h1, h2⟩
      split at h2
      · cases h2
      · split at h2
        · split at h2 <;> cases h2
        · split at h2
          · split at h2
            · refine ⟨⟨by assumption, h1⟩, by assumption⟩
            · cases h2
          · cases h2
    · intro ⟨⟨h1, h2⟩, h3⟩
      subst h1; subst h2; subst h3; exact ⟨rfl, rfl⟩
  have e3 : (cr == 6 && Cl.flF cl f % 2 == 1) = (cl == 6 && cr == 6 && (f + 1) % 2 == 1) := by
    rw [Bool.eq_iff_iff]
    simp only [Cl.flF, Bool.and_eq_true, beq_iff_eq]
    constructor
    · intro ⟨h1, h2⟩
      split at h2
      · exact ⟨⟨by assumption, h1⟩, h2⟩
      · cases h2
    · intro ⟨⟨h1, h2⟩, h3⟩
      rw [if_pos h1]; exact ⟨h2, h3⟩
  unfold Cl.JF Cl.JR
  rw [← e1, e2, e3]

theorem Cl.jn_JR (zs : List Int) (k : Nat) (h0 : 0 < k) (hk : k < zs.length) :
    Cl.jn zs k = Cl.JR (Gx.cls (Cl.at zs (k - 1))) (Gx.cls (Cl.at zs k)) (Gx.cnj (Cl.at zs k) == 1 && Cl.cj (Cl.rv zs k) == 2) (Cl.pi (Cl.rv zs (k - 1)) == 1) ((Cl.fl (Cl.rv zs (k - 1)) + 1) % 2 == 1) := by
  have e : Cl.rv zs k = Cl.at zs (k - 1) :: Cl.rv zs (k - 1) := by
    have := Cl.rv_succ zs (k - 1) (by omega)
    rwa [show k - 1 + 1 = k from by omega] at this
  unfold Cl.jn Cl.J
  rw [e, Cl.cj_cons, Cl.pi_cons, Cl.fl_cons]
  exact Cl.JF_JR _ _ _ _ _ _ _ (Gx.small _).2.1

set_option maxRecDepth 100000 in
set_option maxHeartbeats 4000000 in
theorem joined_1 (cr : Int) (b10 b11 b12 : Bool) (ao : Option Addr) (n cap : Nat) (k : Int) (w : World)
    (C10 : Hid (∀ w', Below w.heap.size w w' → Calls Try.prog 59 #[.slice ao n cap, .int .i64 k] w' fun e w'' => e = .returned (.bool b10) ∧ Below w'.heap.size w' w''))
    (C11 : Hid (∀ w', Below w.heap.size w w' → Calls Try.prog 60 #[.slice ao n cap, .int .i64 k] w' fun e w'' => e = .returned (.bool b11) ∧ Below w'.heap.size w' w''))
    (C12 : Hid (∀ w', Below w.heap.size w w' → Calls Try.prog 61 #[.slice ao n cap, .int .i64 k] w' fun e w'' => e = .returned (.bool b12) ∧ Below w'.heap.size w' w'')) :
    Calls Try.prog 46 #[.slice ao n cap, .int .i64 k, .int .i64 (1), .int .i64 cr] w fun e w' => e = .returned (.bool (Cl.JR 1 cr b10 b11 b12)) ∧ Below w.heap.size w w' := by
  by_cases e2 : cr = 2
  · subst e2
    have hal : Cl.alone 1 = true := rfl
    have hmk : ((1 : Int) == 4 || (1 : Int) == 5) = false := rfl
    have har : Cl.alone 2 = true := rfl
    have hhd : Cl.hd 2 = false := rfl
    have HQ : Hid (Cl.JR 1 2 b10 b11 b12 = true) := by cases b10 <;> cases b11 <;> cases b12 <;> rfl
    go_enter Try.func46, Try.ntmps46
    go_wp2_with (first | (go_at_call 56; refine (isAlone_any _ _).mono ?_; rintro e w' ⟨rfl, rfl⟩; (first | rw [hal] | rw [har])) | (go_at_call 57; refine (isHead_any _ _).mono ?_; rintro e w' ⟨rfl, rfl⟩; rw [hhd]) | (go_at_call 58; refine (isMark_any _ _).mono ?_; rintro e w' ⟨rfl, rfl⟩; rw [hmk]) | (go_at_call 59; refine (C10.out _ (Below.refl _ _)).mono ?_; rintro e w1 ⟨rfl, hb1⟩) | (go_at_call 60; refine (C11.out _ (by first | exact Below.refl _ _ | exact hb1)).mono ?_; rintro e w2 ⟨rfl, hb2⟩) | (go_at_call 61; refine (C12.out _ (by first | exact Below.refl _ _ | exact hb1)).mono ?_; rintro e w3 ⟨rfl, hb3⟩))
    go_ret
    exact ⟨ret_bool HQ.out.symm, by first | exact Below.refl _ _ | exact ext_trans hb1 hb2 | exact ext_trans hb1 hb3 | exact hb1 | exact hb2 | exact hb3⟩
  have r2 : (cr == 2) = false := by simp [e2]
  have hal : Cl.alone 1 = true := rfl
  have har : Cl.alone cr = Cl.alone cr := rfl
  have hhd : Cl.hd cr = Cl.hd cr := rfl
  have hmk : ((1 : Int) == 4 || (1 : Int) == 5) = false := rfl
  have HQ : Hid (Cl.JR 1 cr b10 b11 b12 = false) := by unfold Hid Cl.JR; rw [if_neg (by omega), if_pos hal]
  go_enter Try.func46, Try.ntmps46
  go_wp2_with (first | (go_at_call 56; refine (isAlone_any _ _).mono ?_; rintro e w' ⟨rfl, rfl⟩; (first | rw [hal] | rw [har])) | (go_at_call 57; refine (isHead_any _ _).mono ?_; rintro e w' ⟨rfl, rfl⟩; rw [hhd]) | (go_at_call 58; refine (isMark_any _ _).mono ?_; rintro e w' ⟨rfl, rfl⟩; rw [hmk]) | (go_at_call 59; refine (C10.out _ (Below.refl _ _)).mono ?_; rintro e w1 ⟨rfl, hb1⟩) | (go_at_call 60; refine (C11.out _ (by first | exact Below.refl _ _ | exact hb1)).mono ?_; rintro e w2 ⟨rfl, hb2⟩) | (go_at_call 61; refine (C12.out _ (by first | exact Below.refl _ _ | exact hb1)).mono ?_; rintro e w3 ⟨rfl, hb3⟩))
  go_ret
  exact ⟨ret_bool HQ.out.symm, by first | exact Below.refl _ _ | exact ext_trans hb1 hb2 | exact ext_trans hb1 hb3 | exact hb1 | exact hb2 | exact hb3⟩

set_option maxRecDepth 100000 in
set_option maxHeartbeats 4000000 in
theorem joined_2 (cr : Int) (b10 b11 b12 : Bool) (ao : Option Addr) (n cap : Nat) (k : Int) (w : World)
    (C10 : Hid (∀ w', Below w.heap.size w w' → Calls Try.prog 59 #[.slice ao n cap, .int .i64 k] w' fun e w'' => e = .returned (.bool b10) ∧ Below w'.heap.size w' w''))
    (C11 : Hid (∀ w', Below w.heap.size w w' → Calls Try.prog 60 #[.slice ao n cap, .int .i64 k] w' fun e w'' => e = .returned (.bool b11) ∧ Below w'.heap.size w' w''))
    (C12 : Hid (∀ w', Below w.heap.size w w' → Calls Try.prog 61 #[.slice ao n cap, .int .i64 k] w' fun e w'' => e = .returned (.bool b12) ∧ Below w'.heap.size w' w'')) :
    Calls Try.prog 46 #[.slice ao n cap, .int .i64 k, .int .i64 (2), .int .i64 cr] w fun e w' => e = .returned (.bool (Cl.JR 2 cr b10 b11 b12)) ∧ Below w.heap.size w w' := by
  have hal : Cl.alone 2 = true := rfl
  have har : Cl.alone cr = Cl.alone cr := rfl
  have hhd : Cl.hd cr = Cl.hd cr := rfl
  have hmk : ((2 : Int) == 4 || (2 : Int) == 5) = false := rfl
  have HQ : Hid (Cl.JR 2 cr b10 b11 b12 = false) := by unfold Hid Cl.JR; rw [if_neg (by omega), if_pos hal]
  go_enter Try.func46, Try.ntmps46
  go_wp2_with (first | (go_at_call 56; refine (isAlone_any _ _).mono ?_; rintro e w' ⟨rfl, rfl⟩; (first | rw [hal] | rw [har])) | (go_at_call 57; refine (isHead_any _ _).mono ?_; rintro e w' ⟨rfl, rfl⟩; rw [hhd]) | (go_at_call 58; refine (isMark_any _ _).mono ?_; rintro e w' ⟨rfl, rfl⟩; rw [hmk]) | (go_at_call 59; refine (C10.out _ (Below.refl _ _)).mono ?_; rintro e w1 ⟨rfl, hb1⟩) | (go_at_call 60; refine (C11.out _ (by first | exact Below.refl _ _ | exact hb1)).mono ?_; rintro e w2 ⟨rfl, hb2⟩) | (go_at_call 61; refine (C12.out _ (by first | exact Below.refl _ _ | exact hb1)).mono ?_; rintro e w3 ⟨rfl, hb3⟩))
  go_ret
  exact ⟨ret_bool HQ.out.symm, Below.refl _ _⟩

set_option maxRecDepth 100000 in
set_option maxHeartbeats 4000000 in
theorem joined_3 (cr : Int) (b10 b11 b12 : Bool) (ao : Option Addr) (n cap : Nat) (k : Int) (w : World)
    (C10 : Hid (∀ w', Below w.heap.size w w' → Calls Try.prog 59 #[.slice ao n cap, .int .i64 k] w' fun e w'' => e = .returned (.bool b10) ∧ Below w'.heap.size w' w''))
    (C11 : Hid (∀ w', Below w.heap.size w w' → Calls Try.prog 60 #[.slice ao n cap, .int .i64 k] w' fun e w'' => e = .returned (.bool b11) ∧ Below w'.heap.size w' w''))
    (C12 : Hid (∀ w', Below w.heap.size w w' → Calls Try.prog 61 #[.slice ao n cap, .int .i64 k] w' fun e w'' => e = .returned (.bool b12) ∧ Below w'.heap.size w' w'')) :
    Calls Try.prog 46 #[.slice ao n cap, .int .i64 k, .int .i64 (3), .int .i64 cr] w fun e w' => e = .returned (.bool (Cl.JR 3 cr b10 b11 b12)) ∧ Below w.heap.size w w' := by
  have hal : Cl.alone 3 = true := rfl
  have har : Cl.alone cr = Cl.alone cr := rfl
  have hhd : Cl.hd cr = Cl.hd cr := rfl
  have hmk : ((3 : Int) == 4 || (3 : Int) == 5) = false := rfl
  have HQ : Hid (Cl.JR 3 cr b10 b11 b12 = false) := by unfold Hid Cl.JR; rw [if_neg (by omega), if_pos hal]
  go_enter Try.func46, Try.ntmps46
  go_wp2_with (first | (go_at_call 56; refine (isAlone_any _ _).mono ?_; rintro e w' ⟨rfl, rfl⟩; (first | rw [hal] | rw [har])) | (go_at_call 57; refine (isHead_any _ _).mono ?_; rintro e w' ⟨rfl, rfl⟩; rw [hhd]) | (go_at_call 58; refine (isMark_any _ _).mono ?_; rintro e w' ⟨rfl, rfl⟩; rw [hmk]) | (go_at_call 59; refine (C10.out _ (Below.refl _ _)).mono ?_; rintro e w1 ⟨rfl, hb1⟩) | (go_at_call 60; refine (C11.out _ (by first | exact Below.refl _ _ | exact hb1)).mono ?_; rintro e w2 ⟨rfl, hb2⟩) | (go_at_call 61; refine (C12.out _ (by first | exact Below.refl _ _ | exact hb1)).mono ?_; rintro e w3 ⟨rfl, hb3⟩))
  go_ret
  exact ⟨ret_bool HQ.out.symm, Below.refl _ _⟩

set_option maxRecDepth 100000 in
set_option maxHeartbeats 4000000 in
theorem joined_9 (cr : Int) (b10 b11 b12 : Bool) (ao : Option Addr) (n cap : Nat) (k : Int) (w : World)
    (C10 : Hid (∀ w', Below w.heap.size w w' → Calls Try.prog 59 #[.slice ao n cap, .int .i64 k] w' fun e w'' => e = .returned (.bool b10) ∧ Below w'.heap.size w' w''))
    (C11 : Hid (∀ w', Below w.heap.size w w' → Calls Try.prog 60 #[.slice ao n cap, .int .i64 k] w' fun e w'' => e = .returned (.bool b11) ∧ Below w'.heap.size w' w''))
    (C12 : Hid (∀ w', Below w.heap.size w w' → Calls Try.prog 61 #[.slice ao n cap, .int .i64 k] w' fun e w'' => e = .returned (.bool b12) ∧ Below w'.heap.size w' w'')) :
    Calls Try.prog 46 #[.slice ao n cap, .int .i64 k, .int .i64 (9), .int .i64 cr] w fun e w' => e = .returned (.bool (Cl.JR 9 cr b10 b11 b12)) ∧ Below w.heap.size w w' := by
  by_cases e1 : cr = 1
  · subst e1
    have hal : Cl.alone 9 = false := rfl
    have hmk : ((9 : Int) == 4 || (9 : Int) == 5) = false := rfl
    have har : Cl.alone 1 = true := rfl
    have hhd : Cl.hd 1 = false := rfl
    have HQ : Hid (Cl.JR 9 1 b10 b11 b12 = false) := by cases b10 <;> cases b11 <;> cases b12 <;> rfl
    go_enter Try.func46, Try.ntmps46
    go_wp2_with (first | (go_at_call 56; refine (isAlone_any _ _).mono ?_; rintro e w' ⟨rfl, rfl⟩; (first | rw [hal] | rw [har])) | (go_at_call 57; refine (isHead_any _ _).mono ?_; rintro e w' ⟨rfl, rfl⟩; rw [hhd]) | (go_at_call 58; refine (isMark_any _ _).mono ?_; rintro e w' ⟨rfl, rfl⟩; rw [hmk]) | (go_at_call 59; refine (C10.out _ (Below.refl _ _)).mono ?_; rintro e w1 ⟨rfl, hb1⟩) | (go_at_call 60; refine (C11.out _ (by first | exact Below.refl _ _ | exact hb1)).mono ?_; rintro e w2 ⟨rfl, hb2⟩) | (go_at_call 61; refine (C12.out _ (by first | exact Below.refl _ _ | exact hb1)).mono ?_; rintro e w3 ⟨rfl, hb3⟩))
    go_ret
    exact ⟨ret_bool HQ.out.symm, by first | exact Below.refl _ _ | exact ext_trans hb1 hb2 | exact ext_trans hb1 hb3 | exact hb1 | exact hb2 | exact hb3⟩
  by_cases e2 : cr = 2
  · subst e2
    have hal : Cl.alone 9 = false := rfl
    have hmk : ((9 : Int) == 4 || (9 : Int) == 5) = false := rfl
    have har : Cl.alone 2 = true := rfl
    have hhd : Cl.hd 2 = false := rfl
    have HQ : Hid (Cl.JR 9 2 b10 b11 b12 = false) := by cases b10 <;> cases b11 <;> cases b12 <;> rfl
    go_enter Try.func46, Try.ntmps46
    go_wp2_with (first | (go_at_call 56; refine (isAlone_any _ _).mono ?_; rintro e w' ⟨rfl, rfl⟩; (first | rw [hal] | rw [har])) | (go_at_call 57; refine (isHead_any _ _).mono ?_; rintro e w' ⟨rfl, rfl⟩; rw [hhd]) | (go_at_call 58; refine (isMark_any _ _).mono ?_; rintro e w' ⟨rfl, rfl⟩; rw [hmk]) | (go_at_call 59; refine (C10.out _ (Below.refl _ _)).mono ?_; rintro e w1 ⟨rfl, hb1⟩) | (go_at_call 60; refine (C11.out _ (by first | exact Below.refl _ _ | exact hb1)).mono ?_; rintro e w2 ⟨rfl, hb2⟩) | (go_at_call 61; refine (C12.out _ (by first | exact Below.refl _ _ | exact hb1)).mono ?_; rintro e w3 ⟨rfl, hb3⟩))
    go_ret
    exact ⟨ret_bool HQ.out.symm, by first | exact Below.refl _ _ | exact ext_trans hb1 hb2 | exact ext_trans hb1 hb3 | exact hb1 | exact hb2 | exact hb3⟩
  by_cases e3 : cr = 3
  · subst e3
    have hal : Cl.alone 9 = false := rfl
    have hmk : ((9 : Int) == 4 || (9 : Int) == 5) = false := rfl
    have har : Cl.alone 3 = true := rfl
    have hhd : Cl.hd 3 = false := rfl
    have HQ : Hid (Cl.JR 9 3 b10 b11 b12 = false) := by cases b10 <;> cases b11 <;> cases b12 <;> rfl
    go_enter Try.func46, Try.ntmps46
    go_wp2_with (first | (go_at_call 56; refine (isAlone_any _ _).mono ?_; rintro e w' ⟨rfl, rfl⟩; (first | rw [hal] | rw [har])) | (go_at_call 57; refine (isHead_any _ _).mono ?_; rintro e w' ⟨rfl, rfl⟩; rw [hhd]) | (go_at_call 58; refine (isMark_any _ _).mono ?_; rintro e w' ⟨rfl, rfl⟩; rw [hmk]) | (go_at_call 59; refine (C10.out _ (Below.refl _ _)).mono ?_; rintro e w1 ⟨rfl, hb1⟩) | (go_at_call 60; refine (C11.out _ (by first | exact Below.refl _ _ | exact hb1)).mono ?_; rintro e w2 ⟨rfl, hb2⟩) | (go_at_call 61; refine (C12.out _ (by first | exact Below.refl _ _ | exact hb1)).mono ?_; rintro e w3 ⟨rfl, hb3⟩))
    go_ret
    exact ⟨ret_bool HQ.out.symm, by first | exact Below.refl _ _ | exact ext_trans hb1 hb2 | exact ext_trans hb1 hb3 | exact hb1 | exact hb2 | exact hb3⟩
  by_cases e9 : cr = 9
  · subst e9
    have hal : Cl.alone 9 = false := rfl
    have hmk : ((9 : Int) == 4 || (9 : Int) == 5) = false := rfl
    have har : Cl.alone 9 = false := rfl
    have hhd : Cl.hd 9 = true := rfl
    have HQ : Hid (Cl.JR 9 9 b10 b11 b12 = true) := by cases b10 <;> cases b11 <;> cases b12 <;> rfl
    go_enter Try.func46, Try.ntmps46
    go_wp2_with (first | (go_at_call 56; refine (isAlone_any _ _).mono ?_; rintro e w' ⟨rfl, rfl⟩; (first | rw [hal] | rw [har])) | (go_at_call 57; refine (isHead_any _ _).mono ?_; rintro e w' ⟨rfl, rfl⟩; rw [hhd]) | (go_at_call 58; refine (isMark_any _ _).mono ?_; rintro e w' ⟨rfl, rfl⟩; rw [hmk]) | (go_at_call 59; refine (C10.out _ (Below.refl _ _)).mono ?_; rintro e w1 ⟨rfl, hb1⟩) | (go_at_call 60; refine (C11.out _ (by first | exact Below.refl _ _ | exact hb1)).mono ?_; rintro e w2 ⟨rfl, hb2⟩) | (go_at_call 61; refine (C12.out _ (by first | exact Below.refl _ _ | exact hb1)).mono ?_; rintro e w3 ⟨rfl, hb3⟩))
    go_ret
    exact ⟨ret_bool HQ.out.symm, by first | exact Below.refl _ _ | exact ext_trans hb1 hb2 | exact ext_trans hb1 hb3 | exact hb1 | exact hb2 | exact hb3⟩
  by_cases e10 : cr = 10
  · subst e10
    have hal : Cl.alone 9 = false := rfl
    have hmk : ((9 : Int) == 4 || (9 : Int) == 5) = false := rfl
    have har : Cl.alone 10 = false := rfl
    have hhd : Cl.hd 10 = true := rfl
    have HQ : Hid (Cl.JR 9 10 b10 b11 b12 = true) := by cases b10 <;> cases b11 <;> cases b12 <;> rfl
    go_enter Try.func46, Try.ntmps46
    go_wp2_with (first | (go_at_call 56; refine (isAlone_any _ _).mono ?_; rintro e w' ⟨rfl, rfl⟩; (first | rw [hal] | rw [har])) | (go_at_call 57; refine (isHead_any _ _).mono ?_; rintro e w' ⟨rfl, rfl⟩; rw [hhd]) | (go_at_call 58; refine (isMark_any _ _).mono ?_; rintro e w' ⟨rfl, rfl⟩; rw [hmk]) | (go_at_call 59; refine (C10.out _ (Below.refl _ _)).mono ?_; rintro e w1 ⟨rfl, hb1⟩) | (go_at_call 60; refine (C11.out _ (by first | exact Below.refl _ _ | exact hb1)).mono ?_; rintro e w2 ⟨rfl, hb2⟩) | (go_at_call 61; refine (C12.out _ (by first | exact Below.refl _ _ | exact hb1)).mono ?_; rintro e w3 ⟨rfl, hb3⟩))
    go_ret
    exact ⟨ret_bool HQ.out.symm, by first | exact Below.refl _ _ | exact ext_trans hb1 hb2 | exact ext_trans hb1 hb3 | exact hb1 | exact hb2 | exact hb3⟩
  by_cases e12 : cr = 12
  · subst e12
    have hal : Cl.alone 9 = false := rfl
    have hmk : ((9 : Int) == 4 || (9 : Int) == 5) = false := rfl
    have har : Cl.alone 12 = false := rfl
    have hhd : Cl.hd 12 = true := rfl
    have HQ : Hid (Cl.JR 9 12 b10 b11 b12 = true) := by cases b10 <;> cases b11 <;> cases b12 <;> rfl
    go_enter Try.func46, Try.ntmps46
    go_wp2_with (first | (go_at_call 56; refine (isAlone_any _ _).mono ?_; rintro e w' ⟨rfl, rfl⟩; (first | rw [hal] | rw [har])) | (go_at_call 57; refine (isHead_any _ _).mono ?_; rintro e w' ⟨rfl, rfl⟩; rw [hhd]) | (go_at_call 58; refine (isMark_any _ _).mono ?_; rintro e w' ⟨rfl, rfl⟩; rw [hmk]) | (go_at_call 59; refine (C10.out _ (Below.refl _ _)).mono ?_; rintro e w1 ⟨rfl, hb1⟩) | (go_at_call 60; refine (C11.out _ (by first | exact Below.refl _ _ | exact hb1)).mono ?_; rintro e w2 ⟨rfl, hb2⟩) | (go_at_call 61; refine (C12.out _ (by first | exact Below.refl _ _ | exact hb1)).mono ?_; rintro e w3 ⟨rfl, hb3⟩))
    go_ret
    exact ⟨ret_bool HQ.out.symm, by first | exact Below.refl _ _ | exact ext_trans hb1 hb2 | exact ext_trans hb1 hb3 | exact hb1 | exact hb2 | exact hb3⟩
  by_cases e13 : cr = 13
  · subst e13
    have hal : Cl.alone 9 = false := rfl
    have hmk : ((9 : Int) == 4 || (9 : Int) == 5) = false := rfl
    have har : Cl.alone 13 = false := rfl
    have hhd : Cl.hd 13 = true := rfl
    have HQ : Hid (Cl.JR 9 13 b10 b11 b12 = true) := by cases b10 <;> cases b11 <;> cases b12 <;> rfl
    go_enter Try.func46, Try.ntmps46
    go_wp2_with (first | (go_at_call 56; refine (isAlone_any _ _).mono ?_; rintro e w' ⟨rfl, rfl⟩; (first | rw [hal] | rw [har])) | (go_at_call 57; refine (isHead_any _ _).mono ?_; rintro e w' ⟨rfl, rfl⟩; rw [hhd]) | (go_at_call 58; refine (isMark_any _ _).mono ?_; rintro e w' ⟨rfl, rfl⟩; rw [hmk]) | (go_at_call 59; refine (C10.out _ (Below.refl _ _)).mono ?_; rintro e w1 ⟨rfl, hb1⟩) | (go_at_call 60; refine (C11.out _ (by first | exact Below.refl _ _ | exact hb1)).mono ?_; rintro e w2 ⟨rfl, hb2⟩) | (go_at_call 61; refine (C12.out _ (by first | exact Below.refl _ _ | exact hb1)).mono ?_; rintro e w3 ⟨rfl, hb3⟩))
    go_ret
    exact ⟨ret_bool HQ.out.symm, by first | exact Below.refl _ _ | exact ext_trans hb1 hb2 | exact ext_trans hb1 hb3 | exact hb1 | exact hb2 | exact hb3⟩
  by_cases e4 : cr = 4
  · subst e4
    have hal : Cl.alone 9 = false := rfl
    have hmk : ((9 : Int) == 4 || (9 : Int) == 5) = false := rfl
    have har : Cl.alone 4 = false := rfl
    have hhd : Cl.hd 4 = false := rfl
    have HQ : Hid (Cl.JR 9 4 b10 b11 b12 = true) := by cases b10 <;> cases b11 <;> cases b12 <;> rfl
    go_enter Try.func46, Try.ntmps46
    go_wp2_with (first | (go_at_call 56; refine (isAlone_any _ _).mono ?_; rintro e w' ⟨rfl, rfl⟩; (first | rw [hal] | rw [har])) | (go_at_call 57; refine (isHead_any _ _).mono ?_; rintro e w' ⟨rfl, rfl⟩; rw [hhd]) | (go_at_call 58; refine (isMark_any _ _).mono ?_; rintro e w' ⟨rfl, rfl⟩; rw [hmk]) | (go_at_call 59; refine (C10.out _ (Below.refl _ _)).mono ?_; rintro e w1 ⟨rfl, hb1⟩) | (go_at_call 60; refine (C11.out _ (by first | exact Below.refl _ _ | exact hb1)).mono ?_; rintro e w2 ⟨rfl, hb2⟩) | (go_at_call 61; refine (C12.out _ (by first | exact Below.refl _ _ | exact hb1)).mono ?_; rintro e w3 ⟨rfl, hb3⟩))
    go_ret
    exact ⟨ret_bool HQ.out.symm, by first | exact Below.refl _ _ | exact ext_trans hb1 hb2 | exact ext_trans hb1 hb3 | exact hb1 | exact hb2 | exact hb3⟩
  by_cases e5 : cr = 5
  · subst e5
    have hal : Cl.alone 9 = false := rfl
    have hmk : ((9 : Int) == 4 || (9 : Int) == 5) = false := rfl
    have har : Cl.alone 5 = false := rfl
    have hhd : Cl.hd 5 = false := rfl
    have HQ : Hid (Cl.JR 9 5 b10 b11 b12 = true) := by cases b10 <;> cases b11 <;> cases b12 <;> rfl
    go_enter Try.func46, Try.ntmps46
    go_wp2_with (first | (go_at_call 56; refine (isAlone_any _ _).mono ?_; rintro e w' ⟨rfl, rfl⟩; (first | rw [hal] | rw [har])) | (go_at_call 57; refine (isHead_any _ _).mono ?_; rintro e w' ⟨rfl, rfl⟩; rw [hhd]) | (go_at_call 58; refine (isMark_any _ _).mono ?_; rintro e w' ⟨rfl, rfl⟩; rw [hmk]) | (go_at_call 59; refine (C10.out _ (Below.refl _ _)).mono ?_; rintro e w1 ⟨rfl, hb1⟩) | (go_at_call 60; refine (C11.out _ (by first | exact Below.refl _ _ | exact hb1)).mono ?_; rintro e w2 ⟨rfl, hb2⟩) | (go_at_call 61; refine (C12.out _ (by first | exact Below.refl _ _ | exact hb1)).mono ?_; rintro e w3 ⟨rfl, hb3⟩))
    go_ret
    exact ⟨ret_bool HQ.out.symm, by first | exact Below.refl _ _ | exact ext_trans hb1 hb2 | exact ext_trans hb1 hb3 | exact hb1 | exact hb2 | exact hb3⟩
  by_cases e8 : cr = 8
  · subst e8
    have hal : Cl.alone 9 = false := rfl
    have hmk : ((9 : Int) == 4 || (9 : Int) == 5) = false := rfl
    have har : Cl.alone 8 = false := rfl
    have hhd : Cl.hd 8 = false := rfl
    have HQ : Hid (Cl.JR 9 8 b10 b11 b12 = true) := by cases b10 <;> cases b11 <;> cases b12 <;> rfl
    go_enter Try.func46, Try.ntmps46
    go_wp2_with (first | (go_at_call 56; refine (isAlone_any _ _).mono ?_; rintro e w' ⟨rfl, rfl⟩; (first | rw [hal] | rw [har])) | (go_at_call 57; refine (isHead_any _ _).mono ?_; rintro e w' ⟨rfl, rfl⟩; rw [hhd]) | (go_at_call 58; refine (isMark_any _ _).mono ?_; rintro e w' ⟨rfl, rfl⟩; rw [hmk]) | (go_at_call 59; refine (C10.out _ (Below.refl _ _)).mono ?_; rintro e w1 ⟨rfl, hb1⟩) | (go_at_call 60; refine (C11.out _ (by first | exact Below.refl _ _ | exact hb1)).mono ?_; rintro e w2 ⟨rfl, hb2⟩) | (go_at_call 61; refine (C12.out _ (by first | exact Below.refl _ _ | exact hb1)).mono ?_; rintro e w3 ⟨rfl, hb3⟩))
    go_ret
    exact ⟨ret_bool HQ.out.symm, by first | exact Below.refl _ _ | exact ext_trans hb1 hb2 | exact ext_trans hb1 hb3 | exact hb1 | exact hb2 | exact hb3⟩
  have r1 : (cr == 1) = false := by simp [e1]
  have r2 : (cr == 2) = false := by simp [e2]
  have r3 : (cr == 3) = false := by simp [e3]
  have r9 : (cr == 9) = false := by simp [e9]
  have r10 : (cr == 10) = false := by simp [e10]
  have r12 : (cr == 12) = false := by simp [e12]
  have r13 : (cr == 13) = false := by simp [e13]
  have r4 : (cr == 4) = false := by simp [e4]
  have r5 : (cr == 5) = false := by simp [e5]
  have r8 : (cr == 8) = false := by simp [e8]
  have hal : Cl.alone 9 = false := rfl
  have hmk : ((9 : Int) == 4 || (9 : Int) == 5) = false := rfl
  have har : Cl.alone cr = false := by simp [Cl.alone]; omega
  have hhd : Cl.hd cr = false := by simp [Cl.hd]; omega
  have HQ : Hid (Cl.JR 9 cr b10 b11 b12 = false) := by unfold Hid Cl.JR; rw [if_neg (by omega), if_neg (by simp [hal]), if_neg (by simp [har])]; simp [Cl.hg, *]
  go_enter Try.func46, Try.ntmps46
  go_wp2_with (first | (go_at_call 56; refine (isAlone_any _ _).mono ?_; rintro e w' ⟨rfl, rfl⟩; (first | rw [hal] | rw [har])) | (go_at_call 57; refine (isHead_any _ _).mono ?_; rintro e w' ⟨rfl, rfl⟩; rw [hhd]) | (go_at_call 58; refine (isMark_any _ _).mono ?_; rintro e w' ⟨rfl, rfl⟩; rw [hmk]) | (go_at_call 59; refine (C10.out _ (Below.refl _ _)).mono ?_; rintro e w1 ⟨rfl, hb1⟩) | (go_at_call 60; refine (C11.out _ (by first | exact Below.refl _ _ | exact hb1)).mono ?_; rintro e w2 ⟨rfl, hb2⟩) | (go_at_call 61; refine (C12.out _ (by first | exact Below.refl _ _ | exact hb1)).mono ?_; rintro e w3 ⟨rfl, hb3⟩))
  go_ret
  exact ⟨ret_bool HQ.out.symm, by first | exact Below.refl _ _ | exact ext_trans hb1 hb2 | exact ext_trans hb1 hb3 | exact hb1 | exact hb2 | exact hb3⟩

set_option maxRecDepth 100000 in
set_option maxHeartbeats 4000000 in
theorem joined_12 (cr : Int) (b10 b11 b12 : Bool) (ao : Option Addr) (n cap : Nat) (k : Int) (w : World)
    (C10 : Hid (∀ w', Below w.heap.size w w' → Calls Try.prog 59 #[.slice ao n cap, .int .i64 k] w' fun e w'' => e = .returned (.bool b10) ∧ Below w'.heap.size w' w''))
    (C11 : Hid (∀ w', Below w.heap.size w w' → Calls Try.prog 60 #[.slice ao n cap, .int .i64 k] w' fun e w'' => e = .returned (.bool b11) ∧ Below w'.heap.size w' w''))
    (C12 : Hid (∀ w', Below w.heap.size w w' → Calls Try.prog 61 #[.slice ao n cap, .int .i64 k] w' fun e w'' => e = .returned (.bool b12) ∧ Below w'.heap.size w' w'')) :
    Calls Try.prog 46 #[.slice ao n cap, .int .i64 k, .int .i64 (12), .int .i64 cr] w fun e w' => e = .returned (.bool (Cl.JR 12 cr b10 b11 b12)) ∧ Below w.heap.size w w' := by
  by_cases e1 : cr = 1
  · subst e1
    have hal : Cl.alone 12 = false := rfl
    have hmk : ((12 : Int) == 4 || (12 : Int) == 5) = false := rfl
    have har : Cl.alone 1 = true := rfl
    have hhd : Cl.hd 1 = false := rfl
    have HQ : Hid (Cl.JR 12 1 b10 b11 b12 = false) := by cases b10 <;> cases b11 <;> cases b12 <;> rfl
    go_enter Try.func46, Try.ntmps46
    go_wp2_with (first | (go_at_call 56; refine (isAlone_any _ _).mono ?_; rintro e w' ⟨rfl, rfl⟩; (first | rw [hal] | rw [har])) | (go_at_call 57; refine (isHead_any _ _).mono ?_; rintro e w' ⟨rfl, rfl⟩; rw [hhd]) | (go_at_call 58; refine (isMark_any _ _).mono ?_; rintro e w' ⟨rfl, rfl⟩; rw [hmk]) | (go_at_call 59; refine (C10.out _ (Below.refl _ _)).mono ?_; rintro e w1 ⟨rfl, hb1⟩) | (go_at_call 60; refine (C11.out _ (by first | exact Below.refl _ _ | exact hb1)).mono ?_; rintro e w2 ⟨rfl, hb2⟩) | (go_at_call 61; refine (C12.out _ (by first | exact Below.refl _ _ | exact hb1)).mono ?_; rintro e w3 ⟨rfl, hb3⟩))
    go_ret
    exact ⟨ret_bool HQ.out.symm, by first | exact Below.refl _ _ | exact ext_trans hb1 hb2 | exact ext_trans hb1 hb3 | exact hb1 | exact hb2 | exact hb3⟩
  by_cases e2 : cr = 2
  · subst e2
    have hal : Cl.alone 12 = false := rfl
    have hmk : ((12 : Int) == 4 || (12 : Int) == 5) = false := rfl
    have har : Cl.alone 2 = true := rfl
    have hhd : Cl.hd 2 = false := rfl
    have HQ : Hid (Cl.JR 12 2 b10 b11 b12 = false) := by cases b10 <;> cases b11 <;> cases b12 <;> rfl
    go_enter Try.func46, Try.ntmps46
    go_wp2_with (first | (go_at_call 56; refine (isAlone_any _ _).mono ?_; rintro e w' ⟨rfl, rfl⟩; (first | rw [hal] | rw [har])) | (go_at_call 57; refine (isHead_any _ _).mono ?_; rintro e w' ⟨rfl, rfl⟩; rw [hhd]) | (go_at_call 58; refine (isMark_any _ _).mono ?_; rintro e w' ⟨rfl, rfl⟩; rw [hmk]) | (go_at_call 59; refine (C10.out _ (Below.refl _ _)).mono ?_; rintro e w1 ⟨rfl, hb1⟩) | (go_at_call 60; refine (C11.out _ (by first | exact Below.refl _ _ | exact hb1)).mono ?_; rintro e w2 ⟨rfl, hb2⟩) | (go_at_call 61; refine (C12.out _ (by first | exact Below.refl _ _ | exact hb1)).mono ?_; rintro e w3 ⟨rfl, hb3⟩))
    go_ret
    exact ⟨ret_bool HQ.out.symm, by first | exact Below.refl _ _ | exact ext_trans hb1 hb2 | exact ext_trans hb1 hb3 | exact hb1 | exact hb2 | exact hb3⟩
  by_cases e3 : cr = 3
  · subst e3
    have hal : Cl.alone 12 = false := rfl
    have hmk : ((12 : Int) == 4 || (12 : Int) == 5) = false := rfl
    have har : Cl.alone 3 = true := rfl
    have hhd : Cl.hd 3 = false := rfl
    have HQ : Hid (Cl.JR 12 3 b10 b11 b12 = false) := by cases b10 <;> cases b11 <;> cases b12 <;> rfl
    go_enter Try.func46, Try.ntmps46
    go_wp2_with (first | (go_at_call 56; refine (isAlone_any _ _).mono ?_; rintro e w' ⟨rfl, rfl⟩; (first | rw [hal] | rw [har])) | (go_at_call 57; refine (isHead_any _ _).mono ?_; rintro e w' ⟨rfl, rfl⟩; rw [hhd]) | (go_at_call 58; refine (isMark_any _ _).mono ?_; rintro e w' ⟨rfl, rfl⟩; rw [hmk]) | (go_at_call 59; refine (C10.out _ (Below.refl _ _)).mono ?_; rintro e w1 ⟨rfl, hb1⟩) | (go_at_call 60; refine (C11.out _ (by first | exact Below.refl _ _ | exact hb1)).mono ?_; rintro e w2 ⟨rfl, hb2⟩) | (go_at_call 61; refine (C12.out _ (by first | exact Below.refl _ _ | exact hb1)).mono ?_; rintro e w3 ⟨rfl, hb3⟩))
    go_ret
    exact ⟨ret_bool HQ.out.symm, by first | exact Below.refl _ _ | exact ext_trans hb1 hb2 | exact ext_trans hb1 hb3 | exact hb1 | exact hb2 | exact hb3⟩
  by_cases e10 : cr = 10
  · subst e10
    have hal : Cl.alone 12 = false := rfl
    have hmk : ((12 : Int) == 4 || (12 : Int) == 5) = false := rfl
    have har : Cl.alone 10 = false := rfl
    have hhd : Cl.hd 10 = true := rfl
    have HQ : Hid (Cl.JR 12 10 b10 b11 b12 = true) := by cases b10 <;> cases b11 <;> cases b12 <;> rfl
    go_enter Try.func46, Try.ntmps46
    go_wp2_with (first | (go_at_call 56; refine (isAlone_any _ _).mono ?_; rintro e w' ⟨rfl, rfl⟩; (first | rw [hal] | rw [har])) | (go_at_call 57; refine (isHead_any _ _).mono ?_; rintro e w' ⟨rfl, rfl⟩; rw [hhd]) | (go_at_call 58; refine (isMark_any _ _).mono ?_; rintro e w' ⟨rfl, rfl⟩; rw [hmk]) | (go_at_call 59; refine (C10.out _ (Below.refl _ _)).mono ?_; rintro e w1 ⟨rfl, hb1⟩) | (go_at_call 60; refine (C11.out _ (by first | exact Below.refl _ _ | exact hb1)).mono ?_; rintro e w2 ⟨rfl, hb2⟩) | (go_at_call 61; refine (C12.out _ (by first | exact Below.refl _ _ | exact hb1)).mono ?_; rintro e w3 ⟨rfl, hb3⟩))
    go_ret
    exact ⟨ret_bool HQ.out.symm, by first | exact Below.refl _ _ | exact ext_trans hb1 hb2 | exact ext_trans hb1 hb3 | exact hb1 | exact hb2 | exact hb3⟩
  by_cases e11 : cr = 11
  · subst e11
    have hal : Cl.alone 12 = false := rfl
    have hmk : ((12 : Int) == 4 || (12 : Int) == 5) = false := rfl
    have har : Cl.alone 11 = false := rfl
    have hhd : Cl.hd 11 = false := rfl
    have HQ : Hid (Cl.JR 12 11 b10 b11 b12 = true) := by cases b10 <;> cases b11 <;> cases b12 <;> rfl
    go_enter Try.func46, Try.ntmps46
    go_wp2_with (first | (go_at_call 56; refine (isAlone_any _ _).mono ?_; rintro e w' ⟨rfl, rfl⟩; (first | rw [hal] | rw [har])) | (go_at_call 57; refine (isHead_any _ _).mono ?_; rintro e w' ⟨rfl, rfl⟩; rw [hhd]) | (go_at_call 58; refine (isMark_any _ _).mono ?_; rintro e w' ⟨rfl, rfl⟩; rw [hmk]) | (go_at_call 59; refine (C10.out _ (Below.refl _ _)).mono ?_; rintro e w1 ⟨rfl, hb1⟩) | (go_at_call 60; refine (C11.out _ (by first | exact Below.refl _ _ | exact hb1)).mono ?_; rintro e w2 ⟨rfl, hb2⟩) | (go_at_call 61; refine (C12.out _ (by first | exact Below.refl _ _ | exact hb1)).mono ?_; rintro e w3 ⟨rfl, hb3⟩))
    go_ret
    exact ⟨ret_bool HQ.out.symm, by first | exact Below.refl _ _ | exact ext_trans hb1 hb2 | exact ext_trans hb1 hb3 | exact hb1 | exact hb2 | exact hb3⟩
  by_cases e4 : cr = 4
  · subst e4
    have hal : Cl.alone 12 = false := rfl
    have hmk : ((12 : Int) == 4 || (12 : Int) == 5) = false := rfl
    have har : Cl.alone 4 = false := rfl
    have hhd : Cl.hd 4 = false := rfl
    have HQ : Hid (Cl.JR 12 4 b10 b11 b12 = true) := by cases b10 <;> cases b11 <;> cases b12 <;> rfl
    go_enter Try.func46, Try.ntmps46
    go_wp2_with (first | (go_at_call 56; refine (isAlone_any _ _).mono ?_; rintro e w' ⟨rfl, rfl⟩; (first | rw [hal] | rw [har])) | (go_at_call 57; refine (isHead_any _ _).mono ?_; rintro e w' ⟨rfl, rfl⟩; rw [hhd]) | (go_at_call 58; refine (isMark_any _ _).mono ?_; rintro e w' ⟨rfl, rfl⟩; rw [hmk]) | (go_at_call 59; refine (C10.out _ (Below.refl _ _)).mono ?_; rintro e w1 ⟨rfl, hb1⟩) | (go_at_call 60; refine (C11.out _ (by first | exact Below.refl _ _ | exact hb1)).mono ?_; rintro e w2 ⟨rfl, hb2⟩) | (go_at_call 61; refine (C12.out _ (by first | exact Below.refl _ _ | exact hb1)).mono ?_; rintro e w3 ⟨rfl, hb3⟩))
    go_ret
    exact ⟨ret_bool HQ.out.symm, by first | exact Below.refl _ _ | exact ext_trans hb1 hb2 | exact ext_trans hb1 hb3 | exact hb1 | exact hb2 | exact hb3⟩
  by_cases e5 : cr = 5
  · subst e5
    have hal : Cl.alone 12 = false := rfl
    have hmk : ((12 : Int) == 4 || (12 : Int) == 5) = false := rfl
    have har : Cl.alone 5 = false := rfl
    have hhd : Cl.hd 5 = false := rfl
    have HQ : Hid (Cl.JR 12 5 b10 b11 b12 = true) := by cases b10 <;> cases b11 <;> cases b12 <;> rfl
    go_enter Try.func46, Try.ntmps46
    go_wp2_with (first | (go_at_call 56; refine (isAlone_any _ _).mono ?_; rintro e w' ⟨rfl, rfl⟩; (first | rw [hal] | rw [har])) | (go_at_call 57; refine (isHead_any _ _).mono ?_; rintro e w' ⟨rfl, rfl⟩; rw [hhd]) | (go_at_call 58; refine (isMark_any _ _).mono ?_; rintro e w' ⟨rfl, rfl⟩; rw [hmk]) | (go_at_call 59; refine (C10.out _ (Below.refl _ _)).mono ?_; rintro e w1 ⟨rfl, hb1⟩) | (go_at_call 60; refine (C11.out _ (by first | exact Below.refl _ _ | exact hb1)).mono ?_; rintro e w2 ⟨rfl, hb2⟩) | (go_at_call 61; refine (C12.out _ (by first | exact Below.refl _ _ | exact hb1)).mono ?_; rintro e w3 ⟨rfl, hb3⟩))
    go_ret
    exact ⟨ret_bool HQ.out.symm, by first | exact Below.refl _ _ | exact ext_trans hb1 hb2 | exact ext_trans hb1 hb3 | exact hb1 | exact hb2 | exact hb3⟩
  by_cases e8 : cr = 8
  · subst e8
    have hal : Cl.alone 12 = false := rfl
    have hmk : ((12 : Int) == 4 || (12 : Int) == 5) = false := rfl
    have har : Cl.alone 8 = false := rfl
    have hhd : Cl.hd 8 = false := rfl
    have HQ : Hid (Cl.JR 12 8 b10 b11 b12 = true) := by cases b10 <;> cases b11 <;> cases b12 <;> rfl
    go_enter Try.func46, Try.ntmps46
    go_wp2_with (first | (go_at_call 56; refine (isAlone_any _ _).mono ?_; rintro e w' ⟨rfl, rfl⟩; (first | rw [hal] | rw [har])) | (go_at_call 57; refine (isHead_any _ _).mono ?_; rintro e w' ⟨rfl, rfl⟩; rw [hhd]) | (go_at_call 58; refine (isMark_any _ _).mono ?_; rintro e w' ⟨rfl, rfl⟩; rw [hmk]) | (go_at_call 59; refine (C10.out _ (Below.refl _ _)).mono ?_; rintro e w1 ⟨rfl, hb1⟩) | (go_at_call 60; refine (C11.out _ (by first | exact Below.refl _ _ | exact hb1)).mono ?_; rintro e w2 ⟨rfl, hb2⟩) | (go_at_call 61; refine (C12.out _ (by first | exact Below.refl _ _ | exact hb1)).mono ?_; rintro e w3 ⟨rfl, hb3⟩))
    go_ret
    exact ⟨ret_bool HQ.out.symm, by first | exact Below.refl _ _ | exact ext_trans hb1 hb2 | exact ext_trans hb1 hb3 | exact hb1 | exact hb2 | exact hb3⟩
  have r1 : (cr == 1) = false := by simp [e1]
  have r2 : (cr == 2) = false := by simp [e2]
  have r3 : (cr == 3) = false := by simp [e3]
  have r10 : (cr == 10) = false := by simp [e10]
  have r11 : (cr == 11) = false := by simp [e11]
  have r4 : (cr == 4) = false := by simp [e4]
  have r5 : (cr == 5) = false := by simp [e5]
  have r8 : (cr == 8) = false := by simp [e8]
  have hal : Cl.alone 12 = false := rfl
  have hmk : ((12 : Int) == 4 || (12 : Int) == 5) = false := rfl
  have har : Cl.alone cr = false := by simp [Cl.alone]; omega
  have hhd : Cl.hd cr = Cl.hd cr := rfl
  have HQ : Hid (Cl.JR 12 cr b10 b11 b12 = false) := by unfold Hid Cl.JR; rw [if_neg (by omega), if_neg (by simp [hal]), if_neg (by simp [har])]; simp [Cl.hg, *]
  go_enter Try.func46, Try.ntmps46
  go_wp2_with (first | (go_at_call 56; refine (isAlone_any _ _).mono ?_; rintro e w' ⟨rfl, rfl⟩; (first | rw [hal] | rw [har])) | (go_at_call 57; refine (isHead_any _ _).mono ?_; rintro e w' ⟨rfl, rfl⟩; rw [hhd]) | (go_at_call 58; refine (isMark_any _ _).mono ?_; rintro e w' ⟨rfl, rfl⟩; rw [hmk]) | (go_at_call 59; refine (C10.out _ (Below.refl _ _)).mono ?_; rintro e w1 ⟨rfl, hb1⟩) | (go_at_call 60; refine (C11.out _ (by first | exact Below.refl _ _ | exact hb1)).mono ?_; rintro e w2 ⟨rfl, hb2⟩) | (go_at_call 61; refine (C12.out _ (by first | exact Below.refl _ _ | exact hb1)).mono ?_; rintro e w3 ⟨rfl, hb3⟩))
  go_ret
  exact ⟨ret_bool HQ.out.symm, by first | exact Below.refl _ _ | exact ext_trans hb1 hb2 | exact ext_trans hb1 hb3 | exact hb1 | exact hb2 | exact hb3⟩

set_option maxRecDepth 100000 in
set_option maxHeartbeats 4000000 in
theorem joined_10 (cr : Int) (b10 b11 b12 : Bool) (ao : Option Addr) (n cap : Nat) (k : Int) (w : World)
    (C10 : Hid (∀ w', Below w.heap.size w w' → Calls Try.prog 59 #[.slice ao n cap, .int .i64 k] w' fun e w'' => e = .returned (.bool b10) ∧ Below w'.heap.size w' w''))
    (C11 : Hid (∀ w', Below w.heap.size w w' → Calls Try.prog 60 #[.slice ao n cap, .int .i64 k] w' fun e w'' => e = .returned (.bool b11) ∧ Below w'.heap.size w' w''))
    (C12 : Hid (∀ w', Below w.heap.size w w' → Calls Try.prog 61 #[.slice ao n cap, .int .i64 k] w' fun e w'' => e = .returned (.bool b12) ∧ Below w'.heap.size w' w'')) :
    Calls Try.prog 46 #[.slice ao n cap, .int .i64 k, .int .i64 (10), .int .i64 cr] w fun e w' => e = .returned (.bool (Cl.JR 10 cr b10 b11 b12)) ∧ Below w.heap.size w w' := by
  by_cases e1 : cr = 1
  · subst e1
    have hal : Cl.alone 10 = false := rfl
    have hmk : ((10 : Int) == 4 || (10 : Int) == 5) = false := rfl
    have har : Cl.alone 1 = true := rfl
    have hhd : Cl.hd 1 = false := rfl
    have HQ : Hid (Cl.JR 10 1 b10 b11 b12 = false) := by cases b10 <;> cases b11 <;> cases b12 <;> rfl
    go_enter Try.func46, Try.ntmps46
    go_wp2_with (first | (go_at_call 56; refine (isAlone_any _ _).mono ?_; rintro e w' ⟨rfl, rfl⟩; (first | rw [hal] | rw [har])) | (go_at_call 57; refine (isHead_any _ _).mono ?_; rintro e w' ⟨rfl, rfl⟩; rw [hhd]) | (go_at_call 58; refine (isMark_any _ _).mono ?_; rintro e w' ⟨rfl, rfl⟩; rw [hmk]) | (go_at_call 59; refine (C10.out _ (Below.refl _ _)).mono ?_; rintro e w1 ⟨rfl, hb1⟩) | (go_at_call 60; refine (C11.out _ (by first | exact Below.refl _ _ | exact hb1)).mono ?_; rintro e w2 ⟨rfl, hb2⟩) | (go_at_call 61; refine (C12.out _ (by first | exact Below.refl _ _ | exact hb1)).mono ?_; rintro e w3 ⟨rfl, hb3⟩))
    go_ret
    exact ⟨ret_bool HQ.out.symm, by first | exact Below.refl _ _ | exact ext_trans hb1 hb2 | exact ext_trans hb1 hb3 | exact hb1 | exact hb2 | exact hb3⟩
  by_cases e2 : cr = 2
  · subst e2
    have hal : Cl.alone 10 = false := rfl
    have hmk : ((10 : Int) == 4 || (10 : Int) == 5) = false := rfl
    have har : Cl.alone 2 = true := rfl
    have hhd : Cl.hd 2 = false := rfl
    have HQ : Hid (Cl.JR 10 2 b10 b11 b12 = false) := by cases b10 <;> cases b11 <;> cases b12 <;> rfl
    go_enter Try.func46, Try.ntmps46
    go_wp2_with (first | (go_at_call 56; refine (isAlone_any _ _).mono ?_; rintro e w' ⟨rfl, rfl⟩; (first | rw [hal] | rw [har])) | (go_at_call 57; refine (isHead_any _ _).mono ?_; rintro e w' ⟨rfl, rfl⟩; rw [hhd]) | (go_at_call 58; refine (isMark_any _ _).mono ?_; rintro e w' ⟨rfl, rfl⟩; rw [hmk]) | (go_at_call 59; refine (C10.out _ (Below.refl _ _)).mono ?_; rintro e w1 ⟨rfl, hb1⟩) | (go_at_call 60; refine (C11.out _ (by first | exact Below.refl _ _ | exact hb1)).mono ?_; rintro e w2 ⟨rfl, hb2⟩) | (go_at_call 61; refine (C12.out _ (by first | exact Below.refl _ _ | exact hb1)).mono ?_; rintro e w3 ⟨rfl, hb3⟩))
    go_ret
    exact ⟨ret_bool HQ.out.symm, by first | exact Below.refl _ _ | exact ext_trans hb1 hb2 | exact ext_trans hb1 hb3 | exact hb1 | exact hb2 | exact hb3⟩
  by_cases e3 : cr = 3
  · subst e3
    have hal : Cl.alone 10 = false := rfl
    have hmk : ((10 : Int) == 4 || (10 : Int) == 5) = false := rfl
    have har : Cl.alone 3 = true := rfl
    have hhd : Cl.hd 3 = false := rfl
    have HQ : Hid (Cl.JR 10 3 b10 b11 b12 = false) := by cases b10 <;> cases b11 <;> cases b12 <;> rfl
    go_enter Try.func46, Try.ntmps46
    go_wp2_with (first | (go_at_call 56; refine (isAlone_any _ _).mono ?_; rintro e w' ⟨rfl, rfl⟩; (first | rw [hal] | rw [har])) | (go_at_call 57; refine (isHead_any _ _).mono ?_; rintro e w' ⟨rfl, rfl⟩; rw [hhd]) | (go_at_call 58; refine (isMark_any _ _).mono ?_; rintro e w' ⟨rfl, rfl⟩; rw [hmk]) | (go_at_call 59; refine (C10.out _ (Below.refl _ _)).mono ?_; rintro e w1 ⟨rfl, hb1⟩) | (go_at_call 60; refine (C11.out _ (by first | exact Below.refl _ _ | exact hb1)).mono ?_; rintro e w2 ⟨rfl, hb2⟩) | (go_at_call 61; refine (C12.out _ (by first | exact Below.refl _ _ | exact hb1)).mono ?_; rintro e w3 ⟨rfl, hb3⟩))
    go_ret
    exact ⟨ret_bool HQ.out.symm, by first | exact Below.refl _ _ | exact ext_trans hb1 hb2 | exact ext_trans hb1 hb3 | exact hb1 | exact hb2 | exact hb3⟩
  by_cases e10 : cr = 10
  · subst e10
    have hal : Cl.alone 10 = false := rfl
    have hmk : ((10 : Int) == 4 || (10 : Int) == 5) = false := rfl
    have har : Cl.alone 10 = false := rfl
    have hhd : Cl.hd 10 = true := rfl
    have HQ : Hid (Cl.JR 10 10 b10 b11 b12 = true) := by cases b10 <;> cases b11 <;> cases b12 <;> rfl
    go_enter Try.func46, Try.ntmps46
    go_wp2_with (first | (go_at_call 56; refine (isAlone_any _ _).mono ?_; rintro e w' ⟨rfl, rfl⟩; (first | rw [hal] | rw [har])) | (go_at_call 57; refine (isHead_any _ _).mono ?_; rintro e w' ⟨rfl, rfl⟩; rw [hhd]) | (go_at_call 58; refine (isMark_any _ _).mono ?_; rintro e w' ⟨rfl, rfl⟩; rw [hmk]) | (go_at_call 59; refine (C10.out _ (Below.refl _ _)).mono ?_; rintro e w1 ⟨rfl, hb1⟩) | (go_at_call 60; refine (C11.out _ (by first | exact Below.refl _ _ | exact hb1)).mono ?_; rintro e w2 ⟨rfl, hb2⟩) | (go_at_call 61; refine (C12.out _ (by first | exact Below.refl _ _ | exact hb1)).mono ?_; rintro e w3 ⟨rfl, hb3⟩))
    go_ret
    exact ⟨ret_bool HQ.out.symm, by first | exact Below.refl _ _ | exact ext_trans hb1 hb2 | exact ext_trans hb1 hb3 | exact hb1 | exact hb2 | exact hb3⟩
  by_cases e11 : cr = 11
  · subst e11
    have hal : Cl.alone 10 = false := rfl
    have hmk : ((10 : Int) == 4 || (10 : Int) == 5) = false := rfl
    have har : Cl.alone 11 = false := rfl
    have hhd : Cl.hd 11 = false := rfl
    have HQ : Hid (Cl.JR 10 11 b10 b11 b12 = true) := by cases b10 <;> cases b11 <;> cases b12 <;> rfl
    go_enter Try.func46, Try.ntmps46
    go_wp2_with (first | (go_at_call 56; refine (isAlone_any _ _).mono ?_; rintro e w' ⟨rfl, rfl⟩; (first | rw [hal] | rw [har])) | (go_at_call 57; refine (isHead_any _ _).mono ?_; rintro e w' ⟨rfl, rfl⟩; rw [hhd]) | (go_at_call 58; refine (isMark_any _ _).mono ?_; rintro e w' ⟨rfl, rfl⟩; rw [hmk]) | (go_at_call 59; refine (C10.out _ (Below.refl _ _)).mono ?_; rintro e w1 ⟨rfl, hb1⟩) | (go_at_call 60; refine (C11.out _ (by first | exact Below.refl _ _ | exact hb1)).mono ?_; rintro e w2 ⟨rfl, hb2⟩) | (go_at_call 61; refine (C12.out _ (by first | exact Below.refl _ _ | exact hb1)).mono ?_; rintro e w3 ⟨rfl, hb3⟩))
    go_ret
    exact ⟨ret_bool HQ.out.symm, by first | exact Below.refl _ _ | exact ext_trans hb1 hb2 | exact ext_trans hb1 hb3 | exact hb1 | exact hb2 | exact hb3⟩
  by_cases e4 : cr = 4
  · subst e4
    have hal : Cl.alone 10 = false := rfl
    have hmk : ((10 : Int) == 4 || (10 : Int) == 5) = false := rfl
    have har : Cl.alone 4 = false := rfl
    have hhd : Cl.hd 4 = false := rfl
    have HQ : Hid (Cl.JR 10 4 b10 b11 b12 = true) := by cases b10 <;> cases b11 <;> cases b12 <;> rfl
    go_enter Try.func46, Try.ntmps46
    go_wp2_with (first | (go_at_call 56; refine (isAlone_any _ _).mono ?_; rintro e w' ⟨rfl, rfl⟩; (first | rw [hal] | rw [har])) | (go_at_call 57; refine (isHead_any _ _).mono ?_; rintro e w' ⟨rfl, rfl⟩; rw [hhd]) | (go_at_call 58; refine (isMark_any _ _).mono ?_; rintro e w' ⟨rfl, rfl⟩; rw [hmk]) | (go_at_call 59; refine (C10.out _ (Below.refl _ _)).mono ?_; rintro e w1 ⟨rfl, hb1⟩) | (go_at_call 60; refine (C11.out _ (by first | exact Below.refl _ _ | exact hb1)).mono ?_; rintro e w2 ⟨rfl, hb2⟩) | (go_at_call 61; refine (C12.out _ (by first | exact Below.refl _ _ | exact hb1)).mono ?_; rintro e w3 ⟨rfl, hb3⟩))
    go_ret
    exact ⟨ret_bool HQ.out.symm, by first | exact Below.refl _ _ | exact ext_trans hb1 hb2 | exact ext_trans hb1 hb3 | exact hb1 | exact hb2 | exact hb3⟩
  by_cases e5 : cr = 5
  · subst e5
    have hal : Cl.alone 10 = false := rfl
    have hmk : ((10 : Int) == 4 || (10 : Int) == 5) = false := rfl
    have har : Cl.alone 5 = false := rfl
    have hhd : Cl.hd 5 = false := rfl
    have HQ : Hid (Cl.JR 10 5 b10 b11 b12 = true) := by cases b10 <;> cases b11 <;> cases b12 <;> rfl
    go_enter Try.func46, Try.ntmps46
    go_wp2_with (first | (go_at_call 56; refine (isAlone_any _ _).mono ?_; rintro e w' ⟨rfl, rfl⟩; (first | rw [hal] | rw [har])) | (go_at_call 57; refine (isHead_any _ _).mono ?_; rintro e w' ⟨rfl, rfl⟩; rw [hhd]) | (go_at_call 58; refine (isMark_any _ _).mono ?_; rintro e w' ⟨rfl, rfl⟩; rw [hmk]) | (go_at_call 59; refine (C10.out _ (Below.refl _ _)).mono ?_; rintro e w1 ⟨rfl, hb1⟩) | (go_at_call 60; refine (C11.out _ (by first | exact Below.refl _ _ | exact hb1)).mono ?_; rintro e w2 ⟨rfl, hb2⟩) | (go_at_call 61; refine (C12.out _ (by first | exact Below.refl _ _ | exact hb1)).mono ?_; rintro e w3 ⟨rfl, hb3⟩))
    go_ret
    exact ⟨ret_bool HQ.out.symm, by first | exact Below.refl _ _ | exact ext_trans hb1 hb2 | exact ext_trans hb1 hb3 | exact hb1 | exact hb2 | exact hb3⟩
  by_cases e8 : cr = 8
  · subst e8
    have hal : Cl.alone 10 = false := rfl
    have hmk : ((10 : Int) == 4 || (10 : Int) == 5) = false := rfl
    have har : Cl.alone 8 = false := rfl
    have hhd : Cl.hd 8 = false := rfl
    have HQ : Hid (Cl.JR 10 8 b10 b11 b12 = true) := by cases b10 <;> cases b11 <;> cases b12 <;> rfl
    go_enter Try.func46, Try.ntmps46
    go_wp2_with (first | (go_at_call 56; refine (isAlone_any _ _).mono ?_; rintro e w' ⟨rfl, rfl⟩; (first | rw [hal] | rw [har])) | (go_at_call 57; refine (isHead_any _ _).mono ?_; rintro e w' ⟨rfl, rfl⟩; rw [hhd]) | (go_at_call 58; refine (isMark_any _ _).mono ?_; rintro e w' ⟨rfl, rfl⟩; rw [hmk]) | (go_at_call 59; refine (C10.out _ (Below.refl _ _)).mono ?_; rintro e w1 ⟨rfl, hb1⟩) | (go_at_call 60; refine (C11.out _ (by first | exact Below.refl _ _ | exact hb1)).mono ?_; rintro e w2 ⟨rfl, hb2⟩) | (go_at_call 61; refine (C12.out _ (by first | exact Below.refl _ _ | exact hb1)).mono ?_; rintro e w3 ⟨rfl, hb3⟩))
    go_ret
    exact ⟨ret_bool HQ.out.symm, by first | exact Below.refl _ _ | exact ext_trans hb1 hb2 | exact ext_trans hb1 hb3 | exact hb1 | exact hb2 | exact hb3⟩
  have r1 : (cr == 1) = false := by simp [e1]
  have r2 : (cr == 2) = false := by simp [e2]
  have r3 : (cr == 3) = false := by simp [e3]
  have r10 : (cr == 10) = false := by simp [e10]
  have r11 : (cr == 11) = false := by simp [e11]
  have r4 : (cr == 4) = false := by simp [e4]
  have r5 : (cr == 5) = false := by simp [e5]
  have r8 : (cr == 8) = false := by simp [e8]
  have hal : Cl.alone 10 = false := rfl
  have hmk : ((10 : Int) == 4 || (10 : Int) == 5) = false := rfl
  have har : Cl.alone cr = false := by simp [Cl.alone]; omega
  have hhd : Cl.hd cr = Cl.hd cr := rfl
  have HQ : Hid (Cl.JR 10 cr b10 b11 b12 = false) := by unfold Hid Cl.JR; rw [if_neg (by omega), if_neg (by simp [hal]), if_neg (by simp [har])]; simp [Cl.hg, *]
  go_enter Try.func46, Try.ntmps46
  go_wp2_with (first | (go_at_call 56; refine (isAlone_any _ _).mono ?_; rintro e w' ⟨rfl, rfl⟩; (first | rw [hal] | rw [har])) | (go_at_call 57; refine (isHead_any _ _).mono ?_; rintro e w' ⟨rfl, rfl⟩; rw [hhd]) | (go_at_call 58; refine (isMark_any _ _).mono ?_; rintro e w' ⟨rfl, rfl⟩; rw [hmk]) | (go_at_call 59; refine (C10.out _ (Below.refl _ _)).mono ?_; rintro e w1 ⟨rfl, hb1⟩) | (go_at_call 60; refine (C11.out _ (by first | exact Below.refl _ _ | exact hb1)).mono ?_; rintro e w2 ⟨rfl, hb2⟩) | (go_at_call 61; refine (C12.out _ (by first | exact Below.refl _ _ | exact hb1)).mono ?_; rintro e w3 ⟨rfl, hb3⟩))
  go_ret
  exact ⟨ret_bool HQ.out.symm, by first | exact Below.refl _ _ | exact ext_trans hb1 hb2 | exact ext_trans hb1 hb3 | exact hb1 | exact hb2 | exact hb3⟩

set_option maxRecDepth 100000 in
set_option maxHeartbeats 4000000 in
theorem joined_13 (cr : Int) (b10 b11 b12 : Bool) (ao : Option Addr) (n cap : Nat) (k : Int) (w : World)
    (C10 : Hid (∀ w', Below w.heap.size w w' → Calls Try.prog 59 #[.slice ao n cap, .int .i64 k] w' fun e w'' => e = .returned (.bool b10) ∧ Below w'.heap.size w' w''))
    (C11 : Hid (∀ w', Below w.heap.size w w' → Calls Try.prog 60 #[.slice ao n cap, .int .i64 k] w' fun e w'' => e = .returned (.bool b11) ∧ Below w'.heap.size w' w''))
    (C12 : Hid (∀ w', Below w.heap.size w w' → Calls Try.prog 61 #[.slice ao n cap, .int .i64 k] w' fun e w'' => e = .returned (.bool b12) ∧ Below w'.heap.size w' w'')) :
    Calls Try.prog 46 #[.slice ao n cap, .int .i64 k, .int .i64 (13), .int .i64 cr] w fun e w' => e = .returned (.bool (Cl.JR 13 cr b10 b11 b12)) ∧ Below w.heap.size w w' := by
  by_cases e1 : cr = 1
  · subst e1
    have hal : Cl.alone 13 = false := rfl
    have hmk : ((13 : Int) == 4 || (13 : Int) == 5) = false := rfl
    have har : Cl.alone 1 = true := rfl
    have hhd : Cl.hd 1 = false := rfl
    have HQ : Hid (Cl.JR 13 1 b10 b11 b12 = false) := by cases b10 <;> cases b11 <;> cases b12 <;> rfl
    go_enter Try.func46, Try.ntmps46
    go_wp2_with (first | (go_at_call 56; refine (isAlone_any _ _).mono ?_; rintro e w' ⟨rfl, rfl⟩; (first | rw [hal] | rw [har])) | (go_at_call 57; refine (isHead_any _ _).mono ?_; rintro e w' ⟨rfl, rfl⟩; rw [hhd]) | (go_at_call 58; refine (isMark_any _ _).mono ?_; rintro e w' ⟨rfl, rfl⟩; rw [hmk]) | (go_at_call 59; refine (C10.out _ (Below.refl _ _)).mono ?_; rintro e w1 ⟨rfl, hb1⟩) | (go_at_call 60; refine (C11.out _ (by first | exact Below.refl _ _ | exact hb1)).mono ?_; rintro e w2 ⟨rfl, hb2⟩) | (go_at_call 61; refine (C12.out _ (by first | exact Below.refl _ _ | exact hb1)).mono ?_; rintro e w3 ⟨rfl, hb3⟩))
    go_ret
    exact ⟨ret_bool HQ.out.symm, by first | exact Below.refl _ _ | exact ext_trans hb1 hb2 | exact ext_trans hb1 hb3 | exact hb1 | exact hb2 | exact hb3⟩
  by_cases e2 : cr = 2
  · subst e2
    have hal : Cl.alone 13 = false := rfl
    have hmk : ((13 : Int) == 4 || (13 : Int) == 5) = false := rfl
    have har : Cl.alone 2 = true := rfl
    have hhd : Cl.hd 2 = false := rfl
    have HQ : Hid (Cl.JR 13 2 b10 b11 b12 = false) := by cases b10 <;> cases b11 <;> cases b12 <;> rfl
    go_enter Try.func46, Try.ntmps46
    go_wp2_with (first | (go_at_call 56; refine (isAlone_any _ _).mono ?_; rintro e w' ⟨rfl, rfl⟩; (first | rw [hal] | rw [har])) | (go_at_call 57; refine (isHead_any _ _).mono ?_; rintro e w' ⟨rfl, rfl⟩; rw [hhd]) | (go_at_call 58; refine (isMark_any _ _).mono ?_; rintro e w' ⟨rfl, rfl⟩; rw [hmk]) | (go_at_call 59; refine (C10.out _ (Below.refl _ _)).mono ?_; rintro e w1 ⟨rfl, hb1⟩) | (go_at_call 60; refine (C11.out _ (by first | exact Below.refl _ _ | exact hb1)).mono ?_; rintro e w2 ⟨rfl, hb2⟩) | (go_at_call 61; refine (C12.out _ (by first | exact Below.refl _ _ | exact hb1)).mono ?_; rintro e w3 ⟨rfl, hb3⟩))
    go_ret
    exact ⟨ret_bool HQ.out.symm, by first | exact Below.refl _ _ | exact ext_trans hb1 hb2 | exact ext_trans hb1 hb3 | exact hb1 | exact hb2 | exact hb3⟩
  by_cases e3 : cr = 3
  · subst e3
    have hal : Cl.alone 13 = false := rfl
    have hmk : ((13 : Int) == 4 || (13 : Int) == 5) = false := rfl
    have har : Cl.alone 3 = true := rfl
    have hhd : Cl.hd 3 = false := rfl
    have HQ : Hid (Cl.JR 13 3 b10 b11 b12 = false) := by cases b10 <;> cases b11 <;> cases b12 <;> rfl
    go_enter Try.func46, Try.ntmps46
    go_wp2_with (first | (go_at_call 56; refine (isAlone_any _ _).mono ?_; rintro e w' ⟨rfl, rfl⟩; (first | rw [hal] | rw [har])) | (go_at_call 57; refine (isHead_any _ _).mono ?_; rintro e w' ⟨rfl, rfl⟩; rw [hhd]) | (go_at_call 58; refine (isMark_any _ _).mono ?_; rintro e w' ⟨rfl, rfl⟩; rw [hmk]) | (go_at_call 59; refine (C10.out _ (Below.refl _ _)).mono ?_; rintro e w1 ⟨rfl, hb1⟩) | (go_at_call 60; refine (C11.out _ (by first | exact Below.refl _ _ | exact hb1)).mono ?_; rintro e w2 ⟨rfl, hb2⟩) | (go_at_call 61; refine (C12.out _ (by first | exact Below.refl _ _ | exact hb1)).mono ?_; rintro e w3 ⟨rfl, hb3⟩))
    go_ret
    exact ⟨ret_bool HQ.out.symm, by first | exact Below.refl _ _ | exact ext_trans hb1 hb2 | exact ext_trans hb1 hb3 | exact hb1 | exact hb2 | exact hb3⟩
  by_cases e11 : cr = 11
  · subst e11
    have hal : Cl.alone 13 = false := rfl
    have hmk : ((13 : Int) == 4 || (13 : Int) == 5) = false := rfl
    have har : Cl.alone 11 = false := rfl
    have hhd : Cl.hd 11 = false := rfl
    have HQ : Hid (Cl.JR 13 11 b10 b11 b12 = true) := by cases b10 <;> cases b11 <;> cases b12 <;> rfl
    go_enter Try.func46, Try.ntmps46
    go_wp2_with (first | (go_at_call 56; refine (isAlone_any _ _).mono ?_; rintro e w' ⟨rfl, rfl⟩; (first | rw [hal] | rw [har])) | (go_at_call 57; refine (isHead_any _ _).mono ?_; rintro e w' ⟨rfl, rfl⟩; rw [hhd]) | (go_at_call 58; refine (isMark_any _ _).mono ?_; rintro e w' ⟨rfl, rfl⟩; rw [hmk]) | (go_at_call 59; refine (C10.out _ (Below.refl _ _)).mono ?_; rintro e w1 ⟨rfl, hb1⟩) | (go_at_call 60; refine (C11.out _ (by first | exact Below.refl _ _ | exact hb1)).mono ?_; rintro e w2 ⟨rfl, hb2⟩) | (go_at_call 61; refine (C12.out _ (by first | exact Below.refl _ _ | exact hb1)).mono ?_; rintro e w3 ⟨rfl, hb3⟩))
    go_ret
    exact ⟨ret_bool HQ.out.symm, by first | exact Below.refl _ _ | exact ext_trans hb1 hb2 | exact ext_trans hb1 hb3 | exact hb1 | exact hb2 | exact hb3⟩
  by_cases e4 : cr = 4
  · subst e4
    have hal : Cl.alone 13 = false := rfl
    have hmk : ((13 : Int) == 4 || (13 : Int) == 5) = false := rfl
    have har : Cl.alone 4 = false := rfl
    have hhd : Cl.hd 4 = false := rfl
    have HQ : Hid (Cl.JR 13 4 b10 b11 b12 = true) := by cases b10 <;> cases b11 <;> cases b12 <;> rfl
    go_enter Try.func46, Try.ntmps46
    go_wp2_with (first | (go_at_call 56; refine (isAlone_any _ _).mono ?_; rintro e w' ⟨rfl, rfl⟩; (first | rw [hal] | rw [har])) | (go_at_call 57; refine (isHead_any _ _).mono ?_; rintro e w' ⟨rfl, rfl⟩; rw [hhd]) | (go_at_call 58; refine (isMark_any _ _).mono ?_; rintro e w' ⟨rfl, rfl⟩; rw [hmk]) | (go_at_call 59; refine (C10.out _ (Below.refl _ _)).mono ?_; rintro e w1 ⟨rfl, hb1⟩) | (go_at_call 60; refine (C11.out _ (by first | exact Below.refl _ _ | exact hb1)).mono ?_; rintro e w2 ⟨rfl, hb2⟩) | (go_at_call 61; refine (C12.out _ (by first | exact Below.refl _ _ | exact hb1)).mono ?_; rintro e w3 ⟨rfl, hb3⟩))
    go_ret
    exact ⟨ret_bool HQ.out.symm, by first | exact Below.refl _ _ | exact ext_trans hb1 hb2 | exact ext_trans hb1 hb3 | exact hb1 | exact hb2 | exact hb3⟩
  by_cases e5 : cr = 5
  · subst e5
    have hal : Cl.alone 13 = false := rfl
    have hmk : ((13 : Int) == 4 || (13 : Int) == 5) = false := rfl
    have har : Cl.alone 5 = false := rfl
    have hhd : Cl.hd 5 = false := rfl
    have HQ : Hid (Cl.JR 13 5 b10 b11 b12 = true) := by cases b10 <;> cases b11 <;> cases b12 <;> rfl
    go_enter Try.func46, Try.ntmps46
    go_wp2_with (first | (go_at_call 56; refine (isAlone_any _ _).mono ?_; rintro e w' ⟨rfl, rfl⟩; (first | rw [hal] | rw [har])) | (go_at_call 57; refine (isHead_any _ _).mono ?_; rintro e w' ⟨rfl, rfl⟩; rw [hhd]) | (go_at_call 58; refine (isMark_any _ _).mono ?_; rintro e w' ⟨rfl, rfl⟩; rw [hmk]) | (go_at_call 59; refine (C10.out _ (Below.refl _ _)).mono ?_; rintro e w1 ⟨rfl, hb1⟩) | (go_at_call 60; refine (C11.out _ (by first | exact Below.refl _ _ | exact hb1)).mono ?_; rintro e w2 ⟨rfl, hb2⟩) | (go_at_call 61; refine (C12.out _ (by first | exact Below.refl _ _ | exact hb1)).mono ?_; rintro e w3 ⟨rfl, hb3⟩))
    go_ret
    exact ⟨ret_bool HQ.out.symm, by first | exact Below.refl _ _ | exact ext_trans hb1 hb2 | exact ext_trans hb1 hb3 | exact hb1 | exact hb2 | exact hb3⟩
  by_cases e8 : cr = 8
  · subst e8
    have hal : Cl.alone 13 = false := rfl
    have hmk : ((13 : Int) == 4 || (13 : Int) == 5) = false := rfl
    have har : Cl.alone 8 = false := rfl
    have hhd : Cl.hd 8 = false := rfl
    have HQ : Hid (Cl.JR 13 8 b10 b11 b12 = true) := by cases b10 <;> cases b11 <;> cases b12 <;> rfl
    go_enter Try.func46, Try.ntmps46
    go_wp2_with (first | (go_at_call 56; refine (isAlone_any _ _).mono ?_; rintro e w' ⟨rfl, rfl⟩; (first | rw [hal] | rw [har])) | (go_at_call 57; refine (isHead_any _ _).mono ?_; rintro e w' ⟨rfl, rfl⟩; rw [hhd]) | (go_at_call 58; refine (isMark_any _ _).mono ?_; rintro e w' ⟨rfl, rfl⟩; rw [hmk]) | (go_at_call 59; refine (C10.out _ (Below.refl _ _)).mono ?_; rintro e w1 ⟨rfl, hb1⟩) | (go_at_call 60; refine (C11.out _ (by first | exact Below.refl _ _ | exact hb1)).mono ?_; rintro e w2 ⟨rfl, hb2⟩) | (go_at_call 61; refine (C12.out _ (by first | exact Below.refl _ _ | exact hb1)).mono ?_; rintro e w3 ⟨rfl, hb3⟩))
    go_ret
    exact ⟨ret_bool HQ.out.symm, by first | exact Below.refl _ _ | exact ext_trans hb1 hb2 | exact ext_trans hb1 hb3 | exact hb1 | exact hb2 | exact hb3⟩
  have r1 : (cr == 1) = false := by simp [e1]
  have r2 : (cr == 2) = false := by simp [e2]
  have r3 : (cr == 3) = false := by simp [e3]
  have r11 : (cr == 11) = false := by simp [e11]
  have r4 : (cr == 4) = false := by simp [e4]
  have r5 : (cr == 5) = false := by simp [e5]
  have r8 : (cr == 8) = false := by simp [e8]
  have hal : Cl.alone 13 = false := rfl
  have hmk : ((13 : Int) == 4 || (13 : Int) == 5) = false := rfl
  have har : Cl.alone cr = false := by simp [Cl.alone]; omega
  have hhd : Cl.hd cr = Cl.hd cr := rfl
  have HQ : Hid (Cl.JR 13 cr b10 b11 b12 = false) := by unfold Hid Cl.JR; rw [if_neg (by omega), if_neg (by simp [hal]), if_neg (by simp [har])]; simp [Cl.hg, *]
  go_enter Try.func46, Try.ntmps46
  go_wp2_with (first | (go_at_call 56; refine (isAlone_any _ _).mono ?_; rintro e w' ⟨rfl, rfl⟩; (first | rw [hal] | rw [har])) | (go_at_call 57; refine (isHead_any _ _).mono ?_; rintro e w' ⟨rfl, rfl⟩; rw [hhd]) | (go_at_call 58; refine (isMark_any _ _).mono ?_; rintro e w' ⟨rfl, rfl⟩; rw [hmk]) | (go_at_call 59; refine (C10.out _ (Below.refl _ _)).mono ?_; rintro e w1 ⟨rfl, hb1⟩) | (go_at_call 60; refine (C11.out _ (by first | exact Below.refl _ _ | exact hb1)).mono ?_; rintro e w2 ⟨rfl, hb2⟩) | (go_at_call 61; refine (C12.out _ (by first | exact Below.refl _ _ | exact hb1)).mono ?_; rintro e w3 ⟨rfl, hb3⟩))
  go_ret
  exact ⟨ret_bool HQ.out.symm, by first | exact Below.refl _ _ | exact ext_trans hb1 hb2 | exact ext_trans hb1 hb3 | exact hb1 | exact hb2 | exact hb3⟩

set_option maxRecDepth 100000 in
set_option maxHeartbeats 4000000 in
theorem joined_11 (cr : Int) (b10 b11 b12 : Bool) (ao : Option Addr) (n cap : Nat) (k : Int) (w : World)
    (C10 : Hid (∀ w', Below w.heap.size w w' → Calls Try.prog 59 #[.slice ao n cap, .int .i64 k] w' fun e w'' => e = .returned (.bool b10) ∧ Below w'.heap.size w' w''))
    (C11 : Hid (∀ w', Below w.heap.size w w' → Calls Try.prog 60 #[.slice ao n cap, .int .i64 k] w' fun e w'' => e = .returned (.bool b11) ∧ Below w'.heap.size w' w''))
    (C12 : Hid (∀ w', Below w.heap.size w w' → Calls Try.prog 61 #[.slice ao n cap, .int .i64 k] w' fun e w'' => e = .returned (.bool b12) ∧ Below w'.heap.size w' w'')) :
    Calls Try.prog 46 #[.slice ao n cap, .int .i64 k, .int .i64 (11), .int .i64 cr] w fun e w' => e = .returned (.bool (Cl.JR 11 cr b10 b11 b12)) ∧ Below w.heap.size w w' := by
  by_cases e1 : cr = 1
  · subst e1
    have hal : Cl.alone 11 = false := rfl
    have hmk : ((11 : Int) == 4 || (11 : Int) == 5) = false := rfl
    have har : Cl.alone 1 = true := rfl
    have hhd : Cl.hd 1 = false := rfl
    have HQ : Hid (Cl.JR 11 1 b10 b11 b12 = false) := by cases b10 <;> cases b11 <;> cases b12 <;> rfl
    go_enter Try.func46, Try.ntmps46
    go_wp2_with (first | (go_at_call 56; refine (isAlone_any _ _).mono ?_; rintro e w' ⟨rfl, rfl⟩; (first | rw [hal] | rw [har])) | (go_at_call 57; refine (isHead_any _ _).mono ?_; rintro e w' ⟨rfl, rfl⟩; rw [hhd]) | (go_at_call 58; refine (isMark_any _ _).mono ?_; rintro e w' ⟨rfl, rfl⟩; rw [hmk]) | (go_at_call 59; refine (C10.out _ (Below.refl _ _)).mono ?_; rintro e w1 ⟨rfl, hb1⟩) | (go_at_call 60; refine (C11.out _ (by first | exact Below.refl _ _ | exact hb1)).mono ?_; rintro e w2 ⟨rfl, hb2⟩) | (go_at_call 61; refine (C12.out _ (by first | exact Below.refl _ _ | exact hb1)).mono ?_; rintro e w3 ⟨rfl, hb3⟩))
    go_ret
    exact ⟨ret_bool HQ.out.symm, by first | exact Below.refl _ _ | exact ext_trans hb1 hb2 | exact ext_trans hb1 hb3 | exact hb1 | exact hb2 | exact hb3⟩
  by_cases e2 : cr = 2
  · subst e2
    have hal : Cl.alone 11 = false := rfl
    have hmk : ((11 : Int) == 4 || (11 : Int) == 5) = false := rfl
    have har : Cl.alone 2 = true := rfl
    have hhd : Cl.hd 2 = false := rfl
    have HQ : Hid (Cl.JR 11 2 b10 b11 b12 = false) := by cases b10 <;> cases b11 <;> cases b12 <;> rfl
    go_enter Try.func46, Try.ntmps46
    go_wp2_with (first | (go_at_call 56; refine (isAlone_any _ _).mono ?_; rintro e w' ⟨rfl, rfl⟩; (first | rw [hal] | rw [har])) | (go_at_call 57; refine (isHead_any _ _).mono ?_; rintro e w' ⟨rfl, rfl⟩; rw [hhd]) | (go_at_call 58; refine (isMark_any _ _).mono ?_; rintro e w' ⟨rfl, rfl⟩; rw [hmk]) | (go_at_call 59; refine (C10.out _ (Below.refl _ _)).mono ?_; rintro e w1 ⟨rfl, hb1⟩) | (go_at_call 60; refine (C11.out _ (by first | exact Below.refl _ _ | exact hb1)).mono ?_; rintro e w2 ⟨rfl, hb2⟩) | (go_at_call 61; refine (C12.out _ (by first | exact Below.refl _ _ | exact hb1)).mono ?_; rintro e w3 ⟨rfl, hb3⟩))
    go_ret
    exact ⟨ret_bool HQ.out.symm, by first | exact Below.refl _ _ | exact ext_trans hb1 hb2 | exact ext_trans hb1 hb3 | exact hb1 | exact hb2 | exact hb3⟩
  by_cases e3 : cr = 3
  · subst e3
    have hal : Cl.alone 11 = false := rfl
    have hmk : ((11 : Int) == 4 || (11 : Int) == 5) = false := rfl
    have har : Cl.alone 3 = true := rfl
    have hhd : Cl.hd 3 = false := rfl
    have HQ : Hid (Cl.JR 11 3 b10 b11 b12 = false) := by cases b10 <;> cases b11 <;> cases b12 <;> rfl
    go_enter Try.func46, Try.ntmps46
    go_wp2_with (first | (go_at_call 56; refine (isAlone_any _ _).mono ?_; rintro e w' ⟨rfl, rfl⟩; (first | rw [hal] | rw [har])) | (go_at_call 57; refine (isHead_any _ _).mono ?_; rintro e w' ⟨rfl, rfl⟩; rw [hhd]) | (go_at_call 58; refine (isMark_any _ _).mono ?_; rintro e w' ⟨rfl, rfl⟩; rw [hmk]) | (go_at_call 59; refine (C10.out _ (Below.refl _ _)).mono ?_; rintro e w1 ⟨rfl, hb1⟩) | (go_at_call 60; refine (C11.out _ (by first | exact Below.refl _ _ | exact hb1)).mono ?_; rintro e w2 ⟨rfl, hb2⟩) | (go_at_call 61; refine (C12.out _ (by first | exact Below.refl _ _ | exact hb1)).mono ?_; rintro e w3 ⟨rfl, hb3⟩))
    go_ret
    exact ⟨ret_bool HQ.out.symm, by first | exact Below.refl _ _ | exact ext_trans hb1 hb2 | exact ext_trans hb1 hb3 | exact hb1 | exact hb2 | exact hb3⟩
  by_cases e11 : cr = 11
  · subst e11
    have hal : Cl.alone 11 = false := rfl
    have hmk : ((11 : Int) == 4 || (11 : Int) == 5) = false := rfl
    have har : Cl.alone 11 = false := rfl
    have hhd : Cl.hd 11 = false := rfl
    have HQ : Hid (Cl.JR 11 11 b10 b11 b12 = true) := by cases b10 <;> cases b11 <;> cases b12 <;> rfl
    go_enter Try.func46, Try.ntmps46
    go_wp2_with (first | (go_at_call 56; refine (isAlone_any _ _).mono ?_; rintro e w' ⟨rfl, rfl⟩; (first | rw [hal] | rw [har])) | (go_at_call 57; refine (isHead_any _ _).mono ?_; rintro e w' ⟨rfl, rfl⟩; rw [hhd]) | (go_at_call 58; refine (isMark_any _ _).mono ?_; rintro e w' ⟨rfl, rfl⟩; rw [hmk]) | (go_at_call 59; refine (C10.out _ (Below.refl _ _)).mono ?_; rintro e w1 ⟨rfl, hb1⟩) | (go_at_call 60; refine (C11.out _ (by first | exact Below.refl _ _ | exact hb1)).mono ?_; rintro e w2 ⟨rfl, hb2⟩) | (go_at_call 61; refine (C12.out _ (by first | exact Below.refl _ _ | exact hb1)).mono ?_; rintro e w3 ⟨rfl, hb3⟩))
    go_ret
    exact ⟨ret_bool HQ.out.symm, by first | exact Below.refl _ _ | exact ext_trans hb1 hb2 | exact ext_trans hb1 hb3 | exact hb1 | exact hb2 | exact hb3⟩
  by_cases e4 : cr = 4
  · subst e4
    have hal : Cl.alone 11 = false := rfl
    have hmk : ((11 : Int) == 4 || (11 : Int) == 5) = false := rfl
    have har : Cl.alone 4 = false := rfl
    have hhd : Cl.hd 4 = false := rfl
    have HQ : Hid (Cl.JR 11 4 b10 b11 b12 = true) := by cases b10 <;> cases b11 <;> cases b12 <;> rfl
    go_enter Try.func46, Try.ntmps46
    go_wp2_with (first | (go_at_call 56; refine (isAlone_any _ _).mono ?_; rintro e w' ⟨rfl, rfl⟩; (first | rw [hal] | rw [har])) | (go_at_call 57; refine (isHead_any _ _).mono ?_; rintro e w' ⟨rfl, rfl⟩; rw [hhd]) | (go_at_call 58; refine (isMark_any _ _).mono ?_; rintro e w' ⟨rfl, rfl⟩; rw [hmk]) | (go_at_call 59; refine (C10.out _ (Below.refl _ _)).mono ?_; rintro e w1 ⟨rfl, hb1⟩) | (go_at_call 60; refine (C11.out _ (by first | exact Below.refl _ _ | exact hb1)).mono ?_; rintro e w2 ⟨rfl, hb2⟩) | (go_at_call 61; refine (C12.out _ (by first | exact Below.refl _ _ | exact hb1)).mono ?_; rintro e w3 ⟨rfl, hb3⟩))
    go_ret
    exact ⟨ret_bool HQ.out.symm, by first | exact Below.refl _ _ | exact ext_trans hb1 hb2 | exact ext_trans hb1 hb3 | exact hb1 | exact hb2 | exact hb3⟩
  by_cases e5 : cr = 5
  · subst e5
    have hal : Cl.alone 11 = false := rfl
    have hmk : ((11 : Int) == 4 || (11 : Int) == 5) = false := rfl
    have har : Cl.alone 5 = false := rfl
    have hhd : Cl.hd 5 = false := rfl
    have HQ : Hid (Cl.JR 11 5 b10 b11 b12 = true) := by cases b10 <;> cases b11 <;> cases b12 <;> rfl
    go_enter Try.func46, Try.ntmps46
    go_wp2_with (first | (go_at_call 56; refine (isAlone_any _ _).mono ?_; rintro e w' ⟨rfl, rfl⟩; (first | rw [hal] | rw [har])) | (go_at_call 57; refine (isHead_any _ _).mono ?_; rintro e w' ⟨rfl, rfl⟩; rw [hhd]) | (go_at_call 58; refine (isMark_any _ _).mono ?_; rintro e w' ⟨rfl, rfl⟩; rw [hmk]) | (go_at_call 59; refine (C10.out _ (Below.refl _ _)).mono ?_; rintro e w1 ⟨rfl, hb1⟩) | (go_at_call 60; refine (C11.out _ (by first | exact Below.refl _ _ | exact hb1)).mono ?_; rintro e w2 ⟨rfl, hb2⟩) | (go_at_call 61; refine (C12.out _ (by first | exact Below.refl _ _ | exact hb1)).mono ?_; rintro e w3 ⟨rfl, hb3⟩))
    go_ret
    exact ⟨ret_bool HQ.out.symm, by first | exact Below.refl _ _ | exact ext_trans hb1 hb2 | exact ext_trans hb1 hb3 | exact hb1 | exact hb2 | exact hb3⟩
  by_cases e8 : cr = 8
  · subst e8
    have hal : Cl.alone 11 = false := rfl
    have hmk : ((11 : Int) == 4 || (11 : Int) == 5) = false := rfl
    have har : Cl.alone 8 = false := rfl
    have hhd : Cl.hd 8 = false := rfl
    have HQ : Hid (Cl.JR 11 8 b10 b11 b12 = true) := by cases b10 <;> cases b11 <;> cases b12 <;> rfl
    go_enter Try.func46, Try.ntmps46
    go_wp2_with (first | (go_at_call 56; refine (isAlone_any _ _).mono ?_; rintro e w' ⟨rfl, rfl⟩; (first | rw [hal] | rw [har])) | (go_at_call 57; refine (isHead_any _ _).mono ?_; rintro e w' ⟨rfl, rfl⟩; rw [hhd]) | (go_at_call 58; refine (isMark_any _ _).mono ?_; rintro e w' ⟨rfl, rfl⟩; rw [hmk]) | (go_at_call 59; refine (C10.out _ (Below.refl _ _)).mono ?_; rintro e w1 ⟨rfl, hb1⟩) | (go_at_call 60; refine (C11.out _ (by first | exact Below.refl _ _ | exact hb1)).mono ?_; rintro e w2 ⟨rfl, hb2⟩) | (go_at_call 61; refine (C12.out _ (by first | exact Below.refl _ _ | exact hb1)).mono ?_; rintro e w3 ⟨rfl, hb3⟩))
    go_ret
    exact ⟨ret_bool HQ.out.symm, by first | exact Below.refl _ _ | exact ext_trans hb1 hb2 | exact ext_trans hb1 hb3 | exact hb1 | exact hb2 | exact hb3⟩
  have r1 : (cr == 1) = false := by simp [e1]
  have r2 : (cr == 2) = false := by simp [e2]
  have r3 : (cr == 3) = false := by simp [e3]
  have r11 : (cr == 11) = false := by simp [e11]
  have r4 : (cr == 4) = false := by simp [e4]
  have r5 : (cr == 5) = false := by simp [e5]
  have r8 : (cr == 8) = false := by simp [e8]
  have hal : Cl.alone 11 = false := rfl
  have hmk : ((11 : Int) == 4 || (11 : Int) == 5) = false := rfl
  have har : Cl.alone cr = false := by simp [Cl.alone]; omega
  have hhd : Cl.hd cr = Cl.hd cr := rfl
  have HQ : Hid (Cl.JR 11 cr b10 b11 b12 = false) := by unfold Hid Cl.JR; rw [if_neg (by omega), if_neg (by simp [hal]), if_neg (by simp [har])]; simp [Cl.hg, *]
  go_enter Try.func46, Try.ntmps46
  go_wp2_with (first | (go_at_call 56; refine (isAlone_any _ _).mono ?_; rintro e w' ⟨rfl, rfl⟩; (first | rw [hal] | rw [har])) | (go_at_call 57; refine (isHead_any _ _).mono ?_; rintro e w' ⟨rfl, rfl⟩; rw [hhd]) | (go_at_call 58; refine (isMark_any _ _).mono ?_; rintro e w' ⟨rfl, rfl⟩; rw [hmk]) | (go_at_call 59; refine (C10.out _ (Below.refl _ _)).mono ?_; rintro e w1 ⟨rfl, hb1⟩) | (go_at_call 60; refine (C11.out _ (by first | exact Below.refl _ _ | exact hb1)).mono ?_; rintro e w2 ⟨rfl, hb2⟩) | (go_at_call 61; refine (C12.out _ (by first | exact Below.refl _ _ | exact hb1)).mono ?_; rintro e w3 ⟨rfl, hb3⟩))
  go_ret
  exact ⟨ret_bool HQ.out.symm, by first | exact Below.refl _ _ | exact ext_trans hb1 hb2 | exact ext_trans hb1 hb3 | exact hb1 | exact hb2 | exact hb3⟩

set_option maxRecDepth 100000 in
set_option maxHeartbeats 4000000 in
theorem joined_7 (cr : Int) (b10 b11 b12 : Bool) (ao : Option Addr) (n cap : Nat) (k : Int) (w : World)
    (C10 : Hid (∀ w', Below w.heap.size w w' → Calls Try.prog 59 #[.slice ao n cap, .int .i64 k] w' fun e w'' => e = .returned (.bool b10) ∧ Below w'.heap.size w' w''))
    (C11 : Hid (∀ w', Below w.heap.size w w' → Calls Try.prog 60 #[.slice ao n cap, .int .i64 k] w' fun e w'' => e = .returned (.bool b11) ∧ Below w'.heap.size w' w''))
    (C12 : Hid (∀ w', Below w.heap.size w w' → Calls Try.prog 61 #[.slice ao n cap, .int .i64 k] w' fun e w'' => e = .returned (.bool b12) ∧ Below w'.heap.size w' w'')) :
    Calls Try.prog 46 #[.slice ao n cap, .int .i64 k, .int .i64 (7), .int .i64 cr] w fun e w' => e = .returned (.bool (Cl.JR 7 cr b10 b11 b12)) ∧ Below w.heap.size w w' := by
  by_cases e1 : cr = 1
  · subst e1
    have hal : Cl.alone 7 = false := rfl
    have hmk : ((7 : Int) == 4 || (7 : Int) == 5) = false := rfl
    have har : Cl.alone 1 = true := rfl
    have hhd : Cl.hd 1 = false := rfl
    have HQ : Hid (Cl.JR 7 1 b10 b11 b12 = false) := by cases b10 <;> cases b11 <;> cases b12 <;> rfl
    go_enter Try.func46, Try.ntmps46
    go_wp2_with (first | (go_at_call 56; refine (isAlone_any _ _).mono ?_; rintro e w' ⟨rfl, rfl⟩; (first | rw [hal] | rw [har])) | (go_at_call 57; refine (isHead_any _ _).mono ?_; rintro e w' ⟨rfl, rfl⟩; rw [hhd]) | (go_at_call 58; refine (isMark_any _ _).mono ?_; rintro e w' ⟨rfl, rfl⟩; rw [hmk]) | (go_at_call 59; refine (C10.out _ (Below.refl _ _)).mono ?_; rintro e w1 ⟨rfl, hb1⟩) | (go_at_call 60; refine (C11.out _ (by first | exact Below.refl _ _ | exact hb1)).mono ?_; rintro e w2 ⟨rfl, hb2⟩) | (go_at_call 61; refine (C12.out _ (by first | exact Below.refl _ _ | exact hb1)).mono ?_; rintro e w3 ⟨rfl, hb3⟩))
    go_ret
    exact ⟨ret_bool HQ.out.symm, by first | exact Below.refl _ _ | exact ext_trans hb1 hb2 | exact ext_trans hb1 hb3 | exact hb1 | exact hb2 | exact hb3⟩
  by_cases e2 : cr = 2
  · subst e2
    have hal : Cl.alone 7 = false := rfl
    have hmk : ((7 : Int) == 4 || (7 : Int) == 5) = false := rfl
    have har : Cl.alone 2 = true := rfl
    have hhd : Cl.hd 2 = false := rfl
    have HQ : Hid (Cl.JR 7 2 b10 b11 b12 = false) := by cases b10 <;> cases b11 <;> cases b12 <;> rfl
    go_enter Try.func46, Try.ntmps46
    go_wp2_with (first | (go_at_call 56; refine (isAlone_any _ _).mono ?_; rintro e w' ⟨rfl, rfl⟩; (first | rw [hal] | rw [har])) | (go_at_call 57; refine (isHead_any _ _).mono ?_; rintro e w' ⟨rfl, rfl⟩; rw [hhd]) | (go_at_call 58; refine (isMark_any _ _).mono ?_; rintro e w' ⟨rfl, rfl⟩; rw [hmk]) | (go_at_call 59; refine (C10.out _ (Below.refl _ _)).mono ?_; rintro e w1 ⟨rfl, hb1⟩) | (go_at_call 60; refine (C11.out _ (by first | exact Below.refl _ _ | exact hb1)).mono ?_; rintro e w2 ⟨rfl, hb2⟩) | (go_at_call 61; refine (C12.out _ (by first | exact Below.refl _ _ | exact hb1)).mono ?_; rintro e w3 ⟨rfl, hb3⟩))
    go_ret
    exact ⟨ret_bool HQ.out.symm, by first | exact Below.refl _ _ | exact ext_trans hb1 hb2 | exact ext_trans hb1 hb3 | exact hb1 | exact hb2 | exact hb3⟩
  by_cases e3 : cr = 3
  · subst e3
    have hal : Cl.alone 7 = false := rfl
    have hmk : ((7 : Int) == 4 || (7 : Int) == 5) = false := rfl
    have har : Cl.alone 3 = true := rfl
    have hhd : Cl.hd 3 = false := rfl
    have HQ : Hid (Cl.JR 7 3 b10 b11 b12 = false) := by cases b10 <;> cases b11 <;> cases b12 <;> rfl
    go_enter Try.func46, Try.ntmps46
    go_wp2_with (first | (go_at_call 56; refine (isAlone_any _ _).mono ?_; rintro e w' ⟨rfl, rfl⟩; (first | rw [hal] | rw [har])) | (go_at_call 57; refine (isHead_any _ _).mono ?_; rintro e w' ⟨rfl, rfl⟩; rw [hhd]) | (go_at_call 58; refine (isMark_any _ _).mono ?_; rintro e w' ⟨rfl, rfl⟩; rw [hmk]) | (go_at_call 59; refine (C10.out _ (Below.refl _ _)).mono ?_; rintro e w1 ⟨rfl, hb1⟩) | (go_at_call 60; refine (C11.out _ (by first | exact Below.refl _ _ | exact hb1)).mono ?_; rintro e w2 ⟨rfl, hb2⟩) | (go_at_call 61; refine (C12.out _ (by first | exact Below.refl _ _ | exact hb1)).mono ?_; rintro e w3 ⟨rfl, hb3⟩))
    go_ret
    exact ⟨ret_bool HQ.out.symm, by first | exact Below.refl _ _ | exact ext_trans hb1 hb2 | exact ext_trans hb1 hb3 | exact hb1 | exact hb2 | exact hb3⟩
  by_cases e4 : cr = 4
  · subst e4
    have hal : Cl.alone 7 = false := rfl
    have hmk : ((7 : Int) == 4 || (7 : Int) == 5) = false := rfl
    have har : Cl.alone 4 = false := rfl
    have hhd : Cl.hd 4 = false := rfl
    have HQ : Hid (Cl.JR 7 4 b10 b11 b12 = true) := by cases b10 <;> cases b11 <;> cases b12 <;> rfl
    go_enter Try.func46, Try.ntmps46
    go_wp2_with (first | (go_at_call 56; refine (isAlone_any _ _).mono ?_; rintro e w' ⟨rfl, rfl⟩; (first | rw [hal] | rw [har])) | (go_at_call 57; refine (isHead_any _ _).mono ?_; rintro e w' ⟨rfl, rfl⟩; rw [hhd]) | (go_at_call 58; refine (isMark_any _ _).mono ?_; rintro e w' ⟨rfl, rfl⟩; rw [hmk]) | (go_at_call 59; refine (C10.out _ (Below.refl _ _)).mono ?_; rintro e w1 ⟨rfl, hb1⟩) | (go_at_call 60; refine (C11.out _ (by first | exact Below.refl _ _ | exact hb1)).mono ?_; rintro e w2 ⟨rfl, hb2⟩) | (go_at_call 61; refine (C12.out _ (by first | exact Below.refl _ _ | exact hb1)).mono ?_; rintro e w3 ⟨rfl, hb3⟩))
    go_ret
    exact ⟨ret_bool HQ.out.symm, by first | exact Below.refl _ _ | exact ext_trans hb1 hb2 | exact ext_trans hb1 hb3 | exact hb1 | exact hb2 | exact hb3⟩
  by_cases e5 : cr = 5
  · subst e5
    have hal : Cl.alone 7 = false := rfl
    have hmk : ((7 : Int) == 4 || (7 : Int) == 5) = false := rfl
    have har : Cl.alone 5 = false := rfl
    have hhd : Cl.hd 5 = false := rfl
    have HQ : Hid (Cl.JR 7 5 b10 b11 b12 = true) := by cases b10 <;> cases b11 <;> cases b12 <;> rfl
    go_enter Try.func46, Try.ntmps46
    go_wp2_with (first | (go_at_call 56; refine (isAlone_any _ _).mono ?_; rintro e w' ⟨rfl, rfl⟩; (first | rw [hal] | rw [har])) | (go_at_call 57; refine (isHead_any _ _).mono ?_; rintro e w' ⟨rfl, rfl⟩; rw [hhd]) | (go_at_call 58; refine (isMark_any _ _).mono ?_; rintro e w' ⟨rfl, rfl⟩; rw [hmk]) | (go_at_call 59; refine (C10.out _ (Below.refl _ _)).mono ?_; rintro e w1 ⟨rfl, hb1⟩) | (go_at_call 60; refine (C11.out _ (by first | exact Below.refl _ _ | exact hb1)).mono ?_; rintro e w2 ⟨rfl, hb2⟩) | (go_at_call 61; refine (C12.out _ (by first | exact Below.refl _ _ | exact hb1)).mono ?_; rintro e w3 ⟨rfl, hb3⟩))
    go_ret
    exact ⟨ret_bool HQ.out.symm, by first | exact Below.refl _ _ | exact ext_trans hb1 hb2 | exact ext_trans hb1 hb3 | exact hb1 | exact hb2 | exact hb3⟩
  by_cases e8 : cr = 8
  · subst e8
    have hal : Cl.alone 7 = false := rfl
    have hmk : ((7 : Int) == 4 || (7 : Int) == 5) = false := rfl
    have har : Cl.alone 8 = false := rfl
    have hhd : Cl.hd 8 = false := rfl
    have HQ : Hid (Cl.JR 7 8 b10 b11 b12 = true) := by cases b10 <;> cases b11 <;> cases b12 <;> rfl
    go_enter Try.func46, Try.ntmps46
    go_wp2_with (first | (go_at_call 56; refine (isAlone_any _ _).mono ?_; rintro e w' ⟨rfl, rfl⟩; (first | rw [hal] | rw [har])) | (go_at_call 57; refine (isHead_any _ _).mono ?_; rintro e w' ⟨rfl, rfl⟩; rw [hhd]) | (go_at_call 58; refine (isMark_any _ _).mono ?_; rintro e w' ⟨rfl, rfl⟩; rw [hmk]) | (go_at_call 59; refine (C10.out _ (Below.refl _ _)).mono ?_; rintro e w1 ⟨rfl, hb1⟩) | (go_at_call 60; refine (C11.out _ (by first | exact Below.refl _ _ | exact hb1)).mono ?_; rintro e w2 ⟨rfl, hb2⟩) | (go_at_call 61; refine (C12.out _ (by first | exact Below.refl _ _ | exact hb1)).mono ?_; rintro e w3 ⟨rfl, hb3⟩))
    go_ret
    exact ⟨ret_bool HQ.out.symm, by first | exact Below.refl _ _ | exact ext_trans hb1 hb2 | exact ext_trans hb1 hb3 | exact hb1 | exact hb2 | exact hb3⟩
  have r1 : (cr == 1) = false := by simp [e1]
  have r2 : (cr == 2) = false := by simp [e2]
  have r3 : (cr == 3) = false := by simp [e3]
  have r4 : (cr == 4) = false := by simp [e4]
  have r5 : (cr == 5) = false := by simp [e5]
  have r8 : (cr == 8) = false := by simp [e8]
  have hal : Cl.alone 7 = false := rfl
  have hmk : ((7 : Int) == 4 || (7 : Int) == 5) = false := rfl
  have har : Cl.alone cr = false := by simp [Cl.alone]; omega
  have hhd : Cl.hd cr = Cl.hd cr := rfl
  have HQ : Hid (Cl.JR 7 cr b10 b11 b12 = true) := by unfold Hid Cl.JR; rw [if_neg (by omega), if_neg (by simp [hal]), if_neg (by simp [har])]; simp [Cl.hg, *]
  go_enter Try.func46, Try.ntmps46
  go_wp2_with (first | (go_at_call 56; refine (isAlone_any _ _).mono ?_; rintro e w' ⟨rfl, rfl⟩; (first | rw [hal] | rw [har])) | (go_at_call 57; refine (isHead_any _ _).mono ?_; rintro e w' ⟨rfl, rfl⟩; rw [hhd]) | (go_at_call 58; refine (isMark_any _ _).mono ?_; rintro e w' ⟨rfl, rfl⟩; rw [hmk]) | (go_at_call 59; refine (C10.out _ (Below.refl _ _)).mono ?_; rintro e w1 ⟨rfl, hb1⟩) | (go_at_call 60; refine (C11.out _ (by first | exact Below.refl _ _ | exact hb1)).mono ?_; rintro e w2 ⟨rfl, hb2⟩) | (go_at_call 61; refine (C12.out _ (by first | exact Below.refl _ _ | exact hb1)).mono ?_; rintro e w3 ⟨rfl, hb3⟩))
  go_ret
  exact ⟨ret_bool HQ.out.symm, by first | exact Below.refl _ _ | exact ext_trans hb1 hb2 | exact ext_trans hb1 hb3 | exact hb1 | exact hb2 | exact hb3⟩

set_option maxRecDepth 100000 in
set_option maxHeartbeats 4000000 in
theorem joined_4 (cr : Int) (b10 b11 b12 : Bool) (ao : Option Addr) (n cap : Nat) (k : Int) (w : World)
    (C10 : Hid (∀ w', Below w.heap.size w w' → Calls Try.prog 59 #[.slice ao n cap, .int .i64 k] w' fun e w'' => e = .returned (.bool b10) ∧ Below w'.heap.size w' w''))
    (C11 : Hid (∀ w', Below w.heap.size w w' → Calls Try.prog 60 #[.slice ao n cap, .int .i64 k] w' fun e w'' => e = .returned (.bool b11) ∧ Below w'.heap.size w' w''))
    (C12 : Hid (∀ w', Below w.heap.size w w' → Calls Try.prog 61 #[.slice ao n cap, .int .i64 k] w' fun e w'' => e = .returned (.bool b12) ∧ Below w'.heap.size w' w'')) :
    Calls Try.prog 46 #[.slice ao n cap, .int .i64 k, .int .i64 (4), .int .i64 cr] w fun e w' => e = .returned (.bool (Cl.JR 4 cr b10 b11 b12)) ∧ Below w.heap.size w w' := by
  by_cases e1 : cr = 1
  · subst e1
    have hal : Cl.alone 4 = false := rfl
    have hmk : ((4 : Int) == 4 || (4 : Int) == 5) = true := rfl
    have har : Cl.alone 1 = true := rfl
    have hhd : Cl.hd 1 = false := rfl
    have HQ : Hid (Cl.JR 4 1 b10 b11 b12 = false) := by cases b10 <;> cases b11 <;> cases b12 <;> rfl
    go_enter Try.func46, Try.ntmps46
    go_wp2_with (first | (go_at_call 56; refine (isAlone_any _ _).mono ?_; rintro e w' ⟨rfl, rfl⟩; (first | rw [hal] | rw [har])) | (go_at_call 57; refine (isHead_any _ _).mono ?_; rintro e w' ⟨rfl, rfl⟩; rw [hhd]) | (go_at_call 58; refine (isMark_any _ _).mono ?_; rintro e w' ⟨rfl, rfl⟩; rw [hmk]) | (go_at_call 59; refine (C10.out _ (Below.refl _ _)).mono ?_; rintro e w1 ⟨rfl, hb1⟩) | (go_at_call 60; refine (C11.out _ (by first | exact Below.refl _ _ | exact hb1)).mono ?_; rintro e w2 ⟨rfl, hb2⟩) | (go_at_call 61; refine (C12.out _ (by first | exact Below.refl _ _ | exact hb1)).mono ?_; rintro e w3 ⟨rfl, hb3⟩))
    go_ret
    exact ⟨ret_bool HQ.out.symm, by first | exact Below.refl _ _ | exact ext_trans hb1 hb2 | exact ext_trans hb1 hb3 | exact hb1 | exact hb2 | exact hb3⟩
  by_cases e2 : cr = 2
  · subst e2
    have hal : Cl.alone 4 = false := rfl
    have hmk : ((4 : Int) == 4 || (4 : Int) == 5) = true := rfl
    have har : Cl.alone 2 = true := rfl
    have hhd : Cl.hd 2 = false := rfl
    have HQ : Hid (Cl.JR 4 2 b10 b11 b12 = false) := by cases b10 <;> cases b11 <;> cases b12 <;> rfl
    go_enter Try.func46, Try.ntmps46
    go_wp2_with (first | (go_at_call 56; refine (isAlone_any _ _).mono ?_; rintro e w' ⟨rfl, rfl⟩; (first | rw [hal] | rw [har])) | (go_at_call 57; refine (isHead_any _ _).mono ?_; rintro e w' ⟨rfl, rfl⟩; rw [hhd]) | (go_at_call 58; refine (isMark_any _ _).mono ?_; rintro e w' ⟨rfl, rfl⟩; rw [hmk]) | (go_at_call 59; refine (C10.out _ (Below.refl _ _)).mono ?_; rintro e w1 ⟨rfl, hb1⟩) | (go_at_call 60; refine (C11.out _ (by first | exact Below.refl _ _ | exact hb1)).mono ?_; rintro e w2 ⟨rfl, hb2⟩) | (go_at_call 61; refine (C12.out _ (by first | exact Below.refl _ _ | exact hb1)).mono ?_; rintro e w3 ⟨rfl, hb3⟩))
    go_ret
    exact ⟨ret_bool HQ.out.symm, by first | exact Below.refl _ _ | exact ext_trans hb1 hb2 | exact ext_trans hb1 hb3 | exact hb1 | exact hb2 | exact hb3⟩
  by_cases e3 : cr = 3
  · subst e3
    have hal : Cl.alone 4 = false := rfl
    have hmk : ((4 : Int) == 4 || (4 : Int) == 5) = true := rfl
    have har : Cl.alone 3 = true := rfl
    have hhd : Cl.hd 3 = false := rfl
    have HQ : Hid (Cl.JR 4 3 b10 b11 b12 = false) := by cases b10 <;> cases b11 <;> cases b12 <;> rfl
    go_enter Try.func46, Try.ntmps46
    go_wp2_with (first | (go_at_call 56; refine (isAlone_any _ _).mono ?_; rintro e w' ⟨rfl, rfl⟩; (first | rw [hal] | rw [har])) | (go_at_call 57; refine (isHead_any _ _).mono ?_; rintro e w' ⟨rfl, rfl⟩; rw [hhd]) | (go_at_call 58; refine (isMark_any _ _).mono ?_; rintro e w' ⟨rfl, rfl⟩; rw [hmk]) | (go_at_call 59; refine (C10.out _ (Below.refl _ _)).mono ?_; rintro e w1 ⟨rfl, hb1⟩) | (go_at_call 60; refine (C11.out _ (by first | exact Below.refl _ _ | exact hb1)).mono ?_; rintro e w2 ⟨rfl, hb2⟩) | (go_at_call 61; refine (C12.out _ (by first | exact Below.refl _ _ | exact hb1)).mono ?_; rintro e w3 ⟨rfl, hb3⟩))
    go_ret
    exact ⟨ret_bool HQ.out.symm, by first | exact Below.refl _ _ | exact ext_trans hb1 hb2 | exact ext_trans hb1 hb3 | exact hb1 | exact hb2 | exact hb3⟩
  by_cases e4 : cr = 4
  · subst e4
    have hal : Cl.alone 4 = false := rfl
    have hmk : ((4 : Int) == 4 || (4 : Int) == 5) = true := rfl
    have har : Cl.alone 4 = false := rfl
    have hhd : Cl.hd 4 = false := rfl
    have HQ : Hid (Cl.JR 4 4 b10 b11 b12 = true) := by cases b10 <;> cases b11 <;> cases b12 <;> rfl
    go_enter Try.func46, Try.ntmps46
    go_wp2_with (first | (go_at_call 56; refine (isAlone_any _ _).mono ?_; rintro e w' ⟨rfl, rfl⟩; (first | rw [hal] | rw [har])) | (go_at_call 57; refine (isHead_any _ _).mono ?_; rintro e w' ⟨rfl, rfl⟩; rw [hhd]) | (go_at_call 58; refine (isMark_any _ _).mono ?_; rintro e w' ⟨rfl, rfl⟩; rw [hmk]) | (go_at_call 59; refine (C10.out _ (Below.refl _ _)).mono ?_; rintro e w1 ⟨rfl, hb1⟩) | (go_at_call 60; refine (C11.out _ (by first | exact Below.refl _ _ | exact hb1)).mono ?_; rintro e w2 ⟨rfl, hb2⟩) | (go_at_call 61; refine (C12.out _ (by first | exact Below.refl _ _ | exact hb1)).mono ?_; rintro e w3 ⟨rfl, hb3⟩))
    go_ret
    exact ⟨ret_bool HQ.out.symm, by first | exact Below.refl _ _ | exact ext_trans hb1 hb2 | exact ext_trans hb1 hb3 | exact hb1 | exact hb2 | exact hb3⟩
  by_cases e5 : cr = 5
  · subst e5
    have hal : Cl.alone 4 = false := rfl
    have hmk : ((4 : Int) == 4 || (4 : Int) == 5) = true := rfl
    have har : Cl.alone 5 = false := rfl
    have hhd : Cl.hd 5 = false := rfl
    have HQ : Hid (Cl.JR 4 5 b10 b11 b12 = true) := by cases b10 <;> cases b11 <;> cases b12 <;> rfl
    go_enter Try.func46, Try.ntmps46
    go_wp2_with (first | (go_at_call 56; refine (isAlone_any _ _).mono ?_; rintro e w' ⟨rfl, rfl⟩; (first | rw [hal] | rw [har])) | (go_at_call 57; refine (isHead_any _ _).mono ?_; rintro e w' ⟨rfl, rfl⟩; rw [hhd]) | (go_at_call 58; refine (isMark_any _ _).mono ?_; rintro e w' ⟨rfl, rfl⟩; rw [hmk]) | (go_at_call 59; refine (C10.out _ (Below.refl _ _)).mono ?_; rintro e w1 ⟨rfl, hb1⟩) | (go_at_call 60; refine (C11.out _ (by first | exact Below.refl _ _ | exact hb1)).mono ?_; rintro e w2 ⟨rfl, hb2⟩) | (go_at_call 61; refine (C12.out _ (by first | exact Below.refl _ _ | exact hb1)).mono ?_; rintro e w3 ⟨rfl, hb3⟩))
    go_ret
    exact ⟨ret_bool HQ.out.symm, by first | exact Below.refl _ _ | exact ext_trans hb1 hb2 | exact ext_trans hb1 hb3 | exact hb1 | exact hb2 | exact hb3⟩
  by_cases e8 : cr = 8
  · subst e8
    have hal : Cl.alone 4 = false := rfl
    have hmk : ((4 : Int) == 4 || (4 : Int) == 5) = true := rfl
    have har : Cl.alone 8 = false := rfl
    have hhd : Cl.hd 8 = false := rfl
    have HQ : Hid (Cl.JR 4 8 b10 b11 b12 = true) := by cases b10 <;> cases b11 <;> cases b12 <;> rfl
    go_enter Try.func46, Try.ntmps46
    go_wp2_with (first | (go_at_call 56; refine (isAlone_any _ _).mono ?_; rintro e w' ⟨rfl, rfl⟩; (first | rw [hal] | rw [har])) | (go_at_call 57; refine (isHead_any _ _).mono ?_; rintro e w' ⟨rfl, rfl⟩; rw [hhd]) | (go_at_call 58; refine (isMark_any _ _).mono ?_; rintro e w' ⟨rfl, rfl⟩; rw [hmk]) | (go_at_call 59; refine (C10.out _ (Below.refl _ _)).mono ?_; rintro e w1 ⟨rfl, hb1⟩) | (go_at_call 60; refine (C11.out _ (by first | exact Below.refl _ _ | exact hb1)).mono ?_; rintro e w2 ⟨rfl, hb2⟩) | (go_at_call 61; refine (C12.out _ (by first | exact Below.refl _ _ | exact hb1)).mono ?_; rintro e w3 ⟨rfl, hb3⟩))
    go_ret
    exact ⟨ret_bool HQ.out.symm, by first | exact Below.refl _ _ | exact ext_trans hb1 hb2 | exact ext_trans hb1 hb3 | exact hb1 | exact hb2 | exact hb3⟩
  cases b10 with
  | true =>
    have r1 : (cr == 1) = false := by simp [e1]
    have r2 : (cr == 2) = false := by simp [e2]
    have r3 : (cr == 3) = false := by simp [e3]
    have r4 : (cr == 4) = false := by simp [e4]
    have r5 : (cr == 5) = false := by simp [e5]
    have r8 : (cr == 8) = false := by simp [e8]
    have hal : Cl.alone 4 = false := rfl
    have hmk : ((4 : Int) == 4 || (4 : Int) == 5) = true := rfl
    have har : Cl.alone cr = false := by simp [Cl.alone]; omega
    have hhd : Cl.hd cr = Cl.hd cr := rfl
    have HQ : Hid (Cl.JR 4 cr true b11 b12 = true) := by unfold Hid Cl.JR; rw [if_neg (by omega), if_neg (by simp [hal]), if_neg (by simp [har])]; simp [Cl.hg, *]
    go_enter Try.func46, Try.ntmps46
    go_wp2_with (first | (go_at_call 56; refine (isAlone_any _ _).mono ?_; rintro e w' ⟨rfl, rfl⟩; (first | rw [hal] | rw [har])) | (go_at_call 57; refine (isHead_any _ _).mono ?_; rintro e w' ⟨rfl, rfl⟩; rw [hhd]) | (go_at_call 58; refine (isMark_any _ _).mono ?_; rintro e w' ⟨rfl, rfl⟩; rw [hmk]) | (go_at_call 59; refine (C10.out _ (Below.refl _ _)).mono ?_; rintro e w1 ⟨rfl, hb1⟩) | (go_at_call 60; refine (C11.out _ (by first | exact Below.refl _ _ | exact hb1)).mono ?_; rintro e w2 ⟨rfl, hb2⟩) | (go_at_call 61; refine (C12.out _ (by first | exact Below.refl _ _ | exact hb1)).mono ?_; rintro e w3 ⟨rfl, hb3⟩))
    go_ret
    exact ⟨ret_bool HQ.out.symm, by first | exact Below.refl _ _ | exact ext_trans hb1 hb2 | exact ext_trans hb1 hb3 | exact hb1 | exact hb2 | exact hb3⟩
  | false =>
    have r1 : (cr == 1) = false := by simp [e1]
    have r2 : (cr == 2) = false := by simp [e2]
    have r3 : (cr == 3) = false := by simp [e3]
    have r4 : (cr == 4) = false := by simp [e4]
    have r5 : (cr == 5) = false := by simp [e5]
    have r8 : (cr == 8) = false := by simp [e8]
    have hal : Cl.alone 4 = false := rfl
    have hmk : ((4 : Int) == 4 || (4 : Int) == 5) = true := rfl
    have har : Cl.alone cr = false := by simp [Cl.alone]; omega
    have hhd : Cl.hd cr = Cl.hd cr := rfl
    have HQ : Hid (Cl.JR 4 cr false b11 b12 = false) := by unfold Hid Cl.JR; rw [if_neg (by omega), if_neg (by simp [hal]), if_neg (by simp [har])]; simp [Cl.hg, *]
    go_enter Try.func46, Try.ntmps46
    go_wp2_with (first | (go_at_call 56; refine (isAlone_any _ _).mono ?_; rintro e w' ⟨rfl, rfl⟩; (first | rw [hal] | rw [har])) | (go_at_call 57; refine (isHead_any _ _).mono ?_; rintro e w' ⟨rfl, rfl⟩; rw [hhd]) | (go_at_call 58; refine (isMark_any _ _).mono ?_; rintro e w' ⟨rfl, rfl⟩; rw [hmk]) | (go_at_call 59; refine (C10.out _ (Below.refl _ _)).mono ?_; rintro e w1 ⟨rfl, hb1⟩) | (go_at_call 60; refine (C11.out _ (by first | exact Below.refl _ _ | exact hb1)).mono ?_; rintro e w2 ⟨rfl, hb2⟩) | (go_at_call 61; refine (C12.out _ (by first | exact Below.refl _ _ | exact hb1)).mono ?_; rintro e w3 ⟨rfl, hb3⟩))
    go_ret
    exact ⟨ret_bool HQ.out.symm, by first | exact Below.refl _ _ | exact ext_trans hb1 hb2 | exact ext_trans hb1 hb3 | exact hb1 | exact hb2 | exact hb3⟩

set_option maxRecDepth 100000 in
set_option maxHeartbeats 4000000 in
theorem joined_5 (cr : Int) (b10 b11 b12 : Bool) (ao : Option Addr) (n cap : Nat) (k : Int) (w : World)
    (C10 : Hid (∀ w', Below w.heap.size w w' → Calls Try.prog 59 #[.slice ao n cap, .int .i64 k] w' fun e w'' => e = .returned (.bool b10) ∧ Below w'.heap.size w' w''))
    (C11 : Hid (∀ w', Below w.heap.size w w' → Calls Try.prog 60 #[.slice ao n cap, .int .i64 k] w' fun e w'' => e = .returned (.bool b11) ∧ Below w'.heap.size w' w''))
    (C12 : Hid (∀ w', Below w.heap.size w w' → Calls Try.prog 61 #[.slice ao n cap, .int .i64 k] w' fun e w'' => e = .returned (.bool b12) ∧ Below w'.heap.size w' w'')) :
    Calls Try.prog 46 #[.slice ao n cap, .int .i64 k, .int .i64 (5), .int .i64 cr] w fun e w' => e = .returned (.bool (Cl.JR 5 cr b10 b11 b12)) ∧ Below w.heap.size w w' := by
  by_cases e1 : cr = 1
  · subst e1
    have hal : Cl.alone 5 = false := rfl
    have hmk : ((5 : Int) == 4 || (5 : Int) == 5) = true := rfl
    have har : Cl.alone 1 = true := rfl
    have hhd : Cl.hd 1 = false := rfl
    have HQ : Hid (Cl.JR 5 1 b10 b11 b12 = false) := by cases b10 <;> cases b11 <;> cases b12 <;> rfl
    go_enter Try.func46, Try.ntmps46
    go_wp2_with (first | (go_at_call 56; refine (isAlone_any _ _).mono ?_; rintro e w' ⟨rfl, rfl⟩; (first | rw [hal] | rw [har])) | (go_at_call 57; refine (isHead_any _ _).mono ?_; rintro e w' ⟨rfl, rfl⟩; rw [hhd]) | (go_at_call 58; refine (isMark_any _ _).mono ?_; rintro e w' ⟨rfl, rfl⟩; rw [hmk]) | (go_at_call 59; refine (C10.out _ (Below.refl _ _)).mono ?_; rintro e w1 ⟨rfl, hb1⟩) | (go_at_call 60; refine (C11.out _ (by first | exact Below.refl _ _ | exact hb1)).mono ?_; rintro e w2 ⟨rfl, hb2⟩) | (go_at_call 61; refine (C12.out _ (by first | exact Below.refl _ _ | exact hb1)).mono ?_; rintro e w3 ⟨rfl, hb3⟩))
    go_ret
    exact ⟨ret_bool HQ.out.symm, by first | exact Below.refl _ _ | exact ext_trans hb1 hb2 | exact ext_trans hb1 hb3 | exact hb1 | exact hb2 | exact hb3⟩
  by_cases e2 : cr = 2
  · subst e2
    have hal : Cl.alone 5 = false := rfl
    have hmk : ((5 : Int) == 4 || (5 : Int) == 5) = true := rfl
    have har : Cl.alone 2 = true := rfl
    have hhd : Cl.hd 2 = false := rfl
    have HQ : Hid (Cl.JR 5 2 b10 b11 b12 = false) := by cases b10 <;> cases b11 <;> cases b12 <;> rfl
    go_enter Try.func46, Try.ntmps46
    go_wp2_with (first | (go_at_call 56; refine (isAlone_any _ _).mono ?_; rintro e w' ⟨rfl, rfl⟩; (first | rw [hal] | rw [har])) | (go_at_call 57; refine (isHead_any _ _).mono ?_; rintro e w' ⟨rfl, rfl⟩; rw [hhd]) | (go_at_call 58; refine (isMark_any _ _).mono ?_; rintro e w' ⟨rfl, rfl⟩; rw [hmk]) | (go_at_call 59; refine (C10.out _ (Below.refl _ _)).mono ?_; rintro e w1 ⟨rfl, hb1⟩) | (go_at_call 60; refine (C11.out _ (by first | exact Below.refl _ _ | exact hb1)).mono ?_; rintro e w2 ⟨rfl, hb2⟩) | (go_at_call 61; refine (C12.out _ (by first | exact Below.refl _ _ | exact hb1)).mono ?_; rintro e w3 ⟨rfl, hb3⟩))
    go_ret
    exact ⟨ret_bool HQ.out.symm, by first | exact Below.refl _ _ | exact ext_trans hb1 hb2 | exact ext_trans hb1 hb3 | exact hb1 | exact hb2 | exact hb3⟩
  by_cases e3 : cr = 3
  · subst e3
    have hal : Cl.alone 5 = false := rfl
    have hmk : ((5 : Int) == 4 || (5 : Int) == 5) = true := rfl
    have har : Cl.alone 3 = true := rfl
    have hhd : Cl.hd 3 = false := rfl
    have HQ : Hid (Cl.JR 5 3 b10 b11 b12 = false) := by cases b10 <;> cases b11 <;> cases b12 <;> rfl
    go_enter Try.func46, Try.ntmps46
    go_wp2_with (first | (go_at_call 56; refine (isAlone_any _ _).mono ?_; rintro e w' ⟨rfl, rfl⟩; (first | rw [hal] | rw [har])) | (go_at_call 57; refine (isHead_any _ _).mono ?_; rintro e w' ⟨rfl, rfl⟩; rw [hhd]) | (go_at_call 58; refine (isMark_any _ _).mono ?_; rintro e w' ⟨rfl, rfl⟩; rw [hmk]) | (go_at_call 59; refine (C10.out _ (Below.refl _ _)).mono ?_; rintro e w1 ⟨rfl, hb1⟩) | (go_at_call 60; refine (C11.out _ (by first | exact Below.refl _ _ | exact hb1)).mono ?_; rintro e w2 ⟨rfl, hb2⟩) | (go_at_call 61; refine (C12.out _ (by first | exact Below.refl _ _ | exact hb1)).mono ?_; rintro e w3 ⟨rfl, hb3⟩))
    go_ret
    exact ⟨ret_bool HQ.out.symm, by first | exact Below.refl _ _ | exact ext_trans hb1 hb2 | exact ext_trans hb1 hb3 | exact hb1 | exact hb2 | exact hb3⟩
  by_cases e4 : cr = 4
  · subst e4
    have hal : Cl.alone 5 = false := rfl
    have hmk : ((5 : Int) == 4 || (5 : Int) == 5) = true := rfl
    have har : Cl.alone 4 = false := rfl
    have hhd : Cl.hd 4 = false := rfl
    have HQ : Hid (Cl.JR 5 4 b10 b11 b12 = true) := by cases b10 <;> cases b11 <;> cases b12 <;> rfl
    go_enter Try.func46, Try.ntmps46
    go_wp2_with (first | (go_at_call 56; refine (isAlone_any _ _).mono ?_; rintro e w' ⟨rfl, rfl⟩; (first | rw [hal] | rw [har])) | (go_at_call 57; refine (isHead_any _ _).mono ?_; rintro e w' ⟨rfl, rfl⟩; rw [hhd]) | (go_at_call 58; refine (isMark_any _ _).mono ?_; rintro e w' ⟨rfl, rfl⟩; rw [hmk]) | (go_at_call 59; refine (C10.out _ (Below.refl _ _)).mono ?_; rintro e w1 ⟨rfl, hb1⟩) | (go_at_call 60; refine (C11.out _ (by first | exact Below.refl _ _ | exact hb1)).mono ?_; rintro e w2 ⟨rfl, hb2⟩) | (go_at_call 61; refine (C12.out _ (by first | exact Below.refl _ _ | exact hb1)).mono ?_; rintro e w3 ⟨rfl, hb3⟩))
    go_ret
    exact ⟨ret_bool HQ.out.symm, by first | exact Below.refl _ _ | exact ext_trans hb1 hb2 | exact ext_trans hb1 hb3 | exact hb1 | exact hb2 | exact hb3⟩
  by_cases e5 : cr = 5
  · subst e5
    have hal : Cl.alone 5 = false := rfl
    have hmk : ((5 : Int) == 4 || (5 : Int) == 5) = true := rfl
    have har : Cl.alone 5 = false := rfl
    have hhd : Cl.hd 5 = false := rfl
    have HQ : Hid (Cl.JR 5 5 b10 b11 b12 = true) := by cases b10 <;> cases b11 <;> cases b12 <;> rfl
    go_enter Try.func46, Try.ntmps46
    go_wp2_with (first | (go_at_call 56; refine (isAlone_any _ _).mono ?_; rintro e w' ⟨rfl, rfl⟩; (first | rw [hal] | rw [har])) | (go_at_call 57; refine (isHead_any _ _).mono ?_; rintro e w' ⟨rfl, rfl⟩; rw [hhd]) | (go_at_call 58; refine (isMark_any _ _).mono ?_; rintro e w' ⟨rfl, rfl⟩; rw [hmk]) | (go_at_call 59; refine (C10.out _ (Below.refl _ _)).mono ?_; rintro e w1 ⟨rfl, hb1⟩) | (go_at_call 60; refine (C11.out _ (by first | exact Below.refl _ _ | exact hb1)).mono ?_; rintro e w2 ⟨rfl, hb2⟩) | (go_at_call 61; refine (C12.out _ (by first | exact Below.refl _ _ | exact hb1)).mono ?_; rintro e w3 ⟨rfl, hb3⟩))
    go_ret
    exact ⟨ret_bool HQ.out.symm, by first | exact Below.refl _ _ | exact ext_trans hb1 hb2 | exact ext_trans hb1 hb3 | exact hb1 | exact hb2 | exact hb3⟩
  by_cases e8 : cr = 8
  · subst e8
    have hal : Cl.alone 5 = false := rfl
    have hmk : ((5 : Int) == 4 || (5 : Int) == 5) = true := rfl
    have har : Cl.alone 8 = false := rfl
    have hhd : Cl.hd 8 = false := rfl
    have HQ : Hid (Cl.JR 5 8 b10 b11 b12 = true) := by cases b10 <;> cases b11 <;> cases b12 <;> rfl
    go_enter Try.func46, Try.ntmps46
    go_wp2_with (first | (go_at_call 56; refine (isAlone_any _ _).mono ?_; rintro e w' ⟨rfl, rfl⟩; (first | rw [hal] | rw [har])) | (go_at_call 57; refine (isHead_any _ _).mono ?_; rintro e w' ⟨rfl, rfl⟩; rw [hhd]) | (go_at_call 58; refine (isMark_any _ _).mono ?_; rintro e w' ⟨rfl, rfl⟩; rw [hmk]) | (go_at_call 59; refine (C10.out _ (Below.refl _ _)).mono ?_; rintro e w1 ⟨rfl, hb1⟩) | (go_at_call 60; refine (C11.out _ (by first | exact Below.refl _ _ | exact hb1)).mono ?_; rintro e w2 ⟨rfl, hb2⟩) | (go_at_call 61; refine (C12.out _ (by first | exact Below.refl _ _ | exact hb1)).mono ?_; rintro e w3 ⟨rfl, hb3⟩))
    go_ret
    exact ⟨ret_bool HQ.out.symm, by first | exact Below.refl _ _ | exact ext_trans hb1 hb2 | exact ext_trans hb1 hb3 | exact hb1 | exact hb2 | exact hb3⟩
  by_cases e14 : cr = 14
  · subst e14
    cases b10 with
    | true =>
      have hal : Cl.alone 5 = false := rfl
      have hmk : ((5 : Int) == 4 || (5 : Int) == 5) = true := rfl
      have har : Cl.alone 14 = false := rfl
      have hhd : Cl.hd 14 = false := rfl
      have HQ : Hid (Cl.JR 5 14 true b11 b12 = true) := by cases b11 <;> cases b12 <;> rfl
      go_enter Try.func46, Try.ntmps46
      go_wp2_with (first | (go_at_call 56; refine (isAlone_any _ _).mono ?_; rintro e w' ⟨rfl, rfl⟩; (first | rw [hal] | rw [har])) | (go_at_call 57; refine (isHead_any _ _).mono ?_; rintro e w' ⟨rfl, rfl⟩; rw [hhd]) | (go_at_call 58; refine (isMark_any _ _).mono ?_; rintro e w' ⟨rfl, rfl⟩; rw [hmk]) | (go_at_call 59; refine (C10.out _ (Below.refl _ _)).mono ?_; rintro e w1 ⟨rfl, hb1⟩) | (go_at_call 60; refine (C11.out _ (by first | exact Below.refl _ _ | exact hb1)).mono ?_; rintro e w2 ⟨rfl, hb2⟩) | (go_at_call 61; refine (C12.out _ (by first | exact Below.refl _ _ | exact hb1)).mono ?_; rintro e w3 ⟨rfl, hb3⟩))
      go_ret
      exact ⟨ret_bool HQ.out.symm, by first | exact Below.refl _ _ | exact ext_trans hb1 hb2 | exact ext_trans hb1 hb3 | exact hb1 | exact hb2 | exact hb3⟩
    | false =>
      cases b11 with
      | true =>
        have hal : Cl.alone 5 = false := rfl
        have hmk : ((5 : Int) == 4 || (5 : Int) == 5) = true := rfl
        have har : Cl.alone 14 = false := rfl
        have hhd : Cl.hd 14 = false := rfl
        have HQ : Hid (Cl.JR 5 14 false true b12 = true) := by cases b12 <;> rfl
        go_enter Try.func46, Try.ntmps46
        go_wp2_with (first | (go_at_call 56; refine (isAlone_any _ _).mono ?_; rintro e w' ⟨rfl, rfl⟩; (first | rw [hal] | rw [har])) | (go_at_call 57; refine (isHead_any _ _).mono ?_; rintro e w' ⟨rfl, rfl⟩; rw [hhd]) | (go_at_call 58; refine (isMark_any _ _).mono ?_; rintro e w' ⟨rfl, rfl⟩; rw [hmk]) | (go_at_call 59; refine (C10.out _ (Below.refl _ _)).mono ?_; rintro e w1 ⟨rfl, hb1⟩) | (go_at_call 60; refine (C11.out _ (by first | exact Below.refl _ _ | exact hb1)).mono ?_; rintro e w2 ⟨rfl, hb2⟩) | (go_at_call 61; refine (C12.out _ (by first | exact Below.refl _ _ | exact hb1)).mono ?_; rintro e w3 ⟨rfl, hb3⟩))
        go_ret
        exact ⟨ret_bool HQ.out.symm, by first | exact Below.refl _ _ | exact ext_trans hb1 hb2 | exact ext_trans hb1 hb3 | exact hb1 | exact hb2 | exact hb3⟩
      | false =>
        have hal : Cl.alone 5 = false := rfl
        have hmk : ((5 : Int) == 4 || (5 : Int) == 5) = true := rfl
        have har : Cl.alone 14 = false := rfl
        have hhd : Cl.hd 14 = false := rfl
        have HQ : Hid (Cl.JR 5 14 false false b12 = false) := by cases b12 <;> rfl
        go_enter Try.func46, Try.ntmps46
        go_wp2_with (first | (go_at_call 56; refine (isAlone_any _ _).mono ?_; rintro e w' ⟨rfl, rfl⟩; (first | rw [hal] | rw [har])) | (go_at_call 57; refine (isHead_any _ _).mono ?_; rintro e w' ⟨rfl, rfl⟩; rw [hhd]) | (go_at_call 58; refine (isMark_any _ _).mono ?_; rintro e w' ⟨rfl, rfl⟩; rw [hmk]) | (go_at_call 59; refine (C10.out _ (Below.refl _ _)).mono ?_; rintro e w1 ⟨rfl, hb1⟩) | (go_at_call 60; refine (C11.out _ (by first | exact Below.refl _ _ | exact hb1)).mono ?_; rintro e w2 ⟨rfl, hb2⟩) | (go_at_call 61; refine (C12.out _ (by first | exact Below.refl _ _ | exact hb1)).mono ?_; rintro e w3 ⟨rfl, hb3⟩))
        go_ret
        exact ⟨ret_bool HQ.out.symm, by first | exact Below.refl _ _ | exact ext_trans hb1 hb2 | exact ext_trans hb1 hb3 | exact hb1 | exact hb2 | exact hb3⟩
  cases b10 with
  | true =>
    have r1 : (cr == 1) = false := by simp [e1]
    have r2 : (cr == 2) = false := by simp [e2]
    have r3 : (cr == 3) = false := by simp [e3]
    have r4 : (cr == 4) = false := by simp [e4]
    have r5 : (cr == 5) = false := by simp [e5]
    have r8 : (cr == 8) = false := by simp [e8]
    have r14 : (cr == 14) = false := by simp [e14]
    have hal : Cl.alone 5 = false := rfl
    have hmk : ((5 : Int) == 4 || (5 : Int) == 5) = true := rfl
    have har : Cl.alone cr = false := by simp [Cl.alone]; omega
    have hhd : Cl.hd cr = Cl.hd cr := rfl
    have HQ : Hid (Cl.JR 5 cr true b11 b12 = true) := by unfold Hid Cl.JR; rw [if_neg (by omega), if_neg (by simp [hal]), if_neg (by simp [har])]; simp [Cl.hg, *]
    go_enter Try.func46, Try.ntmps46
    go_wp2_with (first | (go_at_call 56; refine (isAlone_any _ _).mono ?_; rintro e w' ⟨rfl, rfl⟩; (first | rw [hal] | rw [har])) | (go_at_call 57; refine (isHead_any _ _).mono ?_; rintro e w' ⟨rfl, rfl⟩; rw [hhd]) | (go_at_call 58; refine (isMark_any _ _).mono ?_; rintro e w' ⟨rfl, rfl⟩; rw [hmk]) | (go_at_call 59; refine (C10.out _ (Below.refl _ _)).mono ?_; rintro e w1 ⟨rfl, hb1⟩) | (go_at_call 60; refine (C11.out _ (by first | exact Below.refl _ _ | exact hb1)).mono ?_; rintro e w2 ⟨rfl, hb2⟩) | (go_at_call 61; refine (C12.out _ (by first | exact Below.refl _ _ | exact hb1)).mono ?_; rintro e w3 ⟨rfl, hb3⟩))
    go_ret
    exact ⟨ret_bool HQ.out.symm, by first | exact Below.refl _ _ | exact ext_trans hb1 hb2 | exact ext_trans hb1 hb3 | exact hb1 | exact hb2 | exact hb3⟩
  | false =>
    have r1 : (cr == 1) = false := by simp [e1]
    have r2 : (cr == 2) = false := by simp [e2]
    have r3 : (cr == 3) = false := by simp [e3]
    have r4 : (cr == 4) = false := by simp [e4]
    have r5 : (cr == 5) = false := by simp [e5]
    have r8 : (cr == 8) = false := by simp [e8]
    have r14 : (cr == 14) = false := by simp [e14]
    have hal : Cl.alone 5 = false := rfl
    have hmk : ((5 : Int) == 4 || (5 : Int) == 5) = true := rfl
    have har : Cl.alone cr = false := by simp [Cl.alone]; omega
    have hhd : Cl.hd cr = Cl.hd cr := rfl
    have HQ : Hid (Cl.JR 5 cr false b11 b12 = false) := by unfold Hid Cl.JR; rw [if_neg (by omega), if_neg (by simp [hal]), if_neg (by simp [har])]; simp [Cl.hg, *]
    go_enter Try.func46, Try.ntmps46
    go_wp2_with (first | (go_at_call 56; refine (isAlone_any _ _).mono ?_; rintro e w' ⟨rfl, rfl⟩; (first | rw [hal] | rw [har])) | (go_at_call 57; refine (isHead_any _ _).mono ?_; rintro e w' ⟨rfl, rfl⟩; rw [hhd]) | (go_at_call 58; refine (isMark_any _ _).mono ?_; rintro e w' ⟨rfl, rfl⟩; rw [hmk]) | (go_at_call 59; refine (C10.out _ (Below.refl _ _)).mono ?_; rintro e w1 ⟨rfl, hb1⟩) | (go_at_call 60; refine (C11.out _ (by first | exact Below.refl _ _ | exact hb1)).mono ?_; rintro e w2 ⟨rfl, hb2⟩) | (go_at_call 61; refine (C12.out _ (by first | exact Below.refl _ _ | exact hb1)).mono ?_; rintro e w3 ⟨rfl, hb3⟩))
    go_ret
    exact ⟨ret_bool HQ.out.symm, by first | exact Below.refl _ _ | exact ext_trans hb1 hb2 | exact ext_trans hb1 hb3 | exact hb1 | exact hb2 | exact hb3⟩

set_option maxRecDepth 100000 in
set_option maxHeartbeats 4000000 in
theorem joined_6 (cr : Int) (b10 b11 b12 : Bool) (ao : Option Addr) (n cap : Nat) (k : Int) (w : World)
    (C10 : Hid (∀ w', Below w.heap.size w w' → Calls Try.prog 59 #[.slice ao n cap, .int .i64 k] w' fun e w'' => e = .returned (.bool b10) ∧ Below w'.heap.size w' w''))
    (C11 : Hid (∀ w', Below w.heap.size w w' → Calls Try.prog 60 #[.slice ao n cap, .int .i64 k] w' fun e w'' => e = .returned (.bool b11) ∧ Below w'.heap.size w' w''))
    (C12 : Hid (∀ w', Below w.heap.size w w' → Calls Try.prog 61 #[.slice ao n cap, .int .i64 k] w' fun e w'' => e = .returned (.bool b12) ∧ Below w'.heap.size w' w'')) :
    Calls Try.prog 46 #[.slice ao n cap, .int .i64 k, .int .i64 (6), .int .i64 cr] w fun e w' => e = .returned (.bool (Cl.JR 6 cr b10 b11 b12)) ∧ Below w.heap.size w w' := by
  by_cases e1 : cr = 1
  · subst e1
    have hal : Cl.alone 6 = false := rfl
    have hmk : ((6 : Int) == 4 || (6 : Int) == 5) = false := rfl
    have har : Cl.alone 1 = true := rfl
    have hhd : Cl.hd 1 = false := rfl
    have HQ : Hid (Cl.JR 6 1 b10 b11 b12 = false) := by cases b10 <;> cases b11 <;> cases b12 <;> rfl
    go_enter Try.func46, Try.ntmps46
    go_wp2_with (first | (go_at_call 56; refine (isAlone_any _ _).mono ?_; rintro e w' ⟨rfl, rfl⟩; (first | rw [hal] | rw [har])) | (go_at_call 57; refine (isHead_any _ _).mono ?_; rintro e w' ⟨rfl, rfl⟩; rw [hhd]) | (go_at_call 58; refine (isMark_any _ _).mono ?_; rintro e w' ⟨rfl, rfl⟩; rw [hmk]) | (go_at_call 59; refine (C10.out _ (Below.refl _ _)).mono ?_; rintro e w1 ⟨rfl, hb1⟩) | (go_at_call 60; refine (C11.out _ (by first | exact Below.refl _ _ | exact hb1)).mono ?_; rintro e w2 ⟨rfl, hb2⟩) | (go_at_call 61; refine (C12.out _ (by first | exact Below.refl _ _ | exact hb1)).mono ?_; rintro e w3 ⟨rfl, hb3⟩))
    go_ret
    exact ⟨ret_bool HQ.out.symm, by first | exact Below.refl _ _ | exact ext_trans hb1 hb2 | exact ext_trans hb1 hb3 | exact hb1 | exact hb2 | exact hb3⟩
  by_cases e2 : cr = 2
  · subst e2
    have hal : Cl.alone 6 = false := rfl
    have hmk : ((6 : Int) == 4 || (6 : Int) == 5) = false := rfl
    have har : Cl.alone 2 = true := rfl
    have hhd : Cl.hd 2 = false := rfl
    have HQ : Hid (Cl.JR 6 2 b10 b11 b12 = false) := by cases b10 <;> cases b11 <;> cases b12 <;> rfl
    go_enter Try.func46, Try.ntmps46
    go_wp2_with (first | (go_at_call 56; refine (isAlone_any _ _).mono ?_; rintro e w' ⟨rfl, rfl⟩; (first | rw [hal] | rw [har])) | (go_at_call 57; refine (isHead_any _ _).mono ?_; rintro e w' ⟨rfl, rfl⟩; rw [hhd]) | (go_at_call 58; refine (isMark_any _ _).mono ?_; rintro e w' ⟨rfl, rfl⟩; rw [hmk]) | (go_at_call 59; refine (C10.out _ (Below.refl _ _)).mono ?_; rintro e w1 ⟨rfl, hb1⟩) | (go_at_call 60; refine (C11.out _ (by first | exact Below.refl _ _ | exact hb1)).mono ?_; rintro e w2 ⟨rfl, hb2⟩) | (go_at_call 61; refine (C12.out _ (by first | exact Below.refl _ _ | exact hb1)).mono ?_; rintro e w3 ⟨rfl, hb3⟩))
    go_ret
    exact ⟨ret_bool HQ.out.symm, by first | exact Below.refl _ _ | exact ext_trans hb1 hb2 | exact ext_trans hb1 hb3 | exact hb1 | exact hb2 | exact hb3⟩
  by_cases e3 : cr = 3
  · subst e3
    have hal : Cl.alone 6 = false := rfl
    have hmk : ((6 : Int) == 4 || (6 : Int) == 5) = false := rfl
    have har : Cl.alone 3 = true := rfl
    have hhd : Cl.hd 3 = false := rfl
    have HQ : Hid (Cl.JR 6 3 b10 b11 b12 = false) := by cases b10 <;> cases b11 <;> cases b12 <;> rfl
    go_enter Try.func46, Try.ntmps46
    go_wp2_with (first | (go_at_call 56; refine (isAlone_any _ _).mono ?_; rintro e w' ⟨rfl, rfl⟩; (first | rw [hal] | rw [har])) | (go_at_call 57; refine (isHead_any _ _).mono ?_; rintro e w' ⟨rfl, rfl⟩; rw [hhd]) | (go_at_call 58; refine (isMark_any _ _).mono ?_; rintro e w' ⟨rfl, rfl⟩; rw [hmk]) | (go_at_call 59; refine (C10.out _ (Below.refl _ _)).mono ?_; rintro e w1 ⟨rfl, hb1⟩) | (go_at_call 60; refine (C11.out _ (by first | exact Below.refl _ _ | exact hb1)).mono ?_; rintro e w2 ⟨rfl, hb2⟩) | (go_at_call 61; refine (C12.out _ (by first | exact Below.refl _ _ | exact hb1)).mono ?_; rintro e w3 ⟨rfl, hb3⟩))
    go_ret
    exact ⟨ret_bool HQ.out.symm, by first | exact Below.refl _ _ | exact ext_trans hb1 hb2 | exact ext_trans hb1 hb3 | exact hb1 | exact hb2 | exact hb3⟩
  by_cases e4 : cr = 4
  · subst e4
    have hal : Cl.alone 6 = false := rfl
    have hmk : ((6 : Int) == 4 || (6 : Int) == 5) = false := rfl
    have har : Cl.alone 4 = false := rfl
    have hhd : Cl.hd 4 = false := rfl
    have HQ : Hid (Cl.JR 6 4 b10 b11 b12 = true) := by cases b10 <;> cases b11 <;> cases b12 <;> rfl
    go_enter Try.func46, Try.ntmps46
    go_wp2_with (first | (go_at_call 56; refine (isAlone_any _ _).mono ?_; rintro e w' ⟨rfl, rfl⟩; (first | rw [hal] | rw [har])) | (go_at_call 57; refine (isHead_any _ _).mono ?_; rintro e w' ⟨rfl, rfl⟩; rw [hhd]) | (go_at_call 58; refine (isMark_any _ _).mono ?_; rintro e w' ⟨rfl, rfl⟩; rw [hmk]) | (go_at_call 59; refine (C10.out _ (Below.refl _ _)).mono ?_; rintro e w1 ⟨rfl, hb1⟩) | (go_at_call 60; refine (C11.out _ (by first | exact Below.refl _ _ | exact hb1)).mono ?_; rintro e w2 ⟨rfl, hb2⟩) | (go_at_call 61; refine (C12.out _ (by first | exact Below.refl _ _ | exact hb1)).mono ?_; rintro e w3 ⟨rfl, hb3⟩))
    go_ret
    exact ⟨ret_bool HQ.out.symm, by first | exact Below.refl _ _ | exact ext_trans hb1 hb2 | exact ext_trans hb1 hb3 | exact hb1 | exact hb2 | exact hb3⟩
  by_cases e5 : cr = 5
  · subst e5
    have hal : Cl.alone 6 = false := rfl
    have hmk : ((6 : Int) == 4 || (6 : Int) == 5) = false := rfl
    have har : Cl.alone 5 = false := rfl
    have hhd : Cl.hd 5 = false := rfl
    have HQ : Hid (Cl.JR 6 5 b10 b11 b12 = true) := by cases b10 <;> cases b11 <;> cases b12 <;> rfl
    go_enter Try.func46, Try.ntmps46
    go_wp2_with (first | (go_at_call 56; refine (isAlone_any _ _).mono ?_; rintro e w' ⟨rfl, rfl⟩; (first | rw [hal] | rw [har])) | (go_at_call 57; refine (isHead_any _ _).mono ?_; rintro e w' ⟨rfl, rfl⟩; rw [hhd]) | (go_at_call 58; refine (isMark_any _ _).mono ?_; rintro e w' ⟨rfl, rfl⟩; rw [hmk]) | (go_at_call 59; refine (C10.out _ (Below.refl _ _)).mono ?_; rintro e w1 ⟨rfl, hb1⟩) | (go_at_call 60; refine (C11.out _ (by first | exact Below.refl _ _ | exact hb1)).mono ?_; rintro e w2 ⟨rfl, hb2⟩) | (go_at_call 61; refine (C12.out _ (by first | exact Below.refl _ _ | exact hb1)).mono ?_; rintro e w3 ⟨rfl, hb3⟩))
    go_ret
    exact ⟨ret_bool HQ.out.symm, by first | exact Below.refl _ _ | exact ext_trans hb1 hb2 | exact ext_trans hb1 hb3 | exact hb1 | exact hb2 | exact hb3⟩
  by_cases e8 : cr = 8
  · subst e8
    have hal : Cl.alone 6 = false := rfl
    have hmk : ((6 : Int) == 4 || (6 : Int) == 5) = false := rfl
    have har : Cl.alone 8 = false := rfl
    have hhd : Cl.hd 8 = false := rfl
    have HQ : Hid (Cl.JR 6 8 b10 b11 b12 = true) := by cases b10 <;> cases b11 <;> cases b12 <;> rfl
    go_enter Try.func46, Try.ntmps46
    go_wp2_with (first | (go_at_call 56; refine (isAlone_any _ _).mono ?_; rintro e w' ⟨rfl, rfl⟩; (first | rw [hal] | rw [har])) | (go_at_call 57; refine (isHead_any _ _).mono ?_; rintro e w' ⟨rfl, rfl⟩; rw [hhd]) | (go_at_call 58; refine (isMark_any _ _).mono ?_; rintro e w' ⟨rfl, rfl⟩; rw [hmk]) | (go_at_call 59; refine (C10.out _ (Below.refl _ _)).mono ?_; rintro e w1 ⟨rfl, hb1⟩) | (go_at_call 60; refine (C11.out _ (by first | exact Below.refl _ _ | exact hb1)).mono ?_; rintro e w2 ⟨rfl, hb2⟩) | (go_at_call 61; refine (C12.out _ (by first | exact Below.refl _ _ | exact hb1)).mono ?_; rintro e w3 ⟨rfl, hb3⟩))
    go_ret
    exact ⟨ret_bool HQ.out.symm, by first | exact Below.refl _ _ | exact ext_trans hb1 hb2 | exact ext_trans hb1 hb3 | exact hb1 | exact hb2 | exact hb3⟩
  by_cases e6 : cr = 6
  · subst e6
    cases b12 with
    | true =>
      have hal : Cl.alone 6 = false := rfl
      have hmk : ((6 : Int) == 4 || (6 : Int) == 5) = false := rfl
      have har : Cl.alone 6 = false := rfl
      have hhd : Cl.hd 6 = false := rfl
      have HQ : Hid (Cl.JR 6 6 b10 b11 true = true) := by cases b10 <;> cases b11 <;> rfl
      go_enter Try.func46, Try.ntmps46
      go_wp2_with (first | (go_at_call 56; refine (isAlone_any _ _).mono ?_; rintro e w' ⟨rfl, rfl⟩; (first | rw [hal] | rw [har])) | (go_at_call 57; refine (isHead_any _ _).mono ?_; rintro e w' ⟨rfl, rfl⟩; rw [hhd]) | (go_at_call 58; refine (isMark_any _ _).mono ?_; rintro e w' ⟨rfl, rfl⟩; rw [hmk]) | (go_at_call 59; refine (C10.out _ (Below.refl _ _)).mono ?_; rintro e w1 ⟨rfl, hb1⟩) | (go_at_call 60; refine (C11.out _ (by first | exact Below.refl _ _ | exact hb1)).mono ?_; rintro e w2 ⟨rfl, hb2⟩) | (go_at_call 61; refine (C12.out _ (by first | exact Below.refl _ _ | exact hb1)).mono ?_; rintro e w3 ⟨rfl, hb3⟩))
      go_ret
      exact ⟨ret_bool HQ.out.symm, by first | exact Below.refl _ _ | exact ext_trans hb1 hb2 | exact ext_trans hb1 hb3 | exact hb1 | exact hb2 | exact hb3⟩
    | false =>
      have hal : Cl.alone 6 = false := rfl
      have hmk : ((6 : Int) == 4 || (6 : Int) == 5) = false := rfl
      have har : Cl.alone 6 = false := rfl
      have hhd : Cl.hd 6 = false := rfl
      have HQ : Hid (Cl.JR 6 6 b10 b11 false = false) := by cases b10 <;> cases b11 <;> rfl
      go_enter Try.func46, Try.ntmps46
      go_wp2_with (first | (go_at_call 56; refine (isAlone_any _ _).mono ?_; rintro e w' ⟨rfl, rfl⟩; (first | rw [hal] | rw [har])) | (go_at_call 57; refine (isHead_any _ _).mono ?_; rintro e w' ⟨rfl, rfl⟩; rw [hhd]) | (go_at_call 58; refine (isMark_any _ _).mono ?_; rintro e w' ⟨rfl, rfl⟩; rw [hmk]) | (go_at_call 59; refine (C10.out _ (Below.refl _ _)).mono ?_; rintro e w1 ⟨rfl, hb1⟩) | (go_at_call 60; refine (C11.out _ (by first | exact Below.refl _ _ | exact hb1)).mono ?_; rintro e w2 ⟨rfl, hb2⟩) | (go_at_call 61; refine (C12.out _ (by first | exact Below.refl _ _ | exact hb1)).mono ?_; rintro e w3 ⟨rfl, hb3⟩))
      go_ret
      exact ⟨ret_bool HQ.out.symm, by first | exact Below.refl _ _ | exact ext_trans hb1 hb2 | exact ext_trans hb1 hb3 | exact hb1 | exact hb2 | exact hb3⟩
  have r1 : (cr == 1) = false := by simp [e1]
  have r2 : (cr == 2) = false := by simp [e2]
  have r3 : (cr == 3) = false := by simp [e3]
  have r4 : (cr == 4) = false := by simp [e4]
  have r5 : (cr == 5) = false := by simp [e5]
  have r8 : (cr == 8) = false := by simp [e8]
  have r6 : (cr == 6) = false := by simp [e6]
  have hal : Cl.alone 6 = false := rfl
  have hmk : ((6 : Int) == 4 || (6 : Int) == 5) = false := rfl
  have har : Cl.alone cr = false := by simp [Cl.alone]; omega
  have hhd : Cl.hd cr = Cl.hd cr := rfl
  have HQ : Hid (Cl.JR 6 cr b10 b11 b12 = false) := by unfold Hid Cl.JR; rw [if_neg (by omega), if_neg (by simp [hal]), if_neg (by simp [har])]; simp [Cl.hg, *]
  go_enter Try.func46, Try.ntmps46
  go_wp2_with (first | (go_at_call 56; refine (isAlone_any _ _).mono ?_; rintro e w' ⟨rfl, rfl⟩; (first | rw [hal] | rw [har])) | (go_at_call 57; refine (isHead_any _ _).mono ?_; rintro e w' ⟨rfl, rfl⟩; rw [hhd]) | (go_at_call 58; refine (isMark_any _ _).mono ?_; rintro e w' ⟨rfl, rfl⟩; rw [hmk]) | (go_at_call 59; refine (C10.out _ (Below.refl _ _)).mono ?_; rintro e w1 ⟨rfl, hb1⟩) | (go_at_call 60; refine (C11.out _ (by first | exact Below.refl _ _ | exact hb1)).mono ?_; rintro e w2 ⟨rfl, hb2⟩) | (go_at_call 61; refine (C12.out _ (by first | exact Below.refl _ _ | exact hb1)).mono ?_; rintro e w3 ⟨rfl, hb3⟩))
  go_ret
  exact ⟨ret_bool HQ.out.symm, by first | exact Below.refl _ _ | exact ext_trans hb1 hb2 | exact ext_trans hb1 hb3 | exact hb1 | exact hb2 | exact hb3⟩

set_option maxRecDepth 100000 in
set_option maxHeartbeats 4000000 in
theorem joined_o (cl : Int) (cr : Int) (b10 b11 b12 : Bool) (ao : Option Addr) (n cap : Nat) (k : Int) (w : World) (hcl : cl ≠ 1 ∧ cl ≠ 2 ∧ cl ≠ 3 ∧ cl ≠ 9 ∧ cl ≠ 12 ∧ cl ≠ 10 ∧ cl ≠ 13 ∧ cl ≠ 11 ∧ cl ≠ 7 ∧ cl ≠ 4 ∧ cl ≠ 5 ∧ cl ≠ 6)
    (C10 : Hid (∀ w', Below w.heap.size w w' → Calls Try.prog 59 #[.slice ao n cap, .int .i64 k] w' fun e w'' => e = .returned (.bool b10) ∧ Below w'.heap.size w' w''))
    (C11 : Hid (∀ w', Below w.heap.size w w' → Calls Try.prog 60 #[.slice ao n cap, .int .i64 k] w' fun e w'' => e = .returned (.bool b11) ∧ Below w'.heap.size w' w''))
    (C12 : Hid (∀ w', Below w.heap.size w w' → Calls Try.prog 61 #[.slice ao n cap, .int .i64 k] w' fun e w'' => e = .returned (.bool b12) ∧ Below w'.heap.size w' w'')) :
    Calls Try.prog 46 #[.slice ao n cap, .int .i64 k, .int .i64 (cl), .int .i64 cr] w fun e w' => e = .returned (.bool (Cl.JR cl cr b10 b11 b12)) ∧ Below w.heap.size w w' := by
  obtain ⟨h1, h2, h3, h9, h12, h10, h13, h11, h7, h4, h5, h6⟩ := hcl
  by_cases e1 : cr = 1
  · subst e1
    have l1 : (cl == 1) = false := by simp; omega
    have l2 : (cl == 2) = false := by simp; omega
    have l3 : (cl == 3) = false := by simp; omega
    have l9 : (cl == 9) = false := by simp; omega
    have l12 : (cl == 12) = false := by simp; omega
    have l10 : (cl == 10) = false := by simp; omega
    have l13 : (cl == 13) = false := by simp; omega
    have l11 : (cl == 11) = false := by simp; omega
    have l7 : (cl == 7) = false := by simp; omega
    have l4 : (cl == 4) = false := by simp; omega
    have l5 : (cl == 5) = false := by simp; omega
    have l6 : (cl == 6) = false := by simp; omega
    have hal : Cl.alone cl = false := by simp [Cl.alone]; omega
    have hmk : (cl == 4 || cl == 5) = false := by simp; omega
    have har : Cl.alone 1 = true := rfl
    have hhd : Cl.hd 1 = false := rfl
    have HQ : Hid (Cl.JR cl 1 b10 b11 b12 = false) := by unfold Hid Cl.JR; rw [if_neg (by omega), if_neg (by simp [hal]), if_pos har]
    go_enter Try.func46, Try.ntmps46
    go_wp2_with (first | (go_at_call 56; refine (isAlone_any _ _).mono ?_; rintro e w' ⟨rfl, rfl⟩; (first | rw [hal] | rw [har])) | (go_at_call 57; refine (isHead_any _ _).mono ?_; rintro e w' ⟨rfl, rfl⟩; rw [hhd]) | (go_at_call 58; refine (isMark_any _ _).mono ?_; rintro e w' ⟨rfl, rfl⟩; rw [hmk]) | (go_at_call 59; refine (C10.out _ (Below.refl _ _)).mono ?_; rintro e w1 ⟨rfl, hb1⟩) | (go_at_call 60; refine (C11.out _ (by first | exact Below.refl _ _ | exact hb1)).mono ?_; rintro e w2 ⟨rfl, hb2⟩) | (go_at_call 61; refine (C12.out _ (by first | exact Below.refl _ _ | exact hb1)).mono ?_; rintro e w3 ⟨rfl, hb3⟩))
    go_ret
    exact ⟨ret_bool HQ.out.symm, by first | exact Below.refl _ _ | exact ext_trans hb1 hb2 | exact ext_trans hb1 hb3 | exact hb1 | exact hb2 | exact hb3⟩
  by_cases e2 : cr = 2
  · subst e2
    have l1 : (cl == 1) = false := by simp; omega
    have l2 : (cl == 2) = false := by simp; omega
    have l3 : (cl == 3) = false := by simp; omega
    have l9 : (cl == 9) = false := by simp; omega
    have l12 : (cl == 12) = false := by simp; omega
    have l10 : (cl == 10) = false := by simp; omega
    have l13 : (cl == 13) = false := by simp; omega
    have l11 : (cl == 11) = false := by simp; omega
    have l7 : (cl == 7) = false := by simp; omega
    have l4 : (cl == 4) = false := by simp; omega
    have l5 : (cl == 5) = false := by simp; omega
    have l6 : (cl == 6) = false := by simp; omega
    have hal : Cl.alone cl = false := by simp [Cl.alone]; omega
    have hmk : (cl == 4 || cl == 5) = false := by simp; omega
    have har : Cl.alone 2 = true := rfl
    have hhd : Cl.hd 2 = false := rfl
    have HQ : Hid (Cl.JR cl 2 b10 b11 b12 = false) := by unfold Hid Cl.JR; rw [if_neg (by omega), if_neg (by simp [hal]), if_pos har]
    go_enter Try.func46, Try.ntmps46
    go_wp2_with (first | (go_at_call 56; refine (isAlone_any _ _).mono ?_; rintro e w' ⟨rfl, rfl⟩; (first | rw [hal] | rw [har])) | (go_at_call 57; refine (isHead_any _ _).mono ?_; rintro e w' ⟨rfl, rfl⟩; rw [hhd]) | (go_at_call 58; refine (isMark_any _ _).mono ?_; rintro e w' ⟨rfl, rfl⟩; rw [hmk]) | (go_at_call 59; refine (C10.out _ (Below.refl _ _)).mono ?_; rintro e w1 ⟨rfl, hb1⟩) | (go_at_call 60; refine (C11.out _ (by first | exact Below.refl _ _ | exact hb1)).mono ?_; rintro e w2 ⟨rfl, hb2⟩) | (go_at_call 61; refine (C12.out _ (by first | exact Below.refl _ _ | exact hb1)).mono ?_; rintro e w3 ⟨rfl, hb3⟩))
    go_ret
    exact ⟨ret_bool HQ.out.symm, by first | exact Below.refl _ _ | exact ext_trans hb1 hb2 | exact ext_trans hb1 hb3 | exact hb1 | exact hb2 | exact hb3⟩
  by_cases e3 : cr = 3
  · subst e3
    have l1 : (cl == 1) = false := by simp; omega
    have l2 : (cl == 2) = false := by simp; omega
    have l3 : (cl == 3) = false := by simp; omega
    have l9 : (cl == 9) = false := by simp; omega
    have l12 : (cl == 12) = false := by simp; omega
    have l10 : (cl == 10) = false := by simp; omega
    have l13 : (cl == 13) = false := by simp; omega
    have l11 : (cl == 11) = false := by simp; omega
    have l7 : (cl == 7) = false := by simp; omega
    have l4 : (cl == 4) = false := by simp; omega
    have l5 : (cl == 5) = false := by simp; omega
    have l6 : (cl == 6) = false := by simp; omega
    have hal : Cl.alone cl = false := by simp [Cl.alone]; omega
    have hmk : (cl == 4 || cl == 5) = false := by simp; omega
    have har : Cl.alone 3 = true := rfl
    have hhd : Cl.hd 3 = false := rfl
    have HQ : Hid (Cl.JR cl 3 b10 b11 b12 = false) := by unfold Hid Cl.JR; rw [if_neg (by omega), if_neg (by simp [hal]), if_pos har]
    go_enter Try.func46, Try.ntmps46
    go_wp2_with (first | (go_at_call 56; refine (isAlone_any _ _).mono ?_; rintro e w' ⟨rfl, rfl⟩; (first | rw [hal] | rw [har])) | (go_at_call 57; refine (isHead_any _ _).mono ?_; rintro e w' ⟨rfl, rfl⟩; rw [hhd]) | (go_at_call 58; refine (isMark_any _ _).mono ?_; rintro e w' ⟨rfl, rfl⟩; rw [hmk]) | (go_at_call 59; refine (C10.out _ (Below.refl _ _)).mono ?_; rintro e w1 ⟨rfl, hb1⟩) | (go_at_call 60; refine (C11.out _ (by first | exact Below.refl _ _ | exact hb1)).mono ?_; rintro e w2 ⟨rfl, hb2⟩) | (go_at_call 61; refine (C12.out _ (by first | exact Below.refl _ _ | exact hb1)).mono ?_; rintro e w3 ⟨rfl, hb3⟩))
    go_ret
    exact ⟨ret_bool HQ.out.symm, by first | exact Below.refl _ _ | exact ext_trans hb1 hb2 | exact ext_trans hb1 hb3 | exact hb1 | exact hb2 | exact hb3⟩
  by_cases e4 : cr = 4
  · subst e4
    have l1 : (cl == 1) = false := by simp; omega
    have l2 : (cl == 2) = false := by simp; omega
    have l3 : (cl == 3) = false := by simp; omega
    have l9 : (cl == 9) = false := by simp; omega
    have l12 : (cl == 12) = false := by simp; omega
    have l10 : (cl == 10) = false := by simp; omega
    have l13 : (cl == 13) = false := by simp; omega
    have l11 : (cl == 11) = false := by simp; omega
    have l7 : (cl == 7) = false := by simp; omega
    have l4 : (cl == 4) = false := by simp; omega
    have l5 : (cl == 5) = false := by simp; omega
    have l6 : (cl == 6) = false := by simp; omega
    have hal : Cl.alone cl = false := by simp [Cl.alone]; omega
    have hmk : (cl == 4 || cl == 5) = false := by simp; omega
    have har : Cl.alone 4 = false := rfl
    have hhd : Cl.hd 4 = false := rfl
    have HQ : Hid (Cl.JR cl 4 b10 b11 b12 = true) := by unfold Hid Cl.JR; rw [if_neg (by omega), if_neg (by simp [hal]), if_neg (by simp [har])]; simp [Cl.hg, *]
    go_enter Try.func46, Try.ntmps46
    go_wp2_with (first | (go_at_call 56; refine (isAlone_any _ _).mono ?_; rintro e w' ⟨rfl, rfl⟩; (first | rw [hal] | rw [har])) | (go_at_call 57; refine (isHead_any _ _).mono ?_; rintro e w' ⟨rfl, rfl⟩; rw [hhd]) | (go_at_call 58; refine (isMark_any _ _).mono ?_; rintro e w' ⟨rfl, rfl⟩; rw [hmk]) | (go_at_call 59; refine (C10.out _ (Below.refl _ _)).mono ?_; rintro e w1 ⟨rfl, hb1⟩) | (go_at_call 60; refine (C11.out _ (by first | exact Below.refl _ _ | exact hb1)).mono ?_; rintro e w2 ⟨rfl, hb2⟩) | (go_at_call 61; refine (C12.out _ (by first | exact Below.refl _ _ | exact hb1)).mono ?_; rintro e w3 ⟨rfl, hb3⟩))
    go_ret
    exact ⟨ret_bool HQ.out.symm, by first | exact Below.refl _ _ | exact ext_trans hb1 hb2 | exact ext_trans hb1 hb3 | exact hb1 | exact hb2 | exact hb3⟩
  by_cases e5 : cr = 5
  · subst e5
    have l1 : (cl == 1) = false := by simp; omega
    have l2 : (cl == 2) = false := by simp; omega
    have l3 : (cl == 3) = false := by simp; omega
    have l9 : (cl == 9) = false := by simp; omega
    have l12 : (cl == 12) = false := by simp; omega
    have l10 : (cl == 10) = false := by simp; omega
    have l13 : (cl == 13) = false := by simp; omega
    have l11 : (cl == 11) = false := by simp; omega
    have l7 : (cl == 7) = false := by simp; omega
    have l4 : (cl == 4) = false := by simp; omega
    have l5 : (cl == 5) = false := by simp; omega
    have l6 : (cl == 6) = false := by simp; omega
    have hal : Cl.alone cl = false := by simp [Cl.alone]; omega
    have hmk : (cl == 4 || cl == 5) = false := by simp; omega
    have har : Cl.alone 5 = false := rfl
    have hhd : Cl.hd 5 = false := rfl
    have HQ : Hid (Cl.JR cl 5 b10 b11 b12 = true) := by unfold Hid Cl.JR; rw [if_neg (by omega), if_neg (by simp [hal]), if_neg (by simp [har])]; simp [Cl.hg, *]
    go_enter Try.func46, Try.ntmps46
    go_wp2_with (first | (go_at_call 56; refine (isAlone_any _ _).mono ?_; rintro e w' ⟨rfl, rfl⟩; (first | rw [hal] | rw [har])) | (go_at_call 57; refine (isHead_any _ _).mono ?_; rintro e w' ⟨rfl, rfl⟩; rw [hhd]) | (go_at_call 58; refine (isMark_any _ _).mono ?_; rintro e w' ⟨rfl, rfl⟩; rw [hmk]) | (go_at_call 59; refine (C10.out _ (Below.refl _ _)).mono ?_; rintro e w1 ⟨rfl, hb1⟩) | (go_at_call 60; refine (C11.out _ (by first | exact Below.refl _ _ | exact hb1)).mono ?_; rintro e w2 ⟨rfl, hb2⟩) | (go_at_call 61; refine (C12.out _ (by first | exact Below.refl _ _ | exact hb1)).mono ?_; rintro e w3 ⟨rfl, hb3⟩))
    go_ret
    exact ⟨ret_bool HQ.out.symm, by first | exact Below.refl _ _ | exact ext_trans hb1 hb2 | exact ext_trans hb1 hb3 | exact hb1 | exact hb2 | exact hb3⟩
  by_cases e8 : cr = 8
  · subst e8
    have l1 : (cl == 1) = false := by simp; omega
    have l2 : (cl == 2) = false := by simp; omega
    have l3 : (cl == 3) = false := by simp; omega
    have l9 : (cl == 9) = false := by simp; omega
    have l12 : (cl == 12) = false := by simp; omega
    have l10 : (cl == 10) = false := by simp; omega
    have l13 : (cl == 13) = false := by simp; omega
    have l11 : (cl == 11) = false := by simp; omega
    have l7 : (cl == 7) = false := by simp; omega
    have l4 : (cl == 4) = false := by simp; omega
    have l5 : (cl == 5) = false := by simp; omega
    have l6 : (cl == 6) = false := by simp; omega
    have hal : Cl.alone cl = false := by simp [Cl.alone]; omega
    have hmk : (cl == 4 || cl == 5) = false := by simp; omega
    have har : Cl.alone 8 = false := rfl
    have hhd : Cl.hd 8 = false := rfl
    have HQ : Hid (Cl.JR cl 8 b10 b11 b12 = true) := by unfold Hid Cl.JR; rw [if_neg (by omega), if_neg (by simp [hal]), if_neg (by simp [har])]; simp [Cl.hg, *]
    go_enter Try.func46, Try.ntmps46
    go_wp2_with (first | (go_at_call 56; refine (isAlone_any _ _).mono ?_; rintro e w' ⟨rfl, rfl⟩; (first | rw [hal] | rw [har])) | (go_at_call 57; refine (isHead_any _ _).mono ?_; rintro e w' ⟨rfl, rfl⟩; rw [hhd]) | (go_at_call 58; refine (isMark_any _ _).mono ?_; rintro e w' ⟨rfl, rfl⟩; rw [hmk]) | (go_at_call 59; refine (C10.out _ (Below.refl _ _)).mono ?_; rintro e w1 ⟨rfl, hb1⟩) | (go_at_call 60; refine (C11.out _ (by first | exact Below.refl _ _ | exact hb1)).mono ?_; rintro e w2 ⟨rfl, hb2⟩) | (go_at_call 61; refine (C12.out _ (by first | exact Below.refl _ _ | exact hb1)).mono ?_; rintro e w3 ⟨rfl, hb3⟩))
    go_ret
    exact ⟨ret_bool HQ.out.symm, by first | exact Below.refl _ _ | exact ext_trans hb1 hb2 | exact ext_trans hb1 hb3 | exact hb1 | exact hb2 | exact hb3⟩
  have r1 : (cr == 1) = false := by simp [e1]
  have r2 : (cr == 2) = false := by simp [e2]
  have r3 : (cr == 3) = false := by simp [e3]
  have r4 : (cr == 4) = false := by simp [e4]
  have r5 : (cr == 5) = false := by simp [e5]
  have r8 : (cr == 8) = false := by simp [e8]
  have l1 : (cl == 1) = false := by simp [h1]
  have l2 : (cl == 2) = false := by simp [h2]
  have l3 : (cl == 3) = false := by simp [h3]
  have l9 : (cl == 9) = false := by simp [h9]
  have l12 : (cl == 12) = false := by simp [h12]
  have l10 : (cl == 10) = false := by simp [h10]
  have l13 : (cl == 13) = false := by simp [h13]
  have l11 : (cl == 11) = false := by simp [h11]
  have l7 : (cl == 7) = false := by simp [h7]
  have l4 : (cl == 4) = false := by simp [h4]
  have l5 : (cl == 5) = false := by simp [h5]
  have l6 : (cl == 6) = false := by simp [h6]
  have hal : Cl.alone cl = false := by simp [Cl.alone]; omega
  have hmk : (cl == 4 || cl == 5) = false := by simp; omega
  have har : Cl.alone cr = false := by simp [Cl.alone]; omega
  have hhd : Cl.hd cr = Cl.hd cr := rfl
  have HQ : Hid (Cl.JR cl cr b10 b11 b12 = false) := by unfold Hid Cl.JR; rw [if_neg (by omega), if_neg (by simp [hal]), if_neg (by simp [har])]; simp [Cl.hg, *]
  go_enter Try.func46, Try.ntmps46
  go_wp2_with (first | (go_at_call 56; refine (isAlone_any _ _).mono ?_; rintro e w' ⟨rfl, rfl⟩; (first | rw [hal] | rw [har])) | (go_at_call 57; refine (isHead_any _ _).mono ?_; rintro e w' ⟨rfl, rfl⟩; rw [hhd]) | (go_at_call 58; refine (isMark_any _ _).mono ?_; rintro e w' ⟨rfl, rfl⟩; rw [hmk]) | (go_at_call 59; refine (C10.out _ (Below.refl _ _)).mono ?_; rintro e w1 ⟨rfl, hb1⟩) | (go_at_call 60; refine (C11.out _ (by first | exact Below.refl _ _ | exact hb1)).mono ?_; rintro e w2 ⟨rfl, hb2⟩) | (go_at_call 61; refine (C12.out _ (by first | exact Below.refl _ _ | exact hb1)).mono ?_; rintro e w3 ⟨rfl, hb3⟩))
  go_ret
  exact ⟨ret_bool HQ.out.symm, by first | exact Below.refl _ _ | exact ext_trans hb1 hb2 | exact ext_trans hb1 hb3 | exact hb1 | exact hb2 | exact hb3⟩
set_option maxRecDepth 100000 in
theorem joined_any (v : Value) (zs : List Int) (k : Nat) (w : World) (hr : Rd .i64 w v zs) (h0 : 0 < k) (hk : k < zs.length) :
    Calls Try.prog 46 #[v, .int .i64 k, .int .i64 (Gx.cls (Cl.at zs (k - 1))), .int .i64 (Gx.cls (Cl.at zs k))] w fun e w' => e = .returned (.bool (Cl.jn zs k)) ∧ Below w.heap.size w w' := by
  rw [Cl.jn_JR zs k h0 hk]
  have C10 : Hid (∀ w', Below w.heap.size w w' → Calls Try.prog 59 #[v, .int .i64 k] w' fun e w'' => e = .returned (.bool (Gx.cnj (Cl.at zs k) == 1 && Cl.cj (Cl.rv zs k) == 2)) ∧ Below w'.heap.size w' w'') := fun w' hb => inConjunct_any v zs k w' (hr.ext hb) h0 hk
  have C11 : Hid (∀ w', Below w.heap.size w w' → Calls Try.prog 60 #[v, .int .i64 k] w' fun e w'' => e = .returned (.bool (Cl.pi (Cl.rv zs (k - 1)) == 1)) ∧ Below w'.heap.size w' w'') := fun w' hb => inPicture_any v zs k w' (hr.ext hb) h0 hk
  have C12 : Hid (∀ w', Below w.heap.size w w' → Calls Try.prog 61 #[v, .int .i64 k] w' fun e w'' => e = .returned (.bool ((Cl.fl (Cl.rv zs (k - 1)) + 1) % 2 == 1)) ∧ Below w'.heap.size w' w'') := fun w' hb => inFlag_any v zs k w' (hr.ext hb) h0 hk
  generalize (Gx.cnj (Cl.at zs k) == 1 && Cl.cj (Cl.rv zs k) == 2) = b10 at *
  generalize (Cl.pi (Cl.rv zs (k - 1)) == 1) = b11 at *
  generalize ((Cl.fl (Cl.rv zs (k - 1)) + 1) % 2 == 1) = b12 at *
  generalize Gx.cls (Cl.at zs (k - 1)) = cl at *
  generalize Gx.cls (Cl.at zs k) = cr at *
  obtain ⟨ao, cap, rfl, _⟩ := hr
  by_cases q1 : cl = 1
  · subst q1; exact joined_1 cr b10 b11 b12 ao _ cap _ w C10 C11 C12
  by_cases q2 : cl = 2
  · subst q2; exact joined_2 cr b10 b11 b12 ao _ cap _ w C10 C11 C12
  by_cases q3 : cl = 3
  · subst q3; exact joined_3 cr b10 b11 b12 ao _ cap _ w C10 C11 C12
  by_cases q9 : cl = 9
  · subst q9; exact joined_9 cr b10 b11 b12 ao _ cap _ w C10 C11 C12
  by_cases q12 : cl = 12
  · subst q12; exact joined_12 cr b10 b11 b12 ao _ cap _ w C10 C11 C12
  by_cases q10 : cl = 10
  · subst q10; exact joined_10 cr b10 b11 b12 ao _ cap _ w C10 C11 C12
  by_cases q13 : cl = 13
  · subst q13; exact joined_13 cr b10 b11 b12 ao _ cap _ w C10 C11 C12
  by_cases q11 : cl = 11
  · subst q11; exact joined_11 cr b10 b11 b12 ao _ cap _ w C10 C11 C12
  by_cases q7 : cl = 7
  · subst q7; exact joined_7 cr b10 b11 b12 ao _ cap _ w C10 C11 C12
  by_cases q4 : cl = 4
  · subst q4; exact joined_4 cr b10 b11 b12 ao _ cap _ w C10 C11 C12
  by_cases q5 : cl = 5
  · subst q5; exact joined_5 cr b10 b11 b12 ao _ cap _ w C10 C11 C12
  by_cases q6 : cl = 6
  · subst q6; exact joined_6 cr b10 b11 b12 ao _ cap _ w C10 C11 C12
  · exact joined_o cl cr b10 b11 b12 ao _ cap _ w ⟨q1, q2, q3, q9, q12, q10, q13, q11, q7, q4, q5, q6⟩ C10 C11 C12
end Go.Proofs.Ytahjjpleceppaaa
