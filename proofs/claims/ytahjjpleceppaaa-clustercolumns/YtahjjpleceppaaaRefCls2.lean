/- The document's Conjunct, Word, Width. -/
import Derived.Test.YtahjjpleceppaaaRefCls
namespace Go.Proofs.Ytahjjpleceppaaa
open Go.RowKit

def Gx.has (T : List Gx.Row) (v : Nat) (a : Int) : Bool := match Gx.find T a with | some r => r.2.2 == v | none => false

def Gx.link (a : Int) : Prop := a = 2381 ∨ a = 2509 ∨ a = 2765 ∨ a = 2893 ∨ a = 3149 ∨ a = 3405
theorem Gx.conj_rowR {a : Int} {r : Gx.Row} (h : Gx.find Gx.conjunctRows a = some r) : (r.2.2 = 1 ∧ ¬ Gx.link a ∧ Gx.cls a = 0) ∨ (r.2.2 = 3 ∧ Gx.link a) := by
  have hb := Gx.all_find (p := fun r => decide (2325 ≤ r.1) && decide (r.2.1 ≤ 3405) && (r.2.2 == 1 || (r.2.2 == 3 && r.1 == r.2.1 && (r.1 == 2381 || r.1 == 2509 || r.1 == 2765 || r.1 == 2893 || r.1 == 3149 || r.1 == 3405)))) (by decide +kernel) h
  simp at hb
  obtain ⟨_, l, u⟩ := Gx.find_mem h
  rcases hb.2 with h1 | ⟨⟨h3, h4⟩, h5⟩
  · refine .inl ⟨h1, ?_, ?_⟩
    · intro hl
      have e : ∀ a, Gx.link a → (Gx.find Gx.conjunctRows a).map (·.2.2) = some 3 := by
        rintro a (rfl | rfl | rfl | rfl | rfl | rfl) <;> decide +kernel
      have := e a hl
      rw [h] at this
      simp at this
      omega
    · have hs : Gx.isSc a = true := by simp [Gx.isSc, Gx.isLn]; omega
      rw [Gx.cls_fullR a hs (by omega)]
      cases hc : Gx.find Gx.fullRows a with
      | none => rfl
      | some s =>
        have := Gx.apart_find (p := fun r => r.2.2 == 1) (q := fun _ => true) (S := Gx.conjunctRows) (T := Gx.fullRows) (by decide +kernel) h hc (by simp [h1])
        simp at this
  · exact .inr ⟨h3, by unfold Gx.link; omega⟩

theorem Gx.cnj_facts (a : Int) : (Gx.link a ∧ Gx.cnj a = 3) ∨ (¬ Gx.link a ∧ (Gx.cls a = 4 ∨ Gx.cls a = 5) ∧ a ≠ 8204 ∧ Gx.cnj a = 2) ∨ (¬ Gx.link a ∧ ¬ ((Gx.cls a = 4 ∨ Gx.cls a = 5) ∧ a ≠ 8204) ∧ Gx.cnj a = if Gx.has Gx.conjunctRows 1 a then 1 else 0) := by
  cases h : Gx.find Gx.conjunctRows a with
  | some r =>
    have hc : Gx.cnj a = r.2.2 := by unfold Gx.cnj; rw [h]
    have hh : Gx.has Gx.conjunctRows 1 a = (r.2.2 == 1) := by unfold Gx.has; rw [h]
    rcases Gx.conj_rowR h with ⟨h1, h2, h3⟩ | ⟨h1, h2⟩
    · exact .inr (.inr ⟨h2, by omega, by rw [hc, hh, h1]; rfl⟩)
    · exact .inl ⟨h2, by rw [hc, h1]; rfl⟩
  | none =>
    have hc : Gx.cnj a = if a = 8204 then 0 else if Gx.cls a = 4 ∨ Gx.cls a = 5 then 2 else 0 := by unfold Gx.cnj; rw [h]
    have hh : Gx.has Gx.conjunctRows 1 a = false := by unfold Gx.has; rw [h]
    have hl : ¬ Gx.link a := by
      intro hl
      have e : ∀ a, Gx.link a → (Gx.find Gx.conjunctRows a).isSome = true := by
        rintro a (rfl | rfl | rfl | rfl | rfl | rfl) <;> decide +kernel
      have := e a hl
      rw [h] at this
      cases this
    by_cases h45 : (Gx.cls a = 4 ∨ Gx.cls a = 5) ∧ a ≠ 8204
    · exact .inr (.inl ⟨hl, h45.1, h45.2, by rw [hc, if_neg h45.2, if_pos h45.1]⟩)
    · refine .inr (.inr ⟨hl, h45, ?_⟩)
      rw [hc, hh]
      by_cases hn : a = 8204
      · simp [hn]
      · rw [if_neg hn, if_neg (fun h => h45 ⟨h, hn⟩)]; rfl

theorem rConsonant_any (a : Int) (w : World) : Calls Try.prog 76 #[.int .i64 a] w fun e w' => e = .returned (.bool (Gx.has Gx.conjunctRows 1 a)) ∧ w' = w := by
  have := r_consonant a w
  rwa [Gx.consonant_eq] at this

set_option maxRecDepth 100000 in
set_option maxHeartbeats 1000000 in
theorem rConjunct_any (a : Int) (w : World) : Calls Try.prog 69 #[.int .i64 a] w fun e w' => e = .returned (.int .i64 (Gx.cnj a)) ∧ w' = w := by
  have HF := Gx.cnj_facts a
  have CC : Hid (∀ w, Calls Try.prog 49 #[.int .i64 a] w fun e w' => e = .returned (.int .i64 (Gx.cls a)) ∧ w' = w) := rClass_any a
  have CK : Hid (∀ w, Calls Try.prog 76 #[.int .i64 a] w fun e w' => e = .returned (.bool (Gx.has Gx.conjunctRows 1 a)) ∧ w' = w) := rConsonant_any a
  have HN : Hid (Gx.cnj a = Gx.cnj a) := rfl
  generalize hj : Gx.cnj a = j at *
  generalize Gx.cls a = c at *
  generalize Gx.has Gx.conjunctRows 1 a = b at *
  clear hj HN
  rcases HF with ⟨hl, rfl⟩ | ⟨hl, hc, hn, rfl⟩ | ⟨hl, hc, hj⟩
  · rcases hl with rfl | rfl | rfl | rfl | rfl | rfl
    all_goals
      go_enter Try.func69, Try.ntmps69
      go_wp2
      go_ret
      exact ⟨rfl, rfl⟩
  all_goals
    have l1 : (a == 2381) = false := by unfold Gx.link at hl; simp; omega
    have l2 : (a == 2509) = false := by unfold Gx.link at hl; simp; omega
    have l3 : (a == 2765) = false := by unfold Gx.link at hl; simp; omega
    have l4 : (a == 2893) = false := by unfold Gx.link at hl; simp; omega
    have l5 : (a == 3149) = false := by unfold Gx.link at hl; simp; omega
    have l6 : (a == 3405) = false := by unfold Gx.link at hl; simp; omega
    clear hl
  · have bn : (a != 8204) = true := by simp [hn]
    rcases hc with rfl | rfl
    all_goals
      go_enter Try.func69, Try.ntmps69
      go_wp2_with (go_at_call 49; refine (CC.out _).mono ?_; rintro e w' ⟨rfl, rfl⟩)
      go_ret
      exact ⟨rfl, rfl⟩
  · by_cases h45 : c = 4 ∨ c = 5
    · have hn : a = 8204 := by
        apply Classical.byContradiction
        intro h
        exact hc ⟨h45, h⟩
      subst hn
      clear hc
      cases b
      all_goals
        simp only [Bool.false_eq_true, if_false, if_true] at hj
        subst hj
        rcases h45 with rfl | rfl
        all_goals
          go_enter Try.func69, Try.ntmps69
          go_wp2_with (first | (go_at_call 49; refine (CC.out _).mono ?_; rintro e w' ⟨rfl, rfl⟩) | (go_at_call 76; refine (CK.out _).mono ?_; rintro e w' ⟨rfl, rfl⟩))
          go_ret
          exact ⟨rfl, rfl⟩
    · have c4 : (c == 4) = false := by simp; omega
      have c5 : (c == 5) = false := by simp; omega
      clear hc h45
      cases b
      all_goals
        simp only [Bool.false_eq_true, if_false, if_true] at hj
        subst hj
        go_enter Try.func69, Try.ntmps69
        go_wp2_with (first | (go_at_call 49; refine (CC.out _).mono ?_; rintro e w' ⟨rfl, rfl⟩) | (go_at_call 76; refine (CK.out _).mono ?_; rintro e w' ⟨rfl, rfl⟩))
        go_ret
        exact ⟨rfl, rfl⟩
end Go.Proofs.Ytahjjpleceppaaa
