/- The document's filler: letter, escaped. -/
import Derived.Test.YtipnifenahhkoaaDoorFGiv
import Derived.Test.YtipnifenahhkoaaDoorFRd2
namespace Go.Proofs.YtipnifenahhkoaaDoor
open Go.RowKit

set_option maxRecDepth 100000 in
theorem rletter_any (c : Int) (w : World) : Calls Tryd.prog 24 #[.int .i64 c] w fun e w' => e = .returned (.bool (isL c || isD c)) ∧ w' = w := by
  rcases (show c < 48 ∨ (48 ≤ c ∧ c ≤ 57) ∨ (57 < c ∧ c < 65) ∨ (65 ≤ c ∧ c ≤ 90) ∨ (90 < c ∧ c < 97) ∨ (97 ≤ c ∧ c ≤ 122) ∨ 122 < c from by omega) with h | ⟨h, h'⟩ | ⟨h, h'⟩ | ⟨h, h'⟩ | ⟨h, h'⟩ | ⟨h, h'⟩ | h
  all_goals
    go_enter Tryd.func24, Tryd.ntmps24
    go_wp2
    go_ret
    refine ⟨ret_bool ?_, rfl⟩
    unfold isL isD
    first | (simp; done) | (simp; omega) | (rw [Bool.eq_iff_iff]; simp only [Bool.or_eq_true, Bool.and_eq_true, decide_eq_true_eq]; omega)
/-- What the letter behind a backslash is, but a digit and x. -/
def esc (c : Int) : Option Od :=
  if c = 110 ∨ c = 114 then some ⟨[10], 0⟩ else if c = 116 then some ⟨[9], 0⟩ else if c = 101 then some ⟨[27], 0⟩
  else if c = 117 ∨ c = 108 ∨ c = 85 ∨ c = 76 ∨ c = 69 then some ⟨[], c⟩ else if (isL c || isD c) = true then none else some ⟨[c], 0⟩
theorem bsl_esc (line mt src : List Int) (p : Nat) (hp : p < src.length) (hd : isD (src[p]?.getD 0) = false) (hx : src[p]?.getD 0 ≠ 120) : bsl line mt src p = (esc (src[p]?.getD 0)).map (·, p + 1) := by
  unfold bsl esc sgn
  rw [if_neg (by omega)]
  generalize src[p]?.getD 0 = c at *
  by_cases h1 : c = 110 ∨ c = 114
  · rw [if_pos h1, if_pos h1]; rfl
  rw [if_neg h1, if_neg h1]
  by_cases h2 : c = 116
  · subst h2; rfl
  simp only [if_neg h2]
  by_cases h3 : c = 101
  · subst h3; rfl
  simp only [if_neg h3]
  by_cases h4 : c = 117 ∨ c = 108 ∨ c = 85 ∨ c = 76 ∨ c = 69
  · rw [if_pos h4, if_pos h4]; rfl
  rw [if_neg h4, if_neg h4, hd, Bool.or_false]
  by_cases h5 : isL c = true
  · rw [if_pos h5, if_pos h5, if_neg hx]; rfl
  · rw [if_neg h5, if_neg h5, if_neg (by simp)]; rfl
/-- The staying letter, as the document keeps it. -/
def nxD (stay l : Int) : Int := if l = 85 ∨ l = 76 then l else if l = 69 then 0 else stay
/-- An order done by the document's filler. -/
def Dn (lo g : Nat) (w w' : World) (out : List Int) (once stay : Int) (o : Od) : Prop := Df lo w' g (out ++ giv (nxO once o.letter) (nxD stay o.letter) o.gives) (onc (nxO once o.letter) o.gives) (nxD stay o.letter) ∧ Below lo w w'
theorem dn_one {lo g : Nat} {w w' : World} {out : List Int} {once stay x : Int} {e : Ending} (h : GiR lo g w out once stay x e w') : Dn lo g w w' out once stay ⟨[x], 0⟩ := by
  obtain ⟨_, h1, h2⟩ := h
  refine ⟨?_, h2⟩
  have e1 : nxO once 0 = once := by simp [nxO]
  have e2 : nxD stay 0 = stay := by simp [nxD]
  simp only [e1, e2]
  exact h1
/-- What escaped leaves. -/
def EsR (lo g : Nat) (w : World) (out : List Int) (once stay c : Int) (e : Ending) (w' : World) : Prop :=
  match esc c with
  | none => e = .returned (.bool false) ∧ w' = w
  | some o => e = .returned (.bool true) ∧ Dn lo g w w' out once stay o
set_option maxRecDepth 100000 in
set_option maxHeartbeats 8000000 in
theorem rescaped_any {lo g : Nat} {w : World} {out : List Int} {once stay : Int} (c : Int) (h : Df lo w g out once stay) (hl : out.length ≤ 1000000) :
    Calls Tryd.prog 18 #[.pointer (some ⟨g, 0, none⟩), .int .i64 c] w fun e w' => EsR lo g w out once stay c e w' := by
  have HG : Hid (∀ x : Int, Calls Tryd.prog 16 #[.pointer (some ⟨g, 0, none⟩), .int .i64 x] w fun e w' => GiR lo g w out once stay x e w') := fun x => rgive_any x h hl
  have HLT := hidIt (rletter_any c w)
  obtain ⟨v0, hq0, _, _⟩ := id h
  obtain ⟨c0, c1, c2⟩ := cells3 hq0
  have z1 := unfrozen hq0 1
  have z2 := unfrozen hq0 2
  have HD := hidIt h
  clear h hl hq0 c0
  rcases (show c = 110 ∨ c = 114 ∨ c = 116 ∨ c = 101 ∨ c = 117 ∨ c = 108 ∨ c = 85 ∨ c = 76 ∨ c = 69 ∨ (¬ c = 110 ∧ ¬ c = 114 ∧ ¬ c = 116 ∧ ¬ c = 101 ∧ ¬ c = 117 ∧ ¬ c = 108 ∧ ¬ c = 85 ∧ ¬ c = 76 ∧ ¬ c = 69) from by omega) with rfl | rfl | rfl | rfl | rfl | rfl | rfl | rfl | rfl | ⟨n1, n2, n3, n4, n5, n6, n7, n8, n9⟩
  iterate 4
    · go_enter Tryd.func18, Tryd.ntmps18
      go_wp2_with (go_at_call 16; refine (HG.out _).mono ?_; rintro e w1 hg1; have G1 := hidIt (dn_one hg1); obtain ⟨rfl, _⟩ := hg1; (try dsimp only))
      go_ret
      exact ⟨rfl, G1.out⟩
  iterate 2
    · go_enter Tryd.func18, Tryd.ntmps18
      go_wp2_with fail
      go_ret
      refine ⟨rfl, ?_, (HD.out.setOnce _).2.1⟩
      simpa [giv, nxO, nxD, onc] using (HD.out.setOnce _).1
  iterate 3
    · go_enter Tryd.func18, Tryd.ntmps18
      go_wp2_with fail
      go_ret
      refine ⟨rfl, ?_, (HD.out.setStay _).2.1⟩
      simpa [giv, nxO, nxD, onc] using (HD.out.setStay _).1
  · have m1 : (c == 110) = false := by simpa using n1
    have m2 : (c == 114) = false := by simpa using n2
    have m3 : (c == 116) = false := by simpa using n3
    have m4 : (c == 101) = false := by simpa using n4
    have m5 : (c == 117) = false := by simpa using n5
    have m6 : (c == 108) = false := by simpa using n6
    have m7 : (c == 85) = false := by simpa using n7
    have m8 : (c == 76) = false := by simpa using n8
    have m9 : (c == 69) = false := by simpa using n9
    have he : esc c = if (isL c || isD c) = true then none else some ⟨[c], 0⟩ := by
      unfold esc
      rw [if_neg (by omega), if_neg n3, if_neg n4, if_neg (by omega)]
    cases hb : (isL c || isD c) with
    | true =>
      rw [hb] at HLT he
      have HE : Hid (esc c = none) := he
      clear hb he n1 n2 n3 n4 n5 n6 n7 n8 n9
      go_enter Tryd.func18, Tryd.ntmps18
      go_wp2_with (go_at_call 24; refine HLT.out.mono ?_; rintro e w1 ⟨rfl, rfl⟩; (try dsimp only))
      go_ret
      unfold EsR
      rw [HE.out]
      exact ⟨rfl, rfl⟩
    | false =>
      rw [hb] at HLT he
      have HE : Hid (esc c = some ⟨[c], 0⟩) := he
      clear hb he n1 n2 n3 n4 n5 n6 n7 n8 n9
      go_enter Tryd.func18, Tryd.ntmps18
      go_wp2_with (first | (go_at_call 24; refine HLT.out.mono ?_; rintro e w1 ⟨rfl, rfl⟩; (try dsimp only)) | (go_at_call 16; refine (HG.out _).mono ?_; rintro e w1 hg1; have G1 := hidIt (dn_one hg1); obtain ⟨rfl, _⟩ := hg1; (try dsimp only)))
      go_ret
      unfold EsR
      rw [HE.out]
      exact ⟨rfl, G1.out⟩
end Go.Proofs.YtipnifenahhkoaaDoor
