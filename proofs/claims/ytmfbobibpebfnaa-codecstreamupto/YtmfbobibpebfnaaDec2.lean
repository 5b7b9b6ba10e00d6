/- The document's search for a row, and the table's: the same. No Go in sight. -/
import Derived.Test.YtmfbobibpebfnaaDec
namespace Go.Proofs.Ytmfbobibpebfnaa.Cx

/-- The number that bytes would be, were they the row of a scalar. -/
def mean (zs : List Int) : Int := match zs with
  | [a] => a
  | [a, b] => (a - 192) * 64 + b - 128
  | [a, b, c] => ((a - 224) * 64 + b - 128) * 64 + c - 128
  | [a, b, c, d] => (((a - 240) * 64 + b - 128) * 64 + c - 128) * 64 + d - 128
  | _ => 0

def hitB (b : List Int) (k : Nat) : Bool := decide (k ≤ b.length) && isSc (mean (b.take k)) && decide ((put8 (mean (b.take k))).length = k) && (put8 (mean (b.take k))).isPrefixOf b

theorem sc_iff (a : Int) : isSc a = true ↔ (0 ≤ a ∧ a < 55296) ∨ (57343 < a ∧ a ≤ 1114111) := by
  unfold isSc; simp

theorem put8_one (a : Int) (h : (put8 a).length = 1) : a < 128 := by
  unfold put8 at h; repeat' split at h
  all_goals first | assumption | simp at h
theorem put8_two (a : Int) (h : (put8 a).length = 2) : 128 ≤ a ∧ a < 2048 := by
  unfold put8 at h; repeat' split at h
  all_goals first | (simp at h; done) | omega
theorem put8_three (a : Int) (h : (put8 a).length = 3) : 2048 ≤ a ∧ a < 65536 := by
  unfold put8 at h; repeat' split at h
  all_goals first | (simp at h; done) | omega
theorem put8_four (a : Int) (h : (put8 a).length = 4) : 65536 ≤ a := by
  unfold put8 at h; repeat' split at h
  all_goals first | (simp at h; done) | omega
theorem put8_1 (a : Int) (h : a < 128) : put8 a = [a] := by unfold put8; rw [if_pos h]
theorem put8_2 (a : Int) (h : 128 ≤ a) (h' : a < 2048) : put8 a = [192 + a / 64, 128 + a % 64] := by unfold put8; rw [if_neg (by omega), if_pos h']
theorem put8_3 (a : Int) (h : 2048 ≤ a) (h' : a < 65536) : put8 a = [224 + a / 4096, 128 + a / 64 % 64, 128 + a % 64] := by unfold put8; rw [if_neg (by omega), if_neg (by omega), if_pos h']
theorem put8_4 (a : Int) (h : 65536 ≤ a) : put8 a = [240 + a / 262144, 128 + a / 4096 % 64, 128 + a / 64 % 64, 128 + a % 64] := by unfold put8; rw [if_neg (by omega), if_neg (by omega), if_neg (by omega)]

theorem mtch_eq (b : List Int) : mtch b = if okAll b = true then rowN (c0 b) else 0 := rfl

theorem hitB_iff (b : List Int) (k : Nat) (m : Int) (hm : mean (b.take k) = m) : hitB b k = true ↔ (k ≤ b.length ∧ isSc m = true ∧ (put8 m).length = k ∧ (put8 m).isPrefixOf b = true) := by
  subst hm
  unfold hitB
  simp only [Bool.and_eq_true, decide_eq_true_eq, and_assoc]

theorem ok_j (b : List Int) (j : Nat) (x : Int) (hx : b[j]? = some x) (h : loJ (c0 b) j ≤ x ∧ x ≤ hiJ (c0 b) j) : okAt b j = true := okAt_of b j (by rw [hx]; exact h)

theorem hit1 (x : Int) (l : List Int) (hx : 0 ≤ x ∧ x ≤ 255) : hitB (x :: l) 1 = true ↔ mtch (x :: l) = 1 := by
  have e : mtch (x :: l) = 1 ↔ x ≤ 127 := by
    have c : c0 (x :: l) = x := rfl
    constructor
    · intro h
      rw [mtch_eq, c] at h
      split at h
      · unfold rowN at h; repeat' split at h
        all_goals omega
      · omega
    · intro h
      have r : rowN x = 1 := by unfold rowN; rw [if_pos h]
      rw [mtch_yes (x :: l) 1 (fun j h1 h2 => by omega) (.inl (by rw [c, r]; decide)), c, r]
  rw [e, hitB_iff _ _ x rfl]
  constructor
  · rintro ⟨_, _, h, _⟩
    have := put8_one x h
    omega
  · intro h
    rw [put8_1 x (by omega), sc_iff]
    exact ⟨by simp, .inl ⟨hx.1, by omega⟩, rfl, by simp⟩

theorem hit2 (x y : Int) (l : List Int) (hb : ∀ z ∈ x :: y :: l, 0 ≤ z ∧ z ≤ 255) : hitB (x :: y :: l) 2 = true ↔ mtch (x :: y :: l) = 2 := by
  have hx := hb x (by simp)
  have hy := hb y (by simp)
  have e : mtch (x :: y :: l) = 2 ↔ 194 ≤ x ∧ x ≤ 223 ∧ 128 ≤ y ∧ y ≤ 191 := by
    have c : c0 (x :: y :: l) = x := rfl
    constructor
    · intro h
      rcases row_bytes (x :: y :: l) hb (by omega) (by rw [h]; simp only [List.length_cons]; omega) with ⟨a, e, h', _⟩ | ⟨a, b, e, h', r⟩ | ⟨a, b, d, e, h', _⟩ | ⟨a, b, d, f, e, h', _⟩
      · omega
      · rw [h] at e
        have e' : [x, y] = [a, b] := e
        cases e'
        omega
      · omega
      · omega
    · intro h
      have r : rowN x = 2 := by unfold rowN; repeat' split <;> omega
      rw [mtch_yes (x :: y :: l) 2 (fun j h1 h2 => ?_) (.inl (by rw [c, r]; decide)), c, r]
      obtain rfl : j = 1 := by omega
      refine ok_j _ _ y rfl ?_
      unfold loJ hiJ rowLo rowHi
      rw [c, if_pos rfl, if_pos rfl]
      repeat' split
      all_goals omega
  rw [e, hitB_iff _ _ ((x - 192) * 64 + y - 128) rfl]
  constructor
  · rintro ⟨_, _, h, hp⟩
    have := put8_two _ h
    rw [put8_2 _ this.1 this.2] at hp
    simp at hp
    omega
  · intro h
    rw [put8_2 _ (by omega) (by omega), sc_iff]
    refine ⟨by simp, .inl ⟨by omega, by omega⟩, rfl, ?_⟩
    simp
    omega

theorem hit3 (x y z : Int) (l : List Int) (hb : ∀ u ∈ x :: y :: z :: l, 0 ≤ u ∧ u ≤ 255) : hitB (x :: y :: z :: l) 3 = true ↔ mtch (x :: y :: z :: l) = 3 := by
  have hx := hb x (by simp)
  have hy := hb y (by simp)
  have hz := hb z (by simp)
  have e : mtch (x :: y :: z :: l) = 3 ↔ 224 ≤ x ∧ x ≤ 239 ∧ 128 ≤ y ∧ y ≤ 191 ∧ (x = 224 → 160 ≤ y) ∧ (x = 237 → y ≤ 159) ∧ 128 ≤ z ∧ z ≤ 191 := by
    have c : c0 (x :: y :: z :: l) = x := rfl
    constructor
    · intro h
      rcases row_bytes (x :: y :: z :: l) hb (by omega) (by rw [h]; simp only [List.length_cons]; omega) with ⟨a, e, h', _⟩ | ⟨a, b, e, h', r⟩ | ⟨a, b, d, e, h', r1, r2, r3, r4, r5⟩ | ⟨a, b, d, f, e, h', _⟩
      · omega
      · omega
      · rw [h] at e
        have e' : [x, y, z] = [a, b, d] := e
        cases e'
        unfold rowLo at r3; unfold rowHi at r4
        repeat' split at r3
        all_goals repeat' split at r4
        all_goals omega
      · omega
    · intro h
      have r : rowN x = 3 := by unfold rowN; repeat' split <;> omega
      rw [mtch_yes (x :: y :: z :: l) 3 (fun j h1 h2 => ?_) (.inl (by rw [c, r]; decide)), c, r]
      have hj : j = 1 ∨ j = 2 := by omega
      rcases hj with rfl | rfl
      · refine ok_j _ _ y rfl ?_
        unfold loJ hiJ rowLo rowHi
        rw [c, if_pos rfl, if_pos rfl]
        repeat' split
        all_goals omega
      · refine ok_j _ _ z rfl ?_
        unfold loJ hiJ
        rw [if_neg (by decide), if_neg (by decide)]
        omega
  rw [e, hitB_iff _ _ (((x - 224) * 64 + y - 128) * 64 + z - 128) rfl]
  constructor
  · rintro ⟨_, hs, h, hp⟩
    have := put8_three _ h
    rw [put8_3 _ this.1 this.2] at hp
    rw [sc_iff] at hs
    simp at hp
    omega
  · intro h
    rw [put8_3 _ (by omega) (by omega), sc_iff]
    refine ⟨by simp, by omega, rfl, ?_⟩
    simp
    omega

theorem hit4 (x y z u : Int) (l : List Int) (hb : ∀ v ∈ x :: y :: z :: u :: l, 0 ≤ v ∧ v ≤ 255) : hitB (x :: y :: z :: u :: l) 4 = true ↔ mtch (x :: y :: z :: u :: l) = 4 := by
  have hx := hb x (by simp)
  have hy := hb y (by simp)
  have hz := hb z (by simp)
  have hu := hb u (by simp)
  have e : mtch (x :: y :: z :: u :: l) = 4 ↔ 240 ≤ x ∧ x ≤ 244 ∧ 128 ≤ y ∧ y ≤ 191 ∧ (x = 240 → 144 ≤ y) ∧ (x = 244 → y ≤ 143) ∧ 128 ≤ z ∧ z ≤ 191 ∧ 128 ≤ u ∧ u ≤ 191 := by
    have c : c0 (x :: y :: z :: u :: l) = x := rfl
    constructor
    · intro h
      rcases row_bytes (x :: y :: z :: u :: l) hb (by omega) (by rw [h]; simp only [List.length_cons]; omega) with ⟨a, e, h', _⟩ | ⟨a, b, e, h', r⟩ | ⟨a, b, d, e, h', r⟩ | ⟨a, b, d, f, e, h', r1, r2, r3, r4, r5⟩
      · omega
      · omega
      · omega
      · rw [h] at e
        have e' : [x, y, z, u] = [a, b, d, f] := e
        cases e'
        unfold rowLo at r3; unfold rowHi at r4
        repeat' split at r3
        all_goals repeat' split at r4
        all_goals omega
    · intro h
      have r : rowN x = 4 := by unfold rowN; repeat' split <;> omega
      rw [mtch_yes (x :: y :: z :: u :: l) 4 (fun j h1 h2 => ?_) (.inl (by rw [c, r]; decide)), c, r]
      have hj : j = 1 ∨ j = 2 ∨ j = 3 := by omega
      rcases hj with rfl | rfl | rfl
      · refine ok_j _ _ y rfl ?_
        unfold loJ hiJ rowLo rowHi
        rw [c, if_pos rfl, if_pos rfl]
        repeat' split
        all_goals omega
      · refine ok_j _ _ z rfl ?_
        unfold loJ hiJ
        rw [if_neg (by decide), if_neg (by decide)]
        omega
      · refine ok_j _ _ u rfl ?_
        unfold loJ hiJ
        rw [if_neg (by decide), if_neg (by decide)]
        omega
  rw [e, hitB_iff _ _ ((((x - 240) * 64 + y - 128) * 64 + z - 128) * 64 + u - 128) rfl]
  constructor
  · rintro ⟨_, hs, h, hp⟩
    have := put8_four _ h
    rw [put8_4 _ this] at hp
    rw [sc_iff] at hs
    simp at hp
    omega
  · intro h
    rw [put8_4 _ (by omega), sc_iff]
    refine ⟨by simp, by omega, rfl, ?_⟩
    simp
    omega

/-- The document's search hits just where a whole row of that length stands. -/
theorem hit_iff (b : List Int) (hb : ∀ z ∈ b, 0 ≤ z ∧ z ≤ 255) (k : Nat) (h1 : 1 ≤ k) (h4 : k ≤ 4) : hitB b k = true ↔ (mtch b = k ∧ k ≤ b.length) := by
  by_cases hl : k ≤ b.length
  · have e : k = 1 ∨ k = 2 ∨ k = 3 ∨ k = 4 := by omega
    simp only [hl, and_true]
    rcases e with rfl | rfl | rfl | rfl
    · match b, hb, hl with
      | x :: l, hb, _ => exact hit1 x l (hb x (by simp))
    · match b, hb, hl with
      | [_], _, hl => simp at hl
      | x :: y :: l, hb, _ => exact hit2 x y l hb
    · match b, hb, hl with
      | [_], _, hl => simp at hl
      | [_, _], _, hl => simp at hl
      | x :: y :: z :: l, hb, _ => exact hit3 x y z l hb
    · match b, hb, hl with
      | [_], _, hl => simp at hl
      | [_, _], _, hl => simp at hl
      | [_, _, _], _, hl => simp at hl
      | x :: y :: z :: u :: l, hb, _ => exact hit4 x y z u l hb
  · constructor
    · intro h; unfold hitB at h; rw [decide_eq_false hl] at h; simp at h
    · rintro ⟨_, h⟩; exact absurd h hl

theorem mean_val (b : List Int) (hb : ∀ z ∈ b, 0 ≤ z ∧ z ≤ 255) (h0 : 0 < mtch b) (hl : mtch b ≤ b.length) : mean (b.take (mtch b).toNat) = val (b.take (mtch b).toNat) := by
  rcases row_bytes b hb h0 hl with ⟨x, e, _⟩ | ⟨x, y, e, _⟩ | ⟨x, y, z, e, _⟩ | ⟨x, y, z, u, e, _⟩
  all_goals
    rw [e]
    simp only [mean, val]
    try omega

theorem first8_hit (b : List Int) (hb : ∀ z ∈ b, 0 ≤ z ∧ z ≤ 255) (k : Nat) (h1 : 1 ≤ k) (h4 : k ≤ 4) (h : hitB b k = true) : first8 b = (mean (b.take k), (k : Int)) := by
  obtain ⟨hm, hl⟩ := (hit_iff b hb k h1 h4).1 h
  have h0 : 0 < mtch b := by omega
  have hl' : mtch b ≤ b.length := by omega
  have e := mean_val b hb h0 hl'
  unfold first8
  rw [if_pos ⟨h0, hl'⟩, ← e, hm]
  rfl
theorem first8_none (b : List Int) (hb : ∀ z ∈ b, 0 ≤ z ∧ z ≤ 255) (h : ∀ k : Nat, 1 ≤ k → k ≤ 4 → k ≤ b.length → hitB b k = false) : first8 b = (-1 - c0 b, 1) := by
  have hbd := mtch_bd b
  unfold first8
  rw [if_neg]
  rintro ⟨h0, hl⟩
  have := h (mtch b).toNat (by omega) (by omega) (by omega)
  have h' := (hit_iff b hb (mtch b).toNat (by omega) (by omega)).2 ⟨by omega, by omega⟩
  rw [this] at h'
  cases h'
end Go.Proofs.Ytmfbobibpebfnaa.Cx
