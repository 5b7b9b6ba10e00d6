import Derived.Test.YtfdceljdhgbkcaaGreatDoorJ30
import Derived.Test.YtfdceljdhgbkcaaGreatDoorJ25
import Derived.Test.YtfdceljdhgbkcaaGreatDoorJ24
/- Whatever spells a command is no better than what Spell tells. -/
namespace Go.Proofs.YtfdceljdhgbkcaaGreatDoor
open Go.RowKit
/-! Digits and their order; which keys are no worse. -/
/-- The number that digits make. -/
def vl : List Int → Int
  | [] => 0
  | x :: xs => (x - 48) * 10 ^ xs.length + vl xs
def Dg (l : List Int) : Prop := ∀ x ∈ l, 48 ≤ x ∧ x ≤ 57
theorem Dg.app {a b : List Int} (h : Dg a) (k : Dg b) : Dg (a ++ b) := fun x hx => by
  rcases List.mem_append.1 hx with hx | hx
  · exact h x hx
  · exact k x hx
theorem vl_app : ∀ (a b : List Int), vl (a ++ b) = vl a * 10 ^ b.length + vl b
  | [], b => by show vl b = 0 * _ + _; omega
  | x :: xs, b => by
    show (x - 48) * 10 ^ (xs ++ b).length + vl (xs ++ b) = ((x - 48) * 10 ^ xs.length + vl xs) * 10 ^ b.length + vl b
    rw [vl_app xs b, List.length_append, Int.pow_add, Int.add_mul, Int.mul_assoc]
    omega
theorem ten_pos (n : Nat) : (0 : Int) < 10 ^ n := Int.pow_pos (by decide)
theorem vl_rng : ∀ {l : List Int}, Dg l → 0 ≤ vl l ∧ vl l < 10 ^ l.length
  | [], _ => by exact ⟨Int.le_refl _, by show (0 : Int) < 10 ^ 0; decide⟩
  | x :: xs, h => by
    obtain ⟨h1, h2⟩ := vl_rng (l := xs) (fun y hy => h y (List.mem_cons_of_mem _ hy))
    obtain ⟨h3, h4⟩ := h x List.mem_cons_self
    have hp := ten_pos xs.length
    show 0 ≤ (x - 48) * 10 ^ xs.length + vl xs ∧ (x - 48) * 10 ^ xs.length + vl xs < 10 ^ (xs.length + 1)
    rw [Int.pow_succ]
    generalize (10 : Int) ^ xs.length = P at *
    have h5 : 0 ≤ (x - 48) * P := Int.mul_nonneg (by omega) (by omega)
    have h6 : (x - 48) * P ≤ 9 * P := Int.mul_le_mul_of_nonneg_right (by omega) (by omega)
    omega
theorem cmp_self : ∀ a : List Int, cmpL a a = 0
  | [] => rfl
  | x :: xs => by
    show (if x < x then -1 else if x < x then 1 else cmpL xs xs) = 0
    rw [if_neg (by omega), if_neg (by omega), cmp_self xs]
theorem cmp_app : ∀ (a b c d : List Int), a.length = b.length → cmpL (a ++ c) (b ++ d) = if cmpL a b = 0 then cmpL c d else cmpL a b
  | [], [], c, d, _ => by show cmpL c d = if (0 : Int) = 0 then _ else _; rw [if_pos rfl]
  | [], y :: ys, _, _, h => by simp at h
  | x :: xs, [], _, _, h => by simp at h
  | x :: xs, y :: ys, c, d, h => by
    show (if x < y then (-1 : Int) else if y < x then 1 else cmpL (xs ++ c) (ys ++ d)) = if (if x < y then (-1 : Int) else if y < x then 1 else cmpL xs ys) = 0 then cmpL c d else (if x < y then (-1 : Int) else if y < x then 1 else cmpL xs ys)
    by_cases h1 : x < y
    · rw [if_pos h1, if_pos h1, if_neg (by decide)]
    · by_cases h2 : y < x
      · rw [if_neg h1, if_pos h2, if_neg h1, if_pos h2, if_neg (by decide)]
      · rw [if_neg h1, if_neg h2, if_neg h1, if_neg h2]
        exact cmp_app xs ys c d (by simpa using h)
theorem cmp_eq : ∀ {a b : List Int}, cmpL a b = 0 → a = b
  | [], [], _ => rfl
  | [], _ :: _, h => by cases h
  | _ :: _, [], h => by cases h
  | x :: xs, y :: ys, h => by
    have h : (if x < y then (-1 : Int) else if y < x then 1 else cmpL xs ys) = 0 := h
    split at h
    · cases h
    · split at h
      · cases h
      · rw [cmp_eq h, show x = y by omega]
theorem cmp_trans : ∀ {a b c : List Int}, cmpL a b ≤ 0 → cmpL b c ≤ 0 → cmpL a c ≤ 0
  | [], _, [], _, _ => Int.le_refl _
  | [], _, _ :: _, _, _ => by show (-1 : Int) ≤ 0; decide
  | _ :: _, [], _, h, _ => absurd h (by show ¬ (1 : Int) ≤ 0; decide)
  | _ :: _, _ :: _, [], _, h => absurd h (by show ¬ (1 : Int) ≤ 0; decide)
  | x :: xs, y :: ys, z :: zs, h0, k0 => by
    have h : (if x < y then (-1 : Int) else if y < x then 1 else cmpL xs ys) ≤ 0 := h0
    have k : (if y < z then (-1 : Int) else if z < y then 1 else cmpL ys zs) ≤ 0 := k0
    clear h0 k0
    show (if x < z then (-1 : Int) else if z < x then 1 else cmpL xs zs) ≤ 0
    by_cases h1 : x < z
    · rw [if_pos h1]; decide
    · by_cases h2 : x < y
      · rw [if_neg (show ¬ y < z by omega), if_pos (show z < y by omega)] at k
        exact absurd k (by decide)
      · rw [if_neg h2] at h
        by_cases h3 : y < x
        · rw [if_pos h3] at h
          exact absurd h (by decide)
        · rw [if_neg h3] at h
          have e : x = y := by omega
          subst e
          rw [if_neg h1] at k
          by_cases h4 : z < x
          · rw [if_pos h4] at k
            exact absurd k (by decide)
          · rw [if_neg h4] at k
            rw [if_neg h1, if_neg h4]
            exact cmp_trans h k
/-- Of as many digits: their order is the numbers'. -/
theorem cmp_vl : ∀ {a b : List Int}, a.length = b.length → Dg a → Dg b → (vl a < vl b → cmpL a b < 0) ∧ (vl a ≤ vl b → cmpL a b ≤ 0)
  | [], [], _, _, _ => ⟨fun h => absurd h (by decide), fun _ => Int.le_refl _⟩
  | [], _ :: _, h, _, _ => by simp at h
  | _ :: _, [], h, _, _ => by simp at h
  | x :: xs, y :: ys, h, ha, hb => by
    have hl : xs.length = ys.length := by simpa using h
    have hxs : Dg xs := fun z hz => ha z (List.mem_cons_of_mem _ hz)
    have hys : Dg ys := fun z hz => hb z (List.mem_cons_of_mem _ hz)
    obtain ⟨i1, i2⟩ := cmp_vl hl hxs hys
    obtain ⟨r1, r2⟩ := vl_rng hxs
    obtain ⟨r3, r4⟩ := vl_rng hys
    have hp := ten_pos ys.length
    show ((x - 48) * 10 ^ xs.length + vl xs < (y - 48) * 10 ^ ys.length + vl ys → (if x < y then (-1 : Int) else if y < x then 1 else cmpL xs ys) < 0) ∧ ((x - 48) * 10 ^ xs.length + vl xs ≤ (y - 48) * 10 ^ ys.length + vl ys → (if x < y then (-1 : Int) else if y < x then 1 else cmpL xs ys) ≤ 0)
    rw [hl] at r2 ⊢
    generalize (10 : Int) ^ ys.length = P at *
    by_cases h1 : x < y
    · rw [if_pos h1]
      exact ⟨fun _ => by decide, fun _ => by decide⟩
    · by_cases h2 : y < x
      · have h3 : (y - 48 + 1) * P ≤ (x - 48) * P := Int.mul_le_mul_of_nonneg_right (by omega) (by omega)
        rw [Int.add_mul, Int.one_mul] at h3
        exact ⟨fun h => absurd h (by omega), fun h => absurd h (by omega)⟩
      · have e : x = y := by omega
        subst e
        rw [if_neg h1, if_neg h1]
        exact ⟨fun h => i1 (by omega), fun h => i2 (by omega)⟩
/-- Keys that are no worse: shorter, or as long and no greater. -/
def leK (a b : List Int) : Prop := a.length < b.length ∨ (a.length = b.length ∧ cmpL a b ≤ 0)
theorem leK.refl (a : List Int) : leK a a := .inr ⟨rfl, by rw [cmp_self]; exact Int.le_refl _⟩
theorem leK.trans {a b c : List Int} (h : leK a b) (k : leK b c) : leK a c := by
  rcases h with h | ⟨h1, h2⟩ <;> rcases k with k | ⟨k1, k2⟩
  · exact .inl (by omega)
  · exact .inl (by omega)
  · exact .inl (by omega)
  · exact .inr ⟨by omega, cmp_trans h2 k2⟩
theorem leK.len {a b : List Int} (h : leK a b) : a.length ≤ b.length := by
  rcases h with h | h <;> omega
theorem leK.app {a b : List Int} (h : leK a b) (s : List Int) : leK (a ++ s) (b ++ s) := by
  rcases h with h | ⟨h1, h2⟩
  · exact .inl (by simp only [List.length_append]; omega)
  · refine .inr ⟨by simp only [List.length_append]; omega, ?_⟩
    rw [cmp_app _ _ _ _ h1]
    split
    · rw [cmp_self]; exact Int.le_refl _
    · exact h2
theorem vl_dg : ∀ (f n : Nat), n < 10 ^ f → vl (dg f n) = n
  | 0, n, h => by
    have : n = 0 := by simpa using h
    subst this
    rfl
  | f + 1, n, h => by
    rw [dg]
    split
    · rename_i h0
      subst h0
      rfl
    · rw [vl_app, vl_dg f (n / 10) (by rw [Nat.pow_succ] at h; omega)]
      show ((n / 10 : Nat) : Int) * 10 ^ 1 + ((48 + ((n % 10 : Nat) : Int) - 48) * 10 ^ 0 + 0) = n
      have := Nat.div_add_mod n 10
      rw [show (10 : Int) ^ 1 = 10 by decide, show (10 : Int) ^ 0 = 1 by decide]
      omega
theorem dg_short {n j : Nat} (h : n < 10 ^ j) : (dg 20 n).length ≤ j := by
  by_cases hj : j ≤ 20
  · rw [dg_fuel j 20 n h hj]
    exact dg_len j n
  · have := dg_len 20 n
    omega
theorem nb_fac {c : Int} (h0 : 0 ≤ c) (h9 : c ≤ 9999) : Dg (nbK c) ∧ vl (nbK c) = c ∧ ∀ j : Nat, c < 10 ^ j → (nbK c).length ≤ j := by
  unfold nbK
  split
  · refine ⟨dg_mem _ _, ?_, fun j hj => dg_short ?_⟩
    · rw [vl_dg 20 _ (Nat.lt_of_le_of_lt (show c.toNat ≤ 9999 by omega) (by decide))]
      omega
    · have e : ((10 ^ j : Nat) : Int) = (10 : Int) ^ j := by push_cast; rfl
      rw [← e] at hj
      omega
  · exact ⟨fun x hx => (by cases hx), by show (0 : Int) = c; omega, fun j _ => Nat.zero_le _⟩
/-- A count and digits behind it: what they make has no more digits, and of as many it is no greater. -/
theorem num_le {c n e : Int} {ds : List Int} (h0 : 0 ≤ c) (h9 : c ≤ 9999) (hd : Dg ds) (hn : n = min (vl ds) 9999) (he : e = if n > 0 then min (max c 1 * n) 9999 else c) :
    (0 ≤ e ∧ e ≤ 9999) ∧ (nbK e).length ≤ (nbK c).length + ds.length ∧ ((nbK e).length = (nbK c).length + ds.length → cmpL (nbK e) (nbK c ++ ds) ≤ 0 ∧ (0 < c → 0 < n → ∀ s u, cmpL (nbK e ++ s) (nbK c ++ u) < 0)) := by
  obtain ⟨v0, v1⟩ := vl_rng hd
  obtain ⟨c1, c2, c3⟩ := nb_fac h0 h9
  obtain ⟨w0, w1⟩ := vl_rng c1
  rw [c2] at w0 w1
  have hp := ten_pos ds.length
  have hbe : 0 ≤ e ∧ e ≤ 9999 := by
    rw [he]
    split
    · have : 0 ≤ max c 1 * n := Int.mul_nonneg (by omega) (by omega)
      omega
    · omega
  obtain ⟨e1, e2, e3⟩ := nb_fac hbe.1 hbe.2
  have hcm : 0 ≤ c * 10 ^ ds.length := Int.mul_nonneg h0 (by omega)
  have hle : e ≤ c * 10 ^ ds.length + vl ds ∧ (0 < c → 0 < n → e < c * 10 ^ ds.length) := by
    rw [he]
    by_cases hn0 : n > 0
    · rw [if_pos hn0]
      by_cases hc : c = 0
      · subst hc
        rw [show max (0 : Int) 1 = 1 by decide, Int.one_mul]
        exact ⟨by omega, fun h => absurd h (by decide)⟩
      · rw [show max c 1 = c by omega]
        have a1 : c * n ≤ c * vl ds := Int.mul_le_mul_of_nonneg_left (by omega) h0
        have a2 : c * vl ds < c * 10 ^ ds.length := Int.mul_lt_mul_of_pos_left v1 (by omega)
        exact ⟨by omega, fun _ _ => by omega⟩
    · rw [if_neg hn0]
      refine ⟨?_, fun _ h => absurd h hn0⟩
      have : c * 1 ≤ c * 10 ^ ds.length := Int.mul_le_mul_of_nonneg_left (by omega) h0
      omega
  have hlen : (nbK e).length ≤ (nbK c).length + ds.length := by
    refine e3 _ ?_
    rw [Int.pow_add]
    have a1 : (c + 1) * 10 ^ ds.length ≤ 10 ^ (nbK c).length * 10 ^ ds.length := Int.mul_le_mul_of_nonneg_right (by omega) (by omega)
    rw [Int.add_mul, Int.one_mul] at a1
    omega
  refine ⟨hbe, hlen, fun heq => ⟨?_, fun hc hn0 s u => ?_⟩⟩
  · refine (cmp_vl (by rw [heq, List.length_append]) e1 (c1.app hd)).2 ?_
    rw [e2, vl_app, c2]
    exact hle.1
  · have hs : nbK e = (nbK e).take (nbK c).length ++ (nbK e).drop (nbK c).length := (List.take_append_drop _ _).symm
    have hlt : ((nbK e).take (nbK c).length).length = (nbK c).length := by rw [List.length_take]; omega
    have hld : ((nbK e).drop (nbK c).length).length = ds.length := by rw [List.length_drop]; omega
    have d1 : Dg ((nbK e).take (nbK c).length) := fun x hx => e1 x (List.mem_of_mem_take hx)
    have d2 : Dg ((nbK e).drop (nbK c).length) := fun x hx => e1 x (List.mem_of_mem_drop hx)
    have hv : vl ((nbK e).take (nbK c).length) * 10 ^ ds.length + vl ((nbK e).drop (nbK c).length) = e := by
      rw [← hld, ← vl_app, List.take_append_drop, e2]
    have hb := hle.2 hc hn0
    obtain ⟨u0, _⟩ := vl_rng d2
    have hlt2 : vl ((nbK e).take (nbK c).length) < c := by
      refine Int.lt_of_not_ge (fun hge => ?_)
      have : c * 10 ^ ds.length ≤ vl ((nbK e).take (nbK c).length) * 10 ^ ds.length := Int.mul_le_mul_of_nonneg_right hge (by omega)
      omega
    have hc1 := (cmp_vl hlt d1 c1).1 (by rw [c2]; exact hlt2)
    rw [hs, List.append_assoc, cmp_app _ _ _ _ hlt, if_neg (by omega)]
    exact hc1
/-! What was read so far: no keys that tell the same are fewer, or as many and less. -/
theorem lk_mem {L : List (List Int × Bd)} {K : List Int} (h1 : lkS L K = 1) : ∃ b, lkV L K = some b ∧ (K, b) ∈ L := by
  unfold lkS at h1
  split at h1
  · rename_i h
    obtain ⟨x, hx, he⟩ := List.any_eq_true.1 h
    unfold lkV
    cases hf : L.find? fun r => r.1 == K with
    | none =>
      have := List.find?_eq_none.1 hf x hx
      exact absurd he this
    | some y =>
      have h2 := List.find?_some hf
      have h3 := List.mem_of_find?_eq_some hf
      simp only [beq_iff_eq] at h2
      obtain ⟨k, b⟩ := y
      simp only at h2
      subst h2
      exact ⟨b, rfl, h3⟩
  · split at h1
    · exact absurd h1 (by decide)
    · exact absurd h1 (by decide)
theorem lks_val (L : List (List Int × Bd)) (K : List Int) : lkS L K = 0 ∨ lkS L K = 1 ∨ lkS L K = 2 := by
  unfold lkS
  split
  · exact .inr (.inl rfl)
  · split
    · exact .inl rfl
    · exact .inr (.inr rfl)
/-- One turn of the reading, by its ways. -/
theorem rst_ways (sl : Bool) (t : Rdg) (l : List Int) :
    (gow t (l.headD 0) = true ∧ rst sl t l = .go (addD t (l.headD 0))) ∨
    (¬ gow t (l.headD 0) = true ∧ l.headD 0 = 34 ∧ t.o = 0 ∧ ((l.length = 1 ∧ rst sl t l = .fin t cmZ 0) ∨ rst sl t l = .fin t cmZ 2 ∨ (l.length ≠ 1 ∧ l[1]?.getD 0 ≠ 0 ∧ rst sl t l = .go (addR t (l[1]?.getD 0))))) ∨
    (¬ gow t (l.headD 0) = true ∧ ¬ (l.headD 0 = 34 ∧ t.o = 0) ∧ ((bgn (bLs sl t) l = none ∧ rst sl t l = .fin t cmZ 0) ∨ rst sl t l = .fin t cmZ 2 ∨
      ∃ n b, bgn (bLs sl t) l = some n ∧ (l.take (n + 1), b) ∈ bLs sl t ∧ ((b.t = 1 ∧ l.length = n + 1 ∧ rst sl t l = .fin t cmZ 0) ∨ (b.t = 2 ∧ rst sl t l = .go (addO t b.v (n + 1))) ∨ (b.t ≠ 2 ∧ ¬ (b.t = 1 ∧ l.length = n + 1) ∧ rst sl t l = .fin (endN t) (rcm t b (l.drop (n + 1))).1 (rcm t b (l.drop (n + 1))).2)))) := by
  by_cases h1 : gow t (l.headD 0) = true
  · exact .inl ⟨h1, by unfold rst; rw [if_pos h1]⟩
  · by_cases h2 : l.headD 0 = 34 ∧ t.o = 0
    · refine .inr (.inl ⟨h1, h2.1, h2.2, ?_⟩)
      by_cases h3 : l.length = 1
      · exact .inl ⟨h3, by unfold rst; rw [if_neg h1, if_pos h2, if_pos h3]⟩
      · by_cases h4 : l[1]?.getD 0 = 0
        · exact .inr (.inl (by unfold rst; rw [if_neg h1, if_pos h2, if_neg h3, if_pos h4]))
        · exact .inr (.inr ⟨h3, h4, by unfold rst; rw [if_neg h1, if_pos h2, if_neg h3, if_neg h4]⟩)
    · refine .inr (.inr ⟨h1, h2, ?_⟩)
      have e : rst sl t l = match bgn (bLs sl t) l with
        | none => .fin t cmZ 0
        | some n =>
          if lkS (bLs sl t) (l.take (n + 1)) = 2 then .fin t cmZ 2
          else if ((lkV (bLs sl t) (l.take (n + 1))).getD bd0).t = 1 ∧ l.length = n + 1 then .fin t cmZ 0
          else if ((lkV (bLs sl t) (l.take (n + 1))).getD bd0).t = 2 then .go (addO t ((lkV (bLs sl t) (l.take (n + 1))).getD bd0).v (n + 1))
          else .fin (endN t) (rcm t ((lkV (bLs sl t) (l.take (n + 1))).getD bd0) (l.drop (n + 1))).1 (rcm t ((lkV (bLs sl t) (l.take (n + 1))).getD bd0) (l.drop (n + 1))).2 := by
        unfold rst; rw [if_neg h1, if_neg h2]
        rfl
      generalize rst sl t l = S at e ⊢
      cases hb : bgn (bLs sl t) l with
      | none =>
        rw [hb] at e
        exact .inl ⟨rfl, e⟩
      | some n =>
        rw [hb] at e
        obtain ⟨_, hn⟩ := bgn_spec hb
        rcases lks_val (bLs sl t) (l.take (n + 1)) with h | h | h
        · exact absurd h hn
        · obtain ⟨b, hv, hm⟩ := lk_mem h
          have e2 : S = if lkS (bLs sl t) (l.take (n + 1)) = 2 then .fin t cmZ 2 else if b.t = 1 ∧ l.length = n + 1 then .fin t cmZ 0 else if b.t = 2 then .go (addO t b.v (n + 1)) else .fin (endN t) (rcm t b (l.drop (n + 1))).1 (rcm t b (l.drop (n + 1))).2 := by rw [e]; show (if lkS (bLs sl t) (l.take (n + 1)) = 2 then _ else if ((lkV (bLs sl t) (l.take (n + 1))).getD bd0).t = 1 ∧ l.length = n + 1 then Stp.fin t cmZ 0 else if ((lkV (bLs sl t) (l.take (n + 1))).getD bd0).t = 2 then Stp.go (addO t ((lkV (bLs sl t) (l.take (n + 1))).getD bd0).v (n + 1)) else _) = _; rw [hv]; rfl
          rw [h, if_neg (by decide)] at e2
          refine .inr (.inr ⟨n, b, rfl, hm, ?_⟩)
          by_cases a1 : b.t = 1 ∧ l.length = n + 1
          · rw [if_pos a1] at e2
            exact .inl ⟨a1.1, a1.2, e2⟩
          · rw [if_neg a1] at e2
            by_cases a2 : b.t = 2
            · rw [if_pos a2] at e2
              exact .inr (.inl ⟨a2, e2⟩)
            · rw [if_neg a2] at e2
              exact .inr (.inr ⟨a2, a1, e2⟩)
        · refine .inr (.inl ?_)
          rw [e]
          show (if lkS (bLs sl t) (l.take (n + 1)) = 2 then _ else _) = _
          rw [if_pos h]
/-- What was read for good, no operator among it: the register, the count. -/
structure I0 (cs : List Int) (rg ct : Int) : Prop where
  a : leK (nmK rg ++ nbK ct) cs
  b : ct > 0 → rg ≠ 0 ∧ leK (nbK ct ++ nmK rg) cs
  c0 : 0 ≤ ct
  c9 : ct ≤ 9999
  r : rg = 0 ∨ rg ∈ cs
/-- Digits of a number that may go on. -/
structure Nm (ds : List Int) (m : Int) : Prop where
  d : Dg ds
  n : m = min (vl ds) 9999
  z : m = 0 → ds = []
theorem Nm.nil : Nm [] 0 := ⟨fun x hx => (by cases hx), by decide, fun _ => rfl⟩
theorem Nm.snoc {ds : List Int} {t : Rdg} (h : Nm ds t.n) {x : Int} (hg : gow t x = true) : Nm (ds ++ [x]) (min (t.n * 10 + x - 48) 9999) := by
  obtain ⟨g1, g2⟩ := gow_dig hg
  obtain ⟨v0, _⟩ := vl_rng h.d
  have hn := h.n
  have hpos : t.n * 10 + x - 48 > 0 := by
    unfold gow at hg
    simp only [Bool.or_eq_true, Bool.and_eq_true, decide_eq_true_eq, beq_iff_eq] at hg
    omega
  refine ⟨h.d.app (fun y hy => by rw [List.mem_singleton.1 hy]; exact ⟨g1, g2⟩), ?_, fun e => absurd e (by omega)⟩
  rw [vl_app, show vl [x] = x - 48 by show (x - 48) * 10 ^ 0 + 0 = _; rw [show (10 : Int) ^ 0 = 1 by decide]; omega, show (10 : Int) ^ [x].length = 10 by show (10 : Int) ^ 1 = 10; decide, hn]
  omega
theorem nm_len (r : Int) : (nmK r).length = if r = 0 then 0 else 2 := by
  unfold nmK
  split <;> rfl
/-- A number behind what was read. -/
theorem I0.num {cs ds : List Int} {t : Rdg} (h : I0 cs t.r t.c) (hn : Nm ds t.n) : leK (nmK t.r ++ nbK (endN t).c) (cs ++ ds) := by
  obtain ⟨_, b1, b2⟩ := num_le (e := (endN t).c) h.c0 h.c9 hn.d hn.n rfl
  have ha := h.a
  have hl := ha.len
  rw [List.length_append] at hl
  generalize (endN t).c = e at *
  by_cases heq : (nbK e).length = (nbK t.c).length + ds.length
  · have hc := (b2 heq).1
    refine leK.trans (b := nmK t.r ++ nbK t.c ++ ds) ?_ (ha.app ds)
    refine .inr ⟨by simp only [List.length_append]; omega, ?_⟩
    rw [List.append_assoc, cmp_app _ _ _ _ rfl, if_pos (cmp_self _)]
    exact hc
  · exact .inl (by simp only [List.length_append]; omega)
theorem I0.reg {cs ds : List Int} {t : Rdg} (h : I0 cs t.r t.c) (hn : Nm ds t.n) {x : Int} (hx : x ≠ 0) : I0 (cs ++ ds ++ [34, x]) x (endN t).c := by
  obtain ⟨b0, b1, b2⟩ := num_le (e := (endN t).c) h.c0 h.c9 hn.d hn.n rfl
  have hl := h.a.len
  rw [List.length_append] at hl
  have hnx : nmK x = [34, x] := by unfold nmK; rw [if_neg hx]
  have hz : cs.length + ds.length = (nbK (endN t).c).length → cs = [] ∧ t.c = 0 := by
    intro e
    have hr : (nmK t.r).length = 0 := by omega
    rw [nm_len] at hr
    have hr0 : t.r = 0 := by
      by_cases e : t.r = 0
      · exact e
      · rw [if_neg e] at hr; exact absurd hr (by decide)
    have hc0 : t.c = 0 := by
      by_cases e : t.c > 0
      · exact absurd hr0 (h.b e).1
      · have := h.c0; omega
    rw [hc0] at b1
    have : (nbK 0).length = 0 := rfl
    exact ⟨List.length_eq_zero_iff.1 (by omega), hc0⟩
  generalize hE : (endN t).c = e at *
  refine ⟨?_, fun _ => ⟨hx, ?_⟩, b0.1, b0.2, .inr (by simp)⟩
  · rw [hnx]
    by_cases heq : cs.length + ds.length = (nbK e).length
    · obtain ⟨rfl, hc0⟩ := hz heq
      refine .inr ⟨by simp only [List.length_append, List.length_cons, List.length_nil] at *; omega, ?_⟩
      rw [List.nil_append]
      cases ds with
      | nil =>
        have : nbK e = [] := List.length_eq_zero_iff.1 (by simpa using heq.symm)
        rw [this]
        show cmpL [34, x] [34, x] ≤ 0
        rw [cmp_self]
        exact Int.le_refl _
      | cons y ys =>
        have hy := hn.d y List.mem_cons_self
        show (if (34 : Int) < y then (-1 : Int) else _) ≤ 0
        rw [if_pos (by omega)]
        decide
    · exact .inl (by simp only [List.length_append, List.length_cons, List.length_nil]; omega)
  · rw [hnx]
    refine leK.app (a := nbK e) (b := cs ++ ds) ?_ [34, x]
    by_cases heq : cs.length + ds.length = (nbK e).length
    · obtain ⟨rfl, hc0⟩ := hz heq
      rw [hc0] at b2
      have hn0 : nbK 0 = [] := rfl
      rw [hn0] at b2
      refine .inr ⟨by rw [List.length_append]; omega, ?_⟩
      have := (b2 (by simpa using heq.symm)).1
      simpa using this
    · exact .inl (by rw [List.length_append]; omega)
/-! What keys spell a command: Spell tells some that are no worse. -/
abbrev tbS (sl : Bool) : List Rw := if sl = true then tSln else tNor
theorem opN : ∀ r ∈ tNor, r.b.t = 2 → 57 < r.ks.headD 0 := by decide
theorem opS : ∀ r ∈ tSln, r.b.t = 2 → 57 < r.ks.headD 0 := by decide
def St0 (cs : List Int) (t : Rdg) : Prop := t.o = 0 ∧ ∃ c1 ds, cs = c1 ++ ds ∧ I0 c1 t.r t.c ∧ Nm ds t.n
def St1 (sl : Bool) (cs : List Int) (t : Rdg) : Prop := ∃ (x : Rw) (P ds : List Int), x ∈ tbS sl ∧ x.b.t = 2 ∧ t.o = x.b.v ∧ t.o ≠ 0 ∧ cs = P ++ x.ks ++ ds ∧ leK (nmK t.r ++ nbK t.c) P ∧ 0 ≤ t.c ∧ t.c ≤ 9999 ∧ (t.r = 0 ∨ t.r ∈ P) ∧ Nm ds t.n
structure PI (sl : Bool) (ks : List Int) (t : Rdg) : Prop where
  k0 : 0 ≤ t.k
  k1 : t.k ≤ ks.length
  st : St0 (ks.take t.k.toNat) t ∨ St1 sl (ks.take t.k.toNat) t
  w : ks.drop t.k.toNat = [] ∨ rst sl t (ks.drop t.k.toNat) = .fin t cmZ 0
  esc : ∀ k ∈ ks, k ≠ 27
theorem PI.init (sl : Bool) : PI sl [] rdg0 := ⟨Int.le_refl _, Int.le_refl _, .inl ⟨rfl, [], [], rfl, ⟨leK.refl _, fun h => absurd h (by decide), Int.le_refl _, by decide, .inl rfl⟩, Nm.nil⟩, .inl rfl, fun k hk => (by cases hk)⟩
/-- What is said of a last key. -/
structure Lst (sl : Bool) (l : List Int) (c : Cm) : Prop where
  row : ∃ r ∈ rwsOf sl c.v, ∃ l', spR c r = some l' ∧ leK l' l
  rr : c.r = 0 ∨ c.r ∈ l
  aa : c.a ∈ l ∨ (0 ≤ c.a ∧ c.a ≤ 127)
  c0 : 0 ≤ c.c
  c9 : c.c ≤ 9999
theorem fil_mem {T : List Rw} (e : fil T = T.map (fun r => (r.ks, r.b))) {K : List Int} {b : Bd} (h : (K, b) ∈ fil T) : ∃ r ∈ T, r.ks = K ∧ r.b = b := by
  rw [e] at h
  obtain ⟨r, hr, he⟩ := List.mem_map.1 h
  injection he with h1 h2
  exact ⟨r, hr, h1, h2⟩
theorem tb_mem {sl : Bool} {t : Rdg} (ho : t.o = 0) {K : List Int} {b : Bd} (h : (K, b) ∈ bLs sl t) : ∃ r ∈ tbS sl, r.ks = K ∧ r.b = b := by
  unfold bLs at h
  rw [if_pos ho] at h
  unfold tbS
  cases sl
  · exact fil_mem filN_eq h
  · exact fil_mem filS_eq h
theorem tt_mem {sl : Bool} {t : Rdg} (ho : t.o ≠ 0) {K : List Int} {b : Bd} (h : (K, b) ∈ bLs sl t) : (∃ r ∈ tTar, r.ks = K ∧ r.b = b) ∧ (b.t = 0 ∨ b.t = 1) := by
  unfold bLs at h
  rw [if_neg ho] at h
  exact ⟨fil_mem filT_eq h, tT02 _ h⟩
theorem bls_ok {sl : Bool} {t : Rdg} {K : List Int} {b : Bd} (h : (K, b) ∈ bLs sl t) : RwK (bLs sl t) K b := by
  unfold bLs at *
  split at h
  · rename_i ho
    rw [if_pos ho]
    cases sl
    · exact RwK.of (okN _ h)
    · exact RwK.of (okS _ h)
  · rename_i ho
    rw [if_neg ho]
    exact RwK.of (okT _ h)
theorem args_in : (∀ r ∈ tNor, 0 ≤ r.b.a ∧ r.b.a ≤ 127) ∧ (∀ r ∈ tSln, 0 ≤ r.b.a ∧ r.b.a ≤ 127) ∧ (∀ r ∈ tTar, 0 ≤ r.b.a ∧ r.b.a ≤ 127) := by decide
theorem bls_arg {sl : Bool} {t : Rdg} {K : List Int} {b : Bd} (h : (K, b) ∈ bLs sl t) : 0 ≤ b.a ∧ b.a ≤ 127 := by
  by_cases ho : t.o = 0
  · obtain ⟨r, hr, _, rfl⟩ := tb_mem ho h
    unfold tbS at hr
    split at hr
    · exact args_in.2.1 r hr
    · exact args_in.1 r hr
  · obtain ⟨⟨r, hr, _, rfl⟩, _⟩ := tt_mem ho h
    exact args_in.2.2 r hr
theorem cm_s (t : Rdg) (b : Bd) (bs : List Int) : (rcm t b bs).2 = 1 ∨ (rcm t b bs).2 = 2 := by
  unfold rcm
  split
  · exact .inl rfl
  · split
    · exact .inr rfl
    · exact .inl rfl
/-- What waits for more. -/
theorem wait_ways {sl : Bool} {t : Rdg} {l : List Int} (h : rst sl t l = .fin t cmZ 0) : ¬ gow t (l.headD 0) = true ∧ ((l.headD 0 = 34 ∧ t.o = 0 ∧ l.length = 1) ∨ (¬ (l.headD 0 = 34 ∧ t.o = 0) ∧ (bgn (bLs sl t) l = none ∨ ∃ n b, bgn (bLs sl t) l = some n ∧ (l, b) ∈ bLs sl t ∧ b.t = 1 ∧ l.length = n + 1))) := by
  rcases rst_ways sl t l with ⟨_, e⟩ | ⟨g, h1, h2, ⟨e1, _⟩ | e | ⟨_, _, e⟩⟩ | ⟨g, h1, ⟨e1, _⟩ | e | ⟨n, b, e1, e2, ⟨a1, a2, _⟩ | ⟨_, e⟩ | ⟨_, _, e⟩⟩⟩
  · rw [h] at e; injection e with e; cases e
  · exact ⟨g, .inl ⟨h1, h2, e1⟩⟩
  · rw [h] at e; injection e with _ _ _ e; cases e
  · rw [h] at e; injection e with e; cases e
  · exact ⟨g, .inr ⟨h1, .inl e1⟩⟩
  · rw [h] at e; injection e with _ _ _ e; cases e
  · rw [← a2, List.take_length] at e2
    exact ⟨g, .inr ⟨h1, .inr ⟨n, b, e1, e2, a1, a2⟩⟩⟩
  · rw [h] at e; injection e with e; cases e
  · rw [h] at e
    injection e with _ _ _ e
    rcases cm_s t b (l.drop (n + 1)) with h | h <;> rw [h] at e <;> cases e
/-- Where the first row ends that keys begin with: behind all of them, or behind those that waited for their argument. -/
theorem row_ends {sl : Bool} {t : Rdg} {lf : List Int} {x : Int} {n : Nat} {b : Bd} (hw : lf = [] ∨ (bgn (bLs sl t) lf = none ∨ ∃ m b', bgn (bLs sl t) lf = some m ∧ (lf, b') ∈ bLs sl t ∧ b'.t = 1 ∧ lf.length = m + 1)) (hb : bgn (bLs sl t) (lf ++ [x]) = some n) (hm : ((lf ++ [x]).take (n + 1), b) ∈ bLs sl t) :
    (n + 1 = (lf ++ [x]).length ∧ (lf ++ [x], b) ∈ bLs sl t) ∨ (n + 1 = lf.length ∧ (lf, b) ∈ bLs sl t ∧ b.t = 1) := by
  obtain ⟨h1, h2⟩ := bgn_spec hb
  have hl : (lf ++ [x]).length = lf.length + 1 := by simp
  by_cases he : n + 1 = (lf ++ [x]).length
  · left
    rw [he, List.take_length] at hm
    exact ⟨he, hm⟩
  · right
    have hn : n < lf.length := by omega
    have ht : (lf ++ [x]).take (n + 1) = lf.take (n + 1) := List.take_append_of_le_length (by omega)
    rw [ht] at h2 hm
    rcases hw with rfl | hw | ⟨m, b', e1, e2, e3, e4⟩
    · simp at hn
    · unfold bgn at hw
      have := List.find?_eq_none.1 hw n (List.mem_range.2 hn)
      simp only [bne_iff_ne, ne_eq, Decidable.not_not] at this
      exact absurd this h2
    · have R := bls_ok e2
      have hnm : n = m := by
        by_cases hlt : n + 1 < lf.length
        · exact absurd (R.pre n hlt) h2
        · omega
      subst hnm
      rw [← e4, List.take_length] at hm
      have R2 := bls_ok hm
      have hbb : b = b' := Option.some.inj (R2.val.symm.trans R.val)
      exact ⟨e4.symm, hm, by rw [hbb]; exact e3⟩
/-- A number behind an operator is no better there. -/
theorem op_le {P K ds s : List Int} {t : Rdg} (hK : K ≠ []) (h57 : 57 < K.headD 0) (hP : leK (nmK t.r ++ nbK t.c) P) (h0 : 0 ≤ t.c) (h9 : t.c ≤ 9999) (hn : Nm ds t.n) : leK (nmK t.r ++ nbK (endN t).c ++ (K ++ s)) (P ++ K ++ ds ++ s) := by
  obtain ⟨_, b1, b2⟩ := num_le (e := (endN t).c) h0 h9 hn.d hn.n rfl
  have hl := hP.len
  rw [List.length_append] at hl
  have he0 : t.n = 0 → (endN t).c = t.c := fun e => by show (if t.n > 0 then _ else t.c) = t.c; rw [if_neg (by omega)]
  generalize (endN t).c = e at *
  by_cases heq : (nbK e).length = (nbK t.c).length + ds.length
  · refine leK.trans (b := nmK t.r ++ nbK t.c ++ (K ++ ds ++ s)) ?_ (by rw [show P ++ K ++ ds ++ s = P ++ (K ++ ds ++ s) by simp]; exact hP.app _)
    refine .inr ⟨by simp only [List.length_append]; omega, ?_⟩
    rw [List.append_assoc, List.append_assoc, cmp_app _ _ _ _ rfl, if_pos (cmp_self _)]
    by_cases hn0 : t.n = 0
    · have hd := hn.z hn0
      rw [hd, he0 hn0, List.append_nil, cmp_self]
      exact Int.le_refl _
    · have hnp : 0 < t.n := by
        have := (vl_rng hn.d).1
        have := hn.n
        omega
      by_cases hc : 0 < t.c
      · exact Int.le_of_lt ((b2 heq).2 hc hnp _ _)
      · have hc0 : t.c = 0 := by omega
        rw [hc0] at heq ⊢
        have hz : nbK 0 = [] := rfl
        rw [hz] at heq ⊢
        have hdl : 0 < ds.length := by
          rcases Nat.eq_zero_or_pos ds.length with h | h
          · have hdn := hn.n
            rw [List.length_eq_zero_iff.1 h] at hdn
            exact absurd hdn hn0
          · exact h
        have hed : Dg (nbK e) := by
          unfold nbK
          split
          · exact dg_mem _ _
          · intro x hx; cases hx
        cases hE : nbK e with
        | nil => rw [hE] at heq; simp at heq; omega
        | cons y ys =>
          have hy := hed y (by rw [hE]; exact List.mem_cons_self)
          cases K with
          | nil => exact absurd rfl hK
          | cons z zs =>
            have h57 : 57 < z := h57
            show (if y < z then (-1 : Int) else _) ≤ 0
            rw [if_pos (by omega)]
            decide
  · exact .inl (by simp only [List.length_append]; omega)
/-! One key more: what stands of the keys. -/
theorem spR_cm {b : Bd} {K tl : List Int} {rg ct x : Int} (h : (b.t = 0 ∧ tl = []) ∨ (b.t = 1 ∧ tl = [x])) (hx : x ≠ 27) : spR (cmdB b rg ct (if b.t = 1 then tl.headD 0 else 0)) ⟨b, K⟩ = pfx (K ++ tl) rg ct := by
  rcases h with ⟨ht, rfl⟩ | ⟨ht, rfl⟩
  · have hn : ¬ b.t = 1 := by omega
    have he : cmdB b (cmdB b rg ct (if b.t = 1 then ([] : List Int).headD 0 else 0)).r (cmdB b rg ct (if b.t = 1 then ([] : List Int).headD 0 else 0)).c (cmdB b rg ct (if b.t = 1 then ([] : List Int).headD 0 else 0)).a = cmdB b rg ct (if b.t = 1 then ([] : List Int).headD 0 else 0) := cmd_key hn _ _ _ _
    unfold spR
    rw [if_pos (eqC_iff.2 he), if_neg hn, List.append_nil]
    rfl
  · have ha : (cmdB b rg ct (if b.t = 1 then [x].headD 0 else 0)).a = x := by
      show (if b.t = 1 then (if b.t = 1 then x else 0) else b.a) = x
      rw [if_pos ht, if_pos ht]
    have he : cmdB b (cmdB b rg ct (if b.t = 1 then [x].headD 0 else 0)).r (cmdB b rg ct (if b.t = 1 then [x].headD 0 else 0)).c (cmdB b rg ct (if b.t = 1 then [x].headD 0 else 0)).a = cmdB b rg ct (if b.t = 1 then [x].headD 0 else 0) := by
      rw [ha, if_pos ht]
      rfl
    unfold spR
    rw [if_pos (eqC_iff.2 he), if_pos ht, ha, if_neg hx]
    rfl
theorem cm_a {b : Bd} {tl l : List Int} {rg ct x : Int} (h : (b.t = 0 ∧ tl = []) ∨ (b.t = 1 ∧ tl = [x])) (hb : 0 ≤ b.a ∧ b.a ≤ 127) (hl : ∀ k ∈ tl, k ∈ l) : (cmdB b rg ct (if b.t = 1 then tl.headD 0 else 0)).a ∈ l ∨ (0 ≤ (cmdB b rg ct (if b.t = 1 then tl.headD 0 else 0)).a ∧ (cmdB b rg ct (if b.t = 1 then tl.headD 0 else 0)).a ≤ 127) := by
  rcases h with ⟨ht, rfl⟩ | ⟨ht, rfl⟩
  · right
    show 0 ≤ (if b.t = 1 then _ else b.a) ∧ (if b.t = 1 then _ else b.a) ≤ 127
    rw [if_neg (by omega)]
    exact hb
  · left
    show (if b.t = 1 then (if b.t = 1 then x else 0) else b.a) ∈ l
    rw [if_pos ht, if_pos ht]
    exact hl x List.mem_cons_self
theorem Nm.pos {ds : List Int} {m : Int} (h : Nm ds m) : 0 ≤ m := by
  have := (vl_rng h.d).1
  have := h.n
  omega
theorem endN_z {t : Rdg} (h : t.n = 0) : (endN t).c = t.c := by
  show (if t.n > 0 then _ else t.c) = t.c
  rw [if_neg (by omega)]
theorem row0 {sl : Bool} {cs tl : List Int} {t : Rdg} {r : Rw} {x : Int} (hs : St0 cs t) (hr : r ∈ tbS sl) (hk : r.ks ≠ []) (hg : ¬ gow t (r.ks.headD 0) = true) (h : (r.b.t = 0 ∧ tl = []) ∨ (r.b.t = 1 ∧ tl = [x])) (hx : x ≠ 27) (hb : 0 ≤ r.b.a ∧ r.b.a ≤ 127) :
    Lst sl (cs ++ r.ks ++ tl) (cmdB r.b (endN t).r (endN t).c (if r.b.t = 1 then tl.headD 0 else 0)) := by
  obtain ⟨_, c1, ds, rfl, i0, nm⟩ := hs
  obtain ⟨b0, _, _⟩ := num_le (e := (endN t).c) i0.c0 i0.c9 nm.d nm.n rfl
  refine ⟨⟨r, ?_, ?_⟩, ?_, cm_a h hb (fun k hk => List.mem_append_right _ hk), b0.1, b0.2⟩
  · refine List.mem_flatMap.2 ⟨r, hr, ?_⟩
    show r ∈ (if r.b.v = r.b.v then _ else _)
    rw [if_pos rfl, if_neg (by omega)]
    exact List.mem_singleton.2 rfl
  · have e := spR_cm (K := r.ks) (rg := (endN t).r) (ct := (endN t).c) h hx
    have e' : spR (cmdB r.b (endN t).r (endN t).c (if r.b.t = 1 then tl.headD 0 else 0)) r = pfx (r.ks ++ tl) (endN t).r (endN t).c := e
    rw [e']
    have hh : (r.ks ++ tl).headD 0 = r.ks.headD 0 := head_app hk _
    unfold pfx
    rw [hh]
    split
    · refine ⟨_, rfl, ?_⟩
      rw [List.append_assoc (c1 ++ ds)]
      exact (i0.num nm).app _
    · rename_i hc
      have h48 : r.ks.headD 0 = 48 := Classical.byContradiction fun e => hc (.inr e)
      have hc0 : ¬ (endN t).c = 0 := fun e => hc (.inl e)
      have hn0 : t.n = 0 := by
        rw [h48] at hg
        unfold gow at hg
        have := nm.pos
        have hg : ¬ t.n > 0 := fun e => hg (by simp [e])
        omega
      have hz := endN_z hn0
      obtain ⟨k1, k2⟩ := i0.b (by have := b0.1; omega)
      have k1 : ¬ (endN t).r = 0 := k1
      rw [if_neg k1, hz, nm.z hn0, List.append_nil]
      refine ⟨_, rfl, ?_⟩
      rw [List.append_assoc c1]
      exact k2.app _
  · rcases i0.r with h | h
    · exact .inl h
    · exact .inr (by show t.r ∈ _; simp [h])
theorem bhd_va {b b2 : Bd} {op : Int} (h : bhd b op = some b2) : b2.v = op ∧ b2.a = b.a ∧ b2.t = b.t := by
  unfold bhd at h
  split at h
  · injection h with h; subst h; exact ⟨rfl, rfl, rfl⟩
  · split at h
    · rename_i h2; injection h with h; subst h; exact ⟨h2, rfl, rfl⟩
    · cases h
theorem row1 {sl : Bool} {cs tl : List Int} {t : Rdg} {y : Rw} {b2 : Bd} {x : Int} (hs : St1 sl cs t) (hy : y ∈ tTar) (hb2 : bhd y.b t.o = some b2) (h : (y.b.t = 0 ∧ tl = []) ∨ (y.b.t = 1 ∧ tl = [x])) (hx : x ≠ 27) (hb : 0 ≤ y.b.a ∧ y.b.a ≤ 127) :
    Lst sl (cs ++ y.ks ++ tl) (cmdB b2 (endN t).r (endN t).c (if b2.t = 1 then tl.headD 0 else 0)) := by
  obtain ⟨z, P, ds, hz, hz2, ho, _, rfl, hP, h0, h9, hr, nm⟩ := hs
  obtain ⟨e1, e2, e3⟩ := bhd_va hb2
  rw [← e3] at h
  rw [← e2] at hb
  obtain ⟨b0, _, _⟩ := num_le (e := (endN t).c) h0 h9 nm.d nm.n rfl
  have hzk : z.ks ≠ [] ∧ 57 < z.ks.headD 0 := by
    unfold tbS at hz
    split at hz
    · exact ⟨(keysS _ hz).1, opS _ hz hz2⟩
    · exact ⟨(keysN _ hz).1, opN _ hz hz2⟩
  refine ⟨⟨⟨b2, z.ks ++ y.ks⟩, ?_, ?_⟩, ?_, cm_a h hb (fun k hk => List.mem_append_right _ hk), b0.1, b0.2⟩
  · refine List.mem_flatMap.2 ⟨z, hz, ?_⟩
    show _ ∈ (if z.b.v = b2.v then _ else _)
    rw [if_pos (by rw [e1, ho]), if_pos hz2]
    refine List.mem_filterMap.2 ⟨y, hy, ?_⟩
    unfold tgF
    rw [← ho, hb2]
    rfl
  · rw [spR_cm (K := z.ks ++ y.ks) (rg := (endN t).r) (ct := (endN t).c) h hx]
    have hh : (z.ks ++ y.ks ++ tl).headD 0 = z.ks.headD 0 := by
      rw [List.append_assoc]
      exact head_app hzk.1 _
    unfold pfx
    rw [hh, if_pos (.inr (by have := hzk.2; omega))]
    refine ⟨_, rfl, ?_⟩
    have := op_le (s := y.ks ++ tl) hzk.1 hzk.2 hP h0 h9 nm
    simp only [List.append_assoc] at this ⊢
    exact this
  · rcases hr with h | h
    · exact .inl h
    · exact .inr (by show t.r ∈ _; simp [h])
/-! Key by key: whatever spells a command is no better than what Spell tells. -/
theorem rdo_go {sl : Bool} {ks : List Int} {t t' u : Rdg} {c : Cm} {s : Int} (h : t.k < ks.length) (e : rst sl t (ks.drop t.k.toNat) = .go t') (hk : t'.k = ks.length) (r : Rdo sl ks t u c s) : u = t' ∧ c = cmZ ∧ s = 0 := by
  have r2 := Rdo.more h e (Rdo.over (by omega))
  exact r.det r2
theorem PI.over {sl : Bool} {l : List Int} {t : Rdg} (hk : t.k = l.length) (st : St0 l t ∨ St1 sl l t) (esc : ∀ k ∈ l, k ≠ 27) : PI sl l t := by
  have hn : t.k.toNat = l.length := by omega
  exact ⟨by omega, by omega, by rw [hn, List.take_length]; exact st, .inl (by rw [hn, List.drop_length]), esc⟩
theorem feed_s {sl : Bool} {ks : List Int} {t u : Rdg} {c : Cm} {s x : Int} (h : PI sl ks t) (hx : x ≠ 27) (hr : Rdo sl (ks ++ [x]) t u c s) : (s = 0 → PI sl (ks ++ [x]) u) ∧ (s = 1 → Lst sl (ks ++ [x]) c) := by
  obtain ⟨k0, k1, st, w, esc⟩ := h
  have hesc : ∀ k ∈ ks ++ [x], k ≠ 27 := by
    intro k hk
    rcases List.mem_append.1 hk with hk | hk
    · exact esc k hk
    · rw [List.mem_singleton.1 hk]; exact hx
  have hlen : (ks ++ [x]).length = ks.length + 1 := by simp
  have hlt : t.k < (ks ++ [x]).length := by omega
  have hdr : (ks ++ [x]).drop t.k.toNat = ks.drop t.k.toNat ++ [x] := List.drop_append_of_le_length (by omega)
  have htk : (ks ++ [x]).take t.k.toNat = ks.take t.k.toNat := List.take_append_of_le_length (by omega)
  have hcl : (ks.take t.k.toNat).length = t.k.toNat := by rw [List.length_take]; omega
  have hall : ks.take t.k.toNat ++ ks.drop t.k.toNat = ks := List.take_append_drop _ _
  have hstay : rst sl t (ks.drop t.k.toNat ++ [x]) = .fin t cmZ 0 → (s = 0 → PI sl (ks ++ [x]) u) ∧ (s = 1 → Lst sl (ks ++ [x]) c) := by
    intro e
    obtain ⟨rfl, rfl, rfl⟩ := hr.det (Rdo.done hlt (by rw [hdr]; exact e))
    exact ⟨fun _ => ⟨k0, by omega, by rw [htk]; exact st, .inr (by rw [hdr]; exact e), hesc⟩, fun e => absurd e (by decide)⟩
  have hbad : rst sl t (ks.drop t.k.toNat ++ [x]) = .fin t cmZ 2 → (s = 0 → PI sl (ks ++ [x]) u) ∧ (s = 1 → Lst sl (ks ++ [x]) c) := by
    intro e
    obtain ⟨rfl, rfl, rfl⟩ := hr.det (Rdo.done hlt (by rw [hdr]; exact e))
    exact ⟨fun e => absurd e (by decide), fun e => absurd e (by decide)⟩
  have hgo : ∀ t' : Rdg, rst sl t (ks.drop t.k.toNat ++ [x]) = .go t' → t'.k = (ks ++ [x]).length → (St0 (ks ++ [x]) t' ∨ St1 sl (ks ++ [x]) t') → (s = 0 → PI sl (ks ++ [x]) u) ∧ (s = 1 → Lst sl (ks ++ [x]) c) := by
    intro t' e hk hst
    obtain ⟨rfl, rfl, rfl⟩ := rdo_go hlt (by rw [hdr]; exact e) hk hr
    exact ⟨fun _ => PI.over hk hst hesc, fun e => absurd e (by decide)⟩
  have hfin : ∀ (t' : Rdg) (c' : Cm) (s' : Int), rst sl t (ks.drop t.k.toNat ++ [x]) = .fin t' c' s' → (s' = 1 ∨ s' = 2) → (s' = 1 → Lst sl (ks ++ [x]) c') → (s = 0 → PI sl (ks ++ [x]) u) ∧ (s = 1 → Lst sl (ks ++ [x]) c) := by
    intro t' c' s' e h12 hl
    obtain ⟨rfl, rfl, rfl⟩ := hr.det (Rdo.done hlt (by rw [hdr]; exact e))
    exact ⟨fun e => absurd e (by omega), hl⟩
  generalize hcs : ks.take t.k.toNat = cs at *
  generalize hlf : ks.drop t.k.toNat = lf at *
  have hkl : t.k = cs.length := by omega
  have hE : ks ++ [x] = cs ++ (lf ++ [x]) := by rw [← hall, List.append_assoc]
  have hkn : (ks ++ [x]).length = cs.length + (lf.length + 1) := by rw [hE]; simp
  rw [hE] at hgo hfin
  rw [hE] at hstay hbad ⊢
  have hhd : lf ≠ [] → (lf ++ [x]).headD 0 = lf.headD 0 := fun h => head_app h _
  have hw : lf ≠ [] → ¬ gow t (lf.headD 0) = true ∧ ((lf.headD 0 = 34 ∧ t.o = 0 ∧ lf.length = 1) ∨ (¬ (lf.headD 0 = 34 ∧ t.o = 0) ∧ (bgn (bLs sl t) lf = none ∨ ∃ n b, bgn (bLs sl t) lf = some n ∧ (lf, b) ∈ bLs sl t ∧ b.t = 1 ∧ lf.length = n + 1))) := by
    intro hne
    rcases w with w | w
    · exact absurd w hne
    · exact wait_ways w
  have hs0 : t.o = 0 → St0 cs t := by
    intro ho
    rcases st with st | ⟨_, _, _, _, _, _, hn, _⟩
    · exact st
    · exact absurd ho hn
  have hs1 : t.o ≠ 0 → St1 sl cs t := by
    intro ho
    rcases st with st | st
    · exact absurd st.1 ho
    · exact st
  rcases rst_ways sl t (lf ++ [x]) with ⟨g, e⟩ | ⟨g, h1, h2, ⟨_, e⟩ | e | ⟨e0, e1, e⟩⟩ | ⟨g, h1, ⟨_, e⟩ | e | ⟨n, b, hb, hm, ⟨_, _, e⟩ | ⟨b2, e⟩ | ⟨b2, b1, e⟩⟩⟩
  · -- a digit
    have hn : lf = [] := by
      by_cases hn : lf = []
      · exact hn
      · rw [hhd hn] at g
        exact absurd g (hw hn).1
    subst hn
    refine hgo _ e (by show t.k + 1 = _; simp only [List.length_append, List.length_cons, List.length_nil]; omega) ?_
    have g : gow t x = true := g
    show St0 (cs ++ [x]) (addD t x) ∨ St1 sl (cs ++ [x]) (addD t x)
    rcases st with ⟨ho, c1, ds, rfl, i0, nm⟩ | ⟨z, P, ds, z1, z2, z3, z4, rfl, z5, z6, z7, z8, nm⟩
    · exact .inl ⟨ho, c1, ds ++ [x], by rw [List.append_assoc], i0, nm.snoc g⟩
    · exact .inr ⟨z, P, ds ++ [x], z1, z2, z3, z4, by simp only [List.append_assoc], z5, z6, z7, z8, nm.snoc g⟩
  · exact hstay e
  · exact hbad e
  · -- a register's name
    have hne : lf ≠ [] := fun h => e0 (by rw [h]; rfl)
    rw [hhd hne] at h1
    obtain ⟨_, ⟨q1, q2, q3⟩ | ⟨q, _⟩⟩ := hw hne
    · obtain ⟨y, rfl⟩ := List.length_eq_one_iff.1 q3
      have hy : y = 34 := q1
      subst hy
      have e1 : x ≠ 0 := e1
      refine hgo _ e (by show t.k + 2 = _; simp only [List.length_append, List.length_cons, List.length_nil]; omega) (.inl ?_)
      obtain ⟨ho, c1, ds, rfl, i0, nm⟩ := hs0 h2
      exact ⟨ho, c1 ++ ds ++ [34, x], [], by simp, i0.reg nm e1, Nm.nil⟩
    · exact absurd ⟨h1, h2⟩ q
  · exact hstay e
  · exact hbad e
  · exact hstay e
  · -- an operator
    have hw' : lf = [] ∨ (bgn (bLs sl t) lf = none ∨ ∃ m b', bgn (bLs sl t) lf = some m ∧ (lf, b') ∈ bLs sl t ∧ b'.t = 1 ∧ lf.length = m + 1) := by
      by_cases hne : lf = []
      · exact .inl hne
      · rcases hw hne with ⟨_, ⟨q1, q2, _⟩ | ⟨_, q⟩⟩
        · rw [hhd hne] at h1
          exact absurd ⟨q1, q2⟩ h1
        · exact .inr q
    rcases row_ends hw' hb hm with ⟨r1, r2⟩ | ⟨_, _, r3⟩
    · have ho : t.o = 0 := by
        by_cases ho : t.o = 0
        · exact ho
        · rcases (tt_mem ho r2).2 with h | h <;> rw [h] at b2 <;> exact absurd b2 (by decide)
      obtain ⟨r, hr', hk, rfl⟩ := tb_mem ho r2
      have hv : r.b.v ≠ 0 := by
        rcases (bls_ok r2).kin with h | h | h
        · rw [b2] at h; exact absurd h (by decide)
        · rw [b2] at h; exact absurd h (by decide)
        · exact h.2
      refine hgo _ e (by show t.k + ((n : Int) + 1) = _; simp only [List.length_append, List.length_cons, List.length_nil] at r1 ⊢; omega) (.inr ?_)
      obtain ⟨_, c1, ds, rfl, i0, nm⟩ := hs0 ho
      obtain ⟨d0, _, _⟩ := num_le (e := (endN t).c) i0.c0 i0.c9 nm.d nm.n rfl
      refine ⟨r, c1 ++ ds, [], hr', b2, rfl, hv, by rw [hk, List.append_nil], i0.num nm, d0.1, d0.2, ?_, Nm.nil⟩
      rcases i0.r with h | h
      · exact .inl h
      · exact .inr (List.mem_append_left _ h)
    · rw [b2] at r3; exact absurd r3 (by decide)
  · -- a row
    have hw' : lf = [] ∨ (bgn (bLs sl t) lf = none ∨ ∃ m b', bgn (bLs sl t) lf = some m ∧ (lf, b') ∈ bLs sl t ∧ b'.t = 1 ∧ lf.length = m + 1) := by
      by_cases hne : lf = []
      · exact .inl hne
      · rcases hw hne with ⟨_, ⟨q1, q2, _⟩ | ⟨_, q⟩⟩
        · rw [hhd hne] at h1
          exact absurd ⟨q1, q2⟩ h1
        · exact .inr q
    refine hfin _ _ _ e (cm_s _ _ _) ?_
    obtain ⟨K, tl, hK, hd, hmm, hbt⟩ : ∃ K tl, lf ++ [x] = K ++ tl ∧ (lf ++ [x]).drop (n + 1) = tl ∧ (K, b) ∈ bLs sl t ∧ ((b.t = 0 ∧ tl = []) ∨ (b.t = 1 ∧ tl = [x])) := by
      rcases row_ends hw' hb hm with ⟨r1, r2⟩ | ⟨r1, r2, r3⟩
      · refine ⟨lf ++ [x], [], by simp, by rw [r1, List.drop_length], r2, .inl ⟨?_, rfl⟩⟩
        rcases (bls_ok r2).kin with h | h | h
        · exact h
        · exact absurd ⟨h, r1.symm⟩ b1
        · exact absurd h.1 b2
      · exact ⟨lf, [x], rfl, by rw [r1]; simp, r2, .inr ⟨r3, rfl⟩⟩
    have hba := bls_arg hmm
    have hKn := (bls_ok hmm).ne
    rw [hd, hK]
    rw [hK, head_app hKn] at g
    rw [← List.append_assoc]
    by_cases ho : t.o = 0
    · obtain ⟨r, hr', hk, rfl⟩ := tb_mem ho hmm
      subst hk
      intro _
      unfold rcm
      rw [if_pos ho]
      exact row0 (hs0 ho) hr' hKn g hbt hx hba
    · obtain ⟨⟨y, hy, hk, rfl⟩, _⟩ := tt_mem ho hmm
      subst hk
      unfold rcm
      rw [if_neg ho]
      cases hbb : bhd y.b t.o with
      | none => exact fun e => absurd (show (2 : Int) = 1 from e) (by decide)
      | some b3 =>
        intro _
        exact row1 (hs1 ho) hy hbb hbt hx hba
/-! Spell tells the least keys. -/
theorem cmp_anti : ∀ {a b : List Int}, ¬ cmpL a b < 0 → cmpL b a ≤ 0
  | [], [], _ => by show (0 : Int) ≤ 0; decide
  | [], _ :: _, h => absurd (show (-1 : Int) < 0 by decide) h
  | _ :: _, [], _ => by show (-1 : Int) ≤ 0; decide
  | x :: xs, y :: ys, h => by
    have h : ¬ (if x < y then (-1 : Int) else if y < x then 1 else cmpL xs ys) < 0 := h
    show (if y < x then (-1 : Int) else if x < y then 1 else cmpL ys xs) ≤ 0
    by_cases h1 : x < y
    · rw [if_pos h1] at h
      exact absurd (by decide) h
    · rw [if_neg h1] at h ⊢
      by_cases h2 : y < x
      · rw [if_pos h2]; decide
      · rw [if_neg h2] at h ⊢
        exact cmp_anti h
theorem bfr_le {k b : List Int} (h : bfr k b = true) : leK k b := by
  unfold bfr at h
  split at h
  · rename_i e
    have := of_decide_eq_true h
    exact .inr ⟨e, by omega⟩
  · exact .inl (of_decide_eq_true h)
theorem bfr_ge {k b : List Int} (h : ¬ bfr k b = true) : leK b k := by
  unfold bfr at h
  split at h
  · rename_i e
    exact .inr ⟨e.symm, cmp_anti (by simpa using h)⟩
  · rename_i e
    have : ¬ k.length < b.length := by simpa using h
    exact .inl (by omega)
theorem best_o {c : Cm} {b : List Int} (r : Rw) : ∃ b', bstF c (some b) r = some b' ∧ leK b' b := by
  unfold bstF
  cases spR c r with
  | none => exact ⟨b, rfl, leK.refl _⟩
  | some k =>
    by_cases h : bfr k b = true
    · exact ⟨k, by show (if bfr k b = true then _ else _) = _; rw [if_pos h], bfr_le h⟩
    · exact ⟨b, by show (if bfr k b = true then _ else _) = _; rw [if_neg h], leK.refl _⟩
theorem best_r {c : Cm} {k : List Int} {r : Rw} (hr : spR c r = some k) (o : Option (List Int)) : ∃ b', bstF c o r = some b' ∧ leK b' k := by
  unfold bstF
  rw [hr]
  cases o with
  | none => exact ⟨k, rfl, leK.refl _⟩
  | some b =>
    by_cases h : bfr k b = true
    · exact ⟨k, by show (if bfr k b = true then _ else _) = _; rw [if_pos h], leK.refl _⟩
    · exact ⟨b, by show (if bfr k b = true then _ else _) = _; rw [if_neg h], bfr_ge h⟩
theorem fold_o {c : Cm} : ∀ (L : List Rw) {b : List Int}, ∃ b', L.foldl (bstF c) (some b) = some b' ∧ leK b' b
  | [], b => ⟨b, rfl, leK.refl _⟩
  | r :: L, b => by
    obtain ⟨b1, e1, h1⟩ := best_o (c := c) (b := b) r
    obtain ⟨b2, e2, h2⟩ := fold_o (c := c) L (b := b1)
    exact ⟨b2, by rw [List.foldl_cons, e1]; exact e2, h2.trans h1⟩
theorem fold_r {c : Cm} {k : List Int} {r : Rw} (hr : spR c r = some k) : ∀ (L : List Rw) (o : Option (List Int)), r ∈ L → ∃ b', L.foldl (bstF c) o = some b' ∧ leK b' k
  | [], _, h => by cases h
  | x :: L, o, h => by
    rw [List.foldl_cons]
    rcases List.mem_cons.1 h with h | h
    · subst h
      obtain ⟨b1, e1, h1⟩ := best_r hr o
      obtain ⟨b2, e2, h2⟩ := fold_o (c := c) L (b := b1)
      exact ⟨b2, by rw [e1]; exact e2, h2.trans h1⟩
    · exact fold_r hr L _ h
theorem chain {mode : Int} {c : Cm} : ∀ (xs : List Int) {p : Ps}, PI (isl mode) (ahd p mode).ks (ahd p mode).t → FedR mode p xs c 1 → Lst (isl mode) ((ahd p mode).ks ++ xs) c ∧ ∀ k ∈ (ahd p mode).ks ++ xs, k ≠ 27
  | [], _, _, h => absurd h.2 (by decide)
  | x :: xs, p, hp, h => by
    rw [FedR] at h
    split at h
    · rename_i hx
      subst hx
      obtain ⟨q, ⟨_, _, _, e⟩ | ⟨h27, u, hu, _⟩⟩ := h
      · exact absurd e (by decide)
      · refine ⟨(feed_s hp h27 hu).2 rfl, fun k hk => ?_⟩
        rcases List.mem_append.1 hk with hk | hk
        · exact hp.esc k hk
        · rw [List.mem_singleton.1 hk]; exact h27
    · obtain ⟨q, c1, s1, h1, ⟨rfl, h2⟩ | ⟨_, _, e⟩⟩ := h
      · obtain ⟨_, _, _, e⟩ | ⟨h27, u, hu, ⟨_, rfl⟩ | ⟨e, _⟩⟩ := h1
        · exact absurd e (by decide)
        · have hq : ahd (⟨isl mode, (ahd p mode).ks ++ [x], u⟩ : Ps) mode = ⟨isl mode, (ahd p mode).ks ++ [x], u⟩ := by
            unfold ahd
            rw [if_pos rfl]
          have := chain (p := ⟨isl mode, (ahd p mode).ks ++ [x], u⟩) xs (by rw [hq]; exact (feed_s hp h27 hu).1 rfl) h2
          rw [hq] at this
          simp only [List.append_assoc, List.cons_append, List.nil_append] at this
          exact this
        · exact absurd rfl e
      · exact absurd e (by decide)
/-- The theorem of the layer. -/
theorem spell_least {mode : Int} {c : Cm} {l : List Int} (h : FedR mode (ps0 false) l c 1) (hi : ∀ k ∈ l, In64 k) : In64 c.r ∧ In64 c.a ∧ ∃ b, spell mode c = some b ∧ leK b l := by
  have ha : ahd (ps0 false) mode = ps0 (isl mode) := by
    unfold ahd
    split
    · rename_i e
      rw [show isl mode = false from e]
    · rfl
  have hp : PI (isl mode) (ahd (ps0 false) mode).ks (ahd (ps0 false) mode).t := by
    rw [ha]
    exact PI.init _
  obtain ⟨⟨⟨r, hr, k, hk, hl⟩, rr, aa, c0, c9⟩, h27⟩ := chain l hp h
  rw [ha, show (ps0 (isl mode)).ks ++ l = l from rfl] at *
  refine ⟨?_, ?_, ?_⟩
  · rcases rr with e | e
    · rw [e]; exact In64.of (by decide) (by decide)
    · exact hi _ e
  · rcases aa with e | e
    · exact hi _ e
    · exact In64.of (by omega) (by omega)
  · have hn : c.r ≠ 27 := by
      rcases rr with e | e
      · rw [e]; decide
      · exact h27 _ e
    obtain ⟨b, e, hb⟩ := fold_r hk _ none hr
    refine ⟨b, ?_, hb.trans hl⟩
    unfold spell
    rw [if_neg (by omega)]
    exact e
end Go.Proofs.YtfdceljdhgbkcaaGreatDoor
