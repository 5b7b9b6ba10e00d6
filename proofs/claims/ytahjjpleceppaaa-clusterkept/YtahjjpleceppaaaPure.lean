/- Boundaries: what the rules say, as a machine that goes ahead atom by atom. -/
import Derived.Test.YtahjjpleceppaaaFacts
namespace Go.Proofs.Ytahjjpleceppaaa

/-- What is known of the atoms ahead (the last one first): the row of a conjunct, the row of a picture, how many regional letters. -/
def Cl.cjF (n : Int) (s : Nat) : Nat := if n = 1 then 1 else if n = 3 then (if s = 0 then 0 else 2) else if n = 2 then s else 0
def Cl.piF (c : Int) (s : Nat) : Nat := if c = 14 then 1 else if c = 4 then (if s = 1 then 1 else 0) else if c = 5 then (if s = 1 then 2 else 0) else 0
def Cl.flF (c : Int) (s : Nat) : Nat := if c = 6 then s + 1 else 0
def Cl.cj : List Int → Nat
  | [] => 0
  | x :: t => Cl.cjF (Gx.cnj x) (Cl.cj t)
def Cl.pi : List Int → Nat
  | [] => 0
  | x :: t => Cl.piF (Gx.cls x) (Cl.pi t)
def Cl.fl : List Int → Nat
  | [] => 0
  | x :: t => Cl.flF (Gx.cls x) (Cl.fl t)
theorem Cl.cj_cons (x : Int) (t : List Int) : Cl.cj (x :: t) = Cl.cjF (Gx.cnj x) (Cl.cj t) := rfl
theorem Cl.pi_cons (x : Int) (t : List Int) : Cl.pi (x :: t) = Cl.piF (Gx.cls x) (Cl.pi t) := rfl
theorem Cl.fl_cons (x : Int) (t : List Int) : Cl.fl (x :: t) = Cl.flF (Gx.cls x) (Cl.fl t) := rfl
theorem Cl.cj_nil : Cl.cj [] = 0 := rfl
theorem Cl.pi_nil : Cl.pi [] = 0 := rfl
theorem Cl.fl_nil : Cl.fl [] = 0 := rfl

def Cl.alone (c : Int) : Bool := c == 1 || c == 2 || c == 3
def Cl.hd (c : Int) : Bool := c == 9 || c == 10 || c == 12 || c == 13
def Cl.hg (l r : Int) : Bool := (l == 9 && Cl.hd r) || ((l == 12 || l == 10) && (r == 10 || r == 11)) || ((l == 13 || l == 11) && r == 11)
/-- Do the rules keep two atoms together: their classes, the right one's part, the states behind the left one. -/
def Cl.JF (cl cr nr : Int) (j p f : Nat) : Bool :=
  if cl = 1 ∧ cr = 2 then true
  else if Cl.alone cl = true then false else if Cl.alone cr = true then false
  else Cl.hg cl cr || (cr == 4 || cr == 5) || cr == 8 || cl == 7 || (nr == 1 && j == 2) || (cr == 14 && p == 2) || (cr == 6 && f == 1)
def Cl.J (p : List Int) (l r : Int) : Bool := Cl.JF (Gx.cls l) (Gx.cls r) (Gx.cnj r) (Cl.cj p) (Cl.pi p) (Cl.fl p % 2)

/-- The atoms ahead of an offset, the last first. -/
def Cl.rv (zs : List Int) (k : Nat) : List Int := (zs.take k).reverse
def Cl.at (zs : List Int) (k : Nat) : Int := zs[k]?.getD 0
/-- Does the offset k (above 0, below n) stand within a cluster? -/
def Cl.jn (zs : List Int) (k : Nat) : Bool := Cl.J (Cl.rv zs k) (Cl.at zs (k - 1)) (Cl.at zs k)
def Cl.isB (zs : List Int) (k : Nat) : Bool := if k = 0 then true else if k < zs.length then !Cl.jn zs k else k == zs.length

theorem Cl.rv_zero (zs : List Int) : Cl.rv zs 0 = [] := rfl
theorem Cl.rv_succ (zs : List Int) (k : Nat) (h : k < zs.length) : Cl.rv zs (k + 1) = Cl.at zs k :: Cl.rv zs k := by
  unfold Cl.rv Cl.at
  rw [List.take_succ_eq_append_getElem h, List.reverse_append]
  simp [h]
theorem Cl.at_drop (zs : List Int) (b k : Nat) : Cl.at (zs.drop b) k = Cl.at zs (b + k) := by
  unfold Cl.at; rw [List.getElem?_drop]

theorem Cl.isB_zero (zs : List Int) : Cl.isB zs 0 = true := by simp [Cl.isB]
theorem Cl.isB_end (zs : List Int) : Cl.isB zs zs.length = true := by
  unfold Cl.isB
  split
  · rfl
  · simp
theorem Cl.isB_mid (zs : List Int) (k : Nat) (h1 : 0 < k) (h2 : k < zs.length) : Cl.isB zs k = !Cl.jn zs k := by
  unfold Cl.isB; rw [if_neg (by omega), if_pos h2]
theorem Cl.isB_le (zs : List Int) (k : Nat) (h : Cl.isB zs k = true) : k ≤ zs.length := by
  unfold Cl.isB at h
  split at h
  · omega
  · split at h
    · omega
    · simp at h; omega

theorem Gx.small (a : Int) : ((Gx.cls a = 1 ∨ Gx.cls a = 2 ∨ Gx.cls a = 3) → Gx.cnj a = 0) ∧ ((Gx.cnj a = 2 ∨ Gx.cnj a = 3) → (Gx.cls a = 4 ∨ Gx.cls a = 5)) ∧ (Gx.cnj a = 1 → Gx.cls a = 0) ∧ 0 ≤ Gx.cls a ∧ Gx.cls a ≤ 14 ∧ 0 ≤ Gx.cnj a ∧ Gx.cnj a ≤ 3 := by
  have h := Gx.join_facts a
  generalize Gx.cls a = c at *
  generalize Gx.cnj a = j at *
  rcases h with ⟨_, rfl, rfl⟩ | ⟨_, rfl, rfl⟩ | ⟨_, rfl, rfl⟩ | ⟨_, _, rfl, rfl⟩ | ⟨_, _, _, _, h0, h14, n1, n2, n5, n6, ⟨rfl, rfl⟩ | ⟨rfl, rfl, _⟩ | ⟨rfl, rfl, _⟩ | ⟨rfl, _, rfl⟩ | ⟨rfl, n4⟩⟩
  all_goals (refine ⟨?_, ?_, ?_, ?_, ?_, ?_, ?_⟩ <;> omega)

/-- Behind a boundary nothing of what is ahead counts. -/
theorem Cl.cut_F (cl nl cx nx : Int) (j p f : Nat) (l1 : (cl = 1 ∨ cl = 2 ∨ cl = 3) → nl = 0) (x1 : (cx = 1 ∨ cx = 2 ∨ cx = 3) → nx = 0) (x2 : (nx = 2 ∨ nx = 3) → (cx = 4 ∨ cx = 5))
    (h : Cl.JF cl cx nx (Cl.cjF nl j) (Cl.piF cl p) (Cl.flF cl f % 2) = false) :
    Cl.cjF nx (Cl.cjF nl j) = Cl.cjF nx 0 ∧ Cl.piF cx (Cl.piF cl p) = Cl.piF cx 0 ∧ Cl.flF cx (Cl.flF cl f) % 2 = Cl.flF cx 0 % 2 := by
  unfold Cl.JF at h
  by_cases h12 : cl = 1 ∧ cx = 2
  · rw [if_pos h12] at h; cases h
  rw [if_neg h12] at h
  by_cases ha : Cl.alone cl = true
  · simp [Cl.alone] at ha
    have e1 : nl = 0 := l1 (by omega)
    have k2 : cl ≠ 14 := by omega
    have k3 : cl ≠ 4 := by omega
    have k4 : cl ≠ 5 := by omega
    have k5 : cl ≠ 6 := by omega
    simp [Cl.cjF, Cl.piF, Cl.flF, e1, k2, k3, k4, k5]
  rw [if_neg ha] at h
  by_cases hr : Cl.alone cx = true
  · simp [Cl.alone] at hr
    have e1 : nx = 0 := x1 (by omega)
    have e2 : cx ≠ 14 := by omega
    have e3 : cx ≠ 4 := by omega
    have e4 : cx ≠ 5 := by omega
    have e5 : cx ≠ 6 := by omega
    simp [Cl.cjF, Cl.piF, Cl.flF, e1, e2, e3, e4, e5]
  rw [if_neg hr] at h
  simp only [Bool.or_eq_false_iff, Bool.and_eq_false_iff, beq_eq_false_iff_ne, ne_eq] at h
  obtain ⟨⟨⟨⟨⟨⟨_, n4, n5⟩, _⟩, _⟩, _⟩, _⟩, n6⟩ := h
  have c1 : nx ≠ 3 := by omega
  have c2 : nx ≠ 2 := by omega
  refine ⟨by simp [Cl.cjF, c1, c2], by simp [Cl.piF, n4, n5], ?_⟩
  by_cases h6 : cx = 6
  · rcases n6 with n6 | n6
    · exact absurd h6 n6
    · generalize Cl.flF cl f = g at *
      unfold Cl.flF
      rw [if_pos h6, if_pos h6]; omega
  · simp [Cl.flF, h6]
theorem Cl.cut_one (p : List Int) (l x : Int) (h : Cl.J (l :: p) l x = false) :
    Cl.cj (x :: l :: p) = Cl.cj [x] ∧ Cl.pi (x :: l :: p) = Cl.pi [x] ∧ Cl.fl (x :: l :: p) % 2 = Cl.fl [x] % 2 :=
  Cl.cut_F (Gx.cls l) (Gx.cnj l) (Gx.cls x) (Gx.cnj x) (Cl.cj p) (Cl.pi p) (Cl.fl p) (Gx.small l).1 (Gx.small x).1 (Gx.small x).2.1 h

/-- The states of two lists agree. -/
def Cl.eqv (p q : List Int) : Prop := Cl.cj p = Cl.cj q ∧ Cl.pi p = Cl.pi q ∧ Cl.fl p % 2 = Cl.fl q % 2
theorem Cl.flF_mod (c : Int) (a b : Nat) (h : a % 2 = b % 2) : Cl.flF c a % 2 = Cl.flF c b % 2 := by
  unfold Cl.flF
  split
  · omega
  · rfl
theorem Cl.eqv_cons {p q : List Int} (h : Cl.eqv p q) (x : Int) : Cl.eqv (x :: p) (x :: q) := by
  obtain ⟨h1, h2, h3⟩ := h
  exact ⟨by rw [Cl.cj_cons, Cl.cj_cons, h1], by rw [Cl.pi_cons, Cl.pi_cons, h2], Cl.flF_mod _ _ _ h3⟩
theorem Cl.J_eqv {p q : List Int} (h : Cl.eqv p q) (l r : Int) : Cl.J p l r = Cl.J q l r := by
  obtain ⟨h1, h2, h3⟩ := h
  unfold Cl.J; rw [h1, h2, h3]

theorem Cl.eqv_drop (zs : List Int) (b : Nat) (hb : Cl.isB zs b = true) (k : Nat) (h1 : 0 < k) (h2 : b + k ≤ zs.length) : Cl.eqv (Cl.rv zs (b + k)) (Cl.rv (zs.drop b) k) := by
  induction k with
  | zero => omega
  | succ k ih =>
    rw [show b + (k + 1) = b + k + 1 from rfl, Cl.rv_succ zs (b + k) (by omega), Cl.rv_succ (zs.drop b) k (by rw [List.length_drop]; omega), Cl.at_drop]
    rcases Nat.eq_zero_or_pos k with rfl | hk
    · rw [Cl.rv_zero, Nat.add_zero]
      cases b with
      | zero => rw [Cl.rv_zero]; exact ⟨rfl, rfl, rfl⟩
      | succ b =>
        rw [Cl.rv_succ zs b (by omega)]
        apply Cl.cut_one
        unfold Cl.isB at hb
        rw [if_neg (by omega), if_pos (by omega)] at hb
        unfold Cl.jn at hb
        rw [Cl.rv_succ zs b (by omega)] at hb
        simpa using hb
    · exact Cl.eqv_cons (ih hk (by omega)) _

/-- What stands behind a boundary has alone the boundaries that it has in the whole. -/
theorem Cl.jn_drop (zs : List Int) (b : Nat) (hb : Cl.isB zs b = true) (k : Nat) (h1 : 0 < k) (h2 : b + k ≤ zs.length) : Cl.jn (zs.drop b) k = Cl.jn zs (b + k) := by
  unfold Cl.jn
  rw [Cl.J_eqv (Cl.eqv_drop zs b hb k h1 h2), Cl.at_drop, Cl.at_drop, show b + (k - 1) = b + k - 1 from by omega]
theorem Cl.isB_drop (zs : List Int) (b : Nat) (hb : Cl.isB zs b = true) (hl : b ≤ zs.length) (k : Nat) (h2 : b + k ≤ zs.length) : Cl.isB (zs.drop b) k = Cl.isB zs (b + k) := by
  rcases Nat.eq_zero_or_pos k with rfl | hk
  · rw [Nat.add_zero, hb]; simp [Cl.isB]
  · rcases Nat.eq_or_lt_of_le h2 with h | h
    · rw [h, Cl.isB_end, show k = (zs.drop b).length from by rw [List.length_drop]; omega, Cl.isB_end]
    · rw [Cl.isB_mid (zs.drop b) k hk (by rw [List.length_drop]; omega), Cl.isB_mid zs (b + k) (by omega) h, Cl.jn_drop zs b hb k hk h2]

/-- The least boundary at k or above; the greatest at k or below. -/
def Cl.upF (zs : List Int) : Nat → Nat → Nat
  | 0, _ => zs.length
  | f + 1, k => if k < zs.length then (if Cl.jn zs k = true then Cl.upF zs f (k + 1) else k) else zs.length
def Cl.up (zs : List Int) (k : Nat) : Nat := Cl.upF zs (zs.length - k) k
theorem Cl.up_eq (zs : List Int) (k : Nat) : Cl.up zs k = if k < zs.length then (if Cl.jn zs k = true then Cl.up zs (k + 1) else k) else zs.length := by
  by_cases h : k < zs.length
  · unfold Cl.up
    rw [show zs.length - k = (zs.length - (k + 1)) + 1 by omega, Cl.upF]
  · unfold Cl.up
    rw [show zs.length - k = 0 by omega, Cl.upF, if_neg h]
def Cl.dn (zs : List Int) : Nat → Nat
  | 0 => 0
  | k + 1 => if Cl.jn zs (k + 1) = true then Cl.dn zs k else k + 1

theorem Cl.up_end (zs : List Int) (k : Nat) (h : zs.length ≤ k) : Cl.up zs k = zs.length := by rw [Cl.up_eq, if_neg (by omega)]
theorem Cl.up_yes (zs : List Int) (k : Nat) (h : k < zs.length) (hj : Cl.jn zs k = false) : Cl.up zs k = k := by rw [Cl.up_eq, if_pos h, if_neg (by simp [hj])]
theorem Cl.up_no (zs : List Int) (k : Nat) (h : k < zs.length) (hj : Cl.jn zs k = true) : Cl.up zs k = Cl.up zs (k + 1) := by rw [Cl.up_eq zs k, if_pos h, if_pos hj]
theorem Cl.dn_yes (zs : List Int) (k : Nat) (hj : Cl.jn zs (k + 1) = false) : Cl.dn zs (k + 1) = k + 1 := by rw [Cl.dn, if_neg (by simp [hj])]
theorem Cl.dn_no (zs : List Int) (k : Nat) (hj : Cl.jn zs (k + 1) = true) : Cl.dn zs (k + 1) = Cl.dn zs k := by rw [Cl.dn, if_pos hj]

theorem Cl.up_spec (zs : List Int) : ∀ m k, zs.length - k = m → 0 < k → k ≤ zs.length → k ≤ Cl.up zs k ∧ Cl.up zs k ≤ zs.length ∧ Cl.isB zs (Cl.up zs k) = true ∧ ∀ j, k ≤ j → j < Cl.up zs k → Cl.isB zs j = false := by
  intro m
  induction m with
  | zero =>
    intro k hm h0 hk
    rw [Cl.up_end zs k (by omega)]
    exact ⟨hk, Nat.le_refl _, Cl.isB_end zs, fun j h1 h2 => by omega⟩
  | succ m ih =>
    intro k hm h0 hk
    by_cases hj : Cl.jn zs k = true
    · rw [Cl.up_no zs k (by omega) hj]
      obtain ⟨a, b, c, d⟩ := ih (k + 1) (by omega) (by omega) (by omega)
      refine ⟨by omega, b, c, fun j h1 h2 => ?_⟩
      rcases Nat.eq_or_lt_of_le h1 with rfl | h
      · rw [Cl.isB_mid zs k h0 (by omega), hj]; rfl
      · exact d j h h2
    · have hj' : Cl.jn zs k = false := by simpa using hj
      rw [Cl.up_yes zs k (by omega) hj']
      refine ⟨Nat.le_refl _, hk, ?_, fun j h1 h2 => by omega⟩
      rw [Cl.isB_mid zs k h0 (by omega), hj']; rfl

theorem Cl.dn_spec (zs : List Int) (k : Nat) (h : k < zs.length) : Cl.dn zs k ≤ k ∧ Cl.isB zs (Cl.dn zs k) = true ∧ ∀ j, Cl.dn zs k < j → j ≤ k → Cl.isB zs j = false := by
  induction k with
  | zero => exact ⟨Nat.le_refl _, Cl.isB_zero zs, fun j h1 h2 => by simp [Cl.dn] at h1; omega⟩
  | succ k ih =>
    by_cases hj : Cl.jn zs (k + 1) = true
    · rw [Cl.dn_no zs k hj]
      obtain ⟨a, b, c⟩ := ih (by omega)
      refine ⟨by omega, b, fun j h1 h2 => ?_⟩
      rcases Nat.eq_or_lt_of_le h2 with rfl | h'
      · rw [Cl.isB_mid zs _ (by omega) h, hj]; rfl
      · exact c j h1 (by omega)
    · have hj' : Cl.jn zs (k + 1) = false := by simpa using hj
      rw [Cl.dn_yes zs k hj']
      refine ⟨Nat.le_refl _, ?_, fun j h1 h2 => by omega⟩
      rw [Cl.isB_mid zs _ (by omega) h, hj']; rfl

/-- The next boundary, found in the rest alone. -/
theorem Cl.up_drop (zs : List Int) (b : Nat) (hb : Cl.isB zs b = true) (hl : b < zs.length) : b + Cl.up (zs.drop b) 1 = Cl.up zs (b + 1) := by
  have hd : (zs.drop b).length = zs.length - b := List.length_drop ..
  obtain ⟨a1, a2, a3, a4⟩ := Cl.up_spec (zs.drop b) _ 1 rfl (by omega) (by omega)
  obtain ⟨b1, b2, b3, b4⟩ := Cl.up_spec zs _ (b + 1) rfl (by omega) (by omega)
  rw [Cl.isB_drop zs b hb (by omega) _ (by omega)] at a3
  rcases Nat.lt_trichotomy (b + Cl.up (zs.drop b) 1) (Cl.up zs (b + 1)) with h | h | h
  · rw [b4 _ (by omega) h] at a3; cases a3
  · exact h
  · have := a4 (Cl.up zs (b + 1) - b) (by omega) (by omega)
    rw [Cl.isB_drop zs b hb (by omega) _ (by omega), show b + (Cl.up zs (b + 1) - b) = Cl.up zs (b + 1) from by omega, b3] at this
    cases this

/-- The boundaries below k, rising; how many there are from 1 up to k. -/
def Cl.bl (zs : List Int) (k : Nat) : List Nat := (List.range k).filter (Cl.isB zs)
def Cl.bs (zs : List Int) : List Nat := Cl.bl zs (zs.length + 1)
def Cl.cnt (zs : List Int) (k : Nat) : Nat := (Cl.bl zs (k + 1)).length - 1

theorem Cl.bl_succ (zs : List Int) (k : Nat) : Cl.bl zs (k + 1) = Cl.bl zs k ++ (if Cl.isB zs k = true then [k] else []) := by
  unfold Cl.bl
  rw [List.range_succ, List.filter_append]
  congr 1
  simp [List.filter_cons]
theorem Cl.bl_yes (zs : List Int) (k : Nat) (h : Cl.isB zs k = true) : Cl.bl zs (k + 1) = Cl.bl zs k ++ [k] := by rw [Cl.bl_succ, if_pos h]
theorem Cl.bl_no (zs : List Int) (k : Nat) (h : Cl.isB zs k = false) : Cl.bl zs (k + 1) = Cl.bl zs k := by rw [Cl.bl_succ, if_neg (by simp [h]), List.append_nil]
theorem Cl.bl_gap (zs : List Int) (a b : Nat) (hab : a ≤ b) (h : ∀ j, a ≤ j → j < b → Cl.isB zs j = false) : Cl.bl zs b = Cl.bl zs a := by
  induction b with
  | zero => have : a = 0 := by omega
            rw [this]
  | succ b ih =>
    rcases Nat.eq_or_lt_of_le hab with rfl | h'
    · rfl
    · rw [Cl.bl_no zs b (h b (by omega) (by omega)), ih (by omega) (fun j h1 h2 => h j h1 (by omega))]
theorem Cl.bl_one (zs : List Int) : Cl.bl zs 1 = [0] := by rw [Cl.bl_yes zs 0 (Cl.isB_zero zs)]; rfl
/-- One step of Breaks. -/
theorem Cl.bl_up (zs : List Int) (b : Nat) (hl : b < zs.length) : Cl.bl zs (Cl.up zs (b + 1) + 1) = Cl.bl zs (b + 1) ++ [Cl.up zs (b + 1)] := by
  obtain ⟨b1, b2, b3, b4⟩ := Cl.up_spec zs _ (b + 1) rfl (by omega) (by omega)
  rw [Cl.bl_yes zs _ b3, Cl.bl_gap zs (b + 1) _ b1 b4]
theorem Cl.bl_pre (zs : List Int) (a b : Nat) (h : a ≤ b) : ∃ t, Cl.bl zs b = Cl.bl zs a ++ t := by
  induction b with
  | zero => exact ⟨[], by rw [show a = 0 from by omega, List.append_nil]⟩
  | succ b ih =>
    rcases Nat.eq_or_lt_of_le h with rfl | h'
    · exact ⟨[], by rw [List.append_nil]⟩
    · obtain ⟨t, ht⟩ := ih (by omega)
      exact ⟨t ++ (if Cl.isB zs b = true then [b] else []), by rw [Cl.bl_succ, ht, List.append_assoc]⟩
theorem Cl.bl_pos (zs : List Int) (k : Nat) : 1 ≤ (Cl.bl zs (k + 1)).length := by
  obtain ⟨t, ht⟩ := Cl.bl_pre zs 1 (k + 1) (by omega)
  rw [ht, Cl.bl_one]; simp
theorem Cl.bl_len (zs : List Int) (k : Nat) : (Cl.bl zs k).length ≤ k := by
  have := List.length_filter_le (Cl.isB zs) (List.range k)
  rw [List.length_range] at this
  exact this
theorem Cl.cnt_len (zs : List Int) (k : Nat) : (Cl.bl zs (k + 1)).length = Cl.cnt zs k + 1 := by have := Cl.bl_pos zs k; unfold Cl.cnt; omega
theorem Cl.cnt_zero (zs : List Int) : Cl.cnt zs 0 = 0 := by unfold Cl.cnt; rw [Cl.bl_one]; rfl
theorem Cl.cnt_le (zs : List Int) (k : Nat) : Cl.cnt zs k ≤ k := by have := Cl.bl_len zs (k + 1); unfold Cl.cnt; omega
theorem Cl.cnt_up (zs : List Int) (b : Nat) (hl : b < zs.length) : Cl.cnt zs (Cl.up zs (b + 1)) = Cl.cnt zs b + 1 := by
  have h1 := Cl.cnt_len zs b
  have h2 := Cl.cnt_len zs (Cl.up zs (b + 1))
  rw [Cl.bl_up zs b hl] at h2
  simp at h2
  omega
theorem Cl.cnt_mono (zs : List Int) (a b : Nat) (h : a ≤ b) : Cl.cnt zs a ≤ Cl.cnt zs b := by
  obtain ⟨t, ht⟩ := Cl.bl_pre zs (a + 1) (b + 1) (by omega)
  have h1 := Cl.cnt_len zs a
  have h2 := Cl.cnt_len zs b
  rw [ht, List.length_append] at h2
  omega
theorem Cl.cnt_gap (zs : List Int) (a b : Nat) (hab : a ≤ b) (h : ∀ j, a < j → j ≤ b → Cl.isB zs j = false) : Cl.cnt zs b = Cl.cnt zs a := by
  unfold Cl.cnt; rw [Cl.bl_gap zs (a + 1) (b + 1) (by omega) (fun j h1 h2 => h j (by omega) (by omega))]

/-- The boundary with the number cnt k is k. -/
theorem Cl.bs_at (zs : List Int) (k : Nat) (hk : k ≤ zs.length) (h : Cl.isB zs k = true) : (Cl.bs zs)[Cl.cnt zs k]? = some k := by
  obtain ⟨t, ht⟩ := Cl.bl_pre zs (k + 1) (zs.length + 1) (by omega)
  have hl := Cl.cnt_len zs k
  rw [Cl.bl_yes zs k h] at ht hl
  unfold Cl.bs
  rw [ht, List.append_assoc, List.getElem?_append_right (by simp at hl; omega)]
  simp at hl
  rw [show Cl.cnt zs k - (Cl.bl zs k).length = 0 from by omega]
  rfl
theorem Cl.bs_len (zs : List Int) : (Cl.bs zs).length = Cl.cnt zs zs.length + 1 := Cl.cnt_len zs zs.length
/-- Every number of a boundary is one of a boundary. -/
theorem Cl.bs_get (zs : List Int) (i : Nat) (h : i < (Cl.bs zs).length) : ∃ k, k ≤ zs.length ∧ Cl.isB zs k = true ∧ Cl.cnt zs k = i ∧ (Cl.bs zs)[i]? = some k := by
  have hm : (Cl.bs zs)[i] ∈ Cl.bs zs := List.getElem_mem h
  unfold Cl.bs Cl.bl at hm
  rw [List.mem_filter, List.mem_range] at hm
  obtain ⟨h1, h2⟩ := hm
  have h2' : Cl.isB zs (Cl.bs zs)[i] = true := h2
  have h1' : (Cl.bs zs)[i] ≤ zs.length := by have : (Cl.bs zs)[i] < zs.length + 1 := h1; omega
  refine ⟨(Cl.bs zs)[i], h1', h2', ?_, List.getElem?_eq_getElem h⟩
  have e := Cl.bs_at zs _ h1' h2'
  have hn : (Cl.bs zs).Pairwise (· < ·) := List.Pairwise.filter _ List.pairwise_lt_range
  have hc : Cl.cnt zs (Cl.bs zs)[i] < (Cl.bs zs).length := by
    rcases Nat.lt_or_ge (Cl.cnt zs (Cl.bs zs)[i]) (Cl.bs zs).length with h | h
    · exact h
    · rw [List.getElem?_eq_none h] at e; cases e
  rw [List.getElem?_eq_getElem hc] at e
  have e' := Option.some.inj e
  rw [List.pairwise_iff_getElem] at hn
  rcases Nat.lt_trichotomy (Cl.cnt zs (Cl.bs zs)[i]) i with hq | hq | hq
  · have := hn _ _ hc h hq; omega
  · exact hq
  · have := hn _ _ h hc hq; omega
end Go.Proofs.Ytahjjpleceppaaa
