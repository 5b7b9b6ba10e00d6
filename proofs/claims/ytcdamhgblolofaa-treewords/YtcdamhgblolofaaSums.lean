/- Sums of things, pure: what a list adds up to, where a number is reached; runs. -/
namespace Go.Proofs.Ytcdamhgblolofaa

/-- Things of one kind, and what they add up to. -/
structure Alg (α S : Type) where
  zero : S
  add : S → S → S
  meas : α → S
  key : S → Int → Int
  Ok : S → Prop
  okz : Ok zero
  okm : ∀ x, Ok (meas x)
  oka : ∀ a b, Ok a → Ok b → Ok (add a b)
  assoc : ∀ a b c, Ok a → Ok b → Ok c → add (add a b) c = add a (add b c)
  zadd : ∀ a, Ok a → add zero a = a
  addz : ∀ a, Ok a → add a zero = a
  mono : ∀ a b k, Ok a → Ok b → key a k ≤ key (add a b) k
  keyz : ∀ k, key zero k = 0

namespace Alg
variable {α S : Type} (A : Alg α S)
def su (l : List α) : S := l.foldl (fun s x => A.add s (A.meas x)) A.zero
theorem fold_ok (l : List α) : ∀ s, A.Ok s → A.Ok (l.foldl (fun s x => A.add s (A.meas x)) s) := by
  induction l with
  | nil => intro s h; exact h
  | cons x l ih => intro s h; exact ih _ (A.oka _ _ h (A.okm x))
theorem ok (l : List α) : A.Ok (A.su l) := A.fold_ok l _ A.okz
theorem fold_su (l : List α) : ∀ s, A.Ok s → l.foldl (fun s x => A.add s (A.meas x)) s = A.add s (A.su l) := by
  induction l with
  | nil => intro s h; simp [su, A.addz s h]
  | cons x l ih =>
    intro s h
    rw [List.foldl_cons, ih _ (A.oka _ _ h (A.okm x))]
    have e : A.su (x :: l) = A.add (A.meas x) (A.su l) := by
      unfold su
      rw [List.foldl_cons, A.zadd _ (A.okm x)]
      exact ih _ (A.okm x)
    rw [e, A.assoc _ _ _ h (A.okm x) (A.ok l)]
theorem su_nil : A.su [] = A.zero := rfl
theorem su_cons (x : α) (l : List α) : A.su (x :: l) = A.add (A.meas x) (A.su l) := by
  unfold su
  rw [List.foldl_cons, A.zadd _ (A.okm x)]
  exact A.fold_su l _ (A.okm x)
theorem su_app (a b : List α) : A.su (a ++ b) = A.add (A.su a) (A.su b) := by
  rw [su, List.foldl_append]
  exact A.fold_su b _ (A.ok a)
theorem su_snoc (a : List α) (x : α) : A.su (a ++ [x]) = A.add (A.su a) (A.meas x) := by
  rw [su_app, su_cons, su_nil, A.addz _ (A.okm x)]
theorem su_mid (a b : List α) (x : α) : A.su (a ++ x :: b) = A.add (A.add (A.su a) (A.meas x)) (A.su b) := by
  rw [su_app, su_cons, A.assoc _ _ _ (A.ok a) (A.okm x) (A.ok b)]

/-- The least number of things behind the sum s with which the number k reaches n. -/
def fnd (k n : Int) (s : S) : List α → Nat
  | [] => if n ≤ A.key s k then 0 else 1
  | x :: m => if n ≤ A.key s k then 0 else fnd k n (A.add s (A.meas x)) m + 1
theorem fnd_here (k n : Int) (s : S) (l : List α) (h : n ≤ A.key s k) : A.fnd k n s l = 0 := by
  cases l <;> simp [fnd, h]
theorem fnd_left (k n : Int) (R : List α) (L : List α) : ∀ s, A.Ok s → n ≤ A.key (A.add s (A.su L)) k → A.fnd k n s (L ++ R) = A.fnd k n s L := by
  induction L with
  | nil => intro s h1 h; rw [su_nil, A.addz s h1] at h; rw [fnd_here _ _ _ _ _ h, fnd_here _ _ _ _ _ h]
  | cons x L ih =>
    intro s h1 h
    rw [List.cons_append, fnd, fnd]
    by_cases hk : n ≤ A.key s k
    · simp [hk]
    · rw [if_neg hk, if_neg hk, ih _ (A.oka _ _ h1 (A.okm x)) (by rw [A.assoc _ _ _ h1 (A.okm x) (A.ok L), ← su_cons]; exact h)]
theorem fnd_right (k n : Int) (R : List α) (L : List α) : ∀ s, A.Ok s → A.key (A.add s (A.su L)) k < n → A.fnd k n s (L ++ R) = L.length + A.fnd k n (A.add s (A.su L)) R := by
  induction L with
  | nil => intro s h1 h; rw [su_nil, A.addz s h1]; simp
  | cons x L ih =>
    intro s h1 h
    have h2 := A.mono s (A.su (x :: L)) k h1 (A.ok _)
    rw [List.cons_append, fnd, if_neg (by omega)]
    have e : A.add (A.add s (A.meas x)) (A.su L) = A.add s (A.su (x :: L)) := by rw [A.assoc _ _ _ h1 (A.okm x) (A.ok L), ← su_cons]
    rw [ih _ (A.oka _ _ h1 (A.okm x)) (by rw [e]; exact h), e, List.length_cons]
    omega
theorem fnd_le (k n : Int) (l : List α) : ∀ s, A.fnd k n s l ≤ l.length + 1 := by
  induction l with
  | nil => intro s; rw [fnd]; split <;> simp
  | cons x l ih => intro s; rw [fnd]; have := ih (A.add s (A.meas x)); split <;> simp <;> omega
theorem fnd_hit (k n : Int) (l : List α) : ∀ s, A.Ok s → A.fnd k n s l ≤ l.length → n ≤ A.key (A.add s (A.su (l.take (A.fnd k n s l)))) k := by
  induction l with
  | nil =>
    intro s h1 h
    rw [fnd] at h ⊢
    by_cases hk : n ≤ A.key s k
    · rw [if_pos hk]; simp only [List.take_nil]; rw [su_nil, A.addz s h1]; exact hk
    · rw [if_neg hk] at h; simp at h
  | cons x l ih =>
    intro s h1 h
    rw [fnd] at h ⊢
    by_cases hk : n ≤ A.key s k
    · rw [if_pos hk]; simp only [List.take_zero]; rw [su_nil, A.addz s h1]; exact hk
    · rw [if_neg hk] at h ⊢
      rw [List.length_cons] at h
      have := ih _ (A.oka _ _ h1 (A.okm x)) (by omega)
      rw [List.take_succ_cons, su_cons, ← A.assoc _ _ _ h1 (A.okm x) (A.ok _)]
      exact this
theorem fnd_less (k n : Int) (l : List α) : ∀ s i, A.Ok s → i < A.fnd k n s l → A.key (A.add s (A.su (l.take i))) k < n := by
  induction l with
  | nil =>
    intro s i h1 h
    rw [fnd] at h
    by_cases hk : n ≤ A.key s k
    · rw [if_pos hk] at h; omega
    · simp only [List.take_nil]; rw [su_nil, A.addz s h1]; omega
  | cons x l ih =>
    intro s i h1 h
    rw [fnd] at h
    by_cases hk : n ≤ A.key s k
    · rw [if_pos hk] at h; omega
    · rw [if_neg hk] at h
      cases i with
      | zero => simp only [List.take_zero]; rw [su_nil, A.addz s h1]; omega
      | succ i =>
        have := ih _ i (A.oka _ _ h1 (A.okm x)) (by omega)
        rw [List.take_succ_cons, su_cons, ← A.assoc _ _ _ h1 (A.okm x) (A.ok _)]
        exact this
end Alg

/-- What runs add up to: letters, stretches, the first and the last kind. -/
structure Rs where
  l : Int
  s : Int
  f : Int
  z : Int
def Rs.zero : Rs := ⟨0, 0, 0, 0⟩
def Rs.add (a b : Rs) : Rs := if a.s = 0 then b else if b.s = 0 then a else ⟨a.l + b.l, a.s + b.s - (if a.z = b.f then 1 else 0), a.f, b.z⟩
def Rs.meas (r : Int × Int) : Rs := if r.2 ≤ 0 then Rs.zero else ⟨min r.2 1048576, 1, r.1, r.1⟩
def Rs.key (a : Rs) (k : Int) : Int := if k = 0 then a.l else if k = 1 then a.s else 0
def Rs.Ok (a : Rs) : Prop := a = Rs.zero ∨ (1 ≤ a.s ∧ a.s ≤ a.l)
theorem Rs.ok_add {a b : Rs} (ha : a.Ok) (hb : b.Ok) : (a.add b).Ok := by
  unfold Rs.add
  by_cases h1 : a.s = 0
  · rw [if_pos h1]; exact hb
  · rw [if_neg h1]
    by_cases h2 : b.s = 0
    · rw [if_pos h2]; exact ha
    · rw [if_neg h2]
      rcases ha with rfl | ⟨ha, ha'⟩
      · exact absurd rfl h1
      · rcases hb with rfl | ⟨hb, hb'⟩
        · exact absurd rfl h2
        · refine .inr ⟨?_, ?_⟩ <;> simp only <;> split <;> omega
def rA : Alg (Int × Int) Rs where
  zero := Rs.zero
  add := Rs.add
  meas := Rs.meas
  key := Rs.key
  Ok := Rs.Ok
  okz := .inl rfl
  okm := fun x => by
    unfold Rs.meas
    by_cases h : x.2 ≤ 0
    · rw [if_pos h]; exact .inl rfl
    · rw [if_neg h]; refine .inr ⟨Int.le_refl _, ?_⟩; simp only; omega
  oka := fun a b ha hb => Rs.ok_add ha hb
  assoc := fun a b c ha hb hc => by
    rcases ha with rfl | ⟨ha, ha'⟩
    · simp [Rs.add, Rs.zero]
    rcases hb with rfl | ⟨hb, hb'⟩
    · simp [Rs.add, Rs.zero, show a.s ≠ 0 by omega]
    rcases hc with rfl | ⟨hc, hc'⟩
    · have h0 : ((a.add b).add Rs.zero) = a.add b := by
        have := Rs.ok_add (.inr ⟨ha, ha'⟩ : a.Ok) (.inr ⟨hb, hb'⟩ : b.Ok)
        rcases this with h | ⟨h, _⟩
        · rw [h]; rfl
        · simp [Rs.add, Rs.zero]; simp only [Rs.add] at h; intro h'; exfalso; rw [h'] at h; omega
      have h1 : b.add Rs.zero = b := by simp [Rs.add, Rs.zero, show b.s ≠ 0 by omega]
      rw [h0, h1]
    · have e1 : a.add b = ⟨a.l + b.l, a.s + b.s - (if a.z = b.f then 1 else 0), a.f, b.z⟩ := by unfold Rs.add; rw [if_neg (by omega), if_neg (by omega)]
      have e2 : b.add c = ⟨b.l + c.l, b.s + c.s - (if b.z = c.f then 1 else 0), b.f, c.z⟩ := by unfold Rs.add; rw [if_neg (by omega), if_neg (by omega)]
      rw [e1, e2]
      have g1 : a.s + b.s - (if a.z = b.f then 1 else 0) ≠ 0 := by split <;> omega
      have g2 : b.s + c.s - (if b.z = c.f then 1 else 0) ≠ 0 := by split <;> omega
      simp only [Rs.add]
      rw [if_neg g1, if_neg (show ¬ c.s = 0 by omega), if_neg (show ¬ a.s = 0 by omega), if_neg g2]
      simp only [Rs.mk.injEq, and_true]
      exact ⟨by omega, by omega⟩
  zadd := fun a _ => by simp [Rs.add, Rs.zero]
  addz := fun a ha => by
    rcases ha with rfl | ⟨ha, _⟩
    · rfl
    · simp [Rs.add, Rs.zero, show a.s ≠ 0 by omega]
  mono := fun a b k ha hb => by
    rcases ha with rfl | ⟨ha, ha'⟩
    · simp [Rs.add, Rs.zero, Rs.key]
      rcases hb with rfl | ⟨hb, hb'⟩
      · simp [Rs.zero]
      · split <;> omega
    rcases hb with rfl | ⟨hb, hb'⟩
    · simp [Rs.add, Rs.zero, Rs.key, show a.s ≠ 0 by omega]
    · unfold Rs.add
      rw [if_neg (by omega), if_neg (by omega)]
      simp only [Rs.key]
      split
      · omega
      · split
        · split <;> omega
        · omega
  keyz := fun k => by simp [Rs.key, Rs.zero]

/-- How much a list of runs weighs: one for each, and its letters. -/
def wt : List (Int × Int) → Nat
  | [] => 0
  | x :: l => 1 + (Rs.meas x).l.toNat + wt l
theorem wt_nil : wt [] = 0 := rfl
theorem wt_cons (x : Int × Int) (l : List (Int × Int)) : wt (x :: l) = 1 + (Rs.meas x).l.toNat + wt l := rfl
theorem wt_app (a b : List (Int × Int)) : wt (a ++ b) = wt a + wt b := by
  induction a with
  | nil => simp [wt]
  | cons x a ih => rw [List.cons_append, wt_cons, wt_cons, ih]; omega
theorem meas_l (x : Int × Int) : 0 ≤ (Rs.meas x).l ∧ (Rs.meas x).l ≤ 1048576 ∧ 0 ≤ (Rs.meas x).s ∧ (Rs.meas x).s ≤ 1 := by
  unfold Rs.meas
  by_cases h : x.2 ≤ 0
  · rw [if_pos h]; simp [Rs.zero]
  · rw [if_neg h]; simp only; omega
theorem wt_le (l : List (Int × Int)) : wt l ≤ 1048577 * l.length := by
  induction l with
  | nil => simp [wt]
  | cons x l ih => rw [wt_cons, List.length_cons]; have := meas_l x; omega
theorem wt_len (l : List (Int × Int)) : l.length ≤ wt l := by
  induction l with
  | nil => simp
  | cons x l ih => rw [wt_cons, List.length_cons]; omega
/-- How great a sum of runs is. -/
theorem Rs.bound (l : List (Int × Int)) : 0 ≤ (rA.su l).s ∧ (rA.su l).s ≤ (rA.su l).l ∧ (rA.su l).l + l.length ≤ wt l ∧ (rA.su l).s ≤ l.length := by
  induction l with
  | nil => simp [Alg.su, rA, Rs.zero]
  | cons x l ih =>
    rw [Alg.su_cons, wt_cons]
    have hm := meas_l x
    generalize rA.su l = s at ih
    simp only [rA, Rs.add, Rs.meas, List.length_cons] at hm ⊢
    by_cases h : x.2 ≤ 0
    · rw [if_pos h] at hm ⊢; simp [Rs.zero]; omega
    · rw [if_neg h] at hm ⊢
      simp only [Int.one_ne_zero, ↓reduceIte] at hm ⊢
      by_cases hs : s.s = 0
      · rw [if_pos hs]; simp only; omega
      · rw [if_neg hs]; simp only; split <;> omega
theorem Rs.su_ok (l : List (Int × Int)) : (rA.su l).Ok := rA.ok l
end Go.Proofs.Ytcdamhgblolofaa
