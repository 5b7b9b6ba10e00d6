/- Trees, pure: balance and lists. -/
namespace Go.Proofs.Ytcdamhgblolofaa

/-- A tree: nothing, or a thing between two trees. -/
structure Tr (α : Type) where
  kid : Option (Tr α × α × Tr α)

namespace Tr
variable {α : Type}
abbrev nil : Tr α := ⟨none⟩
abbrev node (l : Tr α) (x : α) (r : Tr α) : Tr α := ⟨some (l, x, r)⟩
def list : Tr α → List α
  | ⟨none⟩ => []
  | ⟨some (l, x, r)⟩ => l.list ++ x :: r.list
def ht : Tr α → Nat
  | ⟨none⟩ => 0
  | ⟨some (l, _, r)⟩ => max l.ht r.ht + 1
def Bal : Tr α → Prop
  | ⟨none⟩ => True
  | ⟨some (l, _, r)⟩ => l.Bal ∧ r.Bal ∧ l.ht ≤ r.ht + 1 ∧ r.ht ≤ l.ht + 1
theorem ind {motive : Tr α → Prop} (nil : motive .nil) (node : ∀ l x r, motive l → motive r → motive (.node l x r)) : ∀ t, motive t
  | ⟨none⟩ => nil
  | ⟨some (l, x, r)⟩ => node l x r (ind nil node l) (ind nil node r)

theorem ht_le (t : Tr α) : t.ht ≤ t.list.length := by
  induction t using ind with
  | nil => simp [ht]
  | node l x r hl hr => simp [ht, list]; omega
theorem ht_pos {t : Tr α} (h : 0 < t.ht) : ∃ l x r, t = node l x r := by
  cases t using ind with
  | nil => simp [ht] at h
  | node l x r => exact ⟨l, x, r, rfl⟩
theorem list_nil {t : Tr α} (h : t.list.length = 0) : t = nil := by
  cases t using ind with
  | nil => rfl
  | node l x r => simp [list] at h

theorem bal_size (t : Tr α) (h : t.Bal) : 2 ^ (t.ht / 2) ≤ t.list.length + 1 := by
  suffices H : ∀ n (t : Tr α), t.ht ≤ n → t.Bal → 2 ^ (t.ht / 2) ≤ t.list.length + 1 from H _ t (Nat.le_refl _) h
  intro n
  induction n with
  | zero => intro t ht _; have : t.ht = 0 := by omega
            rw [this]; simp
  | succ n ih =>
    intro t hn hb
    cases t using ind with
    | nil => simp [ht]
    | node l x r =>
      obtain ⟨bl, br, h1, h2⟩ := hb
      simp only [ht] at hn
      have il := ih l (by omega) bl
      have ir := ih r (by omega) br
      simp only [ht, list, List.length_append, List.length_cons]
      by_cases hm : max l.ht r.ht + 1 < 2
      · have : (max l.ht r.ht + 1) / 2 = 0 := by omega
        rw [this]; simp
      · have e : (max l.ht r.ht + 1) / 2 = (max l.ht r.ht - 1) / 2 + 1 := by omega
        rw [e, Nat.pow_succ]
        have gl : 2 ^ ((max l.ht r.ht - 1) / 2) ≤ 2 ^ (l.ht / 2) := Nat.pow_le_pow_right (by omega) (by omega)
        have gr : 2 ^ ((max l.ht r.ht - 1) / 2) ≤ 2 ^ (r.ht / 2) := Nat.pow_le_pow_right (by omega) (by omega)
        omega
end Tr

/-- The digits of a number, in twos. -/
def dig (n : Nat) : Nat := if n = 0 then 0 else Nat.log2 n + 1
theorem dig_zero : dig 0 = 0 := rfl
theorem dig_pos {n : Nat} (h : 0 < n) : dig n = dig (n / 2) + 1 := by
  unfold dig
  rw [if_neg (by omega), Nat.log2_def]
  by_cases h2 : 2 ≤ n
  · rw [if_pos h2, if_neg (by omega)]
  · rw [if_neg h2, if_pos (by omega)]
theorem dig_lt (n : Nat) : n < 2 ^ dig n := by
  induction n using Nat.strongRecOn with
  | _ n ih =>
    by_cases h : n = 0
    · subst h; simp [dig_zero]
    · rw [dig_pos (by omega), Nat.pow_succ]
      have := ih (n / 2) (by omega)
      omega
theorem dig_mono {a b : Nat} (h : a ≤ b) : dig a ≤ dig b := by
  induction b using Nat.strongRecOn generalizing a with
  | _ b ih =>
    by_cases ha : a = 0
    · subst ha; simp [dig_zero]
    · rw [dig_pos (by omega), dig_pos (n := b) (by omega)]
      have := ih (b / 2) (by omega) (a := a / 2) (by omega)
      omega
theorem dig_step (n : Nat) : dig (n + 1) ≤ dig n + 1 := by
  induction n using Nat.strongRecOn with
  | _ n ih =>
    by_cases h : n = 0
    · subst h; rw [dig_pos (by omega)]; simp [dig_zero]
    · rw [dig_pos (by omega), dig_pos (n := n) (by omega)]
      by_cases he : (n + 1) / 2 = n / 2
      · rw [he]; omega
      · have : (n + 1) / 2 = n / 2 + 1 := by omega
        rw [this]
        have := ih (n / 2) (by omega)
        omega
theorem Tr.bal_ht {α : Type} (t : Tr α) (h : t.Bal) : t.ht ≤ 3 * dig t.list.length := by
  by_cases h0 : t.list.length = 0
  · rw [Tr.list_nil h0]; simp [Tr.ht]
  · have h1 := t.bal_size h
    have h2 := dig_lt t.list.length
    have h3 : 2 ^ (t.ht / 2) ≤ 2 ^ dig t.list.length := by omega
    have h4 : t.ht / 2 ≤ dig t.list.length := (Nat.pow_le_pow_iff_right (by omega)).1 h3
    have h5 := dig_pos (n := t.list.length) (by omega)
    omega

/-- What a subtree that was mended from sides may be. -/
structure Made {α : Type} (t : Tr α) (l : Tr α) (x : α) (r : Tr α) : Prop where
  list : t.list = l.list ++ x :: r.list
  bal : l.Bal → r.Bal → l.ht ≤ r.ht + 2 → r.ht ≤ l.ht + 2 → t.Bal ∧ max l.ht r.ht ≤ t.ht ∧ t.ht ≤ max l.ht r.ht + 1 ∧ (l.ht ≤ r.ht + 1 → r.ht ≤ l.ht + 1 → t.ht = max l.ht r.ht + 1)

theorem Made.branch {α : Type} {l r : Tr α} {x : α} (h1 : l.ht ≤ r.ht + 1) (h2 : r.ht ≤ l.ht + 1) : Made (.node l x r) l x r :=
  ⟨rfl, fun hl hr _ _ => ⟨⟨hl, hr, h1, h2⟩, by simp [Tr.ht]⟩⟩
theorem Made.right1 {α : Type} {ll lr r : Tr α} {y x : α} (h : r.ht + 1 < (Tr.node ll y lr).ht) (h1 : lr.ht ≤ ll.ht) : Made (.node ll y (.node lr x r)) (.node ll y lr) x r := by
  refine ⟨by simp [Tr.list], fun ⟨bl, br, e1, e2⟩ hr h3 h4 => ?_⟩
  simp only [Tr.ht, Tr.Bal] at *
  refine ⟨⟨bl, ⟨br, hr, ?_, ?_⟩, ?_, ?_⟩, ?_, ?_, ?_⟩ <;> omega
theorem Made.right2 {α : Type} {ll a b r : Tr α} {y z x : α} (h : r.ht + 1 < (Tr.node ll y (.node a z b)).ht) (h1 : ll.ht < (Tr.node a z b).ht) : Made (.node (.node ll y a) z (.node b x r)) (.node ll y (.node a z b)) x r := by
  refine ⟨by simp [Tr.list], fun ⟨bl, ⟨ba, bb, f1, f2⟩, e1, e2⟩ hr h3 h4 => ?_⟩
  simp only [Tr.ht, Tr.Bal] at *
  refine ⟨⟨⟨bl, ba, ?_, ?_⟩, ⟨bb, hr, ?_, ?_⟩, ?_, ?_⟩, ?_, ?_, ?_⟩ <;> omega
theorem Made.left1 {α : Type} {l rl rr : Tr α} {y x : α} (h : l.ht + 1 < (Tr.node rl y rr).ht) (h1 : rl.ht ≤ rr.ht) : Made (.node (.node l x rl) y rr) l x (.node rl y rr) := by
  refine ⟨by simp [Tr.list], fun hl ⟨bl, br, e1, e2⟩ h3 h4 => ?_⟩
  simp only [Tr.ht, Tr.Bal] at *
  refine ⟨⟨⟨hl, bl, ?_, ?_⟩, br, ?_, ?_⟩, ?_, ?_, ?_⟩ <;> omega
theorem Made.left2 {α : Type} {l a b rr : Tr α} {y z x : α} (h : l.ht + 1 < (Tr.node (.node a z b) y rr).ht) (h1 : rr.ht < (Tr.node a z b).ht) : Made (.node (.node l x a) z (.node b y rr)) l x (.node (.node a z b) y rr) := by
  refine ⟨by simp [Tr.list], fun hl ⟨⟨ba, bb, f1, f2⟩, br, e1, e2⟩ h3 h4 => ?_⟩
  simp only [Tr.ht, Tr.Bal] at *
  refine ⟨⟨⟨hl, ba, ?_, ?_⟩, ⟨bb, br, ?_, ?_⟩, ?_, ?_⟩, ?_, ?_, ?_⟩ <;> omega

/-- What join makes. -/
structure Joined {α : Type} (t : Tr α) (l : Tr α) (x : α) (r : Tr α) : Prop where
  list : t.list = l.list ++ x :: r.list
  bal : l.Bal → r.Bal → t.Bal ∧ max l.ht r.ht ≤ t.ht ∧ t.ht ≤ max l.ht r.ht + 1

theorem Joined.branch {α : Type} {l r : Tr α} {x : α} (h1 : l.ht ≤ r.ht + 1) (h2 : r.ht ≤ l.ht + 1) : Joined (.node l x r) l x r :=
  ⟨rfl, fun hl hr => ⟨⟨hl, hr, h1, h2⟩, by simp [Tr.ht]⟩⟩
theorem Joined.downL {α : Type} {ll lr r j t : Tr α} {y x : α} (h : r.ht + 1 < (Tr.node ll y lr).ht) (hj : Joined j lr x r) (ht : Made t ll y j) : Joined t (.node ll y lr) x r := by
  refine ⟨by rw [ht.list, hj.list]; simp [Tr.list], fun ⟨bl, br, e1, e2⟩ hr => ?_⟩
  obtain ⟨bj, j1, j2⟩ := hj.bal br hr
  simp only [Tr.ht] at h
  obtain ⟨bt, t1, t2, t3⟩ := ht.bal bl bj (by omega) (by omega)
  simp only [Tr.ht]
  refine ⟨bt, ?_, ?_⟩
  · by_cases hh : j.ht ≤ ll.ht + 1 ∧ ll.ht ≤ j.ht + 1
    · have := t3 hh.2 hh.1; omega
    · omega
  · omega
theorem Joined.downR {α : Type} {l rl rr j t : Tr α} {y x : α} (h : l.ht + 1 < (Tr.node rl y rr).ht) (hj : Joined j l x rl) (ht : Made t j y rr) : Joined t l x (.node rl y rr) := by
  refine ⟨by rw [ht.list, hj.list]; simp [Tr.list], fun hl ⟨bl, br, e1, e2⟩ => ?_⟩
  obtain ⟨bj, j1, j2⟩ := hj.bal hl bl
  simp only [Tr.ht] at h
  obtain ⟨bt, t1, t2, t3⟩ := ht.bal bj br (by omega) (by omega)
  simp only [Tr.ht]
  refine ⟨bt, ?_, ?_⟩
  · by_cases hh : j.ht ≤ rr.ht + 1 ∧ rr.ht ≤ j.ht + 1
    · have := t3 hh.1 hh.2; omega
    · omega
  · omega

/-- What first leaves. -/
structure Rest {α : Type} (t : Tr α) (x : α) (n : Tr α) : Prop where
  list : n.list = x :: t.list
  bal : n.Bal → t.Bal ∧ t.ht ≤ n.ht ∧ n.ht ≤ t.ht + 1
theorem Rest.here {α : Type} {r : Tr α} {x : α} : Rest r x (.node .nil x r) :=
  ⟨rfl, fun ⟨_, br, e1, e2⟩ => by simp only [Tr.ht] at *; exact ⟨br, by omega, by omega⟩⟩
theorem Rest.down {α : Type} {l r j t : Tr α} {y x : α} (hj : Rest j x l) (ht : Made t j y r) : Rest t x (.node l y r) := by
  refine ⟨by rw [ht.list, Tr.list, hj.list]; simp, fun ⟨bl, br, e1, e2⟩ => ?_⟩
  obtain ⟨bj, j1, j2⟩ := hj.bal bl
  obtain ⟨bt, t1, t2, t3⟩ := ht.bal bj br (by omega) (by omega)
  simp only [Tr.ht]
  refine ⟨bt, ?_, ?_⟩
  · by_cases hh : j.ht ≤ r.ht + 1 ∧ r.ht ≤ j.ht + 1
    · have := t3 hh.1 hh.2; omega
    · omega
  · by_cases hh : j.ht ≤ r.ht + 1 ∧ r.ht ≤ j.ht + 1
    · have := t3 hh.1 hh.2; omega
    · omega
end Go.Proofs.Ytcdamhgblolofaa
