import Derived.Test.YtfdceljdhgbkcaaGreatDoorJ04
/- The document's tables of keys, its Reads and its Spell, pure. -/
namespace Go.Proofs.YtfdceljdhgbkcaaGreatDoor

/-- A row of the document's: keys, verb, move, argument; asks: one key more is the argument. -/
structure DRw where
  ks : List Int
  v : Int
  m : Int
  a : Int
  asks : Bool
def dMot : List DRw := [⟨[104], 1, 1, 0, false⟩, ⟨[8], 1, 1, 0, false⟩, ⟨[108], 1, 2, 0, false⟩, ⟨[32], 1, 2, 0, false⟩, ⟨[48], 1, 3, 0, false⟩, ⟨[94], 1, 4, 0, false⟩, ⟨[36], 1, 5, 0, false⟩, ⟨[124], 1, 6, 0, false⟩, ⟨[106], 1, 11, 0, false⟩, ⟨[107], 1, 12, 0, false⟩, ⟨[43], 1, 13, 0, false⟩, ⟨[13], 1, 13, 0, false⟩, ⟨[45], 1, 14, 0, false⟩, ⟨[95], 1, 15, 0, false⟩, ⟨[71], 1, 16, 0, false⟩, ⟨[103, 103], 1, 17, 0, false⟩, ⟨[119], 1, 21, 0, false⟩, ⟨[98], 1, 22, 0, false⟩, ⟨[101], 1, 23, 0, false⟩, ⟨[103, 101], 1, 24, 0, false⟩, ⟨[87], 1, 25, 0, false⟩, ⟨[66], 1, 26, 0, false⟩, ⟨[69], 1, 27, 0, false⟩, ⟨[103, 69], 1, 28, 0, false⟩, ⟨[125], 1, 31, 0, false⟩, ⟨[123], 1, 32, 0, false⟩, ⟨[59], 1, 41, 0, false⟩, ⟨[44], 1, 42, 0, false⟩, ⟨[47], 1, 43, 0, false⟩, ⟨[63], 1, 44, 0, false⟩, ⟨[110], 1, 45, 0, false⟩, ⟨[78], 1, 46, 0, false⟩, ⟨[42], 1, 47, 0, false⟩, ⟨[35], 1, 48, 0, false⟩, ⟨[72], 1, 51, 0, false⟩, ⟨[77], 1, 52, 0, false⟩, ⟨[76], 1, 53, 0, false⟩, ⟨[37], 1, 33, 0, false⟩] ++ [⟨[102], 1, 7, 0, true⟩, ⟨[70], 1, 8, 0, true⟩, ⟨[116], 1, 9, 0, true⟩, ⟨[84], 1, 10, 0, true⟩, ⟨[96], 1, 49, 0, true⟩, ⟨[39], 1, 50, 0, true⟩]
def dObj : List DRw := [⟨[105, 119], 1, 61, 0, false⟩, ⟨[97, 119], 1, 62, 0, false⟩, ⟨[105, 87], 1, 63, 0, false⟩, ⟨[97, 87], 1, 64, 0, false⟩, ⟨[105, 112], 1, 69, 0, false⟩, ⟨[97, 112], 1, 70, 0, false⟩, ⟨[105, 34], 1, 65, 34, false⟩, ⟨[97, 34], 1, 66, 34, false⟩, ⟨[105, 39], 1, 65, 39, false⟩, ⟨[97, 39], 1, 66, 39, false⟩, ⟨[105, 96], 1, 65, 96, false⟩, ⟨[97, 96], 1, 66, 96, false⟩, ⟨[105, 40], 1, 67, 40, false⟩, ⟨[97, 40], 1, 68, 40, false⟩, ⟨[105, 41], 1, 67, 40, false⟩, ⟨[97, 41], 1, 68, 40, false⟩, ⟨[105, 98], 1, 67, 40, false⟩, ⟨[97, 98], 1, 68, 40, false⟩, ⟨[105, 91], 1, 67, 91, false⟩, ⟨[97, 91], 1, 68, 91, false⟩, ⟨[105, 93], 1, 67, 91, false⟩, ⟨[97, 93], 1, 68, 91, false⟩, ⟨[105, 123], 1, 67, 123, false⟩, ⟨[97, 123], 1, 68, 123, false⟩, ⟨[105, 125], 1, 67, 123, false⟩, ⟨[97, 125], 1, 68, 123, false⟩, ⟨[105, 66], 1, 67, 123, false⟩, ⟨[97, 66], 1, 68, 123, false⟩, ⟨[105, 60], 1, 67, 60, false⟩, ⟨[97, 60], 1, 68, 60, false⟩, ⟨[105, 62], 1, 67, 60, false⟩, ⟨[97, 62], 1, 68, 60, false⟩]
def dEvr : List DRw := [⟨[112], 18, 0, 0, false⟩, ⟨[80], 19, 0, 0, false⟩, ⟨[74], 20, 0, 0, false⟩, ⟨[103, 74], 21, 0, 0, false⟩, ⟨[118], 26, 0, 0, false⟩, ⟨[86], 27, 0, 0, false⟩, ⟨[58], 31, 0, 0, false⟩, ⟨[122, 116], 38, 0, 0, false⟩, ⟨[122, 122], 39, 0, 0, false⟩, ⟨[122, 98], 40, 0, 0, false⟩, ⟨[6], 32, 0, 0, false⟩, ⟨[2], 33, 0, 0, false⟩, ⟨[4], 34, 0, 0, false⟩, ⟨[21], 35, 0, 0, false⟩, ⟨[5], 36, 0, 0, false⟩, ⟨[25], 37, 0, 0, false⟩] ++ [⟨[114], 16, 0, 0, true⟩, ⟨[113], 28, 0, 0, true⟩, ⟨[64], 29, 0, 0, true⟩, ⟨[109], 30, 0, 0, true⟩]
def dNor : List DRw := dEvr ++ [⟨[120], 2, 2, 0, false⟩, ⟨[88], 2, 1, 0, false⟩, ⟨[68], 2, 5, 0, false⟩, ⟨[115], 3, 2, 0, false⟩, ⟨[83], 3, 60, 0, false⟩, ⟨[67], 3, 5, 0, false⟩, ⟨[89], 4, 60, 0, false⟩, ⟨[105], 10, 0, 0, false⟩, ⟨[97], 11, 0, 0, false⟩, ⟨[73], 12, 0, 0, false⟩, ⟨[65], 13, 0, 0, false⟩, ⟨[111], 14, 0, 0, false⟩, ⟨[79], 15, 0, 0, false⟩, ⟨[82], 17, 0, 0, false⟩, ⟨[126], 22, 0, 0, false⟩, ⟨[117], 23, 0, 0, false⟩, ⟨[18], 24, 0, 0, false⟩, ⟨[46], 25, 0, 0, false⟩, ⟨[38], 43, 0, 0, false⟩, ⟨[103, 118], 44, 0, 0, false⟩, ⟨[90, 90], 41, 0, 0, false⟩, ⟨[90, 81], 42, 0, 0, false⟩]
def dSel : List DRw := dEvr ++ [⟨[100], 2, 0, 0, false⟩, ⟨[120], 2, 0, 0, false⟩, ⟨[99], 3, 0, 0, false⟩, ⟨[115], 3, 0, 0, false⟩, ⟨[121], 4, 0, 0, false⟩, ⟨[62], 8, 0, 0, false⟩, ⟨[60], 9, 0, 0, false⟩, ⟨[85], 5, 0, 0, false⟩, ⟨[103, 85], 5, 0, 0, false⟩, ⟨[117], 6, 0, 0, false⟩, ⟨[103, 117], 6, 0, 0, false⟩, ⟨[126], 7, 0, 0, false⟩, ⟨[103, 126], 7, 0, 0, false⟩, ⟨[111], 45, 0, 0, false⟩]
def dOps : List DRw := [⟨[100], 2, 0, 0, false⟩, ⟨[99], 3, 0, 0, false⟩, ⟨[121], 4, 0, 0, false⟩, ⟨[62], 8, 0, 0, false⟩, ⟨[60], 9, 0, 0, false⟩, ⟨[103, 85], 5, 0, 0, false⟩, ⟨[103, 117], 6, 0, 0, false⟩, ⟨[103, 126], 7, 0, 0, false⟩]
/-- What may stand behind an operator. -/
def dTls (o : DRw) : List DRw := ((dMot ++ dObj) ++ ([⟨o.ks.drop (o.ks.length - 1), 0, 60, 0, false⟩] : List DRw) ++ (if 1 < o.ks.length then ([⟨o.ks, 0, 60, 0, false⟩] : List DRw) else [])).map fun (r : DRw) => { r with v := o.v }
/-- The rows of a kind of mode, and its operators. -/
def dRws (sl : Bool) : List DRw := if sl = true then (dMot ++ dObj) ++ dSel else dMot ++ dNor
def dOpl (sl : Bool) : List DRw := if sl = true then [] else dOps
def dDig (k : Int) : Bool := decide (48 ≤ k) && decide (k ≤ 57)
def dTms (count n : Int) : Int := if count = 0 then n else min 9999 (count * n)
/-- A number from the front on. -/
def dNum : Int → List Int → Int × List Int
  | n, [] => (n, [])
  | n, k :: r => if dDig k = true then dNum (min 9999 (10 * n + k - 48)) r else (n, k :: r)
/-- Prefixes: register, count; are they all; is the last key the quote that wants a name? -/
def dPre : Nat → Int → Int → List Int → Int × Int × Bool × Bool
  | 0, reg, count, _ => (reg, count, true, false)
  | _ + 1, reg, count, [] => (reg, count, true, false)
  | f + 1, reg, count, k :: r =>
    if k = 34 then match r with
      | [] => (reg, count, false, true)
      | x :: r' => if x = 0 then (reg, count, false, false) else dPre f x count r'
    else if dDig k = false ∨ k = 48 then (reg, count, false, false)
    else dPre f reg (dTms count (dNum 0 (k :: r)).1) (dNum 0 (k :: r)).2
def dPrf (l : List Int) : Int × Int × Bool × Bool := dPre l.length 0 0 l
/-- Keys and a row: 1 done (with its argument), 0 more, 2 bad. -/
def dMts (r : DRw) (l : List Int) : Int × Int :=
  if r.ks.isPrefixOf l = true ∧ l.length = r.ks.length + (if r.asks = true then 1 else 0) then (1, if r.asks = true then l.getLastD 0 else r.a)
  else if (r.ks.isPrefixOf l = true ∧ l.length < r.ks.length + (if r.asks = true then 1 else 0)) ∨ (l.isPrefixOf r.ks = true ∧ l.length < r.ks.length) then (0, 0) else (2, 0)
def dCmd (r : DRw) (reg count arg : Int) : Cm := ⟨reg, count, r.v, if r.m = 33 ∧ count > 0 then 18 else r.m, arg⟩
/-- Keys against rows; s: what is said if none is met. -/
def dAmg (reg count : Int) (l : List Int) : Int → List DRw → Cm × Int
  | s, [] => (⟨0, 0, 0, 0, 0⟩, s)
  | s, r :: rs => if (dMts r l).1 = 1 then (dCmd r reg count (dMts r l).2, 1) else dAmg reg count l (if (dMts r l).1 = 0 then 0 else s) rs
/-- A number behind an operator: how many digits, and what it is. -/
def dBeh (l : List Int) : Int × List Int := if l.headD 0 = 48 then (0, l) else dNum 0 l
def dOpr (reg count : Int) (l : List Int) : Int → List DRw → Cm × Int
  | s, [] => (⟨0, 0, 0, 0, 0⟩, s)
  | s, o :: os =>
    if o.ks.isPrefixOf l = true then
      let b := dBeh (l.drop o.ks.length)
      let x := dAmg reg (if b.2.length < (l.drop o.ks.length).length then dTms count b.1 else count) b.2 2 (dTls o)
      if x.2 = 1 then x else dOpr reg count l (if x.2 = 0 then 0 else s) os
    else dOpr reg count l (if l.isPrefixOf o.ks = true then 0 else s) os
def dRow (sl : Bool) (l : List Int) (reg count : Int) : Cm × Int :=
  let x := dAmg reg count l 2 (dRws sl)
  if x.2 = 1 then x else dOpr reg count l x.2 (dOpl sl)
def dEnd (l : List Int) : Bool := dDig (l.getLastD 0) && (dPrf l.dropLast).2.2.1
/-- Reads, from the i-th place on. -/
def dRdi (sl : Bool) (l : List Int) : Int → List Nat → Cm × Int
  | s, [] => (⟨0, 0, 0, 0, 0⟩, s)
  | s, i :: is =>
    if (dPrf (l.take i)).2.2.1 = false ∨ (0 < i ∧ dDig (l[i]?.getD 0) = true ∧ dEnd (l.take i) = true) then dRdi sl l s is
    else
      let x := dRow sl (l.drop i) (dPrf (l.take i)).1 (dPrf (l.take i)).2.1
      if x.2 = 1 then x else dRdi sl l (if x.2 = 0 then 0 else s) is
def dRds (sl : Bool) (l : List Int) : Cm × Int :=
  dRdi sl l (if ((dPrf l).2.2.1 || (dPrf l).2.2.2) = true then 0 else 2) (List.range l.length)
set_option maxRecDepth 100000 in
/-- No row and no operator begins with a quote or with a digit from 1 on. -/
theorem dHeads : ∀ r ∈ dRws true ++ dRws false ++ dOps, r.ks ≠ [] ∧ r.ks.headD 34 ≠ 34 ∧ ¬ (49 ≤ r.ks.headD 34 ∧ r.ks.headD 34 ≤ 57) := by decide
theorem pre_head {a b : List Int} (ha : a ≠ []) (h : a.isPrefixOf b = true) : b.headD 34 = a.headD 34 := by
  cases a with
  | nil => exact absurd rfl ha
  | cons x t => cases b with
    | nil => simp [List.isPrefixOf] at h
    | cons y s =>
      simp only [List.isPrefixOf, Bool.and_eq_true, beq_iff_eq] at h
      simp [h.1]
theorem not_pre {a b : List Int} (ha : a ≠ []) (h : a.headD 34 ≠ b.headD 34) : a.isPrefixOf b = false := by
  cases hp : a.isPrefixOf b with
  | false => rfl
  | true => exact absurd (pre_head ha hp).symm h
theorem dMts_bad {r : DRw} {l : List Int} (hr : r.ks ≠ []) (hl : l ≠ []) (h : r.ks.headD 34 ≠ l.headD 34) : dMts r l = (2, 0) := by
  unfold dMts
  rw [not_pre hr h, not_pre hl (fun e => h e.symm), if_neg (by simp), if_neg (by simp)]
theorem dAmg_bad {reg count : Int} {l : List Int} : ∀ (rs : List DRw) (s : Int), (∀ r ∈ rs, dMts r l = (2, 0)) → dAmg reg count l s rs = (⟨0, 0, 0, 0, 0⟩, s)
  | [], _, _ => rfl
  | r :: rs, s, h => by
    have h1 := h r (by simp)
    rw [dAmg, h1]
    simp only
    rw [if_neg (by decide), if_neg (by decide)]
    exact dAmg_bad rs s (fun x hx => h x (by simp [hx]))
theorem dOpr_bad {reg count : Int} {l : List Int} : ∀ (os : List DRw) (s : Int), (∀ o ∈ os, o.ks.isPrefixOf l = false ∧ l.isPrefixOf o.ks = false) → dOpr reg count l s os = (⟨0, 0, 0, 0, 0⟩, s)
  | [], _, _ => rfl
  | o :: os, s, h => by
    obtain ⟨h1, h2⟩ := h o (by simp)
    rw [dOpr, h1, h2, if_neg (by decide), if_neg (by decide)]
    exact dOpr_bad os s (fun x hx => h x (by simp [hx]))
/-- Keys that begin with a quote or with a digit from 1 on are no row. -/
theorem dRow_bad {sl : Bool} {l : List Int} {reg count : Int} (hl : l ≠ []) (h : l.headD 34 = 34 ∨ (49 ≤ l.headD 34 ∧ l.headD 34 ≤ 57)) : dRow sl l reg count = (⟨0, 0, 0, 0, 0⟩, 2) := by
  have hh : ∀ r, r ∈ dRws sl ∨ r ∈ dOpl sl → r.ks ≠ [] ∧ r.ks.headD 34 ≠ l.headD 34 := fun r hr => by
    have : r ∈ dRws true ++ dRws false ++ dOps := by
      rcases hr with hr | hr
      · cases sl <;> simp [hr]
      · cases sl
        · have : r ∈ dOps := hr
          simp [this]
        · cases hr
    obtain ⟨h1, h2, h3⟩ := dHeads r this
    refine ⟨h1, fun e => ?_⟩
    rw [e] at h2 h3
    rcases h with h | h
    · exact h2 h
    · exact h3 h
  unfold dRow
  simp only [dAmg_bad (dRws sl) 2 (fun r hr => dMts_bad (hh r (.inl hr)).1 hl (hh r (.inl hr)).2)]
  rw [if_neg (by decide)]
  exact dOpr_bad _ _ (fun o ho => ⟨not_pre (hh o (.inr ho)).1 (hh o (.inr ho)).2, not_pre hl (fun e => (hh o (.inr ho)).2 e.symm)⟩)
/-- Prefixes taken from the front, as many as there are: the register, the count, what is left. -/
def dSkp : Nat → Int → Int → List Int → Int × Int × List Int
  | 0, reg, count, l => (reg, count, l)
  | _ + 1, reg, count, [] => (reg, count, [])
  | f + 1, reg, count, k :: r =>
    if k = 34 then match r with
      | [] => (reg, count, [34])
      | x :: r' => if x = 0 then (reg, count, 34 :: x :: r') else dSkp f x count r'
    else if dDig k = false ∨ k = 48 then (reg, count, k :: r)
    else dSkp f reg (dTms count (dNum 0 (k :: r)).1) (dNum 0 (k :: r)).2
/-- What Reads says, by what is left behind the prefixes (to be shown: it is dRds). -/
def dRdd (sl : Bool) (l : List Int) : Cm × Int :=
  let x := dSkp l.length 0 0 l
  if x.2.2 = [] ∨ x.2.2 = [34] then (⟨0, 0, 0, 0, 0⟩, 0) else dRow sl x.2.2 x.1 x.2.1
theorem dNum_len : ∀ (l : List Int) (n : Int), (dNum n l).2.length ≤ l.length
  | [], n => by simp [dNum]
  | k :: r, n => by
    rw [dNum]
    split
    · have := dNum_len r (min 9999 (10 * n + k - 48))
      simp only [List.length_cons]
      omega
    · simp
/-- A number and what is behind it: its digits. -/
theorem dNum_split : ∀ (l : List Int) (n : Int), ∃ ds, l = ds ++ (dNum n l).2 ∧ (∀ x ∈ ds, dDig x = true) ∧ ((dNum n l).2 = [] ∨ ∃ y t, (dNum n l).2 = y :: t ∧ dDig y = false) ∧ ∀ z, (z = [] ∨ ∃ y t, z = y :: t ∧ dDig y = false) → dNum n (ds ++ z) = ((dNum n l).1, z)
  | [], n => ⟨[], by simp [dNum], by simp, .inl (by simp [dNum]), fun z hz => by
      rcases hz with rfl | ⟨y, t, rfl, hy⟩
      · simp [dNum]
      · simp [dNum, hy]⟩
  | k :: r, n => by
    cases hk : dDig k with
    | true =>
      obtain ⟨ds, h1, h2, h3, h4⟩ := dNum_split r (min 9999 (10 * n + k - 48))
      have e : dNum n (k :: r) = dNum (min 9999 (10 * n + k - 48)) r := by rw [dNum, if_pos hk]
      rw [e]
      refine ⟨k :: ds, by rw [List.cons_append, ← h1], ?_, h3, fun z hz => ?_⟩
      · intro x hx
        rcases List.mem_cons.1 hx with rfl | hx
        · exact hk
        · exact h2 x hx
      · rw [List.cons_append, dNum, if_pos hk, h4 z hz]
    | false =>
      have e : dNum n (k :: r) = (n, k :: r) := by rw [dNum, if_neg (by simp [hk])]
      rw [e]
      refine ⟨[], rfl, by simp, .inr ⟨k, r, rfl, hk⟩, fun z hz => ?_⟩
      rcases hz with rfl | ⟨y, t, rfl, hy⟩
      · simp [dNum]
      · simp [dNum, hy]
theorem dPre_more : ∀ (f g : Nat) (reg count : Int) (l : List Int), l.length ≤ f → l.length ≤ g → dPre f reg count l = dPre g reg count l
  | 0, g, reg, count, l, hf, _ => by
    have : l = [] := List.length_eq_zero_iff.1 (by omega)
    subst this
    cases g <;> simp [dPre]
  | f + 1, 0, reg, count, l, _, hg => by
    have : l = [] := List.length_eq_zero_iff.1 (by omega)
    subst this
    simp [dPre]
  | f + 1, g + 1, reg, count, [], _, _ => by simp [dPre]
  | f + 1, g + 1, reg, count, k :: r, hf, hg => by
    simp only [List.length_cons] at hf hg
    by_cases h34 : k = 34
    · subst h34
      cases r with
      | nil => simp [dPre]
      | cons x r' =>
        simp only [List.length_cons] at hf hg
        by_cases hx : x = 0
        · simp [dPre, hx]
        · simp only [dPre, if_pos, if_neg hx]
          exact dPre_more f g x count r' (by omega) (by omega)
    by_cases hd : dDig k = false ∨ k = 48
    · simp only [dPre, if_neg h34, if_pos hd]
    · have hk : dDig k = true := by
        cases h : dDig k with
        | true => rfl
        | false => exact absurd (.inl h) hd
      have hl : (dNum 0 (k :: r)).2.length ≤ r.length := by
        rw [dNum, if_pos hk]
        exact dNum_len r _
      simp only [dPre, if_neg h34, if_neg hd]
      exact dPre_more f g reg _ _ (by omega) (by omega)
/-- The prefixes' reading, without the fuel. -/
def dP (reg count : Int) (l : List Int) : Int × Int × Bool × Bool := dPre l.length reg count l
theorem dP_nil (reg count : Int) : dP reg count [] = (reg, count, true, false) := by simp [dP, dPre]
theorem dP_open (reg count : Int) : dP reg count [34] = (reg, count, false, true) := by simp [dP, dPre]
theorem dP_zero (reg count : Int) (r : List Int) : dP reg count (34 :: 0 :: r) = (reg, count, false, false) := by simp [dP, dPre]
theorem dP_name (reg count x : Int) (r : List Int) (hx : x ≠ 0) : dP reg count (34 :: x :: r) = dP x count r := by
  unfold dP
  simp only [List.length_cons, dPre, if_pos, if_neg hx]
  exact dPre_more _ _ _ _ _ (by omega) (Nat.le_refl _)
theorem dP_else (reg count k : Int) (r : List Int) (h34 : k ≠ 34) (hd : dDig k = false ∨ k = 48) : dP reg count (k :: r) = (reg, count, false, false) := by
  unfold dP
  simp only [List.length_cons, dPre, if_neg h34, if_pos hd]
theorem dP_num (reg count k : Int) (r : List Int) (h34 : k ≠ 34) (hd : ¬ (dDig k = false ∨ k = 48)) : dP reg count (k :: r) = dP reg (dTms count (dNum 0 (k :: r)).1) (dNum 0 (k :: r)).2 := by
  have hk : dDig k = true := by
    cases h : dDig k with
    | true => rfl
    | false => exact absurd (.inl h) hd
  have hl : (dNum 0 (k :: r)).2.length ≤ r.length := by
    rw [dNum, if_pos hk]
    exact dNum_len r _
  unfold dP
  simp only [List.length_cons, dPre, if_neg h34, if_neg hd]
  exact dPre_more _ _ _ _ _ hl (Nat.le_refl _)
theorem dP_prf (l : List Int) : dPrf l = dP 0 0 l := rfl
/-- A place at which nothing is said. -/
def dNoe (sl : Bool) (l : List Int) (i : Nat) : Prop :=
  ((dPrf (l.take i)).2.2.1 = false ∨ (0 < i ∧ dDig (l[i]?.getD 0) = true ∧ dEnd (l.take i) = true)) ∨ dRow sl (l.drop i) (dPrf (l.take i)).1 (dPrf (l.take i)).2.1 = (⟨0, 0, 0, 0, 0⟩, 2)
theorem dRdi_no {sl : Bool} {l : List Int} : ∀ (is : List Nat) (s : Int), (∀ i ∈ is, dNoe sl l i) → dRdi sl l s is = (⟨0, 0, 0, 0, 0⟩, s)
  | [], _, _ => rfl
  | i :: is, s, h => by
    have ih := fun s => dRdi_no (l := l) (sl := sl) is s (fun x hx => h x (by simp [hx]))
    rw [dRdi]
    split
    · exact ih s
    next hn =>
      rcases h i (by simp) with h1 | h1
      · exact absurd h1 hn
      · simp only [h1]
        rw [if_neg (by decide), if_neg (by decide)]
        exact ih s
/-- One place p alone has something to say. -/
theorem dRdi_one {sl : Bool} {l : List Int} {p : Nat} (hp : ¬ ((dPrf (l.take p)).2.2.1 = false ∨ (0 < p ∧ dDig (l[p]?.getD 0) = true ∧ dEnd (l.take p) = true))) (is js : List Nat) (s : Int) (h1 : ∀ i ∈ is, dNoe sl l i) (h2 : ∀ i ∈ js, dNoe sl l i) :
    dRdi sl l s (is ++ p :: js) = if (dRow sl (l.drop p) (dPrf (l.take p)).1 (dPrf (l.take p)).2.1).2 = 1 then dRow sl (l.drop p) (dPrf (l.take p)).1 (dPrf (l.take p)).2.1 else (⟨0, 0, 0, 0, 0⟩, if (dRow sl (l.drop p) (dPrf (l.take p)).1 (dPrf (l.take p)).2.1).2 = 0 then 0 else s) := by
  induction is with
  | nil =>
    rw [List.nil_append, dRdi, if_neg hp]
    simp only
    split
    · rfl
    · exact dRdi_no js _ h2
  | cons i is ih =>
    have ih' := ih (fun x hx => h1 x (by simp [hx]))
    rw [List.cons_append, dRdi]
    split
    · exact ih'
    next hn =>
      rcases h1 i (by simp) with h | h
      · exact absurd h hn
      · simp only [h]
        rw [if_neg (by decide), if_neg (by decide)]
        exact ih'
/-- Skipping, without the fuel. -/
def dK (reg count : Int) (l : List Int) : Int × Int × List Int := dSkp l.length reg count l
theorem dSkp_more : ∀ (f g : Nat) (reg count : Int) (l : List Int), l.length ≤ f → l.length ≤ g → dSkp f reg count l = dSkp g reg count l
  | 0, g, reg, count, l, hf, _ => by
    have : l = [] := List.length_eq_zero_iff.1 (by omega)
    subst this
    cases g <;> simp [dSkp]
  | f + 1, 0, reg, count, l, _, hg => by
    have : l = [] := List.length_eq_zero_iff.1 (by omega)
    subst this
    simp [dSkp]
  | f + 1, g + 1, reg, count, [], _, _ => by simp [dSkp]
  | f + 1, g + 1, reg, count, k :: r, hf, hg => by
    simp only [List.length_cons] at hf hg
    by_cases h34 : k = 34
    · subst h34
      cases r with
      | nil => simp [dSkp]
      | cons x r' =>
        simp only [List.length_cons] at hf hg
        by_cases hx : x = 0
        · simp [dSkp, hx]
        · simp only [dSkp, if_pos, if_neg hx]
          exact dSkp_more f g x count r' (by omega) (by omega)
    by_cases hd : dDig k = false ∨ k = 48
    · simp only [dSkp, if_neg h34, if_pos hd]
    · have hk : dDig k = true := by
        cases h : dDig k with
        | true => rfl
        | false => exact absurd (.inl h) hd
      have hl : (dNum 0 (k :: r)).2.length ≤ r.length := by
        rw [dNum, if_pos hk]
        exact dNum_len r _
      simp only [dSkp, if_neg h34, if_neg hd]
      exact dSkp_more f g reg _ _ (by omega) (by omega)
theorem dK_nil (reg count : Int) : dK reg count [] = (reg, count, []) := by simp [dK, dSkp]
theorem dK_open (reg count : Int) : dK reg count [34] = (reg, count, [34]) := by simp [dK, dSkp]
theorem dK_zero (reg count : Int) (r : List Int) : dK reg count (34 :: 0 :: r) = (reg, count, 34 :: 0 :: r) := by simp [dK, dSkp]
theorem dK_name (reg count x : Int) (r : List Int) (hx : x ≠ 0) : dK reg count (34 :: x :: r) = dK x count r := by
  unfold dK
  simp only [List.length_cons, dSkp, if_pos, if_neg hx]
  exact dSkp_more _ _ _ _ _ (by omega) (Nat.le_refl _)
theorem dK_else (reg count k : Int) (r : List Int) (h34 : k ≠ 34) (hd : dDig k = false ∨ k = 48) : dK reg count (k :: r) = (reg, count, k :: r) := by
  unfold dK
  simp only [List.length_cons, dSkp, if_neg h34, if_pos hd]
theorem dK_num (reg count k : Int) (r : List Int) (h34 : k ≠ 34) (hd : ¬ (dDig k = false ∨ k = 48)) : dK reg count (k :: r) = dK reg (dTms count (dNum 0 (k :: r)).1) (dNum 0 (k :: r)).2 := by
  have hk : dDig k = true := by
    cases h : dDig k with
    | true => rfl
    | false => exact absurd (.inl h) hd
  have hl : (dNum 0 (k :: r)).2.length ≤ r.length := by
    rw [dNum, if_pos hk]
    exact dNum_len r _
  unfold dK
  simp only [List.length_cons, dSkp, if_neg h34, if_neg hd]
  exact dSkp_more _ _ _ _ _ hl (Nat.le_refl _)
/-- What doesn't go on with a number. -/
def dStp (z : List Int) : Prop := z = [] ∨ ∃ y t, z = y :: t ∧ dDig y = false
theorem dDig_iff (k : Int) : dDig k = true ↔ 48 ≤ k ∧ k ≤ 57 := by simp [dDig]
/-- Digits, the first no 0, are prefixes. -/
theorem dP_digs (reg cnt : Int) (ds z : List Int) (hd : ∀ x ∈ ds, dDig x = true) (hh : ds = [] ∨ ds.headD 0 ≠ 48) (hz : dStp z) : ∃ c', dP reg cnt (ds ++ z) = dP reg c' z ∧ (ds ≠ [] → c' = dTms cnt (dNum 0 (ds ++ z)).1) := by
  cases ds with
  | nil => exact ⟨cnt, rfl, fun h => absurd rfl h⟩
  | cons k r =>
    have hk := hd k (by simp)
    have h48 : k ≠ 48 := by simpa using hh
    have hk' := (dDig_iff k).1 hk
    rw [List.cons_append, dP_num reg cnt k (r ++ z) (by omega) (by simp [hk, h48])]
    refine ⟨_, ?_, fun _ => rfl⟩
    obtain ⟨es, h1, h2, h3, h4⟩ := dNum_split (k :: (r ++ z)) 0
    have hnum : ∀ (l : List Int) (n : Int), (∀ x ∈ l, dDig x = true) → (dNum n (l ++ z)).2 = z := by
      intro l
      induction l with
      | nil =>
        intro n _
        rcases hz with rfl | ⟨y, t, rfl, hy⟩
        · simp [dNum]
        · simp [dNum, hy]
      | cons a l ih =>
        intro n h
        rw [List.cons_append, dNum, if_pos (h a (by simp))]
        exact ih _ (fun x hx => h x (by simp [hx]))
    rw [← List.cons_append, hnum (k :: r) 0 hd]
theorem dP_nilz (reg cnt : Int) : (dP reg cnt []).2.2.1 = true := by rw [dP_nil]
/-- What holds of prefixes A that are taken, with what they say. -/
structure dTkn (A : List Int) (reg cnt : Int) : Prop where
  go : ∀ z, (dEnd A = true → dStp z) → dP 0 0 (A ++ z) = dP reg cnt z
theorem dTkn.nil : dTkn [] 0 0 := ⟨fun _ _ => rfl⟩
/-- Behind the prefixes. -/
def dLft (l : List Int) : Prop := l = [] ∨ l = [34] ∨ (∃ r, l = 34 :: 0 :: r) ∨ ∃ k r, l = k :: r ∧ k ≠ 34 ∧ (dDig k = false ∨ k = 48)
theorem dSkip {sl : Bool} : ∀ (f : Nat) (A : List Int) (reg cnt : Int) (l : List Int), l.length ≤ f → dTkn A reg cnt → (dEnd A = true → dStp l) →
    ∃ M, l = M ++ (dK reg cnt l).2.2 ∧ dTkn (A ++ M) (dK reg cnt l).1 (dK reg cnt l).2.1 ∧ (dEnd (A ++ M) = true → dStp (dK reg cnt l).2.2) ∧ dLft (dK reg cnt l).2.2 ∧ ∀ i, A.length ≤ i → i < (A ++ M).length → dNoe sl (A ++ l) i := by
  intro f
  induction f with
  | zero =>
    intro A reg cnt l hl hA hN
    have : l = [] := List.length_eq_zero_iff.1 (by omega)
    subst this
    refine ⟨[], by rw [dK_nil]; rfl, by rw [dK_nil, List.append_nil]; exact hA, by rw [dK_nil, List.append_nil]; exact hN, by rw [dK_nil]; exact .inl rfl, fun i h1 h2 => absurd h2 (by rw [List.append_nil]; omega)⟩
  | succ f ih =>
    intro A reg cnt l hl hA hN
    have done : dK reg cnt l = (reg, cnt, l) → dLft l → ∃ M, l = M ++ (dK reg cnt l).2.2 ∧ dTkn (A ++ M) (dK reg cnt l).1 (dK reg cnt l).2.1 ∧ (dEnd (A ++ M) = true → dStp (dK reg cnt l).2.2) ∧ dLft (dK reg cnt l).2.2 ∧ ∀ i, A.length ≤ i → i < (A ++ M).length → dNoe sl (A ++ l) i := fun e hl => by
      rw [e]
      exact ⟨[], rfl, by rw [List.append_nil]; exact hA, by rw [List.append_nil]; exact hN, hl, fun i h1 h2 => absurd h2 (by rw [List.append_nil]; omega)⟩
    cases l with
    | nil => exact done (dK_nil _ _) (.inl rfl)
    | cons k r =>
      by_cases h34 : k = 34
      · subst h34
        cases r with
        | nil => exact done (dK_open _ _) (.inr (.inl rfl))
        | cons x r =>
          by_cases hx : x = 0
          · subst hx
            exact done (dK_zero _ _ _) (.inr (.inr (.inl ⟨r, rfl⟩)))
          · rw [dK_name _ _ _ _ hx]
            have hq : dP 0 0 (A ++ [34]) = dP reg cnt [34] := hA.go [34] (fun _ => .inr ⟨34, [], rfl, by decide⟩)
            have hE : dEnd (A ++ [34, x]) = false := by
              unfold dEnd
              rw [show A ++ [34, x] = (A ++ [34]) ++ [x] by simp, List.dropLast_concat, dP_prf, hq, dP_open]
              simp
            have hA1 : dTkn (A ++ [34, x]) x cnt := ⟨fun z _ => by
              rw [List.append_assoc]
              show dP 0 0 (A ++ 34 :: x :: z) = _
              rw [hA.go (34 :: x :: z) (fun _ => .inr ⟨34, x :: z, rfl, by decide⟩), dP_name _ _ _ _ hx]⟩
            simp only [List.length_cons] at hl
            obtain ⟨M, h1, h2, h3, h4, h5⟩ := ih (A ++ [34, x]) x cnt r (by omega) hA1 (fun h => by rw [hE] at h; cases h)
            have eAM : A ++ ([34, x] ++ M) = A ++ [34, x] ++ M := by simp
            refine ⟨[34, x] ++ M, by rw [List.append_assoc, ← h1]; rfl, by rw [eAM]; exact h2, by rw [eAM]; exact h3, h4, fun i hi1 hi2 => ?_⟩
            rw [eAM] at hi2
            by_cases h : i < A.length + 2
            · by_cases h0 : i = A.length
              · subst h0
                right
                rw [List.drop_left]
                exact dRow_bad (by simp) (.inl rfl)
              · have : i = A.length + 1 := by omega
                subst this
                left; left
                have et : (A ++ 34 :: x :: r).take (A.length + 1) = A ++ [34] := by
                  rw [List.take_append, List.take_of_length_le (by omega), Nat.add_sub_cancel_left]
                  rfl
                rw [et, dP_prf, hq, dP_open]
            · have := h5 i (by simp; omega) hi2
              rwa [List.append_assoc] at this
      · by_cases hd : dDig k = false ∨ k = 48
        · exact done (dK_else _ _ _ _ h34 hd) (.inr (.inr (.inr ⟨k, r, rfl, h34, hd⟩)))
        · rw [dK_num _ _ _ _ h34 hd]
          have hk : dDig k = true := by
            cases h : dDig k with
            | true => rfl
            | false => exact absurd (.inl h) hd
          have h48 : k ≠ 48 := fun e => hd (.inr e)
          have hEA : dEnd A = false := by
            cases h : dEnd A with
            | false => rfl
            | true =>
              rcases hN h with e | ⟨y, t, e, hy⟩
              · cases e
              · cases e
                rw [hk] at hy; cases hy
          obtain ⟨ds, g1, g2, g3, g4⟩ := dNum_split (k :: r) 0
          have hds : ds ≠ [] := fun e => by
            subst e
            rcases g3 with e | ⟨y, t, e, hy⟩
            · rw [e] at g1; cases g1
            · rw [e] at g1
              cases g1
              rw [hk] at hy; cases hy
          have hhd : ds.headD 0 ≠ 48 := by
            cases ds with
            | nil => exact absurd rfl hds
            | cons a t =>
              rw [List.cons_append] at g1
              injection g1 with e1 e2
              subst e1
              exact h48
          have hlt : (dNum 0 (k :: r)).2.length ≤ f := by
            have : (dNum 0 (k :: r)).2.length ≤ r.length := by
              rw [dNum, if_pos hk]
              exact dNum_len r _
            simp only [List.length_cons] at hl
            omega
          have hpre : ∀ j, (dP reg cnt (ds.take j)).2.2.1 = true := fun j => by
            obtain ⟨c', e, _⟩ := dP_digs reg cnt (ds.take j) [] (fun x hx => g2 x (List.mem_of_mem_take hx)) (by
              cases j with
              | zero => exact .inl rfl
              | succ j => cases ds with
                | nil => exact .inl rfl
                | cons a t => exact .inr hhd) (.inl rfl)
            rw [List.append_nil] at e
            rw [e, dP_nil]
          have hEj : ∀ j, 0 < j → j ≤ ds.length → dEnd (A ++ ds.take j) = true := fun j h0 h1 => by
            obtain ⟨j', rfl⟩ : ∃ j', j = j' + 1 := ⟨j - 1, by omega⟩
            have hj : j' < ds.length := by omega
            have e : A ++ ds.take (j' + 1) = (A ++ ds.take j') ++ [ds[j']] := by
              rw [List.take_add_one, List.getElem?_eq_getElem hj, List.append_assoc]
              rfl
            unfold dEnd
            rw [e, List.dropLast_concat, dP_prf, hA.go _ (fun h => by rw [hEA] at h; cases h), hpre, Bool.and_true]
            simp only [List.getLastD_concat]
            exact g2 _ (List.getElem_mem hj)
          have hA1 : dTkn (A ++ ds) reg (dTms cnt (dNum 0 (k :: r)).1) := ⟨fun z hz => by
            have hz' := hz (by have := hEj ds.length (List.length_pos_iff.2 hds) (Nat.le_refl _); rwa [List.take_length] at this)
            rw [List.append_assoc, hA.go _ (fun h => by rw [hEA] at h; cases h)]
            obtain ⟨c', e1, e2⟩ := dP_digs reg cnt ds z g2 (.inr hhd) hz'
            rw [e1, e2 hds, g4 z hz']⟩
          obtain ⟨M, h1, h2, h3, h4, h5⟩ := ih (A ++ ds) reg (dTms cnt (dNum 0 (k :: r)).1) (dNum 0 (k :: r)).2 hlt hA1 (fun _ => g3)
          have eAM : A ++ (ds ++ M) = A ++ ds ++ M := by simp
          refine ⟨ds ++ M, by rw [List.append_assoc, ← h1]; exact g1, by rw [eAM]; exact h2, by rw [eAM]; exact h3, h4, fun i hi1 hi2 => ?_⟩
          rw [eAM] at hi2
          by_cases h : i < A.length + ds.length
          · by_cases h0 : i = A.length
            · subst h0
              right
              rw [List.drop_left]
              have := (dDig_iff k).1 hk
              exact dRow_bad (by simp) (.inr (by simp; omega))
            · left; right
              have et : (A ++ k :: r).take i = A ++ ds.take (i - A.length) := by
                rw [g1, List.take_append, List.take_of_length_le (by omega), List.take_append_of_le_length (by omega)]
              have eg : (A ++ k :: r)[i]?.getD 0 = ds[i - A.length]?.getD 0 := by
                rw [g1, List.getElem?_append_right (by omega), List.getElem?_append_left (by omega)]
              refine ⟨by omega, ?_, ?_⟩
              · rw [eg]
                have hlt2 : i - A.length < ds.length := by omega
                rw [List.getElem?_eq_getElem hlt2]
                exact g2 _ (List.getElem_mem _)
              · rw [et]
                exact hEj _ (by omega) (by omega)
          · have := h5 i (by simp; omega) hi2
            rw [List.append_assoc, ← g1] at this
            exact this
/-- What a row says if it isn't met. -/
theorem dAmg_val {reg count : Int} {l : List Int} : ∀ (rs : List DRw) (s : Int), (dAmg reg count l s rs).2 = 1 ∨ dAmg reg count l s rs = (⟨0, 0, 0, 0, 0⟩, 0) ∨ dAmg reg count l s rs = (⟨0, 0, 0, 0, 0⟩, s)
  | [], s => .inr (.inr rfl)
  | r :: rs, s => by
    rw [dAmg]
    split
    · exact .inl rfl
    · rcases dAmg_val rs (if (dMts r l).1 = 0 then 0 else s) with h | h | h
      · exact .inl h
      · exact .inr (.inl h)
      · rw [h]
        split
        · exact .inr (.inl rfl)
        · exact .inr (.inr rfl)
theorem dOpr_val {reg count : Int} {l : List Int} : ∀ (os : List DRw) (s : Int), (dOpr reg count l s os).2 = 1 ∨ dOpr reg count l s os = (⟨0, 0, 0, 0, 0⟩, 0) ∨ dOpr reg count l s os = (⟨0, 0, 0, 0, 0⟩, s)
  | [], s => .inr (.inr rfl)
  | o :: os, s => by
    rw [dOpr]
    have key : ∀ s' : Int, (s' = 0 ∨ s' = s) → (dOpr reg count l s' os).2 = 1 ∨ dOpr reg count l s' os = (⟨0, 0, 0, 0, 0⟩, 0) ∨ dOpr reg count l s' os = (⟨0, 0, 0, 0, 0⟩, s) := fun s' hs => by
      rcases dOpr_val os s' with h | h | h
      · exact .inl h
      · exact .inr (.inl h)
      · rw [h]
        rcases hs with rfl | rfl
        · exact .inr (.inl rfl)
        · exact .inr (.inr rfl)
    split
    · dsimp only
      generalize dAmg reg _ _ 2 (dTls o) = x
      by_cases h : x.2 = 1
      · rw [if_pos h]
        exact .inl h
      · rw [if_neg h]
        refine key _ ?_
        split
        · exact .inl rfl
        · exact .inr rfl
    · refine key _ ?_
      split
      · exact .inl rfl
      · exact .inr rfl
theorem dRow_val (sl : Bool) (l : List Int) (reg count : Int) : (dRow sl l reg count).2 = 1 ∨ dRow sl l reg count = (⟨0, 0, 0, 0, 0⟩, 0) ∨ dRow sl l reg count = (⟨0, 0, 0, 0, 0⟩, 2) := by
  unfold dRow
  dsimp only
  split
  next h => exact .inl h
  next h =>
    rcases dAmg_val (reg := reg) (count := count) (l := l) (dRws sl) 2 with h1 | h1 | h1
    · exact absurd h1 h
    · rw [h1]
      rcases dOpr_val (reg := reg) (count := count) (l := l) (dOpl sl) 0 with h2 | h2 | h2
      · exact .inl h2
      · exact .inr (.inl h2)
      · exact .inr (.inl h2)
    · rw [h1]
      exact dOpr_val (dOpl sl) 2
/-- What Reads says is what is said behind the prefixes. -/
theorem dRds_eq (sl : Bool) (l : List Int) : dRds sl l = dRdd sl l := by
  obtain ⟨M, h1, h2, h3, h4, h5⟩ := dSkip (sl := sl) l.length [] 0 0 l (Nat.le_refl _) dTkn.nil (fun h => by cases h)
  simp only [List.nil_append] at h2 h3 h5
  have hd : dRdd sl l = if (dK 0 0 l).2.2 = [] ∨ (dK 0 0 l).2.2 = [34] then (⟨0, 0, 0, 0, 0⟩, 0) else dRow sl (dK 0 0 l).2.2 (dK 0 0 l).1 (dK 0 0 l).2.1 := rfl
  rw [hd]
  generalize (dK 0 0 l).1 = rg at *
  generalize (dK 0 0 l).2.1 = ct at *
  generalize (dK 0 0 l).2.2 = z at *
  have hl : dPrf l = dP rg ct z := by rw [dP_prf]; conv => lhs; rw [h1]
                                      exact h2.go z h3
  have hlt : (M ++ z).length = M.length + z.length := List.length_append
  unfold dRds
  rw [hl]
  rcases h4 with rfl | rfl | h4
  · rw [List.append_nil] at h1
    subst h1
    rw [dP_nil, if_pos (show ([] : List Int) = [] ∨ ([] : List Int) = [34] from .inl rfl), dRdi_no _ _ (fun i hi => h5 i (Nat.zero_le _) (List.mem_range.1 hi))]
    rfl
  · rw [dP_open, if_pos (show ([34] : List Int) = [] ∨ ([34] : List Int) = [34] from .inr rfl), dRdi_no _ _ (fun i hi => ?_)]
    · rfl
    · have hi := List.mem_range.1 hi
      rw [h1, hlt] at hi
      simp only [List.length_singleton] at hi
      by_cases hm : i < M.length
      · exact h5 i (Nat.zero_le _) hm
      · have : i = M.length := by omega
        subst this
        right
        rw [h1, List.drop_left]
        exact dRow_bad (by simp) (.inl rfl)
  · have hne : z ≠ [] ∧ z ≠ [34] ∧ (dP rg ct z).2.2.1 = false ∧ (dP rg ct z).2.2.2 = false ∧ ∀ j, 0 < j → (dP rg ct (z.take j)).2.2.1 = false := by
      rcases h4 with ⟨r, rfl⟩ | ⟨k, r, rfl, hk, hd⟩
      · refine ⟨by simp, by simp, by rw [dP_zero], by rw [dP_zero], fun j hj => ?_⟩
        obtain ⟨j', rfl⟩ : ∃ j', j = j' + 1 := ⟨j - 1, by omega⟩
        rw [List.take_succ_cons]
        cases j' with
        | zero => rw [List.take_zero, dP_open]
        | succ j' => rw [List.take_succ_cons, dP_zero]
      · refine ⟨by simp, by simp [hk], by rw [dP_else _ _ _ _ hk hd], by rw [dP_else _ _ _ _ hk hd], fun j hj => ?_⟩
        obtain ⟨j', rfl⟩ : ∃ j', j = j' + 1 := ⟨j - 1, by omega⟩
        rw [List.take_succ_cons, dP_else _ _ _ _ hk hd]
    obtain ⟨n1, n2, n3, n4, n5⟩ := hne
    have hzl : 0 < z.length := List.length_pos_iff.2 n1
    rw [n3, n4, if_neg (show ¬ (z = [] ∨ z = [34]) from fun h => h.elim n1 n2)]
    have hrange : List.range l.length = List.range M.length ++ M.length :: (List.range (z.length - 1)).map (fun i => M.length + 1 + i) := by
      rw [h1, hlt, show M.length + z.length = M.length + (1 + (z.length - 1)) by omega, List.range_add, List.range_add]
      simp [Nat.add_assoc]
    have hst : ∀ j, (dEnd M = true → dStp (z.take j)) := fun j h => by
      rcases h3 h with e | ⟨y, t, e, hy⟩
      · exact absurd e n1
      · cases j with
        | zero => exact .inl rfl
        | succ j => rw [e]; exact .inr ⟨y, t.take j, rfl, hy⟩
    have hp : dPrf (l.take M.length) = (rg, ct, true, false) := by
      rw [h1, List.take_left, dP_prf]
      have := h2.go [] (fun _ => .inl rfl)
      rw [List.append_nil] at this
      rw [this, dP_nil]
    have hdr : l.drop M.length = z := by rw [h1, List.drop_left]
    rw [hrange, dRdi_one (p := M.length) ?_ _ _ _ (fun i hi => h5 i (Nat.zero_le _) (List.mem_range.1 hi)) ?_]
    · rw [hp, hdr]
      dsimp only
      rcases dRow_val sl z rg ct with h | h | h
      · rw [if_pos h]
      · rw [h]; rfl
      · rw [h]; rfl
    · rw [hp]
      rintro (h | ⟨h6, h7, h8⟩)
      · cases h
      · rw [h1, List.take_left] at h8
        rcases h3 h8 with e | ⟨y, t, e, hy⟩
        · exact absurd e n1
        · rw [h1, e, List.getElem?_append_right (Nat.le_refl _), Nat.sub_self] at h7
          rw [show ((y :: t)[0]?.getD 0 : Int) = y from rfl, hy] at h7
          cases h7
    · intro i hi
      obtain ⟨j, _, rfl⟩ := List.mem_map.1 hi
      left; left
      rw [h1, List.take_append, List.take_of_length_le (by omega), dP_prf, h2.go _ (hst _), show M.length + 1 + j - M.length = j + 1 by omega]
      exact n5 _ (by omega)
end Go.Proofs.YtfdceljdhgbkcaaGreatDoor
