import Derived.Test.YtfdceljdhgbkcaaGreatDoorJ31
import Derived.Test.YtfdceljdhgbkcaaGreatDoorJ05
/- The code's reading of keys is the document's, pure. -/
namespace Go.Proofs.YtfdceljdhgbkcaaGreatDoor
open Go.RowKit
/-! What the trie's rows are against the document's. -/
def rbd (r : DRw) : Bd := ⟨r.v, r.m, r.a, if r.asks = true then 1 else 0⟩
def bdq (a b : Bd) : Bool := a.v == b.v && (a.m == b.m && (a.a == b.a && a.t == b.t))
theorem bdq_eq {a b : Bd} (h : bdq a b = true) : a = b := by
  unfold bdq at h
  simp only [Bool.and_eq_true, beq_iff_eq] at h
  obtain ⟨h1, h2, h3, h4⟩ := h
  cases a; cases b
  simp only at h1 h2 h3 h4
  subst h1 h2 h3 h4
  rfl
def has (L : List (List Int × Bd)) (K : List Int) (b : Bd) : Bool := L.any fun x => x.1 == K && bdq x.2 b
theorem has_mem {L : List (List Int × Bd)} {K : List Int} {b : Bd} (h : has L K b = true) : (K, b) ∈ L := by
  obtain ⟨⟨k, c⟩, hx, he⟩ := List.any_eq_true.1 h
  simp only [Bool.and_eq_true, beq_iff_eq] at he
  obtain ⟨h1, h2⟩ := he
  have := bdq_eq h2
  subst h1 this
  exact hx
def tbL (sl : Bool) : List (List Int × Bd) := if sl = true then fil tSln else fil tNor
def chk1 (L : List (List Int × Bd)) (D O : List DRw) : Bool :=
  D.all (fun r => has L r.ks (rbd r)) && (O.all (fun o => has L o.ks ⟨o.v, 0, 0, 2⟩) && L.all (fun x => if x.2.t == 2 then O.any (fun o => o.ks == x.1) else D.any (fun r => r.ks == x.1)))
theorem chkN : chk1 (fil tNor) (dRws false) (dOpl false) = true := by rw [filN_eq]; kernel_rfl
theorem chkS : chk1 (fil tSln) (dRws true) (dOpl true) = true := by rw [filS_eq]; kernel_rfl
/-- A table and the document's rows and operators. -/
structure Tab (L : List (List Int × Bd)) (D O : List DRw) : Prop where
  d : ∀ r ∈ D, (r.ks, rbd r) ∈ L
  o : ∀ o ∈ O, (o.ks, ⟨o.v, 0, 0, 2⟩) ∈ L
  l : ∀ K b, (K, b) ∈ L → (b.t = 2 → ∃ o ∈ O, o.ks = K) ∧ (b.t ≠ 2 → ∃ r ∈ D, r.ks = K)
theorem Tab.of {L : List (List Int × Bd)} {D O : List DRw} (h : chk1 L D O = true) : Tab L D O := by
  unfold chk1 at h
  simp only [Bool.and_eq_true] at h
  obtain ⟨h1, h2, h3⟩ := h
  refine ⟨fun r hr => has_mem (List.all_eq_true.1 h1 r hr), fun o ho => has_mem (List.all_eq_true.1 h2 o ho), fun K b hx => ?_⟩
  have := List.all_eq_true.1 h3 _ hx
  simp only at this
  constructor
  · intro e
    rw [if_pos (by simpa using e)] at this
    obtain ⟨o, ho, he⟩ := List.any_eq_true.1 this
    exact ⟨o, ho, by simpa using he⟩
  · intro e
    rw [if_neg (by simpa using e)] at this
    obtain ⟨o, ho, he⟩ := List.any_eq_true.1 this
    exact ⟨o, ho, by simpa using he⟩
theorem tab_sl (sl : Bool) : Tab (tbL sl) (dRws sl) (dOpl sl) := by
  cases sl
  · exact Tab.of chkN
  · exact Tab.of chkS
def chk2 (o : DRw) : Bool :=
  (dTls o).all (fun r => (fil tTar).any fun x => x.1 == r.ks && ((bhd x.2 o.v).elim false fun b => bdq b (rbd r))) && ((fil tTar).all (fun x => (bhd x.2 o.v).isNone || (dTls o).any fun r => r.ks == x.1) && (fil tTar).all (fun x => decide (x.1.length < 2) || (dTls o).any fun r => (x.1.take 1).isPrefixOf r.ks && decide (1 < r.ks.length)))
theorem chkT : dOps.all chk2 = true := by unfold chk2; rw [filT_eq]; kernel_rfl
/-- What stands behind an operator, and the document's tails. -/
structure Tgt (o : DRw) : Prop where
  d : ∀ r ∈ dTls o, ∃ b, (r.ks, b) ∈ fil tTar ∧ bhd b o.v = some (rbd r)
  l : ∀ K b c, (K, b) ∈ fil tTar → bhd b o.v = some c → ∃ r ∈ dTls o, r.ks = K
  p : ∀ K b, (K, b) ∈ fil tTar → 2 ≤ K.length → ∃ r ∈ dTls o, (K.take 1).isPrefixOf r.ks = true ∧ 1 < r.ks.length
theorem tgt_of {o : DRw} (ho : o ∈ dOps) : Tgt o := by
  have h := List.all_eq_true.1 chkT o ho
  unfold chk2 at h
  simp only [Bool.and_eq_true] at h
  obtain ⟨h1, h2, h3⟩ := h
  refine ⟨fun r hr => ?_, fun K b c hx hb => ?_, fun K b hx hl => ?_⟩
  · obtain ⟨⟨k, b⟩, hx, he⟩ := List.any_eq_true.1 (List.all_eq_true.1 h1 r hr)
    simp only [Bool.and_eq_true, beq_iff_eq] at he
    obtain ⟨e1, e2⟩ := he
    subst e1
    refine ⟨b, hx, ?_⟩
    cases hb : bhd b o.v with
    | none => rw [hb] at e2; cases e2
    | some c => rw [hb] at e2; rw [bdq_eq e2]
  · have := List.all_eq_true.1 h2 _ hx
    simp only [hb, Option.isNone_some, Bool.false_or] at this
    obtain ⟨r, hr, he⟩ := List.any_eq_true.1 this
    exact ⟨r, hr, by simpa using he⟩
  · have := List.all_eq_true.1 h3 _ hx
    simp only at this
    rw [show decide (K.length < 2) = false by simp; omega, Bool.false_or] at this
    obtain ⟨r, hr, he⟩ := List.any_eq_true.1 this
    simp only [Bool.and_eq_true, decide_eq_true_eq] at he
    exact ⟨r, hr, he⟩
/-! Rows, none of which begins another. -/
theorem pre_iff {a b : List Int} : a.isPrefixOf b = true ↔ a <+: b := List.isPrefixOf_iff_prefix
/-- Two beginnings of one list: one begins the other. -/
theorem pre_two {a b l : List Int} (h : a <+: l) (k : b <+: l) : a <+: b ∨ b <+: a := by
  rcases Nat.le_total a.length b.length with e | e
  · exact .inl (List.prefix_of_prefix_length_le h k e)
  · exact .inr (List.prefix_of_prefix_length_le k h e)
structure Free (L : List (List Int × Bd)) : Prop where
  ok : ∀ K b, (K, b) ∈ L → RwK L K b
theorem lks_one {L : List (List Int × Bd)} {K : List Int} {b : Bd} (h : (K, b) ∈ L) : lkS L K = 1 := by
  unfold lkS
  rw [if_pos (List.any_eq_true.2 ⟨(K, b), h, by simp⟩)]
theorem Free.two {L : List (List Int × Bd)} (h : Free L) {K K' : List Int} {b b' : Bd} (h1 : (K, b) ∈ L) (h2 : (K', b') ∈ L) (hp : K <+: K' ∨ K' <+: K) : K = K' ∧ b = b' := by
  have key : ∀ {K K' : List Int} {b b' : Bd}, (K, b) ∈ L → (K', b') ∈ L → K <+: K' → K = K' := fun {K K' b b'} h1 h2 hp => by
    by_cases hl : K.length = K'.length
    · exact hp.eq_of_length hl
    · have hle := hp.length_le
      have hk0 := List.length_pos_iff.2 (h.ok _ _ h1).ne
      have := (h.ok _ _ h2).pre (K.length - 1) (by omega)
      rw [show K.length - 1 + 1 = K.length by omega, ← List.prefix_iff_eq_take.1 hp, lks_one h1] at this
      cases this
  have e : K = K' := hp.elim (key h1 h2) (fun hp => (key h2 h1 hp).symm)
  subst e
  exact ⟨rfl, Option.some.inj ((h.ok _ _ h1).val.symm.trans (h.ok _ _ h2).val)⟩
theorem free_sl (sl : Bool) : Free (tbL sl) := ⟨fun K b h => by
  unfold tbL at *
  cases sl
  · exact RwK.of (okN _ h)
  · exact RwK.of (okS _ h)⟩
theorem free_t : Free (fil tTar) := ⟨fun _ _ h => RwK.of (okT _ h)⟩
/-- Keys that wait: a row goes on with them. -/
theorem bgn_wait {L : List (List Int × Bd)} {l : List Int} (h : bgn L l = none) (hl : l ≠ []) : ∃ K b, (K, b) ∈ L ∧ l <+: K ∧ l ≠ K := by
  unfold bgn at h
  have hp := List.length_pos_iff.2 hl
  have := List.find?_eq_none.1 h (l.length - 1) (List.mem_range.2 (by omega))
  rw [show l.length - 1 + 1 = l.length by omega, List.take_length] at this
  simp only [bne_iff_ne, ne_eq, Decidable.not_not] at this
  unfold lkS at this
  split at this
  · cases this
  · rename_i hn
    split at this
    · rename_i hp
      obtain ⟨⟨K, b⟩, hx, he⟩ := List.any_eq_true.1 hp
      refine ⟨K, b, hx, pre_iff.1 he, fun e => hn (List.any_eq_true.2 ⟨(K, b), hx, by simp [e]⟩)⟩
    · cases this
/-- Keys that no row has: none is met. -/
theorem bgn_bad {L : List (List Int × Bd)} {l : List Int} {n : Nat} (h : bgn L l = some n) (h2 : lkS L (l.take (n + 1)) = 2) {K : List Int} {b : Bd} (hm : (K, b) ∈ L) (hk : K ≠ []) : ¬ (K <+: l ∨ l <+: K) := by
  have hn : ¬ l.take (n + 1) <+: K := fun hp => by
    unfold lkS at h2
    split at h2
    · cases h2
    · split at h2
      · cases h2
      · rename_i h3
        exact h3 (List.any_eq_true.2 ⟨(K, b), hm, pre_iff.2 hp⟩)
  rintro (hp | hp)
  · by_cases hl : n + 1 ≤ K.length
    · exact hn (List.prefix_of_prefix_length_le (List.take_prefix _ _) hp (by rw [List.length_take]; omega))
    · have hk0 := List.length_pos_iff.2 hk
      unfold bgn at h
      obtain ⟨_, az, bs, e1, e2⟩ := List.find?_eq_some_iff_append.1 h
      have hlt : n < l.length := List.mem_range.1 (by rw [e1]; simp)
      have hmem : K.length - 1 ∈ az := by
        have e3 : az = List.range n := by
          have e4 : az.length = n := by
            have h6 : (List.range l.length)[az.length]? = some n := by rw [e1]; simp
            rw [List.getElem?_range (by have := congrArg List.length e1; simp at this; omega)] at h6
            exact Option.some.inj h6
          have h7 := congrArg (List.take n) e1
          rw [List.take_range, Nat.min_eq_left (by omega), ← e4, List.take_left, e4] at h7
          exact h7.symm
        rw [e3]
        exact List.mem_range.2 (by omega)
      have := e2 _ hmem
      rw [show K.length - 1 + 1 = K.length by omega, ← List.prefix_iff_eq_take.1 hp, lks_one hm] at this
      simp at this
  · exact hn (List.IsPrefix.trans (List.take_prefix _ _) hp)
/-! What the document says behind keys that were read. -/
def dKn (r c n : Int) (l : List Int) : Int × Int × List Int := if n > 0 then dK r (dTms c (dNum n l).1) (dNum n l).2 else dK r c l
def dOpOf (v : Int) : DRw := (dOps.find? fun o => o.v == v).getD ⟨[], 0, 0, 0, false⟩
def dTn (n : Int) (l : List Int) : Int × List Int := if n > 0 then dNum n l else dBeh l
def dTl (o : DRw) (r c n : Int) (l : List Int) : Cm × Int := dAmg r (if n > 0 ∨ (dTn n l).2.length < l.length then dTms c (dTn n l).1 else c) (dTn n l).2 2 (dTls o)
def dSay (sl : Bool) (y : Int × Int × List Int) : Cm × Int := if y.2.2 = [] ∨ y.2.2 = [34] then (cmZ, 0) else dRow sl y.2.2 y.1 y.2.1
def dCt (sl : Bool) (t : Rdg) (l : List Int) : Cm × Int := if t.o = 0 then dSay sl (dKn t.r t.c t.n l) else dTl (dOpOf t.o) t.r t.c t.n l
theorem dRdd_ct (sl : Bool) (l : List Int) : dRdd sl l = dCt sl rdg0 l := rfl
/-- What a reading may hold. -/
structure Rk (t : Rdg) : Prop where
  c0 : 0 ≤ t.c
  n0 : 0 ≤ t.n
  n1 : t.n ≤ 9999
theorem gow_iff {t : Rdg} {x : Int} : gow t x = true ↔ (49 ≤ x ∧ x ≤ 57) ∨ (x = 48 ∧ t.n > 0) := by
  unfold gow
  simp
theorem dNum_cons {n k : Int} {r : List Int} (h : 48 ≤ k ∧ k ≤ 57) : dNum n (k :: r) = dNum (min 9999 (10 * n + k - 48)) r := by
  rw [dNum, if_pos ((dDig_iff k).2 h)]
theorem dNum_stop {n : Int} {l : List Int} (h : ¬ (48 ≤ l.headD 0 ∧ l.headD 0 ≤ 57)) : dNum n l = (n, l) := by
  cases l with
  | nil => rfl
  | cons k r => rw [dNum, if_neg (fun e => h ((dDig_iff k).1 e))]
theorem ct_dig {sl : Bool} {t : Rdg} {x : Int} (hn : 0 ≤ t.n) (hg : gow t x = true) (z : List Int) : dCt sl t (x :: z) = dCt sl (addD t x) z := by
  have hd := gow_iff.1 hg
  have hx : 48 ≤ x ∧ x ≤ 57 := by omega
  have e1 : (addD t x).n = min 9999 (10 * t.n + x - 48) := by show min (t.n * 10 + x - 48) 9999 = _; omega
  have hpos : (addD t x).n > 0 := by rw [e1]; omega
  unfold dCt
  rw [show (addD t x).o = t.o from rfl, show (addD t x).r = t.r from rfl, show (addD t x).c = t.c from rfl]
  by_cases ho : t.o = 0
  · rw [if_pos ho, if_pos ho]
    unfold dKn
    rw [if_pos hpos]
    by_cases h0 : t.n > 0
    · rw [if_pos h0, dNum_cons hx, e1]
    · have : t.n = 0 := by omega
      rw [if_neg h0, dK_num _ _ _ _ (by omega) (by rintro (h | h); rw [(dDig_iff x).2 hx] at h; cases h; omega), dNum_cons hx, e1, this]
  · rw [if_neg ho, if_neg ho]
    have e2 : dTn t.n (x :: z) = dTn (addD t x).n z := by
      unfold dTn
      rw [if_pos hpos]
      by_cases h0 : t.n > 0
      · rw [if_pos h0, dNum_cons hx, e1]
      · have h00 : t.n = 0 := by omega
        rw [if_neg h0]
        unfold dBeh
        rw [if_neg (show ¬ (x :: z).headD 0 = 48 by simp only [List.headD_cons]; omega), dNum_cons hx, e1, h00]
    have hl : (dTn (addD t x).n z).2.length ≤ z.length := by
      unfold dTn
      rw [if_pos hpos]
      exact dNum_len _ _
    unfold dTl
    rw [e2, if_pos (.inr (by simp only [List.length_cons]; omega)), if_pos (.inl hpos)]
theorem endN_c {t : Rdg} (ht : Rk t) : (endN t).c = if t.n > 0 then dTms t.c t.n else t.c := by
  show (if t.n > 0 then min (max t.c 1 * t.n) 9999 else t.c) = _
  by_cases h : t.n > 0
  · rw [if_pos h, if_pos h]
    unfold dTms
    have h1 := ht.n1
    have h2 := ht.c0
    by_cases hc : t.c = 0
    · rw [if_pos hc, hc]
      show min (1 * t.n) 9999 = t.n
      omega
    · rw [if_neg hc, show max t.c 1 = t.c by omega]
      omega
  · rw [if_neg h, if_neg h]
theorem kn_stop {t : Rdg} (ht : Rk t) {l : List Int} (h : ¬ (48 ≤ l.headD 0 ∧ l.headD 0 ≤ 57) ∨ t.n = 0) : dKn t.r t.c t.n l = dK t.r (endN t).c l := by
  rw [endN_c ht]
  unfold dKn
  by_cases h0 : t.n > 0
  · rw [if_pos h0, if_pos h0, dNum_stop (h.elim id (fun e => by omega))]
  · rw [if_neg h0, if_neg h0]
theorem ct_nil0 {sl : Bool} {t : Rdg} (ht : Rk t) (ho : t.o = 0) : dCt sl t [] = (cmZ, 0) := by
  unfold dCt
  rw [if_pos ho, kn_stop ht (.inl (by decide)), dK_nil]
  unfold dSay
  rw [if_pos (.inl rfl)]
theorem ct_quo {sl : Bool} {t : Rdg} (ht : Rk t) (ho : t.o = 0) : dCt sl t [34] = (cmZ, 0) := by
  unfold dCt
  rw [if_pos ho, kn_stop ht (.inl (by decide)), dK_open]
  unfold dSay
  rw [if_pos (.inr rfl)]
theorem ct_zero {sl : Bool} {t : Rdg} (ht : Rk t) (ho : t.o = 0) (z : List Int) : dCt sl t (34 :: 0 :: z) = (cmZ, 2) := by
  unfold dCt
  rw [if_pos ho, kn_stop ht (.inl (by simp)), dK_zero]
  unfold dSay
  rw [if_neg (by simp)]
  exact dRow_bad (by simp) (.inl rfl)
theorem ct_name {sl : Bool} {t : Rdg} (ht : Rk t) (ho : t.o = 0) {x : Int} (hx : x ≠ 0) (z : List Int) : dCt sl t (34 :: x :: z) = dCt sl (addR t x) z := by
  have e : dCt sl (addR t x) z = if t.o = 0 then dSay sl (dKn x (endN t).c 0 z) else dTl (dOpOf t.o) x (endN t).c 0 z := rfl
  rw [e, if_pos ho]
  unfold dCt
  rw [if_pos ho, kn_stop ht (.inl (by simp)), dK_name _ _ _ _ hx]
  rfl
theorem ct_row {sl : Bool} {t : Rdg} (ht : Rk t) (ho : t.o = 0) {l : List Int} (hl : l ≠ []) (hg : ¬ gow t (l.headD 0) = true) (hq : l.headD 0 ≠ 34) : dCt sl t l = dRow sl l t.r (endN t).c := by
  obtain ⟨k, r, rfl⟩ := List.exists_cons_of_ne_nil hl
  simp only [List.headD_cons] at hg hq
  rw [gow_iff] at hg
  have hn0 := ht.n0
  unfold dCt
  rw [if_pos ho, kn_stop ht (by simp only [List.headD_cons]; omega), dK_else _ _ _ _ hq (by
    cases h : dDig k with
    | false => exact .inl rfl
    | true => have := (dDig_iff k).1 h; exact .inr (by omega))]
  unfold dSay
  rw [if_neg (by simp [hq])]
theorem ct_tail {sl : Bool} {t : Rdg} (ht : Rk t) (ho : t.o ≠ 0) {l : List Int} (hg : ¬ gow t (l.headD 0) = true) : dCt sl t l = dAmg t.r (endN t).c l 2 (dTls (dOpOf t.o)) := by
  rw [gow_iff] at hg
  have hn0 := ht.n0
  unfold dCt dTl
  rw [if_neg ho]
  have e : dTn t.n l = (t.n, l) := by
    unfold dTn dBeh
    by_cases h0 : t.n > 0
    · rw [if_pos h0, dNum_stop (by omega)]
    · have : t.n = 0 := by omega
      rw [if_neg h0, this]
      split
      · rfl
      · rw [dNum_stop (by omega)]
  rw [e, endN_c ht]
  congr 1
  by_cases h0 : t.n > 0
  · rw [if_pos h0, if_pos (.inl h0)]
  · rw [if_neg h0, if_neg (by simp; omega)]
/-! Rows that are met. -/
theorem dAmg_more {reg count : Int} {l : List Int} : ∀ (rs : List DRw) (s : Int), (∀ r ∈ rs, (dMts r l).1 ≠ 1) → (s = 0 ∨ ∃ r ∈ rs, (dMts r l).1 = 0) → dAmg reg count l s rs = (cmZ, 0)
  | [], s, _, h => by
    rcases h with rfl | ⟨r, hr, _⟩
    · rfl
    · cases hr
  | r :: rs, s, h1, h2 => by
    rw [dAmg, if_neg (h1 r (by simp))]
    refine dAmg_more rs _ (fun x hx => h1 x (by simp [hx])) ?_
    by_cases h : (dMts r l).1 = 0
    · exact .inl (by rw [if_pos h])
    · rw [if_neg h]
      rcases h2 with h2 | ⟨x, hx, he⟩
      · exact .inl h2
      · rcases List.mem_cons.1 hx with rfl | hx
        · exact absurd he h
        · exact .inr ⟨x, hx, he⟩
theorem dAmg_done {reg count : Int} {l : List Int} {X : Cm} : ∀ (rs : List DRw) (s : Int), (∀ r ∈ rs, (dMts r l).1 = 1 → dCmd r reg count (dMts r l).2 = X) → (∃ r ∈ rs, (dMts r l).1 = 1) → dAmg reg count l s rs = (X, 1)
  | [], _, _, h => by obtain ⟨r, hr, _⟩ := h; cases hr
  | r :: rs, s, h1, h2 => by
    rw [dAmg]
    by_cases h : (dMts r l).1 = 1
    · rw [if_pos h, h1 r (by simp) h]
    · rw [if_neg h]
      refine dAmg_done rs _ (fun x hx => h1 x (by simp [hx])) ?_
      obtain ⟨x, hx, he⟩ := h2
      rcases List.mem_cons.1 hx with rfl | hx
      · exact absurd he h
      · exact ⟨x, hx, he⟩
theorem mts_far {r : DRw} {l : List Int} (h : ¬ (r.ks <+: l ∨ l <+: r.ks)) : dMts r l = (2, 0) := by
  have h1 : r.ks.isPrefixOf l = false := by cases e : r.ks.isPrefixOf l with | false => rfl | true => exact absurd (.inl (pre_iff.1 e)) h
  have h2 : l.isPrefixOf r.ks = false := by cases e : l.isPrefixOf r.ks with | false => rfl | true => exact absurd (.inr (pre_iff.1 e)) h
  unfold dMts
  rw [h1, h2, if_neg (by simp), if_neg (by simp)]
theorem mts_self {r : DRw} {l : List Int} (h : r.ks = l) : dMts r l = if r.asks = true then (0, 0) else (1, r.a) := by
  subst h
  have e : r.ks.isPrefixOf r.ks = true := pre_iff.2 (List.prefix_refl _)
  unfold dMts
  rw [e]
  cases r.asks <;> simp
theorem mts_arg {r : DRw} {K : List Int} {x : Int} (h : r.ks = K) (ha : r.asks = true) : dMts r (K ++ [x]) = (1, x) := by
  subst h
  have e : r.ks.isPrefixOf (r.ks ++ [x]) = true := pre_iff.2 (List.prefix_append _ _)
  unfold dMts
  rw [e, ha]
  simp
theorem mts_wait {r : DRw} {l : List Int} (h : l <+: r.ks) (hne : l ≠ r.ks) : dMts r l = (0, 0) := by
  have hlt : l.length < r.ks.length := by
    have := h.length_le
    by_cases e : l.length = r.ks.length
    · exact absurd (h.eq_of_length e) hne
    · omega
  have e : r.ks.isPrefixOf l = false := by
    cases e : r.ks.isPrefixOf l with
    | false => rfl
    | true => have := (pre_iff.1 e).length_le; omega
  unfold dMts
  rw [e, if_neg (by simp), if_pos (.inr ⟨pre_iff.2 h, hlt⟩)]
theorem mts_near {r : DRw} {l : List Int} (h : (dMts r l).1 ≠ 2) : r.ks <+: l ∨ l <+: r.ks := by
  by_cases e : r.ks <+: l ∨ l <+: r.ks
  · exact e
  · rw [mts_far e] at h; exact absurd rfl h
theorem mts_done {r : DRw} {l : List Int} (h : (dMts r l).1 = 1) : r.ks <+: l := by
  rcases mts_near (r := r) (l := l) (by rw [h]; decide) with e | e
  · exact e
  · by_cases hl : l = r.ks
    · rw [hl]
      exact List.prefix_refl _
    · rw [mts_wait e hl] at h; cases h
theorem cmZ_eq : (⟨0, 0, 0, 0, 0⟩ : Cm) = cmZ := rfl
/-- Behind an operator, the operators' own round. -/
theorem dOpr_more {reg count : Int} {l : List Int} : ∀ (os : List DRw) (s : Int), (∀ o ∈ os, ¬ o.ks <+: l) → (s = 0 ∨ ∃ o ∈ os, l <+: o.ks) → dOpr reg count l s os = (cmZ, 0)
  | [], s, _, h => by
    rcases h with rfl | ⟨r, hr, _⟩
    · rfl
    · cases hr
  | o :: os, s, h1, h2 => by
    rw [dOpr, if_neg (fun e => h1 o (by simp) (pre_iff.1 e))]
    refine dOpr_more os _ (fun x hx => h1 x (by simp [hx])) ?_
    by_cases h : l.isPrefixOf o.ks = true
    · exact .inl (by rw [if_pos h])
    · rw [if_neg h]
      rcases h2 with h2 | ⟨x, hx, he⟩
      · exact .inl h2
      · rcases List.mem_cons.1 hx with rfl | hx
        · exact absurd (pre_iff.2 he) h
        · exact .inr ⟨x, hx, he⟩
theorem dOpr_far {reg count : Int} {l : List Int} (os : List DRw) (s : Int) (h : ∀ o ∈ os, ¬ (o.ks <+: l ∨ l <+: o.ks)) : dOpr reg count l s os = (cmZ, s) :=
  dOpr_bad os s (fun o ho => by
    constructor
    · cases e : o.ks.isPrefixOf l with | false => rfl | true => exact absurd (.inl (pre_iff.1 e)) (h o ho)
    · cases e : l.isPrefixOf o.ks with | false => rfl | true => exact absurd (.inr (pre_iff.1 e)) (h o ho))
/-- A row that is met, with its argument. -/
theorem one_met {y : DRw} {K : List Int} {b : Bd} {tl : List Int} {x r c : Int} (e1 : y.ks = K) (e2 : rbd y = b) (h : (b.t = 0 ∧ tl = []) ∨ (b.t = 1 ∧ tl = [x])) : dMts y (K ++ tl) = (1, if b.t = 1 then tl.headD 0 else b.a) ∧ dCmd y r c (if b.t = 1 then tl.headD 0 else b.a) = cmdB b r c (if b.t = 1 then tl.headD 0 else 0) := by
  subst e2
  have ht : (rbd y).t = if y.asks = true then 1 else 0 := rfl
  have hc : ∀ k a : Int, (a = if (rbd y).t = 1 then k else (rbd y).a) → dCmd y r c a = cmdB (rbd y) r c k := fun k a e => by rw [e]; rfl
  constructor
  · rcases h with ⟨h1, rfl⟩ | ⟨h1, rfl⟩
    · have ha : ¬ y.asks = true := fun e => by rw [ht, if_pos e] at h1; cases h1
      rw [List.append_nil, mts_self e1, if_neg ha, if_neg (by rw [h1]; decide)]
      rfl
    · have ha : y.asks = true := by
        by_cases e : y.asks = true
        · exact e
        · rw [ht, if_neg e] at h1; cases h1
      rw [mts_arg e1 ha, if_pos h1]
      rfl
  · refine hc _ _ ?_
    by_cases e : (rbd y).t = 1
    · rw [if_pos e, if_pos e, if_pos e]
    · rw [if_neg e, if_neg e]
section
variable {sl : Bool} {l : List Int} {r c : Int}
theorem row_wait (hl : l ≠ []) (h : bgn (tbL sl) l = none) : dRow sl l r c = (cmZ, 0) := by
  obtain ⟨K, b, hm, hp, hne⟩ := bgn_wait h hl
  have T := tab_sl sl
  have F := free_sl sl
  have far : ∀ (k : List Int) (b' : Bd), (k, b') ∈ tbL sl → ¬ k <+: l := fun k b' hk hp2 => by
    obtain ⟨e, _⟩ := F.two hk hm (.inl (hp2.trans hp))
    subst e
    exact hne (List.IsPrefix.eq_of_length hp (Nat.le_antisymm hp.length_le hp2.length_le))
  have h1 : ∀ x ∈ dRws sl, (dMts x l).1 ≠ 1 := fun x hx e => far _ _ (T.d x hx) (mts_done e)
  have h2 : ∀ o ∈ dOpl sl, ¬ o.ks <+: l := fun o ho => far _ _ (T.o o ho)
  unfold dRow
  dsimp only
  obtain ⟨t1, t2⟩ := T.l K b hm
  by_cases hb : b.t = 2
  · obtain ⟨o, ho, rfl⟩ := t1 hb
    rcases dAmg_val (reg := r) (count := c) (l := l) (dRws sl) 2 with e | e | e
    · exfalso
      have : ∀ (rs : List DRw) (s : Int), s ≠ 1 → (∀ x ∈ rs, (dMts x l).1 ≠ 1) → (dAmg r c l s rs).2 ≠ 1 := by
        intro rs
        induction rs with
        | nil => intro s hs _; exact hs
        | cons y ys ih =>
          intro s hs hy
          rw [dAmg, if_neg (hy y (by simp))]
          refine ih _ ?_ (fun x hx => hy x (by simp [hx]))
          split
          · decide
          · exact hs
      exact this _ 2 (by decide) h1 e
    · rw [e, if_neg (by decide)]
      exact dOpr_more _ _ h2 (.inl rfl)
    · rw [e, if_neg (by decide)]
      exact dOpr_more _ _ h2 (.inr ⟨o, ho, hp⟩)
  · obtain ⟨x, hx, rfl⟩ := t2 hb
    rw [dAmg_more (dRws sl) 2 h1 (.inr ⟨x, hx, by rw [mts_wait hp hne]⟩), if_neg (by decide)]
    exact dOpr_more _ _ h2 (.inl rfl)
theorem row_far (h : ∀ K b, (K, b) ∈ tbL sl → ¬ (K <+: l ∨ l <+: K)) : dRow sl l r c = (cmZ, 2) := by
  have T := tab_sl sl
  unfold dRow
  dsimp only
  rw [dAmg_bad (dRws sl) 2 (fun x hx => mts_far (h _ _ (T.d x hx))), if_neg (by decide)]
  exact dOpr_far _ _ (fun o ho => h _ _ (T.o o ho))
theorem row_none {n : Nat} (h : bgn (tbL sl) l = some n) (h2 : lkS (tbL sl) (l.take (n + 1)) = 2) : dRow sl l r c = (cmZ, 2) :=
  row_far (fun _ _ hm => bgn_bad h h2 hm ((free_sl sl).ok _ _ hm).ne)
/-- Whatever is near is the row itself. -/
theorem near_is {K : List Int} {b : Bd} {tl : List Int} (hm : (K, b) ∈ tbL sl) {k : List Int} {b' : Bd} (hk : (k, b') ∈ tbL sl) (hp : k <+: K ++ tl ∨ K ++ tl <+: k) : k = K ∧ b' = b := by
  refine (free_sl sl).two hk hm ?_
  rcases hp with hp | hp
  · exact pre_two hp (List.prefix_append _ _)
  · exact .inr ((List.prefix_append K tl).trans hp)
theorem row_asks {b : Bd} (hm : (l, b) ∈ tbL sl) (hb : b.t = 1) : dRow sl l r c = (cmZ, 0) := by
  have T := tab_sl sl
  have hm' : (l ++ [], b) ∈ tbL sl := by rwa [List.append_nil]
  have near : ∀ {k : List Int} {b' : Bd}, (k, b') ∈ tbL sl → (k <+: l ∨ l <+: k) → k = l ∧ b' = b := fun hk hp => near_is (tl := []) hm hk (by rwa [List.append_nil])
  have h1 : ∀ x ∈ dRws sl, (dMts x l).1 ≠ 1 := fun x hx e => by
    obtain ⟨e1, e2⟩ := near (T.d x hx) (.inl (mts_done e))
    have ha : x.asks = true := by
      have := congrArg Bd.t e2
      rw [hb] at this
      unfold rbd at this
      simp only at this
      by_cases h : x.asks = true
      · exact h
      · rw [if_neg h] at this; cases this
    rw [mts_self e1, if_pos ha] at e
    cases e
  obtain ⟨x, hx, e⟩ := (T.l _ _ hm).2 (by rw [hb]; decide)
  have hx0 : (dMts x l).1 = 0 := by
    obtain ⟨_, e2⟩ := near (T.d x hx) (.inl (e ▸ List.prefix_refl _))
    have ha : x.asks = true := by
      have := congrArg Bd.t e2
      rw [hb] at this
      unfold rbd at this
      simp only at this
      by_cases h : x.asks = true
      · exact h
      · rw [if_neg h] at this; cases this
    rw [mts_self e, if_pos ha]
  unfold dRow
  dsimp only
  rw [dAmg_more (dRws sl) 2 h1 (.inr ⟨x, hx, hx0⟩), if_neg (by decide)]
  exact dOpr_more _ _ (fun o ho hp => by
    obtain ⟨_, e2⟩ := near (T.o o ho) (.inl hp)
    have := congrArg Bd.t e2
    rw [hb] at this
    cases this) (.inl rfl)
theorem row_cmd {K : List Int} {b : Bd} {tl : List Int} {x : Int} (hm : (K, b) ∈ tbL sl) (h : (b.t = 0 ∧ tl = []) ∨ (b.t = 1 ∧ tl = [x])) : dRow sl (K ++ tl) r c = (cmdB b r c (if b.t = 1 then tl.headD 0 else 0), 1) := by
  have T := tab_sl sl
  have hb2 : b.t ≠ 2 := by rcases h with ⟨h, _⟩ | ⟨h, _⟩ <;> rw [h] <;> decide
  have one := fun (y : DRw) (e1 : y.ks = K) (e2 : rbd y = b) => one_met (r := r) (c := c) e1 e2 h
  obtain ⟨y, hy, ey⟩ := (T.l _ _ hm).2 hb2
  have hyb : rbd y = b := ((free_sl sl).two (T.d y hy) hm (.inl (ey ▸ List.prefix_refl _))).2
  obtain ⟨m1, m2⟩ := one y ey hyb
  have hd : dAmg r c (K ++ tl) 2 (dRws sl) = (cmdB b r c (if b.t = 1 then tl.headD 0 else 0), 1) := by
    refine dAmg_done _ _ (fun z hz e => ?_) ⟨y, hy, by rw [m1]⟩
    obtain ⟨e1, e2⟩ := near_is hm (T.d z hz) (.inl (mts_done e))
    obtain ⟨n1, n2⟩ := one z e1 e2
    rw [n1]
    exact n2
  unfold dRow
  dsimp only
  rw [hd, if_pos rfl]
end
/-- Behind an operator. -/
theorem row_op {sl : Bool} {l : List Int} {r c : Int} {b : Bd} (hm : (l, b) ∈ tbL sl) (hb : b.t = 2) : ∃ o ∈ dOps, o.ks = l ∧ o.v = b.v ∧ ∀ z, dRow sl (l ++ z) r c = dTl o r c 0 z := by
  have T := tab_sl sl
  obtain ⟨o, ho, eo⟩ := (T.l _ _ hm).1 hb
  have hob : (⟨o.v, 0, 0, 2⟩ : Bd) = b := ((free_sl sl).two (T.o o ho) hm (.inl (eo ▸ List.prefix_refl _))).2
  have hoo : o ∈ dOps := by
    cases sl
    · exact ho
    · cases ho
  refine ⟨o, hoo, eo, by rw [← hob], fun z => ?_⟩
  have h1 : dAmg r c (l ++ z) 2 (dRws sl) = (cmZ, 2) := dAmg_bad _ _ (fun x hx => mts_far (fun hp => by
    obtain ⟨_, e2⟩ := near_is hm (T.d x hx) hp
    have := congrArg Bd.t e2
    rw [hb] at this
    unfold rbd at this
    simp only at this
    split at this <;> cases this))
  unfold dRow
  dsimp only
  rw [h1, if_neg (by decide)]
  have hx : dTl o r c 0 z = dAmg r (if (dBeh z).2.length < z.length then dTms c (dBeh z).1 else c) (dBeh z).2 2 (dTls o) := by
    have e : dTn 0 z = dBeh z := by unfold dTn; rw [if_neg (by decide)]
    unfold dTl
    rw [e]
    congr 1
    by_cases h : (dBeh z).2.length < z.length
    · rw [if_pos h, if_pos (.inr h)]
    · rw [if_neg h, if_neg (by rintro (e | e); exact absurd e (by decide); exact h e)]
  rw [hx]
  have key : ∀ (os : List DRw) (s : Int), (∀ x ∈ os, x ∈ dOpl sl) → (os.map (·.ks)).Nodup → (s = 2 ∨ False) → o ∈ os → dOpr r c (l ++ z) s os = dAmg r (if (dBeh z).2.length < z.length then dTms c (dBeh z).1 else c) (dBeh z).2 2 (dTls o) := by
    intro os
    induction os with
    | nil => intro _ _ _ _ h; cases h
    | cons p ps ih =>
      intro s hs hn h2 hmem
      have hs2 : s = 2 := h2.elim id False.elim
      subst hs2
      rw [List.map_cons, List.nodup_cons] at hn
      rw [dOpr]
      by_cases hpo : p.ks = l
      · have hpe : p = o := by
          rcases List.mem_cons.1 hmem with e | e
          · exact e.symm
          · exact absurd (List.mem_map.2 ⟨o, e, eo⟩) (by rw [← hpo] at *; exact hn.1)
        subst hpe
        rw [if_pos (pre_iff.2 (hpo ▸ List.prefix_append _ _)), hpo, List.drop_left]
        dsimp only
        rcases dAmg_val (reg := r) (count := if (dBeh z).2.length < z.length then dTms c (dBeh z).1 else c) (l := (dBeh z).2) (dTls p) 2 with e | e | e
        · rw [if_pos e]
        · rw [e, if_neg (by decide)]
          refine dOpr_far ps _ (fun q hq hp => ?_)
          obtain ⟨e1, _⟩ := near_is hm (T.o q (hs q (by simp [hq]))) hp
          exact hn.1 (List.mem_map.2 ⟨q, hq, e1.trans hpo.symm⟩)
        · rw [e, if_neg (by decide)]
          refine dOpr_far ps _ (fun q hq hp => ?_)
          obtain ⟨e1, _⟩ := near_is hm (T.o q (hs q (by simp [hq]))) hp
          exact hn.1 (List.mem_map.2 ⟨q, hq, e1.trans hpo.symm⟩)
      · have far : ¬ (p.ks <+: l ++ z ∨ l ++ z <+: p.ks) := fun hp => hpo (near_is hm (T.o p (hs p (by simp))) hp).1
        rw [if_neg (fun e => far (.inl (pre_iff.1 e))), if_neg (fun e => far (.inr (pre_iff.1 e)))]
        refine ih 2 (fun x hx => hs x (by simp [hx])) hn.2 (.inl rfl) ?_
        rcases List.mem_cons.1 hmem with e | e
        · exact absurd (e ▸ eo) hpo
        · exact e
  have hnd : ((dOpl sl).map (·.ks)).Nodup := by
    cases sl <;> decide
  exact key (dOpl sl) 2 (fun _ h => h) hnd (.inl rfl) ho
theorem op_of : ∀ o ∈ dOps, (dOpOf o.v).ks = o.ks ∧ (dOpOf o.v).v = o.v ∧ (dOpOf o.v).m = o.m ∧ (dOpOf o.v).a = o.a ∧ (dOpOf o.v).asks = o.asks ∧ o.v ≠ 0 := by decide
theorem op_is {o : DRw} (ho : o ∈ dOps) : dOpOf o.v = o ∧ o.v ≠ 0 := by
  obtain ⟨h1, h2, h3, h4, h5, h6⟩ := op_of o ho
  refine ⟨?_, h6⟩
  generalize dOpOf o.v = p at *
  cases p; cases o
  simp only at h1 h2 h3 h4 h5
  subst h1 h2 h3 h4 h5
  rfl
section
variable {o : DRw} {l : List Int} {r c : Int}
theorem tl_wait (ho : o ∈ dOps) (hl : l ≠ []) (h : bgn (fil tTar) l = none) : dAmg r c l 2 (dTls o) = (cmZ, 0) := by
  obtain ⟨K, b, hm, hp, hne⟩ := bgn_wait h hl
  have T := tgt_of ho
  have F := free_t
  have hlt : l.length < K.length := by
    have := hp.length_le
    by_cases e : l.length = K.length
    · exact absurd (hp.eq_of_length e) hne
    · omega
  have h0 := List.length_pos_iff.2 hl
  have h1 : ∀ x ∈ dTls o, (dMts x l).1 ≠ 1 := fun x hx e => by
    obtain ⟨b', hb', _⟩ := T.d x hx
    obtain ⟨e1, _⟩ := F.two hb' hm (.inl ((mts_done e).trans hp))
    have := (mts_done e).length_le
    rw [e1] at this
    omega
  obtain ⟨x, hx, hp2, hl2⟩ := T.p K b hm (by omega)
  have hb2 : ∀ k ∈ fil tTar, k.1.length ≤ 2 := by
    rw [filT_eq]
    have : ((tTar.map fun r => (r.ks, r.b)).all fun x => decide (x.1.length ≤ 2)) = true := by kernel_rfl
    intro k hk
    simpa using List.all_eq_true.1 this k hk
  have hK := hb2 _ hm
  simp only at hK
  have hl1 : l.length = 1 := by omega
  have el : l = K.take 1 := by
    have := List.prefix_iff_eq_take.1 hp
    rwa [hl1] at this
  refine dAmg_more _ _ h1 (.inr ⟨x, hx, ?_⟩)
  rw [← el] at hp2
  rw [mts_wait (pre_iff.1 hp2) (fun e => by rw [e] at hl1; omega)]
theorem tl_none (ho : o ∈ dOps) {n : Nat} (h : bgn (fil tTar) l = some n) (h2 : lkS (fil tTar) (l.take (n + 1)) = 2) : dAmg r c l 2 (dTls o) = (cmZ, 2) :=
  dAmg_bad _ _ (fun x hx => mts_far (by
    obtain ⟨b', hb', _⟩ := (tgt_of ho).d x hx
    exact bgn_bad h h2 hb' (free_t.ok _ _ hb').ne))
theorem near_t {K : List Int} {b : Bd} {tl : List Int} (hm : (K, b) ∈ fil tTar) {k : List Int} {b' : Bd} (hk : (k, b') ∈ fil tTar) (hp : k <+: K ++ tl ∨ K ++ tl <+: k) : k = K ∧ b' = b := by
  refine free_t.two hk hm ?_
  rcases hp with hp | hp
  · exact pre_two hp (List.prefix_append _ _)
  · exact .inr ((List.prefix_append K tl).trans hp)
theorem asks_v : ∀ x ∈ fil tTar, x.2.t = 1 → x.2.v = 1 := by
  rw [filT_eq]
  have h : ((tTar.map fun r => (r.ks, r.b)).all fun x => decide (x.2.t = 1 → x.2.v = 1)) = true := by kernel_rfl
  intro x hx
  exact of_decide_eq_true (List.all_eq_true.1 h x hx)
theorem tl_cmd (ho : o ∈ dOps) {K : List Int} {b : Bd} {tl : List Int} {x : Int} (hm : (K, b) ∈ fil tTar) (h : (b.t = 0 ∧ tl = []) ∨ (b.t = 1 ∧ tl = [x])) : dAmg r c (K ++ tl) 2 (dTls o) = match bhd b o.v with
    | none => (cmZ, 2)
    | some b' => (cmdB b' r c (if b'.t = 1 then tl.headD 0 else 0), 1) := by
  have T := tgt_of ho
  cases hb : bhd b o.v with
  | none =>
    refine dAmg_bad _ _ (fun y hy => mts_far (fun hp => ?_))
    obtain ⟨b', hb', e⟩ := T.d y hy
    obtain ⟨_, rfl⟩ := near_t hm hb' hp
    rw [hb] at e
    cases e
  | some b2 =>
    have h' : (b2.t = 0 ∧ tl = []) ∨ (b2.t = 1 ∧ tl = [x]) := by rw [bhd_t hb]; exact h
    have is : ∀ y ∈ dTls o, y.ks = K → rbd y = b2 := fun y hy e => by
      obtain ⟨b', hb', e'⟩ := T.d y hy
      obtain ⟨_, rfl⟩ := near_t (tl := []) hm hb' (.inl (by rw [e, List.append_nil]; exact List.prefix_refl _))
      rw [hb] at e'
      exact (Option.some.inj e').symm
    obtain ⟨y, hy, ey⟩ := T.l K b b2 hm hb
    obtain ⟨m1, m2⟩ := one_met (r := r) (c := c) ey (is y hy ey) h'
    refine dAmg_done _ _ (fun z hz e => ?_) ⟨y, hy, by rw [m1]⟩
    obtain ⟨b', hb', e'⟩ := T.d z hz
    obtain ⟨e1, _⟩ := near_t hm hb' (.inl (mts_done e))
    obtain ⟨n1, n2⟩ := one_met (r := r) (c := c) e1 (is z hz e1) h'
    rw [n1]
    exact n2
theorem tl_asks (ho : o ∈ dOps) {b : Bd} (hm : (l, b) ∈ fil tTar) (hb : b.t = 1) : dAmg r c l 2 (dTls o) = (cmZ, 0) := by
  have T := tgt_of ho
  have hv := asks_v _ hm hb
  have hbh : bhd b o.v = some { b with v := o.v } := by unfold bhd; rw [if_pos hv]
  have near : ∀ {k : List Int} {b' : Bd}, (k, b') ∈ fil tTar → (k <+: l ∨ l <+: k) → k = l ∧ b' = b := fun hk hp => near_t (tl := []) hm hk (by rwa [List.append_nil])
  have az : ∀ y ∈ dTls o, y.ks = l → y.asks = true := fun y hy e => by
    obtain ⟨b', hb', e'⟩ := T.d y hy
    obtain ⟨_, rfl⟩ := near hb' (.inl (e ▸ List.prefix_refl _))
    rw [hbh] at e'
    have := congrArg Bd.t (Option.some.inj e')
    unfold rbd at this
    simp only [hb] at this
    by_cases h : y.asks = true
    · exact h
    · rw [if_neg h] at this; cases this
  obtain ⟨y, hy, ey⟩ := T.l l b _ hm hbh
  refine dAmg_more _ _ (fun z hz e => ?_) (.inr ⟨y, hy, by rw [mts_self ey, if_pos (az y hy ey)]⟩)
  obtain ⟨b', hb', _⟩ := T.d z hz
  obtain ⟨e1, _⟩ := near hb' (.inl (mts_done e))
  rw [mts_self e1, if_pos (az z hz e1)] at e
  cases e
theorem tl_nil (ho : o ∈ dOps) : dAmg r c [] 2 (dTls o) = (cmZ, 0) := by
  have T := tgt_of ho
  have w : ∀ y ∈ dTls o, dMts y [] = (0, 0) := fun y hy => by
    obtain ⟨b', hb', _⟩ := T.d y hy
    exact mts_wait (List.nil_prefix) (fun e => (free_t.ok _ _ hb').ne e.symm)
  refine dAmg_more _ _ (fun y hy => by rw [w y hy]; decide) (.inr ?_)
  have : dTls o ≠ [] := by unfold dTls dMot; simp
  obtain ⟨y, ys, e⟩ := List.exists_cons_of_ne_nil this
  exact ⟨y, by rw [e]; simp, by rw [w y (by rw [e]; simp)]⟩
end
/-! The code's reading is the document's. -/
/-- One turn of the reading, by its ways. -/
theorem rst_why (sl : Bool) (t : Rdg) (l : List Int) :
    (gow t (l.headD 0) = true ∧ rst sl t l = .go (addD t (l.headD 0))) ∨
    (¬ gow t (l.headD 0) = true ∧ l.headD 0 = 34 ∧ t.o = 0 ∧ ((l.length = 1 ∧ rst sl t l = .fin t cmZ 0) ∨ (l.length ≠ 1 ∧ l[1]?.getD 0 = 0 ∧ rst sl t l = .fin t cmZ 2) ∨ (l.length ≠ 1 ∧ l[1]?.getD 0 ≠ 0 ∧ rst sl t l = .go (addR t (l[1]?.getD 0))))) ∨
    (¬ gow t (l.headD 0) = true ∧ ¬ (l.headD 0 = 34 ∧ t.o = 0) ∧ ((bgn (bLs sl t) l = none ∧ rst sl t l = .fin t cmZ 0) ∨ (∃ n, bgn (bLs sl t) l = some n ∧ lkS (bLs sl t) (l.take (n + 1)) = 2 ∧ rst sl t l = .fin t cmZ 2) ∨
      ∃ n b, bgn (bLs sl t) l = some n ∧ (l.take (n + 1), b) ∈ bLs sl t ∧ ((b.t = 1 ∧ l.length = n + 1 ∧ rst sl t l = .fin t cmZ 0) ∨ (b.t = 2 ∧ rst sl t l = .go (addO t b.v (n + 1))) ∨ (b.t ≠ 2 ∧ ¬ (b.t = 1 ∧ l.length = n + 1) ∧ rst sl t l = .fin (endN t) (rcm t b (l.drop (n + 1))).1 (rcm t b (l.drop (n + 1))).2)))) := by
  by_cases h1 : gow t (l.headD 0) = true
  · exact .inl ⟨h1, by unfold rst; rw [if_pos h1]⟩
  · by_cases h2 : l.headD 0 = 34 ∧ t.o = 0
    · refine .inr (.inl ⟨h1, h2.1, h2.2, ?_⟩)
      by_cases h3 : l.length = 1
      · exact .inl ⟨h3, by unfold rst; rw [if_neg h1, if_pos h2, if_pos h3]⟩
      · by_cases h4 : l[1]?.getD 0 = 0
        · exact .inr (.inl ⟨h3, h4, by unfold rst; rw [if_neg h1, if_pos h2, if_neg h3, if_pos h4]⟩)
        · exact .inr (.inr ⟨h3, h4, by unfold rst; rw [if_neg h1, if_pos h2, if_neg h3, if_neg h4]⟩)
    · refine .inr (.inr ⟨h1, h2, ?_⟩)
      have e : rst sl t l = match bgn (bLs sl t) l with
        | none => .fin t cmZ 0
        | some n =>
          if lkS (bLs sl t) (l.take (n + 1)) = 2 then .fin t cmZ 2
          else if ((lkV (bLs sl t) (l.take (n + 1))).getD bd0).t = 1 ∧ l.length = n + 1 then .fin t cmZ 0
          else if ((lkV (bLs sl t) (l.take (n + 1))).getD bd0).t = 2 then .go (addO t ((lkV (bLs sl t) (l.take (n + 1))).getD bd0).v (n + 1))
          else .fin (endN t) (rcm t ((lkV (bLs sl t) (l.take (n + 1))).getD bd0) (l.drop (n + 1))).1 (rcm t ((lkV (bLs sl t) (l.take (n + 1))).getD bd0) (l.drop (n + 1))).2 := by
        unfold rst; rw [if_neg h1, if_neg h2]
        rfl
      generalize rst sl t l = S at e ⊢
      cases hb : bgn (bLs sl t) l with
      | none =>
        rw [hb] at e
        exact .inl ⟨rfl, e⟩
      | some n =>
        rw [hb] at e
        obtain ⟨_, hn⟩ := bgn_spec hb
        rcases lks_val (bLs sl t) (l.take (n + 1)) with h | h | h
        · exact absurd h hn
        · obtain ⟨b, hv, hm⟩ := lk_mem h
          have e2 : S = if lkS (bLs sl t) (l.take (n + 1)) = 2 then .fin t cmZ 2 else if b.t = 1 ∧ l.length = n + 1 then .fin t cmZ 0 else if b.t = 2 then .go (addO t b.v (n + 1)) else .fin (endN t) (rcm t b (l.drop (n + 1))).1 (rcm t b (l.drop (n + 1))).2 := by rw [e]; show (if lkS (bLs sl t) (l.take (n + 1)) = 2 then _ else if ((lkV (bLs sl t) (l.take (n + 1))).getD bd0).t = 1 ∧ l.length = n + 1 then Stp.fin t cmZ 0 else if ((lkV (bLs sl t) (l.take (n + 1))).getD bd0).t = 2 then Stp.go (addO t ((lkV (bLs sl t) (l.take (n + 1))).getD bd0).v (n + 1)) else _) = _; rw [hv]; rfl
          rw [h, if_neg (by decide)] at e2
          refine .inr (.inr ⟨n, b, rfl, hm, ?_⟩)
          by_cases a1 : b.t = 1 ∧ l.length = n + 1
          · rw [if_pos a1] at e2
            exact .inl ⟨a1.1, a1.2, e2⟩
          · rw [if_neg a1] at e2
            by_cases a2 : b.t = 2
            · rw [if_pos a2] at e2
              exact .inr (.inl ⟨a2, e2⟩)
            · rw [if_neg a2] at e2
              exact .inr (.inr ⟨a2, a1, e2⟩)
        · refine .inr (.inl ⟨n, rfl, h, ?_⟩)
          rw [e]
          show (if lkS (bLs sl t) (l.take (n + 1)) = 2 then _ else _) = _
          rw [if_pos h]
theorem bls_0 {sl : Bool} {t : Rdg} (ho : t.o = 0) : bLs sl t = tbL sl := by
  unfold bLs tbL
  rw [if_pos ho]
theorem bls_1 {sl : Bool} {t : Rdg} (ho : t.o ≠ 0) : bLs sl t = fil tTar := by
  unfold bLs
  rw [if_neg ho]
theorem Rk.addD {t : Rdg} (h : Rk t) {x : Int} (hx : 48 ≤ x) : Rk (addD t x) := by
  have h1 := h.n0
  refine ⟨h.c0, ?_, ?_⟩
  · show 0 ≤ min (t.n * 10 + x - 48) 9999
    omega
  · show min (t.n * 10 + x - 48) 9999 ≤ 9999
    omega
theorem Rk.end_c {t : Rdg} (h : Rk t) : 0 ≤ (endN t).c := by
  rw [endN_c h]
  unfold dTms
  have h1 := h.n0
  have h2 := h.c0
  have h3 : 0 ≤ t.c * t.n := Int.mul_nonneg h2 h1
  split
  · split
    · exact h1
    · omega
  · exact h2
/-- What stands of pending keys, against the document. -/
structure DI (sl : Bool) (ks : List Int) (t : Rdg) : Prop where
  k0 : 0 ≤ t.k
  k1 : t.k ≤ ks.length
  rk : Rk t
  op : t.o = 0 ∨ ∃ o ∈ dOps, o.v = t.o
  con : ∀ z, dRdd sl (ks.take t.k.toNat ++ z) = dCt sl t z
  w : ks.drop t.k.toNat = [] ∨ rst sl t (ks.drop t.k.toNat) = .fin t cmZ 0
theorem DI.init (sl : Bool) : DI sl [] rdg0 := ⟨Int.le_refl _, Int.le_refl _, ⟨Int.le_refl _, Int.le_refl _, by decide⟩, .inl rfl, fun z => dRdd_ct sl z, .inl rfl⟩
theorem DI.over {sl : Bool} {l : List Int} {t : Rdg} (hk : t.k = l.length) (rk : Rk t) (op : t.o = 0 ∨ ∃ o ∈ dOps, o.v = t.o) (con : ∀ z, dRdd sl (l ++ z) = dCt sl t z) : DI sl l t := by
  have hn : t.k.toNat = l.length := by omega
  exact ⟨by omega, by omega, rk, op, by rw [hn, List.take_length]; exact con, .inl (by rw [hn, List.drop_length])⟩
theorem ct_nil {sl : Bool} {t : Rdg} (rk : Rk t) (op : t.o = 0 ∨ ∃ o ∈ dOps, o.v = t.o) : dCt sl t [] = (cmZ, 0) := by
  by_cases ho : t.o = 0
  · exact ct_nil0 rk ho
  · obtain ⟨o, hm, e⟩ := op.resolve_left ho
    by_cases hg : gow t (([] : List Int).headD 0) = true
    · rw [gow_iff] at hg
      simp at hg
    · rw [ct_tail rk ho hg, ← e, (op_is hm).1]
      exact tl_nil hm
theorem feed_d {sl : Bool} {ks : List Int} {t u : Rdg} {c : Cm} {s x : Int} (h : DI sl ks t) (hr : Rdo sl (ks ++ [x]) t u c s) : (s = 0 → DI sl (ks ++ [x]) u) ∧ dRds sl (ks ++ [x]) = (c, s) := by
  rw [dRds_eq]
  obtain ⟨k0, k1, rk, op, con, w⟩ := h
  have hlen : (ks ++ [x]).length = ks.length + 1 := by simp
  have hlt : t.k < (ks ++ [x]).length := by omega
  have hdr : (ks ++ [x]).drop t.k.toNat = ks.drop t.k.toNat ++ [x] := List.drop_append_of_le_length (by omega)
  have htk : (ks ++ [x]).take t.k.toNat = ks.take t.k.toNat := List.take_append_of_le_length (by omega)
  have hcl : (ks.take t.k.toNat).length = t.k.toNat := by rw [List.length_take]; omega
  have hall : ks.take t.k.toNat ++ ks.drop t.k.toNat = ks := List.take_append_drop _ _
  have hstay : rst sl t (ks.drop t.k.toNat ++ [x]) = .fin t cmZ 0 → dCt sl t (ks.drop t.k.toNat ++ [x]) = (cmZ, 0) → (s = 0 → DI sl (ks ++ [x]) u) ∧ dRdd sl (ks ++ [x]) = (c, s) := by
    intro e e2
    obtain ⟨rfl, rfl, rfl⟩ := hr.det (Rdo.done hlt (by rw [hdr]; exact e))
    refine ⟨fun _ => ⟨k0, by omega, rk, op, by rw [htk]; exact con, .inr (by rw [hdr]; exact e)⟩, ?_⟩
    rw [← e2, ← con, ← List.append_assoc, hall]
  have hgo : ∀ t' : Rdg, rst sl t (ks.drop t.k.toNat ++ [x]) = .go t' → t'.k = (ks ++ [x]).length → Rk t' → (t'.o = 0 ∨ ∃ o ∈ dOps, o.v = t'.o) → (∀ z, dCt sl t (ks.drop t.k.toNat ++ [x] ++ z) = dCt sl t' z) → (s = 0 → DI sl (ks ++ [x]) u) ∧ dRdd sl (ks ++ [x]) = (c, s) := by
    intro t' e hk rk' op' hst
    have con' : ∀ z, dRdd sl (ks ++ [x] ++ z) = dCt sl t' z := fun z => by
      rw [← hst, ← con]
      congr 1
      rw [← List.append_assoc, ← List.append_assoc, hall]
    obtain ⟨rfl, rfl, rfl⟩ := rdo_go hlt (by rw [hdr]; exact e) hk hr
    refine ⟨fun _ => DI.over hk rk' op' con', ?_⟩
    rw [← ct_nil rk' op' (sl := sl), ← con', List.append_nil]
  have hfin : ∀ (t' : Rdg) (c' : Cm) (s' : Int), rst sl t (ks.drop t.k.toNat ++ [x]) = .fin t' c' s' → (s' = 1 ∨ s' = 2) → dCt sl t (ks.drop t.k.toNat ++ [x]) = (c', s') → (s = 0 → DI sl (ks ++ [x]) u) ∧ dRdd sl (ks ++ [x]) = (c, s) := by
    intro t' c' s' e h12 hl
    obtain ⟨rfl, rfl, rfl⟩ := hr.det (Rdo.done hlt (by rw [hdr]; exact e))
    refine ⟨fun e => absurd e (by omega), ?_⟩
    rw [← hl, ← con, ← List.append_assoc, hall]
  clear con htk hdr hr
  generalize hcs : ks.take t.k.toNat = cs at *
  generalize hlf : ks.drop t.k.toNat = lf at *
  have hkl : t.k = cs.length := by omega
  have hE : ks ++ [x] = cs ++ (lf ++ [x]) := by rw [← hall, List.append_assoc]
  have hkn : (ks ++ [x]).length = cs.length + (lf.length + 1) := by rw [hE]; simp
  have hhd : lf ≠ [] → (lf ++ [x]).headD 0 = lf.headD 0 := fun h => head_app h _
  have hw : lf ≠ [] → ¬ gow t (lf.headD 0) = true ∧ ((lf.headD 0 = 34 ∧ t.o = 0 ∧ lf.length = 1) ∨ (¬ (lf.headD 0 = 34 ∧ t.o = 0) ∧ (bgn (bLs sl t) lf = none ∨ ∃ n b, bgn (bLs sl t) lf = some n ∧ (lf, b) ∈ bLs sl t ∧ b.t = 1 ∧ lf.length = n + 1))) := by
    intro hne
    rcases w with w | w
    · exact absurd w hne
    · exact wait_ways w
  have hlx : lf ++ [x] ≠ [] := by simp
  have hOp : t.o ≠ 0 → dOpOf t.o ∈ dOps ∧ (dOpOf t.o).v = t.o := fun ho => by
    obtain ⟨o, hm, e⟩ := op.resolve_left ho
    rw [← e, (op_is hm).1]
    exact ⟨hm, rfl⟩
  -- what is said where neither a number nor a register goes on
  have hrow : ¬ gow t ((lf ++ [x]).headD 0) = true → ¬ ((lf ++ [x]).headD 0 = 34 ∧ t.o = 0) → ∀ z, dCt sl t (lf ++ [x] ++ z) = if t.o = 0 then dRow sl (lf ++ [x] ++ z) t.r (endN t).c else dAmg t.r (endN t).c (lf ++ [x] ++ z) 2 (dTls (dOpOf t.o)) := by
    intro g q z
    rw [← head_app hlx z] at g q
    by_cases ho : t.o = 0
    · rw [if_pos ho]
      exact ct_row rk ho (by simp) g (fun e => q ⟨e, ho⟩)
    · rw [if_neg ho]
      exact ct_tail rk ho g
  rcases rst_why sl t (lf ++ [x]) with ⟨g, e⟩ | ⟨g, h1, h2, ⟨e0, e⟩ | ⟨e0, e1, e⟩ | ⟨e0, e1, e⟩⟩ | ⟨g, h1, ⟨hb, e⟩ | ⟨n, hb, h2, e⟩ | ⟨n, b, hb, hm, ⟨b1, bl, e⟩ | ⟨b2, e⟩ | ⟨b2, b1, e⟩⟩⟩
  · -- a digit
    have hn : lf = [] := by
      by_cases hn : lf = []
      · exact hn
      · rw [hhd hn] at g
        exact absurd g (hw hn).1
    subst hn
    have g : gow t x = true := g
    exact hgo _ e (by show t.k + 1 = _; rw [hkn]; simp only [List.length_nil]; omega) (rk.addD (gow_dig g).1) op (fun z => ct_dig rk.n0 g z)
  · have hn : lf = [] := by
      simp only [List.length_append, List.length_cons, List.length_nil] at e0
      exact List.length_eq_zero_iff.1 (by omega)
    subst hn
    have hx : x = 34 := h1
    subst hx
    exact hstay e (ct_quo rk h2)
  · have hne : lf ≠ [] := fun h => e0 (by rw [h]; rfl)
    rw [hhd hne] at h1
    obtain ⟨_, ⟨q1, q2, q3⟩ | ⟨q, _⟩⟩ := hw hne
    · obtain ⟨y, rfl⟩ := List.length_eq_one_iff.1 q3
      have hy : y = 34 := q1
      subst hy
      have e1 : x = 0 := e1
      subst e1
      exact hfin _ _ _ e (.inr rfl) (ct_zero rk h2 [])
    · exact absurd ⟨h1, h2⟩ q
  · -- a register's name
    have hne : lf ≠ [] := fun h => e0 (by rw [h]; rfl)
    rw [hhd hne] at h1
    obtain ⟨_, ⟨q1, q2, q3⟩ | ⟨q, _⟩⟩ := hw hne
    · obtain ⟨y, rfl⟩ := List.length_eq_one_iff.1 q3
      have hy : y = 34 := q1
      subst hy
      have e1 : x ≠ 0 := e1
      refine hgo _ e (by show t.k + 2 = _; rw [hkn]; simp only [List.length_cons, List.length_nil]; omega) ⟨rk.end_c, Int.le_refl _, by show (0 : Int) ≤ 9999; decide⟩ op (fun z => ct_name rk h2 e1 z)
    · exact absurd ⟨h1, h2⟩ q
  · -- more keys are wanted
    refine hstay e ?_
    have := hrow g h1 []
    rw [List.append_nil] at this
    rw [this]
    by_cases ho : t.o = 0
    · rw [if_pos ho]
      rw [bls_0 ho] at hb
      exact row_wait hlx hb
    · rw [if_neg ho]
      rw [bls_1 ho] at hb
      exact tl_wait (hOp ho).1 hlx hb
  · refine hfin _ _ _ e (.inr rfl) ?_
    have := hrow g h1 []
    rw [List.append_nil] at this
    rw [this]
    by_cases ho : t.o = 0
    · rw [if_pos ho]
      rw [bls_0 ho] at hb h2
      exact row_none hb h2
    · rw [if_neg ho]
      rw [bls_1 ho] at hb h2
      exact tl_none (hOp ho).1 hb h2
  · -- an argument is wanted
    refine hstay e ?_
    have := hrow g h1 []
    rw [List.append_nil] at this
    rw [this]
    rw [← bl, List.take_length] at hm
    by_cases ho : t.o = 0
    · rw [if_pos ho]
      rw [bls_0 ho] at hm
      exact row_asks hm b1
    · rw [if_neg ho]
      rw [bls_1 ho] at hm
      exact tl_asks (hOp ho).1 hm b1
  · -- an operator
    have hw' : lf = [] ∨ (bgn (bLs sl t) lf = none ∨ ∃ m b', bgn (bLs sl t) lf = some m ∧ (lf, b') ∈ bLs sl t ∧ b'.t = 1 ∧ lf.length = m + 1) := by
      by_cases hne : lf = []
      · exact .inl hne
      · rcases hw hne with ⟨_, ⟨q1, q2, _⟩ | ⟨_, q⟩⟩
        · rw [hhd hne] at h1
          exact absurd ⟨q1, q2⟩ h1
        · exact .inr q
    rcases row_ends hw' hb hm with ⟨r1, r2⟩ | ⟨_, _, r3⟩
    · have ho : t.o = 0 := by
        by_cases ho : t.o = 0
        · exact ho
        · rcases (tt_mem ho r2).2 with h | h <;> rw [h] at b2 <;> exact absurd b2 (by decide)
      rw [bls_0 ho] at r2
      obtain ⟨o, hom, ok, ov, hz⟩ := row_op (r := t.r) (c := (endN t).c) r2 b2
      refine hgo _ e (by show t.k + ((n : Int) + 1) = _; rw [hkn]; simp only [List.length_append, List.length_cons, List.length_nil] at r1; omega) ⟨rk.end_c, Int.le_refl _, by show (0 : Int) ≤ 9999; decide⟩ (.inr ⟨o, hom, ov⟩) (fun z => ?_)
      rw [hrow g h1 z, if_pos ho, hz]
      have e2 : dCt sl (addO t b.v ((n : Int) + 1)) z = if b.v = 0 then dSay sl (dKn t.r (endN t).c 0 z) else dTl (dOpOf b.v) t.r (endN t).c 0 z := rfl
      rw [e2, ← ov, if_neg (op_is hom).2, (op_is hom).1]
    · rw [b2] at r3; exact absurd r3 (by decide)
  · -- a row
    have hw' : lf = [] ∨ (bgn (bLs sl t) lf = none ∨ ∃ m b', bgn (bLs sl t) lf = some m ∧ (lf, b') ∈ bLs sl t ∧ b'.t = 1 ∧ lf.length = m + 1) := by
      by_cases hne : lf = []
      · exact .inl hne
      · rcases hw hne with ⟨_, ⟨q1, q2, _⟩ | ⟨_, q⟩⟩
        · rw [hhd hne] at h1
          exact absurd ⟨q1, q2⟩ h1
        · exact .inr q
    refine hfin _ _ _ e (cm_s _ _ _) ?_
    obtain ⟨K, tl, hK, hd, hmm, hbt⟩ : ∃ K tl, lf ++ [x] = K ++ tl ∧ (lf ++ [x]).drop (n + 1) = tl ∧ (K, b) ∈ bLs sl t ∧ ((b.t = 0 ∧ tl = []) ∨ (b.t = 1 ∧ tl = [x])) := by
      rcases row_ends hw' hb hm with ⟨r1, r2⟩ | ⟨r1, r2, r3⟩
      · refine ⟨lf ++ [x], [], by simp, by rw [r1, List.drop_length], r2, .inl ⟨?_, rfl⟩⟩
        rcases (bls_ok r2).kin with h | h | h
        · exact h
        · exact absurd ⟨h, r1.symm⟩ b1
        · exact absurd h.1 b2
      · exact ⟨lf, [x], rfl, by rw [r1]; simp, r2, .inr ⟨r3, rfl⟩⟩
    have := hrow g h1 []
    rw [List.append_nil] at this
    rw [this, hd, hK]
    unfold rcm
    by_cases ho : t.o = 0
    · rw [if_pos ho, if_pos ho]
      rw [bls_0 ho] at hmm
      exact row_cmd hmm hbt
    · rw [if_neg ho, if_neg ho]
      rw [bls_1 ho] at hmm
      rw [tl_cmd (hOp ho).1 hmm hbt, (hOp ho).2]
      cases bhd b t.o <;> rfl
end Go.Proofs.YtfdceljdhgbkcaaGreatDoor
