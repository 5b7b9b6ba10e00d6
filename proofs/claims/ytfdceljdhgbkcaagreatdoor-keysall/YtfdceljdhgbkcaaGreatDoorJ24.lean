import Derived.Test.YtfdceljdhgbkcaaGreatDoorJ17
/- What Spell tells reads as the command: the pure part: keys of a row, what is told ahead of it, Spell's own rows. -/
namespace Go.Proofs.YtfdceljdhgbkcaaGreatDoor
open Go.RowKit
theorem FdR.ahd' {p q r : Ps} {mode key : Int} {c : Cm} {s : Int} (h : FdR p mode key r c s) (e : ahd p mode = ahd q mode) : FdR q mode key r c s := by
  unfold FdR at *
  rw [← e]
  exact h
theorem FedR.ahd {p q : Ps} {mode : Int} (e : ahd p mode = ahd q mode) {l : List Int} {c : Cm} {s : Int} (h : FedR mode p l c s) : FedR mode q l c s := by
  cases l with
  | nil => exact h
  | cons x xs =>
    rw [FedR] at h ⊢
    split at h
    · rename_i hx
      rw [if_pos hx]
      obtain ⟨r, hr⟩ := h
      exact ⟨r, hr.ahd' e⟩
    · rename_i hx
      rw [if_neg hx]
      obtain ⟨r, c1, s1, h1, h2⟩ := h
      exact ⟨r, c1, s1, h1.ahd' e, h2⟩
section
variable {mode : Int} {ks : List Int} {t : Rdg}
theorem fd_more {key : Int} {u : Rdg} (hk : key ≠ 27) (h : Rdo (isl mode) (ks ++ [key]) t u cmZ 0) : FdR ⟨isl mode, ks, t⟩ mode key ⟨isl mode, ks ++ [key], u⟩ cmZ 0 := by
  have e : Go.Proofs.YtfdceljdhgbkcaaGreatDoor.ahd ⟨isl mode, ks, t⟩ mode = ⟨isl mode, ks, t⟩ := by unfold Go.Proofs.YtfdceljdhgbkcaaGreatDoor.ahd; rw [if_pos rfl]
  refine .inr ⟨hk, u, ?_, .inl ⟨rfl, ?_⟩⟩ <;> rw [e]
  exact h
theorem fd_done {key : Int} {u : Rdg} {c : Cm} (hk : key ≠ 27) (h : Rdo (isl mode) (ks ++ [key]) t u c 1) : FdR ⟨isl mode, ks, t⟩ mode key (ps0 (isl mode)) c 1 := by
  have e : Go.Proofs.YtfdceljdhgbkcaaGreatDoor.ahd ⟨isl mode, ks, t⟩ mode = ⟨isl mode, ks, t⟩ := by unfold Go.Proofs.YtfdceljdhgbkcaaGreatDoor.ahd; rw [if_pos rfl]
  refine .inr ⟨hk, u, ?_, .inr ⟨by decide, rfl⟩⟩
  rw [e]
  exact h
end
/-- A number's digits, in any mode. -/
theorem mr_dgm (mode : Int) : ∀ (f n : Nat) (ks : List Int) (t : Rdg), t.k = ks.length → t.n = 0 → n < 10 ^ f → Mr mode ⟨isl mode, ks, t⟩ (dg f n) ⟨isl mode, ks ++ dg f n, { t with n := min (n : Int) 9999, k := t.k + ((dg f n).length : Int) }⟩
  | 0, n, ks, t, hk, hn, h => by
    have : n = 0 := by simpa using h
    subst this
    show (⟨isl mode, ks, t⟩ : Ps) = _
    obtain ⟨k, r, c, m, o⟩ := t
    simp only at hn hk
    subst hn hk
    simp [dg]
    decide
  | f + 1, n, ks, t, hk, hn, h => by
    rw [dg]
    split
    · rename_i h0
      subst h0
      show (⟨isl mode, ks, t⟩ : Ps) = _
      obtain ⟨k, r, c, m, o⟩ := t
      simp only at hn hk
      subst hn hk
      simp
      decide
    · rename_i h0
      have ih := mr_dgm mode f (n / 10) ks t hk hn (by rw [Nat.pow_succ] at h; omega)
      refine ih.append ?_
      have hm := Nat.mod_lt n (show 10 > 0 by decide)
      have hd := Nat.div_add_mod n 10
      generalize dg f (n / 10) = D
      generalize n / 10 = a at *
      generalize n % 10 = d at *
      have hg : gow { t with n := min (a : Int) 9999, k := t.k + (D.length : Int) } (48 + (d : Int)) = true := by
        unfold gow
        simp only [Bool.or_eq_true, Bool.and_eq_true, decide_eq_true_eq, beq_iff_eq]
        by_cases hd0 : d = 0
        · right
          subst hd0
          exact ⟨by omega, by omega⟩
        · left
          omega
      refine ⟨_, fd_more (ks := ks ++ D) (by omega) (rd_dig (t := { t with n := min (a : Int) 9999, k := t.k + (D.length : Int) }) ?_ hg), ?_⟩
      · show t.k + (D.length : Int) = _
        rw [hk, List.length_append]
        omega
      · show (_ : Ps) = _
        unfold addD
        simp only [List.append_assoc, List.length_append, List.length_singleton]
        congr 2
        · omega
        · omega
/-- What the keys of a row must be, in a table. -/
def okB (L : List (List Int × Bd)) (x : List Int × Bd) : Bool :=
  (match x.1 with
    | [k] => decide (k ≠ 27) && !(decide (49 ≤ k) && decide (k ≤ 57)) && decide (k ≠ 34)
    | [k, j] => decide (k ≠ 27) && decide (j ≠ 27) && !(decide (48 ≤ k) && decide (k ≤ 57)) && decide (k ≠ 34) && (lkS L [k] == 0)
    | _ => false) && (lkS L x.1 == 1) && (match lkV L x.1 with
    | some b => b.v == x.2.v && (b.m == x.2.m && (b.a == x.2.a && b.t == x.2.t))
    | none => false) && (decide (x.2.t = 0) || decide (x.2.t = 1) || (decide (x.2.t = 2) && decide (x.2.v ≠ 0))) && decide (∀ k ∈ x.1, 0 ≤ k ∧ k ≤ 127)
theorem okN : ∀ x ∈ fil tNor, okB (fil tNor) x = true := by
  rw [filN_eq]
  exact List.all_eq_true.1 (by kernel_rfl)
theorem okS : ∀ x ∈ fil tSln, okB (fil tSln) x = true := by
  rw [filS_eq]
  exact List.all_eq_true.1 (by kernel_rfl)
theorem okT : ∀ x ∈ fil tTar, okB (fil tTar) x = true := by
  rw [filT_eq]
  exact List.all_eq_true.1 (by kernel_rfl)
theorem tT02 : ∀ x ∈ fil tTar, x.2.t = 0 ∨ x.2.t = 1 := by
  rw [filT_eq]
  have h : ((tTar.map fun r => (r.ks, r.b)).all fun x => x.2.t == 0 || x.2.t == 1) = true := by kernel_rfl
  intro x hx
  have := List.all_eq_true.1 h x hx
  simpa using this
theorem ask_of {L : List (List Int × Bd)} {K : List Int} {b : Bd} (hne : K ≠ []) (hp : ∀ j, j + 1 < K.length → lkS L (K.take (j + 1)) = 0) (h1 : lkS L K = 1) (h2 : lkV L K = some b) (xs : List Int) : bS L (K ++ xs) = 1 ∧ bX L (K ++ xs) = b ∧ bB L (K ++ xs) = xs := by
  have hl : 0 < K.length := List.length_pos_iff.2 hne
  have ht : (K ++ xs).take (K.length - 1 + 1) = K := by rw [show K.length - 1 + 1 = K.length by omega, List.take_left]
  have hb : bgn L (K ++ xs) = some (K.length - 1) := by
    refine bgn_some (by rw [List.length_append]; omega) (fun j hj => ?_) (by rw [ht, h1]; decide)
    rw [List.take_append_of_le_length (by omega)]
    exact hp j (by omega)
  refine ⟨?_, ?_, ?_⟩
  · unfold bS; rw [hb]; show lkS L ((K ++ xs).take (K.length - 1 + 1)) = 1; rw [ht, h1]
  · unfold bX; rw [hb]; show (lkV L ((K ++ xs).take (K.length - 1 + 1))).getD bd0 = b; rw [ht, h2]; rfl
  · unfold bB; rw [hb]; show (K ++ xs).drop (K.length - 1 + 1) = xs; rw [show K.length - 1 + 1 = K.length by omega, List.drop_left]
theorem ask_pre {L : List (List Int × Bd)} {K : List Int} (h : ∀ j, j < K.length → lkS L (K.take (j + 1)) = 0) : bS L K = 0 := by
  unfold bS
  rw [bgn_none h]
  rfl
/-- The keys that a row has, and what the table says of them. -/
structure RwK (L : List (List Int × Bd)) (K : List Int) (b : Bd) : Prop where
  ne : K ≠ []
  pre : ∀ j, j + 1 < K.length → lkS L (K.take (j + 1)) = 0
  all : lkS L K = 1
  val : lkV L K = some b
  esc : ∀ k ∈ K, k ≠ 27
  dig : ∀ t : Rdg, (K.headD 0 = 48 → t.n = 0) → ¬ gow t (K.headD 0) = true
  quo : K.headD 0 ≠ 34
  kin : b.t = 0 ∨ b.t = 1 ∨ (b.t = 2 ∧ b.v ≠ 0)
  byt : ∀ k ∈ K, 0 ≤ k ∧ k ≤ 127
theorem RwK.of {L : List (List Int × Bd)} {K : List Int} {b : Bd} (h : okB L (K, b) = true) : RwK L K b := by
  unfold okB at h
  simp only [Bool.and_eq_true] at h
  obtain ⟨⟨⟨⟨h1, h2⟩, h3⟩, h4⟩, h5⟩ := h
  have hval : lkV L K = some b := by
    split at h3
    · rename_i b' hb
      rw [hb]
      simp only [Bool.and_eq_true, beq_iff_eq] at h3
      obtain ⟨a1, a2, a3, a4⟩ := h3
      obtain ⟨v, m, a, t⟩ := b
      obtain ⟨v', m', a', t'⟩ := b'
      simp only at a1 a2 a3 a4
      subst a1 a2 a3 a4
      rfl
    · cases h3
  have hall : lkS L K = 1 := by simpa using h2
  have hkin : b.t = 0 ∨ b.t = 1 ∨ (b.t = 2 ∧ b.v ≠ 0) := by
    simp only [Bool.or_eq_true, Bool.and_eq_true, decide_eq_true_eq] at h4
    rcases h4 with (h | h) | h
    · exact .inl h
    · exact .inr (.inl h)
    · exact .inr (.inr h)
  have hbyt : ∀ k ∈ K, 0 ≤ k ∧ k ≤ 127 := of_decide_eq_true h5
  match K, h1 with
  | [k], h1 =>
    simp only [Bool.and_eq_true, decide_eq_true_eq, Bool.not_eq_true', Bool.and_eq_false_iff, decide_eq_false_iff_not] at h1
    obtain ⟨⟨a1, a2⟩, a3⟩ := h1
    refine ⟨by simp, fun j hj => absurd hj (by simp), hall, hval, fun x hx => by rw [List.mem_singleton.1 hx]; exact a1, fun t ht hg => ?_, a3, hkin, hbyt⟩
    have hg2 : gow t k = true := hg
    have ht2 : k = 48 → t.n = 0 := ht
    unfold gow at hg2
    simp only [Bool.or_eq_true, Bool.and_eq_true, decide_eq_true_eq, beq_iff_eq] at hg2
    rcases hg2 with hg2 | hg2
    · rcases a2 with a2 | a2
      · exact a2 hg2.1
      · exact a2 hg2.2
    · have := ht2 hg2.1
      omega
  | [k, j], h1 =>
    simp only [Bool.and_eq_true, decide_eq_true_eq, Bool.not_eq_true', Bool.and_eq_false_iff, decide_eq_false_iff_not, beq_iff_eq] at h1
    obtain ⟨⟨⟨⟨a1, a2⟩, a3⟩, a4⟩, a5⟩ := h1
    refine ⟨by simp, fun i hi => ?_, hall, hval, fun x hx => ?_, fun t ht hg => ?_, a4, hkin, hbyt⟩
    · have : i = 0 := by simp at hi; omega
      subst this
      exact a5
    · simp only [List.mem_cons, List.not_mem_nil, or_false] at hx
      rcases hx with rfl | rfl
      · exact a1
      · exact a2
    · have hg2 : gow t k = true := hg
      obtain ⟨b1, b2⟩ := gow_dig hg2
      rcases a3 with a3 | a3
      · exact a3 b1
      · exact a3 b2
section
variable {mode : Int} {ks : List Int} {t : Rdg} {L : List (List Int × Bd)} {K : List Int} {b : Bd}
theorem head_app (hne : K ≠ []) (xs : List Int) : (K ++ xs).headD 0 = K.headD 0 := by
  cases K with
  | nil => exact absurd rfl hne
  | cons x xs => rfl
theorem RwK.ask (h : RwK L K b) (hL : bLs (isl mode) t = L) (h0 : K.headD 0 = 48 → t.n = 0) (xs : List Int) : rst (isl mode) t (K ++ xs) = if b.t = 1 ∧ xs.length = 0 then .fin t cmZ 0 else if b.t = 2 then .go (addO t b.v K.length) else .fin (endN t) (rcm t b xs).1 (rcm t b xs).2 := by
  obtain ⟨a1, a2, a3⟩ := ask_of h.ne h.pre h.all h.val xs
  rw [rst_ask (by rw [head_app h.ne]; exact h.dig t h0) (by rw [head_app h.ne]; exact fun e => h.quo e.1), hL, a1, a2, a3, if_neg (by decide)]
  by_cases hb : b.t = 1 ∧ xs.length = 0
  · rw [if_pos (.inr hb), if_pos hb]
  · rw [if_neg (fun e => e.elim (fun e => absurd e (by decide)) (fun e => hb e)), if_neg hb, List.length_append]
    rw [show ((K.length + xs.length : Nat) : Int) - (xs.length : Int) = (K.length : Int) by omega]
theorem RwK.askp (h : RwK L K b) (hL : bLs (isl mode) t = L) (h0 : K.headD 0 = 48 → t.n = 0) (n : Nat) (hn : n + 1 < K.length) : rst (isl mode) t (K.take (n + 1)) = .fin t cmZ 0 := by
  have hh : (K.take (n + 1)).headD 0 = K.headD 0 := by
    cases K with
    | nil => rfl
    | cons x xs => rfl
  have hz : bS L (K.take (n + 1)) = 0 := ask_pre (fun j hj => by
    rw [List.length_take] at hj
    rw [List.take_take, show min (j + 1) (n + 1) = j + 1 by omega]
    exact h.pre j (by omega))
  rw [rst_ask (by rw [hh]; exact h.dig t h0) (by rw [hh]; exact fun e => h.quo e.1), hL, hz, if_neg (by decide), if_pos (.inl rfl)]
/-- The first keys of a row: more are wanted. -/
theorem RwK.mr (h : RwK L K b) (hL : bLs (isl mode) t = L) (h0 : K.headD 0 = 48 → t.n = 0) (hk : t.k = ks.length) : ∀ n, n < K.length → Mr mode ⟨isl mode, ks, t⟩ (K.take n) ⟨isl mode, ks ++ K.take n, t⟩
  | 0, _ => by
    show (⟨isl mode, ks, t⟩ : Ps) = _
    simp
  | n + 1, hn => by
    have e : K.take (n + 1) = K.take n ++ [K[n]] := by rw [List.take_add_one, List.getElem?_eq_getElem (by omega)]; rfl
    rw [e]
    refine (RwK.mr h hL h0 hk n (by omega)).append ⟨_, fd_more (h.esc _ (List.getElem_mem _)) (u := t) ?_, ?_⟩
    · rw [List.append_assoc, ← e]
      refine .done (by rw [hk, List.length_append, List.length_take]; omega) ?_
      rw [drop_last hk]
      exact h.askp hL h0 n hn
    · show (_ : Ps) = _
      rw [List.append_assoc]
/-- A row that ends the command. -/
theorem RwK.fin0 (h : RwK L K b) (hL : bLs (isl mode) t = L) (h0 : K.headD 0 = 48 → t.n = 0) (hk : t.k = ks.length) (hb : b.t = 0) (hs : (rcm t b []).2 = 1) : FedR mode ⟨isl mode, ks, t⟩ K (rcm t b []).1 1 := by
  have hl : 0 < K.length := List.length_pos_iff.2 h.ne
  have e : K = K.take (K.length - 1) ++ [K[K.length - 1]] := by
    have := List.take_add_one (l := K) (i := K.length - 1)
    rw [List.getElem?_eq_getElem (by omega), show K.length - 1 + 1 = K.length by omega, List.take_length] at this
    exact this
  have hf : FdR ⟨isl mode, ks ++ K.take (K.length - 1), t⟩ mode K[K.length - 1] (ps0 (isl mode)) (rcm t b []).1 1 := by
    refine fd_done (h.esc _ (List.getElem_mem _)) (u := endN t) ?_
    rw [List.append_assoc, ← e]
    refine .done (by rw [hk, List.length_append]; omega) ?_
    rw [drop_last hk]
    have := h.ask hL h0 []
    rw [List.append_nil, if_neg (by rw [hb]; exact fun e => absurd e.1 (by decide)), if_neg (by rw [hb]; decide), hs] at this
    exact this
  have := FedR.of_mr (h.mr hL h0 hk (K.length - 1) (by omega)) hf
  rw [← e] at this
  exact this
/-- A row, all of its keys: more are wanted. -/
theorem RwK.mr1 (h : RwK L K b) (hL : bLs (isl mode) t = L) (h0 : K.headD 0 = 48 → t.n = 0) (hk : t.k = ks.length) (u : Rdg) (hr : Rdo (isl mode) (ks ++ K) t u cmZ 0) : Mr mode ⟨isl mode, ks, t⟩ K ⟨isl mode, ks ++ K, u⟩ := by
  have hl : 0 < K.length := List.length_pos_iff.2 h.ne
  have e : K = K.take (K.length - 1) ++ [K[K.length - 1]] := by
    have := List.take_add_one (l := K) (i := K.length - 1)
    rw [List.getElem?_eq_getElem (by omega), show K.length - 1 + 1 = K.length by omega, List.take_length] at this
    exact this
  have hm := (h.mr hL h0 hk (K.length - 1) (by omega)).append (ys := [K[K.length - 1]]) (r := ⟨isl mode, ks ++ K, u⟩) ⟨_, fd_more (h.esc _ (List.getElem_mem _)) (u := u) (by rw [List.append_assoc, ← e]; exact hr), by show (_ : Ps) = _; rw [List.append_assoc, ← e]⟩
  rw [← e] at hm
  exact hm
/-- A row with an argument. -/
theorem RwK.fin1 (h : RwK L K b) (hL : bLs (isl mode) t = L) (h0 : K.headD 0 = 48 → t.n = 0) (hk : t.k = ks.length) (hb : b.t = 1) {a : Int} (ha : a ≠ 27) (hs : (rcm t b [a]).2 = 1) : FedR mode ⟨isl mode, ks, t⟩ (K ++ [a]) (rcm t b [a]).1 1 := by
  have hl : 0 < K.length := List.length_pos_iff.2 h.ne
  refine FedR.of_mr (h.mr1 hL h0 hk t ?_) (fd_done ha (u := endN t) ?_)
  · refine .done (by rw [hk, List.length_append]; omega) ?_
    rw [drop_last hk]
    have := h.ask hL h0 []
    rw [List.append_nil, if_pos ⟨hb, rfl⟩] at this
    exact this
  · rw [List.append_assoc]
    refine .done (by rw [hk]; simp only [List.length_append, List.length_singleton]; omega) ?_
    rw [drop_last hk]
    have := h.ask hL h0 [a]
    rw [if_neg (fun e => absurd e.2 (by simp)), if_neg (by rw [hb]; decide), hs] at this
    exact this
/-- An operator's row. -/
theorem RwK.op (h : RwK L K b) (hL : bLs (isl mode) t = L) (h0 : K.headD 0 = 48 → t.n = 0) (hk : t.k = ks.length) (hb : b.t = 2) : Mr mode ⟨isl mode, ks, t⟩ K ⟨isl mode, ks ++ K, addO t b.v K.length⟩ := by
  have hl : 0 < K.length := List.length_pos_iff.2 h.ne
  refine h.mr1 hL h0 hk _ (.more (by rw [hk, List.length_append]; omega) (t' := addO t b.v K.length) ?_ (.over ?_))
  · rw [drop_last hk]
    have := h.ask hL h0 []
    rw [List.append_nil, if_neg (by rw [hb]; exact fun e => absurd e.1 (by decide)), if_pos hb] at this
    exact this
  · show ¬ t.k + (K.length : Int) < _
    rw [hk, List.length_append]
    omega
end
/-- Keys ahead, after which more are wanted. -/
theorem FedR.behind {mode : Int} : ∀ {xs : List Int} {p q : Ps} {l : List Int} {c : Cm} {s : Int}, l ≠ [] → Mr mode p xs q → FedR mode q l c s → FedR mode p (xs ++ l) c s
  | [], _, _, _, _, _, _, h, g => by cases h; exact g
  | y :: ys, _, _, l, _, _, hl, ⟨u, h1, h2⟩, g => by
    show (if ys ++ l = [] then _ else _)
    rw [if_neg (by simp [hl])]
    exact ⟨u, cmZ, 0, h1, .inl ⟨rfl, FedR.behind hl h2 g⟩⟩
theorem mr_name {mode : Int} {ks : List Int} {t : Rdg} (hk : t.k = ks.length) (ho : t.o = 0) {reg : Int} (h27 : reg ≠ 27) : Mr mode ⟨isl mode, ks, t⟩ (nmK reg) ⟨isl mode, ks ++ nmK reg, if reg = 0 then t else addR t reg⟩ := by
  unfold nmK
  split
  · rename_i h
    show (⟨isl mode, ks, t⟩ : Ps) = _
    simp
  · rename_i h
    refine ⟨_, fd_more (u := t) (by decide) (rd_quote hk ho), _, fd_more (u := addR t reg) h27 (rd_name hk ho h), ?_⟩
    show (_ : Ps) = _
    simp
theorem mr_num {mode : Int} {ks : List Int} {t : Rdg} (hk : t.k = ks.length) (hn : t.n = 0) {cnt : Int} (h0 : 0 ≤ cnt) (h9 : cnt ≤ 9999) : Mr mode ⟨isl mode, ks, t⟩ (nbK cnt) ⟨isl mode, ks ++ nbK cnt, { t with n := cnt, k := t.k + ((nbK cnt).length : Int) }⟩ := by
  unfold nbK
  split
  · have := mr_dgm mode 20 cnt.toNat ks t hk hn (Nat.lt_of_le_of_lt (show cnt.toNat ≤ 9999 by omega) (by decide))
    rw [show min ((cnt.toNat : Nat) : Int) 9999 = cnt by omega] at this
    exact this
  · have hz : cnt = 0 := by omega
    subst hz
    show (⟨isl mode, ks, t⟩ : Ps) = _
    obtain ⟨k, r, c, m, o⟩ := t
    simp only at hn hk
    subst hn hk
    simp
/-- What is told ahead of a row: the register, the count. -/
structure Hdd (t : Rdg) (ks : List Int) (reg cnt : Int) : Prop where
  k : t.k = ks.length
  o : t.o = 0
  r : (endN t).r = reg
  c : (endN t).c = cnt
theorem pfx_mr {mode : Int} {K l : List Int} {reg cnt : Int} (h27 : reg ≠ 27) (h0 : 0 ≤ cnt) (h9 : cnt ≤ 9999) (h : pfx K reg cnt = some l) : ∃ ks t, l = ks ++ K ∧ Mr mode (ps0 (isl mode)) ks ⟨isl mode, ks, t⟩ ∧ Hdd t ks reg cnt ∧ (K.headD 0 = 48 → t.n = 0) := by
  unfold pfx at h
  split at h
  · rename_i hc
    injection h with h
    have m1 := mr_name (mode := mode) (ks := []) (t := rdg0) rfl rfl h27
    rw [List.nil_append] at m1
    generalize hT : (if reg = 0 then rdg0 else addR rdg0 reg) = T at m1
    have hTk : T.k = (nmK reg).length := by
      rw [← hT]
      unfold nmK
      by_cases hr : reg = 0
      · rw [if_pos hr, if_pos hr]; rfl
      · rw [if_neg hr, if_neg hr]; rfl
    have hTn : T.n = 0 ∧ T.o = 0 ∧ T.c = 0 ∧ T.r = reg := by
      rw [← hT]
      by_cases hr : reg = 0
      · rw [if_pos hr, hr]; exact ⟨rfl, rfl, rfl, rfl⟩
      · rw [if_neg hr]; exact ⟨rfl, rfl, rfl, rfl⟩
    have m2 := mr_num (mode := mode) (ks := nmK reg) hTk hTn.1 h0 h9
    refine ⟨_, _, h.symm, m1.append m2, ⟨?_, hTn.2.1, hTn.2.2.2, ?_⟩, fun e => ?_⟩
    · show T.k + ((nbK cnt).length : Int) = _
      rw [hTk, List.length_append]
      omega
    · show (if cnt > 0 then min (max T.c 1 * cnt) 9999 else T.c) = cnt
      rw [hTn.2.2.1]
      split
      · rw [show max (0 : Int) 1 = 1 by decide, Int.one_mul]
        omega
      · omega
    · show cnt = 0
      rcases hc with hc | hc
      · exact hc
      · exact absurd e hc
  · rename_i hc
    split at h
    · cases h
    · rename_i hr
      injection h with h
      have m1 := mr_num (mode := mode) (ks := []) (t := rdg0) rfl rfl h0 h9
      rw [List.nil_append] at m1
      have m2 := mr_name (mode := mode) (ks := nbK cnt) (t := { rdg0 with n := cnt, k := rdg0.k + ((nbK cnt).length : Int) }) (by show (0 : Int) + _ = _; omega) rfl h27
      rw [if_neg hr] at m2
      have hcp : cnt > 0 := by
        have : ¬ cnt = 0 := fun e => hc (.inl e)
        omega
      refine ⟨_, _, h.symm, m1.append m2, ⟨?_, rfl, rfl, ?_⟩, fun _ => rfl⟩
      · show (0 : Int) + ((nbK cnt).length : Int) + 2 = _
        rw [List.length_append, show (nmK reg).length = 2 by unfold nmK; rw [if_neg hr]; rfl]
        omega
      · show (if (0 : Int) > 0 then min (max (if cnt > 0 then min (max (0 : Int) 1 * cnt) 9999 else 0) 1 * 0) 9999 else (if cnt > 0 then min (max (0 : Int) 1 * cnt) 9999 else 0)) = cnt
        rw [if_neg (by decide), if_pos hcp, show max (0 : Int) 1 = 1 by decide, Int.one_mul]
        omega
theorem fold_mem {c : Cm} : ∀ {L : List Rw} {o : Option (List Int)} {l : List Int}, L.foldl (bstF c) o = some l → o = some l ∨ ∃ r ∈ L, spR c r = some l
  | [], _, _, h => .inl h
  | x :: xs, o, l, h => by
    rcases fold_mem (L := xs) h with h1 | ⟨r, hr, h1⟩
    · unfold bstF at h1
      split at h1
      · exact .inl h1
      · rename_i k hk
        exact .inr ⟨x, List.mem_cons_self, by rw [hk]; exact h1⟩
      · rename_i k b hk
        split at h1
        · exact .inr ⟨x, List.mem_cons_self, by rw [hk]; exact h1⟩
        · exact .inl h1
    · exact .inr ⟨r, List.mem_cons_of_mem _ hr, h1⟩
theorem cmd_key {b : Bd} (h : b.t ≠ 1) (r c k k' : Int) : cmdB b r c k = cmdB b r c k' := by
  unfold cmdB
  rw [if_neg h, if_neg h]
theorem mem_fil {T : List Rw} (e : fil T = T.map (fun r => (r.ks, r.b))) {r : Rw} (h : r ∈ T) : (r.ks, r.b) ∈ fil T := by
  rw [e]
  exact List.mem_map_of_mem h
theorem tab_rw (mode : Int) {r : Rw} (h : r ∈ (if isl mode = true then tSln else tNor)) {t : Rdg} (ho : t.o = 0) : RwK (bLs (isl mode) t) r.ks r.b := by
  unfold bLs
  rw [if_pos ho]
  split at h
  · rename_i hs
    rw [if_pos hs]
    exact RwK.of (okS _ (mem_fil filS_eq h))
  · rename_i hs
    rw [if_neg hs]
    exact RwK.of (okN _ (mem_fil filN_eq h))
theorem back_simple {mode : Int} {c : Cm} {r : Rw} {l : List Int} (hr : r ∈ (if isl mode = true then tSln else tNor)) (ht : r.b.t ≠ 2) (h27 : c.r ≠ 27) (h0 : 0 ≤ c.c) (h9 : c.c ≤ 9999) (h : spR c r = some l) : FedR mode (ps0 (isl mode)) l c 1 := by
  unfold spR at h
  split at h
  · rename_i he
    have he := eqC_iff.1 he
    split at h
    · rename_i h1
      split at h
      · cases h
      · rename_i ha
        obtain ⟨ks, t, rfl, hm, hd, h48⟩ := pfx_mr (mode := mode) h27 h0 h9 h
        have K := tab_rw mode hr hd.o
        have h48' : r.ks.headD 0 = 48 → t.n = 0 := fun e => h48 (by rw [head_app K.ne]; exact e)
        have hrc : rcm t r.b [c.a] = (c, 1) := by
          unfold rcm
          rw [if_pos hd.o, hd.r, hd.c, if_pos h1]
          show (cmdB r.b c.r c.c c.a, (1 : Int)) = _
          rw [he]
        have := K.fin1 rfl h48' hd.k h1 ha (by rw [hrc])
        rw [hrc] at this
        exact FedR.behind (by simp) hm this
    · rename_i h1
      obtain ⟨ks, t, rfl, hm, hd, h48⟩ := pfx_mr (mode := mode) h27 h0 h9 h
      have K := tab_rw mode hr hd.o
      have hz : r.b.t = 0 := by
        rcases K.kin with h | h | h
        · exact h
        · exact absurd h h1
        · exact absurd h.1 ht
      have hrc : rcm t r.b [] = (c, 1) := by
        unfold rcm
        rw [if_pos hd.o, hd.r, hd.c, if_neg h1, cmd_key h1 _ _ 0 c.a, he]
      have := K.fin0 rfl h48 hd.k hz (by rw [hrc])
      rw [hrc] at this
      exact FedR.behind K.ne hm this
  · cases h
theorem back_target {mode : Int} {c : Cm} {r0 x : Rw} {b2 : Bd} {l : List Int} (hr : r0 ∈ (if isl mode = true then tSln else tNor)) (ht : r0.b.t = 2) (hx : x ∈ tTar) (hb : bhd x.b r0.b.v = some b2) (h27 : c.r ≠ 27) (h0 : 0 ≤ c.c) (h9 : c.c ≤ 9999) (h : spR c ⟨b2, r0.ks ++ x.ks⟩ = some l) : FedR mode (ps0 (isl mode)) l c 1 := by
  have hbt := bhd_t hb
  have KX : RwK (fil tTar) x.ks x.b := RwK.of (okT _ (mem_fil filT_eq hx))
  have hxt := tT02 _ (mem_fil filT_eq hx)
  have hgo : ∀ (t : Rdg) (ks : List Int), Hdd t ks c.r c.c → (r0.ks.headD 0 = 48 → t.n = 0) → Mr mode ⟨isl mode, ks, t⟩ r0.ks ⟨isl mode, ks ++ r0.ks, addO t r0.b.v r0.ks.length⟩ ∧ bLs (isl mode) (addO t r0.b.v r0.ks.length) = fil tTar ∧ (addO t r0.b.v r0.ks.length).k = (ks ++ r0.ks).length ∧ ∀ xs, rcm (addO t r0.b.v r0.ks.length) x.b xs = (cmdB b2 c.r c.c (if b2.t = 1 then xs.headD 0 else 0), 1) := by
    intro t ks hd h48
    have K := tab_rw mode hr hd.o
    have hv : r0.b.v ≠ 0 := by
      rcases K.kin with h | h | h
      · rw [ht] at h; exact absurd h (by decide)
      · rw [ht] at h; exact absurd h (by decide)
      · exact h.2
    refine ⟨K.op rfl h48 hd.k ht, ?_, ?_, fun xs => ?_⟩
    · unfold bLs
      rw [if_neg (show ¬ (addO t r0.b.v r0.ks.length).o = 0 from hv)]
    · show t.k + (r0.ks.length : Int) = _
      rw [hd.k, List.length_append]
      omega
    · unfold rcm
      rw [if_neg (show ¬ (addO t r0.b.v r0.ks.length).o = 0 from hv), show (addO t r0.b.v r0.ks.length).o = r0.b.v from rfl, hb]
      show (cmdB b2 (endN t).r (if (0 : Int) > 0 then min (max (endN t).c 1 * 0) 9999 else (endN t).c) _, (1 : Int)) = _
      rw [hd.r, if_neg (by decide), hd.c]
  unfold spR at h
  split at h
  · rename_i he
    have he := eqC_iff.1 he
    have hne : r0.ks ≠ [] := by
      split at hr
      · exact (keysS _ hr).1
      · exact (keysN _ hr).1
    split at h
    · rename_i h1
      split at h
      · cases h
      · rename_i ha
        obtain ⟨ks, t, rfl, hm, hd, h48⟩ := pfx_mr (mode := mode) h27 h0 h9 h
        rw [head_app (by simp [hne]), head_app hne] at h48
        obtain ⟨m2, e1, e2, e3⟩ := hgo t ks hd h48
        have hrc : rcm (addO t r0.b.v r0.ks.length) x.b [c.a] = (c, 1) := by
          rw [e3, if_pos h1]
          show (cmdB b2 c.r c.c c.a, (1 : Int)) = _
          rw [he]
        have := KX.fin1 (mode := mode) e1 (fun _ => rfl) e2 (by rw [← hbt]; exact h1) ha (by rw [hrc])
        rw [hrc] at this
        rw [show ks ++ (r0.ks ++ x.ks ++ [c.a]) = ks ++ (r0.ks ++ (x.ks ++ [c.a])) by simp]
        exact FedR.behind (by simp) hm (FedR.behind (by simp) m2 this)
    · rename_i h1
      obtain ⟨ks, t, rfl, hm, hd, h48⟩ := pfx_mr (mode := mode) h27 h0 h9 h
      rw [head_app hne] at h48
      obtain ⟨m2, e1, e2, e3⟩ := hgo t ks hd h48
      have hz : x.b.t = 0 := by
        rcases hxt with h | h
        · exact h
        · rw [← hbt] at h
          exact absurd h h1
      have hrc : rcm (addO t r0.b.v r0.ks.length) x.b [] = (c, 1) := by
        rw [e3, if_neg h1, cmd_key h1 _ _ 0 c.a, he]
      have := KX.fin0 (mode := mode) e1 (fun _ => rfl) e2 hz (by rw [hrc])
      rw [hrc] at this
      exact FedR.behind (by simp [KX.ne]) hm (FedR.behind KX.ne m2 this)
  · cases h
/-- The theorem of the layer. -/
theorem spell_back {mode : Int} {c : Cm} {l : List Int} (h : spell mode c = some l) : FedR mode (ps0 false) l c 1 := by
  unfold spell at h
  split at h
  · cases h
  · rename_i hc
    have h0 : 0 ≤ c.c := by
      have : ¬ c.c < 0 := fun e => hc (.inl e)
      omega
    have h9 : c.c ≤ 9999 := by
      have : ¬ c.c > 9999 := fun e => hc (.inr (.inl e))
      omega
    have h27 : c.r ≠ 27 := fun e => hc (.inr (.inr e))
    have ha : ahd (ps0 (isl mode)) mode = ahd (ps0 false) mode := by
      unfold ahd
      rw [if_pos (show isl mode = (ps0 (isl mode)).sl from rfl)]
      split
      · rename_i e
        rw [show isl mode = false from e]
      · rfl
    refine FedR.ahd ha ?_
    rcases fold_mem h with h | ⟨r, hr, h⟩
    · cases h
    · obtain ⟨r0, hr0, hr⟩ := List.mem_flatMap.1 hr
      unfold exR at hr
      split at hr
      · split at hr
        · rename_i ht
          obtain ⟨x, hx, hx2⟩ := List.mem_filterMap.1 hr
          unfold tgF at hx2
          obtain ⟨b2, hb2, rfl⟩ := Option.map_eq_some_iff.1 hx2
          exact back_target hr0 ht hx hb2 h27 h0 h9 h
        · rename_i ht
          rw [List.mem_singleton.1 hr] at h
          exact back_simple hr0 ht h27 h0 h9 h
      · cases hr
/-- What is told is short, and of ints. -/
theorem spell_in {mode : Int} {c : Cm} {l : List Int} (hr : In64 c.r) (ha : In64 c.a) (h : spell mode c = some l) : l.length ≤ 100 ∧ l ≠ [] ∧ ∀ k ∈ l, In64 k := by
  unfold spell at h
  split at h
  · cases h
  · rcases fold_mem h with h | ⟨r, hm, h⟩
    · cases h
    · have hk : (∀ k ∈ r.ks, 0 ≤ k ∧ k ≤ 127) ∧ r.ks ≠ [] ∧ r.ks.length ≤ 4 := by
        refine ⟨?_, rwsOf_ok _ _ r hm⟩
        obtain ⟨r0, hr0, hm⟩ := List.mem_flatMap.1 hm
        have h0 := (tab_rw mode hr0 (t := rdg0) rfl).byt
        unfold exR at hm
        split at hm
        · split at hm
          · obtain ⟨x, hx, hx2⟩ := List.mem_filterMap.1 hm
            unfold tgF at hx2
            obtain ⟨b2, hb2, rfl⟩ := Option.map_eq_some_iff.1 hx2
            intro k hk
            rcases List.mem_append.1 hk with hk | hk
            · exact h0 k hk
            · exact (RwK.of (okT _ (mem_fil filT_eq hx))).byt k hk
          · rw [List.mem_singleton.1 hm]
            exact h0
        · cases hm
      have hpf : ∀ {K l : List Int}, (∀ k ∈ K, In64 k) → K ≠ [] → K.length ≤ 5 → pfx K c.r c.c = some l → l.length ≤ 100 ∧ l ≠ [] ∧ ∀ k ∈ l, In64 k := by
        intro K l hK hne hl hp
        obtain ⟨a1, a2⟩ := pfx_ne hne hp
        have hnm : ∀ k ∈ nmK c.r, In64 k := by
          unfold nmK
          split
          · intro k hk; cases hk
          · intro k hk
            simp only [List.mem_cons, List.not_mem_nil, or_false] at hk
            rcases hk with rfl | rfl
            · exact In64.of (by omega) (by omega)
            · exact hr
        have hnb : ∀ k ∈ nbK c.c, In64 k := by
          unfold nbK
          split
          · intro k hk
            have := dg_mem _ _ k hk
            exact In64.of (by omega) (by omega)
          · intro k hk; cases hk
        refine ⟨by omega, a1, ?_⟩
        unfold pfx at hp
        split at hp
        · injection hp with hp
          rw [← hp]
          intro k hk
          rcases List.mem_append.1 hk with hk | hk
          · rcases List.mem_append.1 hk with hk | hk
            · exact hnm k hk
            · exact hnb k hk
          · exact hK k hk
        · split at hp
          · cases hp
          · injection hp with hp
            rw [← hp]
            intro k hk
            rcases List.mem_append.1 hk with hk | hk
            · rcases List.mem_append.1 hk with hk | hk
              · exact hnb k hk
              · exact hnm k hk
            · exact hK k hk
      have hin : ∀ k ∈ r.ks, In64 k := fun k h => by have := hk.1 k h; exact In64.of (by omega) (by omega)
      unfold spR at h
      split at h
      · split at h
        · split at h
          · cases h
          · refine hpf (fun k h => ?_) (by simp) (by rw [List.length_append, List.length_singleton]; omega) h
            rcases List.mem_append.1 h with h | h
            · exact hin k h
            · rw [List.mem_singleton.1 h]; exact ha
        · exact hpf hin hk.2.1 (by omega) h
      · cases h
end Go.Proofs.YtfdceljdhgbkcaaGreatDoor
