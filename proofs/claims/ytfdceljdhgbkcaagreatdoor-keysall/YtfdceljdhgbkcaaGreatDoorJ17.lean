import Derived.Test.YtfdceljdhgbkcaaGreatDoorJ10
import Derived.Test.YtfdceljdhgbkcaaGreatDoorJ16
/- Keys one behind the other; the digits of a number. -/
namespace Go.Proofs.YtfdceljdhgbkcaaGreatDoor
open Go.RowKit
/-- What a turn of the reading leaves. -/
theorem rst_ok {sl : Bool} {t : Rdg} {ks : List Int} (ht : t.Ok) (hk : t.k < ks.length) (hl : ks.length ≤ 1152921504606846976) :
    (rst sl t (ks.drop t.k.toNat)).t.Ok ∧ (rst sl t (ks.drop t.k.toNat)).t.k ≤ ks.length ∧ ((rst sl t (ks.drop t.k.toNat)).g = false → ((rst sl t (ks.drop t.k.toNat)).s = 0 ∨ (rst sl t (ks.drop t.k.toNat)).s = 1 ∨ (rst sl t (ks.drop t.k.toNat)).s = 2) ∧ ((rst sl t (ks.drop t.k.toNat)).s ≠ 1 → (rst sl t (ks.drop t.k.toNat)).c = cmZ)) := by
  have hk0 := ht.k0
  have hlen : (ks.drop t.k.toNat).length = ks.length - t.k.toNat := List.length_drop
  generalize ks.drop t.k.toNat = l at *
  unfold rst
  split
  · rename_i hg
    obtain ⟨h1, h2⟩ := gow_dig hg
    refine ⟨ht.addD _ h1 (by omega), ?_, fun (h : true = false) => by cases h⟩
    show t.k + 1 ≤ _
    omega
  · split
    · split
      · exact ⟨ht, by show t.k ≤ _; omega, fun _ => ⟨.inl rfl, fun _ => rfl⟩⟩
      · split
        · exact ⟨ht, by show t.k ≤ _; omega, fun _ => ⟨.inr (.inr rfl), fun _ => rfl⟩⟩
        · refine ⟨ht.addR _ (by omega), ?_, fun (h : true = false) => by cases h⟩
          show t.k + 2 ≤ _
          omega
    · split
      · exact ⟨ht, by show t.k ≤ _; omega, fun _ => ⟨.inl rfl, fun _ => rfl⟩⟩
      · rename_i n hn
        obtain ⟨hn1, _⟩ := bgn_spec hn
        split
        · exact ⟨ht, by show t.k ≤ _; omega, fun _ => ⟨.inr (.inr rfl), fun _ => rfl⟩⟩
        · split
          · exact ⟨ht, by show t.k ≤ _; omega, fun _ => ⟨.inl rfl, fun _ => rfl⟩⟩
          · split
            · refine ⟨ht.addO _ _ (by omega) (by omega) (by omega), ?_, fun (h : true = false) => by cases h⟩
              show t.k + ((n : Int) + 1) ≤ _
              omega
            · refine ⟨ht.endN, by show t.k ≤ _; omega, fun _ => ?_⟩
              generalize (lkV (bLs sl t) (l.take (n + 1))).getD bd0 = b
              generalize l.drop (n + 1) = bs
              show ((rcm t b bs).2 = 0 ∨ (rcm t b bs).2 = 1 ∨ (rcm t b bs).2 = 2) ∧ ((rcm t b bs).2 ≠ 1 → (rcm t b bs).1 = cmZ)
              unfold rcm
              split
              · exact ⟨.inr (.inl rfl), fun h => absurd rfl h⟩
              · split
                · exact ⟨.inr (.inr rfl), fun _ => rfl⟩
                · exact ⟨.inr (.inl rfl), fun h => absurd rfl h⟩
theorem rdo_ok {sl : Bool} {ks : List Int} (hl : ks.length ≤ 1152921504606846976) {t' : Rdg} {c : Cm} {s : Int} : ∀ (f : Nat) (t : Rdg), t.Ok → t.k ≤ ks.length → rdo sl ks f t = some (t', c, s) → t'.Ok ∧ t'.k ≤ ks.length ∧ (s = 0 ∨ s = 1 ∨ s = 2) ∧ (s ≠ 1 → c = cmZ)
  | 0, _, _, _, h => by cases h
  | f + 1, t, ht, hk, h => by
    rw [rdo] at h
    split at h
    · rename_i h1
      obtain ⟨a1, a2, a3⟩ := rst_ok (sl := sl) ht h1 hl
      split at h
      · exact rdo_ok hl f _ a1 a2 h
      · rename_i h2
        injection h with h
        injection h with e1 h
        injection h with e2 e3
        obtain ⟨b1, b2⟩ := a3 (by simpa using h2)
        rw [← e1, ← e2, ← e3]
        exact ⟨a1, a2, b1, b2⟩
    · injection h with h
      injection h with e1 h
      injection h with e2 e3
      rw [← e1, ← e2, ← e3]
      exact ⟨ht, hk, .inl rfl, fun _ => rfl⟩
theorem Rdo.ok {sl : Bool} {ks : List Int} (hl : ks.length ≤ 1152921504606846976) {t t' : Rdg} {c : Cm} {s : Int} (h : Rdo sl ks t t' c s) (ht : t.Ok) (hk : t.k ≤ ks.length) : t'.Ok ∧ t'.k ≤ ks.length ∧ (s = 0 ∨ s = 1 ∨ s = 2) ∧ (s ≠ 1 → c = cmZ) := by
  obtain ⟨f, hf⟩ := h
  exact rdo_ok hl f t ht hk hf
/-- What a parser holds: whether it is of a selection, the keys that are pending, what they have told. -/
structure Ps where
  sl : Bool
  ks : List Int
  t : Rdg
def ps0 (sl : Bool) : Ps := ⟨sl, [], rdg0⟩
/-- What a parser holds when a key comes, by the mode. -/
def ahd (p : Ps) (mode : Int) : Ps := if isl mode = p.sl then p else ps0 (isl mode)
/-- One key. -/
def FdR (p : Ps) (mode key : Int) (q : Ps) (c : Cm) (s : Int) : Prop :=
  (key = 27 ∧ q = ps0 (isl mode) ∧ c = cmZ ∧ s = 3) ∨ (key ≠ 27 ∧ ∃ u, Rdo (isl mode) ((ahd p mode).ks ++ [key]) (ahd p mode).t u c s ∧ ((s = 0 ∧ q = ⟨isl mode, (ahd p mode).ks ++ [key], u⟩) ∨ (s ≠ 0 ∧ q = ps0 (isl mode))))
theorem FdR.det {p q q' : Ps} {mode key : Int} {c c' : Cm} {s s' : Int} (h : FdR p mode key q c s) (g : FdR p mode key q' c' s') : q = q' ∧ c = c' ∧ s = s' := by
  rcases h with ⟨h1, h2, h3, h4⟩ | ⟨h1, u, hu, h2⟩ <;> rcases g with ⟨g1, g2, g3, g4⟩ | ⟨g1, v, hv, g2⟩
  · exact ⟨h2.trans g2.symm, h3.trans g3.symm, h4.trans g4.symm⟩
  · exact absurd h1 g1
  · exact absurd g1 h1
  · obtain ⟨e1, e2, e3⟩ := hu.det hv
    subst e1 e2 e3
    refine ⟨?_, rfl, rfl⟩
    rcases h2 with ⟨a, b⟩ | ⟨a, b⟩ <;> rcases g2 with ⟨d, e⟩ | ⟨d, e⟩
    · exact b.trans e.symm
    · exact absurd a d
    · exact absurd d a
    · exact b.trans e.symm
/-- What is pending was given; what was told fits it. -/
structure Ps.Ok (p : Ps) : Prop where
  t : p.t.Ok
  k : p.t.k ≤ p.ks.length
  i : ∀ k ∈ p.ks, In64 k
theorem rdg0_ok : rdg0.Ok := ⟨by decide, by decide, by decide, by decide, by decide, by decide⟩
theorem ps0_ok (sl : Bool) : (ps0 sl).Ok := ⟨rdg0_ok, by show (0 : Int) ≤ ((0 : Nat) : Int); decide, fun k hk => by cases hk⟩
theorem ahd_ok {p : Ps} (h : p.Ok) (mode : Int) : (ahd p mode).Ok := by
  unfold ahd
  split
  · exact h
  · exact ps0_ok _
theorem ahd_len (p : Ps) (mode : Int) : (ahd p mode).ks.length ≤ p.ks.length := by
  unfold ahd
  split
  · exact Nat.le_refl _
  · exact Nat.zero_le _
theorem ahd_sl (p : Ps) (mode : Int) : (ahd p mode).sl = isl mode := by
  unfold ahd
  split
  · rename_i h; exact h.symm
  · rfl
theorem FdR.ok {p q : Ps} {mode key : Int} {c : Cm} {s : Int} (h : FdR p mode key q c s) (hp : p.Ok) (hk : In64 key) (hl : p.ks.length < 1152921504606846976) :
    q.Ok ∧ q.sl = isl mode ∧ q.ks.length ≤ p.ks.length + 1 ∧ (0 ≤ s ∧ s ≤ 3) ∧ (s ≠ 1 → c = cmZ) ∧ (s = 0 → q.ks ≠ []) ∧ (s ≠ 0 → q = ps0 (isl mode)) := by
  rcases h with ⟨h1, rfl, rfl, rfl⟩ | ⟨h1, u, hu, h2⟩
  · exact ⟨ps0_ok _, rfl, Nat.zero_le _, by decide, fun _ => rfl, fun h => absurd h (by decide), fun _ => rfl⟩
  · have ha := ahd_ok hp mode
    have hal := ahd_len p mode
    have hln : ((ahd p mode).ks ++ [key]).length = (ahd p mode).ks.length + 1 := by simp
    obtain ⟨k1, k2, k3, k4⟩ := hu.ok (by omega) ha.t (by have := ha.k; omega)
    have h3 : 0 ≤ s ∧ s ≤ 3 := by omega
    rcases h2 with ⟨e, rfl⟩ | ⟨e, rfl⟩
    · refine ⟨⟨k1, k2, ?_⟩, rfl, by show ((ahd p mode).ks ++ [key]).length ≤ _; omega, h3, k4, fun _ => by simp, fun h => absurd e h⟩
      intro k hk
      rcases List.mem_append.1 hk with hk | hk
      · exact ha.i k hk
      · rw [List.mem_singleton.1 hk]
        assumption
    · exact ⟨ps0_ok _, rfl, Nat.zero_le _, h3, k4, fun h => absurd h e, fun _ => rfl⟩
/-- Keys after which more are wanted, each. -/
def Mr (mode : Int) : Ps → List Int → Ps → Prop
  | p, [], q => p = q
  | p, x :: xs, q => ∃ r, FdR p mode x r cmZ 0 ∧ Mr mode r xs q
theorem Mr.append {mode : Int} : ∀ {xs : List Int} {p q r : Ps} {ys : List Int}, Mr mode p xs q → Mr mode q ys r → Mr mode p (xs ++ ys) r
  | [], _, _, _, _, h, g => by cases h; exact g
  | _ :: _, _, _, _, _, ⟨u, h1, h2⟩, g => ⟨u, h1, Mr.append h2 g⟩
/-- What fed answers. -/
def FedR (mode : Int) : Ps → List Int → Cm → Int → Prop
  | _, [], c, s => c = cmZ ∧ s = -1
  | p, x :: xs, c, s => if xs = [] then ∃ q, FdR p mode x q c s else ∃ q c1 s1, FdR p mode x q c1 s1 ∧ ((s1 = 0 ∧ FedR mode q xs c s) ∨ (s1 ≠ 0 ∧ c = cmZ ∧ s = -1))
theorem FedR.det {mode : Int} : ∀ {l : List Int} {p : Ps} {c c' : Cm} {s s' : Int}, FedR mode p l c s → FedR mode p l c' s' → c = c' ∧ s = s'
  | [], _, _, _, _, _, h, g => ⟨h.1.trans g.1.symm, h.2.trans g.2.symm⟩
  | x :: xs, _, _, _, _, _, h, g => by
    rw [FedR] at h g
    split at h
    · rename_i hx
      rw [if_pos hx] at g
      obtain ⟨_, h⟩ := h
      obtain ⟨_, g⟩ := g
      exact (h.det g).2
    · rename_i hx
      rw [if_neg hx] at g
      obtain ⟨q, c1, s1, h1, h2⟩ := h
      obtain ⟨q', c2, s2, g1, g2⟩ := g
      obtain ⟨rfl, rfl, rfl⟩ := h1.det g1
      rcases h2 with ⟨a, b⟩ | ⟨a, b, d⟩ <;> rcases g2 with ⟨a', b'⟩ | ⟨a', b', d'⟩
      · exact b.det b'
      · exact absurd a a'
      · exact absurd a' a
      · exact ⟨b.trans b'.symm, d.trans d'.symm⟩
/-- Keys after which more are wanted, and a last one. -/
theorem FedR.of_mr {mode : Int} : ∀ {l : List Int} {p q : Ps} {x : Int} {r : Ps} {c : Cm} {s : Int}, Mr mode p l q → FdR q mode x r c s → FedR mode p (l ++ [x]) c s
  | [], _, _, _, _, _, _, h, g => by cases h; exact ⟨_, g⟩
  | y :: ys, _, _, _, _, _, _, ⟨u, h1, h2⟩, g => by
    show (if ys ++ [_] = [] then _ else _)
    rw [if_neg (by simp)]
    exact ⟨u, cmZ, 0, h1, .inl ⟨rfl, FedR.of_mr h2 g⟩⟩
/-- The digits of a number, so many at most. -/
def dg : Nat → Nat → List Int
  | 0, _ => []
  | f + 1, n => if n = 0 then [] else dg f (n / 10) ++ [48 + ((n % 10 : Nat) : Int)]
theorem dg_len : ∀ (f n : Nat), (dg f n).length ≤ f
  | 0, _ => Nat.le_refl _
  | f + 1, n => by
    rw [dg]
    split
    · exact Nat.zero_le _
    · rw [List.length_append]
      exact Nat.succ_le_succ (dg_len f _)
theorem dg_zero (f : Nat) : dg f 0 = [] := by
  cases f
  · rfl
  · rw [dg, if_pos rfl]
theorem dg_mem : ∀ (f n : Nat), ∀ x ∈ dg f n, 48 ≤ x ∧ x ≤ 57
  | 0, _, x, hx => by cases hx
  | f + 1, n, x, hx => by
    rw [dg] at hx
    split at hx
    · cases hx
    · rcases List.mem_append.1 hx with h | h
      · exact dg_mem f _ x h
      · rw [List.mem_singleton.1 h]
        have := Nat.mod_lt n (show 10 > 0 by decide)
        omega
theorem dg_fuel : ∀ (f g n : Nat), n < 10 ^ f → f ≤ g → dg g n = dg f n
  | 0, g, n, h, _ => by
    have : n = 0 := by simpa using h
    subst this
    rw [dg_zero, dg_zero]
  | f + 1, 0, _, _, hg => absurd hg (by omega)
  | f + 1, g + 1, n, h, hg => by
    rw [dg, dg]
    split
    · rfl
    · rw [dg_fuel f g (n / 10) (by rw [Nat.pow_succ] at h; omega) (by omega)]
section
variable {p : Ps}
/-- The state: mode Normal, all keys read. -/
theorem fdr_more {key : Int} {u : Rdg} (hs : p.sl = false) (hk : key ≠ 27) (h : Rdo false (p.ks ++ [key]) p.t u cmZ 0) : FdR p 0 key ⟨false, p.ks ++ [key], u⟩ cmZ 0 := by
  have e : ahd p 0 = p := by unfold ahd; rw [if_pos (by rw [hs]; rfl)]
  refine .inr ⟨hk, u, ?_, .inl ⟨rfl, ?_⟩⟩ <;> rw [e]
  · exact h
  · rfl
theorem fdr_done {key : Int} {u : Rdg} {c : Cm} (hs : p.sl = false) (hk : key ≠ 27) (h : Rdo false (p.ks ++ [key]) p.t u c 1) : FdR p 0 key (ps0 false) c 1 := by
  have e : ahd p 0 = p := by unfold ahd; rw [if_pos (by rw [hs]; rfl)]
  refine .inr ⟨hk, u, ?_, .inr ⟨by decide, rfl⟩⟩
  rw [e]
  exact h
theorem drop_last {ks xs : List Int} {k : Int} (h : k = ks.length) : (ks ++ xs).drop k.toNat = xs := by
  subst h
  simp
theorem rd_dig {sl : Bool} {ks : List Int} {t : Rdg} {x : Int} (hk : t.k = ks.length) (hg : gow t x = true) : Rdo sl (ks ++ [x]) t (addD t x) cmZ 0 := by
  refine .more (by rw [hk, List.length_append, List.length_singleton]; omega) (t' := addD t x) ?_ (.over ?_)
  · rw [drop_last hk]
    unfold rst
    rw [if_pos (show gow t ([x].headD 0) = true from hg)]
    rfl
  · show ¬ t.k + 1 < _
    rw [hk, List.length_append, List.length_singleton]
    omega
theorem gow_34 (t : Rdg) : ¬ gow t 34 = true := by unfold gow; simp
theorem rd_quote {sl : Bool} {ks : List Int} {t : Rdg} (hk : t.k = ks.length) (ho : t.o = 0) : Rdo sl (ks ++ [34]) t t cmZ 0 := by
  refine .done (by rw [hk, List.length_append, List.length_singleton]; omega) ?_
  rw [drop_last hk]
  unfold rst
  rw [if_neg (show ¬ gow t ([34].headD 0) = true from gow_34 t), if_pos ⟨rfl, ho⟩, if_pos (show ([34] : List Int).length = 1 from rfl)]
theorem rd_name {sl : Bool} {ks : List Int} {t : Rdg} {x : Int} (hk : t.k = ks.length) (ho : t.o = 0) (hx : x ≠ 0) : Rdo sl (ks ++ [34] ++ [x]) t (addR t x) cmZ 0 := by
  rw [List.append_assoc]
  have hl : (ks ++ ([34] ++ [x])).length = ks.length + 2 := by simp
  refine .more (by rw [hk, hl]; omega) (t' := addR t x) ?_ (.over ?_)
  · rw [drop_last hk]
    unfold rst
    rw [if_neg (show ¬ gow t (([34] ++ [x] : List Int).headD 0) = true from gow_34 t), if_pos ⟨rfl, ho⟩, if_neg (by simp), if_neg (by simpa using hx)]
    rfl
  · show ¬ t.k + 2 < _
    rw [hk, hl]
    omega
theorem bgn_d : bgn (fil tNor) [100] = some 0 := by rw [filN_eq]; kernel_rfl
theorem lks_d : lkS (fil tNor) [100] = 1 := by rw [filN_eq]; kernel_rfl
theorem lkv_d : lkV (fil tNor) [100] = some ⟨2, 0, 0, 2⟩ := by rw [filN_eq]; kernel_rfl
theorem bgn_j : bgn (fil tTar) [106] = some 0 := by rw [filT_eq]; kernel_rfl
theorem lks_j : lkS (fil tTar) [106] = 1 := by rw [filT_eq]; kernel_rfl
theorem lkv_j : lkV (fil tTar) [106] = some ⟨1, 11, 0, 0⟩ := by rw [filT_eq]; kernel_rfl
theorem gow_big (t : Rdg) (x : Int) (h : 57 < x) : ¬ gow t x = true := fun e => by have := gow_dig e; omega
theorem ask_one {L : List (List Int × Bd)} {x : Int} {d : Bd} (h1 : bgn L [x] = some 0) (h2 : lkS L [x] = 1) (h3 : lkV L [x] = some d) : bS L [x] = 1 ∧ bX L [x] = d ∧ bB L [x] = [] := by
  refine ⟨?_, ?_, ?_⟩
  · unfold bS; rw [h1]; exact h2
  · unfold bX
    rw [h1]
    show (lkV L [x]).getD bd0 = d
    rw [h3]
    rfl
  · unfold bB; rw [h1]; rfl
theorem rst_op {sl : Bool} {t : Rdg} {x : Int} {L : List (List Int × Bd)} {d : Bd} (e : bLs sl t = L) (hg : ¬ gow t x = true) (hq : x ≠ 34) (h1 : bgn L [x] = some 0) (h2 : lkS L [x] = 1) (h3 : lkV L [x] = some d) (hd : d.t = 2) : rst sl t [x] = .go (addO t d.v 1) := by
  obtain ⟨a1, a2, a3⟩ := ask_one h1 h2 h3
  rw [rst_ask (l := [x]) hg (fun h => absurd h.1 hq), e, a1, a2, a3, if_neg (by decide), if_neg, if_pos hd]
  · rfl
  · rintro (h | ⟨h, _⟩)
    · exact absurd h (by decide)
    · rw [hd] at h
      exact absurd h (by decide)
theorem rst_cmd {sl : Bool} {t : Rdg} {x : Int} {L : List (List Int × Bd)} {d : Bd} (e : bLs sl t = L) (hg : ¬ gow t x = true) (hq : x ≠ 34) (h1 : bgn L [x] = some 0) (h2 : lkS L [x] = 1) (h3 : lkV L [x] = some d) (hd : d.t = 0) : rst sl t [x] = .fin (endN t) (rcm t d []).1 (rcm t d []).2 := by
  obtain ⟨a1, a2, a3⟩ := ask_one h1 h2 h3
  rw [rst_ask (l := [x]) hg (fun h => absurd h.1 hq), e, a1, a2, a3, if_neg (by decide), if_neg, if_neg (by rw [hd]; decide)]
  rintro (h | ⟨h, _⟩)
  · exact absurd h (by decide)
  · rw [hd] at h
    exact absurd h (by decide)
theorem rd_d {ks : List Int} {t : Rdg} (hk : t.k = ks.length) (ho : t.o = 0) : Rdo false (ks ++ [100]) t (addO t 2 1) cmZ 0 := by
  refine .more (by rw [hk, List.length_append, List.length_singleton]; omega) (t' := addO t 2 1) ?_ (.over ?_)
  · rw [drop_last hk]
    exact rst_op (by unfold bLs; rw [if_pos ho]; rfl) (gow_big t 100 (by decide)) (by decide) bgn_d lks_d lkv_d rfl
  · show ¬ t.k + 1 < _
    rw [hk, List.length_append, List.length_singleton]
    omega
theorem rd_j {ks : List Int} {t : Rdg} (hk : t.k = ks.length) (ho : t.o = 2) : Rdo false (ks ++ [106]) t (endN t) ⟨(endN t).r, (endN t).c, 2, 11, 0⟩ 1 := by
  refine .done (by rw [hk, List.length_append, List.length_singleton]; omega) ?_
  rw [drop_last hk, rst_cmd (by unfold bLs; rw [if_neg (by rw [ho]; decide)]) (gow_big t 106 (by decide)) (by decide) bgn_j lks_j lkv_j rfl]
  unfold rcm
  rw [if_neg (by rw [ho]; decide)]
  show Stp.fin (endN t) (cmdB { v := t.o, m := 11, a := 0, t := 0 } (endN t).r (endN t).c 0) 1 = _
  rw [ho]
  unfold cmdB
  rw [if_neg (fun h => absurd h.1 (by decide)), if_neg (by decide)]
end
/-- A number's digits, at a place where no number has begun. -/
theorem mr_dg : ∀ (f n : Nat) (ks : List Int) (t : Rdg), t.k = ks.length → t.n = 0 → n < 10 ^ f → Mr 0 ⟨false, ks, t⟩ (dg f n) ⟨false, ks ++ dg f n, { t with n := min (n : Int) 9999, k := t.k + ((dg f n).length : Int) }⟩
  | 0, n, ks, t, hk, hn, h => by
    have : n = 0 := by simpa using h
    subst this
    show (⟨false, ks, t⟩ : Ps) = _
    obtain ⟨k, r, c, m, o⟩ := t
    simp only at hn hk
    subst hn hk
    simp [dg]
    decide
  | f + 1, n, ks, t, hk, hn, h => by
    rw [dg]
    split
    · rename_i h0
      subst h0
      show (⟨false, ks, t⟩ : Ps) = _
      obtain ⟨k, r, c, m, o⟩ := t
      simp only at hn hk
      subst hn hk
      simp
      decide
    · rename_i h0
      have ih := mr_dg f (n / 10) ks t hk hn (by rw [Nat.pow_succ] at h; omega)
      refine ih.append ?_
      have hm := Nat.mod_lt n (show 10 > 0 by decide)
      have hd := Nat.div_add_mod n 10
      generalize dg f (n / 10) = D
      generalize n / 10 = a at *
      generalize n % 10 = d at *
      have hg : gow { t with n := min (a : Int) 9999, k := t.k + (D.length : Int) } (48 + (d : Int)) = true := by
        unfold gow
        simp only [Bool.or_eq_true, Bool.and_eq_true, decide_eq_true_eq, beq_iff_eq]
        by_cases hd0 : d = 0
        · right
          subst hd0
          exact ⟨by omega, by omega⟩
        · left
          omega
      refine ⟨_, fdr_more (p := ⟨false, ks ++ D, { t with n := min (a : Int) 9999, k := t.k + (D.length : Int) }⟩) rfl (by omega) (rd_dig ?_ hg), ?_⟩
      · show t.k + (D.length : Int) = _
        rw [hk, List.length_append]
        omega
      · show (_ : Ps) = _
        unfold addD
        simp only [List.append_assoc, List.length_append, List.length_singleton]
        congr 2
        · omega
        · omega
/-- KeysCount's keys. -/
theorem count_keys {f : Nat} {a b c : Nat} {x : Int} (ha : a < 10 ^ f) (hb : b < 10 ^ f) (hc : c < 10 ^ f) (ha0 : 0 < a) (hb0 : 0 < b) (hc0 : 0 < c) (hx : x ≠ 0) (hx2 : x ≠ 27) :
    FedR 0 (ps0 false) (dg f a ++ [34] ++ [x] ++ dg f b ++ [100] ++ dg f c ++ [106]) ⟨x, min (min (min (a : Int) 9999 * min (b : Int) 9999) 9999 * min (c : Int) 9999) 9999, 2, 11, 0⟩ 1 := by
  have m1 := mr_dg f a [] rdg0 rfl rfl ha
  rw [List.nil_append] at m1
  generalize dg f a = A at *
  have hk1 : ({ rdg0 with n := min (a : Int) 9999, k := rdg0.k + (A.length : Int) } : Rdg).k = (A.length : Int) := by show (0 : Int) + _ = _; omega
  have m2 : Mr 0 ⟨false, A, { rdg0 with n := min (a : Int) 9999, k := rdg0.k + (A.length : Int) }⟩ [34] ⟨false, A ++ [34], { rdg0 with n := min (a : Int) 9999, k := rdg0.k + (A.length : Int) }⟩ := ⟨_, fdr_more (p := ⟨false, A, { rdg0 with n := min (a : Int) 9999, k := rdg0.k + (A.length : Int) }⟩) rfl (by decide) (rd_quote (ks := A) hk1 rfl), rfl⟩
  have m3 : Mr 0 ⟨false, A ++ [34], { rdg0 with n := min (a : Int) 9999, k := rdg0.k + (A.length : Int) }⟩ [x] ⟨false, A ++ [34] ++ [x], addR { rdg0 with n := min (a : Int) 9999, k := rdg0.k + (A.length : Int) } x⟩ := ⟨_, fdr_more (p := ⟨false, A ++ [34], { rdg0 with n := min (a : Int) 9999, k := rdg0.k + (A.length : Int) }⟩) rfl hx2 (rd_name (ks := A) hk1 rfl hx), rfl⟩
  have m4 := mr_dg f b (A ++ [34] ++ [x]) (addR { rdg0 with n := min (a : Int) 9999, k := rdg0.k + (A.length : Int) } x) (by show (0 : Int) + (A.length : Int) + 2 = _; simp only [List.length_append, List.length_singleton]; omega) rfl hb
  generalize dg f b = B at *
  have e1 : (addR { rdg0 with n := min (a : Int) 9999, k := rdg0.k + (A.length : Int) } x) = ⟨(A.length : Int) + 2, x, min (a : Int) 9999, 0, 0⟩ := by
    unfold addR endN rdg0
    simp only
    rw [if_pos (by omega), show max (0 : Int) 1 = 1 by decide, Int.one_mul]
    congr 1
    · omega
    · omega
  rw [e1] at m3 m4
  have hk2 : ({ (⟨(A.length : Int) + 2, x, min (a : Int) 9999, 0, 0⟩ : Rdg) with n := min (b : Int) 9999, k := (A.length : Int) + 2 + (B.length : Int) } : Rdg).k = ((A ++ [34] ++ [x] ++ B).length : Int) := by show (A.length : Int) + 2 + (B.length : Int) = _; simp only [List.length_append, List.length_singleton]; omega
  have m5 : Mr 0 ⟨false, A ++ [34] ++ [x] ++ B, { (⟨(A.length : Int) + 2, x, min (a : Int) 9999, 0, 0⟩ : Rdg) with n := min (b : Int) 9999, k := (A.length : Int) + 2 + (B.length : Int) }⟩ [100] ⟨false, A ++ [34] ++ [x] ++ B ++ [100], addO { (⟨(A.length : Int) + 2, x, min (a : Int) 9999, 0, 0⟩ : Rdg) with n := min (b : Int) 9999, k := (A.length : Int) + 2 + (B.length : Int) } 2 1⟩ := ⟨_, fdr_more (p := ⟨false, A ++ [34] ++ [x] ++ B, { (⟨(A.length : Int) + 2, x, min (a : Int) 9999, 0, 0⟩ : Rdg) with n := min (b : Int) 9999, k := (A.length : Int) + 2 + (B.length : Int) }⟩) rfl (by decide) (rd_d hk2 rfl), rfl⟩
  have e2 : addO ({ (⟨(A.length : Int) + 2, x, min (a : Int) 9999, 0, 0⟩ : Rdg) with n := min (b : Int) 9999, k := (A.length : Int) + 2 + (B.length : Int) }) 2 1 = ⟨(A.length : Int) + 2 + (B.length : Int) + 1, x, min (min (a : Int) 9999 * min (b : Int) 9999) 9999, 0, 2⟩ := by
    unfold addO endN
    simp only
    rw [if_pos (by omega), show max (min (a : Int) 9999) 1 = min (a : Int) 9999 by omega]
  rw [e2] at m5
  have m6 := mr_dg f c (A ++ [34] ++ [x] ++ B ++ [100]) ⟨(A.length : Int) + 2 + (B.length : Int) + 1, x, min (min (a : Int) 9999 * min (b : Int) 9999) 9999, 0, 2⟩ (by show (A.length : Int) + 2 + (B.length : Int) + 1 = _; simp only [List.length_append, List.length_singleton]; omega) rfl hc
  generalize dg f c = C at *
  have hpos : 1 ≤ min (a : Int) 9999 * min (b : Int) 9999 := by
    have := Int.mul_le_mul (show (1 : Int) ≤ min (a : Int) 9999 by omega) (show (1 : Int) ≤ min (b : Int) 9999 by omega) (by decide) (by omega)
    omega
  generalize min (a : Int) 9999 * min (b : Int) 9999 = P at *
  have hk3 : ({ (⟨(A.length : Int) + 2 + (B.length : Int) + 1, x, min P 9999, 0, 2⟩ : Rdg) with n := min (c : Int) 9999, k := (A.length : Int) + 2 + (B.length : Int) + 1 + (C.length : Int) } : Rdg).k = ((A ++ [34] ++ [x] ++ B ++ [100] ++ C).length : Int) := by show (A.length : Int) + 2 + (B.length : Int) + 1 + (C.length : Int) = _; simp only [List.length_append, List.length_singleton]; omega
  have m7 : FdR ⟨false, A ++ [34] ++ [x] ++ B ++ [100] ++ C, { (⟨(A.length : Int) + 2 + (B.length : Int) + 1, x, min P 9999, 0, 2⟩ : Rdg) with n := min (c : Int) 9999, k := (A.length : Int) + 2 + (B.length : Int) + 1 + (C.length : Int) }⟩ 0 106 (ps0 false) ⟨(endN { (⟨(A.length : Int) + 2 + (B.length : Int) + 1, x, min P 9999, 0, 2⟩ : Rdg) with n := min (c : Int) 9999, k := (A.length : Int) + 2 + (B.length : Int) + 1 + (C.length : Int) }).r, (endN { (⟨(A.length : Int) + 2 + (B.length : Int) + 1, x, min P 9999, 0, 2⟩ : Rdg) with n := min (c : Int) 9999, k := (A.length : Int) + 2 + (B.length : Int) + 1 + (C.length : Int) }).c, 2, 11, 0⟩ 1 := fdr_done (p := ⟨false, A ++ [34] ++ [x] ++ B ++ [100] ++ C, { (⟨(A.length : Int) + 2 + (B.length : Int) + 1, x, min P 9999, 0, 2⟩ : Rdg) with n := min (c : Int) 9999, k := (A.length : Int) + 2 + (B.length : Int) + 1 + (C.length : Int) }⟩) rfl (by decide) (rd_j hk3 rfl)
  have e3 : endN ({ (⟨(A.length : Int) + 2 + (B.length : Int) + 1, x, min P 9999, 0, 2⟩ : Rdg) with n := min (c : Int) 9999, k := (A.length : Int) + 2 + (B.length : Int) + 1 + (C.length : Int) }) = ⟨(A.length : Int) + 2 + (B.length : Int) + 1 + (C.length : Int), x, min (min P 9999 * min (c : Int) 9999) 9999, 0, 2⟩ := by
    unfold endN
    simp only
    rw [if_pos (by omega), show max (min P 9999) 1 = min P 9999 by omega]
  rw [e3] at m7
  exact FedR.of_mr (((((m1.append m2).append m3).append m4).append m5).append m6) m7
end Go.Proofs.YtfdceljdhgbkcaaGreatDoor

/- Spell: what it tells, pure. -/
namespace Go.Proofs.YtfdceljdhgbkcaaGreatDoor
open Go.RowKit
/-- An operator's row with all that may stand behind it. -/
def tgF (r t : Rw) : Option Rw := (bhd t.b r.b.v).map fun b => ⟨b, r.ks ++ t.ks⟩
def tgs (r : Rw) : List Rw := tTar.filterMap (tgF r)
def exR (v : Int) (r : Rw) : List Rw := if r.b.v = v then (if r.b.t = 2 then tgs r else [r]) else []
def rwsOf (sl : Bool) (v : Int) : List Rw := (if sl = true then tSln else tNor).flatMap (exR v)
/-- A register and a count ahead of keys. -/
def nmK (reg : Int) : List Int := if reg = 0 then [] else [34, reg]
def nbK (cnt : Int) : List Int := if cnt > 0 then dg 20 cnt.toNat else []
def pfx (ks : List Int) (reg cnt : Int) : Option (List Int) :=
  if cnt = 0 ∨ ks.headD 0 ≠ 48 then some (nmK reg ++ nbK cnt ++ ks) else if reg = 0 then none else some (nbK cnt ++ nmK reg ++ ks)
def eqC (x y : Cm) : Bool := x.r == y.r && (x.c == y.c && (x.v == y.v && (x.m == y.m && x.a == y.a)))
theorem eqC_iff {x y : Cm} : eqC x y = true ↔ x = y := by
  obtain ⟨x1, x2, x3, x4, x5⟩ := x
  obtain ⟨y1, y2, y3, y4, y5⟩ := y
  simp [eqC]
def spR (c : Cm) (r : Rw) : Option (List Int) :=
  if eqC (cmdB r.b c.r c.c c.a) c = true then (if r.b.t = 1 then (if c.a = 27 then none else pfx (r.ks ++ [c.a]) c.r c.c) else pfx r.ks c.r c.c) else none
/-- slices.Compare. -/
def cmpL : List Int → List Int → Int
  | [], [] => 0
  | [], _ :: _ => -1
  | _ :: _, [] => 1
  | x :: xs, y :: ys => if x < y then -1 else if y < x then 1 else cmpL xs ys
def bfr (a b : List Int) : Bool := if a.length = b.length then decide (cmpL a b < 0) else decide (a.length < b.length)
def bstF (c : Cm) (best : Option (List Int)) (r : Rw) : Option (List Int) :=
  match spR c r, best with
  | none, b => b
  | some k, none => some k
  | some k, some b => if bfr k b = true then some k else some b
def spell (mode : Int) (c : Cm) : Option (List Int) :=
  if c.c < 0 ∨ c.c > 9999 ∨ c.r = 27 then none else (rwsOf (isl mode) c.v).foldl (bstF c) none
theorem pfx_ne {ks : List Int} {reg cnt : Int} {l : List Int} (hk : ks ≠ []) (h : pfx ks reg cnt = some l) : l ≠ [] ∧ l.length ≤ 22 + ks.length := by
  have h1 : (nmK reg).length ≤ 2 := by unfold nmK; split <;> simp
  have h2 : (nbK cnt).length ≤ 20 := by
    unfold nbK
    split
    · exact dg_len _ _
    · simp
  unfold pfx at h
  split at h
  · injection h with h
    rw [← h]
    exact ⟨by simp [hk], by simp only [List.length_append]; omega⟩
  · split at h
    · cases h
    · injection h with h
      rw [← h]
      exact ⟨by simp [hk], by simp only [List.length_append]; omega⟩
theorem spell_alive : spell 0 ⟨97, 6, 2, 21, 0⟩ = some [34, 97, 54, 100, 119] := by kernel_rfl
theorem keysN : ∀ r ∈ tNor, r.ks ≠ [] ∧ r.ks.length ≤ 2 := by decide
theorem keysS : ∀ r ∈ tSln, r.ks ≠ [] ∧ r.ks.length ≤ 2 := by decide
theorem keysT : ∀ r ∈ tTar, r.ks ≠ [] ∧ r.ks.length ≤ 2 := by decide
theorem lenNT : tNor.length ≤ 200 ∧ tSln.length ≤ 200 ∧ tTar.length ≤ 200 := by decide
theorem tgs_ok {r : Rw} (h : r.ks ≠ [] ∧ r.ks.length ≤ 2) : ∀ x ∈ tgs r, x.ks ≠ [] ∧ x.ks.length ≤ 4 := by
  intro x hx
  obtain ⟨t, ht, e⟩ := List.mem_filterMap.1 hx
  unfold tgF at e
  obtain ⟨b, _, e⟩ := Option.map_eq_some_iff.1 e
  have h2 := keysT t ht
  subst e
  refine ⟨by simp [h.1], ?_⟩
  simp only [List.length_append]
  omega
theorem rwsOf_ok (sl : Bool) (v : Int) : ∀ x ∈ rwsOf sl v, x.ks ≠ [] ∧ x.ks.length ≤ 4 := by
  intro x hx
  obtain ⟨r, hr, e⟩ := List.mem_flatMap.1 hx
  have h : r.ks ≠ [] ∧ r.ks.length ≤ 2 := by
    split at hr
    · exact keysS r hr
    · exact keysN r hr
  unfold exR at e
  split at e
  · split at e
    · exact tgs_ok h x e
    · rw [List.mem_singleton.1 e]
      exact ⟨h.1, by omega⟩
  · cases e
end Go.Proofs.YtfdceljdhgbkcaaGreatDoor
