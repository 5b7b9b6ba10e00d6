import Derived.Test.YtfdceljdhgbkcaaGreatDoorJ00
import Derived.DeepKeys4
/- A trie of rows of keys, as lists. -/
namespace Go.Proofs.YtfdceljdhgbkcaaGreatDoor

/-- The place behind a step: ns tells the row of each place. -/
def stp (ns : List (List Int)) (i : Nat) (k : Int) : Option Nat :=
  (ns[i]?).bind fun p => if p ++ [k] ∈ ns then some (ns.idxOf (p ++ [k])) else none
theorem stp_some {ns : List (List Int)} {i j : Nat} {k : Int} (h : stp ns i k = some j) : ∃ p, ns[i]? = some p ∧ ns[j]? = some (p ++ [k]) := by
  unfold stp at h
  cases hp : ns[i]? with
  | none => rw [hp] at h; cases h
  | some p =>
    rw [hp] at h
    simp only [Option.bind_some] at h
    by_cases hm : p ++ [k] ∈ ns
    · rw [if_pos hm] at h
      refine ⟨p, rfl, ?_⟩
      cases h
      have hl := List.idxOf_lt_length_iff.2 hm
      rw [List.getElem?_eq_getElem hl, List.getElem_idxOf hl]
    · rw [if_neg hm] at h; cases h
theorem stp_none {ns : List (List Int)} {i : Nat} {k : Int} {p : List Int} (h : stp ns i k = none) (hp : ns[i]? = some p) : p ++ [k] ∉ ns := by
  intro hm
  unfold stp at h
  rw [hp] at h
  simp only [Option.bind_some] at h
  rw [if_pos hm] at h
  cases h
theorem stp_lt {ns : List (List Int)} {i j : Nat} {k : Int} (h : stp ns i k = some j) : j < ns.length := by
  obtain ⟨p, _, h2⟩ := stp_some h
  exact (List.getElem?_eq_some_iff.1 h2).1
theorem stp_out {ns : List (List Int)} {i : Nat} (k : Int) (h : ns.length ≤ i) : stp ns i k = none := by
  unfold stp
  rw [List.getElem?_eq_none h]
  rfl
/-- How far steps lead. -/
def wk (ns : List (List Int)) : Nat → Nat → List Int → Nat × Nat
  | i, g, [] => (i, g)
  | i, g, k :: r => match stp ns i k with
    | none => (i, g)
    | some j => wk ns j (g + 1) r
theorem wk_spec {ns : List (List Int)} : ∀ (rest : List Int) (i g : Nat) (dn : List Int), ns[i]? = some dn →
    ∃ m, m ≤ rest.length ∧ (wk ns i g rest).2 = g + m ∧ ns[(wk ns i g rest).1]? = some (dn ++ rest.take m) ∧ (m < rest.length → dn ++ rest.take (m + 1) ∉ ns)
  | [], i, g, dn, h => ⟨0, Nat.le_refl _, rfl, by simpa [wk] using h, fun h => by simp at h⟩
  | k :: r, i, g, dn, h => by
    cases hs : stp ns i k with
    | none =>
      refine ⟨0, Nat.zero_le _, by simp [wk, hs], by simpa [wk, hs] using h, fun _ => ?_⟩
      simpa using stp_none hs h
    | some j =>
      obtain ⟨p, hp, hj⟩ := stp_some hs
      rw [h] at hp
      cases hp
      obtain ⟨m, h1, h2, h3, h4⟩ := wk_spec r j (g + 1) (dn ++ [k]) hj
      refine ⟨m + 1, by simp; omega, by simp only [wk, hs, h2]; omega, by simp only [wk, hs, h3]; simp, fun hm => ?_⟩
      have := h4 (by simpa using hm)
      simpa using this
theorem wk_nil (i g : Nat) (ks : List Int) : wk [] i g ks = (i, g) := by
  cases ks with
  | nil => rfl
  | cons k r => simp [wk, stp]

/-- Places that make a trie. -/
structure Shp (ns : List (List Int)) : Prop where
  nod : ns.Nodup
  top : ns ≠ [] → ns[0]? = some []
  up : ∀ p k, p ++ [k] ∈ ns → p ∈ ns
theorem Shp.pre {ns : List (List Int)} (h : Shp ns) {p q : List Int} (hq : q ∈ ns) (hp : p <+: q) : p ∈ ns := by
  obtain ⟨t, rfl⟩ := hp
  generalize hn : t.length = n
  induction n generalizing t with
  | zero => rw [List.length_eq_zero_iff.1 hn, List.append_nil] at hq; exact hq
  | succ n ih =>
    have hne : t ≠ [] := by intro e; rw [e] at hn; simp at hn
    have e := List.dropLast_concat_getLast hne
    rw [← e, ← List.append_assoc] at hq
    exact ih _ (h.up _ _ hq) (by simp [hn])
/-- On the way: the row's keys up to q have a place, more of them haven't. -/
structure Way (ns : List (List Int)) (ks : List Int) (a q : Nat) : Prop where
  shp : Shp ns
  at_ : ns[a]? = some (ks.take q)
  out : ∀ j, q < j → j ≤ ks.length → ks.take j ∉ ns
theorem Way.step {ns : List (List Int)} {ks : List Int} {a q : Nat} (h : Way ns ks a q) (hq : q < ks.length) : Way (ns ++ [ks.take (q + 1)]) ks ns.length (q + 1) := by
  have hne : ks.take (q + 1) ∉ ns := h.out (q + 1) (by omega) (by omega)
  refine ⟨⟨?_, fun _ => ?_, fun p k hp => ?_⟩, by simp, fun j h1 h2 hm => ?_⟩
  · rw [List.nodup_append]
    exact ⟨h.shp.nod, by simp, fun x hx y hy e => by simp at hy; subst hy; subst e; exact hne hx⟩
  · have h0 := h.shp.top (fun e => by have := h.at_; rw [e] at this; simp at this)
    rw [List.getElem?_append_left (List.getElem?_eq_some_iff.1 h0).1]
    exact h0
  · rcases List.mem_append.1 hp with hp | hp
    · exact List.mem_append_left _ (h.shp.up p k hp)
    · simp only [List.mem_singleton] at hp
      have e : p = ks.take q := by
        have h3 : ks.take (q + 1) = ks.take q ++ [ks[q]] := List.take_succ_eq_append_getElem hq
        rw [h3] at hp
        exact (List.append_inj' hp rfl).1
      rw [e]
      exact List.mem_append_left _ (List.mem_iff_getElem?.2 ⟨a, h.at_⟩)
  · rcases List.mem_append.1 hm with hm | hm
    · exact h.out j (by omega) h2 hm
    · simp only [List.mem_singleton] at hm
      have := congrArg List.length hm
      simp only [List.length_take] at this
      omega
theorem Way.stp {ns : List (List Int)} {ks : List Int} {a q : Nat} (h : Way ns ks a q) (hq : q < ks.length) (i : Nat) (k : Int) :
    stp (ns ++ [ks.take (q + 1)]) i k = if i = a ∧ k = ks[q] then some ns.length else stp ns i k := by
  have hne : ks.take (q + 1) ∉ ns := h.out (q + 1) (by omega) (by omega)
  have h3 : ks.take (q + 1) = ks.take q ++ [ks[q]] := List.take_succ_eq_append_getElem hq
  have hal : a < ns.length := (List.getElem?_eq_some_iff.1 h.at_).1
  by_cases hi : i < ns.length
  · have e0 : (ns ++ [ks.take (q + 1)])[i]? = some ns[i] := by rw [List.getElem?_append_left hi, List.getElem?_eq_getElem hi]
    have e1 : ns[i]? = some ns[i] := List.getElem?_eq_getElem hi
    unfold Proofs.YtfdceljdhgbkcaaGreatDoor.stp
    rw [e0, e1]
    simp only [Option.bind_some]
    by_cases hm : ns[i] ++ [k] ∈ ns
    · rw [if_pos (List.mem_append_left _ hm), if_pos hm, List.idxOf_append, if_pos hm, if_neg]
      rintro ⟨rfl, rfl⟩
      apply hne
      rw [h3]
      have := h.at_
      rw [e1] at this
      injection this with this
      rw [← this]
      exact hm
    · by_cases hc : i = a ∧ k = ks[q]
      · obtain ⟨rfl, rfl⟩ := hc
        have e2 : ns[i] ++ [ks[q]] = ks.take (q + 1) := by
          have := h.at_
          rw [e1] at this
          rw [h3]
          injection this with this
          rw [this]
        rw [if_pos (by rw [e2]; simp), if_pos ⟨rfl, rfl⟩, List.idxOf_append, if_neg hm, e2]
        simp
      · rw [if_neg hm, if_neg hc, if_neg]
        intro hx
        rcases List.mem_append.1 hx with hx | hx
        · exact hm hx
        · simp only [List.mem_singleton] at hx
          rw [h3] at hx
          obtain ⟨x1, x2⟩ := List.append_inj' hx rfl
          apply hc
          refine ⟨?_, by simpa using x2⟩
          have : ns[i]? = ns[a]? := by rw [e1, h.at_, x1]
          exact (List.getElem?_inj hi h.shp.nod).1 this
  · rw [if_neg (by rintro ⟨rfl, _⟩; exact hi hal), stp_out k (Nat.le_of_not_lt hi)]
    by_cases he : i = ns.length
    · subst he
      unfold Proofs.YtfdceljdhgbkcaaGreatDoor.stp
      rw [List.getElem?_append_right (Nat.le_refl _)]
      simp only [Nat.sub_self, List.getElem?_cons_zero, Option.bind_some]
      rw [if_neg]
      intro hx
      rcases List.mem_append.1 hx with hx | hx
      · exact hne (h.shp.up _ _ hx)
      · simp only [List.mem_singleton] at hx
        have := congrArg List.length hx
        simp at this
    · exact stp_out k (by simp; omega)

/-- A trie: its places, what stands there, and the rows that were put, in their order. -/
structure Tri {V : Type} (ns : List (List Int)) (vs : List (Option V)) (L : List (List Int × V)) : Prop where
  shp : Shp ns
  len : vs.length = ns.length
  nil : L = [] → ns = []
  pre : ∀ p ∈ ns, ∃ r ∈ L, p <+: r.1
  row : ∀ r ∈ L, r.1 ∈ ns
  val : ∀ (i : Nat) (p : List Int) (v : V), ns[i]? = some p → (vs[i]? = some (some v) ↔ (p, v) ∈ L)
  uni : ∀ r ∈ L, ∀ s ∈ L, r.1 <+: s.1 → r = s
theorem Tri.empty {V : Type} : Tri (V := V) [] [] [] :=
  ⟨⟨by simp, fun h => absurd rfl h, fun _ _ h => by simp at h⟩, rfl, fun _ => rfl, fun _ h => by simp at h, fun _ h => by simp at h, fun _ _ _ h => by simp at h, fun _ h => by simp at h⟩
def lkV {V : Type} (L : List (List Int × V)) (ks : List Int) : Option V := (L.find? fun r => r.1 == ks).map (·.2)
def lkS {V : Type} (L : List (List Int × V)) (ks : List Int) : Int := if (L.any fun r => r.1 == ks) then 1 else if (L.any fun r => ks.isPrefixOf r.1) then 0 else 2
def can {V : Type} (L : List (List Int × V)) (ks : List Int) : Bool := !ks.isEmpty && !(L.any fun r => ks.isPrefixOf r.1 || r.1.isPrefixOf ks)
section
variable {V : Type} {ns : List (List Int)} {vs : List (Option V)} {L : List (List Int × V)}
theorem Tri.ne (h : Tri ns vs L) (hn : ns = []) : L = [] := by
  cases L with
  | nil => rfl
  | cons r _ => have := h.row r (by simp); rw [hn] at this; simp at this
/-- Where the steps lead. -/
theorem Tri.walk (h : Tri ns vs L) (hn : ns ≠ []) (ks : List Int) : ∃ g, g ≤ ks.length ∧ (wk ns 0 0 ks).2 = g ∧ ns[(wk ns 0 0 ks).1]? = some (ks.take g) ∧ (g < ks.length → ks.take (g + 1) ∉ ns) := by
  obtain ⟨m, h1, h2, h3, h4⟩ := wk_spec ks 0 0 [] (h.shp.top hn)
  exact ⟨m, h1, by simpa using h2, by simpa using h3, by simpa using h4⟩
theorem Tri.way (h : Tri ns vs L) (hn : ns ≠ []) {ks : List Int} (hg : (wk ns 0 0 ks).2 < ks.length) : Way ns ks (wk ns 0 0 ks).1 (wk ns 0 0 ks).2 := by
  obtain ⟨g, h1, h2, h3, h4⟩ := h.walk hn ks
  rw [h2] at hg ⊢
  refine ⟨h.shp, h3, fun j h5 h6 hm => h4 hg (h.shp.pre hm ?_)⟩
  have : ks.take (g + 1) = (ks.take j).take (g + 1) := by rw [List.take_take, Nat.min_eq_left (by omega)]
  rw [this]
  exact List.take_prefix _ _
theorem Tri.bad (h : Tri ns vs L) {ks : List Int} (hg : (wk ns 0 0 ks).2 < ks.length ∨ ns = []) : lkS L ks = 2 ∧ lkV L ks = none := by
  have key : ∀ r ∈ L, ¬ ks <+: r.1 := by
    intro r hr hp
    by_cases hn : ns = []
    · rw [h.ne hn] at hr; simp at hr
    · have hg' : (wk ns 0 0 ks).2 < ks.length := by
        rcases hg with hg | hg
        · exact hg
        · exact absurd hg hn
      have := (h.way hn hg').out ks.length hg' (Nat.le_refl _)
      rw [List.take_length] at this
      exact this (h.shp.pre (h.row r hr) hp)
  have k1 : (L.any fun r => r.1 == ks) = false := by
    rw [List.any_eq_false]
    intro r hr
    simp only [beq_iff_eq]
    intro e
    exact key r hr (by rw [e]; exact List.prefix_refl _)
  have k2 : (L.any fun r => ks.isPrefixOf r.1) = false := by
    rw [List.any_eq_false]
    intro r hr hp
    exact key r hr (List.isPrefixOf_iff_prefix.1 hp)
  refine ⟨by simp [lkS, k1, k2], ?_⟩
  unfold lkV
  have : (L.find? fun r => r.1 == ks) = none := by
    rw [List.find?_eq_none]
    intro r hr
    exact (List.any_eq_false.1 k1) r hr
  rw [this]
  rfl
theorem Tri.found (h : Tri ns vs L) {ks : List Int} (hg : (wk ns 0 0 ks).2 = ks.length) (hn : ns ≠ []) : 
    (∀ v, vs[(wk ns 0 0 ks).1]? = some (some v) → lkS L ks = 1 ∧ lkV L ks = some v) ∧ (vs[(wk ns 0 0 ks).1]? = some none → lkS L ks = 0 ∧ lkV L ks = none) := by
  obtain ⟨g, h1, h2, h3, h4⟩ := h.walk hn ks
  rw [hg] at h2
  subst h2
  rw [List.take_length] at h3
  refine ⟨fun v hv => ?_, fun hv => ?_⟩
  · have hm := (h.val _ _ v h3).1 hv
    have k1 : (L.any fun r => r.1 == ks) = true := List.any_eq_true.2 ⟨_, hm, by simp⟩
    refine ⟨by simp [lkS, k1], ?_⟩
    unfold lkV
    cases hf : L.find? fun r => r.1 == ks with
    | none => exact absurd (by simp) (List.find?_eq_none.1 hf _ hm)
    | some r =>
      have e1 := List.find?_some hf
      have e2 := List.mem_of_find?_eq_some hf
      simp only [beq_iff_eq] at e1
      have := h.uni r e2 _ hm (by rw [e1]; exact List.prefix_refl _)
      rw [this]
      rfl
  · have hno : ∀ r ∈ L, r.1 ≠ ks := by
      intro r hr e
      have := (h.val _ _ r.2 h3).2 (by rw [← e]; exact hr)
      rw [hv] at this
      cases this
    have k1 : (L.any fun r => r.1 == ks) = false := by
      rw [List.any_eq_false]
      intro r hr
      simpa using hno r hr
    obtain ⟨r, hr, hp⟩ := h.pre ks (List.mem_iff_getElem?.2 ⟨_, h3⟩)
    have k2 : (L.any fun r => ks.isPrefixOf r.1) = true := List.any_eq_true.2 ⟨r, hr, List.isPrefixOf_iff_prefix.2 hp⟩
    refine ⟨by simp [lkS, k1, k2], ?_⟩
    unfold lkV
    rw [List.find?_eq_none.2 (fun r hr => by simpa using hno r hr)]
    rfl
theorem Tri.here (h : Tri ns vs L) (hn : ns ≠ []) (ks : List Int) : (wk ns 0 0 ks).1 < vs.length := by
  obtain ⟨g, _, _, h3, _⟩ := h.walk hn ks
  rw [h.len]
  exact (List.getElem?_eq_some_iff.1 h3).1
/-- What Put asks. -/
theorem Tri.can (h : Tri ns vs L) (ks : List Int) : can L ks = !(decide ((wk ns 0 0 ks).2 = ks.length) || ((vs[(wk ns 0 0 ks).1]?).join).isSome) := by
  unfold Proofs.YtfdceljdhgbkcaaGreatDoor.can
  by_cases hn : ns = []
  · have hL := h.ne hn
    have hv : vs = [] := List.length_eq_zero_iff.1 (by rw [h.len, hn]; rfl)
    subst hn hL hv
    rw [wk_nil]
    cases ks <;> simp
  · obtain ⟨g, h1, h2, h3, h4⟩ := h.walk hn ks
    by_cases hg : g = ks.length
    · subst hg
      rw [List.take_length] at h3
      obtain ⟨r, hr, hp⟩ := h.pre ks (List.mem_iff_getElem?.2 ⟨_, h3⟩)
      have : (L.any fun r => ks.isPrefixOf r.1 || r.1.isPrefixOf ks) = true := List.any_eq_true.2 ⟨r, hr, by simp [List.isPrefixOf_iff_prefix.2 hp]⟩
      rw [this, h2]
      simp
    · have hlt : g < ks.length := by omega
      have hd : decide ((wk ns 0 0 ks).2 = ks.length) = false := by simp [h2, hg]
      rw [hd]
      have hks : ks.isEmpty = false := by
        cases ks with
        | nil => simp at hlt
        | cons _ _ => rfl
      rw [hks]
      simp only [Bool.not_false, Bool.true_and, Bool.false_or]
      congr 1
      have hw := h.way hn (ks := ks) (by omega)
      rw [h2] at hw
      cases hv : (vs[(wk ns 0 0 ks).1]?).join with
      | some v =>
        have hv' : vs[(wk ns 0 0 ks).1]? = some (some v) := by
          cases hx : vs[(wk ns 0 0 ks).1]? with
          | none => rw [hx] at hv; cases hv
          | some o => rw [hx] at hv; simp at hv; rw [hv]
        have hm := (h.val _ _ v h3).1 hv'
        simp only [Option.isSome_some]
        exact List.any_eq_true.2 ⟨_, hm, by simp [List.isPrefixOf_iff_prefix.2 (List.take_prefix g ks)]⟩
      | none =>
        simp only [Option.isSome_none]
        rw [List.any_eq_false]
        intro r hr hb
        simp only [Bool.or_eq_true, List.isPrefixOf_iff_prefix] at hb
        have hrow := h.row r hr
        rcases hb with hb | hb
        · have := hw.out ks.length hlt (Nat.le_refl _)
          rw [List.take_length] at this
          exact this (h.shp.pre hrow hb)
        · have hl := hb.length_le
          have e := List.prefix_iff_eq_take.1 hb
          by_cases hlg : g < r.1.length
          · exact hw.out _ hlg hl (by rw [← e]; exact hrow)
          · obtain ⟨s, hs, hp⟩ := h.pre _ (List.mem_iff_getElem?.2 ⟨_, h3⟩)
            have hrg : r.1 <+: ks.take g := by
              have : r.1 = (ks.take g).take r.1.length := by rw [List.take_take, Nat.min_eq_left (by omega)]; exact e
              rw [this]
              exact List.take_prefix _ _
            have hrs := h.uni r hr s hs (hrg.trans hp)
            subst hrs
            have heq : ks.take g = r.1 := hp.eq_of_length (Nat.le_antisymm hp.length_le hrg.length_le)
            have := (h.val _ _ r.2 (by rw [← heq]; exact h3)).2 hr
            rw [this] at hv
            cases hv
/-- The places behind j rounds. -/
def gro (n0 : List (List Int)) (ks : List Int) (g j : Nat) : List (List Int) := n0 ++ (List.range j).map fun t => ks.take (g + t + 1)
theorem gro_zero (n0 : List (List Int)) (ks : List Int) (g : Nat) : gro n0 ks g 0 = n0 := by simp [gro]
theorem gro_succ (n0 : List (List Int)) (ks : List Int) (g j : Nat) : gro n0 ks g (j + 1) = gro n0 ks g j ++ [ks.take (g + j + 1)] := by simp [gro, List.range_succ]
theorem gro_len (n0 : List (List Int)) (ks : List Int) (g j : Nat) : (gro n0 ks g j).length = n0.length + j := by simp [gro]
/-- What a trie has ahead of a Put: at least the place of the empty row. -/
def ns0 (ns : List (List Int)) : List (List Int) := if ns = [] then [[]] else ns
def vs0 {V : Type} (ns : List (List Int)) (vs : List (Option V)) : List (Option V) := if ns = [] then [none] else vs
theorem Tri.way0 (h : Tri ns vs L) {ks : List Int} (hg : (wk ns 0 0 ks).2 < ks.length) : Way (ns0 ns) ks (wk ns 0 0 ks).1 (wk ns 0 0 ks).2 := by
  by_cases hn : ns = []
  · subst hn
    rw [wk_nil]
    refine ⟨⟨by simp [ns0], fun _ => by simp [ns0], fun p k hp => ?_⟩, by simp [ns0], fun j h1 h2 hm => ?_⟩
    · simp [ns0] at hp
    · simp only [ns0, if_true, List.mem_singleton, List.take_eq_nil_iff] at hm
      rcases hm with hm | hm
      · dsimp only at h1; omega
      · rw [hm] at h2; simp at h2; dsimp only at h1; omega
  · unfold ns0
    rw [if_neg hn]
    exact h.way hn hg
theorem Way.gro {n0 : List (List Int)} {ks : List Int} {a g : Nat} (h : Way n0 ks a g) : ∀ (j : Nat), g + j ≤ ks.length → Way (gro n0 ks g j) ks (if j = 0 then a else n0.length + j - 1) (g + j)
  | 0, _ => by rw [gro_zero]; exact h
  | j + 1, hj => by
    have := (Way.gro h j (by omega)).step (by omega)
    rw [gro_succ, if_neg (by omega)]
    rw [gro_len] at this
    exact this
theorem Tri.put (h : Tri ns vs L) {ks : List Int} (v : V) (hc : Proofs.YtfdceljdhgbkcaaGreatDoor.can L ks = true) (hg : (wk ns 0 0 ks).2 < ks.length) :
    Tri (Proofs.YtfdceljdhgbkcaaGreatDoor.gro (ns0 ns) ks (wk ns 0 0 ks).2 (ks.length - (wk ns 0 0 ks).2)) (vs0 ns vs ++ List.replicate (ks.length - (wk ns 0 0 ks).2 - 1) none ++ [some v]) (L ++ [(ks, v)]) := by
  have hw := h.way0 hg
  generalize (wk ns 0 0 ks).1 = a at hw
  generalize (wk ns 0 0 ks).2 = g at hw hg
  have hW := hw.gro (ks.length - g) (by omega)
  have hl0 : (vs0 ns vs).length = (ns0 ns).length := by
    unfold vs0 ns0
    by_cases hn : ns = []
    · simp [hn]
    · simp [hn, h.len]
  have hmem : ∀ p, p ∈ Proofs.YtfdceljdhgbkcaaGreatDoor.gro (ns0 ns) ks g (ks.length - g) ↔ p ∈ ns0 ns ∨ ∃ j, g < j ∧ j ≤ ks.length ∧ p = ks.take j := by
    intro p
    unfold Proofs.YtfdceljdhgbkcaaGreatDoor.gro
    rw [List.mem_append, List.mem_map]
    constructor
    · rintro (hp | ⟨t, ht, rfl⟩)
      · exact .inl hp
      · rw [List.mem_range] at ht
        exact .inr ⟨g + t + 1, by omega, by omega, rfl⟩
    · rintro (hp | ⟨j, h1, h2, rfl⟩)
      · exact .inl hp
      · exact .inr ⟨j - g - 1, by rw [List.mem_range]; omega, by rw [show g + (j - g - 1) + 1 = j by omega]⟩
  have hin0 : ∀ p ∈ ns, p ∈ ns0 ns := by
    intro p hp
    unfold ns0
    rw [if_neg (fun e => by rw [e] at hp; simp at hp)]
    exact hp
  have hcan := hc
  unfold Proofs.YtfdceljdhgbkcaaGreatDoor.can at hcan
  simp only [Bool.and_eq_true, Bool.not_eq_true', List.any_eq_false, Bool.or_eq_true, not_or, List.isPrefixOf_iff_prefix] at hcan
  obtain ⟨_, hcan⟩ := hcan
  refine ⟨hW.shp, ?_, fun e => by simp at e, fun p hp => ?_, fun r hr => ?_, fun i p v' hp => ?_, fun r hr s hs hp => ?_⟩
  · rw [gro_len]
    simp only [List.length_append, List.length_replicate, List.length_singleton, hl0]
    omega
  · rcases (hmem p).1 hp with hp | ⟨j, h1, h2, rfl⟩
    · unfold ns0 at hp
      by_cases hn : ns = []
      · rw [if_pos hn] at hp
        simp only [List.mem_singleton] at hp
        subst hp
        exact ⟨(ks, v), by simp, List.nil_prefix⟩
      · rw [if_neg hn] at hp
        obtain ⟨r, hr, hx⟩ := h.pre p hp
        exact ⟨r, by simp [hr], hx⟩
    · exact ⟨(ks, v), by simp, List.take_prefix _ _⟩
  · rw [hmem]
    rcases List.mem_append.1 hr with hr | hr
    · exact .inl (hin0 _ (h.row r hr))
    · simp only [List.mem_singleton] at hr
      subst hr
      exact .inr ⟨ks.length, by omega, Nat.le_refl _, by simp⟩
  · have hks0 : ks ∉ ns0 ns := by
      have := hw.out ks.length (by omega) (Nat.le_refl _)
      rwa [List.take_length] at this
    have hlt : i < (ns0 ns).length + (ks.length - g) := by
      have := (List.getElem?_eq_some_iff.1 hp).1
      rwa [gro_len] at this
    unfold Proofs.YtfdceljdhgbkcaaGreatDoor.gro at hp
    by_cases h1 : i < (ns0 ns).length
    · rw [List.getElem?_append_left h1] at hp
      have hvi : (vs0 ns vs ++ List.replicate (ks.length - g - 1) none ++ [some v])[i]? = (vs0 ns vs)[i]? := by
        rw [List.append_assoc, List.getElem?_append_left (by omega)]
      rw [hvi]
      have hpk : p ≠ ks := fun e => hks0 (by rw [← e]; exact List.mem_iff_getElem?.2 ⟨i, hp⟩)
      have hpm : (p, v') ∈ L ++ [(ks, v)] ↔ (p, v') ∈ L := by simp [hpk]
      rw [hpm]
      unfold ns0 at hp h1
      unfold vs0
      by_cases hn : ns = []
      · rw [if_pos hn] at hp h1 ⊢
        rw [h.ne hn]
        simp at h1
        subst h1
        simp
      · rw [if_neg hn] at hp ⊢
        exact h.val i p v' hp
    · rw [List.getElem?_append_right (by omega), List.getElem?_map, List.getElem?_range (by omega)] at hp
      simp only [Option.map_some, Option.some.injEq] at hp
      have hpl : p.length = g + (i - (ns0 ns).length) + 1 := by
        rw [← hp, List.length_take]
        omega
      have hpn : p ∉ ns0 ns := by
        rw [← hp]
        exact hw.out _ (by omega) (by omega)
      have hpL : (p, v') ∉ L := fun e => hpn (hin0 _ (h.row _ e))
      by_cases h2 : i = (ns0 ns).length + (ks.length - g) - 1
      · have hpk : p = ks := by
          rw [← hp]
          exact List.take_of_length_le (by omega)
        rw [List.getElem?_append_right (by simp; omega)]
        have : i - (vs0 ns vs ++ List.replicate (ks.length - g - 1) (none : Option V)).length = 0 := by simp; omega
        rw [this]
        simp only [List.getElem?_cons_zero, Option.some.injEq, List.mem_append, List.mem_singleton, Prod.mk.injEq]
        constructor
        · intro e; exact .inr ⟨hpk, e.symm⟩
        · rintro (e | ⟨_, e⟩)
          · exact absurd e hpL
          · exact e.symm
      · rw [List.getElem?_append_left (by simp; omega), List.getElem?_append_right (by omega), List.getElem?_replicate, if_pos (by omega)]
        simp only [Option.some.injEq, reduceCtorEq, List.mem_append, List.mem_singleton, Prod.mk.injEq, false_iff, not_or]
        refine ⟨hpL, fun e => ?_⟩
        have := congrArg List.length e.1
        omega
  · rcases List.mem_append.1 hr with hr | hr <;> rcases List.mem_append.1 hs with hs | hs
    · exact h.uni r hr s hs hp
    · simp only [List.mem_singleton] at hs
      subst hs
      exact absurd hp (hcan r hr).2
    · simp only [List.mem_singleton] at hr
      subst hr
      exact absurd hp (hcan s hs).1
    · simp only [List.mem_singleton] at hr hs
      rw [hr, hs]
end
end Go.Proofs.YtfdceljdhgbkcaaGreatDoor

/- The steps of a trie in memory: a map by (place, key). -/
namespace Go.Proofs.YtfdceljdhgbkcaaGreatDoor
open Go.RowKit

def heldR (v : Value) : Option (DataW Value × List MemPlace) := some (.held v, [])
theorem laidOutM : laidOutB Tryz.prog = true := by kernel_rfl
theorem law : Maps.Keyed Tryz.prog 141 := Maps.Keyed.of_law (deep_law_laid laidOutM (m := 3) (by omega) (of_decide_eq_true (by kernel_rfl)) (by kernel_rfl) (by rw [Tryz.underlying141]))
def In64 (k : Int) : Prop := (Lit.int .i64 k).wf = true
theorem In64.of {k : Int} (h0 : -9223372036854775808 ≤ k) (h1 : k ≤ 9223372036854775807) : In64 k := WalkArith.wf_i64 (by omega)
abbrev kv (i k : Int) : Value := .agg #[.int .i64 i, .int .i64 k]
def kl (i k : Int) : Lit := .string (keyBytes [.int .i64 i, .int .i64 k])
theorem key_of {i k : Int} (hi : In64 i) (hk : In64 k) : keyOf Tryz.prog 141 (kv i k) = some (kl i k) := by
  unfold In64 at hi hk
  have h1 : Tryz.prog.keyType 141 = true := by kernel_rfl
  have hc : Tryz.prog.cellsOf 141 = 2 := by kernel_rfl
  have hi1 : Tryz.prog.cellsOf 3 = 1 := by kernel_rfl
  have h2 : (kv i k).formed Tryz.prog 141 = true := by
    simp [Value.formed, Tryz.underlying141, hc]
  obtain ⟨m, hm⟩ : ∃ m, Tryz.prog.types.size = m + 1 := ⟨Tryz.prog.types.size - 1, by
    have : 0 < Tryz.prog.types.size := of_decide_eq_true (by kernel_rfl)
    omega⟩
  simp only [keyOf, Tryz.underlying141, h1, h2, Bool.and_self, if_true, hm]
  simp [Program.keyLits, Tryz.underlying141, Tryz.underlying3, hc, hi1, hi, hk, Value.cells, kl]
theorem kl_inj {i k j l : Int} (hi : In64 i) (hk : In64 k) (hj : In64 j) (hl : In64 l) (h : kl i k = kl j l) : i = j ∧ k = l := by
  have h1 := key_of hi hk
  have h2 := key_of hj hl
  rw [h] at h1
  have := law.inj h1 h2
  simp only [kv, Value.agg.injEq, Array.mk.injEq, List.cons.injEq, Value.int.injEq, true_and, and_true] at this
  exact this
theorem zero_int (w : World) : (zeroValue 3).run Tryz.prog w = .ok (.int .i64 0) w := by kernel_rfl

theorem meq_some (w : World) (bm : Nat) : (binOp .eql 45 (.map (some bm)) (.map none)).run Tryz.prog w = .ok (.bool false) w := by kernel_rfl
theorem meq_none (w : World) : (binOp .eql 45 (.map none) (.map none)).run Tryz.prog w = .ok (.bool true) w := by kernel_rfl
/-- At block bm lie the steps of the places ns, in a map of at most n entries. -/
def MpS (w : World) (bm n : Nat) (ns : List (List Int)) : Prop :=
  ∃ D, w.ownsMap Tryz.prog 141 heldR bm n D ∧ ∀ (i : Nat) (k : Int), i ≤ 4611686018427387904 → In64 k →
    (match stp ns i k with
    | none => Maps.has D (kl i k) = false
    | some j => Maps.has D (kl i k) = true ∧ D.atKey (kl i k) .nil = .held (.int .i64 j))
theorem MpS.lt {w : World} {bm n : Nat} {ns : List (List Int)} (h : MpS w bm n ns) : bm < w.heap.size := by obtain ⟨D, h, _⟩ := h; exact h.lt
theorem MpS.same {w w' : World} {bm n : Nat} {ns : List (List Int)} (h : MpS w bm n ns) (hb : w'.heap[bm]? = w.heap[bm]?) : MpS w' bm n ns := by
  obtain ⟨D, ⟨es, cl, h1, r⟩, h2⟩ := h
  exact ⟨D, ⟨es, cl, hb.trans h1, r⟩, h2⟩
theorem MpS.ismap {w : World} {bm n : Nat} {ns : List (List Int)} (h : MpS w bm n ns) : ∃ es cl, w.heap[bm]? = some (.map es cl) := by
  obtain ⟨D, ⟨es, cl, h1, r⟩, h2⟩ := h
  exact ⟨es, cl, h1⟩
theorem in_nat {i : Nat} (h : i ≤ 4611686018427387904) : In64 (i : Int) := In64.of (by omega) (by omega)
theorem atKey_held {D : DataW Value} {k : Lit} {z : DataW Value} (h : Maps.has D k = true) (z' : DataW Value) : D.atKey k z = D.atKey k z' := by
  cases D <;> try (cases h; done)
  rename_i es
  obtain ⟨p, hp, hpk⟩ := List.any_eq_true.1 h
  have hs : (es.find? (fun p => p.1.sameKey k)).isSome = true := List.find?_isSome.2 ⟨p, hp, hpk⟩
  obtain ⟨x, hx⟩ := Option.isSome_iff_exists.1 hs
  simp [DataW.atKey, hx]
/-- What a look-up shows: the place, and whether there is one. -/
def sv (o : Option Nat) : Value := .tuple #[.int .i64 ((o.getD 0 : Nat) : Int), .bool o.isSome]
theorem MpS.look {w : World} {bm n : Nat} {ns : List (List Int)} (h : MpS w bm n ns) {i : Nat} {k : Int} (hi : i ≤ 4611686018427387904) (hk : In64 k) :
    (Instr.lookup 45 (.map (some bm)) (kv i k) true).run Tryz.prog w = .ok (sv (stp ns i k)) w := by
  obtain ⟨D, hown, he⟩ := h
  have hent := he i k hi hk
  obtain ⟨v, ps, hrun, hv⟩ := hown.look_ok law Tryz.underlying45 (zero_int w) (zd := .held (.int .i64 0)) (zp := []) rfl (key_of (in_nat hi) hk)
  rw [hrun]
  simp only [heldR, Option.some.injEq, Prod.mk.injEq] at hv
  cases hs : stp ns i k with
  | none =>
    rw [hs] at hent
    rw [Maps.atKey_of_not_has hent] at hv
    rw [hent]
    cases hv.1
    rfl
  | some j =>
    rw [hs] at hent
    obtain ⟨h1, h2⟩ := hent
    rw [atKey_held h1 .nil, h2] at hv
    rw [h1]
    cases hv.1
    rfl
set_option maxRecDepth 100000 in
theorem look_nil (w : World) (v : Value) (i k : Int) (hi : In64 i) (hk : In64 k) (hv : v = kv i k) : (Instr.lookup 45 (.map none) v true).run Tryz.prog w = .ok (sv none) w := by
  subst hv
  rw [Maps.look_nil true law Tryz.underlying45 (zero_int w) (key_of hi hk)]
  rfl
set_option maxRecDepth 100000 in
/-- One step more. -/
theorem MpS.store {w : World} {bm n : Nat} {ns ns' : List (List Int)} (h : MpS w bm n ns) {a : Nat} {k : Int} {j : Nat} (ha : a ≤ 4611686018427387904) (hk : In64 k) (hn : n < 9223372036854775807)
    (hs : ∀ (i : Nat) (q : Int), stp ns' i q = if i = a ∧ q = k then some j else stp ns i q) :
    ∃ w', (Instr.mapUpdate 45 (.map (some bm)) (kv a k) (.int .i64 j)).run Tryz.prog w = .ok () w' ∧ MpS w' bm (n + 1) ns' ∧ w.grownBy w' (some bm) := by
  obtain ⟨D, hown, he⟩ := h
  obtain ⟨w', hrun, hown', ht⟩ := hown.store (val := .int .i64 j) law Tryz.underlying45 (by unfold maxLen; omega) (key_of (in_nat ha) hk) (d := .held (.int .i64 j)) (ps := []) rfl
  refine ⟨w', hrun, ⟨_, hown', fun i q hi hq => ?_⟩, ht.grown⟩
  rw [hs]
  by_cases hc : i = a ∧ q = k
  · obtain ⟨rfl, rfl⟩ := hc
    rw [if_pos ⟨rfl, rfl⟩]
    exact ⟨Maps.has_put_same hown.isMap (law.key (key_of (in_nat hi) hq)) _, Maps.atKey_put_same hown.isMap (law.key (key_of (in_nat hi) hq)) _ _⟩
  · rw [if_neg hc]
    have hne : kl i q ≠ kl a k := by
      intro e
      have := kl_inj (in_nat hi) hq (in_nat ha) hk e
      exact hc ⟨by omega, this.2⟩
    have := he i q hi hq
    cases hx : stp ns i q with
    | none =>
      rw [hx] at this
      exact (Maps.has_put_other hne _).trans this
    | some z =>
      rw [hx] at this
      exact ⟨(Maps.has_put_other hne _).trans this.1, (Maps.atKey_put_other hne _ _).trans this.2⟩
/-- A map that was made just now: no step. -/
theorem MpS.made {w : World} (n : Nat) : MpS (w.alloc (.map #[] 0)) w.heap.size n [[]] := by
  refine ⟨_, (World.ownsMap_made w Tryz.prog 141 heldR).mono (Nat.zero_le _), fun i k _ _ => ?_⟩
  have : stp [[]] i k = none := by
    cases i with
    | zero => simp [stp]
    | succ i => exact stp_out k (by simp)
  rw [this]
  rfl
end Go.Proofs.YtfdceljdhgbkcaaGreatDoor
