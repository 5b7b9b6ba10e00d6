import Derived.Test.YtmfbobibpebfnaaGreatJ20
/- Many pairs in one memory. -/
namespace Go.Proofs.YtmfbobibpebfnaaGreat
open Go.RowKit

/-- A pair: where its two streams lie, the encoding, what they were fed. -/
structure Pq where
  g : Nat
  q : Nat
  enc : Int
  all : List Int
/-- Pairs by their numbers; N: blocks that are none of theirs. -/
def Crw (w : World) (N : Nat → Prop) (L : Nat → Option Pq) : Prop :=
  (∀ k, N k → k < w.heap.size) ∧ ∃ ρ : Nat → Nat, (∀ k, N k → ρ k = 0) ∧ ∀ i p, L i = some p → Pr (fun k => ρ k = i + 1 ∧ k < w.heap.size) w p.g p.q p.enc p.all
/-- What is new from n on has the number m. -/
def rol (n : Nat) (ρ : Nat → Nat) (m : Nat) (k : Nat) : Nat := if k < n then ρ k else m
theorem rol_in {n m k : Nat} {ρ : Nat → Nat} (h : k < n) : rol n ρ m k = ρ k := if_pos h
theorem rol_out {n m k : Nat} {ρ : Nat → Nat} (h : ¬ k < n) : rol n ρ m k = m := if_neg h
section
variable {w w' : World} {N N' : Nat → Prop} {L L' : Nat → Option Pq}
theorem Crw.at (h : Crw w N L) (i : Nat) (p : Pq) (hp : L i = some p) : ∃ P : Nat → Prop, Pr P w p.g p.q p.enc p.all ∧ (∀ k, P k → k < w.heap.size) ∧ (∀ k, P k → ¬ N k) ∧ ∀ (w' : World) (p' : Pq), Kps P w w' → Pr (fun k => P k ∨ w.heap.size ≤ k) w' p'.g p'.q p'.enc p'.all → Crw w' N (fun j => if j = i then some p' else L j) := by
  obtain ⟨hN, ρ, h0, h1⟩ := h
  refine ⟨_, h1 i p hp, fun k e => e.2, fun k e hn => by have := h0 k hn; have := e.1; omega, fun w' p' kp hpr => ⟨fun k hn => Nat.lt_of_lt_of_le (hN k hn) kp.size, rol w.heap.size ρ (i + 1), fun k hn => (rol_in (hN k hn)).trans (h0 k hn), fun j r hr => ?_⟩⟩
  by_cases hj : j = i
  · subst hj
    simp only [if_pos] at hr
    cases hr
    refine hpr.mono (fun k hk e => ⟨?_, hk⟩)
    by_cases hkl : k < w.heap.size
    · rw [rol_in hkl]
      rcases e with e | e
      · exact e.1
      · omega
    · rw [rol_out hkl]
  · simp only [if_neg hj] at hr
    refine ((h1 j r hr).kps kp (fun k _ e e2 => by have := e.1; have := e2.1; omega)).mono (fun k hk e => ⟨?_, hk⟩)
    rw [rol_in e.2]
    exact e.1
theorem Crw.turn (h : Crw w N L) (kp : Kps N w w') (hn : ∀ k, N' k → (N k ∨ w.heap.size ≤ k) ∧ k < w'.heap.size) : Crw w' N' L := by
  obtain ⟨hN, ρ, h0, h1⟩ := h
  refine ⟨fun k e => (hn k e).2, rol w.heap.size ρ 0, fun k e => ?_, fun i p hp => ?_⟩
  · by_cases hkl : k < w.heap.size
    · rw [rol_in hkl]
      rcases (hn k e).1 with e | e
      · exact h0 k e
      · omega
    · rw [rol_out hkl]
  · refine ((h1 i p hp).kps kp (fun k _ e e2 => by have := e.1; have := h0 k e2; omega)).mono (fun k hk e => ⟨?_, hk⟩)
    rw [rol_in e.2]
    exact e.1
theorem Crw.ext (h : Crw w N L) (hb : Below w.heap.size w w') : Crw w' N L := h.turn (Kps.of_below N hb) (fun k e => ⟨.inl e, Nat.lt_of_lt_of_le (h.1 k e) hb.size⟩)
theorem Crw.new (h : Crw w N L) (i : Nat) (hb : Below w.heap.size w w') (p : Pq) (hp : Pr (fun k => w.heap.size ≤ k) w' p.g p.q p.enc p.all) : Crw w' N (fun j => if j = i then some p else L j) := by
  obtain ⟨hN, ρ, h0, h1⟩ := h
  refine ⟨fun k e => Nat.lt_of_lt_of_le (hN k e) hb.size, rol w.heap.size ρ (i + 1), fun k e => (rol_in (hN k e)).trans (h0 k e), fun j r hr => ?_⟩
  by_cases hj : j = i
  · subst hj
    simp only [if_pos] at hr
    cases hr
    refine hp.mono (fun k hk e => ⟨?_, hk⟩)
    rw [rol_out (by omega)]
  · simp only [if_neg hj] at hr
    refine ((h1 j r hr).ext hb).mono (fun k hk e => ⟨?_, hk⟩)
    rw [rol_in e.2]
    exact e.1
theorem Crw.same (h : Crw w N L) (hl : ∀ i p, L' i = some p → L i = some p) : Crw w N L' := by
  obtain ⟨hN, ρ, h0, h1⟩ := h
  exact ⟨hN, ρ, h0, fun i p hp => h1 i p (hl i p hp)⟩
theorem Crw.less (h : Crw w N L) (hn : ∀ k, N' k → N k) : Crw w N' L := by
  obtain ⟨hN, ρ, h0, h1⟩ := h
  exact ⟨fun k e => hN k (hn k e), ρ, fun k e => h0 k (hn k e), h1⟩
end
/-- The two streams of the law, and its crowd. -/
def LL (S T : Option Pq) (C : List Pq) : Nat → Option Pq
  | 0 => S
  | 1 => T
  | j + 2 => C[j]?
theorem LL_push (S T : Option Pq) (C : List Pq) (p : Pq) : ∀ i r, LL S T (C ++ [p]) i = some r → (if i = C.length + 2 then some p else LL S T C i) = some r := by
  intro i r h
  match i with
  | 0 => rw [if_neg (by omega)]; exact h
  | 1 => rw [if_neg (by omega)]; exact h
  | j + 2 =>
    simp only [LL] at h ⊢
    by_cases hj : j = C.length
    · subst hj
      rw [if_pos rfl]
      simpa using h
    · rw [if_neg (by omega)]
      rw [List.getElem?_append] at h
      split at h
      · exact h
      · rw [List.getElem?_cons] at h
        rw [if_neg (by omega)] at h
        simp at h
theorem LL_set (S T : Option Pq) (C : List Pq) (j : Nat) (p : Pq) : ∀ i r, LL S T (C.set j p) i = some r → (if i = j + 2 then some p else LL S T C i) = some r := by
  intro i r h
  match i with
  | 0 => rw [if_neg (by omega)]; exact h
  | 1 => rw [if_neg (by omega)]; exact h
  | k + 2 =>
    simp only [LL] at h ⊢
    by_cases hj : k = j
    · subst hj
      rw [if_pos rfl]
      rw [List.getElem?_set] at h
      rw [if_pos rfl] at h
      split at h
      · exact h
      · cases h
    · rw [if_neg (by omega)]
      rwa [List.getElem?_set_ne (fun e => hj e.symm)] at h
theorem NewStream_no (enc : Int) (hk : Cx.known enc = false) (w : World) : Calls Tryz.prog 4 #[.int .i64 enc] w fun e w' => e = .returned (.tuple #[.pointer none, .int .i64 10]) ∧ w' = w := by
  obtain ⟨h1, h2, h3, h4⟩ := Cx.known_no enc hk
  clear hk
  go_enter Tryz.func4, Tryz.ntmps4
  go_wp2_with (go_at_call 12; refine (coderOf_no _ h1 h2 h3 h4 _).mono ?_; rintro e w' ⟨rfl, rfl⟩; (try dsimp only))
  go_ret2
  exact ⟨rfl, rfl⟩
/-- A new pair. -/
theorem pr_new {w w1 w2 : World} {enc : Int} (hk : Cx.known enc = true) (s : St w1 w.heap.size enc []) (hb : Below w1.heap.size w1 w2) (hr : Rf (fun k => w1.heap.size ≤ k) w2 w1.heap.size enc [] 0) : Pr (fun k => w.heap.size ≤ k) w2 w.heap.size w1.heap.size enc [] := by
  have hl := s.lt
  refine ⟨hk, (by intro x hx; cases hx), Nat.le_refl _, ?_, ?_⟩
  · rw [Cx.fd_nil]; exact s.ext hb
  · rw [Cx.fd_nil]; exact hr.mono (fun k _ e => ⟨by omega, by omega⟩)
/-- The crowd in memory: its two rows of pointers. -/
def Cwd (base : Nat) (w : World) (c : Nat) (C : List Pq) (sv rv : Value) : Prop :=
  w.heap[c]? = some (.cells #[sv, rv] 58 (0, 0)) ∧ base ≤ c ∧ w.ownsRow base 23 1 sv C.length (C.map fun p => .pointer (some ⟨p.g, 0, none⟩)) ∧ w.ownsRow base 27 1 rv C.length (C.map fun p => .pointer (some ⟨p.q, 0, none⟩))
/-- Its blocks are none of the pairs'. -/
def CwN (N : Nat → Prop) (c : Nat) (sv rv : Value) : Prop := N c ∧ (∀ k, sv.ownBlock = some k → N k) ∧ ∀ k, rv.ownBlock = some k → N k
section
variable {base : Nat} {o : Nat → Prop} {w w' : World} {c : Nat} {C : List Pq} {sv rv : Value} {N N' : Nat → Prop}
theorem Cwd.kps (h : Cwd base w c C sv rv) (n : CwN N c sv rv) (k : Kps o w w') (ho : ∀ i, N i → ¬ o i) : Cwd base w' c C sv rv :=
  ⟨(k.same c (Array.getElem?_eq_some_iff.1 h.1).1 (ho c n.1)).trans h.1, h.2.1, own_stay h.2.2.1 (fun g e => k.same g (own_lt h.2.2.1 e) (ho g (n.2.1 g e))), own_stay h.2.2.2 (fun g e => k.same g (own_lt h.2.2.2 e) (ho g (n.2.2 g e)))⟩
theorem Cwd.ext (h : Cwd base w c C sv rv) (hb : Below w.heap.size w w') : Cwd base w' c C sv rv := ⟨(hb.block c (Array.getElem?_eq_some_iff.1 h.1).1).trans h.1, h.2.1, own_ext h.2.2.1 hb, own_ext h.2.2.2 hb⟩
theorem CwN.mono (n : CwN N c sv rv) (h : ∀ k, N k → N' k) : CwN N' c sv rv := ⟨h _ n.1, fun k e => h k (n.2.1 k e), fun k e => h k (n.2.2 k e)⟩
end
/-- The crowd with two rows of any length. -/
def Cwg (base : Nat) (w : World) (c : Nat) (aa bs : List Value) (sv rv : Value) : Prop :=
  w.heap[c]? = some (.cells #[sv, rv] 58 (0, 0)) ∧ base ≤ c ∧ w.ownsRow base 23 1 sv aa.length aa ∧ w.ownsRow base 27 1 rv bs.length bs
theorem Cwd.gen {base : Nat} {w : World} {c : Nat} {C : List Pq} {sv rv : Value} (h : Cwd base w c C sv rv) : Cwg base w c (C.map fun p => .pointer (some ⟨p.g, 0, none⟩)) (C.map fun p => .pointer (some ⟨p.q, 0, none⟩)) sv rv :=
  ⟨h.1, h.2.1, by rw [List.length_map]; exact h.2.2.1, by rw [List.length_map]; exact h.2.2.2⟩
theorem Cwg.ext {base : Nat} {w w' : World} {c : Nat} {aa bs : List Value} {sv rv : Value} (h : Cwg base w c aa bs sv rv) (hb : Below w.heap.size w w') : Cwg base w' c aa bs sv rv := ⟨(hb.block c (Array.getElem?_eq_some_iff.1 h.1).1).trans h.1, h.2.1, own_ext h.2.2.1 hb, own_ext h.2.2.2 hb⟩
theorem Cwg.push0 {base : Nat} {y w9 : World} {c : Nat} {aa bs : List Value} {sv rv v9 x : Value} (h : Cwg base y c aa bs sv rv) (own9 : w9.ownsRow base 23 1 v9 (aa.length + 1) (aa ++ [x])) (hg : y.grownBy w9 sv.ownBlock) :
    w9.heap[c]? = some (.cells #[sv, rv] 58 (0, 0)) ∧ Cwg base (w9.setCell ⟨c, 0, none⟩ v9) c (aa ++ [x]) bs v9 rv ∧ Kps (fun k => k = c ∨ sv.ownBlock = some k) y (w9.setCell ⟨c, 0, none⟩ v9) := by
  obtain ⟨h1, h2, h3, h4⟩ := h
  have hcl := (Array.getElem?_eq_some_iff.1 h1).1
  have k1 : Kps (fun k => k = c ∨ sv.ownBlock = some k) y w9 := Kps.grown hg (fun k e _ => .inr e)
  have e1 : w9.heap[c]? = some (.cells #[sv, rv] 58 (0, 0)) := (hg.block c hcl (fun e => own_ne h3 h1 (by decide) e.symm)).trans h1
  obtain ⟨s, g⟩ := set1 e1 0 v9
  have r9 : w9.ownsRow base 27 1 rv bs.length bs := own_stay h4 (fun i e => hg.block i (own_lt h4 e) (fun e2 => by
    obtain ⟨_, cu, hc⟩ := own_blk h4 e
    exact own_ne h3 hc (by decide) e2.symm))
  refine ⟨e1, ⟨s, h2, ?_, ?_⟩, k1.trans (Kps.grown g (fun k e _ => by cases e; exact .inl rfl)) (fun _ _ e => e)⟩
  · rw [List.length_append]
    exact own_stay own9 (fun i e => g.block i (own_lt own9 e) (fun e2 => own_ne own9 e1 (by decide) (by rw [e]; exact e2)))
  · exact own_stay r9 (fun i e => g.block i (own_lt r9 e) (fun e2 => own_ne r9 e1 (by decide) (by rw [e]; exact e2)))
theorem Cwg.push1 {base : Nat} {y w9 : World} {c : Nat} {aa bs : List Value} {sv rv v9 x : Value} (h : Cwg base y c aa bs sv rv) (own9 : w9.ownsRow base 27 1 v9 (bs.length + 1) (bs ++ [x])) (hg : y.grownBy w9 rv.ownBlock) :
    w9.heap[c]? = some (.cells #[sv, rv] 58 (0, 0)) ∧ Cwg base (w9.setCell ⟨c, 1, none⟩ v9) c aa (bs ++ [x]) sv v9 ∧ Kps (fun k => k = c ∨ rv.ownBlock = some k) y (w9.setCell ⟨c, 1, none⟩ v9) := by
  obtain ⟨h1, h2, h3, h4⟩ := h
  have hcl := (Array.getElem?_eq_some_iff.1 h1).1
  have k1 : Kps (fun k => k = c ∨ rv.ownBlock = some k) y w9 := Kps.grown hg (fun k e _ => .inr e)
  have e1 : w9.heap[c]? = some (.cells #[sv, rv] 58 (0, 0)) := (hg.block c hcl (fun e => own_ne h4 h1 (by decide) e.symm)).trans h1
  obtain ⟨s, g⟩ := set1 e1 1 v9
  have r9 : w9.ownsRow base 23 1 sv aa.length aa := own_stay h3 (fun i e => hg.block i (own_lt h3 e) (fun e2 => by
    obtain ⟨_, cu, hc⟩ := own_blk h3 e
    exact own_ne h4 hc (by decide) e2.symm))
  refine ⟨e1, ⟨s, h2, ?_, ?_⟩, k1.trans (Kps.grown g (fun k e _ => by cases e; exact .inl rfl)) (fun _ _ e => e)⟩
  · exact own_stay r9 (fun i e => g.block i (own_lt r9 e) (fun e2 => own_ne r9 e1 (by decide) (by rw [e]; exact e2)))
  · rw [List.length_append]
    exact own_stay own9 (fun i e => g.block i (own_lt own9 e) (fun e2 => own_ne own9 e1 (by decide) (by rw [e]; exact e2)))
theorem cells2 {w : World} {g : Nat} {a b : Value} {T : TypeId} {r : Nat × Nat} (hg : w.heap[g]? = some (.cells #[a, b] T r)) : w.cell? ⟨g, 0, none⟩ = some a ∧ w.cell? ⟨g, 1, none⟩ = some b := by
  refine ⟨?_, ?_⟩ <;> rw [cell_of_row w g _ _ _ _ hg] <;> rfl
end Go.Proofs.YtmfbobibpebfnaaGreat
