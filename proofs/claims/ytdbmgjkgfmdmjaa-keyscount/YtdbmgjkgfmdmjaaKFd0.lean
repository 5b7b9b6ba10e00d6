/- Feed: the pure part. -/
import Derived.Test.YtdbmgjkgfmdmjaaKAsk
namespace Go.Proofs.Ytdbmgjkgfmdmjaa
open Go.RowKit
/-- What a turn of the reading leaves. -/
theorem rst_ok {sl : Bool} {t : Rdg} {ks : List Int} (ht : t.Ok) (hk : t.k < ks.length) (hl : ks.length ≤ 1152921504606846976) :
    (rst sl t (ks.drop t.k.toNat)).t.Ok ∧ (rst sl t (ks.drop t.k.toNat)).t.k ≤ ks.length ∧ ((rst sl t (ks.drop t.k.toNat)).g = false → ((rst sl t (ks.drop t.k.toNat)).s = 0 ∨ (rst sl t (ks.drop t.k.toNat)).s = 1 ∨ (rst sl t (ks.drop t.k.toNat)).s = 2) ∧ ((rst sl t (ks.drop t.k.toNat)).s ≠ 1 → (rst sl t (ks.drop t.k.toNat)).c = cmZ)) := by
  have hk0 := ht.k0
  have hlen : (ks.drop t.k.toNat).length = ks.length - t.k.toNat := List.length_drop
  generalize ks.drop t.k.toNat = l at *
  unfold rst
  split
  · rename_i hg
    obtain ⟨h1, h2⟩ := gow_dig hg
    refine ⟨ht.addD _ h1 (by omega), ?_, fun (h : true = false) => by cases h⟩
    show t.k + 1 ≤ _
    omega
  · split
    · split
      · exact ⟨ht, by show t.k ≤ _; omega, fun _ => ⟨.inl rfl, fun _ => rfl⟩⟩
      · split
        · exact ⟨ht, by show t.k ≤ _; omega, fun _ => ⟨.inr (.inr rfl), fun _ => rfl⟩⟩
        · refine ⟨ht.addR _ (by omega), ?_, fun (h : true = false) => by cases h⟩
          show t.k + 2 ≤ _
          omega
    · split
      · exact ⟨ht, by show t.k ≤ _; omega, fun _ => ⟨.inl rfl, fun _ => rfl⟩⟩
      · rename_i n hn
        obtain ⟨hn1, _⟩ := bgn_spec hn
        split
        · exact ⟨ht, by show t.k ≤ _; omega, fun _ => ⟨.inr (.inr rfl), fun _ => rfl⟩⟩
        · split
          · exact ⟨ht, by show t.k ≤ _; omega, fun _ => ⟨.inl rfl, fun _ => rfl⟩⟩
          · split
            · refine ⟨ht.addO _ _ (by omega) (by omega) (by omega), ?_, fun (h : true = false) => by cases h⟩
              show t.k + ((n : Int) + 1) ≤ _
              omega
            · refine ⟨ht.endN, by show t.k ≤ _; omega, fun _ => ?_⟩
              generalize (lkV (bLs sl t) (l.take (n + 1))).getD bd0 = b
              generalize l.drop (n + 1) = bs
              show ((rcm t b bs).2 = 0 ∨ (rcm t b bs).2 = 1 ∨ (rcm t b bs).2 = 2) ∧ ((rcm t b bs).2 ≠ 1 → (rcm t b bs).1 = cmZ)
              unfold rcm
              split
              · exact ⟨.inr (.inl rfl), fun h => absurd rfl h⟩
              · split
                · exact ⟨.inr (.inr rfl), fun _ => rfl⟩
                · exact ⟨.inr (.inl rfl), fun h => absurd rfl h⟩
theorem rdo_ok {sl : Bool} {ks : List Int} (hl : ks.length ≤ 1152921504606846976) {t' : Rdg} {c : Cm} {s : Int} : ∀ (f : Nat) (t : Rdg), t.Ok → t.k ≤ ks.length → rdo sl ks f t = some (t', c, s) → t'.Ok ∧ t'.k ≤ ks.length ∧ (s = 0 ∨ s = 1 ∨ s = 2) ∧ (s ≠ 1 → c = cmZ)
  | 0, _, _, _, h => by cases h
  | f + 1, t, ht, hk, h => by
    rw [rdo] at h
    split at h
    · rename_i h1
      obtain ⟨a1, a2, a3⟩ := rst_ok (sl := sl) ht h1 hl
      split at h
      · exact rdo_ok hl f _ a1 a2 h
      · rename_i h2
        injection h with h
        injection h with e1 h
        injection h with e2 e3
        obtain ⟨b1, b2⟩ := a3 (by simpa using h2)
        rw [← e1, ← e2, ← e3]
        exact ⟨a1, a2, b1, b2⟩
    · injection h with h
      injection h with e1 h
      injection h with e2 e3
      rw [← e1, ← e2, ← e3]
      exact ⟨ht, hk, .inl rfl, fun _ => rfl⟩
theorem Rdo.ok {sl : Bool} {ks : List Int} (hl : ks.length ≤ 1152921504606846976) {t t' : Rdg} {c : Cm} {s : Int} (h : Rdo sl ks t t' c s) (ht : t.Ok) (hk : t.k ≤ ks.length) : t'.Ok ∧ t'.k ≤ ks.length ∧ (s = 0 ∨ s = 1 ∨ s = 2) ∧ (s ≠ 1 → c = cmZ) := by
  obtain ⟨f, hf⟩ := h
  exact rdo_ok hl f t ht hk hf
/-- What a parser holds: whether it is of a selection, the keys that are pending, what they have told. -/
structure Ps where
  sl : Bool
  ks : List Int
  t : Rdg
def ps0 (sl : Bool) : Ps := ⟨sl, [], rdg0⟩
/-- What a parser holds when a key comes, by the mode. -/
def ahd (p : Ps) (mode : Int) : Ps := if isl mode = p.sl then p else ps0 (isl mode)
/-- One key. -/
def FdR (p : Ps) (mode key : Int) (q : Ps) (c : Cm) (s : Int) : Prop :=
  (key = 27 ∧ q = ps0 (isl mode) ∧ c = cmZ ∧ s = 3) ∨ (key ≠ 27 ∧ ∃ u, Rdo (isl mode) ((ahd p mode).ks ++ [key]) (ahd p mode).t u c s ∧ ((s = 0 ∧ q = ⟨isl mode, (ahd p mode).ks ++ [key], u⟩) ∨ (s ≠ 0 ∧ q = ps0 (isl mode))))
theorem FdR.det {p q q' : Ps} {mode key : Int} {c c' : Cm} {s s' : Int} (h : FdR p mode key q c s) (g : FdR p mode key q' c' s') : q = q' ∧ c = c' ∧ s = s' := by
  rcases h with ⟨h1, h2, h3, h4⟩ | ⟨h1, u, hu, h2⟩ <;> rcases g with ⟨g1, g2, g3, g4⟩ | ⟨g1, v, hv, g2⟩
  · exact ⟨h2.trans g2.symm, h3.trans g3.symm, h4.trans g4.symm⟩
  · exact absurd h1 g1
  · exact absurd g1 h1
  · obtain ⟨e1, e2, e3⟩ := hu.det hv
    subst e1 e2 e3
    refine ⟨?_, rfl, rfl⟩
    rcases h2 with ⟨a, b⟩ | ⟨a, b⟩ <;> rcases g2 with ⟨d, e⟩ | ⟨d, e⟩
    · exact b.trans e.symm
    · exact absurd a d
    · exact absurd d a
    · exact b.trans e.symm
/-- What is pending was given; what was told fits it. -/
structure Ps.Ok (p : Ps) : Prop where
  t : p.t.Ok
  k : p.t.k ≤ p.ks.length
  i : ∀ k ∈ p.ks, In64 k
theorem rdg0_ok : rdg0.Ok := ⟨by decide, by decide, by decide, by decide, by decide, by decide⟩
theorem ps0_ok (sl : Bool) : (ps0 sl).Ok := ⟨rdg0_ok, by show (0 : Int) ≤ ((0 : Nat) : Int); decide, fun k hk => by cases hk⟩
theorem ahd_ok {p : Ps} (h : p.Ok) (mode : Int) : (ahd p mode).Ok := by
  unfold ahd
  split
  · exact h
  · exact ps0_ok _
theorem ahd_len (p : Ps) (mode : Int) : (ahd p mode).ks.length ≤ p.ks.length := by
  unfold ahd
  split
  · exact Nat.le_refl _
  · exact Nat.zero_le _
theorem ahd_sl (p : Ps) (mode : Int) : (ahd p mode).sl = isl mode := by
  unfold ahd
  split
  · rename_i h; exact h.symm
  · rfl
theorem FdR.ok {p q : Ps} {mode key : Int} {c : Cm} {s : Int} (h : FdR p mode key q c s) (hp : p.Ok) (hk : In64 key) (hl : p.ks.length < 1152921504606846976) :
    q.Ok ∧ q.sl = isl mode ∧ q.ks.length ≤ p.ks.length + 1 ∧ (0 ≤ s ∧ s ≤ 3) ∧ (s ≠ 1 → c = cmZ) ∧ (s = 0 → q.ks ≠ []) ∧ (s ≠ 0 → q = ps0 (isl mode)) := by
  rcases h with ⟨h1, rfl, rfl, rfl⟩ | ⟨h1, u, hu, h2⟩
  · exact ⟨ps0_ok _, rfl, Nat.zero_le _, by decide, fun _ => rfl, fun h => absurd h (by decide), fun _ => rfl⟩
  · have ha := ahd_ok hp mode
    have hal := ahd_len p mode
    have hln : ((ahd p mode).ks ++ [key]).length = (ahd p mode).ks.length + 1 := by simp
    obtain ⟨k1, k2, k3, k4⟩ := hu.ok (by omega) ha.t (by have := ha.k; omega)
    have h3 : 0 ≤ s ∧ s ≤ 3 := by omega
    rcases h2 with ⟨e, rfl⟩ | ⟨e, rfl⟩
    · refine ⟨⟨k1, k2, ?_⟩, rfl, by show ((ahd p mode).ks ++ [key]).length ≤ _; omega, h3, k4, fun _ => by simp, fun h => absurd e h⟩
      intro k hk
      rcases List.mem_append.1 hk with hk | hk
      · exact ha.i k hk
      · rw [List.mem_singleton.1 hk]
        assumption
    · exact ⟨ps0_ok _, rfl, Nat.zero_le _, h3, k4, fun h => absurd h e, fun _ => rfl⟩
end Go.Proofs.Ytdbmgjkgfmdmjaa
