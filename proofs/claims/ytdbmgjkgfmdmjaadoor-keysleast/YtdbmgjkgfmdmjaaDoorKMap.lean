/- The steps of a trie in memory: a map by (place, key). -/
import Derived.Test.YtdbmgjkgfmdmjaaDoorGKit
import Derived.Test.YtdbmgjkgfmdmjaaDoorKTri
import Derived.DeepKeys4
namespace Go.Proofs.YtdbmgjkgfmdmjaaDoor
open Go.RowKit

def heldR (v : Value) : Option (DataW Value × List MemPlace) := some (.held v, [])
theorem laidOutM : laidOutB Tryd.prog = true := by kernel_rfl
theorem law : Maps.Keyed Tryd.prog 144 := Maps.Keyed.of_law (deep_law_laid laidOutM (m := 3) (by omega) (of_decide_eq_true (by kernel_rfl)) (by kernel_rfl) (by rw [Tryd.underlying144]))
def In64 (k : Int) : Prop := (Lit.int .i64 k).wf = true
theorem In64.of {k : Int} (h0 : -9223372036854775808 ≤ k) (h1 : k ≤ 9223372036854775807) : In64 k := WalkArith.wf_i64 (by omega)
abbrev kv (i k : Int) : Value := .agg #[.int .i64 i, .int .i64 k]
def kl (i k : Int) : Lit := .string (keyBytes [.int .i64 i, .int .i64 k])
theorem key_of {i k : Int} (hi : In64 i) (hk : In64 k) : keyOf Tryd.prog 144 (kv i k) = some (kl i k) := by
  unfold In64 at hi hk
  have h1 : Tryd.prog.keyType 144 = true := by kernel_rfl
  have hc : Tryd.prog.cellsOf 144 = 2 := by kernel_rfl
  have hi1 : Tryd.prog.cellsOf 3 = 1 := by kernel_rfl
  have h2 : (kv i k).formed Tryd.prog 144 = true := by
    simp [Value.formed, Tryd.underlying144, hc]
  obtain ⟨m, hm⟩ : ∃ m, Tryd.prog.types.size = m + 1 := ⟨Tryd.prog.types.size - 1, by
    have : 0 < Tryd.prog.types.size := of_decide_eq_true (by kernel_rfl)
    omega⟩
  simp only [keyOf, Tryd.underlying144, h1, h2, Bool.and_self, if_true, hm]
  simp [Program.keyLits, Tryd.underlying144, Tryd.underlying3, hc, hi1, hi, hk, Value.cells, kl]
theorem kl_inj {i k j l : Int} (hi : In64 i) (hk : In64 k) (hj : In64 j) (hl : In64 l) (h : kl i k = kl j l) : i = j ∧ k = l := by
  have h1 := key_of hi hk
  have h2 := key_of hj hl
  rw [h] at h1
  have := law.inj h1 h2
  simp only [kv, Value.agg.injEq, Array.mk.injEq, List.cons.injEq, Value.int.injEq, true_and, and_true] at this
  exact this
theorem zero_int (w : World) : (zeroValue 3).run Tryd.prog w = .ok (.int .i64 0) w := by kernel_rfl

theorem meq_some (w : World) (bm : Nat) : (binOp .eql 59 (.map (some bm)) (.map none)).run Tryd.prog w = .ok (.bool false) w := by kernel_rfl
theorem meq_none (w : World) : (binOp .eql 59 (.map none) (.map none)).run Tryd.prog w = .ok (.bool true) w := by kernel_rfl
/-- At block bm lie the steps of the places ns, in a map of at most n entries. -/
def MpS (w : World) (bm n : Nat) (ns : List (List Int)) : Prop :=
  ∃ D, w.ownsMap Tryd.prog 144 heldR bm n D ∧ ∀ (i : Nat) (k : Int), i ≤ 4611686018427387904 → In64 k →
    (match stp ns i k with
    | none => Maps.has D (kl i k) = false
    | some j => Maps.has D (kl i k) = true ∧ D.atKey (kl i k) .nil = .held (.int .i64 j))
theorem MpS.lt {w : World} {bm n : Nat} {ns : List (List Int)} (h : MpS w bm n ns) : bm < w.heap.size := by obtain ⟨D, h, _⟩ := h; exact h.lt
theorem MpS.same {w w' : World} {bm n : Nat} {ns : List (List Int)} (h : MpS w bm n ns) (hb : w'.heap[bm]? = w.heap[bm]?) : MpS w' bm n ns := by
  obtain ⟨D, ⟨es, cl, h1, r⟩, h2⟩ := h
  exact ⟨D, ⟨es, cl, hb.trans h1, r⟩, h2⟩
theorem MpS.ismap {w : World} {bm n : Nat} {ns : List (List Int)} (h : MpS w bm n ns) : ∃ es cl, w.heap[bm]? = some (.map es cl) := by
  obtain ⟨D, ⟨es, cl, h1, r⟩, h2⟩ := h
  exact ⟨es, cl, h1⟩
theorem in_nat {i : Nat} (h : i ≤ 4611686018427387904) : In64 (i : Int) := In64.of (by omega) (by omega)
theorem atKey_held {D : DataW Value} {k : Lit} {z : DataW Value} (h : Maps.has D k = true) (z' : DataW Value) : D.atKey k z = D.atKey k z' := by
  cases D <;> try (cases h; done)
  rename_i es
  obtain ⟨p, hp, hpk⟩ := List.any_eq_true.1 h
  have hs : (es.find? (fun p => p.1.sameKey k)).isSome = true := List.find?_isSome.2 ⟨p, hp, hpk⟩
  obtain ⟨x, hx⟩ := Option.isSome_iff_exists.1 hs
  simp [DataW.atKey, hx]
/-- What a look-up shows: the place, and whether there is one. -/
def sv (o : Option Nat) : Value := .tuple #[.int .i64 ((o.getD 0 : Nat) : Int), .bool o.isSome]
theorem MpS.look {w : World} {bm n : Nat} {ns : List (List Int)} (h : MpS w bm n ns) {i : Nat} {k : Int} (hi : i ≤ 4611686018427387904) (hk : In64 k) :
    (Instr.lookup 59 (.map (some bm)) (kv i k) true).run Tryd.prog w = .ok (sv (stp ns i k)) w := by
  obtain ⟨D, hown, he⟩ := h
  have hent := he i k hi hk
  obtain ⟨v, ps, hrun, hv⟩ := hown.look_ok law Tryd.underlying59 (zero_int w) (zd := .held (.int .i64 0)) (zp := []) rfl (key_of (in_nat hi) hk)
  rw [hrun]
  simp only [heldR, Option.some.injEq, Prod.mk.injEq] at hv
  cases hs : stp ns i k with
  | none =>
    rw [hs] at hent
    rw [Maps.atKey_of_not_has hent] at hv
    rw [hent]
    cases hv.1
    rfl
  | some j =>
    rw [hs] at hent
    obtain ⟨h1, h2⟩ := hent
    rw [atKey_held h1 .nil, h2] at hv
    rw [h1]
    cases hv.1
    rfl
set_option maxRecDepth 100000 in
theorem look_nil (w : World) (v : Value) (i k : Int) (hi : In64 i) (hk : In64 k) (hv : v = kv i k) : (Instr.lookup 59 (.map none) v true).run Tryd.prog w = .ok (sv none) w := by
  subst hv
  rw [Maps.look_nil true law Tryd.underlying59 (zero_int w) (key_of hi hk)]
  rfl
set_option maxRecDepth 100000 in
/-- One step more. -/
theorem MpS.store {w : World} {bm n : Nat} {ns ns' : List (List Int)} (h : MpS w bm n ns) {a : Nat} {k : Int} {j : Nat} (ha : a ≤ 4611686018427387904) (hk : In64 k) (hn : n < 9223372036854775807)
    (hs : ∀ (i : Nat) (q : Int), stp ns' i q = if i = a ∧ q = k then some j else stp ns i q) :
    ∃ w', (Instr.mapUpdate 59 (.map (some bm)) (kv a k) (.int .i64 j)).run Tryd.prog w = .ok () w' ∧ MpS w' bm (n + 1) ns' ∧ w.grownBy w' (some bm) := by
  obtain ⟨D, hown, he⟩ := h
  obtain ⟨w', hrun, hown', ht⟩ := hown.store (val := .int .i64 j) law Tryd.underlying59 (by unfold maxLen; omega) (key_of (in_nat ha) hk) (d := .held (.int .i64 j)) (ps := []) rfl
  refine ⟨w', hrun, ⟨_, hown', fun i q hi hq => ?_⟩, ht.grown⟩
  rw [hs]
  by_cases hc : i = a ∧ q = k
  · obtain ⟨rfl, rfl⟩ := hc
    rw [if_pos ⟨rfl, rfl⟩]
    exact ⟨Maps.has_put_same hown.isMap (law.key (key_of (in_nat hi) hq)) _, Maps.atKey_put_same hown.isMap (law.key (key_of (in_nat hi) hq)) _ _⟩
  · rw [if_neg hc]
    have hne : kl i q ≠ kl a k := by
      intro e
      have := kl_inj (in_nat hi) hq (in_nat ha) hk e
      exact hc ⟨by omega, this.2⟩
    have := he i q hi hq
    cases hx : stp ns i q with
    | none =>
      rw [hx] at this
      exact (Maps.has_put_other hne _).trans this
    | some z =>
      rw [hx] at this
      exact ⟨(Maps.has_put_other hne _).trans this.1, (Maps.atKey_put_other hne _ _).trans this.2⟩
/-- A map that was made just now: no step. -/
theorem MpS.made {w : World} (n : Nat) : MpS (w.alloc (.map #[] 0)) w.heap.size n [[]] := by
  refine ⟨_, (World.ownsMap_made w Tryd.prog 144 heldR).mono (Nat.zero_le _), fun i k _ _ => ?_⟩
  have : stp [[]] i k = none := by
    cases i with
    | zero => simp [stp]
    | succ i => exact stp_out k (by simp)
  rw [this]
  rfl
end Go.Proofs.YtdbmgjkgfmdmjaaDoor
