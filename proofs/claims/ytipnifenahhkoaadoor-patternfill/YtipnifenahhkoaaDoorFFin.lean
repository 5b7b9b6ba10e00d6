/- What Fill's walk stands on: its deferred call, its literal, what is given are ints, its ending. -/
import Derived.Test.YtipnifenahhkoaaDoorFWhole
import Derived.Defers
import Derived.Recover
namespace Go.Proofs.YtipnifenahhkoaaDoor
open Go.RowKit

/-- The deferred closure where the frame panics: the results are laid. -/
theorem catch_panicking (p q : Addr) (x : Value) (y : Int) (u : TypeId) (pv : Value) (older : List PanicEntry) (w : World) (hc : w.cell? p = some x) (hz : w.frozen? p = false) (hc2 : (w.setCell p (.slice none 0 0)).cell? q = some (.int .i64 y)) (hz2 : (w.setCell p (.slice none 0 0)).frozen? q = false) :
    CallsD Tryd.prog 13 #[.pointer (some p), .pointer (some q)] (.panicking ({ v := .iface u pv, recovered := false } :: older)) w fun e u' w' =>
      e = .returned (.tuple #[]) ∧ u' = .panicking ({ v := .iface u pv, recovered := true } :: older) ∧ w' = (w.setCell p (.slice none 0 0)).setCell q (.int .i64 102) := by
  refine callsD_of_wpS Tryd.func13 rfl fun c₀ cs hu => ?_
  apply wpS_seq
  apply wpS_region
  simp [wpOpsS, go_sem, recoverD, hu, Tryd.ntmps13, Exit.thenS]
  refine wpS_cond (t := true) (by simp [Act.eval, Array.replicate]) ?_
  simp only [if_true]
  apply wpS_region
  simp [wpOpsS, go_sem, hc, hz, hc2, hz2, bodyPostS, results, Tryd.results13]
theorem catch_idle (p q : Addr) (w : World) :
    CallsD Tryd.prog 13 #[.pointer (some p), .pointer (some q)] .returning w fun e u' w' => e = .returned (.tuple #[]) ∧ u' = .returning ∧ w' = w := by
  refine callsD_of_wpS Tryd.func13 rfl fun c₀ cs hu => ?_
  apply wpS_seq
  apply wpS_region
  simp [wpOpsS, go_sem, recoverD, hu, Tryd.ntmps13, Exit.thenS]
  refine wpS_cond (t := false) (by simp [Act.eval, Array.replicate]) ?_
  simp only [Bool.false_eq_true, if_false]
  refine wpS_of_wp (wp_skip ?_)
  cases c₀
  simp_all [bodyPostS, results, Tryd.results13]
/-- A slice in memory from lo on. -/
def Nw (lo : Nat) (v : Value) : Prop := ∀ k o n c, v = .slice (some ⟨k, o, none⟩) n c → lo ≤ k
theorem nw_nil (lo : Nat) : Nw lo (.slice none 0 0) := fun k o n c e => by cases e
theorem nw_own {w : World} {lo base : Nat} {e : TypeId} {size n : Nat} {v : Value} {xs : List Value} (h : w.ownsRow base e size v n xs) (hb : lo ≤ base) : Nw lo v := fun k o n c e => Nat.le_trans hb (own_blk h (g := k) (by rw [e]; rfl)).1
/-- What Fill leaves. -/
def FiR (w : World) (rep line mt : List Int) (e : Ending) (w' : World) : Prop := ∃ v, e = .returned (.tuple #[v, .int .i64 (fll rep line mt).2]) ∧ Rd .i64 w' v (fll rep line mt).1 ∧ Below w.heap.size w w' ∧ Nw w.heap.size v
theorem u20 : Tryd.prog.underlying 23 = some (.array 20 3) := by kernel_rfl
theorem z20 : (Tryd.prog.info? 23).map (·.size) = some 20 := by kernel_rfl
theorem z25 : (Tryd.prog.info? 37).map (·.size) = some 25 := by kernel_rfl
/-- A row laid into the cells behind the first ones. -/
theorem laidL : ∀ (L Z P : List Value) (k : Nat), P.length = 5 + k → Z.length = L.length → List.foldl (fun (cs : Array Value) (x : Value × Nat) => cs.setIfInBounds (5 + x.snd) x.fst) (P ++ Z).toArray (L.zipIdx k) = (P ++ L).toArray
  | [], [], P, k, _, _ => by simp
  | [], z :: Z, P, k, _, h => by simp at h
  | a :: L, [], P, k, _, h => by simp at h
  | a :: L, z :: Z, P, k, hP, h => by
    rw [List.zipIdx_cons, List.foldl_cons]
    have e : (P ++ z :: Z).toArray.setIfInBounds (5 + k) a = ((P ++ [a]) ++ Z).toArray := by
      rw [← hP]
      simp
    simp only [e]
    rw [laidL L Z (P ++ [a]) (k + 1) (by simp [hP]; omega) (by simpa using h)]
    simp
theorem laid20 (mt : List Int) (hmt : mt.length = 20) (a b : Value) (M : Array Value) (hM : M = (mt.map (Value.int .i64)).toArray) :
    Array.foldl (fun (cs : Array Value) (x : Value × Nat) => cs.setIfInBounds (5 + x.snd) x.fst) (#[a, .int .i64 0, .int .i64 0, .int .i64 0, b, .int .i64 0, .int .i64 0, .int .i64 0, .int .i64 0, .int .i64 0, .int .i64 0, .int .i64 0, .int .i64 0, .int .i64 0, .int .i64 0, .int .i64 0, .int .i64 0, .int .i64 0, .int .i64 0, .int .i64 0, .int .i64 0, .int .i64 0, .int .i64 0, .int .i64 0, .int .i64 0]) M.zipIdx 0 20 = flC a 0 b mt := by
  subst hM
  have := laidL (mt.map (Value.int .i64)) (List.replicate 20 (.int .i64 0)) [a, .int .i64 0, .int .i64 0, .int .i64 0, b] 0 rfl (by simp [hmt])
  have e : (20 : Nat) = (Array.zipIdx (mt.map (Value.int .i64)).toArray).size := by simp [hmt]
  rw [e, ← Array.foldl_toList, Array.toList_zipIdx]
  have e2 : flC a 0 b mt = ([a, .int .i64 0, .int .i64 0, .int .i64 0, b] ++ mt.map (Value.int .i64)).toArray := by simp [flC]
  rw [e2]
  exact this
theorem rd_own {k : IntKind} {w : World} {base : Nat} {e : TypeId} {v : Value} {n : Nat} {zs : List Int} (h : w.ownsRow base e 1 v n (zs.map (Value.int k))) : Rd k w v zs := by
  obtain ⟨h1, h2⟩ := h
  simp at h1
  subst h1
  rcases h2 with ⟨rfl, hn⟩ | ⟨g, cap, cur, rfl, hb, hg, hn, hc, hs, ht⟩
  · exact ⟨none, 0, by rw [hn], by omega, by simp [maxLen], fun h => absurd (List.length_eq_zero_iff.1 hn) h⟩
  · refine ⟨_, cap, rfl, hn, hc, fun _ => ⟨g, 0, rfl, (Array.getElem?_eq_some_iff.1 hg).1, fun i hi => ?_⟩⟩
    rw [cell_of_row w g (0 + i) cur e (0, 0) hg]
    simp only [Nat.mul_one] at ht
    have : (cur.toList.take zs.length)[i]? = some (Value.int k (zs[i]?.getD 0)) := by rw [ht]; simp [hi]
    rw [List.getElem?_take, if_pos hi] at this
    simpa using this


theorem tak_64 {line mt : List Int} (hl : In64 line) (k : Nat) : ∀ a ∈ tak line mt k, I64 a := by
  intro a ha
  unfold tak at ha
  have h1 := List.mem_of_mem_take (List.mem_of_mem_drop ha)
  obtain ⟨i, hi, rfl⟩ := List.mem_iff_getElem.1 h1
  have := hl i
  rw [List.getElem?_eq_getElem hi] at this
  exact this
theorem hexD_r {c x : Int} (h : hexD c = some x) : 0 ≤ x ∧ x ≤ 15 := by
  unfold hexD at h
  split at h
  · cases h; omega
  split at h
  · cases h; omega
  split at h
  · cases h; omega
  · cases h
theorem hx2_r {src : List Int} {p : Nat} {v : Int} (h : hx2 src p = some v) : 0 ≤ v ∧ v ≤ 255 := by
  unfold hx2 at h
  split at h
  · cases h
  split at h
  · cases h
  next a ha =>
    split at h
    · cases h
    split at h
    · cases h
    next b hb =>
      have := hexD_r ha
      have := hexD_r hb
      cases h
      omega
theorem sgn_64 {src : List Int} {p : Nat} {x : Int × Nat} (h : sgn src p = some x) : I64 x.1 := by
  unfold sgn at h
  split at h
  · cases h; unfold I64; simp only; omega
  split at h
  · cases h; unfold I64; simp only; omega
  split at h
  · cases hx : hx2 src (p + 1) with
    | none => rw [hx] at h; cases h
    | some v =>
      rw [hx] at h
      cases h
      have := hx2_r hx
      unfold I64
      simp only
      omega
  · cases h
theorem ste_64 {line mt src : List Int} (hl : In64 line) (hs : In64 src) {p : Nat} {o : Od} {q : Nat} (h : ste line mt src p = some (o, q)) : ∀ a ∈ o.gives, I64 a := by
  have one : ∀ k : Nat, ∀ a ∈ [src[k]?.getD 0], I64 a := fun k a ha => by rw [List.mem_singleton.1 ha]; exact hs k
  unfold ste at h
  split at h
  · cases h; exact tak_64 hl 0
  split at h
  · unfold bsl at h
    split at h
    · cases h
    split at h
    · cases h; intro a ha; rw [List.mem_singleton.1 ha]; constructor <;> decide
    split at h
    · cases h; intro a ha; cases ha
    split at h
    · cases hx : sgn src (p + 1) with
      | none => rw [hx] at h; cases h
      | some x => rw [hx] at h; cases h; intro a ha; rw [List.mem_singleton.1 ha]; exact sgn_64 hx
    split at h
    · cases h; exact tak_64 hl _
    · cases h; exact one _
  · cases h; exact one _
theorem prs_64 {line mt src : List Int} (hl : In64 line) (hs : In64 src) : ∀ (f p : Nat) (os : List Od), prs line mt src f p = some os → ∀ o ∈ os, ∀ a ∈ o.gives, I64 a
  | 0, p, os, h => by
    simp only [prs] at h
    split at h
    · cases h; intro o ho; cases ho
    · cases h
  | f + 1, p, os, h => by
    simp only [prs] at h
    split at h
    · cases h; intro o ho; cases ho
    split at h
    · cases h
    next o q hst =>
      cases hr : prs line mt src f q with
      | none => rw [hr] at h; cases h
      | some r =>
        rw [hr] at h
        cases h
        intro o' ho'
        rcases List.mem_cons.1 ho' with rfl | ho'
        · exact ste_64 hl hs hst
        · exact prs_64 hl hs f q r hr o' ho'
theorem par_64 {line mt src : List Int} (hl : In64 line) (hs : In64 src) {p : Nat} {os : List Od} (h : par line mt src p = some os) : ∀ o ∈ os, ∀ a ∈ o.gives, I64 a := prs_64 hl hs _ _ _ h
/-- Two cells of single blocks, set one after the other. -/
theorem two_set {y : World} {p q : Nat} {T U : TypeId} {a b : Value} (hp : y.heap[p]? = some (.cells #[a] T (0, 0))) (hq : y.heap[q]? = some (.cells #[b] U (0, 0))) (hn : p ≠ q) (x z : Value) :
    (y.setCell ⟨p, 0, none⟩ x).cell? ⟨q, 0, none⟩ = some b ∧ (y.setCell ⟨p, 0, none⟩ x).frozen? ⟨q, 0, none⟩ = false ∧ ((y.setCell ⟨p, 0, none⟩ x).setCell ⟨q, 0, none⟩ z).cell? ⟨p, 0, none⟩ = some x ∧ ((y.setCell ⟨p, 0, none⟩ x).setCell ⟨q, 0, none⟩ z).cell? ⟨q, 0, none⟩ = some z := by
  have e1 := (set1 hp 0 x).1
  have e2 : (y.setCell ⟨p, 0, none⟩ x).heap[q]? = some (.cells #[b] U (0, 0)) := (Below.heap_setCell _ _ _ _ (fun e => hn e.symm)).trans hq
  have e3 := (set1 e2 0 z).1
  have e4 : ((y.setCell ⟨p, 0, none⟩ x).setCell ⟨q, 0, none⟩ z).heap[p]? = _ := (Below.heap_setCell _ _ _ _ hn).trans e1
  refine ⟨?_, ?_, ?_, ?_⟩
  · rw [cell_of_row _ _ _ _ _ _ e2]; rfl
  · simp [World.frozen?, e2]
  · rw [cell_of_row _ _ _ _ _ _ e4]; rfl
  · rw [cell_of_row _ _ _ _ _ _ e3]; rfl
end Go.Proofs.YtipnifenahhkoaaDoor
