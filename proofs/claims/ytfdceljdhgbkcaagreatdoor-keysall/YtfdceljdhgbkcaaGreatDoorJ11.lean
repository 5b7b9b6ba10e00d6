import Derived.Test.YtfdceljdhgbkcaaGreatDoorJ10
/- A round of Put, at keys.binding. -/
namespace Go.Proofs.YtfdceljdhgbkcaaGreatDoor
open Go.RowKit

/-- Behind p rounds of Put. -/
structure PSB (w wr : World) (b o : Nat) (T : TypeId) (cs : Array Value) (own : Nat → Prop) (bm nm : Nat) (n0 : List (List Int)) (v0 : List (Option Bd)) (ks : List Int) (g0 p gp c : Nat) : Prop where
  blk : wr.heap[b]? = some (.cells ((cs.setIfInBounds o (.map (some bm))).setIfInBounds (o + 1) (.slice (some ⟨gp, 0, none⟩) (n0.length + p) c)) T (0, 0))
  mp : MpS wr bm (nm + p) (gro n0 ks g0 p)
  pl : PlB wr (.slice (some ⟨gp, 0, none⟩) (n0.length + p) c) (v0 ++ List.replicate p none)
  og : own gp ∨ w.heap.size ≤ gp
  om : own bm ∨ w.heap.size ≤ bm
  kp : Kps (fun k => k = b ∨ own k) w wr
section
variable {w wr : World} {b o : Nat} {T : TypeId} {cs : Array Value} {own : Nat → Prop} {bm nm : Nat} {n0 : List (List Int)} {v0 : List (Option Bd)} {ks : List Int} {g0 p gp c : Nat}
theorem PSB.cells (h : PSB w wr b o T cs own bm nm n0 v0 ks g0 p gp c) (ho : o + 1 < cs.size) : wr.cell? ⟨b, o, none⟩ = some (.map (some bm)) ∧ wr.cell? ⟨b, o + 1, none⟩ = some (.slice (some ⟨gp, 0, none⟩) (n0.length + p) c) ∧ wr.frozen? ⟨b, o + 1, none⟩ = false := by
  refine ⟨?_, ?_, by simp [World.frozen?, h.blk]⟩
  · rw [cell_of_row _ _ _ _ _ _ h.blk, Array.getElem?_setIfInBounds_ne (by omega), Array.getElem?_setIfInBounds_self_of_lt (by omega)]
  · rw [cell_of_row _ _ _ _ _ _ h.blk, Array.getElem?_setIfInBounds_self_of_lt (by simpa using ho)]
theorem PSB.ne (h : PSB w wr b o T cs own bm nm n0 v0 ks g0 p gp c) (hb : b < w.heap.size) (hob : ¬ own b) : gp ≠ b ∧ bm ≠ b ∧ gp ≠ bm := by
  refine ⟨fun e => ?_, fun e => ?_, fun e => ?_⟩
  · subst e
    rcases h.og with h | h
    · exact hob h
    · omega
  · subst e
    rcases h.om with h | h
    · exact hob h
    · omega
  · subst e
    obtain ⟨es, cl, h1⟩ := h.mp.ismap
    obtain ⟨_, cur, h2, _⟩ := h.pl.blk
    rw [h1] at h2
    cases h2
theorem PSB.step {q : Nat} (h : PSB w wr b o T cs own bm nm n0 v0 ks g0 p gp c) (hb : b < w.heap.size) (hob : ¬ own b)
    (hw : Way (gro n0 ks g0 p) ks q (g0 + p)) (hq : g0 + p < ks.length) (hx : In64 ks[g0 + p]) (hqb : q ≤ 4611686018427387904) (hnm : nm + p < 4611686018427387904) :
    ∃ w1, (Instr.mapUpdate 45 (.map (some bm)) (kv q ks[g0 + p]) (.int .i64 ((n0.length + p : Nat) : Int))).run Tryz.prog wr = .ok () w1 ∧ w1.heap[b]? = wr.heap[b]? ∧ PlB w1 (.slice (some ⟨gp, 0, none⟩) (n0.length + p) c) (v0 ++ List.replicate p none) ∧
      ∀ ob w2 g' c', PlB w2 (.slice (some ⟨g', 0, none⟩) (n0.length + p + 1) c') (v0 ++ List.replicate p none ++ [none]) → (w1.alloc ob).grownBy w2 (some gp) → (g' = gp ∨ g' = (w1.alloc ob).heap.size) →
        w2.heap[b]? = wr.heap[b]? ∧ PSB w (w2.setCell ⟨b, o + 1, none⟩ (.slice (some ⟨g', 0, none⟩) (n0.length + p + 1) c')) b o T cs own bm nm n0 v0 ks g0 (p + 1) g' c' := by
  obtain ⟨n1, n2, n3⟩ := h.ne hb hob
  have hbr : b < wr.heap.size := Nat.lt_of_lt_of_le hb h.kp.size
  have hst := fun (i : Nat) (k : Int) => hw.stp hq i k
  obtain ⟨w1, hrun, hmp, hgr⟩ := h.mp.store (ns' := gro n0 ks g0 (p + 1)) (a := q) (k := ks[g0 + p]) (j := n0.length + p) hqb hx (by omega) (fun i k => by rw [gro_succ, hst, gro_len])
  have hb1 : w1.heap[b]? = wr.heap[b]? := hgr.block b hbr (by simpa using n2.symm)
  have hbmr : bm < wr.heap.size := h.mp.lt
  have hgpr : gp < wr.heap.size := by obtain ⟨_, cur, h2, _⟩ := h.pl.blk; exact (Array.getElem?_eq_some_iff.1 h2).1
  have hpl1 := h.pl.same (hgr.block gp hgpr (by simpa using n3))
  refine ⟨w1, hrun, hb1, hpl1, fun ob w2 g' c' hp2 hg2 hgn => ?_⟩
  have hs1 := hgr.size
  have hsa : (w1.alloc ob).heap.size = w1.heap.size + 1 := World.size_alloc _ _
  have al : ∀ k, k < w1.heap.size → (w1.alloc ob).heap[k]? = w1.heap[k]? := fun k hk => (MapKept.heap_alloc w1 ob).2 k hk
  have hb2 : w2.heap[b]? = wr.heap[b]? := (hg2.block b (by omega) (by simpa using n1.symm)).trans ((al b (by omega)).trans hb1)
  have hm2 : w2.heap[bm]? = w1.heap[bm]? := (hg2.block bm (by omega) (by simpa using n3.symm)).trans (al bm (by omega))
  have hs2 := hg2.size
  refine ⟨hb2, ?_⟩
  have hgb : g' ≠ b := by
    rcases hgn with rfl | rfl
    · exact n1
    · omega
  obtain ⟨hset, hgs⟩ := set1 (hb2.trans h.blk) (o + 1) (.slice (some ⟨g', 0, none⟩) (n0.length + p + 1) c')
  have hg'l : g' < w2.heap.size := by obtain ⟨_, cur, h2, _⟩ := hp2.blk; exact (Array.getElem?_eq_some_iff.1 h2).1
  refine ⟨?_, ?_, ?_, ?_, h.om, ?_⟩
  · rw [hset, Array.setIfInBounds_setIfInBounds]
    rfl
  · refine (hmp.same ?_)
    exact (hgs.block bm (by omega) (by simpa using n2)).trans hm2
  · rw [List.replicate_succ', ← List.append_assoc]
    exact hp2.same (hgs.block g' hg'l (by simpa using hgb))
  · rcases hgn with rfl | rfl
    · exact h.og
    · right
      have := h.kp.size
      omega
  · have k1 : Kps (fun k => k = bm) wr w1 := Kps.grown hgr (fun k e _ => by cases e; rfl)
    have k2 : Kps (fun _ => False) w1 (w1.alloc ob) := Kps.of_below _ (ext_alloc (Below.refl _ _) _)
    have k3 : Kps (fun k => k = gp) (w1.alloc ob) w2 := Kps.grown hg2 (fun k e _ => by cases e; rfl)
    have k4 : Kps (fun k => k = b) w2 (w2.setCell ⟨b, o + 1, none⟩ (.slice (some ⟨g', 0, none⟩) (n0.length + p + 1) c')) := Kps.grown hgs (fun k e _ => by cases e; rfl)
    refine Kps.trans (Kps.trans (Kps.trans (Kps.trans h.kp k1 ?_) k2 ?_) k3 ?_) k4 ?_
    · rintro i hi rfl
      rcases h.om with h | h
      · exact .inr h
      · omega
    · intro i _ e; exact e.elim
    · rintro i hi rfl
      rcases h.og with h | h
      · exact .inr h
      · omega
    · rintro i hi rfl
      exact .inl rfl
end
/-- What Put makes. -/
def PRB (w w' : World) (b o : Nat) (T : TypeId) (cs : Array Value) (own : Nat → Prop) (n N : Nat) (L : List (List Int × Bd)) : Prop :=
  ∃ m s own' ns vs, w'.heap[b]? = some (.cells ((cs.setIfInBounds o m).setIfInBounds (o + 1) s) T (0, 0)) ∧ TeB w' own' n ns vs m s ∧ Tri ns vs L ∧ ns.length ≤ N ∧ Kps (fun k => k = b ∨ own k) w w' ∧ (∀ k, own' k → own k ∨ w.heap.size ≤ k) ∧ ∀ k, own' k → k < w'.heap.size
end Go.Proofs.YtfdceljdhgbkcaaGreatDoor
