/- The document's trie: one row more. -/
import Derived.Test.YtdfmpnnenjnllaaKDt
namespace Go.Proofs.Ytdfmpnnenjnllaa
open Go.RowKit
theorem typ_ne {w : World} {a b : Nat} {c1 c2 : Array Value} {T1 T2 : TypeId} {r1 r2 : Nat × Nat} (h1 : w.heap[a]? = some (.cells c1 T1 r1)) (h2 : w.heap[b]? = some (.cells c2 T2 r2)) (hT : T1 ≠ T2) : a ≠ b := by
  intro e
  subst e
  rw [h1] at h2
  injection h2 with h2
  injection h2 with _ h3
  exact hT h3
theorem Try.info_sl : (Try.prog.info? 32).map (fun i => (i.zero, i.size, i.bytes)) = some (some (.slice none 0 0), 1, 24) := by kernel_rfl
section
variable {W : World}
/-- append(l, x), of lists, in a region that draws. -/
theorem wp_append_sl {op : Oper} {a : Act} {K : Act → World → Prop} {Q : Exit → Act → World → Prop} (s x : Operand) (ho : op.op = .call { callee := .builtin .append, args := #[s, x], argTypes := #[31, 31] })
    (v : Value) (us : List Value) (hs : a.eval s = v) (hown : W.ownsRow 0 32 1 v us.length us) (g : Nat) (u : Value) (hu : ∃ ao n c, u = .slice ao n c) (hx : a.eval x = .slice (some ⟨g, 0, none⟩) 1 1) (hc : W.cell? ⟨g, 0, none⟩ = some u) (hl : (us.length + 1) * 24 ≤ 140737488355328)
    (h : ∀ v' w', w'.ownsRow 0 32 1 v' (us.length + 1) (us ++ [u]) → W.grownBy w' v.ownBlock → (v'.ownBlock = v.ownBlock ∨ v'.ownBlock = some W.heap.size) → K (a.put op.dst v') w') : op.wp Try.prog a W K Q := by
  obtain ⟨i0, hi, hz0, hz1, hz2⟩ := info_parts Try.info_sl
  obtain ⟨ao, n, c, rfl⟩ := hu
  obtain ⟨v', w', hrun, h2, h3, h4⟩ := run_append_blk (P := Try.prog) W 0 31 op.type 32 i0 (.slice none 0 0) 1 24 Try.underlying31 hi hz0 hz1 hz2 rfl (by decide) v us.length us hown ⟨g, 0, none⟩ 1 1 [.slice ao n c] rfl (fun j u hj => by
    cases j with
    | zero => simp at hj; subst hj; exact hc
    | succ j => simp at hj) (fun q hq => by simp at hq; subst hq; rfl) (by unfold maxLen; omega) (by omega) (Nat.zero_le _) (by decide)
  unfold Oper.wp execOp
  simp only [ho, resolve, invoke, builtin, Sem.run_bind, Sem.run_pure, Result.andThen_ok, List.map_toArray, List.map_cons, List.map_nil, hs, hx, hrun]
  exact h v' w' h2 h3 h4
variable {ops : Array Oper} {rest : List Oper} {o : Oper} {a : Act} {Q : Exit → Act → World → Prop}
/-- append(l, x), of ints: where it lies. -/
theorem wpl_int (hgd : o.guard = none) (s x : Operand) (ho : o.op = .call { callee := .builtin .append, args := #[s, x], argTypes := #[32, 32] })
    (v : Value) (zs : List Int) (hs : a.eval s = v) (hown : OwnI W 0 v zs) (g : Nat) (z : Int) (hx : a.eval x = .slice (some ⟨g, 0, none⟩) 1 1) (hc : W.cell? ⟨g, 0, none⟩ = some (.int .i64 z)) (hl : (zs.length + 1) * 8 ≤ 140737488355328)
    (h : ∀ v' w', OwnI w' 0 v' (zs ++ [z]) → W.grownBy w' v.ownBlock → (v'.ownBlock = v.ownBlock ∨ v'.ownBlock = some W.heap.size) → wpList Try.prog ops Q rest (a.put o.dst v') w') : wpList Try.prog ops Q (o :: rest) a W := by
  obtain ⟨i0, hi, hz0, hz1, hz2⟩ := info_parts Try.info_i64
  refine wpList_append_blk W hgd s x 32 ho 0 3 i0 (.int .i64 0) 1 8 Try.underlying32 hi hz0 hz1 hz2 rfl (by decide) v zs.length (zs.map (Value.int .i64)) hs hown ⟨g, 0, none⟩ 1 1 [.int .i64 z] hx rfl (fun j u hj => ?_) (one_i64 z) (by unfold maxLen; omega) (by omega) (Nat.zero_le _) (by decide) ?_
  · cases j with
    | zero => simp at hj; subst hj; exact hc
    | succ j => simp at hj
  intro v' w' h1 h2 h3
  refine h v' w' ?_ h2 h3
  unfold OwnI
  simpa using h1
end
/-- Blocks that a call may have made. -/
def Sn (w w' : World) (S : Nat → Prop) : Nat → Prop := fun k => (S k ∨ w.heap.size ≤ k) ∧ k < w'.heap.size
section
variable {w y w2 : World} {q : Nat} {S : Nat → Prop} {L : List (List Int × Int)} {vr vv vr' u : Value} {us : List Value} {ks : List Int}
/-- Behind 't.Rows = append(t.Rows, joined(..))'. -/
structure D1 (w w3 : World) (q : Nat) (S : Nat → Prop) (L : List (List Int × Int)) (vr' vv u : Value) (us : List Value) (ks : List Int) : Prop where
  blk : w3.heap[q]? = some (.cells #[vr', vv] 34 (0, 0))
  rows : w3.ownsRow 0 32 1 vr' (us.length + 1) (us ++ [u])
  vals : OwnI w3 0 vv (L.map (·.2))
  each : ∀ (i : Nat) (u : Value) (r : List Int × Int), us[i]? = some u → L[i]? = some r → OwnI w3 0 u r.1 ∧ ∀ g, u.ownBlock = some g → S g ∧ vv.ownBlock ≠ some g
  new : OwnI w3 w.heap.size u ks
  sr : ∀ g, vr'.ownBlock = some g → S g ∨ w.heap.size ≤ g
  sv : ∀ g, vv.ownBlock = some g → S g
  kp : Kps S w w3
theorem D1.same {w w3 w4 : World} (h : D1 w w3 q S L vr' vv u us ks) (hb : ∀ k : Nat, w4.heap[k]? = w3.heap[k]?) (hs : w4.heap.size = w3.heap.size) (h1 : w4.os = w3.os) (h2 : w4.tape = w3.tape) (h3 : w4.output = w3.output) : D1 w w4 q S L vr' vv u us ks :=
  ⟨(hb q).trans h.blk, row_same h.rows (fun g _ => hb g), own_same h.vals (fun g _ => hb g), fun i u r hu hr => ⟨own_same (h.each i u r hu hr).1 (fun g _ => hb g), (h.each i u r hu hr).2⟩, own_same h.new (fun g _ => hb g), h.sr, h.sv, ⟨h1.trans h.kp.os, h2.trans h.kp.tape, h3.trans h.kp.output, by rw [hs]; exact h.kp.size, fun k hk hn => (hb k).trans (h.kp.same k hk hn)⟩⟩
theorem DT.rowin (h : DT w q S L vr vv us) (hy : Below w.heap.size w y) (hu : OwnI y w.heap.size u ks) (ob : Obj) (h2 : w2.ownsRow 0 32 1 vr' (us.length + 1) (us ++ [u])) (hg : (y.alloc ob).grownBy w2 vr.ownBlock) (hn : vr'.ownBlock = vr.ownBlock ∨ vr'.ownBlock = some (y.alloc ob).heap.size) :
    w2.heap[q]? = some (.cells #[vr, vv] 34 (0, 0)) ∧ D1 w (w2.setCell ⟨q, 0, none⟩ vr') q S L vr' vv u us ks := by
  have hql := h.lt q h.sq
  have hys := hy.size
  have hsa : (y.alloc ob).heap.size = y.heap.size + 1 := World.size_alloc _ _
  have al : ∀ k, k < y.heap.size → (y.alloc ob).heap[k]? = y.heap[k]? := fun k hk => (MapKept.heap_alloc y ob).2 k hk
  have hw2s := hg.size
  -- what is not the rows' block stays
  have st : ∀ k, k < y.heap.size → vr.ownBlock ≠ some k → w2.heap[k]? = y.heap[k]? := fun k hk hne => (hg.block k (by omega) (fun e => hne e.symm)).trans (al k hk)
  have vrb : ∀ g, vr.ownBlock = some g → S g ∧ ∃ cur, w.heap[g]? = some (.cells cur 32 (0, 0)) := by
    intro g e
    refine ⟨h.sr g e, ?_⟩
    rcases row_form h.rows with ⟨e1, _⟩ | ⟨g', c, e1, e2, cur, e3⟩
    · rw [e1] at e; cases e
    · rw [e] at e2
      cases e2
      exact ⟨cur, e3⟩
  have qne : vr.ownBlock ≠ some q := by
    intro e
    obtain ⟨_, cur, hc⟩ := vrb q e
    exact typ_ne h.blk hc (by decide) rfl
  have ine : ∀ {w' : World} {base : Nat} {z : Value} {zs : List Int} {g : Nat}, OwnI w' base z zs → z.ownBlock = some g → ∃ cur, w'.heap[g]? = some (.cells cur 3 (0, 0)) := by
    intro w' base z zs g hz e
    rcases row_form hz with ⟨e1, _⟩ | ⟨g', c, e1, e2, cur, e3⟩
    · rw [e1] at e; cases e
    · rw [e] at e2
      cases e2
      exact ⟨cur, e3⟩
  have vne : ∀ {z : Value} {zs : List Int} {g : Nat}, OwnI w 0 z zs → z.ownBlock = some g → g < w.heap.size ∧ vr.ownBlock ≠ some g ∧ g ≠ q := by
    intro z zs g hz e
    obtain ⟨cur, hc⟩ := ine hz e
    refine ⟨(Array.getElem?_eq_some_iff.1 hc).1, fun e2 => ?_, typ_ne hc h.blk (by decide)⟩
    obtain ⟨_, cur2, hc2⟩ := vrb g e2
    exact typ_ne hc hc2 (by decide) rfl
  have hq2 : w2.heap[q]? = some (.cells #[vr, vv] 34 (0, 0)) := (st q (by omega) qne).trans ((hy.block q hql).trans h.blk)
  refine ⟨hq2, ?_⟩
  obtain ⟨hs3, hg3⟩ := set1 hq2 0 vr'
  have st3 : ∀ k, k < w.heap.size → vr.ownBlock ≠ some k → k ≠ q → (w2.setCell ⟨q, 0, none⟩ vr').heap[k]? = w.heap[k]? := fun k hk h1 h3 => (hg3.block k (by omega) (by simpa using h3)).trans ((st k (by omega) h1).trans (hy.block k hk))
  refine ⟨hs3, row_same h2 (fun g e => ?_), own_same h.vals (fun g e => ?_), fun i z r hz hr => ⟨own_same (h.each i z r hz hr).1 (fun g e => ?_), (h.each i z r hz hr).2⟩, own_same hu (fun g e => ?_), fun g e => ?_, h.sv, ?_⟩
  · refine hg3.block g ?_ (by
      intro e2
      cases e2
      rcases hn with hn | hn
      · rw [hn] at e; exact qne e
      · rw [hn] at e; cases e; omega)
    rcases row_form h2 with ⟨e1, _⟩ | ⟨g', c, e1, e2, cur, e3⟩
    · rw [e1] at e; cases e
    · rw [e] at e2; cases e2
      exact (Array.getElem?_eq_some_iff.1 e3).1
  · obtain ⟨a1, a2, a3⟩ := vne h.vals e
    exact st3 g a1 a2 a3
  · obtain ⟨a1, a2, a3⟩ := vne (h.each i z r hz hr).1 e
    exact st3 g a1 a2 a3
  · obtain ⟨cur, hc⟩ := ine hu e
    have hgy := (Array.getElem?_eq_some_iff.1 hc).1
    have hgw : w.heap.size ≤ g := (World.ownsRow.lt hu g e).1
    refine (hg3.block g (by omega) (by simp; omega)).trans (st g hgy (fun e2 => ?_))
    obtain ⟨s1, cur2, hc2⟩ := vrb g e2
    have := (Array.getElem?_eq_some_iff.1 hc2).1
    omega
  · rcases hn with hn | hn
    · rw [hn] at e; exact .inl (h.sr g e)
    · rw [hn] at e; cases e; right; omega
  · have k1 : Kps S w y := Kps.of_below _ hy
    have k2 : Kps (fun _ => False) y (y.alloc ob) := Kps.of_below _ (ext_alloc (Below.refl _ _) _)
    have k3 : Kps S (y.alloc ob) w2 := Kps.grown hg (fun k e _ => h.sr k e)
    have k4 : Kps S w2 (w2.setCell ⟨q, 0, none⟩ vr') := Kps.grown hg3 (fun k e _ => by cases e; exact h.sq)
    exact Kps.trans (Kps.trans (Kps.trans k1 k2 (fun _ _ e => e.elim)) k3 (fun _ _ e => e)) k4 (fun _ _ e => e)
/-- Behind 't.Values = append(t.Values, v)'. -/
theorem D1.fin {w w3 w4 : World} {vv' : Value} {x : Int} (h : D1 w w3 q S L vr' vv u us ks) (hlen : us.length = L.length) (hS : S q) (hlt : ∀ k, S k → k < w.heap.size) (hsl : ∀ u ∈ us, ∃ ao n c, u = .slice ao n c) (ob : Obj)
    (h2 : OwnI w4 0 vv' (L.map (·.2) ++ [x])) (hg : (w3.alloc ob).grownBy w4 vv.ownBlock) (hn : vv'.ownBlock = vv.ownBlock ∨ vv'.ownBlock = some (w3.alloc ob).heap.size) :
    w4.heap[q]? = some (.cells #[vr', vv] 34 (0, 0)) ∧ DT (w4.setCell ⟨q, 1, none⟩ vv') q (Sn w (w4.setCell ⟨q, 1, none⟩ vv') S) (L ++ [(ks, x)]) vr' vv' (us ++ [u]) ∧ Kps S w (w4.setCell ⟨q, 1, none⟩ vv') := by
  have hsa : (w3.alloc ob).heap.size = w3.heap.size + 1 := World.size_alloc _ _
  have al : ∀ k, k < w3.heap.size → (w3.alloc ob).heap[k]? = w3.heap[k]? := fun k hk => (MapKept.heap_alloc w3 ob).2 k hk
  have hs4 := hg.size
  have hs3 := h.kp.size
  have hql := hlt q hS
  have st : ∀ k, k < w3.heap.size → vv.ownBlock ≠ some k → w4.heap[k]? = w3.heap[k]? := fun k hk hne => (hg.block k (by omega) (fun e => hne e.symm)).trans (al k hk)
  have typ : ∀ {T : TypeId} {w' : World} {base n : Nat} {z : Value} {xs : List Value} {g : Nat}, w'.ownsRow base T 1 z n xs → z.ownBlock = some g → ∃ cur, w'.heap[g]? = some (.cells cur T (0, 0)) := by
    intro T w' base n z xs g hz e
    rcases row_form hz with ⟨e1, _⟩ | ⟨g', c, e1, e2, cur, e3⟩
    · rw [e1] at e; cases e
    · rw [e] at e2
      cases e2
      exact ⟨cur, e3⟩
  have qne : vv.ownBlock ≠ some q := by
    intro e
    obtain ⟨cur, hc⟩ := typ h.vals e
    exact typ_ne h.blk hc (by decide) rfl
  have hq4 : w4.heap[q]? = some (.cells #[vr', vv] 34 (0, 0)) := (st q (by omega) qne).trans h.blk
  refine ⟨hq4, ?_⟩
  obtain ⟨hs5, hg5⟩ := set1 hq4 1 vv'
  have st5 : ∀ k, k < w3.heap.size → vv.ownBlock ≠ some k → k ≠ q → (w4.setCell ⟨q, 1, none⟩ vv').heap[k]? = w3.heap[k]? := fun k hk h1 h3 => (hg5.block k (by omega) (by simpa using h3)).trans (st k hk h1)
  have hsz : w4.heap.size ≤ (w4.setCell ⟨q, 1, none⟩ vv').heap.size := hg5.size
  have kps : Kps S w (w4.setCell ⟨q, 1, none⟩ vv') := by
    have k2 : Kps (fun _ => False) w3 (w3.alloc ob) := Kps.of_below _ (ext_alloc (Below.refl _ _) _)
    have k3 : Kps S (w3.alloc ob) w4 := Kps.grown hg (fun k e _ => h.sv k e)
    have k4 : Kps S w4 (w4.setCell ⟨q, 1, none⟩ vv') := Kps.grown hg5 (fun k e _ => by cases e; exact hS)
    exact Kps.trans (Kps.trans (Kps.trans h.kp k2 (fun _ _ e => e.elim)) k3 (fun _ _ e => e)) k4 (fun _ _ e => e)
  have rt : ∀ g, vr'.ownBlock = some g → g < w3.heap.size ∧ vv.ownBlock ≠ some g ∧ g ≠ q := by
    intro g e
    obtain ⟨cur, hc⟩ := typ h.rows e
    refine ⟨(Array.getElem?_eq_some_iff.1 hc).1, fun e2 => ?_, typ_ne hc h.blk (by decide)⟩
    obtain ⟨cur2, hc2⟩ := typ h.vals e2
    exact typ_ne hc hc2 (by decide) rfl
  have it : ∀ {base : Nat} {z : Value} {zs : List Int} (g : Nat), OwnI w3 base z zs → z.ownBlock = some g → g < w3.heap.size ∧ g ≠ q := by
    intro base z zs g hz e
    obtain ⟨cur, hc⟩ := typ hz e
    exact ⟨(Array.getElem?_eq_some_iff.1 hc).1, typ_ne hc h.blk (by decide)⟩
  have un : ∀ g, u.ownBlock = some g → w.heap.size ≤ g ∧ vv.ownBlock ≠ some g := by
    intro g e
    have hgw := (World.ownsRow.lt h.new g e).1
    refine ⟨hgw, fun e2 => ?_⟩
    have := hlt g (h.sv g e2)
    omega
  refine ⟨⟨hs5, ⟨.inl hS, by omega⟩, by simp [hlen], ?_, ?_, fun g e => ?_, fun g e => ?_, fun i z r hz hr => ?_, fun z hz => ?_, fun k hk => hk.2⟩, kps⟩
  · have := row_same (w' := w4.setCell ⟨q, 1, none⟩ vv') h.rows (fun g e => by obtain ⟨a, b, c⟩ := rt g e; exact st5 g a b c)
    simpa using this
  · rw [List.map_append]
    refine own_same h2 (fun g e => hg5.block g ?_ (by
      intro e2
      cases e2
      rcases hn with hn | hn
      · rw [hn] at e; exact qne e
      · rw [hn] at e; cases e; omega))
    obtain ⟨cur, hc⟩ := typ h2 e
    exact (Array.getElem?_eq_some_iff.1 hc).1
  · obtain ⟨a, b, c⟩ := rt g e
    exact ⟨h.sr g e, by omega⟩
  · rcases hn with hn | hn
    · rw [hn] at e
      have := h.sv g e
      exact ⟨.inl this, by have := hlt g this; omega⟩
    · rw [hn] at e
      cases e
      refine ⟨.inr (by omega), ?_⟩
      obtain ⟨cur, hc⟩ := typ h2 hn
      have := (Array.getElem?_eq_some_iff.1 hc).1
      omega
  · by_cases hi : i < us.length
    · rw [List.getElem?_append_left hi] at hz
      rw [List.getElem?_append_left (by omega)] at hr
      obtain ⟨o1, o2⟩ := h.each i z r hz hr
      refine ⟨own_same o1 (fun g e => by obtain ⟨a, c⟩ := it g o1 e; exact st5 g a (o2 g e).2 c), fun g e => ⟨⟨.inl (o2 g e).1, by obtain ⟨a, c⟩ := it g o1 e; omega⟩, fun e2 => ?_⟩⟩
      rcases hn with hn | hn
      · rw [hn] at e2; exact (o2 g e).2 e2
      · rw [hn] at e2
        cases e2
        obtain ⟨a, c⟩ := it _ o1 e
        omega
    · have hie : i = us.length := by
        have := (List.getElem?_eq_some_iff.1 hz).1
        simp at this
        omega
      subst hie
      rw [List.getElem?_append_right (Nat.le_refl _)] at hz
      rw [List.getElem?_append_right (by omega), hlen] at hr
      simp at hz hr
      subst hz hr
      refine ⟨(own_same h.new (fun g e => by obtain ⟨a, c⟩ := it g h.new e; exact st5 g a (un g e).2 c)).le (Nat.zero_le _), fun g e => ⟨⟨.inr (un g e).1, by obtain ⟨a, c⟩ := it g h.new e; omega⟩, fun e2 => ?_⟩⟩
      rcases hn with hn | hn
      · rw [hn] at e2; exact (un g e).2 e2
      · rw [hn] at e2
        cases e2
        obtain ⟨a, c⟩ := it _ h.new e
        omega
  · rcases List.mem_append.1 hz with hz | hz
    · exact hsl z hz
    · simp at hz
      subst hz
      obtain ⟨ao, n, c, e⟩ := own_form h.new
      exact ⟨ao, n, c, e⟩
end
end Go.Proofs.Ytdfmpnnenjnllaa
