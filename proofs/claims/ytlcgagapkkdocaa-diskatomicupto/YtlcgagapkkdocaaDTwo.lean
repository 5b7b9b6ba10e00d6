/- Two disks in one memory; what do does, as a function. -/
import Derived.Test.YtlcgagapkkdocaaDLDo3
import Derived.Test.YtlcgagapkkdocaaDPlan2
import Derived.Test.YtlcgagapkkdocaaDSame
namespace Go.Proofs.Ytlcgagapkkdocaa
open Go.RowKit

/-- Blocks of cells that are of no disk's kind, nor bytes, stay. -/
def Kc (w w' : World) : Prop := ∀ (k : Nat) (cs : Array Value) (T : TypeId), w.heap[k]? = some (.cells cs T (0, 0)) → ¬ DK T → T ≠ 5 → w'.heap[k]? = w.heap[k]?
theorem Ku.kc {U : Prop} {F : Nat → Prop} {w w' : World} (h : Ku U F w w') : Kc w w' := fun _ _ _ hc hT hU => h.keep hc hT hU
theorem Kc.of {w w' : World} (h : Below w.heap.size w w') : Kc w w' := fun k _ _ hc _ _ => h.block k (Array.getElem?_eq_some_iff.1 hc).1
theorem Kc.trans {w w' w'' : World} (h : Kc w w') (k : Kc w' w'') : Kc w w'' := fun i cs T hc hT hU => (k i cs T ((h i cs T hc hT hU).trans hc) hT hU).trans (h i cs T hc hT hU)
theorem Shot.kc {w w' : World} {vn vd vs : Value} {D : Dk} (h : Shot w vn vd vs D) (k : Kc w w') : Shot w' vn vd vs D :=
  ⟨own_same h.n (fun g hg => by obtain ⟨cur, hc⟩ := own_lt h.n hg; exact k g _ _ hc (by decide) (by decide)), own_same h.d (fun g hg => by obtain ⟨cur, hc⟩ := own_lt h.d hg; exact k g _ _ hc (by decide) (by decide)), own_same h.s (fun g hg => by obtain ⟨cur, hc⟩ := own_lt h.s hg; exact k g _ _ hc (by decide) (by decide))⟩
/-- Two disks that have no block in common; what is below n is neither's. -/
def Two (n N : Nat) (w : World) (d e : Nat) (D E : Dk) : Prop :=
  ∃ F G : Nat → Prop, Dsk F N w d D ∧ Dsk G N w e E ∧ (∀ k, k < w.heap.size → F k ∨ G k) ∧ (∀ k, k < n → F k ∧ G k)
/-- What one disk's step does to the other. -/
theorem Dsk.beside {U : Prop} {F G : Nat → Prop} {N : Nat} {w w' : World} {e : Nat} {E : Dk} (h : Dsk G N w e E) (hc : ∀ k, k < w.heap.size → F k ∨ G k) (k : Ku U F w w') : Dsk (Fx G w w') N w' e E :=
  h.move (fun i hi hn => ⟨k.same i hi (fun o => (hc i hi).elim o.1 hn), fun o => o.elim hn (fun o => by omega)⟩) (fun q hq => hq.elim (fun o => Nat.lt_of_lt_of_le (h.fw q o) k.size) (fun o => o.2))
theorem cover_l {F G : Nat → Prop} {w w' : World} (hc : ∀ k, k < w.heap.size → F k ∨ G k) : ∀ k, k < w'.heap.size → F k ∨ Fx G w w' k := fun k hk => by
  by_cases hl : k < w.heap.size
  · exact (hc k hl).elim .inl (fun o => .inr (.inl o))
  · exact .inr (.inr ⟨by omega, hk⟩)
theorem Two.ext {n N : Nat} {w w' : World} {d e : Nat} {D E : Dk} (h : Two n N w d e D E) (hb : Below w.heap.size w w') : Two n N w' d e D E := by
  obtain ⟨F, G, h1, h2, h3, h4⟩ := h
  exact ⟨F, Fx G w w', h1.ext hb, h2.pen hb, cover_l h3, fun k hk => ⟨(h4 k hk).1, .inl (h4 k hk).2⟩⟩
theorem Two.mono {n N M : Nat} {w : World} {d e : Nat} {D E : Dk} (h : Two n N w d e D E) (hm : N ≤ M) (hM : M ≤ 1099511627776) : Two n M w d e D E := by
  obtain ⟨F, G, h1, h2, h3, h4⟩ := h
  exact ⟨F, G, h1.monoN hm hM, h2.monoN hm hM, h3, h4⟩
theorem Two.swap {n N : Nat} {w : World} {d e : Nat} {D E : Dk} (h : Two n N w d e D E) : Two n N w e d E D := by
  obtain ⟨F, G, h1, h2, h3, h4⟩ := h
  exact ⟨G, F, h2, h1, fun k hk => (h3 k hk).symm, fun k hk => (h4 k hk).symm⟩
/-- A step of the first, behind new memory that is the caller's. -/
theorem Two.left {n N M : Nat} {w0 w : World} {d e : Nat} {D E : Dk} {f : Nat} {args : Array Value} {P : Ending → World → Dk → Prop} (h0 : Two n N w0 d e D E) (hb : Below w0.heap.size w0 w) (hm : N ≤ M) (hM : M ≤ 1099511627776) (hn : n ≤ w0.heap.size)
    (c : ∀ F, Dsk F N w d D → (∀ k, w0.heap.size ≤ k → k < w.heap.size → F k) → Calls Try.prog f args w fun x w' => ∃ D', P x w' D' ∧ Dsk F M w' d D' ∧ Ku True F w w') :
    Calls Try.prog f args w fun x w' => ∃ D', P x w' D' ∧ Two n M w' d e D' E ∧ Below n w w' ∧ Kc w w' := by
  obtain ⟨F, G, h1, h2, h3, h4⟩ := h0
  have h1' := h1.pen hb
  have h2' := h2.pen hb
  have h3' : ∀ k, k < w.heap.size → Fx F w0 w k ∨ Fx G w0 w k := fun k hk => by
    by_cases hl : k < w0.heap.size
    · exact (h3 k hl).elim (fun o => .inl (.inl o)) (fun o => .inr (.inl o))
    · exact .inl (.inr ⟨by omega, hk⟩)
  refine (c (Fx F w0 w) h1' (fun k a b => .inr ⟨a, b⟩)).mono fun x w' ⟨D', p, h5, h6⟩ => ⟨D', p, ⟨Fx F w0 w, Fx (Fx G w0 w) w w', h5, (h2'.beside h3' h6).monoN hm hM, cover_l h3', fun k hk => ⟨.inl (h4 k hk).1, .inl (.inl (h4 k hk).2)⟩⟩, h6.below (Nat.le_trans hn hb.size) (fun k hk => .inl (h4 k hk).1), h6.kc⟩
/-- A step of the second. -/
theorem Two.right {n N M : Nat} {w0 w : World} {d e : Nat} {D E : Dk} {f : Nat} {args : Array Value} {P : Ending → World → Dk → Prop} (h0 : Two n N w0 d e D E) (hb : Below w0.heap.size w0 w) (hm : N ≤ M) (hM : M ≤ 1099511627776) (hn : n ≤ w0.heap.size)
    (c : ∀ F, Dsk F N w e E → (∀ k, w0.heap.size ≤ k → k < w.heap.size → F k) → Calls Try.prog f args w fun x w' => ∃ D', P x w' D' ∧ Dsk F M w' e D' ∧ Ku True F w w') :
    Calls Try.prog f args w fun x w' => ∃ E', P x w' E' ∧ Two n M w' d e D E' ∧ Below n w w' ∧ Kc w w' :=
  (h0.swap.left hb hm hM hn c).mono fun _ _ ⟨E', p, q, r⟩ => ⟨E', p, q.swap, r⟩
/-- The step of a script's row, and the part of it. -/
def opOf (x : So) : Dk → Rs :=
  if x.k = 1 then opMake x.nm else if x.k = 2 then opApp x.nm x.b else if x.k = 3 then opSync x.nm else if x.k = 4 then opSyncDir else if x.k = 5 then opRen x.nm x.tn else if x.k = 6 then opRem x.nm else if x.k = 7 then opRead x.nm else opStamp x.nm
def ptOf (x : So) : Option (Int → Dk → Rs) := if x.k = 2 then some (opPart x.nm x.b) else none
/-- What do does. -/
def doP (x : So) (D : Dk) : Rs :=
  if 1 ≤ x.k ∧ x.k ≤ 8 then take (opOf x) (ptOf x) D else if x.k = 9 then opPut x.nm x.b D else if x.k = 12 then .err D.restart 0 else .err D 0
theorem do_any (CR : CrashOk) {F : Nat → Prop} {M : Nat} {w : World} {d : Nat} {D : Dk} (h : Dsk F M w d D) (hM : M + 3 ≤ 1099511627776) (x : So) (hn : x.nm.length ≤ 9223372036854775807) (ht : x.tn.length ≤ 9223372036854775807) (hb : ∀ z ∈ x.b, 0 ≤ z ∧ z < 256) (hr : RdU w x.bv x.b) (hbl : x.b.length ≤ 1099511627776) (h10 : x.k ≠ 10) (h11 : x.k ≠ 11) :
    Calls Try.prog 21 #[pp d, opV x] w fun e w' => DoneE (doP x D).e e ∧ Dsk F (M + 3) w' d (doP x D).d ∧ Ku True F w w' := by
  by_cases k1 : x.k = 1
  · exact (law_make CR h hM x hn k1).mono fun e w' ⟨a, b, c⟩ => by simp only [doP, opOf, ptOf, k1]; exact ⟨a, b, c.ku _⟩
  by_cases k2 : x.k = 2
  · exact (law_app CR h hM x hn hr hbl hb k2).mono fun e w' ⟨a, b, c⟩ => by simp only [doP, opOf, ptOf, k2]; exact ⟨a, b, c⟩
  by_cases k3 : x.k = 3
  · exact (law_sync CR h hM x hn k3).mono fun e w' ⟨a, b, c⟩ => by simp only [doP, opOf, ptOf, k3]; exact ⟨a, b, c.ku _⟩
  by_cases k4 : x.k = 4
  · exact (law_dir CR h hM x k4).mono fun e w' ⟨a, b, c⟩ => by simp only [doP, opOf, ptOf, k4]; exact ⟨a, b, c.ku _⟩
  by_cases k5 : x.k = 5
  · exact (law_rename CR h hM x hn ht k5).mono fun e w' ⟨a, b, c⟩ => by simp only [doP, opOf, ptOf, k5]; exact ⟨a, b, c.ku _⟩
  by_cases k6 : x.k = 6
  · exact (law_remove CR h hM x hn k6).mono fun e w' ⟨a, b, c⟩ => by simp only [doP, opOf, ptOf, k6]; exact ⟨a, b, c.ku _⟩
  by_cases k7 : x.k = 7
  · exact (law_read CR h hM x hn k7).mono fun e w' ⟨a, b, c⟩ => by simp only [doP, opOf, ptOf, k7]; exact ⟨a, b, c.ku _⟩
  by_cases k8 : x.k = 8
  · exact (law_stamp CR h hM x hn k8).mono fun e w' ⟨a, b, c⟩ => by simp only [doP, opOf, ptOf, k8]; exact ⟨a, b, c.ku _⟩
  have hno : ¬ (1 ≤ x.k ∧ x.k ≤ 8) := by omega
  unfold doP
  rw [if_neg hno]
  by_cases k9 : x.k = 9
  · rw [if_pos k9]
    exact (law_put h hM x hn hr hbl hb k9).mono fun e w' ⟨a, b, c⟩ => ⟨a, b, c.ku _⟩
  rw [if_neg k9]
  by_cases k12 : x.k = 12
  · rw [if_pos k12]
    exact (law_restart h x k12).mono fun e w' ⟨a, b, c⟩ => ⟨a, b.monoN (by omega) hM, c.ku _⟩
  rw [if_neg k12]
  exact (law_none h x (by omega)).mono fun e w' ⟨a, b, c⟩ => ⟨a, b.monoN (by omega) hM, c.ku _⟩
end Go.Proofs.Ytlcgagapkkdocaa
