/- DiskAtomic: the walk. -/
import Derived.Test.YtlcgagapkkdocaaDPlay
namespace Go.Proofs.Ytlcgagapkkdocaa
open Go.RowKit

abbrev nT : Nm := [116, 101, 120, 116]
abbrev nO : Nm := [111, 116, 104, 101, 114]
abbrev nN : Nm := [110, 101, 119, 126]
abbrev stays : List Int := [115, 116, 97, 121, 115]
abbrev se0 : Dir := [(nO, 1), (nT, 0)]
abbrev se1 : Dir := [(nN, 2), (nO, 1), (nT, 0)]
abbrev se2 : Dir := [(nO, 1), (nT, 2)]
abbrev ac1 : Ac := ⟨[], nN, some 2⟩
abbrev ac2 : Ac := ⟨nN, nT, some 2⟩
abbrev fO (old : List Int) : Fi := ⟨old, old.length, 1⟩
abbrev fS : Fi := ⟨stays, 5, 1⟩
section
variable (old : List Int) (sp : Nat) (p : Int → Option Ft) (st : Nat) (f : Fi)
def atA : Dk := ⟨sp, [fO old, fS], se0, se0, [], p, st, false⟩
def atB : Dk := ⟨sp, [fO old, fS, f], se1, se0, [ac1], p, st, false⟩
def atC : Dk := ⟨sp, [fO old, fS, f], se2, se0, [ac1, ac2], p, st, false⟩
def atE : Dk := ⟨sp, [fO old, fS, f], se2, se2, [], p, st, false⟩
end
/-- What is found at last: the new bytes, or (where not all went well) the old ones. -/
def Res (old whole : List Int) (well : Bool) (D : Dk) : Prop := (∃ i, Dir.get nT D.se = some i ∧ ((fiAt D.fi i).bs = whole ∨ (well = false ∧ (fiAt D.fi i).bs = old))) ∧ (∃ j, Dir.get nO D.se = some j ∧ (fiAt D.fi j).bs = stays) ∧ D.se.length ≤ 3
/-- Whatever a power loss cuts. -/
def Sf (old whole : List Int) (well : Bool) (D : Dk) : Prop := ∀ c, Res old whole well (D.crash c)
theorem crash_up {D : Dk} (h : D.dn = false) (c : Ct) : D.crash c = { D with se := acts (D.ac.take (clip c.nm D.ac.length)) D.la, la := acts (D.ac.take (clip c.nm D.ac.length)) D.la, ac := [], fi := cutAll (acts (D.ac.take (clip c.nm D.ac.length)) D.la) c.bs D.fi, dn := true } := by
  unfold Dk.crash
  rw [if_neg (by rw [h]; decide)]
theorem crash_down {D : Dk} (h : D.dn = true) (c : Ct) : D.crash c = D := by
  unfold Dk.crash
  rw [if_pos h]
theorem cutF_syn {f : Fi} (h : f.sy = f.bs.length) (m : Int) : cutF f m = f := by
  unfold cutF
  have e : clip m (f.bs.length - f.sy) = 0 := by unfold clip; omega
  rw [e, h]
  simp only [Nat.add_zero, List.take_length]
  cases f
  simp at h
  subst h
  rfl
/-- A synced file stays. -/
theorem cutAll_keep {q : Nat} : ∀ (d : Dir) (bs : List Int) (fi : List Fi), (fiAt fi q).sy = (fiAt fi q).bs.length → fiAt (cutAll d bs fi) q = fiAt fi q
  | [], _, _, _ => rfl
  | p :: r, bs, fi, h => by
    unfold cutAll
    have e : fiAt (fi.set p.2 (cutF (fiAt fi p.2) (bs.headD 0))) q = fiAt fi q := by
      by_cases hl : p.2 < fi.length
      · rw [fiAt_set hl]
        split
        · rename_i e; subst e; exact cutF_syn h _
        · rfl
      · rw [List.set_eq_of_length_le (by omega)]
    rw [cutAll_keep r bs.tail _ (by rw [e]; exact h), e]
theorem clip_le (m : Int) (n : Nat) : clip m n ≤ n := by unfold clip; omega
theorem sf_A (old whole : List Int) (sp : Nat) (p : Int → Option Ft) (st : Nat) : Sf old whole false (atA old sp p st) := fun c => by
  rw [crash_up rfl]
  have e : ∀ n, acts (([] : List Ac).take n) se0 = se0 := fun n => by simp [acts]
  refine ⟨⟨0, ?_, .inr ⟨rfl, ?_⟩⟩, ⟨1, ?_, ?_⟩, ?_⟩
  · show Dir.get nT (acts (([] : List Ac).take _) se0) = _; rw [e]; rfl
  · show (fiAt (cutAll _ c.bs [fO old, fS]) 0).bs = old; rw [cutAll_keep _ _ _ rfl]; rfl
  · show Dir.get nO (acts (([] : List Ac).take _) se0) = _; rw [e]; rfl
  · show (fiAt (cutAll _ c.bs [fO old, fS]) 1).bs = stays; rw [cutAll_keep _ _ _ rfl]; rfl
  · show (acts (([] : List Ac).take _) se0).length ≤ 3; rw [e]; decide
theorem sf_B (old whole : List Int) (sp : Nat) (p : Int → Option Ft) (st : Nat) (f : Fi) : Sf old whole false (atB old sp p st f) := fun c => by
  rw [crash_up rfl]
  have hk := clip_le c.nm 1
  have e : acts ([ac1].take (clip c.nm 1)) se0 = se0 ∨ acts ([ac1].take (clip c.nm 1)) se0 = se1 := by
    rcases Nat.le_one_iff_eq_zero_or_eq_one.1 hk with h | h
    · rw [h]; exact .inl rfl
    · rw [h]; exact .inr (by decide)
  refine ⟨⟨0, ?_, .inr ⟨rfl, ?_⟩⟩, ⟨1, ?_, ?_⟩, ?_⟩
  · show Dir.get nT (acts ([ac1].take (clip c.nm 1)) se0) = _; rcases e with e | e <;> rw [e] <;> rfl
  · show (fiAt (cutAll _ c.bs [fO old, fS, f]) 0).bs = old; rw [cutAll_keep _ _ _ rfl]; rfl
  · show Dir.get nO (acts ([ac1].take (clip c.nm 1)) se0) = _; rcases e with e | e <;> rw [e] <;> rfl
  · show (fiAt (cutAll _ c.bs [fO old, fS, f]) 1).bs = stays; rw [cutAll_keep _ _ _ rfl]; rfl
  · show (acts ([ac1].take (clip c.nm 1)) se0).length ≤ 3; rcases e with e | e <;> rw [e] <;> decide
theorem sf_C (old whole : List Int) (sp : Nat) (p : Int → Option Ft) (st : Nat) (ct : Nat) : Sf old whole false (atC old sp p st ⟨whole, whole.length, ct⟩) := fun c => by
  rw [crash_up rfl]
  have hk := clip_le c.nm 2
  have e : acts ([ac1, ac2].take (clip c.nm 2)) se0 = se0 ∨ acts ([ac1, ac2].take (clip c.nm 2)) se0 = se1 ∨ acts ([ac1, ac2].take (clip c.nm 2)) se0 = se2 := by
    have : clip c.nm 2 = 0 ∨ clip c.nm 2 = 1 ∨ clip c.nm 2 = 2 := by omega
    rcases this with h | h | h
    · rw [h]; exact .inl rfl
    · rw [h]; exact .inr (.inl (by decide))
    · rw [h]; exact .inr (.inr (by decide))
  have k0 : (fiAt (cutAll (acts ([ac1, ac2].take (clip c.nm 2)) se0) c.bs [fO old, fS, ⟨whole, whole.length, ct⟩]) 0).bs = old := by rw [cutAll_keep _ _ _ rfl]; rfl
  have k2 : (fiAt (cutAll (acts ([ac1, ac2].take (clip c.nm 2)) se0) c.bs [fO old, fS, ⟨whole, whole.length, ct⟩]) 2).bs = whole := by rw [cutAll_keep _ _ _ rfl]; rfl
  refine ⟨?_, ⟨1, ?_, ?_⟩, ?_⟩
  · rcases e with e | e | e
    · exact ⟨0, by show Dir.get nT (acts ([ac1, ac2].take (clip c.nm 2)) se0) = _; rw [e]; rfl, .inr ⟨rfl, k0⟩⟩
    · exact ⟨0, by show Dir.get nT (acts ([ac1, ac2].take (clip c.nm 2)) se0) = _; rw [e]; rfl, .inr ⟨rfl, k0⟩⟩
    · exact ⟨2, by show Dir.get nT (acts ([ac1, ac2].take (clip c.nm 2)) se0) = _; rw [e]; rfl, .inl k2⟩
  · show Dir.get nO (acts ([ac1, ac2].take (clip c.nm 2)) se0) = _; rcases e with e | e | e <;> rw [e] <;> rfl
  · show (fiAt (cutAll _ c.bs [fO old, fS, ⟨whole, whole.length, ct⟩]) 1).bs = stays; rw [cutAll_keep _ _ _ rfl]; rfl
  · show (acts ([ac1, ac2].take (clip c.nm 2)) se0).length ≤ 3; rcases e with e | e | e <;> rw [e] <;> decide
theorem sf_E (old whole : List Int) (well : Bool) (sp : Nat) (p : Int → Option Ft) (st : Nat) (ct : Nat) : Sf old whole well (atE old sp p st ⟨whole, whole.length, ct⟩) := fun c => by
  rw [crash_up rfl]
  have e : ∀ n, acts (([] : List Ac).take n) se2 = se2 := fun n => by simp [acts]
  refine ⟨⟨2, ?_, .inl ?_⟩, ⟨1, ?_, ?_⟩, ?_⟩
  · show Dir.get nT (acts (([] : List Ac).take _) se2) = _; rw [e]; rfl
  · show (fiAt (cutAll _ c.bs [fO old, fS, ⟨whole, whole.length, ct⟩]) 2).bs = whole; rw [cutAll_keep _ _ _ rfl]; rfl
  · show Dir.get nO (acts (([] : List Ac).take _) se2) = _; rw [e]; rfl
  · show (fiAt (cutAll _ c.bs [fO old, fS, ⟨whole, whole.length, ct⟩]) 1).bs = stays; rw [cutAll_keep _ _ _ rfl]; rfl
  · show (acts (([] : List Ac).take _) se2).length ≤ 3; rw [e]; decide
theorem bel_no (r : Rs) : (bel r).e ≠ 0 := by
  unfold bel
  split
  · show (160 : Int) ≠ 0; decide
  · assumption
/-- A step, whatever goes wrong: it was done and said so, or all is safe. -/
theorem take_safe {old whole : List Int} {op : Dk → Rs} {part : Option (Int → Dk → Rs)} {D : Dk} (hd : D.dn = false) (h0 : Sf old whole false D.tick) (h1 : Sf old whole false (op D.tick).d) (h2 : ∀ q, part = some q → ∀ n, Sf old whole false (q n D.tick).d) :
    ((take op part D).e = 0 → take op part D = op D.tick) ∧ ((take op part D).e ≠ 0 → Sf old whole false (take op part D).d) := by
  have down : ∀ X : Dk, ∀ c, Sf old whole false X → Sf old whole false (X.crash c) := fun X c hX c2 => by
    have : (X.crash c).dn = true := by
      cases hx : X.dn
      · rw [crash_up hx]
      · rw [crash_down hx]; exact hx
    rw [crash_down this]
    exact hX c
  unfold take
  rw [if_neg (by rw [hd]; decide)]
  cases hp : D.pl (D.st + 1 : Nat) with
  | none => exact ⟨fun _ => rfl, fun _ => h1⟩
  | some f =>
    unfold meet
    dsimp only
    split
    · exact ⟨fun e => absurd (show (160 : Int) = 0 from e) (by decide), fun _ => h0⟩
    · split
      · cases hq : part with
        | none => exact ⟨fun e => absurd (show (160 : Int) = 0 from e) (by decide), fun _ => h0⟩
        | some q => exact ⟨fun e => absurd e (bel_no _), fun _ => by rw [bel_d]; exact h2 q hq _⟩
      · split
        · exact ⟨fun e => absurd e (bel_no _), fun _ => by rw [bel_d]; exact h1⟩
        · split
          · exact ⟨fun e => absurd (show (165 : Int) = 0 from e) (by decide), fun _ => down _ _ h0⟩
          · exact ⟨fun e => absurd (show (165 : Int) = 0 from e) (by decide), fun _ => down _ _ h1⟩
section
variable (old : List Int) (sp : Nat) (p : Int → Option Ft) (st : Nat) (f : Fi)
theorem mk_A : opMake nN (atA old sp p st) = Rs.err (atB old sp p st ⟨[], 0, 0⟩) 0 := by
  have h1 : fndE se0 nN = 162 := by decide
  unfold opMake
  show (if fndE se0 nN = 0 then _ else if fndE se0 nN ≠ 162 then _ else if (atA old sp p st).full = true then _ else _) = _
  rw [h1, if_neg (by decide), if_neg (by decide), if_neg (by show ¬ (decide (16 ≤ (se0 : Dir).length)) = true; decide)]
  rfl
theorem with_B (g : Nat → Dk → Rs) : opWith nN g (atB old sp p st f) = g 2 (atB old sp p st f) := by
  have h1 : okN nN = true := by decide
  have h2 : Dir.get nN se1 = some 2 := by decide
  unfold opWith
  rw [if_pos h1]
  have h3 : Dir.get nN (atB old sp p st f).se = some 2 := h2
  rw [h3]
theorem part_B (b : List Int) (n : Int) : ∃ k, (opPart nN b n (atB old sp p st f)).d = atB old sp p st (wrF f (b.take k)) ∧ (opPart nN b n (atB old sp p st f)).e = 0 ∧ (opPart nN b n (atB old sp p st f)).n = k ∧ k ≤ b.length := by
  refine ⟨clip n (min b.length (atB old sp p st f).room), ?_, ?_, ?_, ?_⟩
  · unfold opPart; rw [with_B]; rfl
  · unfold opPart; rw [with_B]
  · unfold opPart; rw [with_B]
  · unfold clip; omega
theorem app_B (b : List Int) : ∃ k, (opApp nN b (atB old sp p st f)).d = atB old sp p st (wrF f (b.take k)) ∧ ((opApp nN b (atB old sp p st f)).e = 0 → k = b.length) := by
  obtain ⟨k, h1, h2, h3, h4⟩ := part_B old sp p st f b (b.length : Int)
  unfold opApp
  dsimp only
  rw [h2, h3]
  by_cases hk : k < b.length
  · rw [if_pos ⟨rfl, hk⟩]
    exact ⟨k, h1, fun e => absurd (show (161 : Int) = 0 from e) (by decide)⟩
  · rw [if_neg (fun e => hk e.2)]
    exact ⟨k, h1, fun _ => by omega⟩
theorem sync_B : opSync nN (atB old sp p st f) = Rs.err (atB old sp p st ⟨f.bs, f.bs.length, f.ct⟩) 0 := by
  unfold opSync
  rw [with_B]
  rfl
theorem ren_B : opRen nN nT (atB old sp p st f) = Rs.err (atC old sp p st f) 0 := by
  have h1 : okN nT = true := by decide
  unfold opRen
  rw [if_pos h1, with_B, if_neg (by decide)]
  rfl
theorem dir_C : opSyncDir (atC old sp p st f) = Rs.err (atE old sp p st f) 0 := rfl
/-- The plan behind a step. -/
def ntP (st : Nat) (p : Int → Option Ft) : Int → Option Ft := fun k => if k = (st + 1 : Nat) then none else p k
theorem wr_bs (f : Fi) (b : List Int) : (wrF f b).bs = f.bs ++ b := by
  unfold wrF
  split
  · rename_i h; rw [h]; simp
  · rfl
end
section
variable {old whole : List Int} {sp : Nat} {p : Int → Option Ft} {st : Nat} {f : Fi}
theorem make_at : ((take (opMake nN) none (atA old sp p st)).e = 0 → (take (opMake nN) none (atA old sp p st)).d = atB old sp (ntP st p) (st + 1) ⟨[], 0, 0⟩) ∧ ((take (opMake nN) none (atA old sp p st)).e ≠ 0 → Sf old whole false (take (opMake nN) none (atA old sp p st)).d) := by
  have e := mk_A old sp (ntP st p) (st + 1)
  have h := take_safe (old := old) (whole := whole) (op := opMake nN) (part := none) (D := atA old sp p st) rfl (sf_A old whole sp (ntP st p) (st + 1)) (by show Sf old whole false (opMake nN (atA old sp (ntP st p) (st + 1))).d; rw [e]; exact sf_B _ _ _ _ _ _) (fun q hq => by cases hq)
  exact ⟨fun h0 => by rw [h.1 h0]; show (opMake nN (atA old sp (ntP st p) (st + 1))).d = _; rw [e]; rfl, h.2⟩
theorem app_at (b : List Int) : ((take (opApp nN b) (some (opPart nN b)) (atB old sp p st f)).e = 0 → (take (opApp nN b) (some (opPart nN b)) (atB old sp p st f)).d = atB old sp (ntP st p) (st + 1) (wrF f b)) ∧ ((take (opApp nN b) (some (opPart nN b)) (atB old sp p st f)).e ≠ 0 → Sf old whole false (take (opApp nN b) (some (opPart nN b)) (atB old sp p st f)).d) := by
  obtain ⟨k, e1, e2⟩ := app_B old sp (ntP st p) (st + 1) f b
  have h := take_safe (old := old) (whole := whole) (op := opApp nN b) (part := some (opPart nN b)) (D := atB old sp p st f) rfl (sf_B old whole sp (ntP st p) (st + 1) f) (by show Sf old whole false (opApp nN b (atB old sp (ntP st p) (st + 1) f)).d; rw [e1]; exact sf_B _ _ _ _ _ _) (fun q hq n => by
    cases hq
    obtain ⟨k, e3, _⟩ := part_B old sp (ntP st p) (st + 1) f b n
    show Sf old whole false (opPart nN b n (atB old sp (ntP st p) (st + 1) f)).d
    rw [e3]
    exact sf_B _ _ _ _ _ _)
  refine ⟨fun h0 => ?_, h.2⟩
  have h1 := h.1 h0
  rw [h1] at h0 ⊢
  have hk := e2 h0
  show (opApp nN b (atB old sp (ntP st p) (st + 1) f)).d = _
  rw [e1, hk, List.take_length]
theorem sync_at : ((take (opSync nN) none (atB old sp p st f)).e = 0 → (take (opSync nN) none (atB old sp p st f)).d = atB old sp (ntP st p) (st + 1) ⟨f.bs, f.bs.length, f.ct⟩) ∧ ((take (opSync nN) none (atB old sp p st f)).e ≠ 0 → Sf old whole false (take (opSync nN) none (atB old sp p st f)).d) := by
  have e := sync_B old sp (ntP st p) (st + 1) f
  have h := take_safe (old := old) (whole := whole) (op := opSync nN) (part := none) (D := atB old sp p st f) rfl (sf_B old whole sp (ntP st p) (st + 1) f) (by show Sf old whole false (opSync nN (atB old sp (ntP st p) (st + 1) f)).d; rw [e]; exact sf_B _ _ _ _ _ _) (fun q hq => by cases hq)
  exact ⟨fun h0 => by rw [h.1 h0]; show (opSync nN (atB old sp (ntP st p) (st + 1) f)).d = _; rw [e]; rfl, h.2⟩
theorem ren_at {ct : Nat} : ((take (opRen nN nT) none (atB old sp p st ⟨whole, whole.length, ct⟩)).e = 0 → (take (opRen nN nT) none (atB old sp p st ⟨whole, whole.length, ct⟩)).d = atC old sp (ntP st p) (st + 1) ⟨whole, whole.length, ct⟩) ∧ ((take (opRen nN nT) none (atB old sp p st ⟨whole, whole.length, ct⟩)).e ≠ 0 → Sf old whole false (take (opRen nN nT) none (atB old sp p st ⟨whole, whole.length, ct⟩)).d) := by
  have e := ren_B old sp (ntP st p) (st + 1) ⟨whole, whole.length, ct⟩
  have h := take_safe (old := old) (whole := whole) (op := opRen nN nT) (part := none) (D := atB old sp p st ⟨whole, whole.length, ct⟩) rfl (sf_B old whole sp (ntP st p) (st + 1) _) (by show Sf old whole false (opRen nN nT (atB old sp (ntP st p) (st + 1) _)).d; rw [e]; exact sf_C _ _ _ _ _ _) (fun q hq => by cases hq)
  exact ⟨fun h0 => by rw [h.1 h0]; show (opRen nN nT (atB old sp (ntP st p) (st + 1) _)).d = _; rw [e]; rfl, h.2⟩
theorem dir_at {ct : Nat} : ((take opSyncDir none (atC old sp p st ⟨whole, whole.length, ct⟩)).e = 0 → Sf old whole true (take opSyncDir none (atC old sp p st ⟨whole, whole.length, ct⟩)).d) ∧ ((take opSyncDir none (atC old sp p st ⟨whole, whole.length, ct⟩)).e ≠ 0 → Sf old whole false (take opSyncDir none (atC old sp p st ⟨whole, whole.length, ct⟩)).d) := by
  have h := take_safe (old := old) (whole := whole) (op := opSyncDir) (part := none) (D := atC old sp p st ⟨whole, whole.length, ct⟩) rfl (sf_C old whole sp (ntP st p) (st + 1) ct) (sf_E old whole false sp (ntP st p) (st + 1) ct) (fun q hq => by cases hq)
  exact ⟨fun h0 => by rw [h.1 h0]; exact sf_E old whole true sp (ntP st p) (st + 1) ct, h.2⟩
end
/-- Parts that came in; their memory is the caller's. -/
def RdPs (F : Nat → Prop) (w : World) (v : Value) (ps : List (List Int)) : Prop := ∃ ao cap, v = .slice ao ps.length cap ∧ ps.length ≤ cap ∧ cap ≤ 9223372036854775807 ∧ (∀ b ∈ ps, ∀ z ∈ b, 0 ≤ z ∧ z < 256) ∧ (ps ≠ [] → ∃ b0 off, ao = some ⟨b0, off, none⟩ ∧ F b0 ∧ ∀ i b, ps[i]? = some b → ∃ pa pc, w.cell? ⟨b0, off + i, none⟩ = some (.slice pa b.length pc) ∧ RdU w (.slice pa b.length pc) b ∧ (b ≠ [] → ∀ g, (Value.slice pa b.length pc).ownBlock = some g → F g))
theorem RdU.same {w w' : World} {v : Value} {zs : List Int} (h : RdU w v zs) (hl : w.heap.size ≤ w'.heap.size) (hs : zs ≠ [] → ∀ g, v.ownBlock = some g → w'.heap[g]? = w.heap[g]?) : RdU w' v zs := by
  obtain ⟨⟨ao, cap, rfl, h1, h2, h3⟩, h4⟩ := h
  refine ⟨⟨ao, cap, rfl, h1, h2, fun hn => ?_⟩, h4⟩
  obtain ⟨b, off, rfl, h5, h6⟩ := h3 hn
  refine ⟨b, off, rfl, Nat.lt_of_lt_of_le h5 hl, fun i hi => ?_⟩
  rw [← h6 i hi]
  exact World.cell?_of_block (hs hn b rfl)
theorem RdPs.ku {U : Prop} {F : Nat → Prop} {w w' : World} {v : Value} {ps : List (List Int)} (h : RdPs F w v ps) (k : Ku U F w w') (hlt : ∀ q, F q → q < w.heap.size) : RdPs F w' v ps := by
  have hs : ∀ g, F g → w'.heap[g]? = w.heap[g]? := fun g hg => k.same g (hlt g hg) (fun e => e.1 hg)
  obtain ⟨ao, cap, rfl, h1, h2, h3, h4⟩ := h
  refine ⟨ao, cap, rfl, h1, h2, h3, fun hn => ?_⟩
  obtain ⟨b0, off, rfl, h5, h6⟩ := h4 hn
  refine ⟨b0, off, rfl, h5, fun i b hb => ?_⟩
  obtain ⟨pa, pc, c1, c2, c3⟩ := h6 i b hb
  exact ⟨pa, pc, (World.cell?_of_block (hs b0 h5)).trans c1, c2.same k.size (fun hn g hg => hs g (c3 hn g hg)), c3⟩
/-- A step's answer, by what is told of it. -/
theorem StepP.ok {U : Prop} {F : Nat → Prop} {M : Nat} {w w' : World} {d : Nat} {on nm : ByteArray} {st : Nat} {r : Rs} {v : Value} (h : StepP U F M w d on nm st r v w') (he : r.e = 0) : v = .nilIface ∧ Dsk F (M + 3) w' d r.d ∧ Ku True F w w' := by
  obtain ⟨p1, p2, p3⟩ := h
  refine ⟨?_, p2, p3.mono (fun _ _ e => ⟨e.1, e.2.elim .inl (fun e => .inr ⟨trivial, e.2⟩)⟩)⟩
  rcases p1 with ⟨_, h⟩ | ⟨h, _⟩
  · exact h
  · exact absurd he h
theorem StepP.bad {U : Prop} {F : Nat → Prop} {M : Nat} {w w' : World} {d : Nat} {on nm : ByteArray} {st : Nat} {r : Rs} {v : Value} (h : StepP U F M w d on nm st r v w') (he : r.e ≠ 0) : (∃ q, v = .iface 131 (pp q)) ∧ Dsk F (M + 3) w' d r.d ∧ Ku True F w w' := by
  obtain ⟨p1, p2, p3⟩ := h
  refine ⟨?_, p2, p3.mono (fun _ _ e => ⟨e.1, e.2.elim .inl (fun e => .inr ⟨trivial, e.2⟩)⟩)⟩
  rcases p1 with ⟨h, _⟩ | ⟨_, q, _, h, _⟩
  · exact absurd h he
  · exact ⟨q, h⟩
/-- What saved answers and leaves. -/
def SavR (old whole : List Int) (F : Nat → Prop) (M : Nat) (w : World) (d : Nat) (e : Ending) (w' : World) : Prop := ∃ (well : Bool) (D' : Dk), e = .returned (.bool well) ∧ Sf old whole well D' ∧ Dsk F M w' d D' ∧ Ku True F w w'
theorem SavR.no {old whole : List Int} {F : Nat → Prop} {M : Nat} {w w' : World} {d : Nat} {D' : Dk} (h1 : Sf old whole false D') (h2 : Dsk F M w' d D') (h3 : Ku True F w w') : SavR old whole F M w d (.returned (.bool false)) w' := ⟨false, D', rfl, h1, h2, h3⟩
set_option maxRecDepth 100000 in
set_option maxHeartbeats 8000000 in
theorem saved_any (CR : CrashOk) {old : List Int} {sp : Nat} {p : Int → Option Ft} {F : Nat → Prop} {M : Nat} {w : World} {d : Nat} (h : Dsk F M w d (atA old sp p 0)) (v : Value) (ps : List (List Int)) (hv : RdPs F w v ps) (hl : ps.length ≤ 40) (hbl : ∀ b ∈ ps, b.length ≤ 4000) (hM : M + 200 ≤ 1099511627776) :
    Calls Try.prog 13 #[pp d, .string ⟨#[116, 101, 120, 116]⟩, v] w (SavR old ps.flatten F (M + 200) w d) := by
  have HV := hidIt hv
  have hfw := hidIt h.fw
  have HB := hidIt hbl
  have H256 : Hid (∀ b ∈ ps, ∀ z ∈ b, 0 ≤ z ∧ z < 256) := by obtain ⟨_, _, _, _, _, h4, _⟩ := hv; exact h4
  obtain ⟨ao, cap, rfl, hl1, hl2, _, _⟩ := hv
  have MK : Hid (Calls Try.prog 41 #[pp d, .string ⟨#[110, 101, 119, 126]⟩] w fun e w' => ∃ v, e = .returned v ∧ StepP False F M w d ⟨#[109, 97, 107, 101]⟩ (bsOf nN) (stepNo (atA old sp p 0)) (take (opMake nN) none (atA old sp p 0)) v w') := Make_any CR h (by omega) nN (by simp)
  have PM := hidIt (make_at (old := old) (whole := ps.flatten) (sp := sp) (p := p) (st := 0))
  clear h hbl
  generalize take (opMake nN) none (atA old sp p 0) = RM at *
  by_cases hm : RM.e = 0
  case neg =>
    have MX : Hid (Calls Try.prog 41 #[pp d, .string ⟨#[110, 101, 119, 126]⟩] w fun e w' => (∃ q, e = .returned (.iface 131 (pp q))) ∧ Dsk F (M + 3) w' d RM.d ∧ Ku True F w w') := MK.out.mono fun e w' ⟨v, he, hs⟩ => by
      obtain ⟨⟨q, rfl⟩, h2, h3⟩ := hs.bad hm
      exact ⟨⟨q, he⟩, h2, h3⟩
    have SF := hidIt (PM.out.2 hm)
    clear MK PM
    go_enter Try.func13, Try.ntmps13
    go_wp2_with (go_at_call 41; refine MX.out.mono ?_; rintro e w4 ⟨⟨q, rfl⟩, h2, h3⟩; have H2 := hidIt h2; have H3 := hidIt h3; clear h2 h3)
    go_ret
    exact SavR.no SF.out (H2.out.monoN (by omega) (by omega)) H3.out
  case pos =>
    have MX : Hid (Calls Try.prog 41 #[pp d, .string ⟨#[110, 101, 119, 126]⟩] w fun e w' => e = .returned .nilIface ∧ Dsk F (M + 3) w' d (atB old sp (ntP 0 p) (0 + 1) ⟨[], 0, 0⟩) ∧ Ku True F w w') := MK.out.mono fun e w' ⟨v, he, hs⟩ => by
      obtain ⟨rfl, h2, h3⟩ := hs.ok hm
      rw [PM.out.1 hm] at h2
      exact ⟨he, h2, h3⟩
    clear MK PM
    go_enter Try.func13, Try.ntmps13
    go_upto_region 3 with (go_at_call 41; refine MX.out.mono ?_; rintro e w4 ⟨rfl, h2, h3⟩; have H2 := hidIt h2; have H3 := hidIt h3; clear h2 h3)
    clear MX
    go_wp2_with fail
    go_loopw [7] (fun i wr => ∃ (j st : Nat) (q : Int → Option Ft) (f : Fi), j ≤ ps.length ∧ i = .int .i64 j ∧ f.bs = (ps.take j).flatten ∧ Dsk F (M + 3 + 3 * j) wr d (atB old sp q st f) ∧ Ku True F w wr) (fun i _ => ps.length - (RowKit.intOf i).toNat)
    case atStart => exact ⟨0, _, _, _, Nat.zero_le _, rfl, rfl, H2.out, H3.out⟩
    case round =>
      clear H2 H3
      obtain ⟨j, st, q, f, hj, rfl, hf, hd, hk⟩ := hrel
      have HF := hidIt hf
      have HD := hidIt hd
      have HK := hidIt hk
      clear hf hd hk
      by_cases hlt : j < ps.length
      · have hlt' : (j : Int) < (ps.length : Int) := by omega
        obtain ⟨b, hb⟩ : ∃ b, ps[j]? = some b := ⟨_, List.getElem?_eq_getElem hlt⟩
        obtain ⟨ao', cap', hv', _, _, _, h6⟩ := HV.out.ku HK.out hfw.out
        cases hv'
        obtain ⟨pb, po, ea, hpb, hcs⟩ := h6 (by intro e; rw [e] at hlt; simp at hlt)
        subst ea
        obtain ⟨pa, pc, c1, c2, c3⟩ := hcs j b hb
        have hbm := List.mem_of_getElem? hb
        have AP : Hid (Calls Try.prog 23 #[pp d, .string ⟨#[110, 101, 119, 126]⟩, .slice pa b.length pc] wr fun e w' => ∃ v, e = .returned (.tuple #[.int .i64 ((take (opApp nN b) (some (opPart nN b)) (atB old sp q st f)).n : Nat), v]) ∧ StepP True F (M + 3 + 3 * j) wr d ⟨#[97, 112, 112, 101, 110, 100]⟩ (bsOf nN) (stepNo (atB old sp q st f)) (take (opApp nN b) (some (opPart nN b)) (atB old sp q st f)) v w') := Append_gen CR HD.out (by omega) nN (by simp) _ b c2 (by have := HB.out b hbm; omega) (H256.out b hbm) c3
        have PA := hidIt (app_at (old := old) (whole := ps.flatten) (sp := sp) (p := q) (st := st) (f := f) b)
        have HT : Hid ((ps.take (j + 1)).flatten = (ps.take j).flatten ++ b) := by unfold Hid; rw [List.take_add_one, hb]; simp
        clear hcs h6 c2 c3 hb hbm
        generalize take (opApp nN b) (some (opPart nN b)) (atB old sp q st f) = RA at *
        by_cases ha : RA.e = 0
        · have AX : Hid (Calls Try.prog 23 #[pp d, .string ⟨#[110, 101, 119, 126]⟩, .slice pa b.length pc] wr fun e w' => e = .returned (.tuple #[.int .i64 (RA.n : Nat), .nilIface]) ∧ Dsk F (M + 3 + 3 * j + 3) w' d (atB old sp (ntP st q) (st + 1) (wrF f b)) ∧ Ku True F wr w') := AP.out.mono fun e w' ⟨v, he, hs⟩ => by
            obtain ⟨rfl, h2, h3⟩ := hs.ok ha
            rw [PA.out.1 ha] at h2
            exact ⟨he, h2, h3⟩
          clear AP PA
          go_wp2_with (go_at_call 23; refine AX.out.mono ?_; rintro e w4 ⟨rfl, h2, h3⟩; have H2 := hidIt h2; have H3 := hidIt (HK.out.trans h3); clear h2 h3)
          go_roundw
          case rel => exact ⟨j + 1, _, _, _, by omega, by go_num, by rw [wr_bs, HF.out, HT.out], H2.out.monoN (by omega) (by omega), H3.out⟩
          case measure => simp [RowKit.intOf]; omega
        · have AX : Hid (Calls Try.prog 23 #[pp d, .string ⟨#[110, 101, 119, 126]⟩, .slice pa b.length pc] wr fun e w' => (∃ q, e = .returned (.tuple #[.int .i64 (RA.n : Nat), .iface 131 (pp q)])) ∧ Dsk F (M + 3 + 3 * j + 3) w' d RA.d ∧ Ku True F wr w') := AP.out.mono fun e w' ⟨v, he, hs⟩ => by
            obtain ⟨⟨q, rfl⟩, h2, h3⟩ := hs.bad ha
            exact ⟨⟨q, he⟩, h2, h3⟩
          have SF := hidIt (PA.out.2 ha)
          clear AP PA
          go_wp2_with (go_at_call 23; refine AX.out.mono ?_; rintro e w4 ⟨⟨q2, rfl⟩, h2, h3⟩; have H2 := hidIt h2; have H3 := hidIt (HK.out.trans h3); clear h2 h3)
          go_ret
          exact SavR.no SF.out (H2.out.monoN (by omega) (by omega)) H3.out
      · have ejk : ps.length = j := by omega
        subst ejk
        have hge : ¬ (ps.length : Int) < (ps.length : Int) := by omega
        have hw : f.bs = ps.flatten := by rw [HF.out, List.take_length]
        have SY : Hid (Calls Try.prog 26 #[pp d, .string ⟨#[110, 101, 119, 126]⟩] wr fun e w' => ∃ v, e = .returned v ∧ StepP False F (M + 3 + 3 * ps.length) wr d ⟨#[115, 121, 110, 99]⟩ (bsOf nN) (stepNo (atB old sp q st f)) (take (opSync nN) none (atB old sp q st f)) v w') := Sync_any CR HD.out (by omega) nN (by simp)
        have PS := hidIt (sync_at (old := old) (whole := ps.flatten) (sp := sp) (p := q) (st := st) (f := f))
        rw [hw] at PS
        generalize take (opSync nN) none (atB old sp q st f) = RS at *
        by_cases hs : RS.e = 0
        case neg =>
          have SX : Hid (Calls Try.prog 26 #[pp d, .string ⟨#[110, 101, 119, 126]⟩] wr fun e w' => (∃ q, e = .returned (.iface 131 (pp q))) ∧ Dsk F (M + 3 + 3 * ps.length + 3) w' d RS.d ∧ Ku True F wr w') := SY.out.mono fun e w' ⟨v, he, hx⟩ => by
            obtain ⟨⟨q, rfl⟩, h2, h3⟩ := hx.bad hs
            exact ⟨⟨q, he⟩, h2, h3⟩
          have SF := hidIt (PS.out.2 hs)
          clear SY PS HF hw
          go_wp2_with (go_at_call 26; refine SX.out.mono ?_; rintro e w4 ⟨⟨q2, rfl⟩, h2, h3⟩; have H2 := hidIt h2; have H3 := hidIt (HK.out.trans h3); clear h2 h3)
          go_ret
          exact SavR.no SF.out (H2.out.monoN (by omega) (by omega)) H3.out
        case pos =>
          have SX : Hid (Calls Try.prog 26 #[pp d, .string ⟨#[110, 101, 119, 126]⟩] wr fun e w' => e = .returned .nilIface ∧ Dsk F (M + 3 + 3 * ps.length + 3) w' d (atB old sp (ntP st q) (st + 1) ⟨ps.flatten, ps.flatten.length, f.ct⟩) ∧ Ku True F wr w') := SY.out.mono fun e w' ⟨v, he, hx⟩ => by
            obtain ⟨rfl, h2, h3⟩ := hx.ok hs
            rw [PS.out.1 hs] at h2
            exact ⟨he, h2, h3⟩
          clear SY PS HF hw
          have RN : Hid (∀ w4, Dsk F (M + 3 + 3 * ps.length + 3) w4 d (atB old sp (ntP st q) (st + 1) ⟨ps.flatten, ps.flatten.length, f.ct⟩) → Calls Try.prog 42 #[pp d, .string ⟨#[110, 101, 119, 126]⟩, .string ⟨#[116, 101, 120, 116]⟩] w4 fun e w' => ∃ v, e = .returned v ∧ StepP False F (M + 3 + 3 * ps.length + 3) w4 d ⟨#[114, 101, 110, 97, 109, 101]⟩ (bsOf nN) (stepNo (atB old sp (ntP st q) (st + 1) ⟨ps.flatten, ps.flatten.length, f.ct⟩)) (take (opRen nN nT) none (atB old sp (ntP st q) (st + 1) ⟨ps.flatten, ps.flatten.length, f.ct⟩)) v w') := fun w4 hd => Rename_any CR hd (by omega) nN nT (by simp) (by simp)
          have PR := hidIt (ren_at (old := old) (whole := ps.flatten) (sp := sp) (p := ntP st q) (st := st + 1) (ct := f.ct))
          generalize atB old sp (ntP st q) (st + 1) ⟨ps.flatten, ps.flatten.length, f.ct⟩ = DB at *
          generalize take (opRen nN nT) none DB = RR at *
          by_cases hr : RR.e = 0
          case neg =>
            have RX : Hid (∀ w4, Dsk F (M + 3 + 3 * ps.length + 3) w4 d DB → Calls Try.prog 42 #[pp d, .string ⟨#[110, 101, 119, 126]⟩, .string ⟨#[116, 101, 120, 116]⟩] w4 fun e w' => (∃ q, e = .returned (.iface 131 (pp q))) ∧ Dsk F (M + 3 + 3 * ps.length + 3 + 3) w' d RR.d ∧ Ku True F w4 w') := fun w4 hd => (RN.out w4 hd).mono fun e w' ⟨v, he, hx⟩ => by
              obtain ⟨⟨q, rfl⟩, h2, h3⟩ := hx.bad hr
              exact ⟨⟨q, he⟩, h2, h3⟩
            have SF := hidIt (PR.out.2 hr)
            clear RN PR
            go_wp2_with (first | (go_at_call 26; refine SX.out.mono ?_; rintro e w4 ⟨rfl, h2, h3⟩; have H2 := hidIt h2; have H3 := hidIt (HK.out.trans h3); clear h2 h3 SX) | (go_at_call 42; refine (RX.out w4 H2.out).mono ?_; rintro e w5 ⟨⟨q2, rfl⟩, h2, h3⟩; have H5 := hidIt h2; have K5 := hidIt (H3.out.trans h3); clear h2 h3))
            go_ret
            exact SavR.no SF.out (H5.out.monoN (by omega) (by omega)) K5.out
          case pos =>
            have RX : Hid (∀ w4, Dsk F (M + 3 + 3 * ps.length + 3) w4 d DB → Calls Try.prog 42 #[pp d, .string ⟨#[110, 101, 119, 126]⟩, .string ⟨#[116, 101, 120, 116]⟩] w4 fun e w' => e = .returned .nilIface ∧ Dsk F (M + 3 + 3 * ps.length + 3 + 3) w' d (atC old sp (ntP (st + 1) (ntP st q)) (st + 1 + 1) ⟨ps.flatten, ps.flatten.length, f.ct⟩) ∧ Ku True F w4 w') := fun w4 hd => (RN.out w4 hd).mono fun e w' ⟨v, he, hx⟩ => by
              obtain ⟨rfl, h2, h3⟩ := hx.ok hr
              rw [PR.out.1 hr] at h2
              exact ⟨he, h2, h3⟩
            clear RN PR
            have DN : Hid (∀ w5, Dsk F (M + 3 + 3 * ps.length + 3 + 3) w5 d (atC old sp (ntP (st + 1) (ntP st q)) (st + 1 + 1) ⟨ps.flatten, ps.flatten.length, f.ct⟩) → Calls Try.prog 27 #[pp d] w5 fun e w' => ∃ v, e = .returned v ∧ Dsk F (M + 3 + 3 * ps.length + 3 + 3 + 3) w' d (take opSyncDir none (atC old sp (ntP (st + 1) (ntP st q)) (st + 1 + 1) ⟨ps.flatten, ps.flatten.length, f.ct⟩)).d ∧ Ku True F w5 w' ∧ ((take opSyncDir none (atC old sp (ntP (st + 1) (ntP st q)) (st + 1 + 1) ⟨ps.flatten, ps.flatten.length, f.ct⟩)).e = 0 → v = .nilIface) ∧ ((take opSyncDir none (atC old sp (ntP (st + 1) (ntP st q)) (st + 1 + 1) ⟨ps.flatten, ps.flatten.length, f.ct⟩)).e ≠ 0 → ∃ q, v = .iface 131 (pp q))) := fun w5 hd => (SyncDir_any CR hd (by omega)).mono fun e w' ⟨v, he, hx⟩ => by
              by_cases h0 : (take opSyncDir none (atC old sp (ntP (st + 1) (ntP st q)) (st + 1 + 1) ⟨ps.flatten, ps.flatten.length, f.ct⟩)).e = 0
              · obtain ⟨h1, h2, h3⟩ := hx.ok h0
                exact ⟨v, he, h2, h3, fun _ => h1, fun h => absurd h0 h⟩
              · obtain ⟨h1, h2, h3⟩ := hx.bad h0
                exact ⟨v, he, h2, h3, fun h => absurd h h0, fun _ => h1⟩
            have PD := hidIt (dir_at (old := old) (whole := ps.flatten) (sp := sp) (p := ntP (st + 1) (ntP st q)) (st := st + 1 + 1) (ct := f.ct))
            generalize take opSyncDir none (atC old sp (ntP (st + 1) (ntP st q)) (st + 1 + 1) ⟨ps.flatten, ps.flatten.length, f.ct⟩) = RD at *
            generalize atC old sp (ntP (st + 1) (ntP st q)) (st + 1 + 1) ⟨ps.flatten, ps.flatten.length, f.ct⟩ = DC at *
            by_cases hd0 : RD.e = 0
            · have SF := hidIt (PD.out.1 hd0)
              go_wp2_with (first | (go_at_call 26; refine SX.out.mono ?_; rintro e w4 ⟨rfl, h2, h3⟩; have H2 := hidIt h2; have H3 := hidIt (HK.out.trans h3); clear h2 h3 SX) | (go_at_call 42; refine (RX.out w4 H2.out).mono ?_; rintro e w5 ⟨rfl, h2, h3⟩; have H5 := hidIt h2; have K5 := hidIt (H3.out.trans h3); clear h2 h3 RX) | (go_at_call 27; refine (DN.out w5 H5.out).mono ?_; rintro e w6 ⟨vv, rfl, h2, h3, h4, _⟩; obtain rfl := h4 hd0; have H6 := hidIt h2; have K6 := hidIt (K5.out.trans h3); clear h2 h3 h4))
              go_ret
              exact ⟨true, _, rfl, SF.out, H6.out.monoN (by omega) (by omega), K6.out⟩
            · have SF := hidIt (PD.out.2 hd0)
              go_wp2_with (first | (go_at_call 26; refine SX.out.mono ?_; rintro e w4 ⟨rfl, h2, h3⟩; have H2 := hidIt h2; have H3 := hidIt (HK.out.trans h3); clear h2 h3 SX) | (go_at_call 42; refine (RX.out w4 H2.out).mono ?_; rintro e w5 ⟨rfl, h2, h3⟩; have H5 := hidIt h2; have K5 := hidIt (H3.out.trans h3); clear h2 h3 RX) | (go_at_call 27; refine (DN.out w5 H5.out).mono ?_; rintro e w6 ⟨vv, rfl, h2, h3, _, h4⟩; obtain ⟨q2, rfl⟩ := h4 hd0; have H6 := hidIt h2; have K6 := hidIt (K5.out.trans h3); clear h2 h3 h4))
              go_ret
              exact SavR.no SF.out (H6.out.monoN (by omega) (by omega)) K6.out
theorem str_app (a b : List Int) : strOfNums (a ++ b) = strOfNums a ++ strOfNums b := by
  apply ByteArray.ext
  simp [strOfNums, ByteArray.data_append]
theorem wpList_want {P : Program} {ops : Array Oper} {Q : Exit → Act → World → Prop} {rest : List Oper} {o : Oper} {a : Act} {w : World} (h : Region.wanted o (yielded ops a.tmps) = true) (h2 : o.wp P a w (wpList P ops Q rest) Q) : wpList P ops Q (o :: rest) a w := by
  unfold wpList
  rw [if_pos h]
  exact .inl h2
theorem rd_stays (w : World) : RdU (w.alloc (.cells #[.int .u8 115, .int .u8 116, .int .u8 97, .int .u8 121, .int .u8 115] 5 (5, 6))) (.slice (some ⟨w.heap.size, 0, none⟩) 5 5) stays := by
  refine ⟨⟨some ⟨w.heap.size, 0, none⟩, 5, rfl, by simp, by decide, fun _ => ⟨w.heap.size, 0, rfl, by simp, fun i hi => ?_⟩⟩, .inr ⟨_, _, _, rfl⟩⟩
  rw [World.cell?_alloc_mark]
  match i, hi with
  | 0, _ => rfl
  | 1, _ => rfl
  | 2, _ => rfl
  | 3, _ => rfl
  | 4, _ => rfl
theorem str_ne {a b : ByteArray} (h : a ≠ b) : (a.toList == b.toList) = false := by
  cases e : (a.toList == b.toList) with
  | false => rfl
  | true =>
    have e2 := eq_of_beq e
    rw [ByteArray.toList_eq, ByteArray.toList_eq] at e2
    exact absurd (ByteArray.ext (Array.toList_inj.1 e2)) h
def d1 (old : List Int) : Dk := ⟨10000, [fO old], [(nT, 0)], [(nT, 0)], [], fun _ => none, 0, false⟩
theorem put_text {old : List Int} (h : old.length ≤ 4000) : opPut nT old (dk0 10000) = Rs.err (d1 old) 0 := by
  have h1 : okN nT = true := by decide
  have e : putE nT old.length (dk0 10000) = 0 := by
    have h2 : ¬ 10000 < old.length := by omega
    simp [putE, dk0, h1, Dir.get, Dk.full, usd, h2]
  unfold opPut
  rw [if_neg (by rw [e]; simp)]
  rfl
theorem put_other {old : List Int} (h : old.length ≤ 4000) : opPut nO stays (d1 old) = Rs.err (atA old 10000 (fun _ => none) 0) 0 := by
  have h1 : okN nO = true := by decide
  have h3 : Dir.get nO (d1 old).se = none := by show Dir.get nO [(nT, 0)] = none; decide
  have e : putE nO 5 (d1 old) = 0 := by
    unfold putE
    rw [if_neg (by show ¬ false = true; decide), if_pos h1, h3]
    have hf : (d1 old).full = false := rfl
    have hu : usd (d1 old).fi (d1 old).se = old.length := by simp [d1, usd, fiAt]
    have hs : (d1 old).sp = 10000 := rfl
    dsimp only
    rw [hf, hu, hs, if_neg (by simp; omega)]
  unfold opPut
  rw [if_neg (by show ¬ putE nO 5 (d1 old) ≠ 0; rw [e]; simp), h3]
  rfl
def flen (ps : List (List Int)) : Nat := ps.flatten.length
theorem flen_take {ps : List (List Int)} {j : Nat} {b : List Int} (hb : ps[j]? = some b) : flen (ps.take (j + 1)) = flen (ps.take j) + b.length := by
  unfold flen
  rw [List.take_add_one, hb, List.flatten_append, List.length_append]
  simp
theorem flen_mem {ps : List (List Int)} {b : List Int} (h : b ∈ ps) : b.length ≤ flen ps := by
  unfold flen
  induction ps with
  | nil => cases h
  | cons a r ih =>
    rw [List.flatten_cons, List.length_append]
    rcases List.mem_cons.1 h with rfl | h
    · omega
    · have := ih h; omega
theorem crashDn (D : Dk) (c : Ct) : (D.crash c).dn = true := by
  cases h : D.dn
  · rw [crash_up h]
  · rw [crash_down h]; exact h
theorem restart_of {D : Dk} (h : D.dn = true) : D.restart.dn = false ∧ (∀ k, D.restart.pl k = none) ∧ D.restart.se = D.se ∧ D.restart.fi = D.fi := by
  unfold Dk.restart
  rw [if_pos h]
  exact ⟨rfl, fun _ => rfl, rfl, rfl⟩
theorem read_named (CR : CrashOk) {G : Nat → Prop} {N : Nat} {w : World} {d : Nat} {D : Dk} (h : Dsk G N w d D) (hN : N + 3 ≤ 1099511627776) (hdn : D.dn = false) (hpl : ∀ k, D.pl k = none) (n : Nm) (hn : n.length ≤ 32) (hok : okN n = true) {i : Nat} (hg : Dir.get n D.se = some i) :
    Calls Try.prog 17 #[pp d, sv n] w fun e w' => ∃ a c, e = .returned (.tuple #[.slice a (fiAt D.fi i).bs.length c, .nilIface]) ∧ OwnU w' 0 (.slice a (fiAt D.fi i).bs.length c) (fiAt D.fi i).bs ∧ Dsk G (N + 3) w' d D.tick ∧ Kd G w w' := by
  have e : take (opRead n) none D = ⟨D.tick, 0, 0, (fiAt D.fi i).bs, (0, 0, 0)⟩ := by
    rw [take_calm hdn hpl]
    unfold opRead opWith
    have hg' : Dir.get n D.tick.se = some i := hg
    rw [if_pos hok, hg']
    rfl
  refine (Read_any CR h hN n (by omega)).mono ?_
  rintro e' w' ⟨u, v, rfl, ⟨h1, h2, h3⟩, h4⟩
  rw [e] at h1 h2 h4
  obtain ⟨base, h4⟩ := h4 rfl
  obtain ⟨a, c, rfl⟩ := form_n (own_zero h4)
  rcases h1 with ⟨_, rfl⟩ | ⟨h1, _⟩
  · exact ⟨a, c, rfl, own_zero h4, h2, h3.kd⟩
  · exact absurd rfl h1
theorem flat_le {ps : List (List Int)} (h : ∀ b ∈ ps, b.length ≤ 1048576) : ∀ j, flen (ps.take j) ≤ j * 1048576
  | 0 => by simp [flen]
  | j + 1 => by
    have ih := flat_le h j
    cases hb : ps[j]? with
    | none =>
      have : ps.take (j + 1) = ps.take j := by rw [List.take_add_one, hb]; simp
      rw [this]
      exact Nat.le_trans ih (Nat.mul_le_mul_right _ (Nat.le_succ j))
    | some b =>
      have := h b (List.mem_of_getElem? hb)
      rw [flen_take hb, Nat.succ_mul]
      exact Nat.add_le_add ih this
set_option maxRecDepth 100000 in
set_option maxHeartbeats 8000000 in
theorem latom_any (CR : CrashOk) (vo : Value) (old : List Int) (vp : Value) (ps : List (List Int)) (vf : Value) (fs : List Fa) (cn : Int) (ca : Option Addr) (cc : Nat) (zs : List Int) (W : World) (ho : RdU W vo old) (hob : ∀ z ∈ old, 0 ≤ z ∧ z < 256) (hol : old.length ≤ 1048576) (hp : RdPs (fun q => q < W.heap.size) W vp ps) (hpl : ps.length ≤ 1048576) (hpb : ∀ b ∈ ps, b.length ≤ 1048576) (hf : RdF W vf fs) (hfl : fs.length ≤ 1048576) (hc : RdS W (.slice ca zs.length cc) zs) (hcn : In64 cn) (hzs : ∀ z ∈ zs, In64 z) :
    Calls Try.prog 3 #[vo, vp, vf, .agg #[.int .i64 cn, .slice ca zs.length cc]] W fun e W' => e = .returned (.bool true) ∧ Below W.heap.size W W' := by
  have HO := hidIt ho
  have HP := hidIt hp
  have HPB := hidIt hpb
  have HF := hidIt hf
  have HC := hidIt hc
  have HZ := hidIt hzs
  have HCN := hidIt hcn
  have HOB := hidIt hob
  obtain ⟨oa, oc, rfl⟩ := ho.form
  obtain ⟨pa0, pc0, rfl, hp1, hp2, _, _⟩ := hp
  obtain ⟨fa0, fc0, rfl, hf1, hf2, _, _⟩ := hf
  clear ho hpb hc hzs hcn hob
  obtain ⟨w0, hw0, hb0, hk0⟩ : ∃ w0, W.alloc (.cells #[.int .i64 cn, .slice ca zs.length cc] 27) = w0 ∧ Below W.heap.size W w0 ∧ w0.heap[W.heap.size]? = some (.cells #[.int .i64 cn, .slice ca zs.length cc] 27 (0, 0)) := ⟨_, rfl, ext_alloc (Below.refl _ _) _, heap_alloc_new _ _⟩
  have S0 : Hid (Syn W #[.int .i64 cn, .slice ca zs.length cc] w0) := ⟨hb0, hk0⟩
  have HP0 : Hid (RdPs (fun q => q < W.heap.size) w0 (.slice pa0 ps.length pc0) ps) := HP.out.ku (U := True) (Ku.of hb0) (fun q hq => hq)
  clear hb0 hk0
  go_enter Try.func3, Try.ntmps3
  go_upto_region 1 with fail
  try rw [hw0]
  clear hw0
  go_wp2_with fail
  go_loopw [9, 10, 11] (fun a s i wr => ∃ j : Nat, j ≤ ps.length ∧ a = .int .i64 ((old.length + flen (ps.take j) : Nat) : Int) ∧ s = .string (strOfNums (ps.take j).flatten) ∧ i = .int .i64 j ∧ wr = w0) (fun _ _ i _ => ps.length - (RowKit.intOf i).toNat)
  case atStart => exact ⟨0, Nat.zero_le _, by simp [flen], rfl, rfl, rfl⟩
  case round =>
    obtain ⟨j, hj, rfl, rfl, rfl, rfl⟩ := hrel
    have hfl0 := flat_le HPB.out j
    by_cases hlt : j < ps.length
    · have hlt' : (j : Int) < (ps.length : Int) := by omega
      obtain ⟨b, hb⟩ : ∃ b, ps[j]? = some b := ⟨_, List.getElem?_eq_getElem hlt⟩
      obtain ⟨ao', cap', hv', _, _, _, h6⟩ := HP0.out
      cases hv'
      obtain ⟨pb, po, ea, hpb, hcs⟩ := h6 (by intro e; rw [e] at hlt; simp at hlt)
      subst ea
      obtain ⟨pa, pc, c1, c2, _⟩ := hcs j b hb
      have hcv := conv_Rd c2.1
      have hbl := HPB.out b (List.mem_of_getElem? hb)
      have HT : Hid ((ps.take (j + 1)).flatten = (ps.take j).flatten ++ b) := by unfold Hid; rw [List.take_add_one, hb]; simp
      have z1 := strOfNums_size (ps.take j).flatten
      have z2 := strOfNums_size b
      have HS := hidIt (str_app (ps.take j).flatten b)
      have hb0 := hb
      clear hcs h6 c2 hb
      have HL := hidIt (flen_take hb0)
      have z3 : (ps.take j).flatten.length = flen (ps.take j) := rfl
      rw [z3] at z1
      clear hb0 z3
      generalize flen (ps.take j) = fl at *
      generalize strOfNums (ps.take j).flatten = sa at *
      generalize strOfNums b = sb at *
      have hsz : ¬ sa.size + sb.size > 9223372036854775807 := by omega
      go_wp2_with fail
      go_roundw
      case rel =>
        refine ⟨j + 1, by omega, ?_, ?_, by go_num, trivial⟩
        · rw [HL.out]; go_num
        · rw [HT.out, HS.out]
      case measure => simp [RowKit.intOf]; omega
    · have ejk : ps.length = j := by omega
      subst ejk
      have hge : ¬ (ps.length : Int) < (ps.length : Int) := by omega
      rw [List.take_length] at hfl0 ⊢
      by_cases h1 : 4000 < old.length + flen ps
      · have h1' : (4000 : Int) < ((old.length + flen ps : Nat) : Int) := by omega
        go_wp2_with fail
        go_ret
        exact ⟨rfl, S0.out.1⟩
      have h1' : ¬ (4000 : Int) < ((old.length + flen ps : Nat) : Int) := by omega
      by_cases h2 : 40 < ps.length
      · have h2' : (40 : Int) < (ps.length : Int) := by omega
        go_wp2_with fail
        go_ret
        exact ⟨rfl, S0.out.1⟩
      have h2' : ¬ (40 : Int) < (ps.length : Int) := by omega
      by_cases h3 : 40 < fs.length
      · have h3' : (40 : Int) < (fs.length : Int) := by omega
        go_wp2_with fail
        go_ret
        exact ⟨rfl, S0.out.1⟩
      have h3' : ¬ (40 : Int) < (fs.length : Int) := by omega
      have MD : Hid (Calls Try.prog 9 #[.int .i64 10000] wr fun e w' => ∃ d, e = .returned (pp d) ∧ Dsk (fun q => q < W.heap.size) 0 w' d (dk0 10000) ∧ Below wr.heap.size wr w') := by
        have := made_any 10000 (by omega) wr (fun q => q < W.heap.size) (fun q hq => Nat.lt_of_lt_of_le hq S0.out.1.size)
        exact this
      go_upto_region 11 with (go_at_call 9; refine MD.out.mono ?_; rintro e w3 ⟨d, rfl, hd, hb⟩; have HD := hidIt hd; have S3 := hidIt (S0.out.ext hb); clear hd hb)
      have ho4 : old.length ≤ 4000 := by omega
      have HO3 := hidIt (HO.out.ext S3.out.1)
      have P1 : Hid (∀ w9, Below w3.heap.size w3 w9 → ∀ v, OwnU w9 w3.heap.size v old → Calls Try.prog 10 #[pp d, .string ⟨#[116, 101, 120, 116]⟩, v] w9 fun e w' => e = .returned .nilIface ∧ Dsk (fun q => q < W.heap.size) 3 w' d (d1 old) ∧ Syn W #[.int .i64 cn, .slice ca zs.length cc] w') := fun w9 hb9 v ho => by
        refine (Put_any (HD.out.pen hb9) (by omega) nT (by simp) v old ho.rdu (by omega) HOB.out (fun g hg => .inr (own_ge ho hg))).mono ?_
        rintro e w' ⟨u, rfl, p1, p2, p3⟩
        rw [put_text ho4] at p1 p2
        rcases p1 with ⟨_, rfl⟩ | ⟨h0, _⟩
        · exact ⟨rfl, p2.less (fun _ hq => .inl hq), (S3.out.ext hb9).ku (p3.less (fun _ hq => .inl hq))⟩
        · exact absurd rfl h0
      have P2 : Hid (∀ w10, Dsk (fun q => q < W.heap.size) 3 w10 d (d1 old) → Syn W #[.int .i64 cn, .slice ca zs.length cc] w10 → Calls Try.prog 10 #[pp d, .string ⟨#[111, 116, 104, 101, 114]⟩, .slice (some ⟨w10.heap.size, 0, none⟩) 5 5] (w10.alloc (.cells #[.int .u8 115, .int .u8 116, .int .u8 97, .int .u8 121, .int .u8 115] 5 (5, 6))) fun e w' => e = .returned .nilIface ∧ Dsk (fun q => q < W.heap.size) 6 w' d (atA old 10000 (fun _ => none) 0) ∧ Syn W #[.int .i64 cn, .slice ca zs.length cc] w') := fun w10 hd hs => by
        have hb : Below w10.heap.size w10 (w10.alloc (.cells #[.int .u8 115, .int .u8 116, .int .u8 97, .int .u8 121, .int .u8 115] 5 (5, 6))) := ext_alloc (Below.refl _ _) _
        refine (Put_any (hd.pen hb) (by omega) nO (by simp) _ stays (rd_stays w10) (by simp) (by simp) (fun g hg => .inr (by cases hg; simp))).mono ?_
        rintro e w' ⟨u, rfl, p1, p2, p3⟩
        rw [put_other ho4] at p1 p2
        rcases p1 with ⟨_, rfl⟩ | ⟨h0, _⟩
        · exact ⟨rfl, p2.less (fun _ hq => .inl hq), (hs.ext hb).ku (p3.less (fun _ hq => .inl hq))⟩
        · exact absurd rfl h0
      have hcv := fun w => Lib.run_convert_bytes_const (P := Try.prog) w 22 5 #[.int .u8 115, .int .u8 116, .int .u8 97, .int .u8 121, .int .u8 115] 5 5 Try.underlying22 Try.underlying5
      go_upto_region 13 with (first | (at_builtin; refine wpList_want (by rfl) ?_; refine wp_append_copy _ _ (by rfl) (by rfl) (by kernel_rfl) _ (by rfl) old HO3.out (by omega) ?_; intro v9 w9 ho9 hb9; have O9 := hidIt ho9; have B9 := hidIt hb9; clear ho9 hb9) | (go_at_call 10; refine (P1.out w9 B9.out v9 O9.out).mono ?_; rintro e w10 ⟨rfl, hd, hs⟩; have HD10 := hidIt hd; have S10 := hidIt hs; clear hd hs P1 O9) | (go_at_call 10; refine (P2.out w10 HD10.out S10.out).mono ?_; rintro e w12 ⟨rfl, hd, hs⟩; have HD12 := hidIt hd; have S12 := hidIt hs; clear hd hs P2))
      clear HO3 hcv HD S3 MD
      have FA := hidIt (faults_any _ fs w12 (HF.out.ext S12.out.1) (by omega))
      have HFK : Hid (∀ y ∈ fs, y.Ok) := by obtain ⟨_, _, _, _, _, h5, _⟩ := HF.out; exact h5
      have PL : Hid (∀ (w2 : World) (v : Value) (L : List Fa), L.length = fs.length → Fcp w2 w12.heap.size v fs L → Below w12.heap.size w12 w2 → Calls Try.prog 11 #[pp d, v] w2 fun e w' => e = .returned (.tuple #[]) ∧ Dsk (fun q => q < W.heap.size) 100 w' d (atA old 10000 (plOf fs) 0) ∧ Syn W #[.int .i64 cn, .slice ca zs.length cc] w') := fun w2 v L hL hcp hb => by
        obtain ⟨hr, hi⟩ := hcp.read HFK.out
        have hpp : plOf L = plOf fs := plOf_as hL hcp.lk _
        refine (Plan_any (HD12.out.pen hb) v L hr (hi _ (fun k a b => .inr ⟨a, b⟩)) (by omega)).mono ?_
        rintro e w' ⟨rfl, p2, p3⟩
        rw [hpp] at p2
        exact ⟨rfl, (p2.less (fun _ hq => .inl hq)).monoN (by omega) (by omega), (S12.out.ext hb).ku ((p3.less (fun _ hq => .inl hq)).ku True)⟩
      go_upto_region 14 with (first | (go_at_call 12; refine FA.out.mono ?_; rintro e w13 ⟨v13, L13, rfl, hl, hcp, hb⟩; have HL13 := hidIt hl; have HC13 := hidIt hcp; have HB13 := hidIt hb; clear hl hcp hb) | (go_at_call 11; refine (PL.out w13 v13 L13 HL13.out HC13.out HB13.out).mono ?_; rintro e w14 ⟨rfl, hd, hs⟩; have HD14 := hidIt hd; have S14 := hidIt hs; clear hd hs))
      clear FA PL HFK HL13 HC13 HB13 HD12 S12
      have SV := hidIt (saved_any CR HD14.out (.slice pa0 ps.length pc0) ps (HP.out.ku (U := True) (Ku.of S14.out.1) (fun q hq => hq)) (by omega) (fun b hb => by
        have hm : b.length ≤ flen ps := flen_mem hb
        omega) (by omega))
      go_upto_region 15 with (go_at_call 13; refine SV.out.mono ?_; rintro e w15 ⟨well, D15, rfl, sf, hd, hk⟩; have SF := hidIt (sf ⟨cn, zs⟩); have HD15 := hidIt hd; have S15 := hidIt (S14.out.ku hk); clear sf hd hk)
      clear SV HD14 S14
      have CX : Hid (Calls Try.prog 14 #[pp d, .agg #[.int .i64 cn, .slice ca zs.length cc]] w15 fun e w' => e = .returned (.tuple #[]) ∧ Dsk (fun q => q < W.heap.size) 300 w' d (D15.crash ⟨cn, zs⟩) ∧ Kd (fun q => q < W.heap.size) w15 w') := crash_gen _ _ w15 d D15 ⟨cn, zs⟩ _ HD15.out (HC.out.ext S15.out.1) (fun hn g hg => .inl (rds_lt HC.out hn hg)) HZ.out HCN.out
      obtain ⟨b0, b1⟩ : w15.cell? ⟨W.heap.size, 0, none⟩ = some (.int .i64 cn) ∧ w15.cell? ⟨W.heap.size, 1, none⟩ = some (.slice ca zs.length cc) := ⟨op_cell S15.out.2 rfl 0, op_cell S15.out.2 rfl 1⟩
      go_upto_region 16 with (go_at_call 14; refine CX.out.mono ?_; rintro e w16 ⟨rfl, hd, hk⟩; have HD16 := hidIt hd; have S16 := hidIt (S15.out.ku (hk.ku True)); clear hd hk)
      clear CX b0 b1 HD15 S15
      have DW := hidIt (Down_any HD16.out)
      rw [crashDn] at DW
      go_upto_region 17 with (go_at_call 15; refine DW.out.mono ?_; rintro e x3 ⟨rfl, rfl⟩)
      have RS2 := hidIt (Restart_any HD16.out)
      obtain ⟨r1, r2, r3, r4⟩ := restart_of (crashDn D15 ⟨cn, zs⟩)
      have SF6 : Hid (Res old ps.flatten well (D15.crash ⟨cn, zs⟩).restart) := by
        obtain ⟨⟨i, a1, a2⟩, ⟨j, a3, a4⟩, a5⟩ := SF.out
        exact ⟨⟨i, by rw [r3]; exact a1, by rw [r4]; exact a2⟩, ⟨j, by rw [r3]; exact a3, by rw [r4]; exact a4⟩, by rw [r3]; exact a5⟩
      clear r3 r4 SF
      generalize (D15.crash ⟨cn, zs⟩).restart = D6 at *
      go_upto_region 18 with (go_at_call 16; refine RS2.out.mono ?_; rintro e w17 ⟨rfl, hd, hk⟩; have HD17 := hidIt hd; have S17 := hidIt (S16.out.ku (hk.ku True)); clear hd hk)
      clear RS2 DW HD16 S16
      obtain ⟨⟨i, a1, a2⟩, ⟨j, a3, a4⟩, a5⟩ := SF6.out
      have R1 := hidIt (read_named CR HD17.out (by omega) r1 r2 nT (by decide) (by decide) a1)
      generalize hbs : (fiAt D6.fi i).bs = bt at *
      go_upto_region 19 with (go_at_call 17; refine R1.out.mono ?_; rintro e w18 ⟨ra, rc, rfl, how, hd, hk⟩; have OW1 := hidIt how; have HD18 := hidIt hd; have S18 := hidIt (S17.out.ku (hk.ku True)); clear how hd hk; (try dsimp only))
      have R2 : Hid (Calls Try.prog 17 #[pp d, .string ⟨#[111, 116, 104, 101, 114]⟩] w18 fun e w' => ∃ a c, e = .returned (.tuple #[.slice a 5 c, .nilIface]) ∧ OwnU w' 0 (.slice a 5 c) stays ∧ Dsk (fun q => q < W.heap.size) 306 w' d D6.tick.tick ∧ Kd (fun q => q < W.heap.size) w18 w') := by
        have := read_named CR HD18.out (by omega) (D := D6.tick) r1 (fun k => by show (if _ then none else D6.pl k) = none; rw [r2]; split <;> rfl) nO (by decide) (by decide) (i := j) a3
        rw [show (fiAt D6.tick.fi j).bs = stays from a4] at this
        exact this
      go_upto_region 20 with (go_at_call 17; refine R2.out.mono ?_; rintro e w19 ⟨rb, rd, rfl, how, hd, hk⟩; have OW2 := hidIt how; have OW3 := hidIt (own_same OW1.out (fun g hg => by obtain ⟨cur, hcur⟩ := own_lt OW1.out hg; exact hk.keep hcur (by decide))); have HD19 := hidIt hd; have S19 := hidIt (S18.out.ku (hk.ku True)); clear how hd hk; (try dsimp only))
      have hcs := conv_Rd (Rd.of_own OW2.out)
      rw [show strOfNums stays = ⟨#[115, 116, 97, 121, 115]⟩ from rfl] at hcs
      have NM : Hid (Calls Try.prog 18 #[pp d] w19 fun e w' => (∃ a c, e = .returned (.slice a D6.se.length c)) ∧ Below w19.heap.size w19 w') := by
        refine (Names_any HD19.out r1).mono ?_
        rintro e w' ⟨v, rfl, ho, hb⟩
        obtain ⟨a, c, rfl⟩ := form_n (own_zero ho)
        exact ⟨⟨a, c, by simp [Dk.tick]⟩, hb⟩
      have a5' : ¬ (3 : Int) < ((D6.se.length : Nat) : Int) := by omega
      have CV : Hid (∀ w20, Below w19.heap.size w19 w20 → (convert 22 9 (.slice ra bt.length rc)).run Try.prog w20 = .ok (.string (strOfNums bt)) w20 ∧ (convert 22 9 (.slice oa old.length oc)).run Try.prog w20 = .ok (.string (strOfNums old)) w20) := fun w20 hb => ⟨conv_Rd (Rd.of_own (own_ext OW3.out hb)), conv_Rd ((HO.out.ext S19.out.1).ext hb).1⟩
      clear R1 R2 OW1 OW2 OW3 HD17 HD18 HD19 S17 S18 SF6
      go_upto_region 22 with (go_at_call 18; refine NM.out.mono ?_; rintro e w20 ⟨⟨na, nc, rfl⟩, hb⟩; have S20 := hidIt (S19.out.ext hb); obtain ⟨cv1, cv2⟩ := CV.out w20 hb; clear hb)
      clear hcs NM
      cases well with
      | true =>
        have hw : bt = ps.flatten := by
          rcases a2 with h | h
          · exact h
          · exact absurd h.1 (by decide)
        have hw' : strOfNums bt = strOfNums ps.flatten := by rw [hw]
        rw [hw'] at cv1
        clear hw hw' a2
        generalize strOfNums ps.flatten = sw at *
        go_wp2_with fail
        go_ret
        exact ⟨by simp, S20.out.1⟩
      | false =>
        rcases a2 with h | ⟨_, h⟩
        · have hw' : strOfNums bt = strOfNums ps.flatten := by rw [h]
          rw [hw'] at cv1
          clear h hw'
          generalize strOfNums ps.flatten = sw at *
          go_wp2_with fail
          go_ret
          exact ⟨by simp, S20.out.1⟩
        · subst h
          by_cases hsm : strOfNums bt = strOfNums ps.flatten
          · rw [hsm] at cv1 cv2
            generalize strOfNums ps.flatten = sw at *
            go_wp2_with fail
            go_ret
            exact ⟨by simp, S20.out.1⟩
          · have bsm : ((strOfNums bt).toList == (strOfNums ps.flatten).toList) = false := by
              exact str_ne hsm
            generalize strOfNums ps.flatten = sw at *
            generalize strOfNums bt = sb at *
            go_wp2_with fail
            go_ret
            exact ⟨by simp, S20.out.1⟩
end Go.Proofs.Ytlcgagapkkdocaa
