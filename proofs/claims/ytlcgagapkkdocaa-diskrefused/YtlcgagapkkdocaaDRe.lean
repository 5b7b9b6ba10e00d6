/- A step looks at no count of steps and at no plan (pure); one that is refused. -/
import Derived.Test.YtlcgagapkkdocaaDTwo
namespace Go.Proofs.Ytlcgagapkkdocaa
open Go.RowKit

def Dk.re (D : Dk) (a : Nat) (p : Int → Option Ft) : Dk := { D with st := a, pl := p }
def Rs.re (r : Rs) (a : Nat) (p : Int → Option Ft) : Rs := { r with d := r.d.re a p }
structure Blind (op : Dk → Rs) : Prop where
  re : ∀ (D : Dk) (a : Nat) (p : Int → Option Ft), op (D.re a p) = (op D).re a p
  dn : ∀ D, (op D).d.dn = D.dn
theorem with_blind {n : Nm} {f : Nat → Dk → Rs} (h : ∀ i, Blind (f i)) : Blind (opWith n f) := by
  refine ⟨fun D a p => ?_, fun D => ?_⟩
  · unfold opWith
    show (if okN n = true then (match Dir.get n D.se with | none => Rs.err (D.re a p) 162 | some i => f i (D.re a p)) else Rs.err (D.re a p) 164) = _
    by_cases ho : okN n = true
    · rw [if_pos ho, if_pos ho]
      cases Dir.get n D.se with
      | none => rfl
      | some i => exact (h i).re D a p
    · rw [if_neg ho, if_neg ho]
      rfl
  · unfold opWith
    by_cases ho : okN n = true
    · rw [if_pos ho]
      cases Dir.get n D.se with
      | none => rfl
      | some i => exact (h i).dn D
    · rw [if_neg ho]
      rfl
theorem blind_make (n : Nm) : Blind (opMake n) := by
  refine ⟨fun D a p => ?_, fun D => ?_⟩
  · unfold opMake
    show (if fndE D.se n = 0 then Rs.err (D.re a p) 163 else if fndE D.se n ≠ 162 then Rs.err (D.re a p) (fndE D.se n) else if D.full = true then Rs.err (D.re a p) 161 else Rs.err ((D.re a p).fresh.act ⟨[], n, some D.fi.length⟩) 0) = _
    split
    · rfl
    · split
      · rfl
      · split <;> rfl
  · unfold opMake
    split
    · rfl
    · split
      · rfl
      · split <;> rfl
theorem blind_part (n : Nm) (b : List Int) (most : Int) : Blind (opPart n b most) := with_blind (fun _ => ⟨fun _ _ _ => rfl, fun _ => rfl⟩)
theorem blind_app (n : Nm) (b : List Int) : Blind (opApp n b) := by
  have h := blind_part n b b.length
  refine ⟨fun D a p => ?_, fun D => ?_⟩
  · unfold opApp
    rw [h.re]
    dsimp only [Rs.re]
    split <;> rfl
  · unfold opApp
    dsimp only
    split
    · exact h.dn D
    · exact h.dn D
theorem blind_sync (n : Nm) : Blind (opSync n) := with_blind (fun _ => ⟨fun _ _ _ => rfl, fun _ => rfl⟩)
theorem blind_dir : Blind opSyncDir := ⟨fun _ _ _ => rfl, fun _ => rfl⟩
theorem blind_rem (n : Nm) : Blind (opRem n) := with_blind (fun _ => ⟨fun _ _ _ => rfl, fun _ => rfl⟩)
theorem blind_read (n : Nm) : Blind (opRead n) := with_blind (fun _ => ⟨fun _ _ _ => rfl, fun _ => rfl⟩)
theorem blind_stamp (n : Nm) : Blind (opStamp n) := with_blind (fun _ => ⟨fun _ _ _ => rfl, fun _ => rfl⟩)
theorem blind_ren (a b : Nm) : Blind (opRen a b) := by
  have h : Blind (opWith a (fun i D => Rs.err (if a = b then D else D.act ⟨a, b, some i⟩) 0)) := with_blind (fun i => ⟨fun D c p => by dsimp only [Rs.err, Rs.re]; split <;> rfl, fun D => by dsimp only [Rs.err]; split <;> rfl⟩)
  refine ⟨fun D c p => ?_, fun D => ?_⟩
  · unfold opRen
    split
    · exact h.re D c p
    · rfl
  · unfold opRen
    split
    · exact h.dn D
    · rfl
theorem blind_of (x : So) : Blind (opOf x) := by
  unfold opOf
  split
  · exact blind_make _
  · split
    · exact blind_app _ _
    · split
      · exact blind_sync _
      · split
        · exact blind_dir
        · split
          · exact blind_ren _ _
          · split
            · exact blind_rem _
            · split
              · exact blind_read _
              · exact blind_stamp _
theorem blind_put (n : Nm) (b : List Int) : Blind (opPut n b) := by
  refine ⟨fun D a p => ?_, fun D => ?_⟩
  · unfold opPut
    show (if putE n b.length D ≠ 0 then Rs.err (D.re a p) (putE n b.length D) else match Dir.get n D.se with | none => _ | some i => _) = _
    split
    · rfl
    · cases Dir.get n D.se <;> rfl
  · unfold opPut
    split
    · rfl
    · cases Dir.get n D.se <;> rfl
/-- The plan that refuses one step. -/
def rfz (k m : Nat) (p : Int → Option Ft) : Prop := ∀ i : Int, p i = if i = (k : Int) ∧ m < k then some ⟨1, 0, ⟨0, []⟩⟩ else none
section
variable {C : Dk} {m k : Nat} {p : Int → Option Ft} {x : So}
/-- The plan behind a step. -/
def nxt (m : Nat) (p : Int → Option Ft) : Int → Option Ft := fun i => if i = ((m + 1 : Nat) : Int) then none else p i
theorem rfz.nxt (h : rfz k m p) : rfz k (m + 1) (nxt m p) := fun i => by
  unfold Go.Proofs.Ytlcgagapkkdocaa.nxt
  by_cases e : i = ((m + 1 : Nat) : Int)
  · rw [if_pos e, if_neg (by omega)]
  · rw [if_neg e, h i]
    by_cases e2 : i = (k : Int)
    · by_cases e3 : m < k
      · rw [if_pos ⟨e2, e3⟩, if_pos ⟨e2, by omega⟩]
      · rw [if_neg (fun o => e3 o.2), if_neg (fun o => e3 (by omega))]
    · rw [if_neg (fun o => e2 o.1), if_neg (fun o => e2 o.1)]
/-- The step that is refused. -/
theorem do_refused (hd : C.dn = false) (h : rfz k m p) (hk : m + 1 = k) (h1 : 1 ≤ x.k) (h8 : x.k ≤ 8) : (doP x (C.re m p)).e ≠ 0 ∧ (doP x (C.re m p)).d = C.re (m + 1) (nxt m p) := by
  have hp : p ((m + 1 : Nat) : Int) = some ⟨1, 0, ⟨0, []⟩⟩ := by rw [h]; exact if_pos ⟨by omega, by omega⟩
  unfold doP
  rw [if_pos ⟨h1, h8⟩]
  have e : take (opOf x) (ptOf x) (C.re m p) = Rs.err (C.re (m + 1) (nxt m p)) 160 := by
    unfold take
    rw [if_neg (by show ¬ C.dn = true; rw [hd]; decide)]
    show meet (opOf x) (ptOf x) (C.re m p).tick (p ((m + 1 : Nat) : Int)) = _
    rw [hp]
    rfl
  rw [e]
  exact ⟨by show (160 : Int) ≠ 0; decide, rfl⟩
/-- A step that meets no fault. -/
theorem do_plain (hd : C.dn = false) (hp : p ((m + 1 : Nat) : Int) = none) (h1 : 1 ≤ x.k) (h8 : x.k ≤ 8) : (doP x (C.re m p)).e = (opOf x C).e ∧ (doP x (C.re m p)).d = (opOf x C).d.re (m + 1) (nxt m p) ∧ (opOf x C).d.dn = false := by
  unfold doP
  rw [if_pos ⟨h1, h8⟩]
  have e : take (opOf x) (ptOf x) (C.re m p) = (opOf x C).re (m + 1) (nxt m p) := by
    unfold take
    rw [if_neg (by show ¬ C.dn = true; rw [hd]; decide)]
    show meet (opOf x) (ptOf x) (C.re m p).tick (p ((m + 1 : Nat) : Int)) = _
    rw [hp]
    exact (blind_of x).re C (m + 1) (nxt m p)
  rw [e]
  exact ⟨rfl, rfl, ((blind_of x).dn C).trans hd⟩
theorem do_put (hd : C.dn = false) (h9 : x.k = 9) : (doP x (C.re m p)).e = (opPut x.nm x.b C).e ∧ (doP x (C.re m p)).d = (opPut x.nm x.b C).d.re m p ∧ (opPut x.nm x.b C).d.dn = false := by
  unfold doP
  rw [if_neg (by omega), if_pos h9, (blind_put x.nm x.b).re]
  exact ⟨rfl, rfl, ((blind_put x.nm x.b).dn C).trans hd⟩
end
end Go.Proofs.Ytlcgagapkkdocaa
