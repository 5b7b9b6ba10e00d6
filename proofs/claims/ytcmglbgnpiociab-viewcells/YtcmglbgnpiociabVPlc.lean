/- Clusters and cells of a line: what is told of them. No Go in sight. -/
import Derived.Test.YtcmglbgnpiociabPure
import Derived.Test.YtcmglbgnpiociabVInt
namespace Go.Proofs.Ytcmglbgnpiociab
open Go.RowKit

theorem Gx.wid_le (a : Int) : 0 ≤ Gx.wid a ∧ Gx.wid a ≤ 6 := by
  unfold Gx.wid
  split
  · omega
  split
  · omega
  split
  · omega
  split
  · omega
  split
  · split <;> omega
  · cases h : Gx.find Gx.wideRows a with
    | none => simp [Gx.vD]
    | some r =>
      have := Gx.all_find (T := Gx.wideRows) (p := fun r => decide (r.2.2 ≤ 6)) (by decide) h
      simp at this
      simp only [Gx.vD]
      omega

/-- The columns of all atoms. -/
def Vw.sw : List Int → Nat
  | [] => 0
  | x :: r => (Gx.wid x).toNat + Vw.sw r
theorem Vw.sw_app (a b : List Int) : Vw.sw (a ++ b) = Vw.sw a + Vw.sw b := by
  induction a with
  | nil => simp [Vw.sw]
  | cons x a ih => simp only [List.cons_append, Vw.sw, ih]; omega
theorem Vw.sw_le (a : List Int) : Vw.sw a ≤ 6 * a.length := by
  induction a with
  | nil => simp [Vw.sw]
  | cons x a ih => have := Gx.wid_le x; simp only [Vw.sw, List.length_cons]; omega

/-- The cells of a cluster that stands at a cell. -/
def Vw.wd (xs : List Int) (c : Nat) : Nat := if xs.length = 1 then (if Cl.at xs 0 = 9 then 8 - c % 8 else (Gx.wid (Cl.at xs 0)).toNat) else min (Vw.sw xs) 2
theorem Vw.wd_le (xs : List Int) (c : Nat) (h : 0 < xs.length) : Vw.wd xs c ≤ 8 * xs.length := by
  unfold Vw.wd
  have := Gx.wid_le (Cl.at xs 0)
  split
  · split <;> omega
  · omega

/-- The cluster at an offset. -/
def Vw.clu (zs : List Int) (a : Nat) : List Int := (zs.drop a).take (Cl.up zs (a + 1) - a)

/-- Where the clusters stand, from an offset and a cell on: beginning, end, the first cell behind. -/
def Vw.pl (zs : List Int) : Nat → Nat → Nat → List (Nat × Nat × Nat)
  | 0, _, _ => []
  | f + 1, a, c => if a < zs.length then (a, Cl.up zs (a + 1), c + Vw.wd (Vw.clu zs a) c) :: Vw.pl zs f (Cl.up zs (a + 1)) (c + Vw.wd (Vw.clu zs a) c) else []

theorem Vw.up_gt (zs : List Int) (a : Nat) (h : a < zs.length) : a < Cl.up zs (a + 1) ∧ Cl.up zs (a + 1) ≤ zs.length ∧ Cl.isB zs (Cl.up zs (a + 1)) = true := by
  have := Cl.up_spec zs _ (a + 1) rfl (by omega) (by omega)
  exact ⟨by omega, this.2.1, this.2.2.1⟩
theorem Vw.pl_fuel (zs : List Int) : ∀ f g a c, zs.length - a ≤ f → zs.length - a ≤ g → Vw.pl zs f a c = Vw.pl zs g a c := by
  intro f
  induction f with
  | zero =>
    intro g a c h1 h2
    cases g with
    | zero => rfl
    | succ g => unfold Vw.pl; rw [if_neg (by omega)]
  | succ f ih =>
    intro g a c h1 h2
    by_cases h : a < zs.length
    · cases g with
      | zero => omega
      | succ g =>
        have := (Vw.up_gt zs a h).1
        unfold Vw.pl
        rw [if_pos h, if_pos h, ih g _ _ (by omega) (by omega)]
    · cases g with
      | zero => unfold Vw.pl; rw [if_neg h]
      | succ g => unfold Vw.pl; rw [if_neg h, if_neg h]
/-- All clusters of a line. -/
def Vw.ps (zs : List Int) (a c : Nat) : List (Nat × Nat × Nat) := Vw.pl zs (zs.length - a) a c
theorem Vw.ps_step (zs : List Int) (a c : Nat) (h : a < zs.length) : Vw.ps zs a c = (a, Cl.up zs (a + 1), c + Vw.wd (Vw.clu zs a) c) :: Vw.ps zs (Cl.up zs (a + 1)) (c + Vw.wd (Vw.clu zs a) c) := by
  have h1 := (Vw.up_gt zs a h).1
  unfold Vw.ps
  rw [show zs.length - a = (zs.length - a - 1) + 1 by omega]
  rw [Vw.pl, if_pos h, Vw.pl_fuel zs (zs.length - a - 1) (zs.length - Cl.up zs (a + 1)) _ _ (by omega) (by omega)]
theorem Vw.ps_end (zs : List Int) (a c : Nat) (h : zs.length ≤ a) : Vw.ps zs a c = [] := by
  unfold Vw.ps
  rw [show zs.length - a = 0 by omega, Vw.pl]
theorem Vw.clu_len (zs : List Int) (a : Nat) (h : a < zs.length) : (Vw.clu zs a).length = Cl.up zs (a + 1) - a := by
  have := Vw.up_gt zs a h
  unfold Vw.clu
  rw [List.length_take, List.length_drop]
  omega
theorem Vw.clu_wd (zs : List Int) (a c : Nat) (h : a < zs.length) : Vw.wd (Vw.clu zs a) c ≤ 8 * (Cl.up zs (a + 1) - a) := by
  have := Vw.up_gt zs a h
  have := Vw.wd_le (Vw.clu zs a) c (by rw [Vw.clu_len zs a h]; omega)
  rwa [Vw.clu_len zs a h] at this

/-- Cell's and At's answers over such a row. -/
def Vw.cellL : List (Nat × Nat × Nat) → Int → Nat → Nat
  | [], _, acc => acc
  | p :: r, a, acc => if a < (p.2.1 : Int) then acc else Vw.cellL r a p.2.2
def Vw.atL (len : Nat) : List (Nat × Nat × Nat) → Int → Nat
  | [], _ => len
  | p :: r, c => if c < (p.2.2 : Int) then p.1 else Vw.atL len r c
def Vw.cell (zs : List Int) (a : Int) : Nat := Vw.cellL (Vw.ps zs 0 0) a 0
def Vw.at (zs : List Int) (c : Int) : Nat := if c < 0 then 0 else Vw.atL zs.length (Vw.ps zs 0 0) c
/-- The cell behind all that came. -/
def Vw.lst (pre : List (Nat × Nat × Nat)) : Nat := (pre.getLast?.map fun p => p.2.2).getD 0
theorem Vw.lst_app (pre : List (Nat × Nat × Nat)) (x : Nat × Nat × Nat) : Vw.lst (pre ++ [x]) = x.2.2 := by simp [Vw.lst]
theorem Vw.cellL_pre (pre post : List (Nat × Nat × Nat)) (a : Int) (h : ∀ p ∈ pre, (p.2.1 : Int) ≤ a) : ∀ acc, Vw.cellL (pre ++ post) a acc = Vw.cellL post a ((pre.getLast?.map fun p => p.2.2).getD acc) := by
  induction pre with
  | nil => intro acc; rfl
  | cons p pre ih =>
    intro acc
    have := h p (by simp)
    rw [List.cons_append, Vw.cellL, if_neg (by omega), ih (fun q hq => h q (by simp [hq]))]
    congr 1
    cases pre with
    | nil => simp
    | cons q pre =>
      cases hz : (q :: pre).getLast? with
      | none => simp at hz
      | some z => rw [List.getLast?_cons_cons, hz]; rfl
theorem Vw.cellL_stop (pre : List (Nat × Nat × Nat)) (x : Nat × Nat × Nat) (post : List (Nat × Nat × Nat)) (a : Int) (h : ∀ p ∈ pre, (p.2.1 : Int) ≤ a) (hx : a < (x.2.1 : Int)) : Vw.cellL (pre ++ x :: post) a 0 = Vw.lst pre := by
  rw [Vw.cellL_pre pre _ a h, Vw.cellL, if_pos hx]; rfl
theorem Vw.cellL_all (pre : List (Nat × Nat × Nat)) (a : Int) (h : ∀ p ∈ pre, (p.2.1 : Int) ≤ a) : Vw.cellL pre a 0 = Vw.lst pre := by
  have := Vw.cellL_pre pre [] a h 0
  rw [List.append_nil] at this
  rw [this]; rfl
theorem Vw.atL_pre (len : Nat) (pre post : List (Nat × Nat × Nat)) (c : Int) (h : ∀ p ∈ pre, (p.2.2 : Int) ≤ c) : Vw.atL len (pre ++ post) c = Vw.atL len post c := by
  induction pre with
  | nil => rfl
  | cons p pre ih =>
    have := h p (by simp)
    rw [List.cons_append, Vw.atL, if_neg (by omega), ih (fun q hq => h q (by simp [hq]))]
end Go.Proofs.Ytcmglbgnpiociab
