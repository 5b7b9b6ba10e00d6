/- IsBreak, Next, Prev, Snap, Breaks. -/
import Derived.Test.YtcmglbgnpiociabScan
import Derived.Deep.RegionHeld3
namespace Go.Proofs.Ytcmglbgnpiociab
open Go.RowKit

/-- What the calls answer. -/
def Cl.isBi (zs : List Int) (a : Int) : Bool := if 0 ≤ a ∧ a ≤ (zs.length : Int) then Cl.isB zs a.toNat else false
def Cl.next (zs : List Int) (a : Int) : Nat := if a < 0 then 0 else if (zs.length : Int) ≤ a then zs.length else Cl.up zs (a.toNat + 1)
def Cl.prev (zs : List Int) (a : Int) : Nat := if a ≤ 0 then 0 else if (zs.length : Int) < a then zs.length else Cl.dn zs (a.toNat - 1)
def Cl.snap (zs : List Int) (a : Int) : Nat := if a < 0 then 0 else if (zs.length : Int) ≤ a then zs.length else Cl.dn zs a.toNat
def Cl.bi (zs : List Int) : List Int := (Cl.bs zs).map fun (n : Nat) => (n : Int)

set_option maxRecDepth 100000 in
theorem Next_any (v : Value) (zs : List Int) (a : Int) (w : World) (hr : Rd .i64 w v zs) :
    Calls Try.prog 37 #[v, .int .i64 a] w fun e w' => e = .returned (.int .i64 (Cl.next zs a)) ∧ Below w.heap.size w w' := by
  have HR : Hid (Rd .i64 w v zs) := hr
  have hlen := hr.len
  obtain ⟨ao, cap, rfl, _⟩ := hr
  by_cases h0 : a < 0
  · have HQ : Hid (Cl.next zs a = 0) := by unfold Hid Cl.next; rw [if_pos h0]
    go_enter Try.func37, Try.ntmps37
    go_wp2
    go_ret
    exact ⟨ret_int (by rw [HQ.out]; rfl), Below.refl _ _⟩
  by_cases h1 : (zs.length : Int) ≤ a
  · have HQ : Hid (Cl.next zs a = zs.length) := by unfold Hid Cl.next; rw [if_neg h0, if_pos h1]
    go_enter Try.func37, Try.ntmps37
    go_wp2
    go_ret
    exact ⟨ret_int (by rw [HQ.out]), Below.refl _ _⟩
  · obtain ⟨k, rfl⟩ : ∃ k : Nat, a = k := ⟨a.toNat, by omega⟩
    have HQ : Hid (Cl.next zs (k : Int) = Cl.up zs (k + 1)) := by unfold Hid Cl.next; rw [if_neg h0, if_neg h1]; rfl
    have hk : (k : Int) < (zs.length : Int) := by omega
    go_enter Try.func37, Try.ntmps37
    go_wp2_with (go_at_call 43; refine (above_any _ zs k _ HR.out (by omega)).mono ?_; rintro e w1 ⟨rfl, hb1⟩)
    go_ret
    exact ⟨ret_int (by rw [HQ.out]), hb1⟩

theorem above_0 (v : Value) (zs : List Int) (w : World) (hr : Rd .i64 w v zs) (ha : 0 < zs.length) :
    Calls Try.prog 43 #[v, .int .i64 0] w fun e w' => e = .returned (.int .i64 (Cl.up zs 1)) ∧ Below w.heap.size w w' := above_any v zs 0 w hr ha
end Go.Proofs.Ytcmglbgnpiociab
