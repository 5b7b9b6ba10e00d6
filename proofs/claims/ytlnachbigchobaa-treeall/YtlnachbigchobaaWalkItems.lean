/- TreeItems, TreeAll: the walks. -/
import Derived.Test.YtlnachbigchobaaListed
import Derived.Test.YtlnachbigchobaaWalkScripts
namespace Go.Proofs.Ytlnachbigchobaa
open Go.RowKit

set_option maxRecDepth 100000 in
set_option maxHeartbeats 2000000 in
theorem law_items (v : Value) (os : List Sp) (w : World) (h : RdO w v os) :
    Calls Try.prog 11 #[v] w fun e w' => e = .returned (.bool true) ∧ Below w.heap.size w w' := by
  have HR := hidIt h
  obtain ⟨ao, cap, rfl⟩ := h.form
  clear h
  go_enter Try.func11, Try.ntmps11
  go_wp2_with fail
  refine (fits_any _ os w HR.out).mono ?_
  rintro e w1 ⟨hF, hw1⟩
  obtain rfl : w = w1 := hw1.symm
  obtain ⟨b, rfl, hb⟩ := hF
  cases b with
  | false =>
    go_wp2_with fail
    go_ret
    exact ⟨rfl, Below.refl _ _⟩
  | true =>
    have HF := hidIt (hb rfl)
    clear hb hw1
    go_wp2_with fail
    refine (plays_any _ os 8 8 w HR.out HF.out (fun _ _ => listed_any)).mono ?_
    rintro e w2 ⟨rfl, hb2⟩
    have HB2 := hidIt hb2
    clear hb2
    go_wp2_with fail
    go_ret
    exact ⟨rfl, HB2.out⟩
set_option maxRecDepth 100000 in
set_option maxHeartbeats 2000000 in
theorem law_all (v : Value) (os : List Sp) (w : World) (h : RdO w v os) :
    Calls Try.prog 12 #[v] w fun e w' => e = .returned (.bool true) ∧ Below w.heap.size w w' := by
  have HR := hidIt h
  obtain ⟨ao, cap, rfl⟩ := h.form
  clear h
  go_enter Try.func12, Try.ntmps12
  go_wp2_with fail
  refine (fits_any _ os w HR.out).mono ?_
  rintro e w1 ⟨hF, hw1⟩
  obtain rfl : w = w1 := hw1.symm
  obtain ⟨b, rfl, hb⟩ := hF
  cases b with
  | false =>
    go_wp2_with fail
    go_ret
    exact ⟨rfl, Below.refl _ _⟩
  | true =>
    have HF := hidIt (hb rfl)
    clear hb hw1
    go_wp2_with fail
    refine (plays_any _ os 3 9 w HR.out HF.out (fun _ _ => listed_any)).mono ?_
    rintro e w2 ⟨rfl, hb2⟩
    have HB2 := hidIt hb2
    clear hb2
    go_wp2_with fail
    go_ret
    exact ⟨rfl, HB2.out⟩
end Go.Proofs.Ytlnachbigchobaa
