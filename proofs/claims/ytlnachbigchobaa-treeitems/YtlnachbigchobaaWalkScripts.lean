/- TreeLooks, TreeSums, TreeFind: the walks. -/
import Derived.Test.YtlnachbigchobaaPlays
namespace Go.Proofs.Ytlnachbigchobaa
open Go.RowKit

theorem RdO.ext {w w' : World} {v : Value} {os : List Sp} (h : RdO w v os) (hb : Below w.heap.size w w') : RdO w' v os := by
  obtain ⟨ao, cap, hv, h1, h2, h3, h4⟩ := h
  refine ⟨ao, cap, hv, h1, h2, h3, fun hp => ?_⟩
  obtain ⟨b, off, ha, hl, hc⟩ := h4 hp
  refine ⟨b, off, ha, Nat.lt_of_lt_of_le hl hb.size, fun i o hi => ?_⟩
  have hO := hc i o hi
  have e : ∀ j, w'.cell? ⟨b, off + i * 7 + j, none⟩ = w.cell? ⟨b, off + i * 7 + j, none⟩ := fun j => hb.cell (p := ⟨b, off + i * 7 + j, none⟩) hl
  exact ⟨(e 0).trans hO.c0, (e 1).trans hO.c1, (e 2).trans hO.c2, (e 3).trans hO.c3, (e 4).trans hO.c4, (e 5).trans hO.c5, (e 6).trans hO.c6, hO.rd.ext hb, hO.hz, hO.hn⟩
theorem RdO.form {w : World} {v : Value} {os : List Sp} (h : RdO w v os) : ∃ ao cap, v = .slice ao os.length cap := by
  obtain ⟨ao, cap, hv, _⟩ := h
  exact ⟨ao, cap, hv⟩

set_option maxRecDepth 100000 in
set_option maxHeartbeats 2000000 in
theorem law_looks (v : Value) (os : List Sp) (w : World) (h : RdO w v os) :
    Calls Try.prog 8 #[v] w fun e w' => e = .returned (.bool true) ∧ Below w.heap.size w w' := by
  have HR := hidIt h
  obtain ⟨ao, cap, rfl⟩ := h.form
  clear h
  go_enter Try.func8, Try.ntmps8
  go_wp2_with fail
  refine (fits_any _ os w HR.out).mono ?_
  rintro e w1 ⟨hF, hw1⟩
  obtain rfl : w = w1 := hw1.symm
  obtain ⟨b, rfl, hb⟩ := hF
  cases b with
  | false =>
    go_wp2_with fail
    go_ret
    exact ⟨rfl, Below.refl _ _⟩
  | true =>
    have HF := hidIt (hb rfl)
    clear hb hw1
    go_wp2_with fail
    refine (plays_any _ os 3 3 w HR.out HF.out (by omega)).mono ?_
    rintro e w2 ⟨rfl, hb2⟩
    have HB2 := hidIt hb2
    clear hb2
    go_wp2_with fail
    refine (plays_any _ os 6 6 w2 (HR.out.ext HB2.out) HF.out (by omega)).mono ?_
    rintro e w3 ⟨rfl, hb3⟩
    have HB3 := hidIt (ext_trans HB2.out hb3)
    clear hb3
    go_wp2_with fail
    go_ret
    exact ⟨rfl, HB3.out⟩
set_option maxRecDepth 100000 in
set_option maxHeartbeats 2000000 in
theorem law_sums (v : Value) (os : List Sp) (w : World) (h : RdO w v os) :
    Calls Try.prog 9 #[v] w fun e w' => e = .returned (.bool true) ∧ Below w.heap.size w w' := by
  have HR := hidIt h
  obtain ⟨ao, cap, rfl⟩ := h.form
  clear h
  go_enter Try.func9, Try.ntmps9
  go_wp2_with fail
  refine (fits_any _ os w HR.out).mono ?_
  rintro e w1 ⟨hF, hw1⟩
  obtain rfl : w = w1 := hw1.symm
  obtain ⟨b, rfl, hb⟩ := hF
  cases b with
  | false =>
    go_wp2_with fail
    go_ret
    exact ⟨rfl, Below.refl _ _⟩
  | true =>
    have HF := hidIt (hb rfl)
    clear hb hw1
    go_wp2_with fail
    refine (plays_any _ os 4 5 w HR.out HF.out (by omega)).mono ?_
    rintro e w2 ⟨rfl, hb2⟩
    have HB2 := hidIt hb2
    clear hb2
    go_wp2_with fail
    go_ret
    exact ⟨rfl, HB2.out⟩
set_option maxRecDepth 100000 in
set_option maxHeartbeats 2000000 in
theorem law_find (v : Value) (os : List Sp) (w : World) (h : RdO w v os) :
    Calls Try.prog 10 #[v] w fun e w' => e = .returned (.bool true) ∧ Below w.heap.size w w' := by
  have HR := hidIt h
  obtain ⟨ao, cap, rfl⟩ := h.form
  clear h
  go_enter Try.func10, Try.ntmps10
  go_wp2_with fail
  refine (fits_any _ os w HR.out).mono ?_
  rintro e w1 ⟨hF, hw1⟩
  obtain rfl : w = w1 := hw1.symm
  obtain ⟨b, rfl, hb⟩ := hF
  cases b with
  | false =>
    go_wp2_with fail
    go_ret
    exact ⟨rfl, Below.refl _ _⟩
  | true =>
    have HF := hidIt (hb rfl)
    clear hb hw1
    go_wp2_with fail
    refine (plays_any _ os 7 7 w HR.out HF.out (by omega)).mono ?_
    rintro e w2 ⟨rfl, hb2⟩
    have HB2 := hidIt hb2
    clear hb2
    go_wp2_with fail
    go_ret
    exact ⟨rfl, HB2.out⟩
end Go.Proofs.Ytlnachbigchobaa
