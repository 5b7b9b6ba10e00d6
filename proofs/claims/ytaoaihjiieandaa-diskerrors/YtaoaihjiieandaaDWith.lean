/- 'with' at each of the closures. -/
import Derived.Test.YtaoaihjiieandaaDFile2
namespace Go.Proofs.Ytaoaihjiieandaa
open Go.RowKit

theorem hdV_ok {fq : Nat → Nat} {d : Dir} {n : Nm} {i : Nat} (h : fndE d n = 0) (hg : Dir.get n d = some i) : hdV fq d n = .agg #[sv n, pp (fq i)] := by
  unfold hdV
  rw [if_pos h, hg]
  rfl
theorem hdV_bad {fq : Nat → Nat} {d : Dir} {n : Nm} (h : fndE d n ≠ 0) : hdV fq d n = .agg #[.string ⟨#[]⟩, .pointer none] := by
  unfold hdV
  rw [if_neg h]
theorem get_of_fnd {d : Dir} {n : Nm} (h : fndE d n = 0) : okN n = true ∧ ∃ i, Dir.get n d = some i := by
  unfold fndE at h
  split at h
  · rename_i hk
    cases hg : Dir.get n d with
    | none => rw [hg] at h; cases h
    | some i => exact ⟨hk, i, rfl⟩
  · cases h
theorem opWith_bad {d : Dk} {n : Nm} (f : Nat → Dk → Rs) (h : fndE d.se n ≠ 0) : opWith n f d = .err d (fndE d.se n) := by
  unfold opWith fndE at *
  split
  · rename_i hk
    rw [if_pos hk] at h
    cases hg : Dir.get n d.se with
    | none => rfl
    | some i => rw [hg] at h; exact absurd rfl h
  · rfl
theorem opWith_ok {d : Dk} {n : Nm} (f : Nat → Dk → Rs) {i : Nat} (h : fndE d.se n = 0) (hg : Dir.get n d.se = some i) : opWith n f d = f i d := by
  unfold opWith
  rw [if_pos (get_of_fnd h).1, hg]
theorem cells2v {w : World} {g : Nat} {T : TypeId} {a b : Value} (h : w.heap[g]? = some (.cells #[a, b] T (0, 0))) : w.cell? ⟨g, 0, none⟩ = some a ∧ w.cell? ⟨g, 1, none⟩ = some b ∧ ∀ i, w.frozen? ⟨g, i, none⟩ = false := by
  refine ⟨?_, ?_, fun i => frozen_of_row _ _ _ _ _ h⟩ <;> simp [World.cell?, h]

set_option maxRecDepth 100000 in
theorem with_rd {w : World} {b : Nat} {fq : Nat → Nat} {d : Dir} (h : DirM w b fq d) (n : Nm) (hn : n.length ≤ 9223372036854775807) (c0 : Value) (X : Int → World → Prop) (hbad : fndE d n ≠ 0 → ∀ w1, Below w.heap.size w w1 → X (fndE d n) w1)
    (hgood : ∀ i, fndE d n = 0 → Dir.get n d = some i → ∀ w1, Below w.heap.size w w1 → Calls Try.prog 50 #[.agg #[sv n, pp (fq i)], c0] w1 fun e w' => ∃ r, e = .returned (.int .i64 r) ∧ X r w') :
    Calls Try.prog 49 #[.map (some b), sv n, .func (.func 50) #[] #[c0]] w fun e w' => ∃ r, e = .returned (.int .i64 r) ∧ X r w' := by
  have FN := hidIt (find_any n hn w h)
  by_cases hz : fndE d n = 0
  · obtain ⟨_, i, hg⟩ := get_of_fnd hz
    have HG := hidIt (hgood i hz hg)
    rw [hdV_ok hz hg, hz] at FN
    clear hbad hgood hz hg
    go_enter Try.func49, Try.ntmps49
    go_wp2_with (first
      | (go_at_call 71; refine FN.out.mono ?_; rintro e w2 ⟨rfl, hb2⟩; have HB2 := hidIt hb2; clear hb2)
      | (go_at_call 50; refine (HG.out _ (ext_alloc HB2.out _)).mono ?_; rintro e w3 ⟨r, rfl, hx⟩; have HX := hidIt hx; clear hx))
    go_ret
    exact ⟨_, rfl, HX.out⟩
  · have HG := hidIt (hbad hz)
    have hb : (fndE d n == 0) = false := by simpa using hz
    rw [hdV_bad hz] at FN
    generalize fndE d n = z at *
    clear hbad hgood hz
    go_enter Try.func49, Try.ntmps49
    go_wp2_with (first
      | (go_at_call 71; refine FN.out.mono ?_; rintro e w2 ⟨rfl, hb2⟩; have HB2 := hidIt hb2; clear hb2))
    go_ret
    exact ⟨_, rfl, HG.out _ (ext_alloc HB2.out _)⟩

set_option maxRecDepth 100000 in
theorem with_ap {w : World} {b : Nat} {fq : Nat → Nat} {d : Dir} (h : DirM w b fq d) (n : Nm) (hn : n.length ≤ 9223372036854775807) (c0 : Value) (c1 : Value) (c2 : Value) (c3 : Value) (X : Int → World → Prop) (hbad : fndE d n ≠ 0 → ∀ w1, Below w.heap.size w w1 → X (fndE d n) w1)
    (hgood : ∀ i, fndE d n = 0 → Dir.get n d = some i → ∀ w1, Below w.heap.size w w1 → Calls Try.prog 54 #[.agg #[sv n, pp (fq i)], c0, c1, c2, c3] w1 fun e w' => ∃ r, e = .returned (.int .i64 r) ∧ X r w') :
    Calls Try.prog 49 #[.map (some b), sv n, .func (.func 54) #[] #[c0, c1, c2, c3]] w fun e w' => ∃ r, e = .returned (.int .i64 r) ∧ X r w' := by
  have FN := hidIt (find_any n hn w h)
  by_cases hz : fndE d n = 0
  · obtain ⟨_, i, hg⟩ := get_of_fnd hz
    have HG := hidIt (hgood i hz hg)
    rw [hdV_ok hz hg, hz] at FN
    clear hbad hgood hz hg
    go_enter Try.func49, Try.ntmps49
    go_wp2_with (first
      | (go_at_call 71; refine FN.out.mono ?_; rintro e w2 ⟨rfl, hb2⟩; have HB2 := hidIt hb2; clear hb2)
      | (go_at_call 54; refine (HG.out _ (ext_alloc HB2.out _)).mono ?_; rintro e w3 ⟨r, rfl, hx⟩; have HX := hidIt hx; clear hx))
    go_ret
    exact ⟨_, rfl, HX.out⟩
  · have HG := hidIt (hbad hz)
    have hb : (fndE d n == 0) = false := by simpa using hz
    rw [hdV_bad hz] at FN
    generalize fndE d n = z at *
    clear hbad hgood hz
    go_enter Try.func49, Try.ntmps49
    go_wp2_with (first
      | (go_at_call 71; refine FN.out.mono ?_; rintro e w2 ⟨rfl, hb2⟩; have HB2 := hidIt hb2; clear hb2))
    go_ret
    exact ⟨_, rfl, HG.out _ (ext_alloc HB2.out _)⟩

set_option maxRecDepth 100000 in
theorem with_sy {w : World} {b : Nat} {fq : Nat → Nat} {d : Dir} (h : DirM w b fq d) (n : Nm) (hn : n.length ≤ 9223372036854775807) (X : Int → World → Prop) (hbad : fndE d n ≠ 0 → ∀ w1, Below w.heap.size w w1 → X (fndE d n) w1)
    (hgood : ∀ i, fndE d n = 0 → Dir.get n d = some i → ∀ w1, Below w.heap.size w w1 → Calls Try.prog 59 #[.agg #[sv n, pp (fq i)]] w1 fun e w' => ∃ r, e = .returned (.int .i64 r) ∧ X r w') :
    Calls Try.prog 49 #[.map (some b), sv n, .func (.func 59) #[] #[]] w fun e w' => ∃ r, e = .returned (.int .i64 r) ∧ X r w' := by
  have FN := hidIt (find_any n hn w h)
  by_cases hz : fndE d n = 0
  · obtain ⟨_, i, hg⟩ := get_of_fnd hz
    have HG := hidIt (hgood i hz hg)
    rw [hdV_ok hz hg, hz] at FN
    clear hbad hgood hz hg
    go_enter Try.func49, Try.ntmps49
    go_wp2_with (first
      | (go_at_call 71; refine FN.out.mono ?_; rintro e w2 ⟨rfl, hb2⟩; have HB2 := hidIt hb2; clear hb2)
      | (go_at_call 59; refine (HG.out _ (ext_alloc HB2.out _)).mono ?_; rintro e w3 ⟨r, rfl, hx⟩; have HX := hidIt hx; clear hx))
    go_ret
    exact ⟨_, rfl, HX.out⟩
  · have HG := hidIt (hbad hz)
    have hb : (fndE d n == 0) = false := by simpa using hz
    rw [hdV_bad hz] at FN
    generalize fndE d n = z at *
    clear hbad hgood hz
    go_enter Try.func49, Try.ntmps49
    go_wp2_with (first
      | (go_at_call 71; refine FN.out.mono ?_; rintro e w2 ⟨rfl, hb2⟩; have HB2 := hidIt hb2; clear hb2))
    go_ret
    exact ⟨_, rfl, HG.out _ (ext_alloc HB2.out _)⟩

set_option maxRecDepth 100000 in
theorem with_rm {w : World} {b : Nat} {fq : Nat → Nat} {d : Dir} (h : DirM w b fq d) (n : Nm) (hn : n.length ≤ 9223372036854775807) (c0 : Value) (X : Int → World → Prop) (hbad : fndE d n ≠ 0 → ∀ w1, Below w.heap.size w w1 → X (fndE d n) w1)
    (hgood : ∀ i, fndE d n = 0 → Dir.get n d = some i → ∀ w1, Below w.heap.size w w1 → Calls Try.prog 63 #[.agg #[sv n, pp (fq i)], c0] w1 fun e w' => ∃ r, e = .returned (.int .i64 r) ∧ X r w') :
    Calls Try.prog 49 #[.map (some b), sv n, .func (.func 63) #[] #[c0]] w fun e w' => ∃ r, e = .returned (.int .i64 r) ∧ X r w' := by
  have FN := hidIt (find_any n hn w h)
  by_cases hz : fndE d n = 0
  · obtain ⟨_, i, hg⟩ := get_of_fnd hz
    have HG := hidIt (hgood i hz hg)
    rw [hdV_ok hz hg, hz] at FN
    clear hbad hgood hz hg
    go_enter Try.func49, Try.ntmps49
    go_wp2_with (first
      | (go_at_call 71; refine FN.out.mono ?_; rintro e w2 ⟨rfl, hb2⟩; have HB2 := hidIt hb2; clear hb2)
      | (go_at_call 63; refine (HG.out _ (ext_alloc HB2.out _)).mono ?_; rintro e w3 ⟨r, rfl, hx⟩; have HX := hidIt hx; clear hx))
    go_ret
    exact ⟨_, rfl, HX.out⟩
  · have HG := hidIt (hbad hz)
    have hb : (fndE d n == 0) = false := by simpa using hz
    rw [hdV_bad hz] at FN
    generalize fndE d n = z at *
    clear hbad hgood hz
    go_enter Try.func49, Try.ntmps49
    go_wp2_with (first
      | (go_at_call 71; refine FN.out.mono ?_; rintro e w2 ⟨rfl, hb2⟩; have HB2 := hidIt hb2; clear hb2))
    go_ret
    exact ⟨_, rfl, HG.out _ (ext_alloc HB2.out _)⟩

set_option maxRecDepth 100000 in
theorem with_rn {w : World} {b : Nat} {fq : Nat → Nat} {d : Dir} (h : DirM w b fq d) (n : Nm) (hn : n.length ≤ 9223372036854775807) (c0 : Value) (c1 : Value) (c2 : Value) (X : Int → World → Prop) (hbad : fndE d n ≠ 0 → ∀ w1, Below w.heap.size w w1 → X (fndE d n) w1)
    (hgood : ∀ i, fndE d n = 0 → Dir.get n d = some i → ∀ w1, Below w.heap.size w w1 → Calls Try.prog 79 #[.agg #[sv n, pp (fq i)], c0, c1, c2] w1 fun e w' => ∃ r, e = .returned (.int .i64 r) ∧ X r w') :
    Calls Try.prog 49 #[.map (some b), sv n, .func (.func 79) #[] #[c0, c1, c2]] w fun e w' => ∃ r, e = .returned (.int .i64 r) ∧ X r w' := by
  have FN := hidIt (find_any n hn w h)
  by_cases hz : fndE d n = 0
  · obtain ⟨_, i, hg⟩ := get_of_fnd hz
    have HG := hidIt (hgood i hz hg)
    rw [hdV_ok hz hg, hz] at FN
    clear hbad hgood hz hg
    go_enter Try.func49, Try.ntmps49
    go_wp2_with (first
      | (go_at_call 71; refine FN.out.mono ?_; rintro e w2 ⟨rfl, hb2⟩; have HB2 := hidIt hb2; clear hb2)
      | (go_at_call 79; refine (HG.out _ (ext_alloc HB2.out _)).mono ?_; rintro e w3 ⟨r, rfl, hx⟩; have HX := hidIt hx; clear hx))
    go_ret
    exact ⟨_, rfl, HX.out⟩
  · have HG := hidIt (hbad hz)
    have hb : (fndE d n == 0) = false := by simpa using hz
    rw [hdV_bad hz] at FN
    generalize fndE d n = z at *
    clear hbad hgood hz
    go_enter Try.func49, Try.ntmps49
    go_wp2_with (first
      | (go_at_call 71; refine FN.out.mono ?_; rintro e w2 ⟨rfl, hb2⟩; have HB2 := hidIt hb2; clear hb2))
    go_ret
    exact ⟨_, rfl, HG.out _ (ext_alloc HB2.out _)⟩

set_option maxRecDepth 100000 in
theorem with_st {w : World} {b : Nat} {fq : Nat → Nat} {d : Dir} (h : DirM w b fq d) (n : Nm) (hn : n.length ≤ 9223372036854775807) (c0 : Value) (X : Int → World → Prop) (hbad : fndE d n ≠ 0 → ∀ w1, Below w.heap.size w w1 → X (fndE d n) w1)
    (hgood : ∀ i, fndE d n = 0 → Dir.get n d = some i → ∀ w1, Below w.heap.size w w1 → Calls Try.prog 84 #[.agg #[sv n, pp (fq i)], c0] w1 fun e w' => ∃ r, e = .returned (.int .i64 r) ∧ X r w') :
    Calls Try.prog 49 #[.map (some b), sv n, .func (.func 84) #[] #[c0]] w fun e w' => ∃ r, e = .returned (.int .i64 r) ∧ X r w' := by
  have FN := hidIt (find_any n hn w h)
  by_cases hz : fndE d n = 0
  · obtain ⟨_, i, hg⟩ := get_of_fnd hz
    have HG := hidIt (hgood i hz hg)
    rw [hdV_ok hz hg, hz] at FN
    clear hbad hgood hz hg
    go_enter Try.func49, Try.ntmps49
    go_wp2_with (first
      | (go_at_call 71; refine FN.out.mono ?_; rintro e w2 ⟨rfl, hb2⟩; have HB2 := hidIt hb2; clear hb2)
      | (go_at_call 84; refine (HG.out _ (ext_alloc HB2.out _)).mono ?_; rintro e w3 ⟨r, rfl, hx⟩; have HX := hidIt hx; clear hx))
    go_ret
    exact ⟨_, rfl, HX.out⟩
  · have HG := hidIt (hbad hz)
    have hb : (fndE d n == 0) = false := by simpa using hz
    rw [hdV_bad hz] at FN
    generalize fndE d n = z at *
    clear hbad hgood hz
    go_enter Try.func49, Try.ntmps49
    go_wp2_with (first
      | (go_at_call 71; refine FN.out.mono ?_; rintro e w2 ⟨rfl, hb2⟩; have HB2 := hidIt hb2; clear hb2))
    go_ret
    exact ⟨_, rfl, HG.out _ (ext_alloc HB2.out _)⟩
end Go.Proofs.Ytaoaihjiieandaa
