/- GlyphColumns: the walk. -/
import Derived.Test.YtlignhpbmbdoeaaWalkSyllable
import Derived.Test.YtlignhpbmbdoeaaLawKit
namespace Go.Proofs.Ytlignhpbmbdoeaa
open Go.RowKit

theorem Gx.find_mem {T : List Gx.Row} {a : Int} {r : Gx.Row} (h : Gx.find T a = some r) : r ∈ T ∧ (r.1 : Int) ≤ a ∧ a ≤ (r.2.1 : Int) := by
  have h1 := List.mem_of_find?_eq_some h
  have h2 := List.find?_some h
  simp at h2
  exact ⟨h1, h2.1, h2.2⟩

theorem Gx.all_find {T : List Gx.Row} {p : Gx.Row → Bool} (h : T.all p = true) {a : Int} {r : Gx.Row} (hf : Gx.find T a = some r) : p r = true :=
  List.all_eq_true.1 h r (Gx.find_mem hf).1

theorem Gx.wide_two (a : Int) : 1 ≤ Gx.vD (Gx.find Gx.wideRows a) 1 ∧ Gx.vD (Gx.find Gx.wideRows a) 1 ≤ 2 := by
  cases h : Gx.find Gx.wideRows a with
  | none => exact ⟨by decide, by decide⟩
  | some r =>
    have := Gx.all_find (p := fun r => r.2.2 == 2) (by decide +kernel) h
    simp at this
    simp [Gx.vD, this]

theorem Gx.cls_not (a : Int) (h : Gx.isSc a = false) (hp : ¬ (32 ≤ a ∧ a ≤ 126)) : Gx.cls a = 3 := by unfold Gx.cls; rw [if_neg hp, if_pos h]

/-- What GlyphColumns asks of one int. -/
theorem Gx.col_facts (a : Int) :
    ((a < -256 ∨ 1114111 < a) ∧ Gx.cls a = 3 ∧ Gx.wid a = 0) ∨ (-256 ≤ a ∧ a < 0 ∧ Gx.cls a = 3 ∧ Gx.wid a = 4) ∨ (55296 ≤ a ∧ a ≤ 57343 ∧ Gx.cls a = 3 ∧ Gx.wid a = 6) ∨ (a = 9 ∧ Gx.cls a = 3 ∧ Gx.wid a = 0) ∨
    (0 ≤ a ∧ a ≤ 1114111 ∧ (a < 55296 ∨ 57343 < a) ∧ a ≠ 9 ∧ (Gx.cls a = 1 ∨ Gx.cls a = 2 ∨ Gx.cls a = 4 ∨ Gx.cls a = 5 ∨ Gx.cls a = 10 ∨ Gx.cls a = 11) ∧ Gx.wid a = 0) ∨
    (0 ≤ a ∧ a ≤ 1114111 ∧ (a < 55296 ∨ 57343 < a) ∧ a ≠ 9 ∧ ¬ (Gx.cls a = 1 ∨ Gx.cls a = 2 ∨ Gx.cls a = 4 ∨ Gx.cls a = 5 ∨ Gx.cls a = 10 ∨ Gx.cls a = 11) ∧ 1 ≤ Gx.wid a ∧ Gx.wid a ≤ 2) := by
  by_cases h1 : a < -256 ∨ 1114111 < a
  · have hs : Gx.isSc a = false := by
      unfold Gx.isSc
      rcases h1 with h1 | h1
      · rw [show decide (0 ≤ a) = false from by simp; omega]; rfl
      · rw [show decide (a ≤ 1114111) = false from by simp; omega]; simp
    have hl : Gx.isLn a = false := by simp [Gx.isLn]; omega
    refine .inl ⟨h1, Gx.cls_not a hs (by omega), ?_⟩
    unfold Gx.wid
    rw [if_neg (by omega), if_neg (by simp [hl]), if_pos (.inl hs)]
  by_cases h2 : a < 0
  · have hs : Gx.isSc a = false := by unfold Gx.isSc; rw [show decide (0 ≤ a) = false from by simp; omega]; rfl
    refine .inr (.inl ⟨by omega, h2, Gx.cls_not a hs (by omega), ?_⟩)
    unfold Gx.wid
    rw [if_pos (by omega)]
  by_cases h3 : 55296 ≤ a ∧ a ≤ 57343
  · have hl : Gx.isLn a = true := by simp [Gx.isLn, h3.1, h3.2]
    have hs : Gx.isSc a = false := by simp [Gx.isSc, hl]
    refine .inr (.inr (.inl ⟨h3.1, h3.2, Gx.cls_not a hs (by omega), ?_⟩))
    unfold Gx.wid
    rw [if_neg (by omega), if_pos hl]
  by_cases h4 : a = 9
  · subst h4
    exact .inr (.inr (.inr (.inl ⟨rfl, by decide +kernel, by decide +kernel⟩)))
  have hl : Gx.isLn a = false := by simp [Gx.isLn]; omega
  have hs : Gx.isSc a = true := by simp [Gx.isSc, hl]; omega
  have hw : Gx.wid a = if Gx.cls a = 1 ∨ Gx.cls a = 2 ∨ Gx.cls a = 4 ∨ Gx.cls a = 5 ∨ Gx.cls a = 10 ∨ Gx.cls a = 11 then 0 else if Gx.cls a = 3 then (if a ≤ 159 then 2 else 1) else Gx.vD (Gx.find Gx.wideRows a) 1 := by
    unfold Gx.wid; rw [if_neg (by omega), if_neg (by simp [hl]), if_neg (by simp [hs, h4])]
  have := Gx.wide_two a
  by_cases hc : Gx.cls a = 1 ∨ Gx.cls a = 2 ∨ Gx.cls a = 4 ∨ Gx.cls a = 5 ∨ Gx.cls a = 10 ∨ Gx.cls a = 11
  · exact .inr (.inr (.inr (.inr (.inl ⟨by omega, by omega, by omega, h4, hc, by rw [hw, if_pos hc]⟩))))
  · rw [if_neg hc] at hw
    refine .inr (.inr (.inr (.inr (.inr ⟨by omega, by omega, by omega, h4, hc, ?_⟩))))
    rw [hw]
    split
    · split <;> omega
    · exact this

theorem width_is (a v : Int) (h : Gx.wid a = v) (w : World) : Calls Try.prog 7 #[.int .i64 a] w fun e w' => e = .returned (.int .i64 v) ∧ Below w.heap.size w w' := by
  rw [← h]; exact Width_any a w

set_option maxRecDepth 100000 in
set_option maxHeartbeats 2000000 in
theorem law_columns (v : Value) (zs : List Int) (w : World) (hr : Rd .i64 w v zs) (hz : zs.length ≤ 140737488351232) : Calls Try.prog 4 #[v] w fun e w' => e = .returned (.bool true) ∧ Below w.heap.size w w' := by
  have C1 : Hid (∀ w, Calls Try.prog 7 #[.int .i64 97] w fun e w' => e = .returned (.int .i64 1) ∧ Below w.heap.size w w') := width_is _ _ (by decide +kernel)
  have C2 : Hid (∀ w, Calls Try.prog 7 #[.int .i64 19968] w fun e w' => e = .returned (.int .i64 2) ∧ Below w.heap.size w w') := width_is _ _ (by decide +kernel)
  have C3 : Hid (∀ w, Calls Try.prog 7 #[.int .i64 7] w fun e w' => e = .returned (.int .i64 2) ∧ Below w.heap.size w w') := width_is _ _ (by decide +kernel)
  obtain ⟨ao, cap, rfl, hl, hm, hc⟩ := hr
  have HC : Hid (zs ≠ [] → ∃ b off, ao = some ⟨b, off, none⟩ ∧ b < w.heap.size ∧ ∀ i, i < zs.length → w.cell? ⟨b, off + i, none⟩ = some (.int .i64 (zs[i]?.getD 0))) := hc
  clear hc hm
  go_enter Try.func4, Try.ntmps4
  go_wp2_with fail
  refine (C1.out _).mono ?_
  rintro e w1 ⟨rfl, hb1⟩
  go_wp2_with fail
  refine (C2.out _).mono ?_
  rintro e w2 ⟨rfl, hb2⟩
  go_wp2_with fail
  refine (C3.out _).mono ?_
  rintro e w3 ⟨rfl, hb3⟩
  have HW3 : Hid (Below w.heap.size w w3) := ext_trans hb1 (ext_trans hb2 hb3)
  clear hb1 hb2 hb3 C1 C2 C3
  go_wp2_with fail
  go_loopw [3] (fun i wr => ∃ k : Nat, k ≤ zs.length ∧ i = .int .i64 k ∧ Below w.heap.size w wr) (fun i _ => zs.length - (intOf i).toNat)
  case atStart => exact ⟨0, Nat.zero_le _, rfl, HW3.out⟩
  case round =>
    obtain ⟨k, hk, rfl, hb⟩ := hrel
    by_cases hlt : k < zs.length
    · obtain ⟨b, off, rfl, hbl, hcc⟩ := HC.out (by intro h; subst h; simp at hlt)
      have hcx : wr.cell? ⟨b, off + k, none⟩ = some (.int .i64 (zs[k]?.getD 0)) := (hb.cell (p := ⟨b, off + k, none⟩) hbl).trans (hcc k hlt)
      clear hcc HC
      have HB : Hid (Below w.heap.size w wr) := hb
      clear hb
      generalize zs[k]?.getD 0 = a at *
      have HF := Gx.col_facts a
      have CC : Hid (∀ w, Calls Try.prog 6 #[.int .i64 a] w fun e w' => e = .returned (.int .i64 (Gx.cls a)) ∧ Below w.heap.size w w') := Class_any a
      have CW : Hid (∀ w, Calls Try.prog 7 #[.int .i64 a] w fun e w' => e = .returned (.int .i64 (Gx.wid a)) ∧ Below w.heap.size w w') := Width_any a
      generalize Gx.cls a = c at *
      generalize Gx.wid a = x at *
      rcases HF with ⟨h | h, rfl, rfl⟩ | ⟨h, h', rfl, rfl⟩ | ⟨h, h', rfl, rfl⟩ | ⟨rfl, rfl, rfl⟩ | ⟨h, h', h2 | h2, h9, rfl | rfl | rfl | rfl | rfl | rfl, rfl⟩ | ⟨h, h', h2 | h2, h9, hc, hx, hx'⟩
      all_goals
        first | have b9 : (a == 9) = false := by simp; omega
              | skip
        first | (have c1 : (c == 1) = false := by simp; omega
                 have c2 : (c == 2) = false := by simp; omega
                 have c4 : (c == 4) = false := by simp; omega
                 have c5 : (c == 5) = false := by simp; omega
                 have c10 : (c == 10) = false := by simp; omega
                 have c11 : (c == 11) = false := by simp; omega
                 have x0 : (x == 0) = false := by simp; omega
                 clear hc)
              | skip
        go_wp2_with (first | (go_at_call 6; refine (CC.out _).mono ?_; rintro e w1 ⟨rfl, hb1⟩) | (go_at_call 7; refine (CW.out _).mono ?_; rintro e w2 ⟨rfl, hb2⟩))
        go_roundw
        case rel => exact ⟨k + 1, by omega, by go_num, ext_trans HB.out (ext_trans hb1 hb2)⟩
        case measure => simp [intOf]; omega
    · clear HC
      go_wp2
      go_ret
      exact ⟨rfl, hb⟩
end Go.Proofs.Ytlignhpbmbdoeaa
