/- The document's Upper, Lower, Turn: the walks. -/
import Derived.Test.YtipnifenahhkoaaDoorRefUp
namespace Go.Proofs.YtipnifenahhkoaaDoor
open Go.RowKit

theorem Gx.one_false (a : Int) (h : (Gx.one a false).2 = true) : a = 181 ∨ a = 305 ∨ a = 383 ∨ a = 962 := by
  unfold Gx.one at h
  cases hf : Gx.oneWay.find? fun e => e.1 == a && e.2.2 == false with
  | none => rw [hf] at h; cases h
  | some e =>
    have h1 := List.find?_some hf
    have h2 : ∀ e ∈ Gx.oneWay, e.2.2 = false → e.1 = 181 ∨ e.1 = 305 ∨ e.1 = 383 ∨ e.1 = 962 := by decide
    simp at h1
    have := h2 e (List.mem_of_find?_eq_some hf) h1.2
    omega
theorem Gx.one_true (a : Int) (h : (Gx.one a true).2 = true) : a = 304 ∨ a = 7838 ∨ a = 8486 ∨ a = 8490 ∨ a = 8491 := by
  unfold Gx.one at h
  cases hf : Gx.oneWay.find? fun e => e.1 == a && e.2.2 == true with
  | none => rw [hf] at h; cases h
  | some e =>
    have h1 := List.find?_some hf
    have h2 : ∀ e ∈ Gx.oneWay, e.2.2 = true → e.1 = 304 ∨ e.1 = 7838 ∨ e.1 = 8486 ∨ e.1 = 8490 ∨ e.1 = 8491 := by decide
    simp at h1
    have := h2 e (List.mem_of_find?_eq_some hf) h1.2
    omega

theorem Gx.ds_ne (v : Nat) (h : v < 14) : Gx.ds v ≠ 0 := by
  have : ∀ v, v < 14 → Gx.ds v ≠ 0 := by decide
  exact this v h

/-- What the document's Upper meets. -/
theorem Gx.up_facts (a : Int) (h1 : a ≠ 181) (h2 : a ≠ 305) (h3 : a ≠ 383) (h4 : a ≠ 962) :
    (Gx.dB Gx.smallRows a = 0 ∧ Gx.pr Gx.smallRows a = -1 ∧ Gx.up a = a) ∨
    (Gx.dB Gx.smallRows a ≠ 0 ∧ -128 ≤ Gx.dB Gx.smallRows a ∧ Gx.dB Gx.smallRows a ≤ 128 ∧ 0 ≤ a ∧ a ≤ 1048576 ∧ Gx.up a = a - Gx.dB Gx.smallRows a) ∨
    (Gx.dB Gx.smallRows a = 0 ∧ 0 ≤ Gx.pr Gx.smallRows a ∧ Gx.pr Gx.smallRows a ≤ a ∧ a ≤ 1048576 ∧ Gx.up a = if (a - Gx.pr Gx.smallRows a) % 2 = 1 then a - 1 else a) := by
  have ho : (Gx.one a false).2 = false := by
    cases h : (Gx.one a false).2 with
    | false => rfl
    | true => have := Gx.one_false a h; omega
  have hu : Gx.up a = a - Gx.din Gx.smallRows a 1 := by unfold Gx.up; rw [ho]; rfl
  rw [hu]
  unfold Gx.dB Gx.pr Gx.din
  cases hf : Gx.find Gx.smallRows a with
  | none => exact .inl ⟨rfl, rfl, by simp⟩
  | some r =>
    have hp := Gx.all_find (p := fun r => decide (r.2.2 < 14) && decide (r.2.1 < 1048576)) (by decide +kernel) hf
    simp at hp
    obtain ⟨_, l, u⟩ := Gx.find_mem hf
    simp only
    by_cases h0 : r.2.2 = 0
    · refine .inr (.inr ⟨by rw [if_pos h0], by rw [if_pos h0]; omega, by rw [if_pos h0]; omega, by omega, ?_⟩)
      simp only [if_pos h0]
      by_cases hm : (a - r.1) % 2 = 1
      · have hn : ¬ (r.2.2 = 0 ∧ (a - r.1) % 2 ≠ 1) := by omega
        simp only [if_neg hn, if_pos hm]
        rw [h0]
        rfl
      · have hn : r.2.2 = 0 ∧ (a - r.1) % 2 ≠ 1 := ⟨h0, hm⟩
        simp only [if_pos hn, if_neg hm]
        omega
    · have hd := Gx.ds_ne r.2.2 hp.1
      have hb := Gx.ds_bd r.2.2
      refine .inr (.inl ⟨by rw [if_neg h0]; exact hd, by rw [if_neg h0]; omega, by rw [if_neg h0]; omega, by omega, by omega, ?_⟩)
      rw [if_neg (by omega), if_neg h0]

theorem Gx.lw_facts (a : Int) (h1 : a ≠ 304) (h2 : a ≠ 7838) (h3 : a ≠ 8486) (h4 : a ≠ 8490) (h5 : a ≠ 8491) :
    (Gx.dB Gx.greatRows a = 0 ∧ Gx.pr Gx.greatRows a = -1 ∧ Gx.lw a = a) ∨
    (Gx.dB Gx.greatRows a ≠ 0 ∧ -128 ≤ Gx.dB Gx.greatRows a ∧ Gx.dB Gx.greatRows a ≤ 128 ∧ 0 ≤ a ∧ a ≤ 1048576 ∧ Gx.lw a = a + Gx.dB Gx.greatRows a) ∨
    (Gx.dB Gx.greatRows a = 0 ∧ 0 ≤ Gx.pr Gx.greatRows a ∧ Gx.pr Gx.greatRows a ≤ a ∧ a ≤ 1048576 ∧ Gx.lw a = if (a - Gx.pr Gx.greatRows a) % 2 = 0 then a + 1 else a) := by
  have ho : (Gx.one a true).2 = false := by
    cases h : (Gx.one a true).2 with
    | false => rfl
    | true => have := Gx.one_true a h; omega
  have hu : Gx.lw a = a + Gx.din Gx.greatRows a 0 := by unfold Gx.lw; rw [ho]; rfl
  rw [hu]
  unfold Gx.dB Gx.pr Gx.din
  cases hf : Gx.find Gx.greatRows a with
  | none => exact .inl ⟨rfl, rfl, by simp⟩
  | some r =>
    have hp := Gx.all_find (p := fun r => decide (r.2.2 < 14) && decide (r.2.1 < 1048576)) (by decide +kernel) hf
    simp at hp
    obtain ⟨_, l, u⟩ := Gx.find_mem hf
    simp only
    by_cases h0 : r.2.2 = 0
    · refine .inr (.inr ⟨by rw [if_pos h0], by rw [if_pos h0]; omega, by rw [if_pos h0]; omega, by omega, ?_⟩)
      simp only [if_pos h0]
      by_cases hm : (a - r.1) % 2 = 0
      · have hn : ¬ (r.2.2 = 0 ∧ (a - r.1) % 2 ≠ 0) := by omega
        simp only [if_neg hn, if_pos hm]
        rw [h0]
        rfl
      · have hn : r.2.2 = 0 ∧ (a - r.1) % 2 ≠ 0 := ⟨h0, hm⟩
        simp only [if_pos hn, if_neg hm]
        omega
    · have hd := Gx.ds_ne r.2.2 hp.1
      have hb := Gx.ds_bd r.2.2
      refine .inr (.inl ⟨by rw [if_neg h0]; exact hd, by rw [if_neg h0]; omega, by rw [if_neg h0]; omega, by omega, by omega, ?_⟩)
      rw [if_neg (by omega), if_neg h0]

set_option maxRecDepth 100000 in
set_option maxHeartbeats 1000000 in
theorem rUpper_any (a : Int) (w : World) : Calls Tryd.prog 32 #[.int .i64 a] w fun e w' => e = .returned (.int .i64 (Gx.up a)) ∧ w' = w := by
  by_cases hs : a = 181 ∨ a = 305 ∨ a = 383 ∨ a = 962
  · rcases hs with rfl | rfl | rfl | rfl
    all_goals
      go_enter Tryd.func32, Tryd.ntmps32
      go_wp2
      go_ret
      exact ⟨ret_int (by decide +kernel), rfl⟩
  have b1 : (a == 181) = false := by simp; omega
  have b2 : (a == 305) = false := by simp; omega
  have b3 : (a == 383) = false := by simp; omega
  have b4 : (a == 962) = false := by simp; omega
  have HF := Gx.up_facts a (by omega) (by omega) (by omega) (by omega)
  have CD : Hid (∀ w, Calls Tryd.prog 42 #[.int .i64 a] w fun e w' => e = .returned (.int .i64 (Gx.dB Gx.smallRows a)) ∧ w' = w) := rDistanceBack_any a
  have CP : Hid (∀ w, Calls Tryd.prog 43 #[.int .i64 a] w fun e w' => e = .returned (.int .i64 (Gx.pr Gx.smallRows a)) ∧ w' = w) := rPairS_any a
  generalize Gx.dB Gx.smallRows a = d at *
  generalize Gx.pr Gx.smallRows a = p at *
  clear hs
  rcases HF with ⟨rfl, rfl, hu⟩ | ⟨hd, d1, d2, a1, a2, hu⟩ | ⟨rfl, p1, p2, a1, hu⟩
  · have HU : Hid _ := hu
    clear hu
    go_enter Tryd.func32, Tryd.ntmps32
    go_wp2_with (first | (go_at_call 42; refine (CD.out _).mono ?_; rintro e w' ⟨rfl, rfl⟩) | (go_at_call 43; refine (CP.out _).mono ?_; rintro e w' ⟨rfl, rfl⟩))
    go_ret
    exact ⟨ret_int HU.out.symm, rfl⟩
  · have bd : (d != 0) = true := by simp [hd]
    have HU : Hid _ := hu
    clear hu hd
    go_enter Tryd.func32, Tryd.ntmps32
    go_wp2_with (first | (go_at_call 42; refine (CD.out _).mono ?_; rintro e w' ⟨rfl, rfl⟩) | (go_at_call 43; refine (CP.out _).mono ?_; rintro e w' ⟨rfl, rfl⟩))
    go_ret
    exact ⟨ret_int HU.out.symm, rfl⟩
  · have q1 : 0 ≤ a - p := by omega
    by_cases hm : (a - p) % 2 = 1
    · have bm : ((a - p) % 2 == 1) = true := by simp [hm]
      have HU : Hid (Gx.up a = a - 1) := by unfold Hid; rw [hu, if_pos hm]
      clear hu hm
      go_enter Tryd.func32, Tryd.ntmps32
      go_wp2_with (first | (go_at_call 42; refine (CD.out _).mono ?_; rintro e w' ⟨rfl, rfl⟩) | (go_at_call 43; refine (CP.out _).mono ?_; rintro e w' ⟨rfl, rfl⟩))
      go_ret
      exact ⟨ret_int HU.out.symm, rfl⟩
    · have bm : ((a - p) % 2 == 1) = false := by simp; omega
      have HU : Hid (Gx.up a = a) := by unfold Hid; rw [hu, if_neg hm]
      clear hu hm
      go_enter Tryd.func32, Tryd.ntmps32
      go_wp2_with (first | (go_at_call 42; refine (CD.out _).mono ?_; rintro e w' ⟨rfl, rfl⟩) | (go_at_call 43; refine (CP.out _).mono ?_; rintro e w' ⟨rfl, rfl⟩))
      go_ret
      exact ⟨ret_int HU.out.symm, rfl⟩

set_option maxRecDepth 100000 in
set_option maxHeartbeats 1000000 in
theorem rLower_any (a : Int) (w : World) : Calls Tryd.prog 33 #[.int .i64 a] w fun e w' => e = .returned (.int .i64 (Gx.lw a)) ∧ w' = w := by
  by_cases hs : a = 304 ∨ a = 7838 ∨ a = 8486 ∨ a = 8490 ∨ a = 8491
  · rcases hs with rfl | rfl | rfl | rfl | rfl
    all_goals
      go_enter Tryd.func33, Tryd.ntmps33
      go_wp2
      go_ret
      exact ⟨ret_int (by decide +kernel), rfl⟩
  have b1 : (a == 304) = false := by simp; omega
  have b2 : (a == 7838) = false := by simp; omega
  have b3 : (a == 8486) = false := by simp; omega
  have b4 : (a == 8490) = false := by simp; omega
  have b5 : (a == 8491) = false := by simp; omega
  have HF := Gx.lw_facts a (by omega) (by omega) (by omega) (by omega) (by omega)
  have CD : Hid (∀ w, Calls Tryd.prog 44 #[.int .i64 a] w fun e w' => e = .returned (.int .i64 (Gx.dB Gx.greatRows a)) ∧ w' = w) := rDistance_any a
  have CP : Hid (∀ w, Calls Tryd.prog 43 #[.int .i64 a] w fun e w' => e = .returned (.int .i64 (Gx.pr Gx.greatRows a)) ∧ w' = w) := rPairG_any a
  generalize Gx.dB Gx.greatRows a = d at *
  generalize Gx.pr Gx.greatRows a = p at *
  clear hs
  rcases HF with ⟨rfl, rfl, hu⟩ | ⟨hd, d1, d2, a1, a2, hu⟩ | ⟨rfl, p1, p2, a1, hu⟩
  · have HU : Hid _ := hu
    clear hu
    go_enter Tryd.func33, Tryd.ntmps33
    go_wp2_with (first | (go_at_call 44; refine (CD.out _).mono ?_; rintro e w' ⟨rfl, rfl⟩) | (go_at_call 43; refine (CP.out _).mono ?_; rintro e w' ⟨rfl, rfl⟩))
    go_ret
    exact ⟨ret_int HU.out.symm, rfl⟩
  · have bd : (d != 0) = true := by simp [hd]
    have HU : Hid _ := hu
    clear hu hd
    go_enter Tryd.func33, Tryd.ntmps33
    go_wp2_with (first | (go_at_call 44; refine (CD.out _).mono ?_; rintro e w' ⟨rfl, rfl⟩) | (go_at_call 43; refine (CP.out _).mono ?_; rintro e w' ⟨rfl, rfl⟩))
    go_ret
    exact ⟨ret_int HU.out.symm, rfl⟩
  · have q1 : 0 ≤ a - p := by omega
    by_cases hm : (a - p) % 2 = 0
    · have bm : ((a - p) % 2 == 0) = true := by simp [hm]
      have HU : Hid (Gx.lw a = a + 1) := by unfold Hid; rw [hu, if_pos hm]
      clear hu hm
      go_enter Tryd.func33, Tryd.ntmps33
      go_wp2_with (first | (go_at_call 44; refine (CD.out _).mono ?_; rintro e w' ⟨rfl, rfl⟩) | (go_at_call 43; refine (CP.out _).mono ?_; rintro e w' ⟨rfl, rfl⟩))
      go_ret
      exact ⟨ret_int HU.out.symm, rfl⟩
    · have bm : ((a - p) % 2 == 0) = false := by simp; omega
      have HU : Hid (Gx.lw a = a) := by unfold Hid; rw [hu, if_neg hm]
      clear hu hm
      go_enter Tryd.func33, Tryd.ntmps33
      go_wp2_with (first | (go_at_call 44; refine (CD.out _).mono ?_; rintro e w' ⟨rfl, rfl⟩) | (go_at_call 43; refine (CP.out _).mono ?_; rintro e w' ⟨rfl, rfl⟩))
      go_ret
      exact ⟨ret_int HU.out.symm, rfl⟩
end Go.Proofs.YtipnifenahhkoaaDoor
