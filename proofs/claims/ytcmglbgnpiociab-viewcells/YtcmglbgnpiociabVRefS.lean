/- The document's own Share, Drag, Part. -/
import Derived.Test.YtcmglbgnpiociabVRef
import Derived.Test.YtcmglbgnpiociabVWildP
namespace Go.Proofs.Ytcmglbgnpiociab
open Go.RowKit Ieee
attribute [local go_sem] Vw.mx_go Vw.mn_go

set_option maxRecDepth 100000 in
theorem r_Share_any (a b c : Int) (w : World) : Calls Try.prog 21 #[.int .i64 a, .int .i64 b, .int .i64 c] w fun e w' => e = .returned (.float .f64 (Vw.share (Vw.no a (Vw.ls c)) (Vw.hg b) (Vw.ls c))) ∧ Below w.heap.size w w' := by
  have TK := hidIt (Taken_any b c w)
  obtain ⟨n1, n2⟩ := Vw.ls_le c
  obtain ⟨g1, g2⟩ := Vw.hg_le b
  have HA : Hid (∀ w, Calls Try.prog 34 #[.int .i64 a, .int .i64 0, .int .i64 (Vw.ls c - 1)] w fun e w' => e = .returned (.int .i64 (Vw.no a (Vw.ls c))) ∧ w' = w) := r_no a 0 (Vw.ls c - 1) (by omega)
  obtain ⟨t1, t2⟩ := Vw.no_le a _ n1
  generalize Vw.ls c = n at *
  generalize Vw.hg b = h at *
  generalize Vw.no a n = t at *
  have wn : IntKind.i64.wrap (n - 1) = n - 1 := by rw [IntKind.wrap_i64]; omega
  have HQ : Hid (Vw.share t h n = if Vw.bt h n = 0 then 0 else Fl.shr (min t (Vw.bt h n)).toNat (Vw.bt h n).toNat) := rfl
  have hbt : 0 ≤ Vw.bt h n ∧ Vw.bt h n < n := by unfold Vw.bt; omega
  obtain ⟨b1, b2⟩ := hbt
  generalize Vw.bt h n = q at *
  by_cases hq : q = 0
  · subst hq
    go_enter Try.func21, Try.ntmps21
    go_wp2_with (go_at_call 33; refine TK.out.mono ?_; rintro e w1 ⟨rfl, hb1⟩; have HB1 := hidIt hb1; clear hb1)
    go_ret
    exact ⟨ret_float (by rw [HQ.out]; rfl), ext_alloc HB1.out _⟩
  · have bq : (q == 0) = false := by simp [hq]
    have HQ' : Hid (Vw.share t h n = Fl.shr (min t q).toNat q.toNat) := by unfold Hid; rw [HQ.out, if_neg hq]
    have hop : ∀ ty w, (binOp .quo ty (.float .f64 (floatOfInt .f64 (Vw.mn t q))) (.float .f64 (floatOfInt .f64 q))).run Try.prog w = .ok (.float .f64 (Fl.shr (min t q).toNat q.toNat)) w := by
      intro ty w
      have h := Fl.shr_eq (min t q).toNat q.toNat (by omega) (by omega)
      rw [show (((min t q).toNat : Nat) : Int) = Vw.mn t q by unfold Vw.mn; omega, show ((q.toNat : Nat) : Int) = q by omega] at h
      exact run_float_arith w .quo ty .f64 _ _ _ h
    generalize Fl.shr (min t q).toNat q.toNat = r at *
    clear hq HQ
    go_enter Try.func21, Try.ntmps21
    go_wp2_with (go_at_call 33; refine TK.out.mono ?_; rintro e w1 ⟨rfl, hb1⟩; have HB1 := hidIt hb1; clear hb1)
    obtain ⟨W, hW, k0, k2, hbW⟩ : ∃ W, W = w1.alloc (.cells #[.int .i64 n, .int .i64 h, .int .i64 q] 46) ∧ W.cell? ⟨w1.heap.size, 0, none⟩ = some (.int .i64 n) ∧ W.cell? ⟨w1.heap.size, 2, none⟩ = some (.int .i64 q) ∧ Below w.heap.size w W := ⟨_, rfl, by rw [cell_of_row _ _ _ _ _ _ (P.heap_alloc_new _ _)]; rfl, by rw [cell_of_row _ _ _ _ _ _ (P.heap_alloc_new _ _)]; rfl, ext_alloc HB1.out _⟩
    rw [← hW]
    clear hW HB1
    go_region_held3 (fun w' => w'.cell? ⟨w1.heap.size, 0, none⟩ = some (.int .i64 n) ∧ w'.cell? ⟨w1.heap.size, 2, none⟩ = some (.int .i64 q)) (go_keep) (first | (go_at_call 34; refine (HA.out _).mono ?_; clear HA; rintro e w2 ⟨rfl, rfl⟩))
    all_goals
      go_wp2_with fail
      go_ret
      exact ⟨ret_float HQ'.out.symm, hbW.drew⟩

/-- The three ways of a share. -/
theorem Fl.ways (x : Nat) (hx : x < 18446744073709551616) : ((FloatKind.f64.format.order x 0 == some .gt) = false ∧ Vw.tk x = 0) ∨
    ((FloatKind.f64.format.order x 0 == some .gt) = true ∧ (FloatKind.f64.format.order x 4607182418800017408 == some .gt || FloatKind.f64.format.order x 4607182418800017408 == some .eq) = true ∧ Vw.tk x = 4607182418800017408) ∨
    ((FloatKind.f64.format.order x 0 == some .gt) = true ∧ (FloatKind.f64.format.order x 4607182418800017408 == some .gt || FloatKind.f64.format.order x 4607182418800017408 == some .eq) = false ∧ Vw.tk x = x) := by
  by_cases h0 : double.order x 0 = some .gt
  · have g0 : (FloatKind.f64.format.order x 0 == some .gt) = true := by rw [beq_iff_eq]; exact h0
    right
    cases h1 : Fl.geB x 4607182418800017408 with
    | true => exact .inl ⟨g0, h1, Vw.tk_ge x hx h1⟩
    | false =>
      refine .inr ⟨g0, h1, ?_⟩
      rcases Fl.tri x with ⟨_, h2, _⟩ | ⟨_, o, p, h2, h3⟩
      · rw [h2] at h0; simp at h0
      · unfold Vw.tk
        rw [if_pos h0]
        have : p = .lt := by
          unfold Fl.geB at h1
          rw [h3] at h1
          cases p with
          | lt => rfl
          | eq => exact absurd h1 (by decide)
          | gt => exact absurd h1 (by decide)
        rw [h3, this, if_pos rfl]
  · refine .inl ⟨?_, Vw.tk_not x h0⟩
    rw [beq_eq_false_iff_ne]
    exact h0

set_option maxRecDepth 100000 in
theorem r_Drag_any (x : Nat) (b c : Int) (w : World) (hx : x < 18446744073709551616) : Calls Try.prog 23 #[.float .f64 x, .int .i64 b, .int .i64 c] w fun e w' => e = .returned (.int .i64 (Vw.drag x (Vw.bt (Vw.hg b) (Vw.ls c)).toNat : Nat)) ∧ Below w.heap.size w w' := by
  have TK := hidIt (Taken_any b c w)
  obtain ⟨n1, n2⟩ := Vw.ls_le c
  obtain ⟨g1, g2⟩ := Vw.hg_le b
  obtain ⟨B, hB, hB'⟩ := Vw.bt_nat (Vw.hg b) (Vw.ls c) g1 n2
  rw [hB] at TK
  rw [hB, Int.toNat_natCast]
  generalize Vw.ls c = n at *
  generalize Vw.hg b = h at *
  clear hB
  rcases Fl.ways x hx with ⟨k0, kt⟩ | ⟨k0, k1, kt⟩ | ⟨k0, k1, kt⟩
  · have HQ : Hid (Vw.drag x B = 0) := Vw.drag_zero x B hB' kt
    clear kt
    go_enter Try.func23, Try.ntmps23
    go_wp2_with (go_at_call 33; refine TK.out.mono ?_; rintro e w1 ⟨rfl, hb1⟩; have HB1 := hidIt hb1; clear hb1)
    go_ret
    exact ⟨ret_int (by rw [HQ.out]; rfl), ext_alloc HB1.out _⟩
  · have HQ : Hid (Vw.drag x B = B) := Vw.drag_one x B hB' kt
    clear kt
    go_enter Try.func23, Try.ntmps23
    go_wp2_with (go_at_call 33; refine TK.out.mono ?_; rintro e w1 ⟨rfl, hb1⟩; have HB1 := hidIt hb1; clear hb1)
    go_ret
    exact ⟨ret_int (by rw [HQ.out]), ext_alloc HB1.out _⟩
  · have ht := Vw.tk_le x hx
    have hp := (Vw.pr_ok _ B ht hB').1
    obtain ⟨hs1, _, hs2, hs3⟩ := Vw.sum_ok _ B ht hB'
    have HQ : Hid (Vw.drag x B = Vw.fl (Vw.sm (Vw.pr (Vw.tk x) B))) := rfl
    rw [← Fl.foi] at hp
    rw [kt] at hp hs1 hs2 hs3 HQ
    have o1 : ∀ ty w, (binOp .mul ty (.float .f64 x) (.float .f64 (floatOfInt .f64 (B : Int)))).run Try.prog w = .ok (.float .f64 (Vw.pr x B)) w := fun ty w => run_float_arith w .mul ty .f64 _ _ _ hp
    have o2 : ∀ ty w, (binOp .add ty (.float .f64 (Vw.pr x B)) (.float .f64 4602678819172646912)).run Try.prog w = .ok (.float .f64 (Vw.sm (Vw.pr x B))) w := fun ty w => run_float_arith w .add ty .f64 _ _ _ hs1
    generalize Vw.drag x B = R at *
    generalize Vw.sm (Vw.pr x B) = r at *
    generalize Vw.pr x B = q at *
    generalize Vw.fl r = f at *
    have o3 : ∀ w, (convert 26 3 (.float .f64 r)).run Try.prog w = .ok (.int .i64 f) w := fun w => run_convert_float_int w 26 3 .f64 .i64 r f (by kernel_rfl) Try.underlying3 hs3
    have hfB : Vw.mn (f : Int) (B : Int) = (f : Int) := by unfold Vw.mn; omega
    clear hp hs1 hs3 kt ht
    go_enter Try.func23, Try.ntmps23
    go_wp2_with (go_at_call 33; refine TK.out.mono ?_; rintro e w1 ⟨rfl, hb1⟩; have HB1 := hidIt hb1; clear hb1)
    go_ret
    exact ⟨ret_int (by rw [HQ.out]), ext_alloc HB1.out _⟩

set_option maxRecDepth 100000 in
theorem r_Part_any (b : Int) (x : Nat) (w : World) (hx : x < 18446744073709551616) : Calls Try.prog 26 #[.int .i64 b, .float .f64 x] w fun e w' => e = .returned (.int .i64 (Vw.part x (Vw.hg b).toNat : Nat)) ∧ Below w.heap.size w w' := by
  have TK := hidIt (Taken_any b 1 w)
  obtain ⟨g1, g2⟩ := Vw.hg_le b
  generalize Vw.bt (Vw.hg b) (Vw.ls 1) = q at *
  generalize Vw.ls 1 = n at *
  obtain ⟨h, hh⟩ : ∃ h : Nat, Vw.hg b = (h : Int) := ⟨(Vw.hg b).toNat, by omega⟩
  rw [hh] at TK
  rw [hh, Int.toNat_natCast]
  have hl : h < 1099511627777 := by omega
  rcases Fl.ways x hx with ⟨k0, kt⟩ | ⟨k0, k1, kt⟩ | ⟨k0, k1, kt⟩
  · have HQ : Hid (Vw.part x h = 1) := Vw.part_zero x h hl kt
    clear kt hh
    go_enter Try.func26, Try.ntmps26
    go_wp2_with (go_at_call 33; refine TK.out.mono ?_; rintro e w1 ⟨rfl, hb1⟩; have HB1 := hidIt hb1; clear hb1)
    go_ret
    exact ⟨ret_int (by rw [HQ.out]; rfl), ext_alloc HB1.out _⟩
  · have HQ : Hid (Vw.part x h = h) := Vw.part_one x h hl (by omega) kt
    clear kt hh
    go_enter Try.func26, Try.ntmps26
    go_wp2_with (go_at_call 33; refine TK.out.mono ?_; rintro e w1 ⟨rfl, hb1⟩; have HB1 := hidIt hb1; clear hb1)
    go_ret
    exact ⟨ret_int (by rw [HQ.out]), ext_alloc HB1.out _⟩
  · have ht := Vw.tk_le x hx
    have hp := (Vw.pr_ok _ h ht hl).1
    have hi := Vw.part_in _ h ht hl
    obtain ⟨uB, lB⟩ := Fl.U_n h (by omega)
    have hpi := (Vw.pr_ok _ h ht hl).2
    have hs3 := toInt_P (Vw.pr (Vw.tk x) h) (by omega) (by omega)
    rw [Fl.mul_comm' _ _ (by omega) lB] at hp
    have HQ : Hid (Vw.part x h = max (Vw.fl (Vw.pr (Vw.tk x) h)) 1) := rfl
    rw [← Fl.foi] at hp
    rw [kt] at hp hs3 HQ hi
    have o1 : ∀ ty w, (binOp .mul ty (.float .f64 (floatOfInt .f64 (h : Int))) (.float .f64 x)).run Try.prog w = .ok (.float .f64 (Vw.pr x h)) w := fun ty w => run_float_arith w .mul ty .f64 _ _ _ hp
    clear hpi uB lB
    generalize Vw.part x h = R at *
    generalize Vw.pr x h = r at *
    generalize Vw.fl r = f at *
    have o3 : ∀ w, (convert 26 3 (.float .f64 r)).run Try.prog w = .ok (.int .i64 f) w := fun w => run_convert_float_int w 26 3 .f64 .i64 r f (by kernel_rfl) Try.underlying3 hs3
    have HM : Hid (Vw.mx (f : Int) 1 = (R : Int)) := by unfold Hid Vw.mx; rw [HQ.out]; omega
    clear hp hs3 hh kt ht
    go_enter Try.func26, Try.ntmps26
    go_wp2_with (go_at_call 33; refine TK.out.mono ?_; rintro e w1 ⟨rfl, hb1⟩; have HB1 := hidIt hb1; clear hb1)
    go_ret
    exact ⟨ret_int HM.out, ext_alloc HB1.out _⟩
end Go.Proofs.Ytcmglbgnpiociab
