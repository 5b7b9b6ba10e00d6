/- The document's own numbers: Taken, Follow, Scroll, Percent. -/
import Derived.Test.YtcmglbgnpiociabVAble
namespace Go.Proofs.Ytcmglbgnpiociab
open Go.RowKit

/-- The greater and the lesser, out of the walks' sight. -/
def Vw.mx (a b : Int) : Int := max a b
def Vw.mn (a b : Int) : Int := min a b
theorem Vw.mx_go (a b : Int) [inst : Decidable (a < b)] : (if a < b then b else a) = Vw.mx a b := by unfold Vw.mx; split <;> omega
theorem Vw.mn_go (a b : Int) [inst : Decidable (b < a)] : (if b < a then b else a) = Vw.mn a b := by unfold Vw.mn; split <;> omega
attribute [local go_sem] Vw.mx_go Vw.mn_go

theorem r_within_any (n lo hi : Int) (w : World) : Calls Try.prog 34 #[.int .i64 n, .int .i64 lo, .int .i64 hi] w fun e w' => e = .returned (.int .i64 (Vw.mx lo (Vw.mn n hi))) ∧ w' = w := by
  go_enter Try.func34, Try.ntmps34
  go_wp2
  go_ret
  exact ⟨ret_int rfl, rfl⟩
theorem r_no (n lo hi : Int) (h : lo ≤ hi) (w : World) : Calls Try.prog 34 #[.int .i64 n, .int .i64 lo, .int .i64 hi] w fun e w' => e = .returned (.int .i64 (Vw.wi n lo hi)) ∧ w' = w := by
  have e : Vw.mx lo (Vw.mn n hi) = Vw.wi n lo hi := by unfold Vw.mx Vw.mn Vw.wi; omega
  rw [← e]
  exact r_within_any n lo hi w

set_option maxRecDepth 100000 in
theorem Taken_any (b c : Int) (w : World) : Calls Try.prog 33 #[.int .i64 b, .int .i64 c] w fun e w' => e = .returned (.agg #[.int .i64 (Vw.ls c), .int .i64 (Vw.hg b), .int .i64 (Vw.bt (Vw.hg b) (Vw.ls c))]) ∧ Below w.heap.size w w' := by
  have HL : Hid (∀ w, Calls Try.prog 34 #[.int .i64 c, .int .i64 1, .int .i64 1099511627776] w fun e w' => e = .returned (.int .i64 (Vw.ls c)) ∧ w' = w) := r_no c 1 1099511627776 (by decide)
  have HH : Hid (∀ w, Calls Try.prog 34 #[.int .i64 b, .int .i64 1, .int .i64 200] w fun e w' => e = .returned (.int .i64 (Vw.hg b)) ∧ w' = w) := r_no b 1 200 (by decide)
  obtain ⟨n1, n2⟩ := Vw.ls_le c
  obtain ⟨g1, g2⟩ := Vw.hg_le b
  generalize Vw.ls c = n at *
  generalize Vw.hg b = h at *
  have wn : IntKind.i64.wrap (n - h) = n - h := by rw [IntKind.wrap_i64]; omega
  have eq : Vw.mx (n - h) 0 = Vw.bt h n := rfl
  generalize Vw.bt h n = q at *
  go_enter Try.func33, Try.ntmps33
  go_wp2_with (go_at_call 34; first | (refine (HL.out _).mono ?_; clear HL; rintro e w1 ⟨rfl, rfl⟩) | (refine (HH.out _).mono ?_; clear HH; rintro e w1 ⟨rfl, rfl⟩))
  refine bodyPost_ret (v := .agg #[.int .i64 n, .int .i64 h, .int .i64 q]) ?_ rfl ⟨rfl, ?_⟩
  · rw [results_cell_one rfl]
    go_simp
  · exact ext_alloc (ext_alloc (Below.refl _ _) _) _

set_option maxRecDepth 100000 in
theorem r_Follow_any (a b c d : Int) (w : World) : Calls Try.prog 18 #[.int .i64 a, .int .i64 b, .int .i64 c, .int .i64 d] w fun e w' => e = .returned (.int .i64 (Vw.follow (Vw.no a (Vw.ls c)) (Vw.hg b) (Vw.no d (Vw.ls c)))) ∧ Below w.heap.size w w' := by
  have TK := hidIt (Taken_any b c w)
  obtain ⟨n1, n2⟩ := Vw.ls_le c
  obtain ⟨g1, g2⟩ := Vw.hg_le b
  have HD : Hid (∀ w, Calls Try.prog 34 #[.int .i64 d, .int .i64 0, .int .i64 (Vw.ls c - 1)] w fun e w' => e = .returned (.int .i64 (Vw.no d (Vw.ls c))) ∧ w' = w) := r_no d 0 (Vw.ls c - 1) (by omega)
  have HA : Hid (∀ w, Calls Try.prog 34 #[.int .i64 a, .int .i64 0, .int .i64 (Vw.ls c - 1)] w fun e w' => e = .returned (.int .i64 (Vw.no a (Vw.ls c))) ∧ w' = w) := r_no a 0 (Vw.ls c - 1) (by omega)
  obtain ⟨t1, t2⟩ := Vw.no_le a _ n1
  obtain ⟨l1, l2⟩ := Vw.no_le d _ n1
  generalize Vw.ls c = n at *
  generalize Vw.hg b = h at *
  generalize Vw.no d n = l at *
  generalize Vw.no a n = t at *
  generalize Vw.bt h n = q at *
  have wn : IntKind.i64.wrap (n - 1) = n - 1 := by rw [IntKind.wrap_i64]; omega
  have w1 : IntKind.i64.wrap (l - h) = l - h := by rw [IntKind.wrap_i64]; omega
  have w2 : IntKind.i64.wrap (l - h + 1) = l - h + 1 := by rw [IntKind.wrap_i64]; omega
  have HF : Hid (∀ w, Calls Try.prog 34 #[.int .i64 t, .int .i64 (Vw.mx (l - h + 1) 0), .int .i64 l] w fun e w' => e = .returned (.int .i64 (Vw.follow t h l)) ∧ w' = w) := fun w => by
    have e : Vw.wi t (Vw.mx (l - h + 1) 0) l = Vw.follow t h l := by unfold Vw.wi Vw.mx Vw.follow; split <;> (try split) <;> omega
    rw [← e]
    exact r_no t _ l (by unfold Vw.mx; omega) w
  generalize Vw.follow t h l = F at *
  go_enter Try.func18, Try.ntmps18
  go_wp2_with (first | (go_at_call 33; refine TK.out.mono ?_; rintro e w1 ⟨rfl, hb1⟩; have HB1 := hidIt hb1; clear hb1) | (go_at_call 34; refine (HD.out _).mono ?_; clear HD; rintro e w2 ⟨rfl, rfl⟩))
  obtain ⟨W, hW, k0, k1, hbW⟩ : ∃ W, W = w1.alloc (.cells #[.int .i64 n, .int .i64 h, .int .i64 q] 46) ∧ W.cell? ⟨w1.heap.size, 0, none⟩ = some (.int .i64 n) ∧ W.cell? ⟨w1.heap.size, 1, none⟩ = some (.int .i64 h) ∧ Below w.heap.size w W := ⟨_, rfl, by rw [cell_of_row _ _ _ _ _ _ (P.heap_alloc_new _ _)]; rfl, by rw [cell_of_row _ _ _ _ _ _ (P.heap_alloc_new _ _)]; rfl, ext_alloc HB1.out _⟩
  rw [← hW]
  clear hW HB1
  go_region_held3 (fun w' => w'.cell? ⟨w1.heap.size, 0, none⟩ = some (.int .i64 n) ∧ w'.cell? ⟨w1.heap.size, 1, none⟩ = some (.int .i64 h)) (go_keep) (first | (go_at_call 34; refine (HA.out _).mono ?_; clear HA; rintro e w2 ⟨rfl, rfl⟩) | (go_at_call 34; refine (HF.out _).mono ?_; clear HF; rintro e w2 ⟨rfl, rfl⟩))
  all_goals
    go_wp2_with fail
    go_ret
    exact ⟨ret_int rfl, hbW.drew⟩

set_option maxRecDepth 100000 in
theorem r_Scroll_any (a b c d : Int) (w : World) : Calls Try.prog 20 #[.int .i64 a, .int .i64 b, .int .i64 c, .int .i64 d] w fun e w' => e = .returned (.int .i64 (Vw.scroll (Vw.no a (Vw.ls d)) b (Vw.hg c) (Vw.ls d))) ∧ Below w.heap.size w w' := by
  have TK := hidIt (Taken_any c d w)
  obtain ⟨n1, n2⟩ := Vw.ls_le d
  obtain ⟨g1, g2⟩ := Vw.hg_le c
  have HA : Hid (∀ w, Calls Try.prog 34 #[.int .i64 a, .int .i64 0, .int .i64 (Vw.ls d - 1)] w fun e w' => e = .returned (.int .i64 (Vw.no a (Vw.ls d))) ∧ w' = w) := r_no a 0 (Vw.ls d - 1) (by omega)
  have HB := hidIt (r_no b (-1099511627776) 1099511627776 (by decide))
  obtain ⟨t1, t2⟩ := Vw.no_le a _ n1
  generalize Vw.ls d = n at *
  generalize Vw.hg c = h at *
  generalize Vw.no a n = t at *
  have HQ : Hid (Vw.scroll t b h n = if b < 0 then max (t + b) 0 else t + min b (max (Vw.bt h n - t) 0)) := rfl
  have hbt : 0 ≤ Vw.bt h n ∧ Vw.bt h n < n := by unfold Vw.bt; omega
  obtain ⟨b1, b2⟩ := hbt
  generalize Vw.bt h n = q at *
  have wn : IntKind.i64.wrap (n - 1) = n - 1 := by rw [IntKind.wrap_i64]; omega
  obtain ⟨s, hs⟩ : ∃ s, s = Vw.wi b (-1099511627776) 1099511627776 := ⟨_, rfl⟩
  rw [← hs] at HB
  unfold Vw.wi at hs
  have ws : IntKind.i64.wrap (t + s) = t + s := by rw [IntKind.wrap_i64]; omega
  by_cases hb : b < 0
  · have hs0 : s < 0 := by omega
    have HQ' : Hid (Vw.mx (t + s) 0 = Vw.scroll t b h n) := by unfold Hid; rw [HQ.out, if_pos hb]; unfold Vw.mx; omega
    clear HQ hs
    go_enter Try.func20, Try.ntmps20
    go_wp2_with (first | (go_at_call 33; refine TK.out.mono ?_; rintro e w1 ⟨rfl, hb1⟩; have HB1 := hidIt hb1; clear hb1) | (go_at_call 34; refine (HA.out _).mono ?_; clear HA; rintro e w2 ⟨rfl, rfl⟩) | (go_at_call 34; refine (HB.out _).mono ?_; clear HB; rintro e w2 ⟨rfl, rfl⟩))
    go_ret
    exact ⟨ret_int HQ'.out, ext_alloc HB1.out _⟩
  · have hs0 : ¬ s < 0 := by omega
    have HQ' : Hid (Vw.mx (Vw.mn (t + s) q) t = Vw.scroll t b h n) := by unfold Hid; rw [HQ.out, if_neg hb]; unfold Vw.mx Vw.mn; omega
    clear HQ hs
    go_enter Try.func20, Try.ntmps20
    go_wp2_with (first | (go_at_call 33; refine TK.out.mono ?_; rintro e w1 ⟨rfl, hb1⟩; have HB1 := hidIt hb1; clear hb1) | (go_at_call 34; refine (HA.out _).mono ?_; clear HA; rintro e w2 ⟨rfl, rfl⟩) | (go_at_call 34; refine (HB.out _).mono ?_; clear HB; rintro e w2 ⟨rfl, rfl⟩))
    go_ret
    exact ⟨ret_int HQ'.out, ext_alloc HB1.out _⟩

set_option maxRecDepth 100000 in
theorem r_Percent_any (a b : Int) (w : World) : Calls Try.prog 24 #[.int .i64 a, .int .i64 b] w fun e w' => e = .returned (.int .i64 (Vw.percent (Vw.no a (Vw.ls b)) (Vw.ls b))) ∧ Below w.heap.size w w' := by
  have TK := hidIt (Taken_any 1 b w)
  obtain ⟨n1, n2⟩ := Vw.ls_le b
  have HA : Hid (∀ w, Calls Try.prog 34 #[.int .i64 a, .int .i64 0, .int .i64 (Vw.ls b - 1)] w fun e w' => e = .returned (.int .i64 (Vw.no a (Vw.ls b))) ∧ w' = w) := r_no a 0 (Vw.ls b - 1) (by omega)
  obtain ⟨t1, t2⟩ := Vw.no_le a _ n1
  generalize Vw.bt (Vw.hg 1) (Vw.ls b) = q at *
  generalize Vw.hg 1 = h at *
  generalize Vw.ls b = n at *
  generalize Vw.no a n = t at *
  have HQ : Hid (Vw.percent t n = (100 * (t + 1)).tdiv n) := rfl
  have wn : IntKind.i64.wrap (n - 1) = n - 1 := by rw [IntKind.wrap_i64]; omega
  have w1 : IntKind.i64.wrap (t + 1) = t + 1 := by rw [IntKind.wrap_i64]; omega
  have w2 : IntKind.i64.wrap (100 * (t + 1)) = 100 * (t + 1) := by rw [IntKind.wrap_i64]; omega
  have w3 : IntKind.i64.wrap ((100 * (t + 1)).tdiv n) = (100 * (t + 1)).tdiv n := by
    have h1 : (100 * (t + 1)).tdiv n = (100 * (t + 1)) / n := Int.tdiv_eq_ediv_of_nonneg (by omega)
    have h2 : (100 * (t + 1)) / n ≤ 100 * (t + 1) := Int.ediv_le_self _ (by omega)
    have h3 : 0 ≤ (100 * (t + 1)) / n := Int.ediv_nonneg (by omega) (by omega)
    rw [IntKind.wrap_i64, h1]; omega
  have nz : (n == 0) = false := by rw [beq_eq_false_iff_ne]; omega
  have nz' : ¬ n = 0 := by omega
  go_enter Try.func24, Try.ntmps24
  go_wp2_with (go_at_call 33; refine TK.out.mono ?_; rintro e w1 ⟨rfl, hb1⟩; have HB1 := hidIt hb1; clear hb1)
  obtain ⟨W, hW, k0, hbW⟩ : ∃ W, W = w1.alloc (.cells #[.int .i64 n, .int .i64 h, .int .i64 q] 46) ∧ W.cell? ⟨w1.heap.size, 0, none⟩ = some (.int .i64 n) ∧ Below w.heap.size w W := ⟨_, rfl, by rw [cell_of_row _ _ _ _ _ _ (P.heap_alloc_new _ _)]; rfl, ext_alloc HB1.out _⟩
  rw [← hW]
  clear hW HB1
  go_region_held3 (fun w' => w'.cell? ⟨w1.heap.size, 0, none⟩ = some (.int .i64 n)) (go_keep) (first | (go_at_call 34; refine (HA.out _).mono ?_; clear HA; rintro e w2 ⟨rfl, rfl⟩))
  all_goals
    go_wp2_with fail
    go_ret
    exact ⟨ret_int HQ.out.symm, hbW.drew⟩
end Go.Proofs.Ytcmglbgnpiociab
