/- The law's own calls of shares: one ask. -/
import Derived.Test.YtcmglbgnpiociabVWhole
import Derived.Test.YtcmglbgnpiociabVRefS
namespace Go.Proofs.Ytcmglbgnpiociab
open Go.RowKit Ieee

theorem Vw.share_ok (t h n : Int) (hn : n ≤ 1099511627776) (hh : 1 ≤ h) : (FloatKind.f64.format.order (Vw.share t h n) (Vw.share t h n) == some .eq) = true := by
  rw [beq_iff_eq]
  refine Fl.self_eq _ ?_
  unfold Vw.share
  split
  · exact .inl ⟨false, 0, -1074, by decide⟩
  · exact Fl.shr_ok _ _ (by unfold Vw.bt at *; omega) (by unfold Vw.bt; omega)

set_option maxRecDepth 100000 in
set_option maxHeartbeats 2000000 in
theorem whole3 (q : Ak) (w : World) (hk : q.k = 3) : Calls Try.prog 10 #[.agg q.cs] w fun e w' => e = .returned (.bool true) ∧ Below w.heap.size w w' := by
  obtain ⟨k, a, b, c, d, x, v, zs⟩ := q
  obtain rfl : k = 3 := hk
  have F1 := hidIt (Share_any a b c)
  have F2 := hidIt (r_Share_any a b c)
  have HF := Vw.share_ok (Vw.no a (Vw.ls c)) (Vw.hg b) (Vw.ls c) (Vw.ls_le c).2 (Vw.hg_le b).1
  generalize Vw.share _ _ _ = F at *
  have HX : Hid (∀ w', Below (w.alloc (.cells #[.int .i64 3, .int .i64 a, .int .i64 b, .int .i64 c, .int .i64 d, .float .f64 x, v] 29)).heap.size (w.alloc (.cells #[.int .i64 3, .int .i64 a, .int .i64 b, .int .i64 c, .int .i64 d, .float .f64 x, v] 29)) w' → w'.cell? ⟨w.heap.size, 1, none⟩ = some (.int .i64 a) ∧ w'.cell? ⟨w.heap.size, 2, none⟩ = some (.int .i64 b) ∧ w'.cell? ⟨w.heap.size, 3, none⟩ = some (.int .i64 c)) := fun w' hb => by
    have e := (hb.block w.heap.size (by simp)).trans (P.heap_alloc_new _ _)
    refine ⟨?_, ?_, ?_⟩ <;> (rw [cell_of_row w' _ _ _ _ _ e]; rfl)
  unfold Ak.cs
  go_enter Try.func10, Try.ntmps10
  go_wp2_with fail
  obtain ⟨W, hW, hbW⟩ : ∃ W, W = w.alloc (.cells #[.int .i64 3, .int .i64 a, .int .i64 b, .int .i64 c, .int .i64 d, .float .f64 x, v] 29) ∧ Below w.heap.size w W := ⟨_, rfl, ext_alloc (Below.refl _ _) _⟩
  rw [← hW] at HX
  rw [← hW]
  clear hW
  obtain ⟨c1, c2, c3⟩ := HX.out W (Below.refl _ _)
  go_region_held3 (fun w' => w'.cell? ⟨w.heap.size, 1, none⟩ = some (.int .i64 a) ∧ w'.cell? ⟨w.heap.size, 2, none⟩ = some (.int .i64 b) ∧ w'.cell? ⟨w.heap.size, 3, none⟩ = some (.int .i64 c)) (go_keep) (first | (go_at_call 16; refine (F1.out _).mono ?_; clear F1; rintro e w2 ⟨rfl, rfl⟩) | (go_at_call 21; refine (F2.out _).mono ?_; clear F2; rintro e w3 ⟨rfl, hb3⟩; have HB3 : Hid (Below W.heap.size W w3) := ext_trans (by repeat (first | exact Below.refl _ _ | apply Below.drew)) hb3; obtain ⟨c1, c2, c3⟩ := HX.out w3 HB3.out; clear hb3))
  all_goals
    go_wp2_with fail
    go_ret
    exact ⟨ret_bool (by simp), ext_trans hbW HB3.out⟩

set_option maxRecDepth 100000 in
set_option maxHeartbeats 2000000 in
theorem whole4 (q : Ak) (w : World) (hk : q.k = 4) (hx : q.x < 18446744073709551616) : Calls Try.prog 10 #[.agg q.cs] w fun e w' => e = .returned (.bool true) ∧ Below w.heap.size w w' := by
  obtain ⟨k, a, b, c, d, x, v, zs⟩ := q
  obtain rfl : k = 4 := hk
  have F1 := hidIt (fun w => Drag_any x b c w hx)
  have F2 := hidIt (fun w => r_Drag_any x b c w hx)
  generalize Vw.drag _ _ = F at *
  have HX : Hid (∀ w', Below (w.alloc (.cells #[.int .i64 4, .int .i64 a, .int .i64 b, .int .i64 c, .int .i64 d, .float .f64 x, v] 29)).heap.size (w.alloc (.cells #[.int .i64 4, .int .i64 a, .int .i64 b, .int .i64 c, .int .i64 d, .float .f64 x, v] 29)) w' → w'.cell? ⟨w.heap.size, 5, none⟩ = some (.float .f64 x) ∧ w'.cell? ⟨w.heap.size, 2, none⟩ = some (.int .i64 b) ∧ w'.cell? ⟨w.heap.size, 3, none⟩ = some (.int .i64 c)) := fun w' hb => by
    have e := (hb.block w.heap.size (by simp)).trans (P.heap_alloc_new _ _)
    refine ⟨?_, ?_, ?_⟩ <;> (rw [cell_of_row w' _ _ _ _ _ e]; rfl)
  unfold Ak.cs
  go_enter Try.func10, Try.ntmps10
  go_wp2_with fail
  obtain ⟨W, hW, hbW⟩ : ∃ W, W = w.alloc (.cells #[.int .i64 4, .int .i64 a, .int .i64 b, .int .i64 c, .int .i64 d, .float .f64 x, v] 29) ∧ Below w.heap.size w W := ⟨_, rfl, ext_alloc (Below.refl _ _) _⟩
  rw [← hW] at HX
  rw [← hW]
  clear hW
  obtain ⟨c5, c2, c3⟩ := HX.out W (Below.refl _ _)
  go_region_held3 (fun w' => w'.cell? ⟨w.heap.size, 5, none⟩ = some (.float .f64 x) ∧ w'.cell? ⟨w.heap.size, 2, none⟩ = some (.int .i64 b) ∧ w'.cell? ⟨w.heap.size, 3, none⟩ = some (.int .i64 c)) (go_keep) (first | (go_at_call 22; refine (F1.out _).mono ?_; clear F1; rintro e w2 ⟨rfl, rfl⟩) | (go_at_call 23; refine (F2.out _).mono ?_; clear F2; rintro e w3 ⟨rfl, hb3⟩; have HB3 : Hid (Below W.heap.size W w3) := ext_trans (by repeat (first | exact Below.refl _ _ | apply Below.drew)) hb3; obtain ⟨c5, c2, c3⟩ := HX.out w3 HB3.out; clear hb3))
  all_goals
    go_wp2_with fail
    go_ret
    exact ⟨ret_bool (by simp), ext_trans hbW HB3.out⟩

set_option maxRecDepth 100000 in
set_option maxHeartbeats 2000000 in
theorem whole6 (q : Ak) (w : World) (hk : q.k = 6) (hx : q.x < 18446744073709551616) : Calls Try.prog 10 #[.agg q.cs] w fun e w' => e = .returned (.bool true) ∧ Below w.heap.size w w' := by
  obtain ⟨k, a, b, c, d, x, v, zs⟩ := q
  obtain rfl : k = 6 := hk
  have F1 := hidIt (fun w => Part_any a x w hx)
  have F2 := hidIt (fun w => r_Part_any a x w hx)
  generalize Vw.part _ _ = F at *
  have HX : Hid (∀ w', Below (w.alloc (.cells #[.int .i64 6, .int .i64 a, .int .i64 b, .int .i64 c, .int .i64 d, .float .f64 x, v] 29)).heap.size (w.alloc (.cells #[.int .i64 6, .int .i64 a, .int .i64 b, .int .i64 c, .int .i64 d, .float .f64 x, v] 29)) w' → w'.cell? ⟨w.heap.size, 1, none⟩ = some (.int .i64 a) ∧ w'.cell? ⟨w.heap.size, 5, none⟩ = some (.float .f64 x)) := fun w' hb => by
    have e := (hb.block w.heap.size (by simp)).trans (P.heap_alloc_new _ _)
    refine ⟨?_, ?_⟩ <;> (rw [cell_of_row w' _ _ _ _ _ e]; rfl)
  unfold Ak.cs
  go_enter Try.func10, Try.ntmps10
  go_wp2_with fail
  obtain ⟨W, hW, hbW⟩ : ∃ W, W = w.alloc (.cells #[.int .i64 6, .int .i64 a, .int .i64 b, .int .i64 c, .int .i64 d, .float .f64 x, v] 29) ∧ Below w.heap.size w W := ⟨_, rfl, ext_alloc (Below.refl _ _) _⟩
  rw [← hW] at HX
  rw [← hW]
  clear hW
  obtain ⟨c1, c5⟩ := HX.out W (Below.refl _ _)
  go_region_held3 (fun w' => w'.cell? ⟨w.heap.size, 1, none⟩ = some (.int .i64 a) ∧ w'.cell? ⟨w.heap.size, 5, none⟩ = some (.float .f64 x)) (go_keep) (first | (go_at_call 25; refine (F1.out _).mono ?_; clear F1; rintro e w2 ⟨rfl, rfl⟩) | (go_at_call 26; refine (F2.out _).mono ?_; clear F2; rintro e w3 ⟨rfl, hb3⟩; have HB3 : Hid (Below W.heap.size W w3) := ext_trans (by repeat (first | exact Below.refl _ _ | apply Below.drew)) hb3; obtain ⟨c1, c5⟩ := HX.out w3 HB3.out; clear hb3))
  all_goals
    go_wp2_with fail
    go_ret
    exact ⟨ret_bool (by simp), ext_trans hbW HB3.out⟩

end Go.Proofs.Ytcmglbgnpiociab
