/- The law's own calls of whole numbers: one ask, all asks. -/
import Derived.Test.YtcmglbgnpiociabVRef
import Derived.Test.YtcmglbgnpiociabVApp
namespace Go.Proofs.Ytcmglbgnpiociab
open Go.RowKit

/-- An ask. -/
structure Ak where
  k : Int
  a : Int
  b : Int
  c : Int
  d : Int
  x : Nat
  v : Value
  zs : List Int
def Ak.cs (q : Ak) : Array Value := #[.int .i64 q.k, .int .i64 q.a, .int .i64 q.b, .int .i64 q.c, .int .i64 q.d, .float .f64 q.x, q.v]
/-- What an ask's numbers are. -/
structure Ak.Ok (w : World) (q : Ak) : Prop where
  hb : -9223372036854775808 ≤ q.b
  rd : Rd .i64 w q.v q.zs
  ln : q.zs.length * 8 ≤ 140737488351232
  sl : Sl q.v
theorem Ak.Ok.ext {w w' : World} {q : Ak} (h : q.Ok w) (hb : Below w.heap.size w w') : q.Ok w' := ⟨h.hb, h.rd.ext hb, h.ln, h.sl⟩

theorem cells_ak {w : World} {g : Nat} {q : Ak} {T : TypeId} (h : w.heap[g]? = some (.cells q.cs T (0, 0))) : w.cell? ⟨g, 0, none⟩ = some (.int .i64 q.k) ∧ w.cell? ⟨g, 1, none⟩ = some (.int .i64 q.a) ∧ w.cell? ⟨g, 2, none⟩ = some (.int .i64 q.b) ∧ w.cell? ⟨g, 3, none⟩ = some (.int .i64 q.c) ∧ w.cell? ⟨g, 4, none⟩ = some (.int .i64 q.d) ∧ w.cell? ⟨g, 5, none⟩ = some (.float .f64 q.x) ∧ w.cell? ⟨g, 6, none⟩ = some q.v := by
  refine ⟨?_, ?_, ?_, ?_, ?_, ?_, ?_⟩ <;> (rw [cell_of_row w _ _ _ _ _ h]; rfl)

set_option maxRecDepth 100000 in
set_option maxHeartbeats 2000000 in
theorem whole1 (q : Ak) (w : World) (hk : q.k = 1) : Calls Try.prog 10 #[.agg q.cs] w fun e w' => e = .returned (.bool true) ∧ Below w.heap.size w w' := by
  obtain ⟨k, a, b, c, d, x, v, zs⟩ := q
  obtain rfl : k = 1 := hk
  have F1 := hidIt (Follow_any a b c d)
  have F2 := hidIt (r_Follow_any a b c d)
  generalize Vw.follow _ _ _ = F at *
  have HX : Hid (∀ w', Below (w.alloc (.cells #[.int .i64 1, .int .i64 a, .int .i64 b, .int .i64 c, .int .i64 d, .float .f64 x, v] 29)).heap.size (w.alloc (.cells #[.int .i64 1, .int .i64 a, .int .i64 b, .int .i64 c, .int .i64 d, .float .f64 x, v] 29)) w' → w'.cell? ⟨w.heap.size, 1, none⟩ = some (.int .i64 a) ∧ w'.cell? ⟨w.heap.size, 2, none⟩ = some (.int .i64 b) ∧ w'.cell? ⟨w.heap.size, 3, none⟩ = some (.int .i64 c) ∧ w'.cell? ⟨w.heap.size, 4, none⟩ = some (.int .i64 d)) := fun w' hb => by
    have e := (hb.block w.heap.size (by simp)).trans (P.heap_alloc_new _ _)
    refine ⟨?_, ?_, ?_, ?_⟩ <;> (rw [cell_of_row w' _ _ _ _ _ e]; rfl)
  unfold Ak.cs
  go_enter Try.func10, Try.ntmps10
  go_wp2_with fail
  obtain ⟨W, hW, hbW⟩ : ∃ W, W = w.alloc (.cells #[.int .i64 1, .int .i64 a, .int .i64 b, .int .i64 c, .int .i64 d, .float .f64 x, v] 29) ∧ Below w.heap.size w W := ⟨_, rfl, ext_alloc (Below.refl _ _) _⟩
  rw [← hW] at HX
  rw [← hW]
  clear hW
  obtain ⟨c1, c2, c3, c4⟩ := HX.out W (Below.refl _ _)
  go_region_held3 (fun w' => w'.cell? ⟨w.heap.size, 1, none⟩ = some (.int .i64 a) ∧ w'.cell? ⟨w.heap.size, 2, none⟩ = some (.int .i64 b) ∧ w'.cell? ⟨w.heap.size, 3, none⟩ = some (.int .i64 c) ∧ w'.cell? ⟨w.heap.size, 4, none⟩ = some (.int .i64 d)) (go_keep) (first | (go_at_call 15; refine (F1.out _).mono ?_; clear F1; rintro e w2 ⟨rfl, rfl⟩) | (go_at_call 18; refine (F2.out _).mono ?_; clear F2; rintro e w3 ⟨rfl, hb3⟩; have HB3 : Hid (Below W.heap.size W w3) := ext_trans (by repeat (first | exact Below.refl _ _ | apply Below.drew)) hb3; obtain ⟨c1, c2, c3, c4⟩ := HX.out w3 HB3.out; clear hb3))
  all_goals
    go_wp2_with fail
    go_ret
    exact ⟨ret_bool (by simp), ext_trans hbW HB3.out⟩

set_option maxRecDepth 100000 in
set_option maxHeartbeats 2000000 in
theorem whole2 (q : Ak) (w : World) (hk : q.k = 2) (hb : -9223372036854775808 ≤ q.b) : Calls Try.prog 10 #[.agg q.cs] w fun e w' => e = .returned (.bool true) ∧ Below w.heap.size w w' := by
  obtain ⟨k, a, b, c, d, x, v, zs⟩ := q
  obtain rfl : k = 2 := hk
  have F1 := hidIt (Scroll_any a b c d hb)
  have F2 := hidIt (r_Scroll_any a b c d)
  generalize Vw.scroll _ _ _ _ = F at *
  have HX : Hid (∀ w', Below (w.alloc (.cells #[.int .i64 2, .int .i64 a, .int .i64 b, .int .i64 c, .int .i64 d, .float .f64 x, v] 29)).heap.size (w.alloc (.cells #[.int .i64 2, .int .i64 a, .int .i64 b, .int .i64 c, .int .i64 d, .float .f64 x, v] 29)) w' → w'.cell? ⟨w.heap.size, 1, none⟩ = some (.int .i64 a) ∧ w'.cell? ⟨w.heap.size, 2, none⟩ = some (.int .i64 b) ∧ w'.cell? ⟨w.heap.size, 3, none⟩ = some (.int .i64 c) ∧ w'.cell? ⟨w.heap.size, 4, none⟩ = some (.int .i64 d)) := fun w' hb => by
    have e := (hb.block w.heap.size (by simp)).trans (P.heap_alloc_new _ _)
    refine ⟨?_, ?_, ?_, ?_⟩ <;> (rw [cell_of_row w' _ _ _ _ _ e]; rfl)
  unfold Ak.cs
  go_enter Try.func10, Try.ntmps10
  go_wp2_with fail
  obtain ⟨W, hW, hbW⟩ : ∃ W, W = w.alloc (.cells #[.int .i64 2, .int .i64 a, .int .i64 b, .int .i64 c, .int .i64 d, .float .f64 x, v] 29) ∧ Below w.heap.size w W := ⟨_, rfl, ext_alloc (Below.refl _ _) _⟩
  rw [← hW] at HX
  rw [← hW]
  clear hW
  obtain ⟨c1, c2, c3, c4⟩ := HX.out W (Below.refl _ _)
  go_region_held3 (fun w' => w'.cell? ⟨w.heap.size, 1, none⟩ = some (.int .i64 a) ∧ w'.cell? ⟨w.heap.size, 2, none⟩ = some (.int .i64 b) ∧ w'.cell? ⟨w.heap.size, 3, none⟩ = some (.int .i64 c) ∧ w'.cell? ⟨w.heap.size, 4, none⟩ = some (.int .i64 d)) (go_keep) (first | (go_at_call 19; refine (F1.out _).mono ?_; clear F1; rintro e w2 ⟨rfl, rfl⟩) | (go_at_call 20; refine (F2.out _).mono ?_; clear F2; rintro e w3 ⟨rfl, hb3⟩; have HB3 : Hid (Below W.heap.size W w3) := ext_trans (by repeat (first | exact Below.refl _ _ | apply Below.drew)) hb3; obtain ⟨c1, c2, c3, c4⟩ := HX.out w3 HB3.out; clear hb3))
  all_goals
    go_wp2_with fail
    go_ret
    exact ⟨ret_bool (by simp), ext_trans hbW HB3.out⟩

set_option maxRecDepth 100000 in
set_option maxHeartbeats 2000000 in
theorem whole5 (q : Ak) (w : World) (hk : q.k = 5) : Calls Try.prog 10 #[.agg q.cs] w fun e w' => e = .returned (.bool true) ∧ Below w.heap.size w w' := by
  obtain ⟨k, a, b, c, d, x, v, zs⟩ := q
  obtain rfl : k = 5 := hk
  have F1 := hidIt (Percent_any a b)
  have F2 := hidIt (r_Percent_any a b)
  generalize Vw.percent _ _ = F at *
  have HX : Hid (∀ w', Below (w.alloc (.cells #[.int .i64 5, .int .i64 a, .int .i64 b, .int .i64 c, .int .i64 d, .float .f64 x, v] 29)).heap.size (w.alloc (.cells #[.int .i64 5, .int .i64 a, .int .i64 b, .int .i64 c, .int .i64 d, .float .f64 x, v] 29)) w' → w'.cell? ⟨w.heap.size, 1, none⟩ = some (.int .i64 a) ∧ w'.cell? ⟨w.heap.size, 2, none⟩ = some (.int .i64 b)) := fun w' hb => by
    have e := (hb.block w.heap.size (by simp)).trans (P.heap_alloc_new _ _)
    refine ⟨?_, ?_⟩ <;> (rw [cell_of_row w' _ _ _ _ _ e]; rfl)
  unfold Ak.cs
  go_enter Try.func10, Try.ntmps10
  go_wp2_with fail
  obtain ⟨W, hW, hbW⟩ : ∃ W, W = w.alloc (.cells #[.int .i64 5, .int .i64 a, .int .i64 b, .int .i64 c, .int .i64 d, .float .f64 x, v] 29) ∧ Below w.heap.size w W := ⟨_, rfl, ext_alloc (Below.refl _ _) _⟩
  rw [← hW] at HX
  rw [← hW]
  clear hW
  obtain ⟨c1, c2⟩ := HX.out W (Below.refl _ _)
  go_region_held3 (fun w' => w'.cell? ⟨w.heap.size, 1, none⟩ = some (.int .i64 a) ∧ w'.cell? ⟨w.heap.size, 2, none⟩ = some (.int .i64 b)) (go_keep) (first | (go_at_call 17; refine (F1.out _).mono ?_; clear F1; rintro e w2 ⟨rfl, rfl⟩) | (go_at_call 24; refine (F2.out _).mono ?_; clear F2; rintro e w3 ⟨rfl, hb3⟩; have HB3 : Hid (Below W.heap.size W w3) := ext_trans (by repeat (first | exact Below.refl _ _ | apply Below.drew)) hb3; obtain ⟨c1, c2⟩ := HX.out w3 HB3.out; clear hb3))
  all_goals
    go_wp2_with fail
    go_ret
    exact ⟨ret_bool (by simp), ext_trans hbW HB3.out⟩

set_option maxRecDepth 100000 in
theorem whole0 (q : Ak) (w : World) (hk : q.k < 1 ∨ 6 < q.k) : Calls Try.prog 10 #[.agg q.cs] w fun e w' => e = .returned (.bool true) ∧ Below w.heap.size w w' := by
  obtain ⟨k, a, b, c, d, x, v, zs⟩ := q
  have hk : k < 1 ∨ 6 < k := hk
  have e1 : (k == 1) = false := by rw [beq_eq_false_iff_ne]; omega
  have e2 : (k == 2) = false := by rw [beq_eq_false_iff_ne]; omega
  have e3 : (k == 3) = false := by rw [beq_eq_false_iff_ne]; omega
  have e4 : (k == 4) = false := by rw [beq_eq_false_iff_ne]; omega
  have e5 : (k == 5) = false := by rw [beq_eq_false_iff_ne]; omega
  have e6 : (k == 6) = false := by rw [beq_eq_false_iff_ne]; omega
  clear hk
  unfold Ak.cs
  go_enter Try.func10, Try.ntmps10
  go_wp2_with fail
  go_ret
  exact ⟨rfl, ext_alloc (Below.refl _ _) _⟩

set_option maxRecDepth 100000 in
theorem asked_whole (q : Ak) (w : World) (hk : q.k < 7 ∨ 8 < q.k) (h : ∀ w, Calls Try.prog 10 #[.agg q.cs] w fun e w' => e = .returned (.bool true) ∧ Below w.heap.size w w') : Calls Try.prog 8 #[.agg q.cs] w fun e w' => e = .returned (.bool true) ∧ Below w.heap.size w w' := by
  obtain ⟨k, a, b, c, d, x, v, zs⟩ := q
  have hk : k < 7 ∨ 8 < k := hk
  unfold Ak.cs at *
  have HW := hidIt h
  clear h
  rcases hk with hk | hk
  · go_enter Try.func8, Try.ntmps8
    go_wp2_with (go_at_call 10; refine (HW.out _).mono ?_; rintro e w1 ⟨rfl, hb1⟩)
    go_ret
    exact ⟨rfl, ext_trans (ext_alloc (Below.refl _ _) _) hb1⟩
  · have hk' : ¬ k < 7 := by omega
    go_enter Try.func8, Try.ntmps8
    go_wp2_with (go_at_call 10; refine (HW.out _).mono ?_; rintro e w1 ⟨rfl, hb1⟩)
    go_ret
    exact ⟨rfl, ext_trans (ext_alloc (Below.refl _ _) _) hb1⟩
end Go.Proofs.Ytcmglbgnpiociab
