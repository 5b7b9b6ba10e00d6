/- One call of the script: asked, played. -/
import Derived.Test.YtahjjpleceppaaaWalkExact
namespace Go.Proofs.Ytahjjpleceppaaa
open Go.RowKit

set_option maxRecDepth 100000 in
set_option maxHeartbeats 2000000 in
theorem asked_2 (at' : Int) (ao aq : Option Addr) (cp cq : Nat) (zs : List Int) (w : World) (h0 : Rd .i64 w (.slice ao zs.length cp) zs) (h1 : Rd .i64 w (.slice aq zs.length cq) zs) (_hz : zs.length * 8 + 8 ≤ 140737488355328) :
    Calls Try.prog 55 #[.agg #[.int .i64 2, .int .i64 at', .slice ao zs.length cp], .slice aq zs.length cq] w fun e w' => e = .returned (.bool true) ∧ Below w.heap.size w w' := by
  obtain ⟨w0, hw0⟩ : ∃ w0, w0 = w.alloc (.cells #[.int .i64 2, .int .i64 at', .slice ao zs.length cp] 46) := ⟨_, rfl⟩
  have hb0 : Below w.heap.size w w0 := by rw [hw0]; exact ext_alloc (Below.refl _ _) _
  have HB0 : Hid (Below w.heap.size w w0) := hb0
  have hl : w.heap.size < w0.heap.size := by rw [hw0]; simp
  have hc1 : w0.cell? ⟨w.heap.size, 1, none⟩ = some (.int .i64 at') := by rw [hw0]; simp
  have hc2 : w0.cell? ⟨w.heap.size, 2, none⟩ = some (.slice ao zs.length cp) := by rw [hw0]; simp
  have HZC : True := trivial
  have K : Hid (∀ w', Below w0.heap.size w0 w' → Calls Try.prog 23 #[.slice aq zs.length cq, .int .i64 at'] w' fun e w'' => e = .returned (.bool (Cl.isBi zs at')) ∧ Below w0.heap.size w0 w'') := fun w' hw => (IsBreak_any _ zs at' w' ((h1.ext hb0).ext hw)).mono fun _ _ ⟨e1, e2⟩ => ⟨e1, ext_trans hw e2⟩
  have R : Hid (∀ w', Below w0.heap.size w0 w' → Calls Try.prog 32 #[.slice ao zs.length cp, .int .i64 at'] w' fun e w'' => e = .returned (.bool (Cl.isBi zs at')) ∧ Below w0.heap.size w0 w'') := fun w' hw => (rIsBreak_any _ zs at' w' ((h0.ext hb0).ext hw)).mono fun _ _ ⟨e1, e2⟩ => ⟨e1, e2 ▸ hw⟩
  have HC : Hid (∀ w', Below w0.heap.size w0 w' → w'.cell? ⟨w.heap.size, 1, none⟩ = some (.int .i64 at') ∧ w'.cell? ⟨w.heap.size, 2, none⟩ = some (.slice ao zs.length cp)) := fun w' hw =>
    ⟨(hw.cell (p := ⟨w.heap.size, 1, none⟩) hl).trans hc1, (hw.cell (p := ⟨w.heap.size, 2, none⟩) hl).trans hc2⟩
  clear h0 h1 HZC hb0
  generalize Cl.isBi zs at' = x at *
  go_enter Try.func55, Try.ntmps55
  go_wp2_with fail
  rw [← hw0]
  clear hw0
  go_region_held3 (fun w' => w'.cell? ⟨w.heap.size, 1, none⟩ = some (.int .i64 at') ∧ w'.cell? ⟨w.heap.size, 2, none⟩ = some (.slice ao zs.length cp)) (go_keep) (first | (go_at_call 23; refine (K.out _ (by repeat (first | exact Below.refl _ _ | apply Below.drew))).mono ?_; rintro e w1 ⟨rfl, hb1⟩; have HB1 : Hid (Below w0.heap.size w0 w1) := hb1; have hc1 := (HC.out w1 HB1.out).1; have hc2 := (HC.out w1 HB1.out).2; clear hb1) | (go_at_call 32; refine (R.out _ HB1.out).mono ?_; rintro e w2 ⟨rfl, hb2⟩; have HB2 : Hid (Below w0.heap.size w0 w2) := hb2; have hc1 := (HC.out w2 HB2.out).1; have hc2 := (HC.out w2 HB2.out).2; clear hb2))
  go_wp2_with fail
  go_ret
  exact ⟨ret_bool (by simp), ext_trans HB0.out HB2.out⟩

set_option maxRecDepth 100000 in
set_option maxHeartbeats 2000000 in
theorem asked_3 (at' : Int) (ao aq : Option Addr) (cp cq : Nat) (zs : List Int) (w : World) (h0 : Rd .i64 w (.slice ao zs.length cp) zs) (h1 : Rd .i64 w (.slice aq zs.length cq) zs) (_hz : zs.length * 8 + 8 ≤ 140737488355328) :
    Calls Try.prog 55 #[.agg #[.int .i64 3, .int .i64 at', .slice ao zs.length cp], .slice aq zs.length cq] w fun e w' => e = .returned (.bool true) ∧ Below w.heap.size w w' := by
  obtain ⟨w0, hw0⟩ : ∃ w0, w0 = w.alloc (.cells #[.int .i64 3, .int .i64 at', .slice ao zs.length cp] 46) := ⟨_, rfl⟩
  have hb0 : Below w.heap.size w w0 := by rw [hw0]; exact ext_alloc (Below.refl _ _) _
  have HB0 : Hid (Below w.heap.size w w0) := hb0
  have hl : w.heap.size < w0.heap.size := by rw [hw0]; simp
  have hc1 : w0.cell? ⟨w.heap.size, 1, none⟩ = some (.int .i64 at') := by rw [hw0]; simp
  have hc2 : w0.cell? ⟨w.heap.size, 2, none⟩ = some (.slice ao zs.length cp) := by rw [hw0]; simp
  have HZC : True := trivial
  have K : Hid (∀ w', Below w0.heap.size w0 w' → Calls Try.prog 29 #[.slice aq zs.length cq, .int .i64 at'] w' fun e w'' => e = .returned (.int .i64 (Cl.next zs at')) ∧ Below w0.heap.size w0 w'') := fun w' hw => (Next_any _ zs at' w' ((h1.ext hb0).ext hw)).mono fun _ _ ⟨e1, e2⟩ => ⟨e1, ext_trans hw e2⟩
  have R : Hid (∀ w', Below w0.heap.size w0 w' → Calls Try.prog 37 #[.slice ao zs.length cp, .int .i64 at'] w' fun e w'' => e = .returned (.int .i64 (Cl.next zs at')) ∧ Below w0.heap.size w0 w'') := fun w' hw => (rNext_any _ zs at' w' ((h0.ext hb0).ext hw)).mono fun _ _ ⟨e1, e2⟩ => ⟨e1, e2 ▸ hw⟩
  have HC : Hid (∀ w', Below w0.heap.size w0 w' → w'.cell? ⟨w.heap.size, 1, none⟩ = some (.int .i64 at') ∧ w'.cell? ⟨w.heap.size, 2, none⟩ = some (.slice ao zs.length cp)) := fun w' hw =>
    ⟨(hw.cell (p := ⟨w.heap.size, 1, none⟩) hl).trans hc1, (hw.cell (p := ⟨w.heap.size, 2, none⟩) hl).trans hc2⟩
  clear h0 h1 HZC hb0
  generalize Cl.next zs at' = x at *
  go_enter Try.func55, Try.ntmps55
  go_wp2_with fail
  rw [← hw0]
  clear hw0
  go_region_held3 (fun w' => w'.cell? ⟨w.heap.size, 1, none⟩ = some (.int .i64 at') ∧ w'.cell? ⟨w.heap.size, 2, none⟩ = some (.slice ao zs.length cp)) (go_keep) (first | (go_at_call 29; refine (K.out _ (by repeat (first | exact Below.refl _ _ | apply Below.drew))).mono ?_; rintro e w1 ⟨rfl, hb1⟩; have HB1 : Hid (Below w0.heap.size w0 w1) := hb1; have hc1 := (HC.out w1 HB1.out).1; have hc2 := (HC.out w1 HB1.out).2; clear hb1) | (go_at_call 37; refine (R.out _ HB1.out).mono ?_; rintro e w2 ⟨rfl, hb2⟩; have HB2 : Hid (Below w0.heap.size w0 w2) := hb2; have hc1 := (HC.out w2 HB2.out).1; have hc2 := (HC.out w2 HB2.out).2; clear hb2))
  go_wp2_with fail
  go_ret
  exact ⟨ret_bool (by simp), ext_trans HB0.out HB2.out⟩

set_option maxRecDepth 100000 in
set_option maxHeartbeats 2000000 in
theorem asked_4 (at' : Int) (ao aq : Option Addr) (cp cq : Nat) (zs : List Int) (w : World) (h0 : Rd .i64 w (.slice ao zs.length cp) zs) (h1 : Rd .i64 w (.slice aq zs.length cq) zs) (_hz : zs.length * 8 + 8 ≤ 140737488355328) :
    Calls Try.prog 55 #[.agg #[.int .i64 4, .int .i64 at', .slice ao zs.length cp], .slice aq zs.length cq] w fun e w' => e = .returned (.bool true) ∧ Below w.heap.size w w' := by
  obtain ⟨w0, hw0⟩ : ∃ w0, w0 = w.alloc (.cells #[.int .i64 4, .int .i64 at', .slice ao zs.length cp] 46) := ⟨_, rfl⟩
  have hb0 : Below w.heap.size w w0 := by rw [hw0]; exact ext_alloc (Below.refl _ _) _
  have HB0 : Hid (Below w.heap.size w w0) := hb0
  have hl : w.heap.size < w0.heap.size := by rw [hw0]; simp
  have hc1 : w0.cell? ⟨w.heap.size, 1, none⟩ = some (.int .i64 at') := by rw [hw0]; simp
  have hc2 : w0.cell? ⟨w.heap.size, 2, none⟩ = some (.slice ao zs.length cp) := by rw [hw0]; simp
  have HZC : True := trivial
  have K : Hid (∀ w', Below w0.heap.size w0 w' → Calls Try.prog 30 #[.slice aq zs.length cq, .int .i64 at'] w' fun e w'' => e = .returned (.int .i64 (Cl.prev zs at')) ∧ Below w0.heap.size w0 w'') := fun w' hw => (Prev_any _ zs at' w' ((h1.ext hb0).ext hw)).mono fun _ _ ⟨e1, e2⟩ => ⟨e1, ext_trans hw e2⟩
  have R : Hid (∀ w', Below w0.heap.size w0 w' → Calls Try.prog 38 #[.slice ao zs.length cp, .int .i64 at'] w' fun e w'' => e = .returned (.int .i64 (Cl.prev zs at')) ∧ Below w0.heap.size w0 w'') := fun w' hw => (rPrev_any _ zs at' w' ((h0.ext hb0).ext hw)).mono fun _ _ ⟨e1, e2⟩ => ⟨e1, e2 ▸ hw⟩
  have HC : Hid (∀ w', Below w0.heap.size w0 w' → w'.cell? ⟨w.heap.size, 1, none⟩ = some (.int .i64 at') ∧ w'.cell? ⟨w.heap.size, 2, none⟩ = some (.slice ao zs.length cp)) := fun w' hw =>
    ⟨(hw.cell (p := ⟨w.heap.size, 1, none⟩) hl).trans hc1, (hw.cell (p := ⟨w.heap.size, 2, none⟩) hl).trans hc2⟩
  clear h0 h1 HZC hb0
  generalize Cl.prev zs at' = x at *
  go_enter Try.func55, Try.ntmps55
  go_wp2_with fail
  rw [← hw0]
  clear hw0
  go_region_held3 (fun w' => w'.cell? ⟨w.heap.size, 1, none⟩ = some (.int .i64 at') ∧ w'.cell? ⟨w.heap.size, 2, none⟩ = some (.slice ao zs.length cp)) (go_keep) (first | (go_at_call 30; refine (K.out _ (by repeat (first | exact Below.refl _ _ | apply Below.drew))).mono ?_; rintro e w1 ⟨rfl, hb1⟩; have HB1 : Hid (Below w0.heap.size w0 w1) := hb1; have hc1 := (HC.out w1 HB1.out).1; have hc2 := (HC.out w1 HB1.out).2; clear hb1) | (go_at_call 38; refine (R.out _ HB1.out).mono ?_; rintro e w2 ⟨rfl, hb2⟩; have HB2 : Hid (Below w0.heap.size w0 w2) := hb2; have hc1 := (HC.out w2 HB2.out).1; have hc2 := (HC.out w2 HB2.out).2; clear hb2))
  go_wp2_with fail
  go_ret
  exact ⟨ret_bool (by simp), ext_trans HB0.out HB2.out⟩

set_option maxRecDepth 100000 in
set_option maxHeartbeats 2000000 in
theorem asked_5 (at' : Int) (ao aq : Option Addr) (cp cq : Nat) (zs : List Int) (w : World) (h0 : Rd .i64 w (.slice ao zs.length cp) zs) (h1 : Rd .i64 w (.slice aq zs.length cq) zs) (_hz : zs.length * 8 + 8 ≤ 140737488355328) :
    Calls Try.prog 55 #[.agg #[.int .i64 5, .int .i64 at', .slice ao zs.length cp], .slice aq zs.length cq] w fun e w' => e = .returned (.bool true) ∧ Below w.heap.size w w' := by
  obtain ⟨w0, hw0⟩ : ∃ w0, w0 = w.alloc (.cells #[.int .i64 5, .int .i64 at', .slice ao zs.length cp] 46) := ⟨_, rfl⟩
  have hb0 : Below w.heap.size w w0 := by rw [hw0]; exact ext_alloc (Below.refl _ _) _
  have HB0 : Hid (Below w.heap.size w w0) := hb0
  have hl : w.heap.size < w0.heap.size := by rw [hw0]; simp
  have hc1 : w0.cell? ⟨w.heap.size, 1, none⟩ = some (.int .i64 at') := by rw [hw0]; simp
  have hc2 : w0.cell? ⟨w.heap.size, 2, none⟩ = some (.slice ao zs.length cp) := by rw [hw0]; simp
  have HZC : True := trivial
  have K : Hid (∀ w', Below w0.heap.size w0 w' → Calls Try.prog 26 #[.slice aq zs.length cq, .int .i64 at'] w' fun e w'' => e = .returned (.int .i64 (Cl.snap zs at')) ∧ Below w0.heap.size w0 w'') := fun w' hw => (Snap_any _ zs at' w' ((h1.ext hb0).ext hw)).mono fun _ _ ⟨e1, e2⟩ => ⟨e1, ext_trans hw e2⟩
  have R : Hid (∀ w', Below w0.heap.size w0 w' → Calls Try.prog 39 #[.slice ao zs.length cp, .int .i64 at'] w' fun e w'' => e = .returned (.int .i64 (Cl.snap zs at')) ∧ Below w0.heap.size w0 w'') := fun w' hw => (rSnap_any _ zs at' w' ((h0.ext hb0).ext hw)).mono fun _ _ ⟨e1, e2⟩ => ⟨e1, e2 ▸ hw⟩
  have HC : Hid (∀ w', Below w0.heap.size w0 w' → w'.cell? ⟨w.heap.size, 1, none⟩ = some (.int .i64 at') ∧ w'.cell? ⟨w.heap.size, 2, none⟩ = some (.slice ao zs.length cp)) := fun w' hw =>
    ⟨(hw.cell (p := ⟨w.heap.size, 1, none⟩) hl).trans hc1, (hw.cell (p := ⟨w.heap.size, 2, none⟩) hl).trans hc2⟩
  clear h0 h1 HZC hb0
  generalize Cl.snap zs at' = x at *
  go_enter Try.func55, Try.ntmps55
  go_wp2_with fail
  rw [← hw0]
  clear hw0
  go_region_held3 (fun w' => w'.cell? ⟨w.heap.size, 1, none⟩ = some (.int .i64 at') ∧ w'.cell? ⟨w.heap.size, 2, none⟩ = some (.slice ao zs.length cp)) (go_keep) (first | (go_at_call 26; refine (K.out _ (by repeat (first | exact Below.refl _ _ | apply Below.drew))).mono ?_; rintro e w1 ⟨rfl, hb1⟩; have HB1 : Hid (Below w0.heap.size w0 w1) := hb1; have hc1 := (HC.out w1 HB1.out).1; have hc2 := (HC.out w1 HB1.out).2; clear hb1) | (go_at_call 39; refine (R.out _ HB1.out).mono ?_; rintro e w2 ⟨rfl, hb2⟩; have HB2 : Hid (Below w0.heap.size w0 w2) := hb2; have hc1 := (HC.out w2 HB2.out).1; have hc2 := (HC.out w2 HB2.out).2; clear hb2))
  go_wp2_with fail
  go_ret
  exact ⟨ret_bool (by simp), ext_trans HB0.out HB2.out⟩

set_option maxRecDepth 100000 in
set_option maxHeartbeats 2000000 in
theorem asked_6 (at' : Int) (ao aq : Option Addr) (cp cq : Nat) (zs : List Int) (w : World) (h0 : Rd .i64 w (.slice ao zs.length cp) zs) (h1 : Rd .i64 w (.slice aq zs.length cq) zs) (hz : zs.length * 8 + 8 ≤ 140737488355328) :
    Calls Try.prog 55 #[.agg #[.int .i64 6, .int .i64 at', .slice ao zs.length cp], .slice aq zs.length cq] w fun e w' => e = .returned (.bool true) ∧ Below w.heap.size w w' := by
  obtain ⟨w0, hw0⟩ : ∃ w0, w0 = w.alloc (.cells #[.int .i64 6, .int .i64 at', .slice ao zs.length cp] 46) := ⟨_, rfl⟩
  have hb0 : Below w.heap.size w w0 := by rw [hw0]; exact ext_alloc (Below.refl _ _) _
  have HB0 : Hid (Below w.heap.size w w0) := hb0
  have hl : w.heap.size < w0.heap.size := by rw [hw0]; simp
  have hc1 : w0.cell? ⟨w.heap.size, 1, none⟩ = some (.int .i64 at') := by rw [hw0]; simp
  have hc2 : w0.cell? ⟨w.heap.size, 2, none⟩ = some (.slice ao zs.length cp) := by rw [hw0]; simp
  have HZC : True := trivial
  have K : Hid (∀ w', Below w0.heap.size w0 w' → Calls Try.prog 22 #[.slice aq zs.length cq] w' fun e w'' => e = .returned (.int .i64 (Cl.cnt zs zs.length)) ∧ Below w0.heap.size w0 w'') := fun w' hw => (Count_any _ zs w' ((h1.ext hb0).ext hw)).mono fun _ _ ⟨e1, e2⟩ => ⟨e1, ext_trans hw e2⟩
  have R : Hid (∀ w', Below w0.heap.size w0 w' → Calls Try.prog 40 #[.slice ao zs.length cp] w' fun e w'' => e = .returned (.int .i64 (Cl.cnt zs zs.length)) ∧ Below w0.heap.size w0 w'') := fun w' hw => (rCount_any _ zs w' ((h0.ext hb0).ext hw) hz).mono fun _ _ ⟨e1, e2⟩ => ⟨e1, ext_trans hw e2⟩
  have HC : Hid (∀ w', Below w0.heap.size w0 w' → w'.cell? ⟨w.heap.size, 1, none⟩ = some (.int .i64 at') ∧ w'.cell? ⟨w.heap.size, 2, none⟩ = some (.slice ao zs.length cp)) := fun w' hw =>
    ⟨(hw.cell (p := ⟨w.heap.size, 1, none⟩) hl).trans hc1, (hw.cell (p := ⟨w.heap.size, 2, none⟩) hl).trans hc2⟩
  clear h0 h1 HZC hb0
  generalize Cl.cnt zs zs.length = x at *
  go_enter Try.func55, Try.ntmps55
  go_wp2_with fail
  rw [← hw0]
  clear hw0
  go_region_held3 (fun w' => w'.cell? ⟨w.heap.size, 1, none⟩ = some (.int .i64 at') ∧ w'.cell? ⟨w.heap.size, 2, none⟩ = some (.slice ao zs.length cp)) (go_keep) (first | (go_at_call 22; refine (K.out _ (by repeat (first | exact Below.refl _ _ | apply Below.drew))).mono ?_; rintro e w1 ⟨rfl, hb1⟩; have HB1 : Hid (Below w0.heap.size w0 w1) := hb1; have hc1 := (HC.out w1 HB1.out).1; have hc2 := (HC.out w1 HB1.out).2; clear hb1) | (go_at_call 40; refine (R.out _ HB1.out).mono ?_; rintro e w2 ⟨rfl, hb2⟩; have HB2 : Hid (Below w0.heap.size w0 w2) := hb2; have hc1 := (HC.out w2 HB2.out).1; have hc2 := (HC.out w2 HB2.out).2; clear hb2))
  go_wp2_with fail
  go_ret
  exact ⟨ret_bool (by simp), ext_trans HB0.out HB2.out⟩

set_option maxRecDepth 100000 in
set_option maxHeartbeats 2000000 in
theorem asked_7 (at' : Int) (ao aq : Option Addr) (cp cq : Nat) (zs : List Int) (w : World) (h0 : Rd .i64 w (.slice ao zs.length cp) zs) (h1 : Rd .i64 w (.slice aq zs.length cq) zs) (hz : zs.length * 8 + 8 ≤ 140737488355328) :
    Calls Try.prog 55 #[.agg #[.int .i64 7, .int .i64 at', .slice ao zs.length cp], .slice aq zs.length cq] w fun e w' => e = .returned (.bool true) ∧ Below w.heap.size w w' := by
  obtain ⟨w0, hw0⟩ : ∃ w0, w0 = w.alloc (.cells #[.int .i64 7, .int .i64 at', .slice ao zs.length cp] 46) := ⟨_, rfl⟩
  have hb0 : Below w.heap.size w w0 := by rw [hw0]; exact ext_alloc (Below.refl _ _) _
  have HB0 : Hid (Below w.heap.size w w0) := hb0
  have hl : w.heap.size < w0.heap.size := by rw [hw0]; simp
  have hc1 : w0.cell? ⟨w.heap.size, 1, none⟩ = some (.int .i64 at') := by rw [hw0]; simp
  have hc2 : w0.cell? ⟨w.heap.size, 2, none⟩ = some (.slice ao zs.length cp) := by rw [hw0]; simp
  have HZC : True := trivial
  have K : Hid (∀ w', Below w0.heap.size w0 w' → Calls Try.prog 24 #[.slice aq zs.length cq, .int .i64 at'] w' fun e w'' => e = .returned (.int .i64 (Cl.col zs at')) ∧ Below w0.heap.size w0 w'') := fun w' hw => (Column_any _ zs at' w' ((h1.ext hb0).ext hw)).mono fun _ _ ⟨e1, e2⟩ => ⟨e1, ext_trans hw e2⟩
  have R : Hid (∀ w', Below w0.heap.size w0 w' → Calls Try.prog 41 #[.slice ao zs.length cp, .int .i64 at'] w' fun e w'' => e = .returned (.int .i64 (Cl.col zs at')) ∧ Below w0.heap.size w0 w'') := fun w' hw => (rColumn_any _ zs at' w' ((h0.ext hb0).ext hw) hz).mono fun _ _ ⟨e1, e2⟩ => ⟨e1, ext_trans hw e2⟩
  have HC : Hid (∀ w', Below w0.heap.size w0 w' → w'.cell? ⟨w.heap.size, 1, none⟩ = some (.int .i64 at') ∧ w'.cell? ⟨w.heap.size, 2, none⟩ = some (.slice ao zs.length cp)) := fun w' hw =>
    ⟨(hw.cell (p := ⟨w.heap.size, 1, none⟩) hl).trans hc1, (hw.cell (p := ⟨w.heap.size, 2, none⟩) hl).trans hc2⟩
  clear h0 h1 HZC hb0
  generalize Cl.col zs at' = x at *
  go_enter Try.func55, Try.ntmps55
  go_wp2_with fail
  rw [← hw0]
  clear hw0
  go_region_held3 (fun w' => w'.cell? ⟨w.heap.size, 1, none⟩ = some (.int .i64 at') ∧ w'.cell? ⟨w.heap.size, 2, none⟩ = some (.slice ao zs.length cp)) (go_keep) (first | (go_at_call 24; refine (K.out _ (by repeat (first | exact Below.refl _ _ | apply Below.drew))).mono ?_; rintro e w1 ⟨rfl, hb1⟩; have HB1 : Hid (Below w0.heap.size w0 w1) := hb1; have hc1 := (HC.out w1 HB1.out).1; have hc2 := (HC.out w1 HB1.out).2; clear hb1) | (go_at_call 41; refine (R.out _ HB1.out).mono ?_; rintro e w2 ⟨rfl, hb2⟩; have HB2 : Hid (Below w0.heap.size w0 w2) := hb2; have hc1 := (HC.out w2 HB2.out).1; have hc2 := (HC.out w2 HB2.out).2; clear hb2))
  go_wp2_with fail
  go_ret
  exact ⟨ret_bool (by simp), ext_trans HB0.out HB2.out⟩

set_option maxRecDepth 100000 in
set_option maxHeartbeats 2000000 in
theorem asked_8 (at' : Int) (ao aq : Option Addr) (cp cq : Nat) (zs : List Int) (w : World) (h0 : Rd .i64 w (.slice ao zs.length cp) zs) (h1 : Rd .i64 w (.slice aq zs.length cq) zs) (hz : zs.length * 8 + 8 ≤ 140737488355328) :
    Calls Try.prog 55 #[.agg #[.int .i64 8, .int .i64 at', .slice ao zs.length cp], .slice aq zs.length cq] w fun e w' => e = .returned (.bool true) ∧ Below w.heap.size w w' := by
  obtain ⟨w0, hw0⟩ : ∃ w0, w0 = w.alloc (.cells #[.int .i64 8, .int .i64 at', .slice ao zs.length cp] 46) := ⟨_, rfl⟩
  have hb0 : Below w.heap.size w w0 := by rw [hw0]; exact ext_alloc (Below.refl _ _) _
  have HB0 : Hid (Below w.heap.size w w0) := hb0
  have hl : w.heap.size < w0.heap.size := by rw [hw0]; simp
  have hc1 : w0.cell? ⟨w.heap.size, 1, none⟩ = some (.int .i64 at') := by rw [hw0]; simp
  have hc2 : w0.cell? ⟨w.heap.size, 2, none⟩ = some (.slice ao zs.length cp) := by rw [hw0]; simp
  have HZC : True := trivial
  have K : Hid (∀ w', Below w0.heap.size w0 w' → Calls Try.prog 25 #[.slice aq zs.length cq, .int .i64 at'] w' fun e w'' => e = .returned (.int .i64 (Cl.ofs zs at')) ∧ Below w0.heap.size w0 w'') := fun w' hw => (Offset_any _ zs at' w' ((h1.ext hb0).ext hw)).mono fun _ _ ⟨e1, e2⟩ => ⟨e1, ext_trans hw e2⟩
  have R : Hid (∀ w', Below w0.heap.size w0 w' → Calls Try.prog 42 #[.slice ao zs.length cp, .int .i64 at'] w' fun e w'' => e = .returned (.int .i64 (Cl.ofs zs at')) ∧ Below w0.heap.size w0 w'') := fun w' hw => (rOffset_any _ zs at' w' ((h0.ext hb0).ext hw) hz).mono fun _ _ ⟨e1, e2⟩ => ⟨e1, ext_trans hw e2⟩
  have HC : Hid (∀ w', Below w0.heap.size w0 w' → w'.cell? ⟨w.heap.size, 1, none⟩ = some (.int .i64 at') ∧ w'.cell? ⟨w.heap.size, 2, none⟩ = some (.slice ao zs.length cp)) := fun w' hw =>
    ⟨(hw.cell (p := ⟨w.heap.size, 1, none⟩) hl).trans hc1, (hw.cell (p := ⟨w.heap.size, 2, none⟩) hl).trans hc2⟩
  clear h0 h1 HZC hb0
  generalize Cl.ofs zs at' = x at *
  go_enter Try.func55, Try.ntmps55
  go_wp2_with fail
  rw [← hw0]
  clear hw0
  go_region_held3 (fun w' => w'.cell? ⟨w.heap.size, 1, none⟩ = some (.int .i64 at') ∧ w'.cell? ⟨w.heap.size, 2, none⟩ = some (.slice ao zs.length cp)) (go_keep) (first | (go_at_call 25; refine (K.out _ (by repeat (first | exact Below.refl _ _ | apply Below.drew))).mono ?_; rintro e w1 ⟨rfl, hb1⟩; have HB1 : Hid (Below w0.heap.size w0 w1) := hb1; have hc1 := (HC.out w1 HB1.out).1; have hc2 := (HC.out w1 HB1.out).2; clear hb1) | (go_at_call 42; refine (R.out _ HB1.out).mono ?_; rintro e w2 ⟨rfl, hb2⟩; have HB2 : Hid (Below w0.heap.size w0 w2) := hb2; have hc1 := (HC.out w2 HB2.out).1; have hc2 := (HC.out w2 HB2.out).2; clear hb2))
  go_wp2_with fail
  go_ret
  exact ⟨ret_bool (by simp), ext_trans HB0.out HB2.out⟩

set_option maxRecDepth 100000 in
set_option maxHeartbeats 2000000 in
theorem asked_1 (at' : Int) (ao aq : Option Addr) (cp cq : Nat) (zs : List Int) (w : World) (h0 : Rd .i64 w (.slice ao zs.length cp) zs) (h1 : Rd .i64 w (.slice aq zs.length cq) zs) (hz : zs.length * 8 + 8 ≤ 140737488355328) :
    Calls Try.prog 55 #[.agg #[.int .i64 1, .int .i64 at', .slice ao zs.length cp], .slice aq zs.length cq] w fun e w' => e = .returned (.bool true) ∧ Below w.heap.size w w' := by
  obtain ⟨w0, hw0⟩ : ∃ w0, w0 = w.alloc (.cells #[.int .i64 1, .int .i64 at', .slice ao zs.length cp] 46) := ⟨_, rfl⟩
  have hb0 : Below w.heap.size w w0 := by rw [hw0]; exact ext_alloc (Below.refl _ _) _
  have HB0 : Hid (Below w.heap.size w w0) := hb0
  have hl : w.heap.size < w0.heap.size := by rw [hw0]; simp
  have hc2 : w0.cell? ⟨w.heap.size, 2, none⟩ = some (.slice ao zs.length cp) := by rw [hw0]; simp
  have H0 : Hid (Rd .i64 w0 (.slice ao zs.length cp) zs) := h0.ext hb0
  have H1 : Hid (Rd .i64 w0 (.slice aq zs.length cq) zs) := h1.ext hb0
  clear h0 h1 hb0
  go_enter Try.func55, Try.ntmps55
  go_wp2_with fail
  rw [← hw0]
  clear hw0
  refine (Breaks_any _ zs _ H1.out hz).mono ?_
  rintro e w1 ⟨u1, rfl, ho1, hb1⟩
  have R1 : Hid (Rd .i64 w1 u1 (Cl.bi zs) ∧ Below w0.heap.size w0 w1) := ⟨ho1.rd, hb1⟩
  have hc3 : w1.cell? ⟨w.heap.size, 2, none⟩ = some (.slice ao zs.length cp) := (hb1.cell (p := ⟨w.heap.size, 2, none⟩) hl).trans hc2
  clear ho1 hb1 hc2
  go_wp2_with (first | (go_at_call 31; refine (rBreaks_any _ zs _ (H0.out.ext R1.out.2) hz).mono ?_; rintro e w2 ⟨u2, rfl, ho2, hb2⟩; have R2 : Hid (Rd .i64 w2 u1 (Cl.bi zs) ∧ Rd .i64 w2 u2 (Cl.bi zs) ∧ Below w0.heap.size w0 w2) := ⟨R1.out.1.ext hb2, ho2.rd, ext_trans R1.out.2 hb2⟩; clear ho2 hb2) | (go_at_call 19; refine (same_any _ _ _ _ _ R2.out.1 R2.out.2.1 rfl).mono ?_; rintro e w3 ⟨rfl, hb3⟩; have R3 : Hid (Below w0.heap.size w0 w3) := ext_trans R2.out.2.2 hb3; clear hb3))
  go_ret
  exact ⟨rfl, ext_trans HB0.out R3.out⟩

set_option maxRecDepth 100000 in
theorem asked_any (kind at' : Int) (ao aq : Option Addr) (cp cq : Nat) (zs : List Int) (w : World) (h0 : Rd .i64 w (.slice ao zs.length cp) zs) (h1 : Rd .i64 w (.slice aq zs.length cq) zs) (hz : zs.length * 8 + 8 ≤ 140737488355328) :
    Calls Try.prog 55 #[.agg #[.int .i64 kind, .int .i64 at', .slice ao zs.length cp], .slice aq zs.length cq] w fun e w' => e = .returned (.bool true) ∧ Below w.heap.size w w' := by
  by_cases k1 : kind = 1
  · subst k1; exact asked_1 at' ao aq cp cq zs w h0 h1 hz
  by_cases k2 : kind = 2
  · subst k2; exact asked_2 at' ao aq cp cq zs w h0 h1 hz
  by_cases k3 : kind = 3
  · subst k3; exact asked_3 at' ao aq cp cq zs w h0 h1 hz
  by_cases k4 : kind = 4
  · subst k4; exact asked_4 at' ao aq cp cq zs w h0 h1 hz
  by_cases k5 : kind = 5
  · subst k5; exact asked_5 at' ao aq cp cq zs w h0 h1 hz
  by_cases k6 : kind = 6
  · subst k6; exact asked_6 at' ao aq cp cq zs w h0 h1 hz
  by_cases k7 : kind = 7
  · subst k7; exact asked_7 at' ao aq cp cq zs w h0 h1 hz
  by_cases k8 : kind = 8
  · subst k8; exact asked_8 at' ao aq cp cq zs w h0 h1 hz
  have q1 : (kind == 1) = false := by simp [k1]
  have q2 : (kind == 2) = false := by simp [k2]
  have q3 : (kind == 3) = false := by simp [k3]
  have q4 : (kind == 4) = false := by simp [k4]
  have q5 : (kind == 5) = false := by simp [k5]
  have q6 : (kind == 6) = false := by simp [k6]
  have q7 : (kind == 7) = false := by simp [k7]
  have q8 : (kind == 8) = false := by simp [k8]
  clear k1 k2 k3 k4 k5 k6 k7 k8 h0 h1
  go_enter Try.func55, Try.ntmps55
  go_wp2
  go_ret
  exact ⟨rfl, ext_alloc (Below.refl _ _) _⟩

set_option maxRecDepth 100000 in
set_option maxHeartbeats 1000000 in
theorem played_any (kind at' : Int) (ao : Option Addr) (cp : Nat) (zs : List Int) (w : World) (h0 : Rd .i64 w (.slice ao zs.length cp) zs) (hz : zs.length * 8 + 8 ≤ 140737488355328) :
    Calls Try.prog 43 #[.agg #[.int .i64 kind, .int .i64 at', .slice ao zs.length cp]] w fun e w' => e = .returned (.bool true) ∧ Below w.heap.size w w' := by
  obtain ⟨w0, hw0⟩ : ∃ w0, w0 = w.alloc (.cells #[.int .i64 kind, .int .i64 at', .slice ao zs.length cp] 46) := ⟨_, rfl⟩
  have hb0 : Below w.heap.size w w0 := by rw [hw0]; exact ext_alloc (Below.refl _ _) _
  have HB0 : Hid (Below w.heap.size w w0) := hb0
  have hl : w.heap.size < w0.heap.size := by rw [hw0]; simp
  have hc0 : w0.cell? ⟨w.heap.size, 0, none⟩ = some (.int .i64 kind) := by rw [hw0]; simp
  have hc1 : w0.cell? ⟨w.heap.size, 1, none⟩ = some (.int .i64 at') := by rw [hw0]; simp
  have hc2 : w0.cell? ⟨w.heap.size, 2, none⟩ = some (.slice ao zs.length cp) := by rw [hw0]; simp
  have HC : Hid (∀ w', Below w0.heap.size w0 w' → w'.cell? ⟨w.heap.size, 0, none⟩ = some (.int .i64 kind) ∧ w'.cell? ⟨w.heap.size, 1, none⟩ = some (.int .i64 at') ∧ w'.cell? ⟨w.heap.size, 2, none⟩ = some (.slice ao zs.length cp)) := fun w' hw =>
    ⟨(hw.cell (p := ⟨w.heap.size, 0, none⟩) hl).trans hc0, (hw.cell (p := ⟨w.heap.size, 1, none⟩) hl).trans hc1, (hw.cell (p := ⟨w.heap.size, 2, none⟩) hl).trans hc2⟩
  have H0 : Hid (Rd .i64 w0 (.slice ao zs.length cp) zs) := h0.ext hb0
  clear h0 hb0 hc0 hc1 hc2
  go_enter Try.func43, Try.ntmps43
  go_wp2_with fail
  rw [← hw0]
  clear hw0
  refine (copied_any _ zs _ H0.out (by omega)).mono ?_
  rintro e w1 ⟨u1, rfl, ho1, hb1⟩
  obtain ⟨d1, e1, rfl⟩ := ho1.rd.form
  have R1 : Hid (Rd .i64 w1 (.slice d1 zs.length e1) zs ∧ Below w0.heap.size w0 w1) := ⟨ho1.rd, hb1⟩
  obtain ⟨hc0, hc1, hc2⟩ := HC.out w1 hb1
  clear ho1 hb1
  go_wp2_with (first | (go_at_call 55; refine (asked_any kind at' ao d1 cp e1 zs _ (H0.out.ext R1.out.2) R1.out.1 hz).mono ?_; rintro e w2 ⟨rfl, hb2⟩; have R2 : Hid (Below w1.heap.size w1 w2 ∧ Below w0.heap.size w0 w2) := ⟨hb2, ext_trans R1.out.2 hb2⟩; have hc0 := (HC.out w2 R2.out.2).1; have hc1 := (HC.out w2 R2.out.2).2.1; have hc2 := (HC.out w2 R2.out.2).2.2; clear hb2) | (go_at_call 19; refine (same_any _ _ _ _ _ (R1.out.1.ext R2.out.1) (H0.out.ext R2.out.2) rfl).mono ?_; rintro e w3 ⟨rfl, hb3⟩; have R3 : Hid (Below w0.heap.size w0 w3) := ext_trans R2.out.2 hb3; clear hb3))
  go_ret
  exact ⟨rfl, ext_trans HB0.out R3.out⟩
end Go.Proofs.Ytahjjpleceppaaa
