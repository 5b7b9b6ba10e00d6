/- Prev: of the code, at each encoding. -/
import Derived.Test.YtbfbaknfeleddaaTokH
namespace Go.Proofs.Ytbfbaknfeleddaa
open Go.RowKit

set_option maxRecDepth 100000 in
set_option maxHeartbeats 2000000 in
theorem Prev_1 (v : Value) (zs : List Int) (n : Nat) (w : World) (h : Rd .u8 w v zs) (hb : Byt zs) (h0 : 0 < n) (hn : n ≤ zs.length) :
    Calls Try.prog 22 #[.int .i64 1, v, .int .i64 n] w fun e w' => e = .returned (.tuple #[.int .i64 (Cx.lst 1 (zs.take n)).1, .int .i64 (Cx.lst 1 (zs.take n)).2]) ∧ Below w.heap.size w w' := by
  have HR : Hid (Rd .u8 w v zs) := h
  have HB : Hid (Byt zs) := hb
  have hlen := h.len
  obtain ⟨ao, cap, rfl, hl, hm, hc⟩ := h
  obtain ⟨b, off, rfl, _⟩ := hc (List.length_pos_iff.1 (by omega))
  have HN : Hid (zs.take n ≠ []) := List.length_pos_iff.1 (by rw [List.length_take]; omega)
  have hcm : cap ≤ 9223372036854775807 := hm
  have hnc : n ≤ cap := by omega
  have HX : Hid (∀ w' : World, Below w.heap.size w w' → Calls Try.prog 114 #[.agg #[], .slice (some ⟨b, off, none⟩) n cap] w' fun e w'' => e = .returned (.tuple #[.int .i64 (Cx.lst 1 (zs.take n)).1, .int .i64 (Cx.lst 1 (zs.take n)).2]) ∧ Below w'.heap.size w' w'') := fun w' hw => lst1_any (.slice (some ⟨b, off, none⟩) n cap) (zs.take n) w' ((HR.out.take n hn).ext hw) (HB.out.take n) HN.out
  generalize (Cx.lst 1 (zs.take n)).1 = x at *
  generalize (Cx.lst 1 (zs.take n)).2 = y at *
  clear hb hc hm
  have hmt := m_last1
  have hnt := n_last1
  go_enter Try.func22, Try.ntmps22
  go_wp2_with fail
  refine (coderOf_1 _).mono ?_
  rintro e w' ⟨rfl, rfl⟩
  go_wp2_with fail
  first | go_region_with (go_at_call 114; refine (HX.out _ (by repeat (first | exact Below.refl _ _ | apply below_drewN | refine ext_alloc ?_ _ | apply Below.drew))).mono ?_; rintro e w1 ⟨rfl, hb1⟩; have HW1 : Hid (Below w'.heap.size w' w1) := ext_trans (by repeat (first | exact Below.refl _ _ | apply below_drewN | refine ext_alloc ?_ _ | apply Below.drew)) hb1; clear hb1) | fail
  all_goals
    go_wp2
    go_ret2
    exact ⟨rfl, (by repeat (first | exact HW1.out | exact Below.refl _ _ | apply below_drewN | refine ext_alloc ?_ _ | apply Below.drew))⟩

set_option maxRecDepth 100000 in
set_option maxHeartbeats 2000000 in
theorem Prev_2 (v : Value) (zs : List Int) (n : Nat) (w : World) (h : Rd .u8 w v zs) (hb : Byt zs) (h0 : 0 < n) (hn : n ≤ zs.length) :
    Calls Try.prog 22 #[.int .i64 2, v, .int .i64 n] w fun e w' => e = .returned (.tuple #[.int .i64 (Cx.lst 2 (zs.take n)).1, .int .i64 (Cx.lst 2 (zs.take n)).2]) ∧ Below w.heap.size w w' := by
  have HR : Hid (Rd .u8 w v zs) := h
  have HB : Hid (Byt zs) := hb
  have hlen := h.len
  obtain ⟨ao, cap, rfl, hl, hm, hc⟩ := h
  obtain ⟨b, off, rfl, _⟩ := hc (List.length_pos_iff.1 (by omega))
  have HN : Hid (zs.take n ≠ []) := List.length_pos_iff.1 (by rw [List.length_take]; omega)
  have hcm : cap ≤ 9223372036854775807 := hm
  have hnc : n ≤ cap := by omega
  have HX : Hid (∀ w' : World, Below w.heap.size w w' → Calls Try.prog 124 #[.agg #[.int .i64 0], .slice (some ⟨b, off, none⟩) n cap] w' fun e w'' => e = .returned (.tuple #[.int .i64 (Cx.lst 2 (zs.take n)).1, .int .i64 (Cx.lst 2 (zs.take n)).2]) ∧ Below w'.heap.size w' w'') := fun w' hw => lst2_any (.slice (some ⟨b, off, none⟩) n cap) (zs.take n) w' ((HR.out.take n hn).ext hw) (HB.out.take n) HN.out
  generalize (Cx.lst 2 (zs.take n)).1 = x at *
  generalize (Cx.lst 2 (zs.take n)).2 = y at *
  clear hb hc hm
  have hmt := m_last2
  have hnt := n_last2
  go_enter Try.func22, Try.ntmps22
  go_wp2_with fail
  refine (coderOf_2 _).mono ?_
  rintro e w' ⟨rfl, rfl⟩
  go_wp2_with fail
  first | go_region_with (go_at_call 124; refine (HX.out _ (by repeat (first | exact Below.refl _ _ | apply below_drewN | refine ext_alloc ?_ _ | apply Below.drew))).mono ?_; rintro e w1 ⟨rfl, hb1⟩; have HW1 : Hid (Below w'.heap.size w' w1) := ext_trans (by repeat (first | exact Below.refl _ _ | apply below_drewN | refine ext_alloc ?_ _ | apply Below.drew)) hb1; clear hb1) | fail
  all_goals
    go_wp2
    go_ret2
    exact ⟨rfl, (by repeat (first | exact HW1.out | exact Below.refl _ _ | apply below_drewN | refine ext_alloc ?_ _ | apply Below.drew))⟩

set_option maxRecDepth 100000 in
set_option maxHeartbeats 2000000 in
theorem Prev_3 (v : Value) (zs : List Int) (n : Nat) (w : World) (h : Rd .u8 w v zs) (hb : Byt zs) (h0 : 0 < n) (hn : n ≤ zs.length) :
    Calls Try.prog 22 #[.int .i64 3, v, .int .i64 n] w fun e w' => e = .returned (.tuple #[.int .i64 (Cx.lst 3 (zs.take n)).1, .int .i64 (Cx.lst 3 (zs.take n)).2]) ∧ Below w.heap.size w w' := by
  have HR : Hid (Rd .u8 w v zs) := h
  have HB : Hid (Byt zs) := hb
  have hlen := h.len
  obtain ⟨ao, cap, rfl, hl, hm, hc⟩ := h
  obtain ⟨b, off, rfl, _⟩ := hc (List.length_pos_iff.1 (by omega))
  have HN : Hid (zs.take n ≠ []) := List.length_pos_iff.1 (by rw [List.length_take]; omega)
  have hcm : cap ≤ 9223372036854775807 := hm
  have hnc : n ≤ cap := by omega
  have HX : Hid (∀ w' : World, Below w.heap.size w w' → Calls Try.prog 124 #[.agg #[.int .i64 1], .slice (some ⟨b, off, none⟩) n cap] w' fun e w'' => e = .returned (.tuple #[.int .i64 (Cx.lst 3 (zs.take n)).1, .int .i64 (Cx.lst 3 (zs.take n)).2]) ∧ Below w'.heap.size w' w'') := fun w' hw => lst3_any (.slice (some ⟨b, off, none⟩) n cap) (zs.take n) w' ((HR.out.take n hn).ext hw) (HB.out.take n) HN.out
  generalize (Cx.lst 3 (zs.take n)).1 = x at *
  generalize (Cx.lst 3 (zs.take n)).2 = y at *
  clear hb hc hm
  have hmt := m_last2
  have hnt := n_last2
  go_enter Try.func22, Try.ntmps22
  go_wp2_with fail
  refine (coderOf_3 _).mono ?_
  rintro e w' ⟨rfl, rfl⟩
  go_wp2_with fail
  first | go_region_with (go_at_call 124; refine (HX.out _ (by repeat (first | exact Below.refl _ _ | apply below_drewN | refine ext_alloc ?_ _ | apply Below.drew))).mono ?_; rintro e w1 ⟨rfl, hb1⟩; have HW1 : Hid (Below w'.heap.size w' w1) := ext_trans (by repeat (first | exact Below.refl _ _ | apply below_drewN | refine ext_alloc ?_ _ | apply Below.drew)) hb1; clear hb1) | fail
  all_goals
    go_wp2
    go_ret2
    exact ⟨rfl, (by repeat (first | exact HW1.out | exact Below.refl _ _ | apply below_drewN | refine ext_alloc ?_ _ | apply Below.drew))⟩

set_option maxRecDepth 100000 in
set_option maxHeartbeats 2000000 in
theorem Prev_4 (v : Value) (zs : List Int) (n : Nat) (w : World) (h : Rd .u8 w v zs) (hb : Byt zs) (h0 : 0 < n) (hn : n ≤ zs.length) :
    Calls Try.prog 22 #[.int .i64 4, v, .int .i64 n] w fun e w' => e = .returned (.tuple #[.int .i64 (Cx.lst 4 (zs.take n)).1, .int .i64 (Cx.lst 4 (zs.take n)).2]) ∧ Below w.heap.size w w' := by
  have HR : Hid (Rd .u8 w v zs) := h
  have HB : Hid (Byt zs) := hb
  have hlen := h.len
  obtain ⟨ao, cap, rfl, hl, hm, hc⟩ := h
  obtain ⟨b, off, rfl, _⟩ := hc (List.length_pos_iff.1 (by omega))
  have HN : Hid (zs.take n ≠ []) := List.length_pos_iff.1 (by rw [List.length_take]; omega)
  have hcm : cap ≤ 9223372036854775807 := hm
  have hnc : n ≤ cap := by omega
  have HX : Hid (∀ w' : World, Below w.heap.size w w' → Calls Try.prog 136 #[.agg #[], .slice (some ⟨b, off, none⟩) n cap] w' fun e w'' => e = .returned (.tuple #[.int .i64 (Cx.lst 4 (zs.take n)).1, .int .i64 (Cx.lst 4 (zs.take n)).2]) ∧ Below w'.heap.size w' w'') := fun w' hw => lst4_any (.slice (some ⟨b, off, none⟩) n cap) (zs.take n) w' ((HR.out.take n hn).ext hw) (HB.out.take n) HN.out
  generalize (Cx.lst 4 (zs.take n)).1 = x at *
  generalize (Cx.lst 4 (zs.take n)).2 = y at *
  clear hb hc hm
  have hmt := m_last4
  have hnt := n_last4
  go_enter Try.func22, Try.ntmps22
  go_wp2_with fail
  refine (coderOf_4 _).mono ?_
  rintro e w' ⟨rfl, rfl⟩
  go_wp2_with fail
  first | go_region_with (go_at_call 136; refine (HX.out _ (by repeat (first | exact Below.refl _ _ | apply below_drewN | refine ext_alloc ?_ _ | apply Below.drew))).mono ?_; rintro e w1 ⟨rfl, hb1⟩; have HW1 : Hid (Below w'.heap.size w' w1) := ext_trans (by repeat (first | exact Below.refl _ _ | apply below_drewN | refine ext_alloc ?_ _ | apply Below.drew)) hb1; clear hb1) | fail
  all_goals
    go_wp2
    go_ret2
    exact ⟨rfl, (by repeat (first | exact HW1.out | exact Below.refl _ _ | apply below_drewN | refine ext_alloc ?_ _ | apply Below.drew))⟩
end Go.Proofs.Ytbfbaknfeleddaa
