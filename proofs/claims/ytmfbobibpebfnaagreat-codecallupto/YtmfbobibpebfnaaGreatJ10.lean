import Derived.Test.YtmfbobibpebfnaaGreatJ05
import Derived.Test.YtmfbobibpebfnaaGreatJ09
/- Next: of the code, at each encoding. -/
namespace Go.Proofs.YtmfbobibpebfnaaGreat
open Go.RowKit

set_option maxRecDepth 100000 in
set_option maxHeartbeats 2000000 in
theorem Next_1 (v : Value) (zs : List Int) (n : Nat) (w : World) (h : Rd .u8 w v zs) (hb : Byt zs) (hn : n < zs.length) :
    Calls Tryz.prog 45 #[.int .i64 1, v, .int .i64 n] w fun e w' => e = .returned (.tuple #[.int .i64 (Cx.fst 1 (zs.drop n)).1, .int .i64 (Cx.fst 1 (zs.drop n)).2]) ∧ Below w.heap.size w w' := by
  have HR : Hid (Rd .u8 w v zs) := h
  have HB : Hid (Byt zs) := hb
  have hlen := h.len
  obtain ⟨ao, cap, rfl, hl, hm, hc⟩ := h
  obtain ⟨b, off, rfl, _⟩ := hc (List.length_pos_iff.1 (by omega))
  have HN : Hid (zs.drop n ≠ []) := List.length_pos_iff.1 (by rw [List.length_drop]; omega)
  obtain ⟨a, m, hf⟩ : ∃ (a : Int) (m : Nat), Cx.fst 1 (zs.drop n) = (a, (m : Int)) := by
    have := Cx.fst_bd 1 (zs.drop n) HN.out
    exact ⟨_, (Cx.fst 1 (zs.drop n)).2.toNat, Prod.ext rfl (by simp only; omega)⟩
  have HF : Hid (Cx.fst 1 (zs.drop n) = (a, (m : Int))) := hf
  have hcn : ¬ cap = n := by omega
  have HC : Hid (Rd .u8 w (.slice (some ⟨b, off + n, none⟩) (zs.length - n) (cap - n)) (zs.drop n)) := HR.out.cut (by omega)
  have hcm : cap ≤ 9223372036854775807 := hm
  rw [hf]
  clear hb hc hf hm
  have hmt := m_first1
  have hnt := n_first1
  go_enter Tryz.func45, Tryz.ntmps45
  go_wp2_with fail
  refine (coderOf_1 _).mono ?_
  rintro e w' ⟨rfl, rfl⟩
  go_wp2_with fail
  first | go_region_with (go_at_call 71; refine (fst1_any _ (zs.drop n) a m _ (HC.out.ext (by repeat (first | exact Below.refl _ _ | apply below_drewN | refine ext_alloc ?_ _ | apply Below.drew))) (HB.out.drop n) HN.out HF.out).mono ?_; rintro e w1 ⟨rfl, hb1⟩; have HW1 : Hid (Below w'.heap.size w' w1) := ext_trans (by repeat (first | exact Below.refl _ _ | apply below_drewN | refine ext_alloc ?_ _ | apply Below.drew)) hb1; clear hb1) | fail
  all_goals
    go_wp2
    go_ret2
    exact ⟨rfl, (by repeat (first | exact HW1.out | exact Below.refl _ _ | apply below_drewN | refine ext_alloc ?_ _ | apply Below.drew))⟩

set_option maxRecDepth 100000 in
set_option maxHeartbeats 2000000 in
theorem Next_2 (v : Value) (zs : List Int) (n : Nat) (w : World) (h : Rd .u8 w v zs) (hb : Byt zs) (hn : n < zs.length) :
    Calls Tryz.prog 45 #[.int .i64 2, v, .int .i64 n] w fun e w' => e = .returned (.tuple #[.int .i64 (Cx.fst 2 (zs.drop n)).1, .int .i64 (Cx.fst 2 (zs.drop n)).2]) ∧ Below w.heap.size w w' := by
  have HR : Hid (Rd .u8 w v zs) := h
  have HB : Hid (Byt zs) := hb
  have hlen := h.len
  obtain ⟨ao, cap, rfl, hl, hm, hc⟩ := h
  obtain ⟨b, off, rfl, _⟩ := hc (List.length_pos_iff.1 (by omega))
  have HN : Hid (zs.drop n ≠ []) := List.length_pos_iff.1 (by rw [List.length_drop]; omega)
  obtain ⟨a, m, hf⟩ : ∃ (a : Int) (m : Nat), Cx.fst 2 (zs.drop n) = (a, (m : Int)) := by
    have := Cx.fst_bd 2 (zs.drop n) HN.out
    exact ⟨_, (Cx.fst 2 (zs.drop n)).2.toNat, Prod.ext rfl (by simp only; omega)⟩
  have HF : Hid (Cx.fst 2 (zs.drop n) = (a, (m : Int))) := hf
  have hcn : ¬ cap = n := by omega
  have HC : Hid (Rd .u8 w (.slice (some ⟨b, off + n, none⟩) (zs.length - n) (cap - n)) (zs.drop n)) := HR.out.cut (by omega)
  have hcm : cap ≤ 9223372036854775807 := hm
  rw [hf]
  clear hb hc hf hm
  have hmt := m_first2
  have hnt := n_first2
  go_enter Tryz.func45, Tryz.ntmps45
  go_wp2_with fail
  refine (coderOf_2 _).mono ?_
  rintro e w' ⟨rfl, rfl⟩
  go_wp2_with fail
  first | go_region_with (go_at_call 102; refine (fst2_any _ (zs.drop n) a m _ (HC.out.ext (by repeat (first | exact Below.refl _ _ | apply below_drewN | refine ext_alloc ?_ _ | apply Below.drew))) (HB.out.drop n) HN.out HF.out).mono ?_; rintro e w1 ⟨rfl, hb1⟩; have HW1 : Hid (Below w'.heap.size w' w1) := ext_trans (by repeat (first | exact Below.refl _ _ | apply below_drewN | refine ext_alloc ?_ _ | apply Below.drew)) hb1; clear hb1) | fail
  all_goals
    go_wp2
    go_ret2
    exact ⟨rfl, (by repeat (first | exact HW1.out | exact Below.refl _ _ | apply below_drewN | refine ext_alloc ?_ _ | apply Below.drew))⟩

set_option maxRecDepth 100000 in
set_option maxHeartbeats 2000000 in
theorem Next_3 (v : Value) (zs : List Int) (n : Nat) (w : World) (h : Rd .u8 w v zs) (hb : Byt zs) (hn : n < zs.length) :
    Calls Tryz.prog 45 #[.int .i64 3, v, .int .i64 n] w fun e w' => e = .returned (.tuple #[.int .i64 (Cx.fst 3 (zs.drop n)).1, .int .i64 (Cx.fst 3 (zs.drop n)).2]) ∧ Below w.heap.size w w' := by
  have HR : Hid (Rd .u8 w v zs) := h
  have HB : Hid (Byt zs) := hb
  have hlen := h.len
  obtain ⟨ao, cap, rfl, hl, hm, hc⟩ := h
  obtain ⟨b, off, rfl, _⟩ := hc (List.length_pos_iff.1 (by omega))
  have HN : Hid (zs.drop n ≠ []) := List.length_pos_iff.1 (by rw [List.length_drop]; omega)
  obtain ⟨a, m, hf⟩ : ∃ (a : Int) (m : Nat), Cx.fst 3 (zs.drop n) = (a, (m : Int)) := by
    have := Cx.fst_bd 3 (zs.drop n) HN.out
    exact ⟨_, (Cx.fst 3 (zs.drop n)).2.toNat, Prod.ext rfl (by simp only; omega)⟩
  have HF : Hid (Cx.fst 3 (zs.drop n) = (a, (m : Int))) := hf
  have hcn : ¬ cap = n := by omega
  have HC : Hid (Rd .u8 w (.slice (some ⟨b, off + n, none⟩) (zs.length - n) (cap - n)) (zs.drop n)) := HR.out.cut (by omega)
  have hcm : cap ≤ 9223372036854775807 := hm
  rw [hf]
  clear hb hc hf hm
  have hmt := m_first2
  have hnt := n_first2
  go_enter Tryz.func45, Tryz.ntmps45
  go_wp2_with fail
  refine (coderOf_3 _).mono ?_
  rintro e w' ⟨rfl, rfl⟩
  go_wp2_with fail
  first | go_region_with (go_at_call 102; refine (fst3_any _ (zs.drop n) a m _ (HC.out.ext (by repeat (first | exact Below.refl _ _ | apply below_drewN | refine ext_alloc ?_ _ | apply Below.drew))) (HB.out.drop n) HN.out HF.out).mono ?_; rintro e w1 ⟨rfl, hb1⟩; have HW1 : Hid (Below w'.heap.size w' w1) := ext_trans (by repeat (first | exact Below.refl _ _ | apply below_drewN | refine ext_alloc ?_ _ | apply Below.drew)) hb1; clear hb1) | fail
  all_goals
    go_wp2
    go_ret2
    exact ⟨rfl, (by repeat (first | exact HW1.out | exact Below.refl _ _ | apply below_drewN | refine ext_alloc ?_ _ | apply Below.drew))⟩

set_option maxRecDepth 100000 in
set_option maxHeartbeats 2000000 in
theorem Next_4 (v : Value) (zs : List Int) (n : Nat) (w : World) (h : Rd .u8 w v zs) (hb : Byt zs) (hn : n < zs.length) :
    Calls Tryz.prog 45 #[.int .i64 4, v, .int .i64 n] w fun e w' => e = .returned (.tuple #[.int .i64 (Cx.fst 4 (zs.drop n)).1, .int .i64 (Cx.fst 4 (zs.drop n)).2]) ∧ Below w.heap.size w w' := by
  have HR : Hid (Rd .u8 w v zs) := h
  have HB : Hid (Byt zs) := hb
  have hlen := h.len
  obtain ⟨ao, cap, rfl, hl, hm, hc⟩ := h
  obtain ⟨b, off, rfl, _⟩ := hc (List.length_pos_iff.1 (by omega))
  have HN : Hid (zs.drop n ≠ []) := List.length_pos_iff.1 (by rw [List.length_drop]; omega)
  obtain ⟨a, m, hf⟩ : ∃ (a : Int) (m : Nat), Cx.fst 4 (zs.drop n) = (a, (m : Int)) := by
    have := Cx.fst_bd 4 (zs.drop n) HN.out
    exact ⟨_, (Cx.fst 4 (zs.drop n)).2.toNat, Prod.ext rfl (by simp only; omega)⟩
  have HF : Hid (Cx.fst 4 (zs.drop n) = (a, (m : Int))) := hf
  have hcn : ¬ cap = n := by omega
  have HC : Hid (Rd .u8 w (.slice (some ⟨b, off + n, none⟩) (zs.length - n) (cap - n)) (zs.drop n)) := HR.out.cut (by omega)
  have hcm : cap ≤ 9223372036854775807 := hm
  rw [hf]
  clear hb hc hf hm
  have hmt := m_first4
  have hnt := n_first4
  go_enter Tryz.func45, Tryz.ntmps45
  go_wp2_with fail
  refine (coderOf_4 _).mono ?_
  rintro e w' ⟨rfl, rfl⟩
  go_wp2_with fail
  first | go_region_with (go_at_call 114; refine (fst4_any _ (zs.drop n) a m _ (HC.out.ext (by repeat (first | exact Below.refl _ _ | apply below_drewN | refine ext_alloc ?_ _ | apply Below.drew))) (HB.out.drop n) HN.out HF.out).mono ?_; rintro e w1 ⟨rfl, hb1⟩; have HW1 : Hid (Below w'.heap.size w' w1) := ext_trans (by repeat (first | exact Below.refl _ _ | apply below_drewN | refine ext_alloc ?_ _ | apply Below.drew)) hb1; clear hb1) | fail
  all_goals
    go_wp2
    go_ret2
    exact ⟨rfl, (by repeat (first | exact HW1.out | exact Below.refl _ _ | apply below_drewN | refine ext_alloc ?_ _ | apply Below.drew))⟩
end Go.Proofs.YtmfbobibpebfnaaGreat

/- Prev: of the code, at each encoding. -/
namespace Go.Proofs.YtmfbobibpebfnaaGreat
open Go.RowKit

set_option maxRecDepth 100000 in
set_option maxHeartbeats 2000000 in
theorem Prev_1 (v : Value) (zs : List Int) (n : Nat) (w : World) (h : Rd .u8 w v zs) (hb : Byt zs) (h0 : 0 < n) (hn : n ≤ zs.length) :
    Calls Tryz.prog 46 #[.int .i64 1, v, .int .i64 n] w fun e w' => e = .returned (.tuple #[.int .i64 (Cx.lst 1 (zs.take n)).1, .int .i64 (Cx.lst 1 (zs.take n)).2]) ∧ Below w.heap.size w w' := by
  have HR : Hid (Rd .u8 w v zs) := h
  have HB : Hid (Byt zs) := hb
  have hlen := h.len
  obtain ⟨ao, cap, rfl, hl, hm, hc⟩ := h
  obtain ⟨b, off, rfl, _⟩ := hc (List.length_pos_iff.1 (by omega))
  have HN : Hid (zs.take n ≠ []) := List.length_pos_iff.1 (by rw [List.length_take]; omega)
  have hcm : cap ≤ 9223372036854775807 := hm
  have hnc : n ≤ cap := by omega
  have HX : Hid (∀ w' : World, Below w.heap.size w w' → Calls Tryz.prog 93 #[.agg #[], .slice (some ⟨b, off, none⟩) n cap] w' fun e w'' => e = .returned (.tuple #[.int .i64 (Cx.lst 1 (zs.take n)).1, .int .i64 (Cx.lst 1 (zs.take n)).2]) ∧ Below w'.heap.size w' w'') := fun w' hw => lst1_any (.slice (some ⟨b, off, none⟩) n cap) (zs.take n) w' ((HR.out.take n hn).ext hw) (HB.out.take n) HN.out
  generalize (Cx.lst 1 (zs.take n)).1 = x at *
  generalize (Cx.lst 1 (zs.take n)).2 = y at *
  clear hb hc hm
  have hmt := m_last1
  have hnt := n_last1
  go_enter Tryz.func46, Tryz.ntmps46
  go_wp2_with fail
  refine (coderOf_1 _).mono ?_
  rintro e w' ⟨rfl, rfl⟩
  go_wp2_with fail
  first | go_region_with (go_at_call 93; refine (HX.out _ (by repeat (first | exact Below.refl _ _ | apply below_drewN | refine ext_alloc ?_ _ | apply Below.drew))).mono ?_; rintro e w1 ⟨rfl, hb1⟩; have HW1 : Hid (Below w'.heap.size w' w1) := ext_trans (by repeat (first | exact Below.refl _ _ | apply below_drewN | refine ext_alloc ?_ _ | apply Below.drew)) hb1; clear hb1) | fail
  all_goals
    go_wp2
    go_ret2
    exact ⟨rfl, (by repeat (first | exact HW1.out | exact Below.refl _ _ | apply below_drewN | refine ext_alloc ?_ _ | apply Below.drew))⟩

set_option maxRecDepth 100000 in
set_option maxHeartbeats 2000000 in
theorem Prev_2 (v : Value) (zs : List Int) (n : Nat) (w : World) (h : Rd .u8 w v zs) (hb : Byt zs) (h0 : 0 < n) (hn : n ≤ zs.length) :
    Calls Tryz.prog 46 #[.int .i64 2, v, .int .i64 n] w fun e w' => e = .returned (.tuple #[.int .i64 (Cx.lst 2 (zs.take n)).1, .int .i64 (Cx.lst 2 (zs.take n)).2]) ∧ Below w.heap.size w w' := by
  have HR : Hid (Rd .u8 w v zs) := h
  have HB : Hid (Byt zs) := hb
  have hlen := h.len
  obtain ⟨ao, cap, rfl, hl, hm, hc⟩ := h
  obtain ⟨b, off, rfl, _⟩ := hc (List.length_pos_iff.1 (by omega))
  have HN : Hid (zs.take n ≠ []) := List.length_pos_iff.1 (by rw [List.length_take]; omega)
  have hcm : cap ≤ 9223372036854775807 := hm
  have hnc : n ≤ cap := by omega
  have HX : Hid (∀ w' : World, Below w.heap.size w w' → Calls Tryz.prog 103 #[.agg #[.int .i64 0], .slice (some ⟨b, off, none⟩) n cap] w' fun e w'' => e = .returned (.tuple #[.int .i64 (Cx.lst 2 (zs.take n)).1, .int .i64 (Cx.lst 2 (zs.take n)).2]) ∧ Below w'.heap.size w' w'') := fun w' hw => lst2_any (.slice (some ⟨b, off, none⟩) n cap) (zs.take n) w' ((HR.out.take n hn).ext hw) (HB.out.take n) HN.out
  generalize (Cx.lst 2 (zs.take n)).1 = x at *
  generalize (Cx.lst 2 (zs.take n)).2 = y at *
  clear hb hc hm
  have hmt := m_last2
  have hnt := n_last2
  go_enter Tryz.func46, Tryz.ntmps46
  go_wp2_with fail
  refine (coderOf_2 _).mono ?_
  rintro e w' ⟨rfl, rfl⟩
  go_wp2_with fail
  first | go_region_with (go_at_call 103; refine (HX.out _ (by repeat (first | exact Below.refl _ _ | apply below_drewN | refine ext_alloc ?_ _ | apply Below.drew))).mono ?_; rintro e w1 ⟨rfl, hb1⟩; have HW1 : Hid (Below w'.heap.size w' w1) := ext_trans (by repeat (first | exact Below.refl _ _ | apply below_drewN | refine ext_alloc ?_ _ | apply Below.drew)) hb1; clear hb1) | fail
  all_goals
    go_wp2
    go_ret2
    exact ⟨rfl, (by repeat (first | exact HW1.out | exact Below.refl _ _ | apply below_drewN | refine ext_alloc ?_ _ | apply Below.drew))⟩

set_option maxRecDepth 100000 in
set_option maxHeartbeats 2000000 in
theorem Prev_3 (v : Value) (zs : List Int) (n : Nat) (w : World) (h : Rd .u8 w v zs) (hb : Byt zs) (h0 : 0 < n) (hn : n ≤ zs.length) :
    Calls Tryz.prog 46 #[.int .i64 3, v, .int .i64 n] w fun e w' => e = .returned (.tuple #[.int .i64 (Cx.lst 3 (zs.take n)).1, .int .i64 (Cx.lst 3 (zs.take n)).2]) ∧ Below w.heap.size w w' := by
  have HR : Hid (Rd .u8 w v zs) := h
  have HB : Hid (Byt zs) := hb
  have hlen := h.len
  obtain ⟨ao, cap, rfl, hl, hm, hc⟩ := h
  obtain ⟨b, off, rfl, _⟩ := hc (List.length_pos_iff.1 (by omega))
  have HN : Hid (zs.take n ≠ []) := List.length_pos_iff.1 (by rw [List.length_take]; omega)
  have hcm : cap ≤ 9223372036854775807 := hm
  have hnc : n ≤ cap := by omega
  have HX : Hid (∀ w' : World, Below w.heap.size w w' → Calls Tryz.prog 103 #[.agg #[.int .i64 1], .slice (some ⟨b, off, none⟩) n cap] w' fun e w'' => e = .returned (.tuple #[.int .i64 (Cx.lst 3 (zs.take n)).1, .int .i64 (Cx.lst 3 (zs.take n)).2]) ∧ Below w'.heap.size w' w'') := fun w' hw => lst3_any (.slice (some ⟨b, off, none⟩) n cap) (zs.take n) w' ((HR.out.take n hn).ext hw) (HB.out.take n) HN.out
  generalize (Cx.lst 3 (zs.take n)).1 = x at *
  generalize (Cx.lst 3 (zs.take n)).2 = y at *
  clear hb hc hm
  have hmt := m_last2
  have hnt := n_last2
  go_enter Tryz.func46, Tryz.ntmps46
  go_wp2_with fail
  refine (coderOf_3 _).mono ?_
  rintro e w' ⟨rfl, rfl⟩
  go_wp2_with fail
  first | go_region_with (go_at_call 103; refine (HX.out _ (by repeat (first | exact Below.refl _ _ | apply below_drewN | refine ext_alloc ?_ _ | apply Below.drew))).mono ?_; rintro e w1 ⟨rfl, hb1⟩; have HW1 : Hid (Below w'.heap.size w' w1) := ext_trans (by repeat (first | exact Below.refl _ _ | apply below_drewN | refine ext_alloc ?_ _ | apply Below.drew)) hb1; clear hb1) | fail
  all_goals
    go_wp2
    go_ret2
    exact ⟨rfl, (by repeat (first | exact HW1.out | exact Below.refl _ _ | apply below_drewN | refine ext_alloc ?_ _ | apply Below.drew))⟩

set_option maxRecDepth 100000 in
set_option maxHeartbeats 2000000 in
theorem Prev_4 (v : Value) (zs : List Int) (n : Nat) (w : World) (h : Rd .u8 w v zs) (hb : Byt zs) (h0 : 0 < n) (hn : n ≤ zs.length) :
    Calls Tryz.prog 46 #[.int .i64 4, v, .int .i64 n] w fun e w' => e = .returned (.tuple #[.int .i64 (Cx.lst 4 (zs.take n)).1, .int .i64 (Cx.lst 4 (zs.take n)).2]) ∧ Below w.heap.size w w' := by
  have HR : Hid (Rd .u8 w v zs) := h
  have HB : Hid (Byt zs) := hb
  have hlen := h.len
  obtain ⟨ao, cap, rfl, hl, hm, hc⟩ := h
  obtain ⟨b, off, rfl, _⟩ := hc (List.length_pos_iff.1 (by omega))
  have HN : Hid (zs.take n ≠ []) := List.length_pos_iff.1 (by rw [List.length_take]; omega)
  have hcm : cap ≤ 9223372036854775807 := hm
  have hnc : n ≤ cap := by omega
  have HX : Hid (∀ w' : World, Below w.heap.size w w' → Calls Tryz.prog 115 #[.agg #[], .slice (some ⟨b, off, none⟩) n cap] w' fun e w'' => e = .returned (.tuple #[.int .i64 (Cx.lst 4 (zs.take n)).1, .int .i64 (Cx.lst 4 (zs.take n)).2]) ∧ Below w'.heap.size w' w'') := fun w' hw => lst4_any (.slice (some ⟨b, off, none⟩) n cap) (zs.take n) w' ((HR.out.take n hn).ext hw) (HB.out.take n) HN.out
  generalize (Cx.lst 4 (zs.take n)).1 = x at *
  generalize (Cx.lst 4 (zs.take n)).2 = y at *
  clear hb hc hm
  have hmt := m_last4
  have hnt := n_last4
  go_enter Tryz.func46, Tryz.ntmps46
  go_wp2_with fail
  refine (coderOf_4 _).mono ?_
  rintro e w' ⟨rfl, rfl⟩
  go_wp2_with fail
  first | go_region_with (go_at_call 115; refine (HX.out _ (by repeat (first | exact Below.refl _ _ | apply below_drewN | refine ext_alloc ?_ _ | apply Below.drew))).mono ?_; rintro e w1 ⟨rfl, hb1⟩; have HW1 : Hid (Below w'.heap.size w' w1) := ext_trans (by repeat (first | exact Below.refl _ _ | apply below_drewN | refine ext_alloc ?_ _ | apply Below.drew)) hb1; clear hb1) | fail
  all_goals
    go_wp2
    go_ret2
    exact ⟨rfl, (by repeat (first | exact HW1.out | exact Below.refl _ _ | apply below_drewN | refine ext_alloc ?_ _ | apply Below.drew))⟩
end Go.Proofs.YtmfbobibpebfnaaGreat

/- Next and Prev at any encoding and place; the document's Next and Prev. -/
namespace Go.Proofs.YtmfbobibpebfnaaGreat
open Go.RowKit

theorem Cx.nx_yes (enc : Int) (zs : List Int) (n : Nat) (hk : Cx.known enc = true) (h : n < zs.length) : Cx.nx enc zs n = Cx.fst enc (zs.drop n) := by
  unfold Cx.nx; rw [if_pos ⟨hk, by omega, by omega⟩, Int.toNat_natCast]
theorem Cx.pv_yes (enc : Int) (zs : List Int) (n : Nat) (hk : Cx.known enc = true) (h0 : 0 < n) (h : n ≤ zs.length) : Cx.pv enc zs n = Cx.lst enc (zs.take n) := by
  unfold Cx.pv; rw [if_pos ⟨hk, by omega, by omega⟩, Int.toNat_natCast]

set_option maxRecDepth 100000 in
/-- codec.Next: every encoding, every place. -/
theorem Next_any (enc : Int) (v : Value) (zs : List Int) (a : Int) (w : World) (h : Rd .u8 w v zs) (hb : Byt zs) :
    Calls Tryz.prog 45 #[.int .i64 enc, v, .int .i64 a] w fun e w' => e = .returned (.tuple #[.int .i64 (Cx.nx enc zs a).1, .int .i64 (Cx.nx enc zs a).2]) ∧ Below w.heap.size w w' := by
  by_cases hy : Cx.known enc = true ∧ 0 ≤ a ∧ a < zs.length
  · obtain ⟨hk, h0, h1⟩ := hy
    obtain ⟨n, rfl⟩ : ∃ n : Nat, a = n := ⟨a.toNat, by omega⟩
    have hn : n < zs.length := by omega
    rw [Cx.nx_yes enc zs n hk hn]
    rcases (Cx.known_iff enc).1 hk with rfl | rfl | rfl | rfl
    · exact Next_1 v zs n w h hb hn
    · exact Next_2 v zs n w h hb hn
    · exact Next_3 v zs n w h hb hn
    · exact Next_4 v zs n w h hb hn
  · have HE : Hid (Cx.nx enc zs a = (0, 0)) := by unfold Hid Cx.nx; rw [if_neg hy]
    obtain ⟨ao, cap, rfl, _⟩ := h
    cases hk : Cx.known enc
    · obtain ⟨h1, h2, h3, h4⟩ := Cx.known_no enc hk
      clear hy hb
      go_enter Tryz.func45, Tryz.ntmps45
      go_wp2_with fail
      refine (coderOf_no _ h1 h2 h3 h4 _).mono ?_
      rintro e w' ⟨rfl, rfl⟩
      clear h1 h2 h3 h4
      go_wp2
      go_ret2
      exact ⟨by rw [HE.out]; rfl, Below.refl _ _⟩
    · by_cases h0 : a < 0
      · have hd0 : decide (a < 0) = true := decide_eq_true h0
        clear hy hb
        go_enter Tryz.func45, Tryz.ntmps45
        go_wp2_with fail
        refine (coderOf_any _ _).mono ?_
        rintro e w' ⟨rfl, rfl⟩
        rw [hk]
        generalize Cx.cv enc = cv
        go_wp2
        go_ret2
        exact ⟨by rw [HE.out]; rfl, Below.refl _ _⟩
      · have h1 : (zs.length : Int) ≤ a := by
          by_cases h : a < zs.length
          · exact absurd ⟨hk, by omega, h⟩ hy
          · omega
        have hd0 : decide (a < 0) = false := decide_eq_false h0
        have hd1 : decide ((zs.length : Int) ≤ a) = true := decide_eq_true h1
        clear hy hb
        go_enter Tryz.func45, Tryz.ntmps45
        go_wp2_with fail
        refine (coderOf_any _ _).mono ?_
        rintro e w' ⟨rfl, rfl⟩
        rw [hk]
        generalize Cx.cv enc = cv
        go_wp2
        go_ret2
        exact ⟨by rw [HE.out]; rfl, Below.refl _ _⟩

set_option maxRecDepth 100000 in
/-- codec.Prev: every encoding, every place. -/
theorem Prev_any (enc : Int) (v : Value) (zs : List Int) (a : Int) (w : World) (h : Rd .u8 w v zs) (hb : Byt zs) :
    Calls Tryz.prog 46 #[.int .i64 enc, v, .int .i64 a] w fun e w' => e = .returned (.tuple #[.int .i64 (Cx.pv enc zs a).1, .int .i64 (Cx.pv enc zs a).2]) ∧ Below w.heap.size w w' := by
  by_cases hy : Cx.known enc = true ∧ 0 < a ∧ a ≤ zs.length
  · obtain ⟨hk, h0, h1⟩ := hy
    obtain ⟨n, rfl⟩ : ∃ n : Nat, a = n := ⟨a.toNat, by omega⟩
    have hn : n ≤ zs.length := by omega
    have h0' : 0 < n := by omega
    rw [Cx.pv_yes enc zs n hk h0' hn]
    rcases (Cx.known_iff enc).1 hk with rfl | rfl | rfl | rfl
    · exact Prev_1 v zs n w h hb h0' hn
    · exact Prev_2 v zs n w h hb h0' hn
    · exact Prev_3 v zs n w h hb h0' hn
    · exact Prev_4 v zs n w h hb h0' hn
  · have HE : Hid (Cx.pv enc zs a = (0, 0)) := by unfold Hid Cx.pv; rw [if_neg hy]
    obtain ⟨ao, cap, rfl, _⟩ := h
    cases hk : Cx.known enc
    · obtain ⟨h1, h2, h3, h4⟩ := Cx.known_no enc hk
      clear hy hb
      go_enter Tryz.func46, Tryz.ntmps46
      go_wp2_with fail
      refine (coderOf_no _ h1 h2 h3 h4 _).mono ?_
      rintro e w' ⟨rfl, rfl⟩
      clear h1 h2 h3 h4
      go_wp2
      go_ret2
      exact ⟨by rw [HE.out]; rfl, Below.refl _ _⟩
    · by_cases h0 : a ≤ 0
      · have hd0 : decide (a ≤ 0) = true := decide_eq_true h0
        clear hy hb
        go_enter Tryz.func46, Tryz.ntmps46
        go_wp2_with fail
        refine (coderOf_any _ _).mono ?_
        rintro e w' ⟨rfl, rfl⟩
        rw [hk]
        generalize Cx.cv enc = cv
        go_wp2
        go_ret2
        exact ⟨by rw [HE.out]; rfl, Below.refl _ _⟩
      · have h1 : (zs.length : Int) < a := by
          by_cases h : a ≤ zs.length
          · exact absurd ⟨hk, by omega, h⟩ hy
          · omega
        have hd0 : decide (a ≤ 0) = false := decide_eq_false h0
        have hd1 : decide ((zs.length : Int) < a) = true := decide_eq_true h1
        clear hy hb
        go_enter Tryz.func46, Tryz.ntmps46
        go_wp2_with fail
        refine (coderOf_any _ _).mono ?_
        rintro e w' ⟨rfl, rfl⟩
        rw [hk]
        generalize Cx.cv enc = cv
        go_wp2
        go_ret2
        exact ⟨by rw [HE.out]; rfl, Below.refl _ _⟩

set_option maxRecDepth 100000 in
/-- The document's Next. -/
theorem rNext_any (enc : Int) (v : Value) (zs : List Int) (a : Int) (w : World) (h : Rd .u8 w v zs) (hb : Byt zs) (hm : zs.length ≤ 4611686018427387000) :
    Calls Tryz.prog 47 #[.int .i64 enc, v, .int .i64 a] w fun e w' => e = .returned (.tuple #[.int .i64 (Cx.nx enc zs a).1, .int .i64 (Cx.nx enc zs a).2]) ∧ Below w.heap.size w w' := by
  have HR : Hid (Rd .u8 w v zs) := h
  have HB : Hid (Byt zs) := hb
  obtain ⟨ao, cap, rfl, hl, hcm, hc⟩ := h
  have hcm' : cap ≤ 9223372036854775807 := hcm
  by_cases hy : Cx.known enc = true ∧ 0 ≤ a ∧ a < zs.length
  · obtain ⟨hk, h0, h1⟩ := hy
    obtain ⟨n, rfl⟩ : ∃ n : Nat, a = n := ⟨a.toNat, by omega⟩
    have hn : n < zs.length := by omega
    have HE : Hid (Cx.nx enc zs n = Cx.fst enc (zs.drop n)) := Cx.nx_yes enc zs n hk hn
    have HK : Hid (enc = 1 ∨ enc = 2 ∨ enc = 3 ∨ enc = 4) := (Cx.known_iff enc).1 hk
    obtain ⟨b, off, rfl, _⟩ := hc (List.length_pos_iff.1 (by omega))
    have hcn : ¬ cap = n := by omega
    have HC : Hid (Rd .u8 w (.slice (some ⟨b, off + n, none⟩) (zs.length - n) (cap - n)) (zs.drop n)) := HR.out.cut (by omega)
    have hdl : Hid ((zs.drop n).length = zs.length - n) := List.length_drop
    clear hc hb hcm
    generalize hR : Cx.fst enc (zs.drop n) = R at *
    have HRR : Hid (Cx.fst enc ((zs.drop n).drop 0) = R) := by unfold Hid; rw [List.drop_zero]; exact hR
    clear hR
    go_enter Tryz.func47, Tryz.ntmps47
    go_wp2_with fail
    refine (rknown_any _ _).mono ?_
    rintro e w' ⟨rfl, rfl⟩
    rw [hk]
    go_wp2_with fail
    refine (At_any enc _ (zs.drop n) 0 _ HC.out (HB.out.drop n) HK.out (by rw [hdl.out]; omega) (by rw [hdl.out]; omega)).mono ?_
    rw [HRR.out]
    rintro e w1 ⟨rfl, hb1⟩
    go_wp2
    go_ret2
    exact ⟨by rw [HE.out]; rfl, hb1⟩
  · have HE : Hid (Cx.nx enc zs a = (0, 0)) := by unfold Hid Cx.nx; rw [if_neg hy]
    cases hk : Cx.known enc
    · clear hy hb hc
      go_enter Tryz.func47, Tryz.ntmps47
      go_wp2_with fail
      refine (rknown_any _ _).mono ?_
      rintro e w' ⟨rfl, rfl⟩
      rw [hk]
      go_wp2
      go_ret2
      exact ⟨by rw [HE.out]; rfl, Below.refl _ _⟩
    · by_cases h0 : a < 0
      · have hd0 : decide (a < 0) = true := decide_eq_true h0
        clear hy hb hc
        go_enter Tryz.func47, Tryz.ntmps47
        go_wp2_with fail
        refine (rknown_any _ _).mono ?_
        rintro e w' ⟨rfl, rfl⟩
        rw [hk]
        go_wp2
        go_ret2
        exact ⟨by rw [HE.out]; rfl, Below.refl _ _⟩
      · have h1 : (zs.length : Int) ≤ a := by
          by_cases h : a < zs.length
          · exact absurd ⟨hk, by omega, h⟩ hy
          · omega
        have hd0 : decide (a < 0) = false := decide_eq_false h0
        have hd1 : decide ((zs.length : Int) ≤ a) = true := decide_eq_true h1
        clear hy hb hc
        go_enter Tryz.func47, Tryz.ntmps47
        go_wp2_with fail
        refine (rknown_any _ _).mono ?_
        rintro e w' ⟨rfl, rfl⟩
        rw [hk]
        go_wp2
        go_ret2
        exact ⟨by rw [HE.out]; rfl, Below.refl _ _⟩
end Go.Proofs.YtmfbobibpebfnaaGreat

/- The document's Prev. -/
namespace Go.Proofs.YtmfbobibpebfnaaGreat
open Go.RowKit

set_option maxRecDepth 100000 in
/-- The document's Prev. -/
theorem rPrev_any (enc : Int) (v : Value) (zs : List Int) (a : Int) (w : World) (h : Rd .u8 w v zs) (hb : Byt zs) (hm : zs.length ≤ 4611686018427387000) :
    Calls Tryz.prog 48 #[.int .i64 enc, v, .int .i64 a] w fun e w' => e = .returned (.tuple #[.int .i64 (Cx.pv enc zs a).1, .int .i64 (Cx.pv enc zs a).2]) ∧ Below w.heap.size w w' := by
  have HR : Hid (Rd .u8 w v zs) := h
  have HB : Hid (Byt zs) := hb
  obtain ⟨ao, cap, rfl, hl, hcm, hc⟩ := h
  have hcm' : cap ≤ 9223372036854775807 := hcm
  by_cases hy : Cx.known enc = true ∧ 0 < a ∧ a ≤ zs.length
  · obtain ⟨hk, h0, h1⟩ := hy
    obtain ⟨n, rfl⟩ : ∃ n : Nat, a = n := ⟨a.toNat, by omega⟩
    have hn : n ≤ zs.length := by omega
    have h0' : 0 < n := by omega
    have HE : Hid (Cx.pv enc zs n = Cx.lst enc (zs.take n)) := Cx.pv_yes enc zs n hk h0' hn
    have HK : Hid (enc = 1 ∨ enc = 2 ∨ enc = 3 ∨ enc = 4) := (Cx.known_iff enc).1 hk
    obtain ⟨b, off, rfl, _⟩ := hc (List.length_pos_iff.1 (by omega))
    have hnc : n ≤ cap := by omega
    have hdn : decide (zs.length < n) = false := decide_eq_false (by omega)
    have HC : Hid (Rd .u8 w (.slice (some ⟨b, off, none⟩) n cap) (zs.take n)) := HR.out.take n hn
    have hZl' : (zs.take n).length = n := by rw [List.length_take]; omega
    have hZb : Hid (Byt (zs.take n)) := HB.out.take n
    clear hc hb hcm
    generalize zs.take n = Z at *
    have hZl : Hid (Z.length = n) := hZl'
    clear hZl'
    go_enter Tryz.func48, Tryz.ntmps48
    go_wp2_with fail
    refine (rknown_any _ _).mono ?_
    rintro e w' ⟨rfl, rfl⟩
    rw [hk]
    go_wp2_with fail
    go_loopw [9, 10, 11] (fun av nv iv wr => ∃ (k : Nat) (x y : Int), k ≤ n ∧ av = .int .i64 x ∧ nv = .int .i64 y ∧ iv = .int .i64 k ∧ Hid ((k = n → Cx.lst enc Z = (x, y)) ∧ (k < n → Cx.lst enc Z = Cx.lst enc (Z.drop k))) ∧ Below w'.heap.size w' wr) (fun _ _ iv _ => n - (intOf iv).toNat)
    case atStart => exact ⟨0, 0, 0, Nat.zero_le _, rfl, rfl, rfl, ⟨fun h => by omega, fun _ => by rw [List.drop_zero]⟩, Below.refl _ _⟩
    case round =>
      obtain ⟨k, x, y, hk1, rfl, rfl, rfl, HI, hbw⟩ := hrel
      by_cases hlt : k < n
      · have hne : Z.drop k ≠ [] := List.length_pos_iff.1 (by rw [List.length_drop, hZl.out]; omega)
        have hdl : (Z.drop k).length = n - k := by rw [List.length_drop, hZl.out]
        obtain ⟨a', m, hf, hm1, hm2⟩ : ∃ (a' : Int) (m : Nat), Cx.fst enc (Z.drop k) = (a', (m : Int)) ∧ 1 ≤ m ∧ m ≤ (Z.drop k).length := by
          have := Cx.fst_bd enc (Z.drop k) hne
          exact ⟨_, (Cx.fst enc (Z.drop k)).2.toNat, Prod.ext rfl (by simp only; omega), by omega, by omega⟩
        rw [hdl] at hm2
        have HF : Hid (Cx.fst enc (Z.drop k) = (a', (m : Int))) := hf
        have HN : Hid ((k + m = n → Cx.lst enc Z = (a', (m : Int))) ∧ (k + m < n → Cx.lst enc Z = Cx.lst enc (Z.drop (k + m)))) := by
          refine ⟨fun he => ?_, fun hl' => ?_⟩
          · rw [HI.out.2 hlt, Cx.last_one enc _ (hZb.out.drop k) hne HK.out (by rw [hf, hdl]; simp only; omega), hf]
          · rw [HI.out.2 hlt, Cx.last_more enc _ (hZb.out.drop k) hne HK.out m (by rw [hf]) (by rw [hdl]; omega), List.drop_drop]
        clear hf hne hdl HI
        go_wp2_with fail
        refine (At_fst enc _ Z k a' m _ (HC.out.ext hbw) hZb.out HK.out (by rw [hZl.out]; exact hlt) (by rw [hZl.out]; omega) HF.out).mono ?_
        rintro e w1 ⟨rfl, hb1⟩
        have hbw1 : Below w'.heap.size w' w1 := ext_trans hbw hb1
        clear hbw hb1
        go_wp2
        go_roundw
        case rel => exact ⟨k + m, a', m, by omega, rfl, rfl, by go_num, HN.out, hbw1⟩
        case measure => simp [intOf]; omega
      · have HL : Hid (Cx.lst enc Z = (x, y)) := HI.out.1 (by omega)
        clear HI
        go_wp2
        go_ret2
        exact ⟨by rw [HE.out, HL.out]; rfl, hbw⟩
  · have HE : Hid (Cx.pv enc zs a = (0, 0)) := by unfold Hid Cx.pv; rw [if_neg hy]
    cases hk : Cx.known enc
    · clear hy hb hc
      go_enter Tryz.func48, Tryz.ntmps48
      go_wp2_with fail
      refine (rknown_any _ _).mono ?_
      rintro e w' ⟨rfl, rfl⟩
      rw [hk]
      go_wp2
      go_ret2
      exact ⟨by rw [HE.out]; rfl, Below.refl _ _⟩
    · by_cases h0 : a ≤ 0
      · have hd0 : decide (a ≤ 0) = true := decide_eq_true h0
        clear hy hb hc
        go_enter Tryz.func48, Tryz.ntmps48
        go_wp2_with fail
        refine (rknown_any _ _).mono ?_
        rintro e w' ⟨rfl, rfl⟩
        rw [hk]
        go_wp2
        go_ret2
        exact ⟨by rw [HE.out]; rfl, Below.refl _ _⟩
      · have h1 : (zs.length : Int) < a := by
          by_cases h : a ≤ zs.length
          · exact absurd ⟨hk, by omega, h⟩ hy
          · omega
        have hd0 : decide (a ≤ 0) = false := decide_eq_false h0
        have hd1 : decide ((zs.length : Int) < a) = true := decide_eq_true h1
        clear hy hb hc
        go_enter Tryz.func48, Tryz.ntmps48
        go_wp2_with fail
        refine (rknown_any _ _).mono ?_
        rintro e w' ⟨rfl, rfl⟩
        rw [hk]
        go_wp2
        go_ret2
        exact ⟨by rw [HE.out]; rfl, Below.refl _ _⟩
end Go.Proofs.YtmfbobibpebfnaaGreat

/- tokens and the law CodecTokens. -/
namespace Go.Proofs.YtmfbobibpebfnaaGreat
open Go.RowKit

set_option maxRecDepth 100000 in
set_option maxHeartbeats 1000000 in
theorem tokens_any (enc : Int) (v : Value) (z : List Int) (a : Int) (w : World) (h : Rd .u8 w v z) (hb : Byt z) (hz : z.length + 40 ≤ 140737488355328) :
    Calls Tryz.prog 25 #[.int .i64 enc, v, .int .i64 a] w fun e w' => e = .returned (.bool true) ∧ Below w.heap.size w w' := by
  obtain ⟨ao, cp, rfl, _⟩ := id h
  have HR : Hid (Rd .u8 w (.slice ao z.length cp) z) := h
  have HB : Hid (Byt z) := hb
  clear h hb
  go_enter Tryz.func25, Tryz.ntmps25
  go_wp2_with fail
  refine (lend_any _ z _ HR.out (by omega)).mono ?_
  rintro e w1 ⟨g, cap, rfl, hL1, hb1⟩
  have HL : Hid (Lent w1 w.heap.size g cap z) := hL1
  have hcap : z.length + 40 ≤ cap := hL1.1
  have hcm : cap ≤ 9223372036854775807 := hL1.2.1
  have HW1 : Hid (Below w.heap.size w w1) := hb1
  clear hL1 hb1
  go_wp2_with fail
  refine (Next_any enc _ z a _ HL.out.rd HB.out).mono ?_
  rintro e w2 ⟨rfl, hb2⟩
  have HW2 : Hid (Below w1.heap.size w1 w2) := hb2
  clear hb2
  go_wp2_with fail
  refine (Prev_any enc _ z a _ (HL.out.rd.ext HW2.out) HB.out).mono ?_
  rintro e w3 ⟨rfl, hb3⟩
  have HW3 : Hid (Below w1.heap.size w1 w3) := ext_trans HW2.out hb3
  clear hb3
  go_wp2_with fail
  refine (rNext_any enc _ z a _ (HR.out.ext (ext_trans HW1.out HW3.out)) HB.out (by omega)).mono ?_
  rintro e w4 ⟨rfl, hb4⟩
  have HW4 : Hid (Below w1.heap.size w1 w4) := ext_trans HW3.out hb4
  clear hb4
  go_wp2_with fail
  refine (rPrev_any enc _ z a _ (HR.out.ext (ext_trans HW1.out HW4.out)) HB.out (by omega)).mono ?_
  rintro e w5 ⟨rfl, hb5⟩
  have HW5 : Hid (Below w1.heap.size w1 w5) := ext_trans HW4.out hb5
  have HR5 : Hid (Rd .u8 w5 (.slice ao z.length cp) z) := HR.out.ext (ext_trans HW1.out HW5.out)
  have HL5 : Hid (Lent w5 w.heap.size g cap z) := HL.out.ext HW5.out
  clear hb5
  generalize (Cx.nx enc z a).1 = x1 at *
  generalize (Cx.nx enc z a).2 = x2 at *
  generalize (Cx.pv enc z a).1 = y1 at *
  generalize (Cx.pv enc z a).2 = y2 at *
  go_wp2_with fail
  refine (kept_any _ z g cap _ _ HR5.out HL5.out).mono ?_
  rintro e w7 ⟨rfl, hb7⟩
  have HW7 : Hid (Below w1.heap.size w1 w7) := ext_trans HW5.out hb7
  have HL7 : Hid (Lent w7 w.heap.size g cap z) := HL5.out.ext hb7
  clear hb7
  go_wp2_with fail
  refine (turned_any z g cap _ _ (by omega) HL7.out).mono ?_
  rintro e w8 ⟨o, rfl, hL8, hO8, hg8⟩
  have hT := turn_len z
  have hTb : Hid (Byt (turn z)) := turn_byt z
  have HL8 : Hid (Lent w8 w.heap.size g cap (turn z)) := hL8
  have HO8 : Hid (Rd .u8 w8 o (turn z)) := Rd.of_own hO8
  have HG8 : Hid (w7.grownBy w8 (some g)) := hg8
  clear hL8 hO8 hg8
  have hrd8 := HL8.out.rd
  rw [hT] at hrd8
  have HRD : Hid (Rd .u8 w8 (.slice (some ⟨g, 0, none⟩) z.length cap) (turn z)) := hrd8
  have HTL : Hid ((turn z).length ≤ 4611686018427387000) := by unfold Hid; omega
  clear hrd8 hT
  go_wp2_with fail
  refine (Next_any enc _ (turn z) a _ HRD.out hTb.out).mono ?_
  rintro e w9 ⟨rfl, hb9⟩
  have HW9 : Hid (Below w8.heap.size w8 w9) := hb9
  clear hb9
  go_wp2_with fail
  refine (Prev_any enc _ (turn z) a _ (HRD.out.ext HW9.out) hTb.out).mono ?_
  rintro e w10 ⟨rfl, hb10⟩
  have HW10 : Hid (Below w8.heap.size w8 w10) := ext_trans HW9.out hb10
  clear hb10
  go_wp2_with fail
  refine (rNext_any enc _ (turn z) a _ (HO8.out.ext HW10.out) hTb.out HTL.out).mono ?_
  rintro e w11 ⟨rfl, hb11⟩
  have HW11 : Hid (Below w8.heap.size w8 w11) := ext_trans HW10.out hb11
  clear hb11
  go_wp2_with fail
  refine (rPrev_any enc _ (turn z) a _ (HO8.out.ext HW11.out) hTb.out HTL.out).mono ?_
  rintro e w12 ⟨rfl, hb12⟩
  have HW12 : Hid (Below w8.heap.size w8 w12) := ext_trans HW11.out hb12
  clear hb12
  generalize (Cx.nx enc (turn z) a).1 = x3 at *
  generalize (Cx.nx enc (turn z) a).2 = x4 at *
  generalize (Cx.pv enc (turn z) a).1 = y3 at *
  generalize (Cx.pv enc (turn z) a).2 = y4 at *
  go_wp2
  go_ret
  refine ⟨rfl, ?_⟩
  have hA : Below w.heap.size w w7 := ext_trans HW1.out HW7.out
  have hB : Below w.heap.size w w8 := hA.grown HG8.out hA.size (fun k hk => by cases hk; exact HL8.out.2.2.1)
  exact ext_trans hB HW12.out
end Go.Proofs.YtmfbobibpebfnaaGreat
