/- Next: of the code, at each encoding. -/
import Derived.Test.YtbfbaknfeleddaaTokH
namespace Go.Proofs.Ytbfbaknfeleddaa
open Go.RowKit

set_option maxRecDepth 100000 in
set_option maxHeartbeats 2000000 in
theorem Next_1 (v : Value) (zs : List Int) (n : Nat) (w : World) (h : Rd .u8 w v zs) (hb : Byt zs) (hn : n < zs.length) :
    Calls Try.prog 21 #[.int .i64 1, v, .int .i64 n] w fun e w' => e = .returned (.tuple #[.int .i64 (Cx.fst 1 (zs.drop n)).1, .int .i64 (Cx.fst 1 (zs.drop n)).2]) ∧ Below w.heap.size w w' := by
  have HR : Hid (Rd .u8 w v zs) := h
  have HB : Hid (Byt zs) := hb
  have hlen := h.len
  obtain ⟨ao, cap, rfl, hl, hm, hc⟩ := h
  obtain ⟨b, off, rfl, _⟩ := hc (List.length_pos_iff.1 (by omega))
  have HN : Hid (zs.drop n ≠ []) := List.length_pos_iff.1 (by rw [List.length_drop]; omega)
  obtain ⟨a, m, hf⟩ : ∃ (a : Int) (m : Nat), Cx.fst 1 (zs.drop n) = (a, (m : Int)) := by
    have := Cx.fst_bd 1 (zs.drop n) HN.out
    exact ⟨_, (Cx.fst 1 (zs.drop n)).2.toNat, Prod.ext rfl (by simp only; omega)⟩
  have HF : Hid (Cx.fst 1 (zs.drop n) = (a, (m : Int))) := hf
  have hcn : ¬ cap = n := by omega
  have HC : Hid (Rd .u8 w (.slice (some ⟨b, off + n, none⟩) (zs.length - n) (cap - n)) (zs.drop n)) := HR.out.cut (by omega)
  have hcm : cap ≤ 9223372036854775807 := hm
  rw [hf]
  clear hb hc hf hm
  have hmt := m_first1
  have hnt := n_first1
  go_enter Try.func21, Try.ntmps21
  go_wp2_with fail
  refine (coderOf_1 _).mono ?_
  rintro e w' ⟨rfl, rfl⟩
  go_wp2_with fail
  first | go_region_with (go_at_call 91; refine (fst1_any _ (zs.drop n) a m _ (HC.out.ext (by repeat (first | exact Below.refl _ _ | apply below_drewN | refine ext_alloc ?_ _ | apply Below.drew))) (HB.out.drop n) HN.out HF.out).mono ?_; rintro e w1 ⟨rfl, hb1⟩; have HW1 : Hid (Below w'.heap.size w' w1) := ext_trans (by repeat (first | exact Below.refl _ _ | apply below_drewN | refine ext_alloc ?_ _ | apply Below.drew)) hb1; clear hb1) | fail
  all_goals
    go_wp2
    go_ret2
    exact ⟨rfl, (by repeat (first | exact HW1.out | exact Below.refl _ _ | apply below_drewN | refine ext_alloc ?_ _ | apply Below.drew))⟩

set_option maxRecDepth 100000 in
set_option maxHeartbeats 2000000 in
theorem Next_2 (v : Value) (zs : List Int) (n : Nat) (w : World) (h : Rd .u8 w v zs) (hb : Byt zs) (hn : n < zs.length) :
    Calls Try.prog 21 #[.int .i64 2, v, .int .i64 n] w fun e w' => e = .returned (.tuple #[.int .i64 (Cx.fst 2 (zs.drop n)).1, .int .i64 (Cx.fst 2 (zs.drop n)).2]) ∧ Below w.heap.size w w' := by
  have HR : Hid (Rd .u8 w v zs) := h
  have HB : Hid (Byt zs) := hb
  have hlen := h.len
  obtain ⟨ao, cap, rfl, hl, hm, hc⟩ := h
  obtain ⟨b, off, rfl, _⟩ := hc (List.length_pos_iff.1 (by omega))
  have HN : Hid (zs.drop n ≠ []) := List.length_pos_iff.1 (by rw [List.length_drop]; omega)
  obtain ⟨a, m, hf⟩ : ∃ (a : Int) (m : Nat), Cx.fst 2 (zs.drop n) = (a, (m : Int)) := by
    have := Cx.fst_bd 2 (zs.drop n) HN.out
    exact ⟨_, (Cx.fst 2 (zs.drop n)).2.toNat, Prod.ext rfl (by simp only; omega)⟩
  have HF : Hid (Cx.fst 2 (zs.drop n) = (a, (m : Int))) := hf
  have hcn : ¬ cap = n := by omega
  have HC : Hid (Rd .u8 w (.slice (some ⟨b, off + n, none⟩) (zs.length - n) (cap - n)) (zs.drop n)) := HR.out.cut (by omega)
  have hcm : cap ≤ 9223372036854775807 := hm
  rw [hf]
  clear hb hc hf hm
  have hmt := m_first2
  have hnt := n_first2
  go_enter Try.func21, Try.ntmps21
  go_wp2_with fail
  refine (coderOf_2 _).mono ?_
  rintro e w' ⟨rfl, rfl⟩
  go_wp2_with fail
  first | go_region_with (go_at_call 123; refine (fst2_any _ (zs.drop n) a m _ (HC.out.ext (by repeat (first | exact Below.refl _ _ | apply below_drewN | refine ext_alloc ?_ _ | apply Below.drew))) (HB.out.drop n) HN.out HF.out).mono ?_; rintro e w1 ⟨rfl, hb1⟩; have HW1 : Hid (Below w'.heap.size w' w1) := ext_trans (by repeat (first | exact Below.refl _ _ | apply below_drewN | refine ext_alloc ?_ _ | apply Below.drew)) hb1; clear hb1) | fail
  all_goals
    go_wp2
    go_ret2
    exact ⟨rfl, (by repeat (first | exact HW1.out | exact Below.refl _ _ | apply below_drewN | refine ext_alloc ?_ _ | apply Below.drew))⟩

set_option maxRecDepth 100000 in
set_option maxHeartbeats 2000000 in
theorem Next_3 (v : Value) (zs : List Int) (n : Nat) (w : World) (h : Rd .u8 w v zs) (hb : Byt zs) (hn : n < zs.length) :
    Calls Try.prog 21 #[.int .i64 3, v, .int .i64 n] w fun e w' => e = .returned (.tuple #[.int .i64 (Cx.fst 3 (zs.drop n)).1, .int .i64 (Cx.fst 3 (zs.drop n)).2]) ∧ Below w.heap.size w w' := by
  have HR : Hid (Rd .u8 w v zs) := h
  have HB : Hid (Byt zs) := hb
  have hlen := h.len
  obtain ⟨ao, cap, rfl, hl, hm, hc⟩ := h
  obtain ⟨b, off, rfl, _⟩ := hc (List.length_pos_iff.1 (by omega))
  have HN : Hid (zs.drop n ≠ []) := List.length_pos_iff.1 (by rw [List.length_drop]; omega)
  obtain ⟨a, m, hf⟩ : ∃ (a : Int) (m : Nat), Cx.fst 3 (zs.drop n) = (a, (m : Int)) := by
    have := Cx.fst_bd 3 (zs.drop n) HN.out
    exact ⟨_, (Cx.fst 3 (zs.drop n)).2.toNat, Prod.ext rfl (by simp only; omega)⟩
  have HF : Hid (Cx.fst 3 (zs.drop n) = (a, (m : Int))) := hf
  have hcn : ¬ cap = n := by omega
  have HC : Hid (Rd .u8 w (.slice (some ⟨b, off + n, none⟩) (zs.length - n) (cap - n)) (zs.drop n)) := HR.out.cut (by omega)
  have hcm : cap ≤ 9223372036854775807 := hm
  rw [hf]
  clear hb hc hf hm
  have hmt := m_first2
  have hnt := n_first2
  go_enter Try.func21, Try.ntmps21
  go_wp2_with fail
  refine (coderOf_3 _).mono ?_
  rintro e w' ⟨rfl, rfl⟩
  go_wp2_with fail
  first | go_region_with (go_at_call 123; refine (fst3_any _ (zs.drop n) a m _ (HC.out.ext (by repeat (first | exact Below.refl _ _ | apply below_drewN | refine ext_alloc ?_ _ | apply Below.drew))) (HB.out.drop n) HN.out HF.out).mono ?_; rintro e w1 ⟨rfl, hb1⟩; have HW1 : Hid (Below w'.heap.size w' w1) := ext_trans (by repeat (first | exact Below.refl _ _ | apply below_drewN | refine ext_alloc ?_ _ | apply Below.drew)) hb1; clear hb1) | fail
  all_goals
    go_wp2
    go_ret2
    exact ⟨rfl, (by repeat (first | exact HW1.out | exact Below.refl _ _ | apply below_drewN | refine ext_alloc ?_ _ | apply Below.drew))⟩

set_option maxRecDepth 100000 in
set_option maxHeartbeats 2000000 in
theorem Next_4 (v : Value) (zs : List Int) (n : Nat) (w : World) (h : Rd .u8 w v zs) (hb : Byt zs) (hn : n < zs.length) :
    Calls Try.prog 21 #[.int .i64 4, v, .int .i64 n] w fun e w' => e = .returned (.tuple #[.int .i64 (Cx.fst 4 (zs.drop n)).1, .int .i64 (Cx.fst 4 (zs.drop n)).2]) ∧ Below w.heap.size w w' := by
  have HR : Hid (Rd .u8 w v zs) := h
  have HB : Hid (Byt zs) := hb
  have hlen := h.len
  obtain ⟨ao, cap, rfl, hl, hm, hc⟩ := h
  obtain ⟨b, off, rfl, _⟩ := hc (List.length_pos_iff.1 (by omega))
  have HN : Hid (zs.drop n ≠ []) := List.length_pos_iff.1 (by rw [List.length_drop]; omega)
  obtain ⟨a, m, hf⟩ : ∃ (a : Int) (m : Nat), Cx.fst 4 (zs.drop n) = (a, (m : Int)) := by
    have := Cx.fst_bd 4 (zs.drop n) HN.out
    exact ⟨_, (Cx.fst 4 (zs.drop n)).2.toNat, Prod.ext rfl (by simp only; omega)⟩
  have HF : Hid (Cx.fst 4 (zs.drop n) = (a, (m : Int))) := hf
  have hcn : ¬ cap = n := by omega
  have HC : Hid (Rd .u8 w (.slice (some ⟨b, off + n, none⟩) (zs.length - n) (cap - n)) (zs.drop n)) := HR.out.cut (by omega)
  have hcm : cap ≤ 9223372036854775807 := hm
  rw [hf]
  clear hb hc hf hm
  have hmt := m_first4
  have hnt := n_first4
  go_enter Try.func21, Try.ntmps21
  go_wp2_with fail
  refine (coderOf_4 _).mono ?_
  rintro e w' ⟨rfl, rfl⟩
  go_wp2_with fail
  first | go_region_with (go_at_call 135; refine (fst4_any _ (zs.drop n) a m _ (HC.out.ext (by repeat (first | exact Below.refl _ _ | apply below_drewN | refine ext_alloc ?_ _ | apply Below.drew))) (HB.out.drop n) HN.out HF.out).mono ?_; rintro e w1 ⟨rfl, hb1⟩; have HW1 : Hid (Below w'.heap.size w' w1) := ext_trans (by repeat (first | exact Below.refl _ _ | apply below_drewN | refine ext_alloc ?_ _ | apply Below.drew)) hb1; clear hb1) | fail
  all_goals
    go_wp2
    go_ret2
    exact ⟨rfl, (by repeat (first | exact HW1.out | exact Below.refl _ _ | apply below_drewN | refine ext_alloc ?_ _ | apply Below.drew))⟩
end Go.Proofs.Ytbfbaknfeleddaa
