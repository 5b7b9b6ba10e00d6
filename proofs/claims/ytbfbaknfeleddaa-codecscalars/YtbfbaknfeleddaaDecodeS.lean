/- Decode where the atoms are few. -/
import Derived.Test.YtbfbaknfeleddaaWalkBack
namespace Go.Proofs.Ytbfbaknfeleddaa
open Go.RowKit

set_option maxRecDepth 100000 in
set_option maxHeartbeats 1000000 in
theorem decodeS_1 (v : Value) (zs : List Int) (w : World) (h : Rd .u8 w v zs) (hb : Byt zs) (hz : (Cx.dec 1 zs).length * 8 ≤ 140737488355328) :
    Calls Try.prog 55 #[.iface 99 (.agg #[]), v] w fun e w' => ∃ v', e = .returned v' ∧ w'.ownsRow w.heap.size 3 1 v' (Cx.dec 1 zs).length ((Cx.dec 1 zs).map (Value.int .i64)) ∧ Below w.heap.size w w' := by
  obtain ⟨i0, hi, hz0, hz1, hz2⟩ := info_parts Try.info_i64
  have HR : Hid (Rd .u8 w v zs) := h
  have HB : Hid (Byt zs) := hb
  clear h hb
  have hmt := m_first1
  go_enter Try.func55, Try.ntmps55
  go_wp2_with fail
  go_loopw [1, 5] (fun bv o wr => ∃ ys l : List Int, Hid (Cx.dec 1 zs = l ++ Cx.dec 1 ys) ∧ l.length + ys.length ≤ zs.length ∧ Hid (Rd .u8 w bv ys) ∧ Hid (Byt ys) ∧ wr.ownsRow w.heap.size 3 1 o l.length (l.map (Value.int .i64)) ∧ Below w.heap.size w wr) (fun bv _ _ => lenOf bv)
  case atStart => exact ⟨zs, [], rfl, by simp, HR.out, HB.out, World.ownsRow_nil _ _ _ _, Below.refl _ _⟩
  case round =>
    obtain ⟨ys, l, HD, hle, HY, HYB, hown, hbw⟩ := hrel
    have hw' : w.heap.size ≤ wr.heap.size := hbw.size
    have hylen := HY.out.len
    by_cases hn : ys = []
    · have HE : Hid (Cx.dec 1 zs = l) := by unfold Hid; rw [HD.out, hn, Cx.dec_nil, List.append_nil]
      obtain ⟨ao, cap, hv, hlc, hcm, _⟩ := HY.out
      rw [hn] at hv
      subst hv
      clear HY HD HYB
      simp only [List.length_nil]
      go_wp2
      go_ret
      exact ⟨_, rfl, by rw [HE.out]; exact hown, hbw⟩
    · obtain ⟨a, n, hf, hn1, hn2⟩ : ∃ (a : Int) (n : Nat), Cx.fst 1 ys = (a, (n : Int)) ∧ 1 ≤ n ∧ n ≤ ys.length := by
        have := Cx.fst_bd 1 ys hn
        exact ⟨_, (Cx.fst 1 ys).2.toNat, Prod.ext rfl (by simp only; omega), by omega, by omega⟩
      have HF : Hid (Cx.fst 1 ys = (a, (n : Int))) := hf
      have HD' : Hid (Cx.dec 1 zs = (l ++ [a]) ++ Cx.dec 1 (ys.drop n)) := by unfold Hid; rw [HD.out, Cx.dec_cons 1 ys hn a n hf]; simp
      have hdlen : l.length + 1 ≤ (Cx.dec 1 zs).length := by rw [HD'.out]; simp only [List.length_append, List.length_singleton]; omega
      have HNE : Hid (ys ≠ []) := hn
      generalize hDL : (Cx.dec 1 zs).length = DL at hz hdlen
      clear hDL
      have hyp : 0 < ys.length := List.length_pos_iff.2 hn
      obtain ⟨ao, cap, hv, hlc, hcm, hrest⟩ := HY.out
      obtain ⟨b, off, hao, _⟩ := hrest hn
      subst hao
      subst hv
      have hcm' : cap ≤ 9223372036854775807 := hcm
      have HT := snoc_map l a
      have HT' : Hid (l.map (Value.int .i64) ++ [Value.int .i64 a] = (l ++ [a]).map (Value.int .i64)) := HT
      have hdl : (ys.drop n).length = ys.length - n := List.length_drop
      clear hf hn hrest hcm HT HD
      generalize hml : l.map (Value.int .i64) = ml at *
      clear hml
      go_wp2_with fail
      refine (fst1_any _ ys a n _ (HY.out.ext hbw) HYB.out HNE.out HF.out).mono ?_
      rintro e w1 ⟨rfl, hb1⟩
      have hown1 := own_ext hown hb1
      have hbw1 : Below w.heap.size w w1 := ext_trans hbw hb1
      have hw1 : w.heap.size ≤ w1.heap.size := hbw1.size
      clear hown hbw hb1
      go_wp2_with (at_builtin; refine wpList_append_own _ rfl _ _ 26 rfl w.heap.size 3 i0 (.int .i64 0) 1 8 Try.underlying26 hi hz0 hz1 hz2 rfl (by decide) _ _ _ rfl (hown1.alloc _) ⟨w1.heap.size, 0, none⟩ 1 1 [.int .i64 a] rfl rfl (cell_one_new _ _ _) (one_i64 _) (by unfold maxLen; omega) (by omega) (by simp; omega) ?_; intro v' w' hown' hg' hx')
      all_goals refine ⟨⟨ys.drop n, l ++ [a], HD'.out, ?_, ?_, HYB.out.drop n, ?_, below_push hbw1 hown1 hg'⟩, ?_⟩
      all_goals first
        | exact HY.out.cut_if hn2
        | exact HY.out.cut hn2
        | exact HY.out.cut_same (by assumption)
        | (rw [hdl, List.length_append, List.length_singleton]; omega)
        | (rw [List.length_append]; rw [HT'.out] at hown'; exact hown')
        | (simp only [lenOf]; omega)

set_option maxRecDepth 100000 in
set_option maxHeartbeats 1000000 in
theorem decodeS_2 (v : Value) (zs : List Int) (w : World) (h : Rd .u8 w v zs) (hb : Byt zs) (hz : (Cx.dec 2 zs).length * 8 ≤ 140737488355328) :
    Calls Try.prog 55 #[.iface 101 (.agg #[.int .i64 0]), v] w fun e w' => ∃ v', e = .returned v' ∧ w'.ownsRow w.heap.size 3 1 v' (Cx.dec 2 zs).length ((Cx.dec 2 zs).map (Value.int .i64)) ∧ Below w.heap.size w w' := by
  obtain ⟨i0, hi, hz0, hz1, hz2⟩ := info_parts Try.info_i64
  have HR : Hid (Rd .u8 w v zs) := h
  have HB : Hid (Byt zs) := hb
  clear h hb
  have hmt := m_first2
  go_enter Try.func55, Try.ntmps55
  go_wp2_with fail
  go_loopw [1, 5] (fun bv o wr => ∃ ys l : List Int, Hid (Cx.dec 2 zs = l ++ Cx.dec 2 ys) ∧ l.length + ys.length ≤ zs.length ∧ Hid (Rd .u8 w bv ys) ∧ Hid (Byt ys) ∧ wr.ownsRow w.heap.size 3 1 o l.length (l.map (Value.int .i64)) ∧ Below w.heap.size w wr) (fun bv _ _ => lenOf bv)
  case atStart => exact ⟨zs, [], rfl, by simp, HR.out, HB.out, World.ownsRow_nil _ _ _ _, Below.refl _ _⟩
  case round =>
    obtain ⟨ys, l, HD, hle, HY, HYB, hown, hbw⟩ := hrel
    have hw' : w.heap.size ≤ wr.heap.size := hbw.size
    have hylen := HY.out.len
    by_cases hn : ys = []
    · have HE : Hid (Cx.dec 2 zs = l) := by unfold Hid; rw [HD.out, hn, Cx.dec_nil, List.append_nil]
      obtain ⟨ao, cap, hv, hlc, hcm, _⟩ := HY.out
      rw [hn] at hv
      subst hv
      clear HY HD HYB
      simp only [List.length_nil]
      go_wp2
      go_ret
      exact ⟨_, rfl, by rw [HE.out]; exact hown, hbw⟩
    · obtain ⟨a, n, hf, hn1, hn2⟩ : ∃ (a : Int) (n : Nat), Cx.fst 2 ys = (a, (n : Int)) ∧ 1 ≤ n ∧ n ≤ ys.length := by
        have := Cx.fst_bd 2 ys hn
        exact ⟨_, (Cx.fst 2 ys).2.toNat, Prod.ext rfl (by simp only; omega), by omega, by omega⟩
      have HF : Hid (Cx.fst 2 ys = (a, (n : Int))) := hf
      have HD' : Hid (Cx.dec 2 zs = (l ++ [a]) ++ Cx.dec 2 (ys.drop n)) := by unfold Hid; rw [HD.out, Cx.dec_cons 2 ys hn a n hf]; simp
      have hdlen : l.length + 1 ≤ (Cx.dec 2 zs).length := by rw [HD'.out]; simp only [List.length_append, List.length_singleton]; omega
      have HNE : Hid (ys ≠ []) := hn
      generalize hDL : (Cx.dec 2 zs).length = DL at hz hdlen
      clear hDL
      have hyp : 0 < ys.length := List.length_pos_iff.2 hn
      obtain ⟨ao, cap, hv, hlc, hcm, hrest⟩ := HY.out
      obtain ⟨b, off, hao, _⟩ := hrest hn
      subst hao
      subst hv
      have hcm' : cap ≤ 9223372036854775807 := hcm
      have HT := snoc_map l a
      have HT' : Hid (l.map (Value.int .i64) ++ [Value.int .i64 a] = (l ++ [a]).map (Value.int .i64)) := HT
      have hdl : (ys.drop n).length = ys.length - n := List.length_drop
      clear hf hn hrest hcm HT HD
      generalize hml : l.map (Value.int .i64) = ml at *
      clear hml
      go_wp2_with fail
      refine (fst2_any _ ys a n _ (HY.out.ext hbw) HYB.out HNE.out HF.out).mono ?_
      rintro e w1 ⟨rfl, hb1⟩
      have hown1 := own_ext hown hb1
      have hbw1 : Below w.heap.size w w1 := ext_trans hbw hb1
      have hw1 : w.heap.size ≤ w1.heap.size := hbw1.size
      clear hown hbw hb1
      go_wp2_with (at_builtin; refine wpList_append_own _ rfl _ _ 26 rfl w.heap.size 3 i0 (.int .i64 0) 1 8 Try.underlying26 hi hz0 hz1 hz2 rfl (by decide) _ _ _ rfl (hown1.alloc _) ⟨w1.heap.size, 0, none⟩ 1 1 [.int .i64 a] rfl rfl (cell_one_new _ _ _) (one_i64 _) (by unfold maxLen; omega) (by omega) (by simp; omega) ?_; intro v' w' hown' hg' hx')
      all_goals refine ⟨⟨ys.drop n, l ++ [a], HD'.out, ?_, ?_, HYB.out.drop n, ?_, below_push hbw1 hown1 hg'⟩, ?_⟩
      all_goals first
        | exact HY.out.cut_if hn2
        | exact HY.out.cut hn2
        | exact HY.out.cut_same (by assumption)
        | (rw [hdl, List.length_append, List.length_singleton]; omega)
        | (rw [List.length_append]; rw [HT'.out] at hown'; exact hown')
        | (simp only [lenOf]; omega)

set_option maxRecDepth 100000 in
set_option maxHeartbeats 1000000 in
theorem decodeS_3 (v : Value) (zs : List Int) (w : World) (h : Rd .u8 w v zs) (hb : Byt zs) (hz : (Cx.dec 3 zs).length * 8 ≤ 140737488355328) :
    Calls Try.prog 55 #[.iface 101 (.agg #[.int .i64 1]), v] w fun e w' => ∃ v', e = .returned v' ∧ w'.ownsRow w.heap.size 3 1 v' (Cx.dec 3 zs).length ((Cx.dec 3 zs).map (Value.int .i64)) ∧ Below w.heap.size w w' := by
  obtain ⟨i0, hi, hz0, hz1, hz2⟩ := info_parts Try.info_i64
  have HR : Hid (Rd .u8 w v zs) := h
  have HB : Hid (Byt zs) := hb
  clear h hb
  have hmt := m_first2
  go_enter Try.func55, Try.ntmps55
  go_wp2_with fail
  go_loopw [1, 5] (fun bv o wr => ∃ ys l : List Int, Hid (Cx.dec 3 zs = l ++ Cx.dec 3 ys) ∧ l.length + ys.length ≤ zs.length ∧ Hid (Rd .u8 w bv ys) ∧ Hid (Byt ys) ∧ wr.ownsRow w.heap.size 3 1 o l.length (l.map (Value.int .i64)) ∧ Below w.heap.size w wr) (fun bv _ _ => lenOf bv)
  case atStart => exact ⟨zs, [], rfl, by simp, HR.out, HB.out, World.ownsRow_nil _ _ _ _, Below.refl _ _⟩
  case round =>
    obtain ⟨ys, l, HD, hle, HY, HYB, hown, hbw⟩ := hrel
    have hw' : w.heap.size ≤ wr.heap.size := hbw.size
    have hylen := HY.out.len
    by_cases hn : ys = []
    · have HE : Hid (Cx.dec 3 zs = l) := by unfold Hid; rw [HD.out, hn, Cx.dec_nil, List.append_nil]
      obtain ⟨ao, cap, hv, hlc, hcm, _⟩ := HY.out
      rw [hn] at hv
      subst hv
      clear HY HD HYB
      simp only [List.length_nil]
      go_wp2
      go_ret
      exact ⟨_, rfl, by rw [HE.out]; exact hown, hbw⟩
    · obtain ⟨a, n, hf, hn1, hn2⟩ : ∃ (a : Int) (n : Nat), Cx.fst 3 ys = (a, (n : Int)) ∧ 1 ≤ n ∧ n ≤ ys.length := by
        have := Cx.fst_bd 3 ys hn
        exact ⟨_, (Cx.fst 3 ys).2.toNat, Prod.ext rfl (by simp only; omega), by omega, by omega⟩
      have HF : Hid (Cx.fst 3 ys = (a, (n : Int))) := hf
      have HD' : Hid (Cx.dec 3 zs = (l ++ [a]) ++ Cx.dec 3 (ys.drop n)) := by unfold Hid; rw [HD.out, Cx.dec_cons 3 ys hn a n hf]; simp
      have hdlen : l.length + 1 ≤ (Cx.dec 3 zs).length := by rw [HD'.out]; simp only [List.length_append, List.length_singleton]; omega
      have HNE : Hid (ys ≠ []) := hn
      generalize hDL : (Cx.dec 3 zs).length = DL at hz hdlen
      clear hDL
      have hyp : 0 < ys.length := List.length_pos_iff.2 hn
      obtain ⟨ao, cap, hv, hlc, hcm, hrest⟩ := HY.out
      obtain ⟨b, off, hao, _⟩ := hrest hn
      subst hao
      subst hv
      have hcm' : cap ≤ 9223372036854775807 := hcm
      have HT := snoc_map l a
      have HT' : Hid (l.map (Value.int .i64) ++ [Value.int .i64 a] = (l ++ [a]).map (Value.int .i64)) := HT
      have hdl : (ys.drop n).length = ys.length - n := List.length_drop
      clear hf hn hrest hcm HT HD
      generalize hml : l.map (Value.int .i64) = ml at *
      clear hml
      go_wp2_with fail
      refine (fst3_any _ ys a n _ (HY.out.ext hbw) HYB.out HNE.out HF.out).mono ?_
      rintro e w1 ⟨rfl, hb1⟩
      have hown1 := own_ext hown hb1
      have hbw1 : Below w.heap.size w w1 := ext_trans hbw hb1
      have hw1 : w.heap.size ≤ w1.heap.size := hbw1.size
      clear hown hbw hb1
      go_wp2_with (at_builtin; refine wpList_append_own _ rfl _ _ 26 rfl w.heap.size 3 i0 (.int .i64 0) 1 8 Try.underlying26 hi hz0 hz1 hz2 rfl (by decide) _ _ _ rfl (hown1.alloc _) ⟨w1.heap.size, 0, none⟩ 1 1 [.int .i64 a] rfl rfl (cell_one_new _ _ _) (one_i64 _) (by unfold maxLen; omega) (by omega) (by simp; omega) ?_; intro v' w' hown' hg' hx')
      all_goals refine ⟨⟨ys.drop n, l ++ [a], HD'.out, ?_, ?_, HYB.out.drop n, ?_, below_push hbw1 hown1 hg'⟩, ?_⟩
      all_goals first
        | exact HY.out.cut_if hn2
        | exact HY.out.cut hn2
        | exact HY.out.cut_same (by assumption)
        | (rw [hdl, List.length_append, List.length_singleton]; omega)
        | (rw [List.length_append]; rw [HT'.out] at hown'; exact hown')
        | (simp only [lenOf]; omega)

set_option maxRecDepth 100000 in
set_option maxHeartbeats 1000000 in
theorem decodeS_4 (v : Value) (zs : List Int) (w : World) (h : Rd .u8 w v zs) (hb : Byt zs) (hz : (Cx.dec 4 zs).length * 8 ≤ 140737488355328) :
    Calls Try.prog 55 #[.iface 102 (.agg #[]), v] w fun e w' => ∃ v', e = .returned v' ∧ w'.ownsRow w.heap.size 3 1 v' (Cx.dec 4 zs).length ((Cx.dec 4 zs).map (Value.int .i64)) ∧ Below w.heap.size w w' := by
  obtain ⟨i0, hi, hz0, hz1, hz2⟩ := info_parts Try.info_i64
  have HR : Hid (Rd .u8 w v zs) := h
  have HB : Hid (Byt zs) := hb
  clear h hb
  have hmt := m_first4
  go_enter Try.func55, Try.ntmps55
  go_wp2_with fail
  go_loopw [1, 5] (fun bv o wr => ∃ ys l : List Int, Hid (Cx.dec 4 zs = l ++ Cx.dec 4 ys) ∧ l.length + ys.length ≤ zs.length ∧ Hid (Rd .u8 w bv ys) ∧ Hid (Byt ys) ∧ wr.ownsRow w.heap.size 3 1 o l.length (l.map (Value.int .i64)) ∧ Below w.heap.size w wr) (fun bv _ _ => lenOf bv)
  case atStart => exact ⟨zs, [], rfl, by simp, HR.out, HB.out, World.ownsRow_nil _ _ _ _, Below.refl _ _⟩
  case round =>
    obtain ⟨ys, l, HD, hle, HY, HYB, hown, hbw⟩ := hrel
    have hw' : w.heap.size ≤ wr.heap.size := hbw.size
    have hylen := HY.out.len
    by_cases hn : ys = []
    · have HE : Hid (Cx.dec 4 zs = l) := by unfold Hid; rw [HD.out, hn, Cx.dec_nil, List.append_nil]
      obtain ⟨ao, cap, hv, hlc, hcm, _⟩ := HY.out
      rw [hn] at hv
      subst hv
      clear HY HD HYB
      simp only [List.length_nil]
      go_wp2
      go_ret
      exact ⟨_, rfl, by rw [HE.out]; exact hown, hbw⟩
    · obtain ⟨a, n, hf, hn1, hn2⟩ : ∃ (a : Int) (n : Nat), Cx.fst 4 ys = (a, (n : Int)) ∧ 1 ≤ n ∧ n ≤ ys.length := by
        have := Cx.fst_bd 4 ys hn
        exact ⟨_, (Cx.fst 4 ys).2.toNat, Prod.ext rfl (by simp only; omega), by omega, by omega⟩
      have HF : Hid (Cx.fst 4 ys = (a, (n : Int))) := hf
      have HD' : Hid (Cx.dec 4 zs = (l ++ [a]) ++ Cx.dec 4 (ys.drop n)) := by unfold Hid; rw [HD.out, Cx.dec_cons 4 ys hn a n hf]; simp
      have hdlen : l.length + 1 ≤ (Cx.dec 4 zs).length := by rw [HD'.out]; simp only [List.length_append, List.length_singleton]; omega
      have HNE : Hid (ys ≠ []) := hn
      generalize hDL : (Cx.dec 4 zs).length = DL at hz hdlen
      clear hDL
      have hyp : 0 < ys.length := List.length_pos_iff.2 hn
      obtain ⟨ao, cap, hv, hlc, hcm, hrest⟩ := HY.out
      obtain ⟨b, off, hao, _⟩ := hrest hn
      subst hao
      subst hv
      have hcm' : cap ≤ 9223372036854775807 := hcm
      have HT := snoc_map l a
      have HT' : Hid (l.map (Value.int .i64) ++ [Value.int .i64 a] = (l ++ [a]).map (Value.int .i64)) := HT
      have hdl : (ys.drop n).length = ys.length - n := List.length_drop
      clear hf hn hrest hcm HT HD
      generalize hml : l.map (Value.int .i64) = ml at *
      clear hml
      go_wp2_with fail
      refine (fst4_any _ ys a n _ (HY.out.ext hbw) HYB.out HNE.out HF.out).mono ?_
      rintro e w1 ⟨rfl, hb1⟩
      have hown1 := own_ext hown hb1
      have hbw1 : Below w.heap.size w w1 := ext_trans hbw hb1
      have hw1 : w.heap.size ≤ w1.heap.size := hbw1.size
      clear hown hbw hb1
      go_wp2_with (at_builtin; refine wpList_append_own _ rfl _ _ 26 rfl w.heap.size 3 i0 (.int .i64 0) 1 8 Try.underlying26 hi hz0 hz1 hz2 rfl (by decide) _ _ _ rfl (hown1.alloc _) ⟨w1.heap.size, 0, none⟩ 1 1 [.int .i64 a] rfl rfl (cell_one_new _ _ _) (one_i64 _) (by unfold maxLen; omega) (by omega) (by simp; omega) ?_; intro v' w' hown' hg' hx')
      all_goals refine ⟨⟨ys.drop n, l ++ [a], HD'.out, ?_, ?_, HYB.out.drop n, ?_, below_push hbw1 hown1 hg'⟩, ?_⟩
      all_goals first
        | exact HY.out.cut_if hn2
        | exact HY.out.cut hn2
        | exact HY.out.cut_same (by assumption)
        | (rw [hdl, List.length_append, List.length_singleton]; omega)
        | (rw [List.length_append]; rw [HT'.out] at hown'; exact hown')
        | (simp only [lenOf]; omega)


theorem DecodeS_any (enc : Int) (he : enc = 1 ∨ enc = 2 ∨ enc = 3 ∨ enc = 4) (v : Value) (zs : List Int) (w : World) (h : Rd .u8 w v zs) (hb : Byt zs) (hz : (Cx.dec enc zs).length * 8 ≤ 140737488355328) :
    Calls Try.prog 18 #[.int .i64 enc, v] w fun e w' => ∃ v', e = .returned (.tuple #[v', .int .i64 0]) ∧ w'.ownsRow w.heap.size 3 1 v' (Cx.dec enc zs).length ((Cx.dec enc zs).map (Value.int .i64)) ∧ Below w.heap.size w w' := by
  have HR : Hid (Rd .u8 w v zs) := h
  have HB : Hid (Byt zs) := hb
  have HZ : Hid ((Cx.dec enc zs).length * 8 ≤ 140737488355328) := hz
  clear h hb hz
  rcases he with rfl | rfl | rfl | rfl
  · go_enter Try.func18, Try.ntmps18
    go_wp2_with (first | (go_at_call 54; refine (coderOf_1 _).mono ?_; rintro e w' ⟨rfl, rfl⟩) | (go_at_call 55; refine (decodeS_1 _ zs _ HR.out HB.out HZ.out).mono ?_; rintro e w' ⟨v', rfl, hown, hbw⟩))
    go_ret2
    exact ⟨_, rfl, by assumption, by assumption⟩
  · go_enter Try.func18, Try.ntmps18
    go_wp2_with (first | (go_at_call 54; refine (coderOf_2 _).mono ?_; rintro e w' ⟨rfl, rfl⟩) | (go_at_call 55; refine (decodeS_2 _ zs _ HR.out HB.out HZ.out).mono ?_; rintro e w' ⟨v', rfl, hown, hbw⟩))
    go_ret2
    exact ⟨_, rfl, by assumption, by assumption⟩
  · go_enter Try.func18, Try.ntmps18
    go_wp2_with (first | (go_at_call 54; refine (coderOf_3 _).mono ?_; rintro e w' ⟨rfl, rfl⟩) | (go_at_call 55; refine (decodeS_3 _ zs _ HR.out HB.out HZ.out).mono ?_; rintro e w' ⟨v', rfl, hown, hbw⟩))
    go_ret2
    exact ⟨_, rfl, by assumption, by assumption⟩
  · go_enter Try.func18, Try.ntmps18
    go_wp2_with (first | (go_at_call 54; refine (coderOf_4 _).mono ?_; rintro e w' ⟨rfl, rfl⟩) | (go_at_call 55; refine (decodeS_4 _ zs _ HR.out HB.out HZ.out).mono ?_; rintro e w' ⟨v', rfl, hown, hbw⟩))
    go_ret2
    exact ⟨_, rfl, by assumption, by assumption⟩
end Go.Proofs.Ytbfbaknfeleddaa
