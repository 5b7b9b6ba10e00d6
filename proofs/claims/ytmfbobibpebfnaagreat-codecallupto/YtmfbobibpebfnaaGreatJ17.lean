import Derived.Test.YtmfbobibpebfnaaGreatJ16
/- Feed, encoding 2. -/
namespace Go.Proofs.YtmfbobibpebfnaaGreat
open Go.RowKit Go.Lib

set_option maxRecDepth 100000 in
set_option maxHeartbeats 2000000 in
theorem feed_2 (w : World) (g : Nat) (hh b : List Int) (v : Value) (s : St w g 2 hh) (hr : Rd .u8 w v b) (sl : Sl v) (hB : Byt (hh ++ b)) (hz : b.length ≤ 1048576) :
    Calls Tryz.prog 14 #[.pointer (some ⟨g, 0, none⟩), v] w fun e w' => ∃ v', e = .returned v' ∧ w'.ownsRow w.heap.size 3 1 v' (Cx.fd 2 (hh ++ b)).1.length ((Cx.fd 2 (hh ++ b)).1.map (Value.int .i64)) ∧ St w' g 2 (Cx.fd 2 (hh ++ b)).2 ∧ w.grownBy w' (some g) := by
  obtain ⟨i0, hi, hz0, hz1, hz2⟩ := info_parts Tryz.info_i64
  have hmw := m_waits2
  have hmf := m_first2
  have hgl := s.lt
  have HSt : Hid (St w g 2 hh) := s
  obtain ⟨x, hg, hx1, hx2⟩ := s
  have HG : Hid (w.heap[g]? = some (.cells (strow 2 x hh.length) 51 (0, 0))) := hg
  obtain ⟨r0, _, _, _, r4, _⟩ := row_facts hg
  have HR : Hid (Rd .u8 w v b) := hr
  have HBc : Hid (Byt (hh ++ b)) := hB
  have HSl : Hid (Sl v) := sl
  clear hg hx1 hr hB sl r0
  by_cases hh0 : hh = []
  · have hcb : hh ++ b = b := by rw [hh0]; rfl
    have hl0 : hh.length = 0 := by rw [hh0]; rfl
    have hl0' : ¬ (0 : Int) < (hh.length : Int) := by omega
    rw [hcb]
    have HR0 : Hid (Rd .u8 w v b) := HR.out
    have HBc' : Hid (Byt b) := by have := HBc.out; rwa [hcb] at this
    clear hcb hh0
    have hg0 := hgl
    have HG0 := HG
    have hw0 : w.heap.size ≤ w.heap.size := Nat.le_refl _
    have HB01 : Hid (Below w.heap.size w w) := Below.refl _ _
    have hcz : b.length ≤ 1048579 := by omega
    clear HBc HR HSt HG
    have HBc := HBc'
    clear HBc'
    go_enter Tryz.func14, Tryz.ntmps14
    go_wp2_with fail
    go_loopw [1, 5] (fun bv o wr => ∃ ys l : List Int, Hid (Cx.fd 2 b = (l ++ (Cx.fd 2 ys).1, (Cx.fd 2 ys).2)) ∧ l.length + ys.length ≤ b.length ∧ Hid (Rd .u8 w bv ys) ∧ Hid (Byt ys) ∧ wr.ownsRow w.heap.size 3 1 o l.length (l.map (Value.int .i64)) ∧ Below w.heap.size w wr) (fun bv _ _ => lenOf bv)
    case atStart => exact ⟨b, [], by unfold Hid; simp, by simp, HR0.out, HBc.out, World.ownsRow_nil _ _ _ _, Below.refl _ _⟩
    case round =>
      obtain ⟨ys, l, HD, hle, HY, HYB, hown, hbw⟩ := hrel
      have hw' : w.heap.size ≤ wr.heap.size := hbw.size
      have hylen := HY.out.len
      have HS : Hid (wr.heap[g]? = some (.cells (strow 2 x hh.length) 51 (0, 0))) := by unfold Hid; rw [hbw.block g hg0]; exact HG0.out
      have hc0 : wr.cell? ⟨g, 0, none⟩ = some (.iface 78 (.agg #[.int .i64 0])) := (row_facts HS.out).1
      by_cases hstop : ys = [] ∨ Cx.wt 2 ys = true
      · have HE : Hid (Cx.fd 2 b = (l, ys)) := by unfold Hid; rw [HD.out, Cx.fd_stop 2 ys hstop, List.append_nil]
        have hshort : ys.length ≤ 3 := by
          rcases hstop with h | h
          · rw [h]; simp
          · exact Cx.wt_short 2 ys h
        obtain ⟨ao, cap, hv, hlc, hcm, _⟩ := HY.out
        subst hv
        have hcm' : cap ≤ 9223372036854775807 := hcm
        have HYr : Hid (Rd .u8 wr (.slice ao ys.length cap) ys) := HY.out.ext hbw
        have HBW : Hid (Below w.heap.size w wr) := hbw
        clear HY HD hcm hbw
        by_cases hn : ys = []
        · subst hn
          have HYr0 : Hid (Rd .u8 wr (.slice ao 0 cap) []) := HYr.out
          clear hstop hle hylen hlc HYr
          simp only [List.length_nil]
          go_wp2_with (refine wpList_copy_held rfl _ _ rfl g 2 x hh.length (.slice ao 0 cap) [] rfl rfl HS.out HYr0.out (by simp) ?_; intro w5 y hg5 hy5 hgw5; obtain ⟨_, _, _, _, c4', f4'⟩ := row_facts hg5; have HG5 : Hid (w5.heap[g]? = some (.cells (strow 2 y hh.length) 51 (0, 0))) := hg5; have HW5 : Hid (wr.grownBy w5 (some g)) := hgw5; clear hg5 hy5 hgw5)
          go_ret
          obtain ⟨hst, hgr⟩ := st_count (m := 0) HG5.out
          rw [HE.out]
          exact ⟨_, rfl, own_mono (own_grown (own_grown hown HW5.out hg0) hgr hg0) hw0, ⟨y, hst, rfl, by simp⟩, grown_trans (grown_below HB01.out) (grown_trans (grown_below HBW.out) (grown_trans HW5.out hgr))⟩
        · have hp : 0 < ys.length := List.length_pos_iff.2 hn
          have hwt : Cx.wt 2 ys = true := hstop.resolve_left hn
          have HNE : Hid (ys ≠ []) := hn
          clear hstop hn
          go_wp2_with fail
          refine (wt2_any _ ys _ HYr.out HYB.out HNE.out).mono ?_
          rintro e w4 ⟨rfl, hb4⟩
          rw [hwt]
          have HS4 : Hid (w4.heap[g]? = some (.cells (strow 2 x hh.length) 51 (0, 0))) := by unfold Hid; rw [hb4.block g (Nat.lt_of_lt_of_le hg0 hw')]; exact HS.out
          have HYr4 : Hid (Rd .u8 w4 (.slice ao ys.length cap) ys) := HYr.out.ext hb4
          have hown4 := own_ext hown hb4
          have HBW4 : Hid (Below w.heap.size w w4) := ext_trans HBW.out hb4
          clear hown hb4
          go_wp2_with (refine wpList_copy_held rfl _ _ rfl g 2 x hh.length (.slice ao ys.length cap) ys rfl rfl HS4.out HYr4.out hshort ?_; intro w5 y hg5 hy5 hgw5; obtain ⟨_, _, _, _, c4', f4'⟩ := row_facts hg5; have HG5 : Hid (w5.heap[g]? = some (.cells (strow 2 y hh.length) 51 (0, 0))) := hg5; have HY5 : Hid (ys = [y.1, y.2.1, y.2.2].take ys.length) := hy5; have HW5 : Hid (w4.grownBy w5 (some g)) := hgw5; clear hg5 hy5 hgw5)
          go_ret
          obtain ⟨hst, hgr⟩ := st_count (m := ys.length) HG5.out
          rw [HE.out]
          exact ⟨_, rfl, own_mono (own_grown (own_grown hown4 HW5.out hg0) hgr hg0) hw0, ⟨y, hst, HY5.out, hshort⟩, grown_trans (grown_below HB01.out) (grown_trans (grown_below HBW4.out) (grown_trans HW5.out hgr))⟩
      · have hn : ys ≠ [] := fun h => hstop (.inl h)
        have hwt : Cx.wt 2 ys = false := by
          cases h : Cx.wt 2 ys with
          | false => rfl
          | true => exact absurd (.inr h) hstop
        obtain ⟨a, n, hf, hn1, hn2⟩ : ∃ (a : Int) (n : Nat), Cx.fst 2 ys = (a, (n : Int)) ∧ 1 ≤ n ∧ n ≤ ys.length := by
          have := Cx.fst_bd 2 ys hn
          exact ⟨_, (Cx.fst 2 ys).2.toNat, Prod.ext rfl (by simp only; omega), by omega, by omega⟩
        have HF : Hid (Cx.fst 2 ys = (a, (n : Int))) := hf
        have HD' : Hid (Cx.fd 2 b = ((l ++ [a]) ++ (Cx.fd 2 (ys.drop n)).1, (Cx.fd 2 (ys.drop n)).2)) := by unfold Hid; rw [HD.out, Cx.fd_go 2 ys hn hwt a n hf]; simp
        have HNE : Hid (ys ≠ []) := hn
        have hyp : 0 < ys.length := List.length_pos_iff.2 hn
        obtain ⟨ao, cap, hv, hlc, hcm, hrest⟩ := HY.out
        obtain ⟨b', off, hao, _⟩ := hrest hn
        subst hao
        subst hv
        have hcm' : cap ≤ 9223372036854775807 := hcm
        have HT' : Hid (l.map (Value.int .i64) ++ [Value.int .i64 a] = (l ++ [a]).map (Value.int .i64)) := snoc_map l a
        have hdl : (ys.drop n).length = ys.length - n := List.length_drop
        clear hf hn hrest hcm HD hstop
        generalize hml : l.map (Value.int .i64) = ml at *
        clear hml
        go_wp2_with fail
        refine (wt2_any _ ys _ (HY.out.ext hbw) HYB.out HNE.out).mono ?_
        rintro e w4 ⟨rfl, hb4⟩
        rw [hwt]
        have hc04 : w4.cell? ⟨g, 0, none⟩ = some (.iface 78 (.agg #[.int .i64 0])) := (hb4.cell (p := ⟨g, 0, none⟩) (Nat.lt_of_lt_of_le hg0 hw')).trans hc0
        have hbw4 : Below w.heap.size w w4 := ext_trans hbw hb4
        have hown4 := own_ext hown hb4
        clear hbw hown hb4 hc0 hw' HS
        go_wp2_with fail
        refine (fst2_any _ ys a n _ (HY.out.ext hbw4) HYB.out HNE.out HF.out).mono ?_
        rintro e w6 ⟨rfl, hb6⟩
        have hown1 := own_ext hown4 hb6
        have hbw1 : Below w.heap.size w w6 := ext_trans hbw4 hb6
        have hw1 : w.heap.size ≤ w6.heap.size := hbw1.size
        clear hown4 hbw4 hb6 hc04
        go_wp2_with (at_builtin; refine wpList_append_own _ rfl _ _ 36 rfl w.heap.size 3 i0 (.int .i64 0) 1 8 Tryz.underlying36 hi hz0 hz1 hz2 rfl (by decide) _ _ _ rfl (hown1.alloc _) ⟨w6.heap.size, 0, none⟩ 1 1 [.int .i64 a] rfl rfl (cell_one_new _ _ _) (one_i64 _) (by unfold maxLen; omega) (by omega) (by simp; omega) ?_; intro v' w' hown' hg' hx')
        all_goals refine ⟨⟨ys.drop n, l ++ [a], HD'.out, ?_, ?_, HYB.out.drop n, ?_, below_push hbw1 hown1 hg'⟩, ?_⟩
        all_goals first
          | exact HY.out.cut_if hn2
          | exact HY.out.cut hn2
          | exact HY.out.cut_same (by assumption)
          | (rw [hdl, List.length_append, List.length_singleton]; omega)
          | (rw [List.length_append]; rw [HT'.out] at hown'; exact hown')
          | (simp only [lenOf]; omega)
  · have hp : 0 < hh.length := List.length_pos_iff.2 hh0
    have hp' : (0 : Int) < (hh.length : Int) := by omega
    have hp3 : (hh.length : Int) ≤ 3 := by omega
    have HH0 : Hid (hh ≠ []) := hh0
    obtain ⟨ao, cp, hv, _⟩ := id HR.out
    subst hv
    obtain ⟨c, hcd⟩ : ∃ c, c = hh ++ b := ⟨_, rfl⟩
    have hcz : c.length ≤ 1048579 := by rw [hcd, List.length_append]; omega
    rw [← hcd]
    have HBc' : Hid (Byt c) := by have := HBc.out; rwa [← hcd] at this
    have HCD : Hid (hh ++ b = c) := hcd.symm
    clear hh0 hcd HBc
    have HBc := HBc'
    clear HBc'
    go_enter Tryz.func14, Tryz.ntmps14
    go_wp2_with fail
    first | go_region_with (go_at_call 32; refine (concat_any w.heap.size (.slice (some ⟨g, 1, none⟩) hh.length 3) (.slice ao b.length cp) hh b _ ?_ ?_ HSl.out g 1 hh.length 3 rfl HH0.out ?_ ?_ ?_ ?_).mono ?_; exact (held_rd HSt.out).ext (by repeat (first | exact Below.refl _ _ | apply below_drewN | refine ext_alloc ?_ _ | apply Below.drew)); exact HR.out.ext (by repeat (first | exact Below.refl _ _ | apply below_drewN | refine ext_alloc ?_ _ | apply Below.drew)); omega; simp; simp; simp; rintro e w1 ⟨v1, rfl, own1, hb1⟩; have HB01 : Hid (Below w.heap.size w w1) := ext_trans (by repeat (first | exact Below.refl _ _ | apply below_drewN | refine ext_alloc ?_ _ | apply Below.drew)) hb1; have HR0 : Hid (Rd .u8 w1 v1 c) := (by rw [HCD.out] at own1; exact Rd.of_own own1); clear own1 hb1) | fail
    have hg0 : g < w1.heap.size := Nat.lt_of_lt_of_le hgl HB01.out.size
    have HG0 : Hid (w1.heap[g]? = some (.cells (strow 2 x hh.length) 51 (0, 0))) := by unfold Hid; rw [HB01.out.block g hgl]; exact HG.out
    have hw0 : w.heap.size ≤ w1.heap.size := HB01.out.size
    clear HG HSt HR HSl HCD hp hp' hp3 HH0 r4
    go_wp2_with fail
    go_loopw [1, 5] (fun bv o wr => ∃ ys l : List Int, Hid (Cx.fd 2 c = (l ++ (Cx.fd 2 ys).1, (Cx.fd 2 ys).2)) ∧ l.length + ys.length ≤ c.length ∧ Hid (Rd .u8 w1 bv ys) ∧ Hid (Byt ys) ∧ wr.ownsRow w1.heap.size 3 1 o l.length (l.map (Value.int .i64)) ∧ Below w1.heap.size w1 wr) (fun bv _ _ => lenOf bv)
    case atStart => exact ⟨c, [], by unfold Hid; simp, by simp, HR0.out, HBc.out, World.ownsRow_nil _ _ _ _, Below.refl _ _⟩
    case round =>
      obtain ⟨ys, l, HD, hle, HY, HYB, hown, hbw⟩ := hrel
      have hw' : w1.heap.size ≤ wr.heap.size := hbw.size
      have hylen := HY.out.len
      have HS : Hid (wr.heap[g]? = some (.cells (strow 2 x hh.length) 51 (0, 0))) := by unfold Hid; rw [hbw.block g hg0]; exact HG0.out
      have hc0 : wr.cell? ⟨g, 0, none⟩ = some (.iface 78 (.agg #[.int .i64 0])) := (row_facts HS.out).1
      by_cases hstop : ys = [] ∨ Cx.wt 2 ys = true
      · have HE : Hid (Cx.fd 2 c = (l, ys)) := by unfold Hid; rw [HD.out, Cx.fd_stop 2 ys hstop, List.append_nil]
        have hshort : ys.length ≤ 3 := by
          rcases hstop with h | h
          · rw [h]; simp
          · exact Cx.wt_short 2 ys h
        obtain ⟨ao, cap, hv, hlc, hcm, _⟩ := HY.out
        subst hv
        have hcm' : cap ≤ 9223372036854775807 := hcm
        have HYr : Hid (Rd .u8 wr (.slice ao ys.length cap) ys) := HY.out.ext hbw
        have HBW : Hid (Below w1.heap.size w1 wr) := hbw
        clear HY HD hcm hbw
        by_cases hn : ys = []
        · subst hn
          have HYr0 : Hid (Rd .u8 wr (.slice ao 0 cap) []) := HYr.out
          clear hstop hle hylen hlc HYr
          simp only [List.length_nil]
          go_wp2_with (refine wpList_copy_held rfl _ _ rfl g 2 x hh.length (.slice ao 0 cap) [] rfl rfl HS.out HYr0.out (by simp) ?_; intro w5 y hg5 hy5 hgw5; obtain ⟨_, _, _, _, c4', f4'⟩ := row_facts hg5; have HG5 : Hid (w5.heap[g]? = some (.cells (strow 2 y hh.length) 51 (0, 0))) := hg5; have HW5 : Hid (wr.grownBy w5 (some g)) := hgw5; clear hg5 hy5 hgw5)
          go_ret
          obtain ⟨hst, hgr⟩ := st_count (m := 0) HG5.out
          rw [HE.out]
          exact ⟨_, rfl, own_mono (own_grown (own_grown hown HW5.out hg0) hgr hg0) hw0, ⟨y, hst, rfl, by simp⟩, grown_trans (grown_below HB01.out) (grown_trans (grown_below HBW.out) (grown_trans HW5.out hgr))⟩
        · have hp : 0 < ys.length := List.length_pos_iff.2 hn
          have hwt : Cx.wt 2 ys = true := hstop.resolve_left hn
          have HNE : Hid (ys ≠ []) := hn
          clear hstop hn
          go_wp2_with fail
          refine (wt2_any _ ys _ HYr.out HYB.out HNE.out).mono ?_
          rintro e w4 ⟨rfl, hb4⟩
          rw [hwt]
          have HS4 : Hid (w4.heap[g]? = some (.cells (strow 2 x hh.length) 51 (0, 0))) := by unfold Hid; rw [hb4.block g (Nat.lt_of_lt_of_le hg0 hw')]; exact HS.out
          have HYr4 : Hid (Rd .u8 w4 (.slice ao ys.length cap) ys) := HYr.out.ext hb4
          have hown4 := own_ext hown hb4
          have HBW4 : Hid (Below w1.heap.size w1 w4) := ext_trans HBW.out hb4
          clear hown hb4
          go_wp2_with (refine wpList_copy_held rfl _ _ rfl g 2 x hh.length (.slice ao ys.length cap) ys rfl rfl HS4.out HYr4.out hshort ?_; intro w5 y hg5 hy5 hgw5; obtain ⟨_, _, _, _, c4', f4'⟩ := row_facts hg5; have HG5 : Hid (w5.heap[g]? = some (.cells (strow 2 y hh.length) 51 (0, 0))) := hg5; have HY5 : Hid (ys = [y.1, y.2.1, y.2.2].take ys.length) := hy5; have HW5 : Hid (w4.grownBy w5 (some g)) := hgw5; clear hg5 hy5 hgw5)
          go_ret
          obtain ⟨hst, hgr⟩ := st_count (m := ys.length) HG5.out
          rw [HE.out]
          exact ⟨_, rfl, own_mono (own_grown (own_grown hown4 HW5.out hg0) hgr hg0) hw0, ⟨y, hst, HY5.out, hshort⟩, grown_trans (grown_below HB01.out) (grown_trans (grown_below HBW4.out) (grown_trans HW5.out hgr))⟩
      · have hn : ys ≠ [] := fun h => hstop (.inl h)
        have hwt : Cx.wt 2 ys = false := by
          cases h : Cx.wt 2 ys with
          | false => rfl
          | true => exact absurd (.inr h) hstop
        obtain ⟨a, n, hf, hn1, hn2⟩ : ∃ (a : Int) (n : Nat), Cx.fst 2 ys = (a, (n : Int)) ∧ 1 ≤ n ∧ n ≤ ys.length := by
          have := Cx.fst_bd 2 ys hn
          exact ⟨_, (Cx.fst 2 ys).2.toNat, Prod.ext rfl (by simp only; omega), by omega, by omega⟩
        have HF : Hid (Cx.fst 2 ys = (a, (n : Int))) := hf
        have HD' : Hid (Cx.fd 2 c = ((l ++ [a]) ++ (Cx.fd 2 (ys.drop n)).1, (Cx.fd 2 (ys.drop n)).2)) := by unfold Hid; rw [HD.out, Cx.fd_go 2 ys hn hwt a n hf]; simp
        have HNE : Hid (ys ≠ []) := hn
        have hyp : 0 < ys.length := List.length_pos_iff.2 hn
        obtain ⟨ao, cap, hv, hlc, hcm, hrest⟩ := HY.out
        obtain ⟨b', off, hao, _⟩ := hrest hn
        subst hao
        subst hv
        have hcm' : cap ≤ 9223372036854775807 := hcm
        have HT' : Hid (l.map (Value.int .i64) ++ [Value.int .i64 a] = (l ++ [a]).map (Value.int .i64)) := snoc_map l a
        have hdl : (ys.drop n).length = ys.length - n := List.length_drop
        clear hf hn hrest hcm HD hstop
        generalize hml : l.map (Value.int .i64) = ml at *
        clear hml
        go_wp2_with fail
        refine (wt2_any _ ys _ (HY.out.ext hbw) HYB.out HNE.out).mono ?_
        rintro e w4 ⟨rfl, hb4⟩
        rw [hwt]
        have hc04 : w4.cell? ⟨g, 0, none⟩ = some (.iface 78 (.agg #[.int .i64 0])) := (hb4.cell (p := ⟨g, 0, none⟩) (Nat.lt_of_lt_of_le hg0 hw')).trans hc0
        have hbw4 : Below w1.heap.size w1 w4 := ext_trans hbw hb4
        have hown4 := own_ext hown hb4
        clear hbw hown hb4 hc0 hw' HS
        go_wp2_with fail
        refine (fst2_any _ ys a n _ (HY.out.ext hbw4) HYB.out HNE.out HF.out).mono ?_
        rintro e w6 ⟨rfl, hb6⟩
        have hown1 := own_ext hown4 hb6
        have hbw1 : Below w1.heap.size w1 w6 := ext_trans hbw4 hb6
        have hw1 : w1.heap.size ≤ w6.heap.size := hbw1.size
        clear hown4 hbw4 hb6 hc04
        go_wp2_with (at_builtin; refine wpList_append_own _ rfl _ _ 36 rfl w1.heap.size 3 i0 (.int .i64 0) 1 8 Tryz.underlying36 hi hz0 hz1 hz2 rfl (by decide) _ _ _ rfl (hown1.alloc _) ⟨w6.heap.size, 0, none⟩ 1 1 [.int .i64 a] rfl rfl (cell_one_new _ _ _) (one_i64 _) (by unfold maxLen; omega) (by omega) (by simp; omega) ?_; intro v' w' hown' hg' hx')
        all_goals refine ⟨⟨ys.drop n, l ++ [a], HD'.out, ?_, ?_, HYB.out.drop n, ?_, below_push hbw1 hown1 hg'⟩, ?_⟩
        all_goals first
          | exact HY.out.cut_if hn2
          | exact HY.out.cut hn2
          | exact HY.out.cut_same (by assumption)
          | (rw [hdl, List.length_append, List.length_singleton]; omega)
          | (rw [List.length_append]; rw [HT'.out] at hown'; exact hown')
          | (simp only [lenOf]; omega)
end Go.Proofs.YtmfbobibpebfnaaGreat

/- Feed, encoding 3. -/
namespace Go.Proofs.YtmfbobibpebfnaaGreat
open Go.RowKit Go.Lib

set_option maxRecDepth 100000 in
set_option maxHeartbeats 2000000 in
theorem feed_3 (w : World) (g : Nat) (hh b : List Int) (v : Value) (s : St w g 3 hh) (hr : Rd .u8 w v b) (sl : Sl v) (hB : Byt (hh ++ b)) (hz : b.length ≤ 1048576) :
    Calls Tryz.prog 14 #[.pointer (some ⟨g, 0, none⟩), v] w fun e w' => ∃ v', e = .returned v' ∧ w'.ownsRow w.heap.size 3 1 v' (Cx.fd 3 (hh ++ b)).1.length ((Cx.fd 3 (hh ++ b)).1.map (Value.int .i64)) ∧ St w' g 3 (Cx.fd 3 (hh ++ b)).2 ∧ w.grownBy w' (some g) := by
  obtain ⟨i0, hi, hz0, hz1, hz2⟩ := info_parts Tryz.info_i64
  have hmw := m_waits2
  have hmf := m_first2
  have hgl := s.lt
  have HSt : Hid (St w g 3 hh) := s
  obtain ⟨x, hg, hx1, hx2⟩ := s
  have HG : Hid (w.heap[g]? = some (.cells (strow 3 x hh.length) 51 (0, 0))) := hg
  obtain ⟨r0, _, _, _, r4, _⟩ := row_facts hg
  have HR : Hid (Rd .u8 w v b) := hr
  have HBc : Hid (Byt (hh ++ b)) := hB
  have HSl : Hid (Sl v) := sl
  clear hg hx1 hr hB sl r0
  by_cases hh0 : hh = []
  · have hcb : hh ++ b = b := by rw [hh0]; rfl
    have hl0 : hh.length = 0 := by rw [hh0]; rfl
    have hl0' : ¬ (0 : Int) < (hh.length : Int) := by omega
    rw [hcb]
    have HR0 : Hid (Rd .u8 w v b) := HR.out
    have HBc' : Hid (Byt b) := by have := HBc.out; rwa [hcb] at this
    clear hcb hh0
    have hg0 := hgl
    have HG0 := HG
    have hw0 : w.heap.size ≤ w.heap.size := Nat.le_refl _
    have HB01 : Hid (Below w.heap.size w w) := Below.refl _ _
    have hcz : b.length ≤ 1048579 := by omega
    clear HBc HR HSt HG
    have HBc := HBc'
    clear HBc'
    go_enter Tryz.func14, Tryz.ntmps14
    go_wp2_with fail
    go_loopw [1, 5] (fun bv o wr => ∃ ys l : List Int, Hid (Cx.fd 3 b = (l ++ (Cx.fd 3 ys).1, (Cx.fd 3 ys).2)) ∧ l.length + ys.length ≤ b.length ∧ Hid (Rd .u8 w bv ys) ∧ Hid (Byt ys) ∧ wr.ownsRow w.heap.size 3 1 o l.length (l.map (Value.int .i64)) ∧ Below w.heap.size w wr) (fun bv _ _ => lenOf bv)
    case atStart => exact ⟨b, [], by unfold Hid; simp, by simp, HR0.out, HBc.out, World.ownsRow_nil _ _ _ _, Below.refl _ _⟩
    case round =>
      obtain ⟨ys, l, HD, hle, HY, HYB, hown, hbw⟩ := hrel
      have hw' : w.heap.size ≤ wr.heap.size := hbw.size
      have hylen := HY.out.len
      have HS : Hid (wr.heap[g]? = some (.cells (strow 3 x hh.length) 51 (0, 0))) := by unfold Hid; rw [hbw.block g hg0]; exact HG0.out
      have hc0 : wr.cell? ⟨g, 0, none⟩ = some (.iface 78 (.agg #[.int .i64 1])) := (row_facts HS.out).1
      by_cases hstop : ys = [] ∨ Cx.wt 3 ys = true
      · have HE : Hid (Cx.fd 3 b = (l, ys)) := by unfold Hid; rw [HD.out, Cx.fd_stop 3 ys hstop, List.append_nil]
        have hshort : ys.length ≤ 3 := by
          rcases hstop with h | h
          · rw [h]; simp
          · exact Cx.wt_short 3 ys h
        obtain ⟨ao, cap, hv, hlc, hcm, _⟩ := HY.out
        subst hv
        have hcm' : cap ≤ 9223372036854775807 := hcm
        have HYr : Hid (Rd .u8 wr (.slice ao ys.length cap) ys) := HY.out.ext hbw
        have HBW : Hid (Below w.heap.size w wr) := hbw
        clear HY HD hcm hbw
        by_cases hn : ys = []
        · subst hn
          have HYr0 : Hid (Rd .u8 wr (.slice ao 0 cap) []) := HYr.out
          clear hstop hle hylen hlc HYr
          simp only [List.length_nil]
          go_wp2_with (refine wpList_copy_held rfl _ _ rfl g 3 x hh.length (.slice ao 0 cap) [] rfl rfl HS.out HYr0.out (by simp) ?_; intro w5 y hg5 hy5 hgw5; obtain ⟨_, _, _, _, c4', f4'⟩ := row_facts hg5; have HG5 : Hid (w5.heap[g]? = some (.cells (strow 3 y hh.length) 51 (0, 0))) := hg5; have HW5 : Hid (wr.grownBy w5 (some g)) := hgw5; clear hg5 hy5 hgw5)
          go_ret
          obtain ⟨hst, hgr⟩ := st_count (m := 0) HG5.out
          rw [HE.out]
          exact ⟨_, rfl, own_mono (own_grown (own_grown hown HW5.out hg0) hgr hg0) hw0, ⟨y, hst, rfl, by simp⟩, grown_trans (grown_below HB01.out) (grown_trans (grown_below HBW.out) (grown_trans HW5.out hgr))⟩
        · have hp : 0 < ys.length := List.length_pos_iff.2 hn
          have hwt : Cx.wt 3 ys = true := hstop.resolve_left hn
          have HNE : Hid (ys ≠ []) := hn
          clear hstop hn
          go_wp2_with fail
          refine (wt3_any _ ys _ HYr.out HYB.out HNE.out).mono ?_
          rintro e w4 ⟨rfl, hb4⟩
          rw [hwt]
          have HS4 : Hid (w4.heap[g]? = some (.cells (strow 3 x hh.length) 51 (0, 0))) := by unfold Hid; rw [hb4.block g (Nat.lt_of_lt_of_le hg0 hw')]; exact HS.out
          have HYr4 : Hid (Rd .u8 w4 (.slice ao ys.length cap) ys) := HYr.out.ext hb4
          have hown4 := own_ext hown hb4
          have HBW4 : Hid (Below w.heap.size w w4) := ext_trans HBW.out hb4
          clear hown hb4
          go_wp2_with (refine wpList_copy_held rfl _ _ rfl g 3 x hh.length (.slice ao ys.length cap) ys rfl rfl HS4.out HYr4.out hshort ?_; intro w5 y hg5 hy5 hgw5; obtain ⟨_, _, _, _, c4', f4'⟩ := row_facts hg5; have HG5 : Hid (w5.heap[g]? = some (.cells (strow 3 y hh.length) 51 (0, 0))) := hg5; have HY5 : Hid (ys = [y.1, y.2.1, y.2.2].take ys.length) := hy5; have HW5 : Hid (w4.grownBy w5 (some g)) := hgw5; clear hg5 hy5 hgw5)
          go_ret
          obtain ⟨hst, hgr⟩ := st_count (m := ys.length) HG5.out
          rw [HE.out]
          exact ⟨_, rfl, own_mono (own_grown (own_grown hown4 HW5.out hg0) hgr hg0) hw0, ⟨y, hst, HY5.out, hshort⟩, grown_trans (grown_below HB01.out) (grown_trans (grown_below HBW4.out) (grown_trans HW5.out hgr))⟩
      · have hn : ys ≠ [] := fun h => hstop (.inl h)
        have hwt : Cx.wt 3 ys = false := by
          cases h : Cx.wt 3 ys with
          | false => rfl
          | true => exact absurd (.inr h) hstop
        obtain ⟨a, n, hf, hn1, hn2⟩ : ∃ (a : Int) (n : Nat), Cx.fst 3 ys = (a, (n : Int)) ∧ 1 ≤ n ∧ n ≤ ys.length := by
          have := Cx.fst_bd 3 ys hn
          exact ⟨_, (Cx.fst 3 ys).2.toNat, Prod.ext rfl (by simp only; omega), by omega, by omega⟩
        have HF : Hid (Cx.fst 3 ys = (a, (n : Int))) := hf
        have HD' : Hid (Cx.fd 3 b = ((l ++ [a]) ++ (Cx.fd 3 (ys.drop n)).1, (Cx.fd 3 (ys.drop n)).2)) := by unfold Hid; rw [HD.out, Cx.fd_go 3 ys hn hwt a n hf]; simp
        have HNE : Hid (ys ≠ []) := hn
        have hyp : 0 < ys.length := List.length_pos_iff.2 hn
        obtain ⟨ao, cap, hv, hlc, hcm, hrest⟩ := HY.out
        obtain ⟨b', off, hao, _⟩ := hrest hn
        subst hao
        subst hv
        have hcm' : cap ≤ 9223372036854775807 := hcm
        have HT' : Hid (l.map (Value.int .i64) ++ [Value.int .i64 a] = (l ++ [a]).map (Value.int .i64)) := snoc_map l a
        have hdl : (ys.drop n).length = ys.length - n := List.length_drop
        clear hf hn hrest hcm HD hstop
        generalize hml : l.map (Value.int .i64) = ml at *
        clear hml
        go_wp2_with fail
        refine (wt3_any _ ys _ (HY.out.ext hbw) HYB.out HNE.out).mono ?_
        rintro e w4 ⟨rfl, hb4⟩
        rw [hwt]
        have hc04 : w4.cell? ⟨g, 0, none⟩ = some (.iface 78 (.agg #[.int .i64 1])) := (hb4.cell (p := ⟨g, 0, none⟩) (Nat.lt_of_lt_of_le hg0 hw')).trans hc0
        have hbw4 : Below w.heap.size w w4 := ext_trans hbw hb4
        have hown4 := own_ext hown hb4
        clear hbw hown hb4 hc0 hw' HS
        go_wp2_with fail
        refine (fst3_any _ ys a n _ (HY.out.ext hbw4) HYB.out HNE.out HF.out).mono ?_
        rintro e w6 ⟨rfl, hb6⟩
        have hown1 := own_ext hown4 hb6
        have hbw1 : Below w.heap.size w w6 := ext_trans hbw4 hb6
        have hw1 : w.heap.size ≤ w6.heap.size := hbw1.size
        clear hown4 hbw4 hb6 hc04
        go_wp2_with (at_builtin; refine wpList_append_own _ rfl _ _ 36 rfl w.heap.size 3 i0 (.int .i64 0) 1 8 Tryz.underlying36 hi hz0 hz1 hz2 rfl (by decide) _ _ _ rfl (hown1.alloc _) ⟨w6.heap.size, 0, none⟩ 1 1 [.int .i64 a] rfl rfl (cell_one_new _ _ _) (one_i64 _) (by unfold maxLen; omega) (by omega) (by simp; omega) ?_; intro v' w' hown' hg' hx')
        all_goals refine ⟨⟨ys.drop n, l ++ [a], HD'.out, ?_, ?_, HYB.out.drop n, ?_, below_push hbw1 hown1 hg'⟩, ?_⟩
        all_goals first
          | exact HY.out.cut_if hn2
          | exact HY.out.cut hn2
          | exact HY.out.cut_same (by assumption)
          | (rw [hdl, List.length_append, List.length_singleton]; omega)
          | (rw [List.length_append]; rw [HT'.out] at hown'; exact hown')
          | (simp only [lenOf]; omega)
  · have hp : 0 < hh.length := List.length_pos_iff.2 hh0
    have hp' : (0 : Int) < (hh.length : Int) := by omega
    have hp3 : (hh.length : Int) ≤ 3 := by omega
    have HH0 : Hid (hh ≠ []) := hh0
    obtain ⟨ao, cp, hv, _⟩ := id HR.out
    subst hv
    obtain ⟨c, hcd⟩ : ∃ c, c = hh ++ b := ⟨_, rfl⟩
    have hcz : c.length ≤ 1048579 := by rw [hcd, List.length_append]; omega
    rw [← hcd]
    have HBc' : Hid (Byt c) := by have := HBc.out; rwa [← hcd] at this
    have HCD : Hid (hh ++ b = c) := hcd.symm
    clear hh0 hcd HBc
    have HBc := HBc'
    clear HBc'
    go_enter Tryz.func14, Tryz.ntmps14
    go_wp2_with fail
    first | go_region_with (go_at_call 32; refine (concat_any w.heap.size (.slice (some ⟨g, 1, none⟩) hh.length 3) (.slice ao b.length cp) hh b _ ?_ ?_ HSl.out g 1 hh.length 3 rfl HH0.out ?_ ?_ ?_ ?_).mono ?_; exact (held_rd HSt.out).ext (by repeat (first | exact Below.refl _ _ | apply below_drewN | refine ext_alloc ?_ _ | apply Below.drew)); exact HR.out.ext (by repeat (first | exact Below.refl _ _ | apply below_drewN | refine ext_alloc ?_ _ | apply Below.drew)); omega; simp; simp; simp; rintro e w1 ⟨v1, rfl, own1, hb1⟩; have HB01 : Hid (Below w.heap.size w w1) := ext_trans (by repeat (first | exact Below.refl _ _ | apply below_drewN | refine ext_alloc ?_ _ | apply Below.drew)) hb1; have HR0 : Hid (Rd .u8 w1 v1 c) := (by rw [HCD.out] at own1; exact Rd.of_own own1); clear own1 hb1) | fail
    have hg0 : g < w1.heap.size := Nat.lt_of_lt_of_le hgl HB01.out.size
    have HG0 : Hid (w1.heap[g]? = some (.cells (strow 3 x hh.length) 51 (0, 0))) := by unfold Hid; rw [HB01.out.block g hgl]; exact HG.out
    have hw0 : w.heap.size ≤ w1.heap.size := HB01.out.size
    clear HG HSt HR HSl HCD hp hp' hp3 HH0 r4
    go_wp2_with fail
    go_loopw [1, 5] (fun bv o wr => ∃ ys l : List Int, Hid (Cx.fd 3 c = (l ++ (Cx.fd 3 ys).1, (Cx.fd 3 ys).2)) ∧ l.length + ys.length ≤ c.length ∧ Hid (Rd .u8 w1 bv ys) ∧ Hid (Byt ys) ∧ wr.ownsRow w1.heap.size 3 1 o l.length (l.map (Value.int .i64)) ∧ Below w1.heap.size w1 wr) (fun bv _ _ => lenOf bv)
    case atStart => exact ⟨c, [], by unfold Hid; simp, by simp, HR0.out, HBc.out, World.ownsRow_nil _ _ _ _, Below.refl _ _⟩
    case round =>
      obtain ⟨ys, l, HD, hle, HY, HYB, hown, hbw⟩ := hrel
      have hw' : w1.heap.size ≤ wr.heap.size := hbw.size
      have hylen := HY.out.len
      have HS : Hid (wr.heap[g]? = some (.cells (strow 3 x hh.length) 51 (0, 0))) := by unfold Hid; rw [hbw.block g hg0]; exact HG0.out
      have hc0 : wr.cell? ⟨g, 0, none⟩ = some (.iface 78 (.agg #[.int .i64 1])) := (row_facts HS.out).1
      by_cases hstop : ys = [] ∨ Cx.wt 3 ys = true
      · have HE : Hid (Cx.fd 3 c = (l, ys)) := by unfold Hid; rw [HD.out, Cx.fd_stop 3 ys hstop, List.append_nil]
        have hshort : ys.length ≤ 3 := by
          rcases hstop with h | h
          · rw [h]; simp
          · exact Cx.wt_short 3 ys h
        obtain ⟨ao, cap, hv, hlc, hcm, _⟩ := HY.out
        subst hv
        have hcm' : cap ≤ 9223372036854775807 := hcm
        have HYr : Hid (Rd .u8 wr (.slice ao ys.length cap) ys) := HY.out.ext hbw
        have HBW : Hid (Below w1.heap.size w1 wr) := hbw
        clear HY HD hcm hbw
        by_cases hn : ys = []
        · subst hn
          have HYr0 : Hid (Rd .u8 wr (.slice ao 0 cap) []) := HYr.out
          clear hstop hle hylen hlc HYr
          simp only [List.length_nil]
          go_wp2_with (refine wpList_copy_held rfl _ _ rfl g 3 x hh.length (.slice ao 0 cap) [] rfl rfl HS.out HYr0.out (by simp) ?_; intro w5 y hg5 hy5 hgw5; obtain ⟨_, _, _, _, c4', f4'⟩ := row_facts hg5; have HG5 : Hid (w5.heap[g]? = some (.cells (strow 3 y hh.length) 51 (0, 0))) := hg5; have HW5 : Hid (wr.grownBy w5 (some g)) := hgw5; clear hg5 hy5 hgw5)
          go_ret
          obtain ⟨hst, hgr⟩ := st_count (m := 0) HG5.out
          rw [HE.out]
          exact ⟨_, rfl, own_mono (own_grown (own_grown hown HW5.out hg0) hgr hg0) hw0, ⟨y, hst, rfl, by simp⟩, grown_trans (grown_below HB01.out) (grown_trans (grown_below HBW.out) (grown_trans HW5.out hgr))⟩
        · have hp : 0 < ys.length := List.length_pos_iff.2 hn
          have hwt : Cx.wt 3 ys = true := hstop.resolve_left hn
          have HNE : Hid (ys ≠ []) := hn
          clear hstop hn
          go_wp2_with fail
          refine (wt3_any _ ys _ HYr.out HYB.out HNE.out).mono ?_
          rintro e w4 ⟨rfl, hb4⟩
          rw [hwt]
          have HS4 : Hid (w4.heap[g]? = some (.cells (strow 3 x hh.length) 51 (0, 0))) := by unfold Hid; rw [hb4.block g (Nat.lt_of_lt_of_le hg0 hw')]; exact HS.out
          have HYr4 : Hid (Rd .u8 w4 (.slice ao ys.length cap) ys) := HYr.out.ext hb4
          have hown4 := own_ext hown hb4
          have HBW4 : Hid (Below w1.heap.size w1 w4) := ext_trans HBW.out hb4
          clear hown hb4
          go_wp2_with (refine wpList_copy_held rfl _ _ rfl g 3 x hh.length (.slice ao ys.length cap) ys rfl rfl HS4.out HYr4.out hshort ?_; intro w5 y hg5 hy5 hgw5; obtain ⟨_, _, _, _, c4', f4'⟩ := row_facts hg5; have HG5 : Hid (w5.heap[g]? = some (.cells (strow 3 y hh.length) 51 (0, 0))) := hg5; have HY5 : Hid (ys = [y.1, y.2.1, y.2.2].take ys.length) := hy5; have HW5 : Hid (w4.grownBy w5 (some g)) := hgw5; clear hg5 hy5 hgw5)
          go_ret
          obtain ⟨hst, hgr⟩ := st_count (m := ys.length) HG5.out
          rw [HE.out]
          exact ⟨_, rfl, own_mono (own_grown (own_grown hown4 HW5.out hg0) hgr hg0) hw0, ⟨y, hst, HY5.out, hshort⟩, grown_trans (grown_below HB01.out) (grown_trans (grown_below HBW4.out) (grown_trans HW5.out hgr))⟩
      · have hn : ys ≠ [] := fun h => hstop (.inl h)
        have hwt : Cx.wt 3 ys = false := by
          cases h : Cx.wt 3 ys with
          | false => rfl
          | true => exact absurd (.inr h) hstop
        obtain ⟨a, n, hf, hn1, hn2⟩ : ∃ (a : Int) (n : Nat), Cx.fst 3 ys = (a, (n : Int)) ∧ 1 ≤ n ∧ n ≤ ys.length := by
          have := Cx.fst_bd 3 ys hn
          exact ⟨_, (Cx.fst 3 ys).2.toNat, Prod.ext rfl (by simp only; omega), by omega, by omega⟩
        have HF : Hid (Cx.fst 3 ys = (a, (n : Int))) := hf
        have HD' : Hid (Cx.fd 3 c = ((l ++ [a]) ++ (Cx.fd 3 (ys.drop n)).1, (Cx.fd 3 (ys.drop n)).2)) := by unfold Hid; rw [HD.out, Cx.fd_go 3 ys hn hwt a n hf]; simp
        have HNE : Hid (ys ≠ []) := hn
        have hyp : 0 < ys.length := List.length_pos_iff.2 hn
        obtain ⟨ao, cap, hv, hlc, hcm, hrest⟩ := HY.out
        obtain ⟨b', off, hao, _⟩ := hrest hn
        subst hao
        subst hv
        have hcm' : cap ≤ 9223372036854775807 := hcm
        have HT' : Hid (l.map (Value.int .i64) ++ [Value.int .i64 a] = (l ++ [a]).map (Value.int .i64)) := snoc_map l a
        have hdl : (ys.drop n).length = ys.length - n := List.length_drop
        clear hf hn hrest hcm HD hstop
        generalize hml : l.map (Value.int .i64) = ml at *
        clear hml
        go_wp2_with fail
        refine (wt3_any _ ys _ (HY.out.ext hbw) HYB.out HNE.out).mono ?_
        rintro e w4 ⟨rfl, hb4⟩
        rw [hwt]
        have hc04 : w4.cell? ⟨g, 0, none⟩ = some (.iface 78 (.agg #[.int .i64 1])) := (hb4.cell (p := ⟨g, 0, none⟩) (Nat.lt_of_lt_of_le hg0 hw')).trans hc0
        have hbw4 : Below w1.heap.size w1 w4 := ext_trans hbw hb4
        have hown4 := own_ext hown hb4
        clear hbw hown hb4 hc0 hw' HS
        go_wp2_with fail
        refine (fst3_any _ ys a n _ (HY.out.ext hbw4) HYB.out HNE.out HF.out).mono ?_
        rintro e w6 ⟨rfl, hb6⟩
        have hown1 := own_ext hown4 hb6
        have hbw1 : Below w1.heap.size w1 w6 := ext_trans hbw4 hb6
        have hw1 : w1.heap.size ≤ w6.heap.size := hbw1.size
        clear hown4 hbw4 hb6 hc04
        go_wp2_with (at_builtin; refine wpList_append_own _ rfl _ _ 36 rfl w1.heap.size 3 i0 (.int .i64 0) 1 8 Tryz.underlying36 hi hz0 hz1 hz2 rfl (by decide) _ _ _ rfl (hown1.alloc _) ⟨w6.heap.size, 0, none⟩ 1 1 [.int .i64 a] rfl rfl (cell_one_new _ _ _) (one_i64 _) (by unfold maxLen; omega) (by omega) (by simp; omega) ?_; intro v' w' hown' hg' hx')
        all_goals refine ⟨⟨ys.drop n, l ++ [a], HD'.out, ?_, ?_, HYB.out.drop n, ?_, below_push hbw1 hown1 hg'⟩, ?_⟩
        all_goals first
          | exact HY.out.cut_if hn2
          | exact HY.out.cut hn2
          | exact HY.out.cut_same (by assumption)
          | (rw [hdl, List.length_append, List.length_singleton]; omega)
          | (rw [List.length_append]; rw [HT'.out] at hown'; exact hown')
          | (simp only [lenOf]; omega)
end Go.Proofs.YtmfbobibpebfnaaGreat
