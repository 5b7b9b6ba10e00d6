/- ClusterLines: the walk. -/
import Derived.Test.YtahjjpleceppaaaLines1
namespace Go.Proofs.Ytahjjpleceppaaa
open Go.RowKit

/-- How long the whole may be ahead of line i. -/
def Cl.pre (zss : List (List Int)) (i : Nat) : Nat := ((zss.take i).map fun z => z.length + 2).sum
theorem Cl.pre_succ (zss : List (List Int)) (i : Nat) (h : i < zss.length) : Cl.pre zss (i + 1) = Cl.pre zss i + (zss[i]?.getD []).length + 2 := by
  unfold Cl.pre
  rw [List.take_succ_eq_append_getElem h, List.map_append, List.sum_append]
  simp [h]; omega
theorem Cl.pre_le (zss : List (List Int)) (i : Nat) : Cl.pre zss i ≤ Cl.pre zss zss.length := by
  rcases Nat.lt_or_ge i zss.length with h | h
  · unfold Cl.pre
    rw [List.take_length]
    have : zss.map (fun z => z.length + 2) = ((zss.take i).map fun z => z.length + 2) ++ ((zss.drop i).map fun z => z.length + 2) := by rw [← List.map_append, List.take_append_drop]
    rw [this, List.sum_append]
    omega
  · unfold Cl.pre; rw [List.take_of_length_le h, List.take_length]; exact Nat.le_refl _
theorem own_keep {wr w' : World} {nj n : Nat} {o : Obj} {v t : Value} {xs : List Value} (h : wr.ownsRow nj 3 1 v n xs) (ht : ∀ g, t.ownBlock = some g → v.ownBlock ≠ some g) (hg : (wr.alloc o).grownBy w' t.ownBlock) : w'.ownsRow nj 3 1 v n xs := by
  refine (h.alloc o).kept hg ?_
  cases hb : v.ownBlock with
  | none => exact .inl rfl
  | some g =>
    right
    intro he
    exact ht g he.symm hb
/-- The copy of a row, its line ends turned into blanks: one block of its own. -/
theorem Own.at {w : World} {base : Nat} {v : Value} {zs : List Int} (h : Own w base v zs) (hn : 0 < zs.length) : ∃ g cap, v = .slice (some ⟨g, 0, none⟩) zs.length cap ∧ base ≤ g ∧ g < w.heap.size ∧ zs.length ≤ cap ∧ cap ≤ 9223372036854775807 := by
  obtain ⟨h1, h2⟩ := h
  rcases h2 with ⟨hv, h0⟩ | ⟨g', cap', cur, hv, hb, hg, hn, hc, hs, ht⟩
  · omega
  · exact ⟨g', cap', hv, hb, (Array.getElem?_eq_some_iff.1 hg).1, hn, hc⟩
theorem Cl.sh01 (n : Int) : Cl.sh n [0, 1] = [n + 1] := by unfold Cl.sh; simp [Int.add_comm]
theorem Cl.sh02 (n : Int) : Cl.sh n [0, 2] = [n + 2] := by unfold Cl.sh; simp [Int.add_comm]
theorem Cl.sh012 (n : Int) : Cl.sh n [0, 1, 2] = [n + 1, n + 2] := by unfold Cl.sh; simp [Int.add_comm]
theorem own_form {w : World} {base : Nat} {e : TypeId} {v : Value} {n : Nat} {xs : List Value} (h : w.ownsRow base e 1 v n xs) : ∃ ao cap, v = .slice ao n cap := by
  obtain ⟨h1, h2⟩ := h
  rcases h2 with ⟨hv, h0⟩ | ⟨g', cap', cur, hv, hb, hg, hn, hc, hs, ht⟩
  · exact ⟨none, 0, by rw [hv, h0]⟩
  · exact ⟨_, cap', hv⟩
/-- append onto what lies above B: nothing below has turned. -/
theorem below_push2 {w wr w' : World} {o : Obj} {e : TypeId} {size n B : Nat} {v : Value} {xs : List Value} (hB : B = w.heap.size) (hb : Below B w wr) (hown : wr.ownsRow B e size v n xs) (hg : (wr.alloc o).grownBy w' v.ownBlock) : Below B w w' := by
  subst hB; exact below_push hb hown hg

/-- What holds ahead of each line: the whole so far, and its boundaries. -/
def Cl.LI (w wr : World) (vW vT : Value) (W : List Int) (m : Nat) : Prop :=
  Rd .i64 wr vW W ∧ Own wr w.heap.size vT (Cl.bi W) ∧ Below w.heap.size w wr ∧ Cl.shut W ∧ W.length ≤ m

set_option maxRecDepth 100000 in
set_option maxHeartbeats 8000000 in
theorem law_lines (v0 : Value) (zss : List (List Int)) (v1 : Value) (ks : List Int) (w : World) (h0 : RdL w v0 zss) (h1 : Rd .i64 w v1 ks) (hz : Cl.pre zss zss.length * 8 + 64 ≤ 140737488355328) :
    Calls Try.prog 4 #[v0, v1] w fun e w' => e = .returned (.bool true) ∧ Below w.heap.size w w' := by
  have H1 : Hid (Rd .i64 w v1 ks) := h1
  have hklen := h1.len
  obtain ⟨a1, c1, rfl⟩ := h1.form
  obtain ⟨a0, c0, rfl, hl0, hm0, hc0⟩ := h0
  have hm0' : c0 ≤ 9223372036854775807 := hm0
  have HL : Hid (0 < zss.length → ∃ b off, a0 = some ⟨b, off, none⟩ ∧ b < w.heap.size ∧ ∀ i, i < zss.length → ∃ ai ci, w.cell? ⟨b, off + i, none⟩ = some (.slice ai (zss[i]?.getD []).length ci) ∧ Rd .i64 w (.slice ai (zss[i]?.getD []).length ci) (zss[i]?.getD [])) := hc0
  obtain ⟨i0, hi, hz0, hz1, hz2⟩ := info_parts Try.info_i64
  clear h1 hc0 hm0
  have hown0 := World.ownsRow_nil w w.heap.size 3 1
  go_enter Try.func4, Try.ntmps4
  go_wp2_with (at_builtin; refine wpList_append_own _ rfl _ _ 22 rfl w.heap.size 3 i0 (.int .i64 0) 1 8 Try.underlying22 hi hz0 hz1 hz2 rfl (by decide) _ _ _ rfl (hown0.alloc _) ⟨w.heap.size, 0, none⟩ 1 1 [.int .i64 (0)] rfl rfl (cell_one_new _ _ _) (one_i64 _) (by unfold maxLen; omega) (by omega) (by simp <;> omega) ?_; intro vT0 w0 hownT0 hgT0 hxT0)
  have hb0 : Below w.heap.size w w0 := below_push (Below.refl _ _) hown0 hgT0
  have HI0 : Hid (Cl.LI w w0 (.slice none 0 0) vT0 [] 0) := ⟨Rd.nil _ _, by
    have e : Cl.bi [] = [0] := by decide +kernel
    unfold Own; rw [e]; exact hownT0, hb0, Cl.shut_nil, Nat.le_refl _⟩
  clear hownT0 hgT0 hxT0 hb0 hown0
  go_loopw [5, 6, 7] (fun vW vT i wr => ∃ (k : Nat) (W : List Int), k ≤ zss.length ∧ i = .int .i64 k ∧ Hid (Cl.LI w wr vW vT W (Cl.pre zss k))) (fun _ _ i _ => zss.length - (intOf i).toNat)
  case atStart => exact ⟨0, [], Nat.zero_le _, rfl, HI0.out⟩
  case round =>
    obtain ⟨k, W, hk, rfl, HI⟩ := hrel
    clear HI0
    obtain ⟨wo, hwo⟩ : ∃ x, x = wr := ⟨_, rfl⟩
    subst hwo
    have hpk := Cl.pre_le zss k
    obtain ⟨dW, eW, hvW⟩ := HI.out.1.form
    subst hvW
    have hWl := HI.out.2.2.2.2
    by_cases hlt : k < zss.length ∧ k < ks.length
    · obtain ⟨hlt1, hlt2⟩ := hlt
      have hpk1 := Cl.pre_le zss (k + 1)
      have hps := Cl.pre_succ zss k hlt1
      obtain ⟨b, off, rfl, hbl, hall⟩ := HL.out (by omega)
      obtain ⟨ai, ci, hcz, hrz⟩ := hall k hlt1
      have hcz' := (HI.out.2.2.1.cell (p := ⟨b, off + k, none⟩) hbl).trans hcz
      obtain ⟨bk, offk, capk, hvk, _, _, hbk, hck⟩ := H1.out.at (by omega)
      simp only [Value.slice.injEq] at hvk
      obtain ⟨rfl, _, rfl⟩ := hvk
      have HK : Hid (∀ w', Below w.heap.size w w' → w'.cell? ⟨bk, offk + k, none⟩ = some (.int .i64 (Cl.at ks k))) := fun w' hw => (hw.cell (p := ⟨bk, offk + k, none⟩) hbk).trans (hck k hlt2)
      generalize hz' : zss[k]?.getD [] = z at *
      have HRz : Hid (Rd .i64 wo (.slice ai z.length ci) z) := hrz.ext HI.out.2.2.1
      have hd1 : decide ((k : Int) < (zss.length : Int)) = true := by simp; omega
      have hd2 : decide ((k : Int) < (ks.length : Int)) = true := by simp; omega
      have hpre : Cl.pre zss (k + 1) = Cl.pre zss k + z.length + 2 := hps
      have HPRE : Hid (Cl.pre zss (k + 1) = Cl.pre zss k + z.length + 2) := hpre
      have hzl : z.length * 8 + W.length * 8 + 64 ≤ 140737488355328 := by omega
      generalize Cl.at ks k = kd at *
      clear hall hcz hrz hck hps hpre hz' hpk hpk1
      go_wp2_with (go_at_call 17; refine (copied_any _ z _ HRz.out (by omega)).mono ?_; rintro e w1 ⟨u1, rfl, ho1, hb1⟩; have RO1 : Hid (Own w1 wo.heap.size u1 z) := ho1; have RB1 : Hid (Below wo.heap.size wo w1) := hb1; clear ho1 hb1)
      clear hcz'
      obtain ⟨dr, er, hur⟩ := RO1.out.rd.form
      subst hur
      go_loopw [9] (fun i wq => ∃ j : Nat, j ≤ z.length ∧ i = .int .i64 j ∧ Hid (Own wq wo.heap.size (.slice dr z.length er) ((Cl.clean z).take j ++ z.drop j)) ∧ Hid (Below wo.heap.size wo wq)) (fun i _ => z.length - (intOf i).toNat)
      case atStart => exact ⟨0, Nat.zero_le _, rfl, RO1.out, RB1.out⟩
      case round =>
        obtain ⟨j, hj, rfl, HO, HBq⟩ := hrel
        clear RO1 RB1
        have hjl : ((Cl.clean z).take j ++ z.drop j).length = z.length := by rw [List.length_append, List.length_take, List.length_drop, Cl.clean_len]; omega
        by_cases hjt : j < z.length
        · obtain ⟨g, cap, hv, hbg, hgl, hgc, hgm⟩ := HO.out.at (by omega)
          rw [hjl] at hv
          simp only [Value.slice.injEq] at hv
          obtain ⟨rfl, _, rfl⟩ := hv
          have hown : wr.ownsRow wo.heap.size 3 1 (.slice (some ⟨g, 0, none⟩) z.length er) z.length (((Cl.clean z).take j ++ z.drop j).map (Value.int .i64)) := by
            have := HO.out; unfold Own at this; rwa [hjl] at this
          have hcx : wr.cell? ⟨g, j, none⟩ = some (.int .i64 (Cl.at z j)) := by rw [hown.cellAt j (by omega), Cl.clean_cell z j hjt]
          have hfz := hown.frozenAt j
          by_cases hte : Cl.at z j = 10 ∨ Cl.at z j = 13
          · have hst := (hown.stored j (.int .i64 32)).1
            have hcl1 : Cl.cl1 (Cl.at z j) = 32 := by unfold Cl.cl1; rw [if_pos hte]
            rw [← hcl1, Cl.clean_step z j hjt, hcl1] at hst
            have HST : Hid (Own (wr.setCell ⟨g, j, none⟩ (.int .i64 32)) wo.heap.size (.slice (some ⟨g, 0, none⟩) z.length er) ((Cl.clean z).take (j + 1) ++ z.drop (j + 1))) := by
              unfold Hid Own
              rw [List.length_append, List.length_take, List.length_drop, Cl.clean_len, show min (j + 1) z.length + (z.length - (j + 1)) = z.length from by omega]
              exact hst
            clear hst hown HO hcl1 hjl
            generalize Cl.at z j = a at *
            rcases hte with rfl | rfl
            · go_wp2_with fail
              go_roundw
              case rel => exact ⟨j + 1, by omega, by go_num, HST.out, HBq.out.setCell (p := ⟨g, j, none⟩) hbg _⟩
              case measure => simp [intOf]; omega
            · go_wp2_with fail
              go_roundw
              case rel => exact ⟨j + 1, by omega, by go_num, HST.out, HBq.out.setCell (p := ⟨g, j, none⟩) hbg _⟩
              case measure => simp [intOf]; omega
          · have hsm : Cl.cl1 (Cl.at z j) = Cl.at z j := by unfold Cl.cl1; rw [if_neg hte]
            have HST : Hid (Own wr wo.heap.size (.slice (some ⟨g, 0, none⟩) z.length er) ((Cl.clean z).take (j + 1) ++ z.drop (j + 1))) := by
              unfold Hid; rw [← Cl.clean_same z j hjt hsm]; exact HO.out
            have b1 : (Cl.at z j == 10) = false := by rw [beq_eq_false_iff_ne]; omega
            have b2 : (Cl.at z j == 13) = false := by rw [beq_eq_false_iff_ne]; omega
            clear hown HO hsm hjl hte
            generalize Cl.at z j = a at *
            go_wp2_with fail
            go_roundw
            case rel => exact ⟨j + 1, by omega, by go_num, HST.out, HBq.out⟩
            case measure => simp [intOf]; omega
        · obtain ⟨c, hc⟩ : ∃ c, c = Cl.clean z := ⟨_, rfl⟩
          have hcl : z.length = c.length := by rw [hc, Cl.clean_len]
          have HOc : Hid (Own wr wo.heap.size (.slice dr c.length er) c) := by
            have e : (Cl.clean z).take j ++ z.drop j = c := by
              rw [hc, List.take_of_length_le (by rw [Cl.clean_len]; omega), List.drop_eq_nil_of_le (by omega), List.append_nil]
            have := HO.out; rw [e, hcl] at this; exact this
          have HCN : Hid (∀ a ∈ c, a ≠ 13) := by unfold Hid; rw [hc]; exact Cl.clean_no z
          have HPRE2 : Hid (Cl.pre zss (k + 1) = Cl.pre zss k + c.length + 2) := by unfold Hid; rw [HPRE.out, hcl]
          have hzl2 : c.length * 8 + W.length * 8 + 64 ≤ 140737488355328 := by omega
          rw [hcl]
          have HRW : Hid (Rd .i64 wr (.slice dW W.length eW) W ∧ Own wr w.heap.size u6 (Cl.bi W) ∧ Below w.heap.size w wr) := ⟨HI.out.1.ext HBq.out, HI.out.2.1.ext HBq.out, ext_trans HI.out.2.2.1 HBq.out⟩
          have HSH : Hid (Cl.shut W) := HI.out.2.2.2.1
          have HWl : Hid (W.length ≤ Cl.pre zss k) := hWl
          have mW := Cl.bi_le W
          have mC := Cl.bi_le c
          have hdj : ¬ j < c.length := by omega
          have hdj2 : decide (j < c.length) = false := by simp; omega
          clear HO HBq hjl HI HRz hjt hc hzl HPRE hcl
          go_wp2_with fail
          refine (new_of (Below.refl _ _) (copied_any _ c _ HOc.out.rd (by omega))).mono ?_
          rintro e w3 ⟨u3, rfl, hr3, -, hb3⟩
          have R3 : Hid (Rd .i64 w3 u3 c ∧ Below wr.heap.size wr w3) := ⟨hr3, hb3⟩
          clear hr3 hb3
          go_wp2_with fail
          refine (new_of R3.out.2 (Breaks_any _ c _ R3.out.1 (by omega))).mono ?_
          rintro e w4 ⟨u4, rfl, hr4, -, hb4⟩
          have R4 : Hid (Rd .i64 w4 u4 (Cl.bi c) ∧ Below wr.heap.size wr w4) := ⟨hr4, hb4⟩
          clear hr4 hb4 R3
          go_wp2_with fail
          refine (tell_of R4.out.2 (ends_any _ _ _ _ R4.out.1 (Cl.bi_rise _))).mono ?_
          rintro e w5 ⟨rfl, hp5, hb5⟩
          have R5 : Hid (Rd .i64 w5 u4 (Cl.bi c) ∧ Below wr.heap.size wr w5) := ⟨R4.out.1.ext hp5, hb5⟩
          clear hp5 hb5 R4
          have mB := Cl.bi_mem c
          by_cases hc0 : 0 < c.length
          · have hdc : decide ((0 : Int) < (c.length : Int)) = true := by simp; omega
            go_wp2_with fail
            refine (new_of R5.out.2 (shifted_any _ _ _ _ R5.out.1 (by omega) (by omega) (fun x hx => by have := mB x hx; omega))).mono ?_
            rintro e w6 ⟨s6, rfl, hr6, hp6, hb6⟩
            have R6 : Hid (Rd .i64 w6 s6 (Cl.sh W.length (Cl.bi c)) ∧ Below wr.heap.size wr w6) := ⟨hr6, hb6⟩
            have m6 : (Cl.sh W.length (Cl.bi c)).length ≤ c.length := by unfold Cl.sh; simp; omega
            clear hr6 hp6 hb6 R5
            go_wp2_with fail
            refine (lawJoined_any _ _ (Cl.bi W) _ _ (HRW.out.2.1.rd.ext R6.out.2) R6.out.1 (by omega)).mono ?_
            rintro e w7 ⟨tv, rfl, ho7, hb7⟩
            obtain ⟨T1, hT1⟩ : ∃ t, t = Cl.bi W ++ Cl.sh W.length (Cl.bi c) := ⟨_, rfl⟩
            rw [← hT1] at ho7
            have HT1 : Hid (T1 = Cl.bi W ++ Cl.sh W.length (Cl.bi c)) := hT1
            have mT : T1.length ≤ W.length + 1 + c.length := by rw [hT1, List.length_append]; omega
            have B7 : Below wr.heap.size wr w7 := ext_trans R6.out.2 hb7
            have R7 : Hid (Rd .i64 w7 (.slice dW W.length eW) W ∧ Rd .i64 w7 (.slice dr c.length er) c ∧ Own w7 w.heap.size tv T1 ∧ Below w.heap.size w w7) := ⟨HRW.out.1.ext B7, HOc.out.rd.ext B7, ho7.le (Nat.le_trans HRW.out.2.2.size R6.out.2.size), ext_trans HRW.out.2.2 B7⟩
            clear ho7 hb7 hT1 B7 R6 m6 mB
            go_wp2_with fail
            refine (lawJoined_any _ _ W c _ R7.out.1 R7.out.2.1 (by omega)).mono ?_
            rintro e w8 ⟨vW8, rfl, ho8, hb8⟩
            obtain ⟨q8, hq8⟩ : ∃ q, q = W ++ c := ⟨_, rfl⟩
            rw [← hq8] at ho8
            have HQ8 : Hid (q8 = W ++ c) := hq8
            have l8 : q8.length = W.length + c.length := by rw [hq8, List.length_append]
            have L8 : Hid (q8.length = W.length + c.length) := l8
            have l8' : q8.length ≤ W.length + c.length := by omega
            have O8 : Hid (Own w8 w7.heap.size vW8 q8 ∧ Own w8 w.heap.size tv T1 ∧ Below w7.heap.size w7 w8 ∧ Below w.heap.size w w8) := ⟨ho8, R7.out.2.2.1.ext hb8, hb8, ext_trans R7.out.2.2.2 hb8⟩
            have HTB : Hid (∀ g, tv.ownBlock = some g → g < w7.heap.size) := fun g hg => (R7.out.2.2.1.lt g hg).2
            obtain ⟨d8, e8, hv8⟩ := ho8.rd.form
            subst hv8
            have hk8 := HK.out w8 O8.out.2.2.2
            have hs78 : w7.heap.size ≤ w8.heap.size := O8.out.2.2.1.size
            have hsw8 : w.heap.size ≤ w8.heap.size := O8.out.2.2.2.size
            have hsw7 : w.heap.size ≤ w7.heap.size := R7.out.2.2.2.size
            have ho8' : w8.ownsRow w7.heap.size 3 1 (.slice d8 q8.length e8) q8.length (q8.map (Value.int .i64)) := O8.out.1
            have R7B : Hid (Below w.heap.size w w7) := R7.out.2.2.2
            have R7T : Hid (Own w7 w.heap.size tv T1) := R7.out.2.2.1
            clear ho8 hb8 l8 hq8 R7
            generalize hxs8 : q8.map (Value.int .i64) = xs8 at *
            have HX8 : Hid (q8.map (Value.int .i64) = xs8) := hxs8
            clear hxs8
            by_cases k1 : kd = 1
            · subst k1
              go_wp2_with (first | (at_builtin; refine wpList_append_own _ rfl _ _ 22 rfl w7.heap.size 3 i0 (.int .i64 0) 1 8 Try.underlying22 hi hz0 hz1 hz2 rfl (by decide) _ _ _ rfl (ho8'.alloc _) ⟨w8.heap.size, 0, none⟩ 1 1 [.int .i64 (10)] rfl rfl (cell_one_new _ _ _) (one_i64 _) (by unfold maxLen; omega) (by omega) (by simp <;> omega) ?_; intro v9 w9 ho9 hg9 hx9; have B9 : Hid (Below w7.heap.size w7 w9 ∧ Below w.heap.size w w9 ∧ Own w9 w.heap.size tv T1) := by { have hq := below_push O8.out.2.2.1 ho8' hg9; exact ⟨hq, ext_trans R7B.out hq, R7T.out.ext hq⟩ }; have hk9 := HK.out w9 B9.out.2.1; have hs9 : w7.heap.size ≤ w9.heap.size := B9.out.1.size; have hv9 : w.heap.size ≤ w9.heap.size := B9.out.2.1.size; obtain ⟨d9, e9, rfl⟩ := own_form ho9; clear ho8' hg9 hx9) | (at_builtin; refine wpList_append_own _ rfl _ _ 22 rfl w.heap.size 3 i0 (.int .i64 0) 1 8 Try.underlying22 hi hz0 hz1 hz2 rfl (by decide) _ _ _ rfl (B9.out.2.2.alloc _) ⟨w9.heap.size, 0, none⟩ 1 1 [.int .i64 ((q8.length : Int) + 1)] rfl rfl (cell_one_new _ _ _) (one_i64 _) (by unfold maxLen; omega) (by omega) (by simp <;> omega) ?_; intro vU wU hoU hgU hxU; have BU : Hid (wU.ownsRow w7.heap.size 3 1 (.slice d9 (q8.length + 1) e9) (q8.length + 1) (xs8 ++ [Value.int .i64 10]) ∧ Below w.heap.size w wU) := ⟨own_keep ho9 (fun g h1 h2 => by { have a1 := HTB.out g h1; have a2 := (ho9.lt g h2).1; omega }) hgU, below_push B9.out.2.1 B9.out.2.2 hgU⟩; clear hgU hxU))
              go_roundw
              case rel =>
                refine ⟨k + 1, W ++ c ++ 10 :: [], by omega, by go_num, ?_, ?_, BU.out.2, ?_, ?_⟩
                · have e : W ++ c ++ 10 :: [] = q8 ++ [10] := by rw [HQ8.out]
                  rw [e]
                  refine Rd.of_own (base := w7.heap.size) (e := 3) (n := (q8.length + 1)) ?_
                  have := BU.out.1
                  rw [← HX8.out] at this
                  simpa using this
                · have e := Cl.line W c [] 10 (by decide) HSH.out HCN.out
                  rw [Cl.end10] at e
                  unfold Own
                  rw [e, ← HT1.out, ← L8.out, Cl.sh01]
                  simpa using hoU
                · exact Cl.shut_end (W ++ c) 10 (.inl Gx.cls_ten)
                · rw [HPRE2.out]; have := HWl.out; simp; omega
              case measure => simp [intOf]; omega
            by_cases k2 : kd = 2
            · subst k2
              go_wp2_with (first | (at_builtin; refine wpList_append_own _ rfl _ _ 22 rfl w7.heap.size 3 i0 (.int .i64 0) 1 8 Try.underlying22 hi hz0 hz1 hz2 rfl (by decide) _ _ _ rfl (ho8'.alloc _) ⟨w8.heap.size, 0, none⟩ 1 1 [.int .i64 (13)] rfl rfl (cell_one_new _ _ _) (one_i64 _) (by unfold maxLen; omega) (by omega) (by simp <;> omega) ?_; intro v9 w9 ho9 hg9 hx9; have B9 : Hid (Below w7.heap.size w7 w9 ∧ Below w.heap.size w w9 ∧ Own w9 w.heap.size tv T1) := by { have hq := below_push O8.out.2.2.1 ho8' hg9; exact ⟨hq, ext_trans R7B.out hq, R7T.out.ext hq⟩ }; have hk9 := HK.out w9 B9.out.2.1; have hs9 : w7.heap.size ≤ w9.heap.size := B9.out.1.size; have hv9 : w.heap.size ≤ w9.heap.size := B9.out.2.1.size; obtain ⟨d9, e9, rfl⟩ := own_form ho9; clear ho8' hg9 hx9) | (at_builtin; refine wpList_append_own _ rfl _ _ 22 rfl w7.heap.size 3 i0 (.int .i64 0) 1 8 Try.underlying22 hi hz0 hz1 hz2 rfl (by decide) _ _ _ rfl (ho9.alloc _) ⟨w9.heap.size, 0, none⟩ 1 1 [.int .i64 (10)] rfl rfl (cell_one_new _ _ _) (one_i64 _) (by unfold maxLen; omega) (by omega) (by simp <;> omega) ?_; intro vA wA hoA hgA hxA; have BA : Hid (Below w7.heap.size w7 wA ∧ Below w.heap.size w wA ∧ Own wA w.heap.size tv T1) := by { have hq := below_push B9.out.1 ho9 hgA; exact ⟨hq, ext_trans R7B.out hq, R7T.out.ext hq⟩ }; have hkA := HK.out wA BA.out.2.1; have hsA : w7.heap.size ≤ wA.heap.size := BA.out.1.size; have hvA : w.heap.size ≤ wA.heap.size := BA.out.2.1.size; obtain ⟨dA, eA, rfl⟩ := own_form hoA; clear ho9 hgA hxA) | (at_builtin; refine wpList_append_own _ rfl _ _ 22 rfl w.heap.size 3 i0 (.int .i64 0) 1 8 Try.underlying22 hi hz0 hz1 hz2 rfl (by decide) _ _ _ rfl (BA.out.2.2.alloc _) ⟨wA.heap.size, 0, none⟩ 1 1 [.int .i64 ((q8.length : Int) + 2)] rfl rfl (cell_one_new _ _ _) (one_i64 _) (by unfold maxLen; omega) (by omega) (by simp <;> omega) ?_; intro vU wU hoU hgU hxU; have BU : Hid (wU.ownsRow w7.heap.size 3 1 (.slice dA (q8.length + 1 + 1) eA) (q8.length + 1 + 1) (xs8 ++ [Value.int .i64 13] ++ [Value.int .i64 10]) ∧ Below w.heap.size w wU) := ⟨own_keep hoA (fun g h1 h2 => by { have a1 := HTB.out g h1; have a2 := (hoA.lt g h2).1; omega }) hgU, below_push BA.out.2.1 BA.out.2.2 hgU⟩; clear hgU hxU))
              go_roundw
              case rel =>
                refine ⟨k + 1, W ++ c ++ 13 :: [10], by omega, by go_num, ?_, ?_, BU.out.2, ?_, ?_⟩
                · have e : W ++ c ++ 13 :: [10] = q8 ++ [13, 10] := by rw [HQ8.out]
                  rw [e]
                  refine Rd.of_own (base := w7.heap.size) (e := 3) (n := (q8.length + 2)) ?_
                  have := BU.out.1
                  rw [← HX8.out] at this
                  simpa using this
                · have e := Cl.line W c [10] 13 (by decide) HSH.out HCN.out
                  rw [Cl.end1310] at e
                  unfold Own
                  rw [e, ← HT1.out, ← L8.out, Cl.sh02]
                  simpa using hoU
                · have := Cl.shut_end (W ++ c ++ [13]) 10 (.inl Gx.cls_ten); simpa using this
                · rw [HPRE2.out]; have := HWl.out; simp; omega
              case measure => simp [intOf]; omega
            have p1 : (kd == 1) = false := by simp [k1]
            have p2 : (kd == 2) = false := by simp [k2]
            have p3 : (kd != 1) = true := by simp [k1]
            have p4 : (kd != 2) = true := by simp [k2]
            go_wp2_with (first | (at_builtin; refine wpList_append_own _ rfl _ _ 22 rfl w7.heap.size 3 i0 (.int .i64 0) 1 8 Try.underlying22 hi hz0 hz1 hz2 rfl (by decide) _ _ _ rfl (ho8'.alloc _) ⟨w8.heap.size, 0, none⟩ 1 1 [.int .i64 (13)] rfl rfl (cell_one_new _ _ _) (one_i64 _) (by unfold maxLen; omega) (by omega) (by simp <;> omega) ?_; intro v9 w9 ho9 hg9 hx9; have B9 : Hid (Below w7.heap.size w7 w9 ∧ Below w.heap.size w w9 ∧ Own w9 w.heap.size tv T1) := by { have hq := below_push O8.out.2.2.1 ho8' hg9; exact ⟨hq, ext_trans R7B.out hq, R7T.out.ext hq⟩ }; have hk9 := HK.out w9 B9.out.2.1; have hs9 : w7.heap.size ≤ w9.heap.size := B9.out.1.size; have hv9 : w.heap.size ≤ w9.heap.size := B9.out.2.1.size; obtain ⟨d9, e9, rfl⟩ := own_form ho9; clear ho8' hg9 hx9) | (at_builtin; refine wpList_append_own _ rfl _ _ 22 rfl w7.heap.size 3 i0 (.int .i64 0) 1 8 Try.underlying22 hi hz0 hz1 hz2 rfl (by decide) _ _ _ rfl (ho9.alloc _) ⟨w9.heap.size, 0, none⟩ 1 1 [.int .i64 (133)] rfl rfl (cell_one_new _ _ _) (one_i64 _) (by unfold maxLen; omega) (by omega) (by simp <;> omega) ?_; intro vA wA hoA hgA hxA; have BA : Hid (Below w7.heap.size w7 wA ∧ Below w.heap.size w wA ∧ Own wA w.heap.size tv T1) := by { have hq := below_push B9.out.1 ho9 hgA; exact ⟨hq, ext_trans R7B.out hq, R7T.out.ext hq⟩ }; have hkA := HK.out wA BA.out.2.1; have hsA : w7.heap.size ≤ wA.heap.size := BA.out.1.size; have hvA : w.heap.size ≤ wA.heap.size := BA.out.2.1.size; obtain ⟨dA, eA, rfl⟩ := own_form hoA; clear ho9 hgA hxA) | (at_builtin; refine wpList_append_blk _ rfl _ _ 22 rfl w.heap.size 3 i0 (.int .i64 0) 1 8 Try.underlying22 hi hz0 hz1 hz2 rfl (by decide) _ _ _ rfl (BA.out.2.2.alloc _) ⟨wA.heap.size, 0, none⟩ 1 1 [.int .i64 ((q8.length : Int) + 1)] rfl rfl (cell_one_new _ _ _) (one_i64 _) (by unfold maxLen; omega) (by omega) (by simp <;> omega) (by decide) ?_; intro vT' wT hoT hgT hxT; have BT : Hid (wT.ownsRow w7.heap.size 3 1 (.slice dA (q8.length + 1 + 1) eA) (q8.length + 1 + 1) (xs8 ++ [Value.int .i64 13] ++ [Value.int .i64 133]) ∧ Below w.heap.size w wT ∧ ∀ g, vT'.ownBlock = some g → Value.ownBlock (.slice dA (q8.length + 1 + 1) eA) ≠ some g) := by { refine ⟨own_keep hoA (fun g h1 h2 => by { have a1 := HTB.out g h1; have a2 := (hoA.lt g h2).1; omega }) hgT, below_push BA.out.2.1 BA.out.2.2 hgT, fun g h1 h2 => ?_⟩; have a2 := hoA.lt g h2; rcases hxT with h | h; { rw [h] at h1; have a1 := HTB.out g h1; omega }; { rw [h] at h1; simp at h1; omega } }; have hsT : w.heap.size ≤ wT.heap.size := BT.out.2.1.size; obtain ⟨dT, eT, rfl⟩ := own_form hoT; clear hgT hxT) | (at_builtin; refine wpList_append_own _ rfl _ _ 22 rfl w.heap.size 3 i0 (.int .i64 0) 1 8 Try.underlying22 hi hz0 hz1 hz2 rfl (by decide) _ _ _ rfl (hoT.alloc _) ⟨wT.heap.size, 0, none⟩ 1 1 [.int .i64 ((q8.length : Int) + 2)] rfl rfl (cell_one_new _ _ _) (one_i64 _) (by unfold maxLen; omega) (by omega) (by simp <;> omega) ?_; intro vU wU hoU hgU hxU; have BU : Hid (wU.ownsRow w7.heap.size 3 1 (.slice dA (q8.length + 1 + 1) eA) (q8.length + 1 + 1) (xs8 ++ [Value.int .i64 13] ++ [Value.int .i64 133]) ∧ Below w.heap.size w wU) := ⟨own_keep BT.out.1 BT.out.2.2 hgU, below_push BT.out.2.1 hoT hgU⟩; clear hgU hxU))
            go_roundw
            case rel =>
              refine ⟨k + 1, W ++ c ++ 13 :: [133], by omega, by go_num, ?_, ?_, BU.out.2, ?_, ?_⟩
              · have e : W ++ c ++ 13 :: [133] = q8 ++ [13, 133] := by rw [HQ8.out]
                rw [e]
                refine Rd.of_own (base := w7.heap.size) (e := 3) (n := (q8.length + 2)) ?_
                have := BU.out.1
                rw [← HX8.out] at this
                simpa using this
              · have e := Cl.line W c [133] 13 (by decide) HSH.out HCN.out
                rw [Cl.end13133] at e
                unfold Own
                rw [e, ← HT1.out, ← L8.out, Cl.sh012]
                simpa [Nat.add_assoc] using hoU
              · have := Cl.shut_end (W ++ c ++ [13]) 133 (.inr (by decide +kernel)); simpa using this
              · rw [HPRE2.out]; have := HWl.out; simp; omega
            case measure => simp [intOf]; omega
          · have hdc : decide ((0 : Int) < (c.length : Int)) = false := by rw [decide_eq_false_iff_not]; omega
            have hdc' : ¬ 0 < c.length := hc0
            have hcn : c = [] := List.length_eq_zero_iff.1 (by omega)
            obtain ⟨T1, hT1⟩ : ∃ t, t = Cl.bi W := ⟨_, rfl⟩
            have HT1 : Hid (T1 = Cl.bi W ++ Cl.sh W.length (Cl.bi c)) := by unfold Hid; rw [hT1, hcn, Cl.sh_nil, List.append_nil]
            have mT : T1.length ≤ W.length + 1 + c.length := by rw [hT1]; omega
            obtain ⟨tv, htv⟩ : ∃ t, t = u6 := ⟨_, rfl⟩
            have R7 : Hid (Rd .i64 w5 (.slice dW W.length eW) W ∧ Rd .i64 w5 (.slice dr c.length er) c ∧ Own w5 w.heap.size tv T1 ∧ Below w.heap.size w w5) := ⟨HRW.out.1.ext R5.out.2, HOc.out.rd.ext R5.out.2, by rw [htv, hT1]; exact HRW.out.2.1.ext R5.out.2, ext_trans HRW.out.2.2 R5.out.2⟩
            subst htv
            clear R5 hcn hT1 mB
            go_wp2_with fail
            refine (lawJoined_any _ _ W c _ R7.out.1 R7.out.2.1 (by omega)).mono ?_
            rintro e w8 ⟨vW8, rfl, ho8, hb8⟩
            obtain ⟨q8, hq8⟩ : ∃ q, q = W ++ c := ⟨_, rfl⟩
            rw [← hq8] at ho8
            have HQ8 : Hid (q8 = W ++ c) := hq8
            have l8 : q8.length = W.length + c.length := by rw [hq8, List.length_append]
            have L8 : Hid (q8.length = W.length + c.length) := l8
            have l8' : q8.length ≤ W.length + c.length := by omega
            have O8 : Hid (Own w8 w5.heap.size vW8 q8 ∧ Own w8 w.heap.size tv T1 ∧ Below w5.heap.size w5 w8 ∧ Below w.heap.size w w8) := ⟨ho8, R7.out.2.2.1.ext hb8, hb8, ext_trans R7.out.2.2.2 hb8⟩
            have HTB : Hid (∀ g, tv.ownBlock = some g → g < w5.heap.size) := fun g hg => (R7.out.2.2.1.lt g hg).2
            obtain ⟨d8, e8, hv8⟩ := ho8.rd.form
            subst hv8
            have hk8 := HK.out w8 O8.out.2.2.2
            have hs78 : w5.heap.size ≤ w8.heap.size := O8.out.2.2.1.size
            have hsw8 : w.heap.size ≤ w8.heap.size := O8.out.2.2.2.size
            have hsw7 : w.heap.size ≤ w5.heap.size := R7.out.2.2.2.size
            have ho8' : w8.ownsRow w5.heap.size 3 1 (.slice d8 q8.length e8) q8.length (q8.map (Value.int .i64)) := O8.out.1
            have R7B : Hid (Below w.heap.size w w5) := R7.out.2.2.2
            have R7T : Hid (Own w5 w.heap.size tv T1) := R7.out.2.2.1
            clear ho8 hb8 l8 hq8 R7
            generalize hxs8 : q8.map (Value.int .i64) = xs8 at *
            have HX8 : Hid (q8.map (Value.int .i64) = xs8) := hxs8
            clear hxs8
            by_cases k1 : kd = 1
            · subst k1
              go_wp2_with (first | (at_builtin; refine wpList_append_own _ rfl _ _ 22 rfl w5.heap.size 3 i0 (.int .i64 0) 1 8 Try.underlying22 hi hz0 hz1 hz2 rfl (by decide) _ _ _ rfl (ho8'.alloc _) ⟨w8.heap.size, 0, none⟩ 1 1 [.int .i64 (10)] rfl rfl (cell_one_new _ _ _) (one_i64 _) (by unfold maxLen; omega) (by omega) (by simp <;> omega) ?_; intro v9 w9 ho9 hg9 hx9; have B9 : Hid (Below w5.heap.size w5 w9 ∧ Below w.heap.size w w9 ∧ Own w9 w.heap.size tv T1) := by { have hq := below_push O8.out.2.2.1 ho8' hg9; exact ⟨hq, ext_trans R7B.out hq, R7T.out.ext hq⟩ }; have hk9 := HK.out w9 B9.out.2.1; have hs9 : w5.heap.size ≤ w9.heap.size := B9.out.1.size; have hv9 : w.heap.size ≤ w9.heap.size := B9.out.2.1.size; obtain ⟨d9, e9, rfl⟩ := own_form ho9; clear ho8' hg9 hx9) | (at_builtin; refine wpList_append_own _ rfl _ _ 22 rfl w.heap.size 3 i0 (.int .i64 0) 1 8 Try.underlying22 hi hz0 hz1 hz2 rfl (by decide) _ _ _ rfl (B9.out.2.2.alloc _) ⟨w9.heap.size, 0, none⟩ 1 1 [.int .i64 ((q8.length : Int) + 1)] rfl rfl (cell_one_new _ _ _) (one_i64 _) (by unfold maxLen; omega) (by omega) (by simp <;> omega) ?_; intro vU wU hoU hgU hxU; have BU : Hid (wU.ownsRow w5.heap.size 3 1 (.slice d9 (q8.length + 1) e9) (q8.length + 1) (xs8 ++ [Value.int .i64 10]) ∧ Below w.heap.size w wU) := ⟨own_keep ho9 (fun g h1 h2 => by { have a1 := HTB.out g h1; have a2 := (ho9.lt g h2).1; omega }) hgU, below_push B9.out.2.1 B9.out.2.2 hgU⟩; clear hgU hxU))
              go_roundw
              case rel =>
                refine ⟨k + 1, W ++ c ++ 10 :: [], by omega, by go_num, ?_, ?_, BU.out.2, ?_, ?_⟩
                · have e : W ++ c ++ 10 :: [] = q8 ++ [10] := by rw [HQ8.out]
                  rw [e]
                  refine Rd.of_own (base := w5.heap.size) (e := 3) (n := (q8.length + 1)) ?_
                  have := BU.out.1
                  rw [← HX8.out] at this
                  simpa using this
                · have e := Cl.line W c [] 10 (by decide) HSH.out HCN.out
                  rw [Cl.end10] at e
                  unfold Own
                  rw [e, ← HT1.out, ← L8.out, Cl.sh01]
                  simpa using hoU
                · exact Cl.shut_end (W ++ c) 10 (.inl Gx.cls_ten)
                · rw [HPRE2.out]; have := HWl.out; simp; omega
              case measure => simp [intOf]; omega
            by_cases k2 : kd = 2
            · subst k2
              go_wp2_with (first | (at_builtin; refine wpList_append_own _ rfl _ _ 22 rfl w5.heap.size 3 i0 (.int .i64 0) 1 8 Try.underlying22 hi hz0 hz1 hz2 rfl (by decide) _ _ _ rfl (ho8'.alloc _) ⟨w8.heap.size, 0, none⟩ 1 1 [.int .i64 (13)] rfl rfl (cell_one_new _ _ _) (one_i64 _) (by unfold maxLen; omega) (by omega) (by simp <;> omega) ?_; intro v9 w9 ho9 hg9 hx9; have B9 : Hid (Below w5.heap.size w5 w9 ∧ Below w.heap.size w w9 ∧ Own w9 w.heap.size tv T1) := by { have hq := below_push O8.out.2.2.1 ho8' hg9; exact ⟨hq, ext_trans R7B.out hq, R7T.out.ext hq⟩ }; have hk9 := HK.out w9 B9.out.2.1; have hs9 : w5.heap.size ≤ w9.heap.size := B9.out.1.size; have hv9 : w.heap.size ≤ w9.heap.size := B9.out.2.1.size; obtain ⟨d9, e9, rfl⟩ := own_form ho9; clear ho8' hg9 hx9) | (at_builtin; refine wpList_append_own _ rfl _ _ 22 rfl w5.heap.size 3 i0 (.int .i64 0) 1 8 Try.underlying22 hi hz0 hz1 hz2 rfl (by decide) _ _ _ rfl (ho9.alloc _) ⟨w9.heap.size, 0, none⟩ 1 1 [.int .i64 (10)] rfl rfl (cell_one_new _ _ _) (one_i64 _) (by unfold maxLen; omega) (by omega) (by simp <;> omega) ?_; intro vA wA hoA hgA hxA; have BA : Hid (Below w5.heap.size w5 wA ∧ Below w.heap.size w wA ∧ Own wA w.heap.size tv T1) := by { have hq := below_push B9.out.1 ho9 hgA; exact ⟨hq, ext_trans R7B.out hq, R7T.out.ext hq⟩ }; have hkA := HK.out wA BA.out.2.1; have hsA : w5.heap.size ≤ wA.heap.size := BA.out.1.size; have hvA : w.heap.size ≤ wA.heap.size := BA.out.2.1.size; obtain ⟨dA, eA, rfl⟩ := own_form hoA; clear ho9 hgA hxA) | (at_builtin; refine wpList_append_own _ rfl _ _ 22 rfl w.heap.size 3 i0 (.int .i64 0) 1 8 Try.underlying22 hi hz0 hz1 hz2 rfl (by decide) _ _ _ rfl (BA.out.2.2.alloc _) ⟨wA.heap.size, 0, none⟩ 1 1 [.int .i64 ((q8.length : Int) + 2)] rfl rfl (cell_one_new _ _ _) (one_i64 _) (by unfold maxLen; omega) (by omega) (by simp <;> omega) ?_; intro vU wU hoU hgU hxU; have BU : Hid (wU.ownsRow w5.heap.size 3 1 (.slice dA (q8.length + 1 + 1) eA) (q8.length + 1 + 1) (xs8 ++ [Value.int .i64 13] ++ [Value.int .i64 10]) ∧ Below w.heap.size w wU) := ⟨own_keep hoA (fun g h1 h2 => by { have a1 := HTB.out g h1; have a2 := (hoA.lt g h2).1; omega }) hgU, below_push BA.out.2.1 BA.out.2.2 hgU⟩; clear hgU hxU))
              go_roundw
              case rel =>
                refine ⟨k + 1, W ++ c ++ 13 :: [10], by omega, by go_num, ?_, ?_, BU.out.2, ?_, ?_⟩
                · have e : W ++ c ++ 13 :: [10] = q8 ++ [13, 10] := by rw [HQ8.out]
                  rw [e]
                  refine Rd.of_own (base := w5.heap.size) (e := 3) (n := (q8.length + 2)) ?_
                  have := BU.out.1
                  rw [← HX8.out] at this
                  simpa using this
                · have e := Cl.line W c [10] 13 (by decide) HSH.out HCN.out
                  rw [Cl.end1310] at e
                  unfold Own
                  rw [e, ← HT1.out, ← L8.out, Cl.sh02]
                  simpa using hoU
                · have := Cl.shut_end (W ++ c ++ [13]) 10 (.inl Gx.cls_ten); simpa using this
                · rw [HPRE2.out]; have := HWl.out; simp; omega
              case measure => simp [intOf]; omega
            have p1 : (kd == 1) = false := by simp [k1]
            have p2 : (kd == 2) = false := by simp [k2]
            have p3 : (kd != 1) = true := by simp [k1]
            have p4 : (kd != 2) = true := by simp [k2]
            go_wp2_with (first | (at_builtin; refine wpList_append_own _ rfl _ _ 22 rfl w5.heap.size 3 i0 (.int .i64 0) 1 8 Try.underlying22 hi hz0 hz1 hz2 rfl (by decide) _ _ _ rfl (ho8'.alloc _) ⟨w8.heap.size, 0, none⟩ 1 1 [.int .i64 (13)] rfl rfl (cell_one_new _ _ _) (one_i64 _) (by unfold maxLen; omega) (by omega) (by simp <;> omega) ?_; intro v9 w9 ho9 hg9 hx9; have B9 : Hid (Below w5.heap.size w5 w9 ∧ Below w.heap.size w w9 ∧ Own w9 w.heap.size tv T1) := by { have hq := below_push O8.out.2.2.1 ho8' hg9; exact ⟨hq, ext_trans R7B.out hq, R7T.out.ext hq⟩ }; have hk9 := HK.out w9 B9.out.2.1; have hs9 : w5.heap.size ≤ w9.heap.size := B9.out.1.size; have hv9 : w.heap.size ≤ w9.heap.size := B9.out.2.1.size; obtain ⟨d9, e9, rfl⟩ := own_form ho9; clear ho8' hg9 hx9) | (at_builtin; refine wpList_append_own _ rfl _ _ 22 rfl w5.heap.size 3 i0 (.int .i64 0) 1 8 Try.underlying22 hi hz0 hz1 hz2 rfl (by decide) _ _ _ rfl (ho9.alloc _) ⟨w9.heap.size, 0, none⟩ 1 1 [.int .i64 (133)] rfl rfl (cell_one_new _ _ _) (one_i64 _) (by unfold maxLen; omega) (by omega) (by simp <;> omega) ?_; intro vA wA hoA hgA hxA; have BA : Hid (Below w5.heap.size w5 wA ∧ Below w.heap.size w wA ∧ Own wA w.heap.size tv T1) := by { have hq := below_push B9.out.1 ho9 hgA; exact ⟨hq, ext_trans R7B.out hq, R7T.out.ext hq⟩ }; have hkA := HK.out wA BA.out.2.1; have hsA : w5.heap.size ≤ wA.heap.size := BA.out.1.size; have hvA : w.heap.size ≤ wA.heap.size := BA.out.2.1.size; obtain ⟨dA, eA, rfl⟩ := own_form hoA; clear ho9 hgA hxA) | (at_builtin; refine wpList_append_blk _ rfl _ _ 22 rfl w.heap.size 3 i0 (.int .i64 0) 1 8 Try.underlying22 hi hz0 hz1 hz2 rfl (by decide) _ _ _ rfl (BA.out.2.2.alloc _) ⟨wA.heap.size, 0, none⟩ 1 1 [.int .i64 ((q8.length : Int) + 1)] rfl rfl (cell_one_new _ _ _) (one_i64 _) (by unfold maxLen; omega) (by omega) (by simp <;> omega) (by decide) ?_; intro vT' wT hoT hgT hxT; have BT : Hid (wT.ownsRow w5.heap.size 3 1 (.slice dA (q8.length + 1 + 1) eA) (q8.length + 1 + 1) (xs8 ++ [Value.int .i64 13] ++ [Value.int .i64 133]) ∧ Below w.heap.size w wT ∧ ∀ g, vT'.ownBlock = some g → Value.ownBlock (.slice dA (q8.length + 1 + 1) eA) ≠ some g) := by { refine ⟨own_keep hoA (fun g h1 h2 => by { have a1 := HTB.out g h1; have a2 := (hoA.lt g h2).1; omega }) hgT, below_push BA.out.2.1 BA.out.2.2 hgT, fun g h1 h2 => ?_⟩; have a2 := hoA.lt g h2; rcases hxT with h | h; { rw [h] at h1; have a1 := HTB.out g h1; omega }; { rw [h] at h1; simp at h1; omega } }; have hsT : w.heap.size ≤ wT.heap.size := BT.out.2.1.size; obtain ⟨dT, eT, rfl⟩ := own_form hoT; clear hgT hxT) | (at_builtin; refine wpList_append_own _ rfl _ _ 22 rfl w.heap.size 3 i0 (.int .i64 0) 1 8 Try.underlying22 hi hz0 hz1 hz2 rfl (by decide) _ _ _ rfl (hoT.alloc _) ⟨wT.heap.size, 0, none⟩ 1 1 [.int .i64 ((q8.length : Int) + 2)] rfl rfl (cell_one_new _ _ _) (one_i64 _) (by unfold maxLen; omega) (by omega) (by simp <;> omega) ?_; intro vU wU hoU hgU hxU; have BU : Hid (wU.ownsRow w5.heap.size 3 1 (.slice dA (q8.length + 1 + 1) eA) (q8.length + 1 + 1) (xs8 ++ [Value.int .i64 13] ++ [Value.int .i64 133]) ∧ Below w.heap.size w wU) := ⟨own_keep BT.out.1 BT.out.2.2 hgU, below_push BT.out.2.1 hoT hgU⟩; clear hgU hxU))
            go_roundw
            case rel =>
              refine ⟨k + 1, W ++ c ++ 13 :: [133], by omega, by go_num, ?_, ?_, BU.out.2, ?_, ?_⟩
              · have e : W ++ c ++ 13 :: [133] = q8 ++ [13, 133] := by rw [HQ8.out]
                rw [e]
                refine Rd.of_own (base := w5.heap.size) (e := 3) (n := (q8.length + 2)) ?_
                have := BU.out.1
                rw [← HX8.out] at this
                simpa using this
              · have e := Cl.line W c [133] 13 (by decide) HSH.out HCN.out
                rw [Cl.end13133] at e
                unfold Own
                rw [e, ← HT1.out, ← L8.out, Cl.sh012]
                simpa [Nat.add_assoc] using hoU
              · have := Cl.shut_end (W ++ c ++ [13]) 133 (.inr (by decide +kernel)); simpa using this
              · rw [HPRE2.out]; have := HWl.out; simp; omega
            case measure => simp [intOf]; omega
    · have HRW : Hid (Rd .i64 wo (.slice dW W.length eW) W ∧ Own wo w.heap.size u6 (Cl.bi W) ∧ Below w.heap.size w wo) := ⟨HI.out.1, HI.out.2.1, HI.out.2.2.1⟩
      have mW := Cl.bi_le W
      clear HL HI
      by_cases hk1 : k < zss.length
      · have hd1 : decide ((k : Int) < (zss.length : Int)) = true := by simp; omega
        have hd2 : ¬ k < ks.length := by omega
        have hd3 : decide (k < ks.length) = false := by simp; omega
        clear hlt
        go_wp2_with fail
        refine (new_of (Below.refl _ _) (copied_any _ W _ HRW.out.1 (by omega))).mono ?_
        rintro e w1 ⟨u1, rfl, hr1, -, hb1⟩
        have R1 : Hid (Rd .i64 w1 u1 W ∧ Below wo.heap.size wo w1) := ⟨hr1, hb1⟩
        clear hr1 hb1
        go_wp2_with fail
        refine (new_of R1.out.2 (Breaks_any _ W _ R1.out.1 (by omega))).mono ?_
        rintro e w2 ⟨u2, rfl, hr2, -, hb2⟩
        have R2 : Hid (Rd .i64 w2 u2 (Cl.bi W) ∧ Below wo.heap.size wo w2) := ⟨hr2, hb2⟩
        clear hr2 hb2 R1
        go_wp2_with fail
        refine (tell_of R2.out.2 (same_any _ _ _ _ _ R2.out.1 (HRW.out.2.1.rd.ext R2.out.2) rfl)).mono ?_
        rintro e w3 ⟨rfl, -, hb3⟩
        have R3 : Hid (Below w.heap.size w w3) := ext_trans HRW.out.2.2 hb3
        clear hb3
        go_wp2_with fail
        go_ret
        exact ⟨rfl, R3.out⟩
      · have hd1 : decide (k < zss.length) = false := by simp; omega
        clear hlt
        go_wp2_with fail
        refine (new_of (Below.refl _ _) (copied_any _ W _ HRW.out.1 (by omega))).mono ?_
        rintro e w1 ⟨u1, rfl, hr1, -, hb1⟩
        have R1 : Hid (Rd .i64 w1 u1 W ∧ Below wo.heap.size wo w1) := ⟨hr1, hb1⟩
        clear hr1 hb1
        go_wp2_with fail
        refine (new_of R1.out.2 (Breaks_any _ W _ R1.out.1 (by omega))).mono ?_
        rintro e w2 ⟨u2, rfl, hr2, -, hb2⟩
        have R2 : Hid (Rd .i64 w2 u2 (Cl.bi W) ∧ Below wo.heap.size wo w2) := ⟨hr2, hb2⟩
        clear hr2 hb2 R1
        go_wp2_with fail
        refine (tell_of R2.out.2 (same_any _ _ _ _ _ R2.out.1 (HRW.out.2.1.rd.ext R2.out.2) rfl)).mono ?_
        rintro e w3 ⟨rfl, -, hb3⟩
        have R3 : Hid (Below w.heap.size w w3) := ext_trans HRW.out.2.2 hb3
        clear hb3
        go_wp2_with fail
        go_ret
        exact ⟨rfl, R3.out⟩
end Go.Proofs.Ytahjjpleceppaaa
