/- wordy. -/
import Derived.Test.YtcdamhgblolofaaWEdges
import Derived.Test.YtcdamhgblolofaaWLeast
namespace Go.Proofs.Ytcdamhgblolofaa.W
open Go.RowKit

/-- The world behind i rounds. -/
def WdI (w : World) (u : Option Addr) (l : List It) (i : Nat) (wr : World) : Prop := BlkT wr w.heap.size u ∧ Blk 65 wr (w.heap.size + 1) (wA.su (l.take i)) ∧ Below w.heap.size w wr
theorem WdI.ext {w : World} {u : Option Addr} {l : List It} {i : Nat} {wr w' : World} (h : WdI w u l i wr) (hb : Below wr.heap.size wr w') : WdI w u l i w' := ⟨h.1.ext hb, h.2.1.ext hb, ext_trans h.2.2 hb⟩

set_option maxRecDepth 100000 in
set_option maxHeartbeats 4000000 in
theorem wordy_any (w : World) (u : Option Addr) (l : List It) (ao : Option Addr) (cap : Nat) (k n : Int) (hT : TT w (.agg #[.pointer u]) l) (hR : RdR w (.slice ao l.length cap) l) (hx : l.length ≤ 4194304) (hw : wt l ≤ 2305843009213693952) :
    Calls Try.prog 34 #[.agg #[.pointer u], .slice ao l.length cap, .int .i64 k, .int .i64 n] w fun e w' => e = .returned (.bool true) ∧ Below w.heap.size w w' := by
  have hx1 : (l.length : Int) ≤ 4194304 := by omega
  obtain ⟨w0, hw0⟩ : ∃ w0, w0 = (w.alloc (.cells #[.pointer u] 62)).alloc (.cells #[.string (ByteArray.mk #[]), .int .i64 0] 65) := ⟨_, rfl⟩
  have I0 : Hid (WdI w u l 0 w0) := by
    obtain ⟨v1, hv1⟩ : ∃ v, v = w.alloc (.cells #[.pointer u] 62) := ⟨_, rfl⟩
    rw [← hv1] at hw0
    have s1 : v1.heap.size = w.heap.size + 1 := by rw [hv1]; simp
    have b1 : Below w.heap.size w v1 := by rw [hv1]; exact ext_alloc (Below.refl _ _) _
    have b2 : Below v1.heap.size v1 w0 := by rw [hw0]; exact ext_alloc (Below.refl _ _) _
    have t1 : BlkT v1 w.heap.size u := by rw [hv1]; exact heap_alloc_new _ _
    refine ⟨t1.ext b2, ?_, b1.trans (b2.mono (by omega))⟩
    rw [hw0, ← s1]; exact heap_alloc_new _ _
  have HK : Hid (∀ w', Below w.heap.size w w' → TT w' (.agg #[.pointer u]) l ∧ RdR w' (.slice ao l.length cap) l) := fun w' hb => ⟨hT.ext hb, hR.ext hb⟩
  have HC : Hid (∀ i wr w', WdI w u l i wr → Below wr.heap.size wr w' → w'.cell? ⟨w.heap.size, 0, none⟩ = some (.pointer u) ∧ w'.cell? ⟨w.heap.size + 1, 0, none⟩ = some (.string (wA.su (l.take i)).t) ∧ w'.cell? ⟨w.heap.size + 1, 1, none⟩ = some (.int .i64 (wA.su (l.take i)).n)) := fun i wr w' h hb => by
    obtain ⟨h1, h2, _⟩ := h.ext hb
    obtain ⟨a0, a1, _⟩ := h2.cells
    exact ⟨h1.cell, a0, a1⟩
  have HP0 : Hid (∀ w', Below w0.heap.size w0 w' → w'.cell? ⟨w.heap.size, 0, none⟩ = some (.pointer u) ∧ w'.cell? ⟨w.heap.size + 1, 0, none⟩ = some (.string (ByteArray.mk #[])) ∧ w'.cell? ⟨w.heap.size + 1, 1, none⟩ = some (.int .i64 0)) := fun w' hb => by
    obtain ⟨a, b, c⟩ := HC.out 0 w0 w' I0.out hb
    exact ⟨a, b, c⟩
  have SZ : Hid (∀ w', Below w0.heap.size w0 w' → Calls Try.prog 35 #[.agg #[.pointer u]] w' fun e w'' => e = .returned (.int .i64 l.length) ∧ Below w'.heap.size w' w'') := fun w' hb => Size_any u l w' (HK.out w' (I0.out.ext hb).2.2).1
  have UP0 : Hid (∀ w', Below w0.heap.size w0 w' → Calls Try.prog 51 #[.agg #[.pointer u], .int .i64 0] w' fun e w'' => e = .returned (.agg #[.string (ByteArray.mk #[]), .int .i64 0]) ∧ Below w'.heap.size w' w'') := fun w' hb => (Upto_any u l 0 w' (HK.out w' (I0.out.ext hb).2.2).1 (by omega) (by omega)).mono fun e w'' ⟨q, h1, h2, h3⟩ => ⟨by rw [h2, h1.out]; rfl, h3⟩
  have HR0 := hidIt hR
  clear hT hR
  obtain ⟨c0, c1, c2⟩ := HP0.out w0 (Below.refl _ _)
  go_enter Try.func34, Try.ntmps34
  go_upto_region 2 with fail
  rw [← hw0]
  clear hw0
  go_upto_if 18 with fail
  go_cut [10] from 17 to 19 (fun c wF => c = .int .i64 (lst k n l 0 : Nat) ∧ wF = w0)
  case first =>
    by_cases hn : n ≤ 0
    · go_wp2_with fail
      go_meet
      case rel => exact ⟨by rw [lst_zero, if_pos hn]; rfl, rfl⟩
    · go_wp2_with fail
      go_meet
      case rel => exact ⟨by rw [lst_zero, if_neg (by omega)]; rfl, rfl⟩
  obtain ⟨rfl, hwc⟩ := hcut
  obtain rfl : w0 = wc := hwc.symm
  go_upto_region 5 with fail
  go_region_held3 (fun w' => w'.cell? ⟨w.heap.size, 0, none⟩ = some (.pointer u) ∧ w'.cell? ⟨w.heap.size + 1, 0, none⟩ = some (.string (ByteArray.mk #[])) ∧ w'.cell? ⟨w.heap.size + 1, 1, none⟩ = some (.int .i64 0)) (first | exact HP0.out _ (by repeat (first | exact HB2.out | exact HB1.out | exact Below.refl _ _ | apply Below.drew | refine ext_alloc ?_ _)) | go_keep) (first
    | (go_at_call 35; refine (SZ.out _ (by repeat (first | exact HB2.out | exact HB1.out | exact Below.refl _ _ | apply Below.drew | refine ext_alloc ?_ _))).mono ?_; clear c0 c1 c2; rintro e w1 ⟨rfl, hb1⟩; have HB1 : Hid (Below w0.heap.size w0 w1) := ext_trans (by repeat (first | exact HB2.out | exact HB1.out | exact Below.refl _ _ | apply Below.drew | refine ext_alloc ?_ _)) hb1; obtain ⟨c0, c1, c2⟩ := HP0.out w1 HB1.out; clear hb1)
    | (go_at_call 51; refine (UP0.out _ (by repeat (first | exact HB2.out | exact HB1.out | exact Below.refl _ _ | apply Below.drew | refine ext_alloc ?_ _))).mono ?_; clear c0 c1 c2; rintro e w2 ⟨rfl, hb2⟩; have HB2 : Hid (Below w0.heap.size w0 w2) := ext_trans (by repeat (first | exact HB2.out | exact HB1.out | exact Below.refl _ _ | apply Below.drew | refine ext_alloc ?_ _)) hb2; obtain ⟨c0, c1, c2⟩ := HP0.out w2 HB2.out; clear hb2))
  go_upto_region 8 with fail
  have J0 := hidIt (I0.out.ext HB2.out)
  clear SZ UP0 HP0 c0 c1 c2 I0
  go_loopg [10, 11] l.length (fun gk c p wr => ∃ i : Nat, i + gk = l.length ∧ c = .int .i64 (lst k n l i : Nat) ∧ p = .int .i64 (i : Nat) ∧ Hid (WdI w u l i wr))
  case atStart => exact ⟨0, by omega, rfl, rfl, J0.out⟩
  case round =>
    obtain ⟨i, hig, rfl, rfl, HI⟩ := hrel
    by_cases hi : i < l.length
    · have hi' : (i : Int) < (l.length : Int) := by omega
      obtain ⟨c0, c1, c2⟩ := HC.out i wr wr HI.out (Below.refl _ _)
      have AT : Hid (Calls Try.prog 52 #[.agg #[.pointer u], .int .i64 (i : Nat)] wr fun e w'' => e = .returned (.tuple #[.agg #[.string (l[i]?.getD (ByteArray.mk #[]))], .bool true]) ∧ Below wr.heap.size wr w'') := (At_any u l _ wr (HK.out wr HI.out.2.2).1 (by omega) (by omega)).mono fun e w'' ⟨x, b, h1, h2, h3⟩ => by
        have el : l[i]? = some l[i] := List.getElem?_eq_getElem hi
        rcases h2 with ⟨k1, rfl⟩ | ⟨k1, _⟩
        · unfold atL at k1
          rw [if_neg (by omega), Int.toNat_natCast, el] at k1
          rw [el]
          simp only [Option.some.injEq] at k1
          subst k1
          exact ⟨h1, h3⟩
        · unfold atL at k1
          rw [if_neg (by omega), Int.toNat_natCast, el] at k1
          cases k1
      obtain ⟨b, off, cap', e0, hlc, hcm, hbl, hcc⟩ := (HK.out wr HI.out.2.2).2.at (by omega)
      simp only [Value.slice.injEq] at e0
      obtain ⟨rfl, he0, rfl⟩ := e0
      clear he0
      have hbw : b < w.heap.size := by
        obtain ⟨b', off', cap'', e1, _, _, h1, _⟩ := HR0.out.at (by omega)
        simp only [Value.slice.injEq, Option.some.injEq, Addr.mk.injEq] at e1
        omega
      have HNB : Hid (¬ b = w.heap.size + 1) := by unfold Hid; omega
      have y0 := (hcc i hi).1
      have ME : Hid (∀ w', Calls Try.prog 54 #[.agg #[.string (l[i]?.getD (ByteArray.mk #[]))]] w' fun e w'' => ∃ s, Hid (s = wA.su [l[i]?.getD (ByteArray.mk #[])]) ∧ e = .returned (.agg #[.string s.t, .int .i64 s.n]) ∧ Below w'.heap.size w' w'') := fun w' => (Measure_any _ w').mono fun _ _ ⟨s, k1, k2, k3⟩ => ⟨s, k1.out.trans (su_one _).symm, k2, k3⟩
      have et : l.take (i + 1) = l.take i ++ [l[i]?.getD (ByteArray.mk #[])] := by
        rw [List.take_add_one, List.getElem?_eq_getElem hi]; rfl
      have ADD : Hid (∀ q w', Hid (q = wA.su [l[i]?.getD (ByteArray.mk #[])]) → Calls Try.prog 53 #[.agg #[.string (wA.su (l.take i)).t, .int .i64 (wA.su (l.take i)).n], .agg #[.string q.t, .int .i64 q.n]] w' fun e w'' => ∃ r, Hid (r = wA.su (l.take (i + 1))) ∧ e = .returned (.agg #[.string r.t, .int .i64 r.n]) ∧ Below w'.heap.size w' w'') := fun q w' hq => by
        rw [et]
        refine add_su (l.take i) _ _ q w' rfl hq ?_
        rw [← et]
        have := wt_app (l.take (i + 1)) (l.drop (i + 1))
        rw [List.take_append_drop] at this
        omega
      have HP1 : Hid (∀ w', Below wr.heap.size wr w' → w'.cell? ⟨w.heap.size + 1, 0, none⟩ = some (.string (wA.su (l.take i)).t) ∧ w'.cell? ⟨w.heap.size + 1, 1, none⟩ = some (.int .i64 (wA.su (l.take i)).n) ∧ w'.cell? ⟨b, off + i, none⟩ = some (.string (l[i]?.getD (ByteArray.mk #[])))) := fun w' hb => ⟨(HC.out i wr w' HI.out hb).2.1, (HC.out i wr w' HI.out hb).2.2, (hb.cell (p := ⟨b, off + i, none⟩) hbl).trans y0⟩
      clear hcc et
      have HSD := hidIt (rfl : wA.su (l.take i) = wA.su (l.take i))
      generalize hsd : wA.su (l.take i) = sd at ADD HP1
      generalize hxx : l[i]?.getD (ByteArray.mk #[]) = x at *
      clear hxx hsd HSD y0
      go_wp2_with (go_at_call 52; refine AT.out.mono ?_; clear c0 c1 c2; rintro e w1 ⟨rfl, hb1⟩; have HB1 := hidIt hb1; clear hb1)
      obtain ⟨wx, hwx⟩ : ∃ wx, wx = w1.alloc (.cells #[.string x] 58) := ⟨_, rfl⟩
      rw [← hwx]
      have hX : wx.heap[w1.heap.size]? = some (.cells #[.string x] 58 (0, 0)) := by rw [hwx]; exact heap_alloc_new _ _
      have HBX : Hid (Below wr.heap.size wr wx) := by unfold Hid; rw [hwx]; exact ext_alloc HB1.out _
      have HX := hidIt hX
      clear hwx hX AT
      have HXB : Hid (w.heap.size + 1 < w1.heap.size) := by have := HI.out.2.1.lt; have := HB1.out.size; unfold Hid; omega
      generalize w1.heap.size = xb at *
      have HP2 : Hid (∀ w', Below wx.heap.size wx w' → w'.cell? ⟨w.heap.size + 1, 0, none⟩ = some (.string sd.t) ∧ w'.cell? ⟨w.heap.size + 1, 1, none⟩ = some (.int .i64 sd.n) ∧ w'.cell? ⟨b, off + i, none⟩ = some (.string x)) := fun w' hb => HP1.out w' (ext_trans HBX.out hb)
      obtain ⟨c1, c2, c3⟩ := HP2.out wx (Below.refl _ _)
      have JX := hidIt (HI.out.ext HBX.out)
      have hzx : w.heap.size + 1 < wx.heap.size := JX.out.2.1.lt
      have zf : ∀ i, wx.frozen? ⟨w.heap.size + 1, i, none⟩ = false := JX.out.2.1.cells.2.2.2.2
      have HZF : Hid (∀ w', Below wx.heap.size wx w' → ∀ i, w'.frozen? ⟨w.heap.size + 1, i, none⟩ = false) := fun w' hb => (JX.out.ext hb).2.1.cells.2.2.2.2
      go_upto_region 11 with fail
      go_cut [] from 42 to 48 (fun wF => Hid (WdI w u l (i + 1) wF ∧ wF.heap[xb]? = some (.cells #[.string x] 58 (0, 0)) ∧ wF.cell? ⟨b, off + i, none⟩ = some (.string x)))
      case first =>
        refine wp_region_held_drew (S := fun w'' => w''.cell? ⟨b, off + i, none⟩ = some (.string x)) (by kernel_rfl) (by first | exact c3 | (dsimp only; go_keep)) (fun hHeld => ?_)
        refine wpAnyH_take (i := 1) (oi := _) (v := ?_) rfl (by kernel_rfl) (by kernel_rfl) (by kernel_rfl) (fun _ _ _ h => h) (Or.inl ⟨by rfl, ?_⟩) (by assumption) ?_
        rotate_left 1
        · intro wq hSw; (try dsimp only at hSw); go_simp; try (with_reducible rfl)
        try simp only [Act.put, List.setIfInBounds_toArray]
        refine wpAnyH_take (i := 2) (oi := _) (v := ?_) rfl (by kernel_rfl) (by kernel_rfl) (by kernel_rfl) (fun _ _ _ h => h) (Or.inl ⟨by rfl, ?_⟩) (by assumption) ?_
        rotate_left 1
        · intro wq hSw; (try dsimp only at hSw); go_simp; try (with_reducible rfl)
        try simp only [Act.put]
        refine wpAnyH_take (i := 3) (oi := _) (v := ?_) rfl (by kernel_rfl) (by kernel_rfl) (by kernel_rfl) (fun _ _ _ h => h) (Or.inl ⟨by rfl, ?_⟩) (by assumption) ?_
        rotate_left 1
        · intro wq hSw; (try dsimp only at hSw); go_simp; try (with_reducible rfl)
        try simp only [Act.put]
        refine wpAnyH_take (i := 4) (oi := _) (v := ?_) rfl (by kernel_rfl) (by kernel_rfl) (by kernel_rfl) (fun _ _ _ h => h) (Or.inl ⟨by rfl, ?_⟩) (by assumption) ?_
        rotate_left 1
        · intro wq hSw; (try dsimp only at hSw); go_simp; try (with_reducible rfl)
        try simp only [Act.put]
        refine wpAnyH_ready (rs := [0, 5]) (by kernel_rfl) (by simp) ?_
        refine AllReadyH.cons (o := _) rfl (fun K hK => ?_) ?_
        · go_simp
          refine hK.out _ _ (by first | exact c3 | go_keep) (fun hHeld => ?_)
          clear hK K
          try simp only [Act.put, List.setIfInBounds_toArray, List.set_cons_zero, List.set_cons_succ]
          refine wpAnyH_ready (rs := [5]) (by kernel_rfl) (by simp) ?_
          refine AllReadyH.cons (o := _) rfl (fun K hK => ?_) AllReadyH.nil
          go_simp
          refine (ME.out _).mono ?_; clear c1 c2 c3 zf; rintro e w3 ⟨q3, HQ3, rfl, hb3⟩; have HB3 : Hid (Below wx.heap.size wx w3) := ext_trans (by repeat (first | exact HB4.out | exact HB3.out | exact Below.refl _ _ | apply Below.drew | refine ext_alloc ?_ _)) hb3; obtain ⟨c1, c2, c3⟩ := HP2.out w3 HB3.out; have zf := HZF.out w3 HB3.out; clear hb3; try go_wp2_with fail
          refine hK.out _ _ (c3) (fun hHeld => ?_)
          clear hK K
          try simp only [Act.put, List.setIfInBounds_toArray, List.set_cons_zero, List.set_cons_succ]
          refine wpAnyH_ready (rs := [6]) (by kernel_rfl) (by simp) ?_
          refine AllReadyH.cons (o := _) rfl (fun K hK => ?_) AllReadyH.nil
          go_simp
          refine (ADD.out _ _ HQ3).mono ?_; clear c1 c2 c3 zf; rintro e w4 ⟨q4, HQ4, rfl, hb4⟩; have HB4 : Hid (Below wx.heap.size wx w4) := ext_trans (by repeat (first | exact HB4.out | exact HB3.out | exact Below.refl _ _ | apply Below.drew | refine ext_alloc ?_ _)) hb4; obtain ⟨c1, c2, c3⟩ := HP2.out w4 HB4.out; have zf := HZF.out w4 HB4.out; clear hb4; have hz4 : w.heap.size + 1 < w4.heap.size := Nat.lt_of_lt_of_le hzx HB4.out.size; try go_wp2_with fail
          refine hK.out _ _ (c3) (fun hHeld => ?_)
          clear hK K
          try simp only [Act.put, List.setIfInBounds_toArray, List.set_cons_zero, List.set_cons_succ]
          refine wpAnyH_ready (rs := [7]) (by kernel_rfl) (by simp) ?_
          refine AllReadyH.cons (o := _) rfl (fun K hK => ?_) AllReadyH.nil
          go_simp
          refine hK.out _ _ (by simp only [cell_set_other HNB.out]; exact c3) (fun hHeld => ?_)
          clear hK K
          try simp only [Act.put, List.setIfInBounds_toArray, List.set_cons_zero, List.set_cons_succ]
          refine wpAnyH_done (by kernel_rfl) ?_ _
          go_wp2_with fail
          go_meet
          case rel =>
            obtain ⟨j1, j2, j3⟩ := JX.out.ext HB4.out
            obtain ⟨p1, p2⟩ := j2.put q4
            have E := HQ4.out
            subst E
            refine ⟨⟨?_, p1, below_put j3 j3.size p2 (by omega)⟩, ?_, by simp only [cell_set_other HNB.out]; exact c3⟩
            · unfold BlkT; rw [p2.block _ j1.lt (by simp)]; exact j1
            · have hxl : xb < wx.heap.size := (Array.getElem?_eq_some_iff.1 HX.out).1
              have := HB4.out.size
              have hxb := HXB.out
              rw [p2.block _ (by omega) (by simp; omega), HB4.out.block _ hxl]; exact HX.out
        refine AllReadyH.cons (o := _) rfl (fun K hK => ?_) AllReadyH.nil
        go_simp
        refine (ME.out _).mono ?_; clear c1 c2 c3 zf; rintro e w3 ⟨q3, HQ3, rfl, hb3⟩; have HB3 : Hid (Below wx.heap.size wx w3) := ext_trans (by repeat (first | exact HB4.out | exact HB3.out | exact Below.refl _ _ | apply Below.drew | refine ext_alloc ?_ _)) hb3; obtain ⟨c1, c2, c3⟩ := HP2.out w3 HB3.out; have zf := HZF.out w3 HB3.out; clear hb3; try go_wp2_with fail
        refine hK.out _ _ (c3) (fun hHeld => ?_)
        clear hK K
        try simp only [Act.put, List.setIfInBounds_toArray, List.set_cons_zero, List.set_cons_succ]
        refine wpAnyH_ready (rs := [0]) (by kernel_rfl) (by simp) ?_
        refine AllReadyH.cons (o := _) rfl (fun K hK => ?_) AllReadyH.nil
        go_simp
        refine hK.out _ _ (c3) (fun hHeld => ?_)
        clear hK K
        try simp only [Act.put, List.setIfInBounds_toArray, List.set_cons_zero, List.set_cons_succ]
        refine wpAnyH_ready (rs := [6]) (by kernel_rfl) (by simp) ?_
        refine AllReadyH.cons (o := _) rfl (fun K hK => ?_) AllReadyH.nil
        go_simp
        refine (ADD.out _ _ HQ3).mono ?_; clear c1 c2 c3 zf; rintro e w4 ⟨q4, HQ4, rfl, hb4⟩; have HB4 : Hid (Below wx.heap.size wx w4) := ext_trans (by repeat (first | exact HB4.out | exact HB3.out | exact Below.refl _ _ | apply Below.drew | refine ext_alloc ?_ _)) hb4; obtain ⟨c1, c2, c3⟩ := HP2.out w4 HB4.out; have zf := HZF.out w4 HB4.out; clear hb4; have hz4 : w.heap.size + 1 < w4.heap.size := Nat.lt_of_lt_of_le hzx HB4.out.size; try go_wp2_with fail
        refine hK.out _ _ (c3) (fun hHeld => ?_)
        clear hK K
        try simp only [Act.put, List.setIfInBounds_toArray, List.set_cons_zero, List.set_cons_succ]
        refine wpAnyH_ready (rs := [7]) (by kernel_rfl) (by simp) ?_
        refine AllReadyH.cons (o := _) rfl (fun K hK => ?_) AllReadyH.nil
        go_simp
        refine hK.out _ _ (by simp only [cell_set_other HNB.out]; exact c3) (fun hHeld => ?_)
        clear hK K
        try simp only [Act.put, List.setIfInBounds_toArray, List.set_cons_zero, List.set_cons_succ]
        refine wpAnyH_done (by kernel_rfl) ?_ _
        go_wp2_with fail
        go_meet
        case rel =>
          obtain ⟨j1, j2, j3⟩ := JX.out.ext HB4.out
          obtain ⟨p1, p2⟩ := j2.put q4
          have E := HQ4.out
          subst E
          refine ⟨⟨?_, p1, below_put j3 j3.size p2 (by omega)⟩, ?_, by simp only [cell_set_other HNB.out]; exact c3⟩
          · unfold BlkT; rw [p2.block _ j1.lt (by simp)]; exact j1
          · have hxl : xb < wx.heap.size := (Array.getElem?_eq_some_iff.1 HX.out).1
            have := HB4.out.size
            have hxb := HXB.out
            rw [p2.block _ (by omega) (by simp; omega), HB4.out.block _ hxl]; exact HX.out
      obtain ⟨hJ2, hX2, hL2⟩ := hcut.out
      generalize hWC : wc = wb at *
      clear hWC hcut c1 c2 c3 zf hzx HZF HP2 HP1 ME ADD JX HX HBX HXB
      have HJ := hidIt hJ2
      have HX := hidIt hX2
      have HL := hidIt hL2
      clear hJ2 hX2 hL2
      have HSU : Hid (wA.su (l.take (i + 1)) = wA.su (l.take (i + 1))) := rfl
      have UP : Hid (∀ w', Below wb.heap.size wb w' → Calls Try.prog 51 #[.agg #[.pointer u], .int .i64 (IntKind.i64.wrap ((i : Int) + 1))] w' fun e w'' => e = .returned (.agg #[.string (wA.su (l.take (i + 1))).t, .int .i64 (wA.su (l.take (i + 1))).n]) ∧ Below w'.heap.size w' w'') := fun w' hb => by
        rw [show IntKind.i64.wrap ((i : Int) + 1) = (i : Int) + 1 by rw [IntKind.wrap_i64]; omega]
        exact (Upto_any u l ((i : Int) + 1) w' (HK.out w' (HJ.out.ext hb).2.2).1 (by omega) (by omega)).mono fun e w'' ⟨q, h1, h2, h3⟩ => ⟨by rw [h2, h1.out, show ((i : Int) + 1).toNat = i + 1 by omega], h3⟩
      have HP3 : Hid (∀ w', Below wb.heap.size wb w' → w'.cell? ⟨w.heap.size, 0, none⟩ = some (.pointer u) ∧ w'.cell? ⟨w.heap.size + 1, 0, none⟩ = some (.string (wA.su (l.take (i + 1))).t) ∧ w'.cell? ⟨w.heap.size + 1, 1, none⟩ = some (.int .i64 (wA.su (l.take (i + 1))).n) ∧ w'.cell? ⟨xb, 0, none⟩ = some (.string x) ∧ w'.cell? ⟨b, off + i, none⟩ = some (.string x)) := fun w' hb => by
        obtain ⟨a0, a1, a2⟩ := HC.out (i + 1) wb w' HJ.out hb
        refine ⟨a0, a1, a2, ?_, ?_⟩
        · rw [hb.cell (p := ⟨xb, 0, none⟩) (Array.getElem?_eq_some_iff.1 HX.out).1, cell_of_row _ _ 0 _ _ _ HX.out]; rfl
        · rw [hb.cell (p := ⟨b, off + i, none⟩) (Nat.lt_of_lt_of_le hbw HJ.out.2.2.size)]; exact HL.out
      have KB : Hid (0 ≤ (wA.su (l.take (i + 1))).n ∧ (wA.su (l.take (i + 1))).t.size + 2 * (wA.su (l.take (i + 1))).n ≤ 9223372036854775807) := by
        have h1 := Ws.bound (l.take (i + 1))
        have h2 := wt_app (l.take (i + 1)) (l.drop (i + 1))
        rw [List.take_append_drop] at h2
        have h3 : (l.take (i + 1)).length ≤ l.length := by rw [List.length_take]; omega
        unfold Hid
        omega
      have KY : Hid (∀ w', Calls Try.prog 55 #[.agg #[.string (wA.su (l.take (i + 1))).t, .int .i64 (wA.su (l.take (i + 1))).n], .int .i64 k] w' fun e w'' => e = .returned (.int .i64 (wA.key (wA.su (l.take (i + 1))) k)) ∧ Below w'.heap.size w' w'') := fun w' => Key_any _ k w' KB.out.1 KB.out.2
      have LS := hidIt (lst_stay k n l i hi)
      have LH := hidIt (lst_hit k n l i hi)
      generalize hs2 : wA.su (l.take (i + 1)) = s2 at UP HP3 KY KB LS LH
      generalize hky : wA.key s2 k = ky at KY LS LH
      clear HSU hs2 hky
      obtain ⟨c0, c1, c2, c3, c4⟩ := HP3.out wb (Below.refl _ _)
      go_upto_region 12 with fail
      go_region_held3 (fun w' => w'.cell? ⟨w.heap.size, 0, none⟩ = some (.pointer u) ∧ w'.cell? ⟨w.heap.size + 1, 0, none⟩ = some (.string s2.t) ∧ w'.cell? ⟨w.heap.size + 1, 1, none⟩ = some (.int .i64 s2.n) ∧ w'.cell? ⟨xb, 0, none⟩ = some (.string x) ∧ w'.cell? ⟨b, off + i, none⟩ = some (.string x)) (first | exact HP3.out _ (by repeat (first | exact HB5.out | exact Below.refl _ _ | apply Below.drew | refine ext_alloc ?_ _)) | go_keep) (
        (go_at_call 51; refine (UP.out _ (by repeat (first | exact HB5.out | exact Below.refl _ _ | apply Below.drew | refine ext_alloc ?_ _))).mono ?_; clear c0 c1 c2 c3 c4; rintro e w5 ⟨rfl, hb5⟩; have HB5 : Hid (Below wb.heap.size wb w5) := ext_trans (by repeat (first | exact HB5.out | exact Below.refl _ _ | apply Below.drew | refine ext_alloc ?_ _)) hb5; obtain ⟨c0, c1, c2, c3, c4⟩ := HP3.out w5 HB5.out; clear hb5))
      by_cases hA : l.length < lst k n l i
      · have hA' : (l.length : Int) < ((lst k n l i : Nat) : Int) := by omega
        by_cases hB : n ≤ ky
        · have EL := hidIt (LH.out hA hB)
          generalize lst k n l i = ls at *
          go_wp2_with (go_at_call 55; refine (KY.out _).mono ?_; clear c0 c1 c2 c3 c4; rintro e w6 ⟨rfl, hb6⟩; have HB6 : Hid (Below wb.heap.size wb w6) := ext_trans HB5.out hb6; clear hb6)
          go_roundg (l.length - (i + 1))
          case rel => exact ⟨i + 1, by omega, by rw [EL.out]; go_num, by go_num, HJ.out.ext HB6.out⟩
          case measure => omega
        · have EL := hidIt (LS.out (fun h => hB h.2))
          generalize lst k n l i = ls at *
          go_wp2_with (go_at_call 55; refine (KY.out _).mono ?_; clear c0 c1 c2 c3 c4; rintro e w6 ⟨rfl, hb6⟩; have HB6 : Hid (Below wb.heap.size wb w6) := ext_trans HB5.out hb6; clear hb6)
          go_roundg (l.length - (i + 1))
          case rel => exact ⟨i + 1, by omega, by rw [EL.out], by go_num, HJ.out.ext HB6.out⟩
          case measure => omega
      · have hA' : ¬ (l.length : Int) < ((lst k n l i : Nat) : Int) := by omega
        have EL := hidIt (LS.out (fun h => hA h.1))
        generalize lst k n l i = ls at *
        go_wp2_with fail
        go_roundg (l.length - (i + 1))
        case rel => exact ⟨i + 1, by omega, by rw [EL.out], by go_num, HJ.out.ext HB5.out⟩
        case measure => omega
    · have hi' : ¬ (i : Int) < (l.length : Int) := by omega
      have ei : i = l.length := by omega
      subst ei
      have EE := hidIt (lst_end k n l)
      have SM : Hid (∀ w', Below wr.heap.size wr w' → Calls Try.prog 56 #[.agg #[.pointer u]] w' fun e w'' => e = .returned (.agg #[.string (wA.su l).t, .int .i64 (wA.su l).n]) ∧ Below w'.heap.size w' w'') := fun w' hb => (Sum_any u l w' (HK.out w' (HI.out.ext hb).2.2).1).mono fun e w'' ⟨s, h1, h2, h3⟩ => ⟨by rw [h2, h1.out], h3⟩
      have FD : Hid (∀ w', Below wr.heap.size wr w' → Calls Try.prog 57 #[.agg #[.pointer u], .int .i64 k, .int .i64 n] w' fun e w'' => e = .returned (.int .i64 (lst k n l l.length : Nat)) ∧ Below w'.heap.size w' w'') := fun w' hb => by rw [EE.out]; exact Find_any u l k n w' (HK.out w' (HI.out.ext hb).2.2).1 hw
      have ED : Hid (∀ w', Below wr.heap.size wr w' → Calls Try.prog 58 #[.agg #[.pointer u], .slice ao l.length cap, .agg #[.string (wA.su l).t, .int .i64 (wA.su l).n]] w' fun e w'' => e = .returned (.bool true) ∧ Below w'.heap.size w' w'') := fun w' hb => edges_any w' u l ao cap _ (HK.out w' (HI.out.ext hb).2.2).1 (HK.out w' (HI.out.ext hb).2.2).2 hx (by omega) rfl
      have HP4 : Hid (∀ w', Below wr.heap.size wr w' → w'.cell? ⟨w.heap.size, 0, none⟩ = some (.pointer u) ∧ w'.cell? ⟨w.heap.size + 1, 0, none⟩ = some (.string (wA.su l).t) ∧ w'.cell? ⟨w.heap.size + 1, 1, none⟩ = some (.int .i64 (wA.su l).n)) := fun w' hb => by
        have := HC.out l.length wr w' HI.out hb
        rw [List.take_length] at this
        exact this
      have HBW := hidIt HI.out.2.2
      clear EE
      generalize wA.su l = sl at SM ED HP4
      generalize lst k n l l.length = ls at *
      obtain ⟨c0, c1, c2⟩ := HP4.out wr (Below.refl _ _)
      go_upto_region 16 with fail
      go_region_held3 (fun w' => w'.cell? ⟨w.heap.size, 0, none⟩ = some (.pointer u) ∧ w'.cell? ⟨w.heap.size + 1, 0, none⟩ = some (.string sl.t) ∧ w'.cell? ⟨w.heap.size + 1, 1, none⟩ = some (.int .i64 sl.n)) (first | exact HP4.out _ (by repeat (first | exact HB9.out | exact HB8.out | exact HB7.out | exact Below.refl _ _ | apply Below.drew | refine ext_alloc ?_ _)) | go_keep) (first
        | (go_at_call 56; refine (SM.out _ (by repeat (first | exact HB9.out | exact HB8.out | exact HB7.out | exact Below.refl _ _ | apply Below.drew | refine ext_alloc ?_ _))).mono ?_; clear c0 c1 c2; rintro e w7 ⟨rfl, hb7⟩; have HB7 : Hid (Below wr.heap.size wr w7) := ext_trans (by repeat (first | exact HB9.out | exact HB8.out | exact HB7.out | exact Below.refl _ _ | apply Below.drew | refine ext_alloc ?_ _)) hb7; obtain ⟨c0, c1, c2⟩ := HP4.out w7 HB7.out; clear hb7)
        | (go_at_call 57; refine (FD.out _ (by repeat (first | exact HB9.out | exact HB8.out | exact HB7.out | exact Below.refl _ _ | apply Below.drew | refine ext_alloc ?_ _))).mono ?_; clear c0 c1 c2; rintro e w8 ⟨rfl, hb8⟩; have HB8 : Hid (Below wr.heap.size wr w8) := ext_trans (by repeat (first | exact HB9.out | exact HB8.out | exact HB7.out | exact Below.refl _ _ | apply Below.drew | refine ext_alloc ?_ _)) hb8; obtain ⟨c0, c1, c2⟩ := HP4.out w8 HB8.out; clear hb8)
        | (go_at_call 58; refine (ED.out _ (by repeat (first | exact HB9.out | exact HB8.out | exact HB7.out | exact Below.refl _ _ | apply Below.drew | refine ext_alloc ?_ _))).mono ?_; clear c0 c1 c2; rintro e w9 ⟨rfl, hb9⟩; have HB9 : Hid (Below wr.heap.size wr w9) := ext_trans (by repeat (first | exact HB9.out | exact HB8.out | exact HB7.out | exact Below.refl _ _ | apply Below.drew | refine ext_alloc ?_ _)) hb9; obtain ⟨c0, c1, c2⟩ := HP4.out w9 HB9.out; clear hb9))
      all_goals
        go_wp2_with fail
        go_ret
        exact ⟨rfl, ext_trans HBW.out HB9.out⟩
end Go.Proofs.Ytcdamhgblolofaa.W
