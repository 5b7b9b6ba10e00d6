/- edges. -/
import Derived.Test.YtcdamhgblolofaaWTold
import Derived.Deep.CutRange
import Derived.Deep.LoopGhost
namespace Go.Proofs.Ytcdamhgblolofaa.W
open Go.RowKit

/-- The places of the first row: all beyond the edges. -/
def far (n : Nat) (i : Nat) : Int := [-1, -5, -9223372036854775808, (n : Int), (n : Int) + 1, 9223372036854775807][i]?.getD 0
theorem far_out (n i : Nat) (hn : n ≤ 4194304) (hi : i < 6) : (far n i < 0 ∨ (n : Int) ≤ far n i) ∧ -9223372036854775808 ≤ far n i ∧ far n i ≤ 9223372036854775807 := by
  match i, hi with
  | 0, _ => simp [far]
  | 1, _ => simp [far]
  | 2, _ => simp [far]
  | 3, _ => simp [far]; omega
  | 4, _ => simp [far]; omega
  | 5, _ => simp [far]; omega
theorem far_cell (w : World) (b n : Nat) (T : TypeId) (h : w.heap[b]? = some (.cells #[.int .i64 (-1), .int .i64 (-5), .int .i64 (-9223372036854775808), .int .i64 (n : Nat), .int .i64 ((n : Int) + 1), .int .i64 9223372036854775807] T (0, 0))) (i : Nat) (hi : i < 6) : w.cell? ⟨b, i, none⟩ = some (.int .i64 (far n i)) := by
  rw [cell_of_row w _ i _ _ _ h]
  match i, hi with
  | 0, _ => rfl
  | 1, _ => rfl
  | 2, _ => rfl
  | 3, _ => rfl
  | 4, _ => rfl
  | 5, _ => rfl

/-- The places of the second row, with what stands in its fourth and its fifth cell. -/
def frm (n : Nat) (h m : Int) (i : Nat) : Int := [0, -3, -9223372036854775808, h, m, (n : Int), (n : Int) + 1, 9223372036854775807][i]?.getD 0
theorem frm_cell (w : World) (b n : Nat) (k m : Int) (T : TypeId) (h : w.heap[b]? = some (.cells #[.int .i64 0, .int .i64 (-3), .int .i64 (-9223372036854775808), .int .i64 k, .int .i64 m, .int .i64 (n : Nat), .int .i64 ((n : Int) + 1), .int .i64 9223372036854775807] T (0, 0))) (i : Nat) (hi : i < 8) : w.cell? ⟨b, i, none⟩ = some (.int .i64 (frm n k m i)) := by
  rw [cell_of_row w _ i _ _ _ h]
  match i, hi with
  | 0, _ => rfl
  | 1, _ => rfl
  | 2, _ => rfl
  | 3, _ => rfl
  | 4, _ => rfl
  | 5, _ => rfl
  | 6, _ => rfl
  | 7, _ => rfl

theorem nf_eq (a b : Nat) (w : World) : (binOp BinOp.eql 110 (.func (.func 84) #[] #[.pointer (some ⟨a, 0, none⟩), .pointer (some ⟨b, 0, none⟩)]) .nilFunc).run Try.prog w = .ok (.bool false) w := by kernel_rfl

set_option maxRecDepth 100000 in
set_option maxHeartbeats 2000000 in
theorem edges_any (w : World) (u : Option Addr) (l : List It) (ao : Option Addr) (cap : Nat) (s : Ws) (hT : TT w (.agg #[.pointer u]) l) (hR : RdR w (.slice ao l.length cap) l) (hx : l.length ≤ 4194304) (hw : wt l ≤ 4611686018427387904) (hs : s = wA.su l) :
    Calls Try.prog 58 #[.agg #[.pointer u], .slice ao l.length cap, .agg #[.string s.t, .int .i64 s.n]] w fun e w' => e = .returned (.bool true) ∧ Below w.heap.size w w' := by
  have hx1 : (l.length : Int) ≤ 4194304 := by omega
  obtain ⟨w0, hw0⟩ : ∃ w0, w0 = ((w.alloc (.cells #[.pointer u] 62)).alloc (.cells #[.string s.t, .int .i64 s.n] 65)).alloc (.cells #[.int .i64 (-1), .int .i64 (-5), .int .i64 (-9223372036854775808), .int .i64 (l.length : Nat), .int .i64 ((l.length : Int) + 1), .int .i64 9223372036854775807] 3) := ⟨_, rfl⟩
  have HM : Hid (Below w.heap.size w w0 ∧ BlkT w0 w.heap.size u ∧ w0.heap[w.heap.size + 1]? = some (.cells #[.string s.t, .int .i64 s.n] 65 (0, 0)) ∧ ∀ i, i < 6 → w0.cell? ⟨w.heap.size + 2, i, none⟩ = some (.int .i64 (far l.length i))) := by
    obtain ⟨v1, hv1⟩ : ∃ v, v = w.alloc (.cells #[.pointer u] 62) := ⟨_, rfl⟩
    obtain ⟨v2, hv2⟩ : ∃ v, v = v1.alloc (.cells #[.string s.t, .int .i64 s.n] 65) := ⟨_, rfl⟩
    rw [← hv1, ← hv2] at hw0
    have s1 : v1.heap.size = w.heap.size + 1 := by rw [hv1]; simp
    have s2 : v2.heap.size = w.heap.size + 2 := by rw [hv2]; simp [s1]
    have b1 : Below w.heap.size w v1 := by rw [hv1]; exact ext_alloc (Below.refl _ _) _
    have b2 : Below v1.heap.size v1 v2 := by rw [hv2]; exact ext_alloc (Below.refl _ _) _
    have b3 : Below v2.heap.size v2 w0 := by rw [hw0]; exact ext_alloc (Below.refl _ _) _
    refine ⟨b1.trans ((b2.mono (by omega)).trans (b3.mono (by omega))), ?_, ?_, ?_⟩
    · unfold BlkT
      rw [b3.block _ (by omega), b2.block _ (by omega), hv1]; exact heap_alloc_new _ _
    · rw [b3.block _ (by omega), hv2, ← s1]; exact heap_alloc_new _ _
    · refine far_cell w0 _ _ 3 ?_
      rw [hw0, ← s2]; exact heap_alloc_new _ _
  have HZ : Hid (w0.heap.size = w.heap.size + 3) := by unfold Hid; rw [hw0]; simp
  have HT := hidIt (hT.ext HM.out.1)
  have HR := hidIt (hR.ext HM.out.1)
  have HS := hidIt hs
  have HC : Hid (∀ w', Below w0.heap.size w0 w' → w'.cell? ⟨w.heap.size, 0, none⟩ = some (.pointer u) ∧ w'.cell? ⟨w.heap.size + 1, 0, none⟩ = some (.string s.t) ∧ w'.cell? ⟨w.heap.size + 1, 1, none⟩ = some (.int .i64 s.n) ∧ (∀ i, i < 6 → w'.cell? ⟨w.heap.size + 2, i, none⟩ = some (.int .i64 (far l.length i))) ∧ TT w' (.agg #[.pointer u]) l ∧ RdR w' (.slice ao l.length cap) l ∧ Below w.heap.size w w') := fun w' hb => by
    obtain ⟨m0, m1, m2, m3⟩ := HM.out
    have hz := HZ.out
    refine ⟨?_, ?_, ?_, fun i hi => ?_, HT.out.ext hb, HR.out.ext hb, m0.trans (hb.mono (by omega))⟩
    · exact (m1.ext hb).cell
    · rw [hb.cell (p := ⟨w.heap.size + 1, 0, none⟩) (by simp only; omega), cell_of_row _ _ 0 _ _ _ m2]; rfl
    · rw [hb.cell (p := ⟨w.heap.size + 1, 1, none⟩) (by simp only; omega), cell_of_row _ _ 1 _ _ _ m2]; rfl
    · rw [hb.cell (p := ⟨w.heap.size + 2, i, none⟩) (by simp only; omega)]; exact m3 i hi
  clear hT hR hs HM HT HR
  go_enter Try.func58, Try.ntmps58
  go_wp2_with fail
  rw [← hw0]
  clear hw0
  go_loopg [9] 6 (fun gk c wr => ∃ i : Nat, i + gk = 6 ∧ c = .int .i64 (i : Nat) ∧ Below w0.heap.size w0 wr)
  case atStart => exact ⟨0, rfl, rfl, Below.refl _ _⟩
  case round =>
    obtain ⟨i, hig, rfl, hb⟩ := hrel
    have HB := hidIt hb
    by_cases hi : i < 6
    · have hi' : (i : Int) < 6 := by omega
      have hi0 : (0 : Int) ≤ (i : Int) := by omega
      obtain ⟨f1, f2, f3⟩ := far_out l.length i hx hi
      have AT : Hid (∀ w', Below wr.heap.size wr w' → Calls Try.prog 52 #[.agg #[.pointer u], .int .i64 (far l.length i)] w' fun e w'' => e = .returned (.tuple #[.agg #[.string (ByteArray.mk #[])], .bool false]) ∧ Below w'.heap.size w' w'') := fun w' hb' => (At_any u l _ w' (HC.out w' (ext_trans hb hb')).2.2.2.2.1 hw f3).mono fun e w'' ⟨x, b, h1, h2, h3⟩ => by
        rcases h2 with ⟨k1, _⟩ | ⟨_, rfl, rfl⟩
        · unfold atL at k1
          split at k1
          · cases k1
          · rw [List.getElem?_eq_none (by omega)] at k1; cases k1
        · exact ⟨h1, h3⟩
      have UP : Hid (∀ w', Below wr.heap.size wr w' → Calls Try.prog 51 #[.agg #[.pointer u], .int .i64 (far l.length i)] w' fun e w'' => ∃ q : Ws, Hid ((far l.length i < 0 → q = Ws.zero) ∧ (0 ≤ far l.length i → q = s)) ∧ e = .returned (.agg #[.string q.t, .int .i64 q.n]) ∧ Below w'.heap.size w' w'') := fun w' hb' => (Upto_any u l _ w' (HC.out w' (ext_trans hb hb')).2.2.2.2.1 hw f3).mono fun e w'' ⟨q, h1, h2, h3⟩ => ⟨q, ⟨fun k => by rw [h1.out, Int.toNat_of_nonpos (by omega), List.take_zero, Alg.su_nil]; rfl, fun k => by rw [h1.out, List.take_of_length_le (by omega)]; exact HS.out.symm⟩, h2, h3⟩
      obtain ⟨c0, c1, c2, c3, _⟩ := HC.out wr hb
      have c4 := c3 i hi
      have HP : Hid (∀ w', Below wr.heap.size wr w' → w'.cell? ⟨w.heap.size, 0, none⟩ = some (.pointer u) ∧ w'.cell? ⟨w.heap.size + 2, i, none⟩ = some (.int .i64 (far l.length i))) := fun w' hb' => by
        obtain ⟨d0, d1, d2, d3, _⟩ := HC.out w' (ext_trans hb hb')
        exact ⟨d0, d3 i hi⟩
      generalize far l.length i = z at *
      clear hb c3 c1 c2
      go_upto_region 6 with fail
      go_cut [10, 11] from 29 to 37 (fun p e wF => ∃ tb : Nat, p = .pointer (some ⟨tb, 0, none⟩) ∧ e = .bool false ∧ Hid (wF.heap[tb]? = some (.cells #[.string (ByteArray.mk #[])] 58 (0, 0)) ∧ Below wr.heap.size wr wF ∧ wr.heap.size ≤ tb))
      case first =>
        go_region_held3 (fun w' => w'.cell? ⟨w.heap.size, 0, none⟩ = some (.pointer u) ∧ w'.cell? ⟨w.heap.size + 2, i, none⟩ = some (.int .i64 z)) (first | exact HP.out _ (by repeat (first | exact HB2.out | exact HB1.out | exact Below.refl _ _ | apply Below.drew | refine ext_alloc ?_ _ | refine Below.setCell ?_ (by first | exact Nat.le_refl _ | exact HB1.out.size) _)) | go_keep) (first
          | (go_at_call 52; refine (AT.out _ (by repeat (first | exact HB2.out | exact HB1.out | exact Below.refl _ _ | apply Below.drew | refine ext_alloc ?_ _ | refine Below.setCell ?_ (by first | exact Nat.le_refl _ | exact HB1.out.size) _))).mono ?_; clear c0 c4; rintro e w1 ⟨rfl, hb1⟩; have HW1 := hidIt hb1; (first | (have hzC : wr.heap.size < w1.heap.size := (by have := hb1.size; simp at this; omega); have HT := hidIt (show w1.heap[wr.heap.size]? = some (.cells #[.string (ByteArray.mk #[])] 58 (0, 0)) from (by rw [HW1.out.block _ (by simp)]; exact heap_alloc_new _ _)); have t0 : w1.cell? ⟨wr.heap.size, 0, none⟩ = some (.string (ByteArray.mk #[])) := (by rw [cell_of_row _ _ 0 _ _ _ HT.out]; rfl); have tf : ∀ i, w1.frozen? ⟨wr.heap.size, i, none⟩ = false := (fun i => by simp [World.frozen?, HT.out])) | skip); have HB1 : Hid (Below wr.heap.size wr w1) := ext_trans (by repeat (first | exact HB2.out | exact HB1.out | exact Below.refl _ _ | apply Below.drew | refine ext_alloc ?_ _ | refine Below.setCell ?_ (by first | exact Nat.le_refl _ | exact HB1.out.size) _)) hb1; obtain ⟨c0, c4⟩ := HP.out w1 HB1.out; clear hb1))
        all_goals
          go_wp2_with fail
          go_meet
          case rel =>
            first
              | (obtain ⟨p1, p2⟩ := set1 HT.out 0 (.string (ByteArray.mk #[])); exact ⟨_, rfl, rfl, p1, below_put HB1.out HB1.out.size p2 (Nat.le_refl _), Nat.le_refl _⟩)
              | exact ⟨_, rfl, rfl, heap_alloc_new _ _, ext_alloc HB1.out _, HB1.out.size⟩
      obtain ⟨tb, rfl, rfl, HX⟩ := hcut
      generalize hWA : wc = wa at *
      clear hWA c0 c4 AT
      obtain ⟨c0, c4⟩ := HP.out wa HX.out.2.1
      have HP2 : Hid (∀ w', Below wa.heap.size wa w' → w'.cell? ⟨w.heap.size, 0, none⟩ = some (.pointer u) ∧ w'.cell? ⟨w.heap.size + 2, i, none⟩ = some (.int .i64 z)) := fun w' hb' => HP.out w' (ext_trans HX.out.2.1 hb')
      have UP2 : Hid (∀ w', Below wa.heap.size wa w' → Calls Try.prog 51 #[.agg #[.pointer u], .int .i64 z] w' fun e w'' => ∃ q : Ws, Hid ((z < 0 → q = Ws.zero) ∧ (0 ≤ z → q = s)) ∧ e = .returned (.agg #[.string q.t, .int .i64 q.n]) ∧ Below w'.heap.size w' w'') := fun w' hb' => UP.out w' (ext_trans HX.out.2.1 hb')
      clear UP
      go_upto_region 7 with fail
      go_cut [12] from 38 to 43 (fun p wF => ∃ ub : Nat, p = .pointer (some ⟨ub, 0, none⟩) ∧ Hid (∃ q : Ws, ((z < 0 → q = Ws.zero) ∧ (0 ≤ z → q = s)) ∧ Blk 65 wF ub q ∧ Below wa.heap.size wa wF))
      case first =>
        go_region_held3 (fun w' => w'.cell? ⟨w.heap.size, 0, none⟩ = some (.pointer u) ∧ w'.cell? ⟨w.heap.size + 2, i, none⟩ = some (.int .i64 z)) (first | exact HP2.out _ (by repeat (first | exact HB2.out | exact HB1.out | exact Below.refl _ _ | apply Below.drew | refine ext_alloc ?_ _ | refine Below.setCell ?_ (by first | exact Nat.le_refl _ | exact HB1.out.size) _)) | go_keep) (first
          | (go_at_call 51; refine (UP2.out _ (by repeat (first | exact HB2.out | exact HB1.out | exact Below.refl _ _ | apply Below.drew | refine ext_alloc ?_ _ | refine Below.setCell ?_ (by first | exact Nat.le_refl _ | exact HB1.out.size) _))).mono ?_; clear c0 c4; rintro e w1 ⟨q1, HQ1, rfl, hb1⟩; have HW1 := hidIt hb1; (first | (have hzC : wa.heap.size < w1.heap.size := (by have := hb1.size; simp at this; omega); have HT := hidIt ((Blk.new_drew' 65 wa Ws.zero).ext HW1.out); obtain ⟨t0, t1, t2, t3, tf⟩ := HT.out.cells) | skip); have HB1 : Hid (Below wa.heap.size wa w1) := ext_trans (by repeat (first | exact HB2.out | exact HB1.out | exact Below.refl _ _ | apply Below.drew | refine ext_alloc ?_ _ | refine Below.setCell ?_ (by first | exact Nat.le_refl _ | exact HB1.out.size) _)) hb1; obtain ⟨c0, c4⟩ := HP2.out w1 HB1.out; clear hb1))
        all_goals
          go_wp2_with fail
          go_meet
          case rel =>
            first
              | (obtain ⟨p1, p2⟩ := HT.out.put q1; exact ⟨_, rfl, q1, HQ1.out, p1, below_put HB1.out HB1.out.size p2 (Nat.le_refl _)⟩)
              | exact ⟨_, rfl, q1, HQ1.out, Blk.new _ w1 _, ext_alloc HB1.out _⟩
      obtain ⟨ub, rfl, HY⟩ := hcut
      generalize hWB : wc = wb at *
      clear hWB c0 c4 UP2
      obtain ⟨q, hq, hbq, hby⟩ := HY.out
      obtain ⟨q0, q1, _, _, _⟩ := hbq.cells
      have hbx : Below wr.heap.size wr wb := ext_trans HX.out.2.1 hby
      have hbz : Below w0.heap.size w0 wb := ext_trans HB.out hbx
      have s0 := (HC.out wb hbz).2.1
      have s1 := (HC.out wb hbz).2.2.1
      obtain ⟨_, c4⟩ := HP2.out wb hby
      have x0 : wb.cell? ⟨tb, 0, none⟩ = some (.string (ByteArray.mk #[])) := by
        rw [hby.cell (p := ⟨tb, 0, none⟩) (Array.getElem?_eq_some_iff.1 HX.out.1).1, cell_of_row _ _ 0 _ _ _ HX.out.1]; rfl
      have HBZ := hidIt hbz
      clear HY hbq hby hbx hbz HX HP HP2
      by_cases hz0 : z < 0
      · obtain rfl := hq.1 hz0
        simp only [Ws.zero] at q0 q1
        go_wp2_with fail
        go_roundg (5 - i)
        case rel => exact ⟨i + 1, by omega, by go_num, HBZ.out⟩
        case measure => omega
      · obtain rfl := hq.2 (by omega)
        go_wp2_with fail
        go_roundg (5 - i)
        case rel => exact ⟨i + 1, by omega, by go_num, HBZ.out⟩
        case measure => omega
    · obtain rfl : i = 6 := by omega
      clear hi hig
      go_upto_region 10 with fail
      go_cut [13] from 74 to 82 (fun v wF => ∃ fb : Nat, v = .slice (some ⟨fb, 0, none⟩) 8 8 ∧ Hid (∃ k m : Int, (∀ i, i < 8 → wF.cell? ⟨fb, i, none⟩ = some (.int .i64 (frm l.length k m i))) ∧ Below wr.heap.size wr wF ∧ fb < wF.heap.size))
      case first =>
        go_wp2_with fail
        all_goals
          go_meet
          case rel => exact ⟨_, rfl, _, _, frm_cell _ _ _ _ _ _ (heap_alloc_new _ _), ext_alloc (Below.refl _ _) _, by simp⟩
      obtain ⟨fb, rfl, HF⟩ := hcut
      generalize hWA : wc = wa at *
      clear hWA
      obtain ⟨hh, mm, hf1, hf2, hf3⟩ := HF.out
      have HBA := hidIt (ext_trans hb hf2)
      clear HF hf2 hb HB
      have HF1 := hidIt hf1
      clear hf1
      go_upto_region 12 with fail
      go_loopg [14] 8 (fun gk c wr => ∃ i : Nat, i + gk = 8 ∧ c = .int .i64 (i : Nat) ∧ Below wa.heap.size wa wr)
      case atStart => exact ⟨0, rfl, rfl, Below.refl _ _⟩
      case round =>
        obtain ⟨i, hig, rfl, hb⟩ := hrel
        have HB := hidIt hb
        by_cases hi : i < 8
        · have hi' : (i : Int) < 8 := by omega
          have hi0 : (0 : Int) ≤ (i : Int) := by omega
          have HP : Hid (∀ w', Below wr.heap.size wr w' → w'.cell? ⟨w.heap.size, 0, none⟩ = some (.pointer u) ∧ w'.cell? ⟨fb, i, none⟩ = some (.int .i64 (frm l.length hh mm i))) := fun w' hb' => by
            obtain ⟨d0, _⟩ := HC.out w' (ext_trans HBA.out (ext_trans hb hb'))
            exact ⟨d0, ((ext_trans hb hb').cell (p := ⟨fb, i, none⟩) hf3).trans (HF1.out i hi)⟩
          have HK : Hid (∀ w', Below wr.heap.size wr w' → TT w' (.agg #[.pointer u]) l ∧ RdR w' (.slice ao l.length cap) l) := fun w' hb' => by
            obtain ⟨_, _, _, _, d4, d5, _⟩ := HC.out w' (ext_trans HBA.out (ext_trans hb hb'))
            exact ⟨d4, d5⟩
          generalize frm l.length hh mm i = z at *
          obtain ⟨p, hp⟩ : ∃ p : Nat, (p : Int) = max z 0 := ⟨(max z 0).toNat, by omega⟩
          obtain ⟨m, hm⟩ : ∃ m : Nat, m = min p l.length := ⟨_, rfl⟩
          have IT : Hid (∀ w', Below wr.heap.size wr w' → Calls Try.prog 71 #[.agg #[.pointer u], .int .i64 z] w' fun e w'' => ∃ a b, e = .returned (.func (.func 84) #[] #[.pointer (some ⟨a, 0, none⟩), .pointer (some ⟨b, 0, none⟩)]) ∧ Hid (IterAt w'' (.func (.func 84) #[] #[.pointer (some ⟨a, 0, none⟩), .pointer (some ⟨b, 0, none⟩)]) u p) ∧ Below w'.heap.size w' w'') := fun w' _ => Items_any u z p w' hp
          have WK : Hid (∀ it st w1 w', IterAt w1 it u p → Below wr.heap.size wr w1 → Below w1.heap.size w1 w' → Calls Try.prog 72 #[it, .slice ao l.length cap, .int .i64 (m : Nat), .bool st] w' fun e w'' => e = .returned (.bool true) ∧ Below w'.heap.size w' w'') := fun it st w1 w' h1 h2 h3 => walked_any w' it u p m l ao cap st (h1.ext h3) (HK.out _ (ext_trans h2 h3)).1 (HK.out _ (ext_trans h2 h3)).2 hx hm
          obtain ⟨c0, c4⟩ := HP.out wr (Below.refl _ _)
          clear hb
          go_upto_region 14 with fail
          go_cut [15] from 89 to 95 (fun v wF => v = .int .i64 (m : Nat) ∧ wF = wr)
          case first =>
            go_wp2_with fail
            all_goals
              go_meet
              case rel => exact ⟨congrArg (Value.int IntKind.i64) (by omega), rfl⟩
          obtain ⟨rfl, hwc⟩ := hcut
          subst hwc
          clear hp hm
          go_upto_region 15 with fail
          go_region_held3 (fun w' => w'.cell? ⟨w.heap.size, 0, none⟩ = some (.pointer u) ∧ w'.cell? ⟨fb, i, none⟩ = some (.int .i64 z)) (first | exact HP.out _ (by repeat (first | exact HB1.out | exact Below.refl _ _ | apply Below.drew | refine ext_alloc ?_ _)) | go_keep) (first
            | (go_at_call 71; refine (IT.out _ (by repeat (first | exact HB1.out | exact Below.refl _ _ | apply Below.drew | refine ext_alloc ?_ _))).mono ?_; clear c0 c4; rintro e w1 ⟨ia, ib, rfl, HI, hb1⟩; have HB1 : Hid (Below wc.heap.size wc w1) := ext_trans (by repeat (first | exact HB1.out | exact Below.refl _ _ | apply Below.drew | refine ext_alloc ?_ _)) hb1; obtain ⟨c0, c4⟩ := HP.out w1 HB1.out; clear hb1))
          have hnf := nf_eq ia ib w1
          have W1 := hidIt (WK.out _ true w1 w1 HI.out HB1.out (Below.refl _ _))
          have W2 : Hid (∀ w2, Below w1.heap.size w1 w2 → Calls Try.prog 72 #[.func (.func 84) #[] #[.pointer (some ⟨ia, 0, none⟩), .pointer (some ⟨ib, 0, none⟩)], .slice ao l.length cap, .int .i64 (m : Nat), .bool false] w2 fun e w'' => e = .returned (.bool true) ∧ Below w2.heap.size w2 w'') := fun w2 h => WK.out _ false w1 w2 HI.out HB1.out h
          clear WK IT HP HK c0 c4
          go_wp2_with fail
          refine W1.out.mono ?_
          rintro e w2 ⟨rfl, hb2⟩
          have HB2 := hidIt hb2
          have W3 := hidIt (W2.out w2 hb2)
          clear hb2 W1 W2
          go_wp2_with fail
          refine W3.out.mono ?_
          rintro e w3 ⟨rfl, hb3⟩
          have HB3 := hidIt hb3
          clear hb3 W3 hnf
          go_wp2_with fail
          go_roundg (7 - i)
          case rel => exact ⟨i + 1, by omega, by go_num, ext_trans HB.out (ext_trans HB1.out (ext_trans HB2.out HB3.out))⟩
          case measure => omega
        · obtain rfl : i = 8 := by omega
          have HE := hidIt (HC.out wr (ext_trans HBA.out hb)).2.2.2.2.2.2
          go_wp2_with fail
          go_ret
          exact ⟨rfl, HE.out⟩
end Go.Proofs.Ytcdamhgblolofaa.W
