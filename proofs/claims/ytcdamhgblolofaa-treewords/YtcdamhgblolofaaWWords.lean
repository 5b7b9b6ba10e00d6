/- TreeWords. -/
import Derived.Test.YtcdamhgblolofaaWOwn
import Derived.Test.YtcdamhgblolofaaWWordy
import Derived.Test.YtcdamhgblolofaaHelp
import Derived.Deep.CutRange
import Derived.Deep.CutBlock
import Derived.Deep.LoopGhost
import Derived.Deep.RegionHeld3
namespace Go.Proofs.Ytcdamhgblolofaa.W
open Go.RowKit

/-- The letters of texts. -/
def tx : List It → Nat
  | [] => 0
  | x :: l => x.size + tx l
theorem tx_snoc (l : List It) (i : Nat) (h : i < l.length) : tx (l.take (i + 1)) = tx (l.take i) + (l[i]?.getD (ByteArray.mk #[])).size := by
  induction l generalizing i with
  | nil => simp at h
  | cons x l ih =>
    cases i with
    | zero => simp [tx]
    | succ i =>
      have := ih i (by simpa using h)
      simp only [List.take_succ_cons, tx, List.getElem?_cons_succ]
      omega
theorem tx_wt (l : List It) : wt l = l.length + tx l := by
  induction l with
  | nil => rfl
  | cons x l ih => rw [wt_cons, ih, List.length_cons]; simp only [tx]; omega
/-- What stands in text behind i rounds that began at T. -/
def TxI (T : Nat) (l : List It) (w : World) (gk : Nat) (c p : Value) (wr : World) : Prop := ∃ i : Nat, i + gk = l.length ∧ c = .int .i64 ((T + tx (l.take i) : Nat) : Int) ∧ p = .int .i64 (i : Nat) ∧ T + tx (l.take i) ≤ 562949953421312 ∧ wr = w

/-- The pairs at which nothing can be put in. -/
def en (n : Nat) (i : Nat) : Int × Int := [(-1, 0), (-9223372036854775808, 1), (1, 0), ((n : Int), (n : Int) - 1), ((n : Int) + 1, (n : Int) + 1), (0, 9223372036854775807), (9223372036854775807, -9223372036854775808)][i]?.getD (0, 0)
theorem en_bad (n i : Nat) (hn : n ≤ 1048577) (hi : i < 7) : (en n i).1 < 0 ∨ (en n i).2 < (en n i).1 ∨ (n : Int) < (en n i).2 := by
  match i, hi with
  | 0, _ => simp [en]
  | 1, _ => simp [en]
  | 2, _ => simp [en]
  | 3, _ => simp [en]; omega
  | 4, _ => simp [en]; omega
  | 5, _ => simp [en]; omega
  | 6, _ => simp [en]
theorem en_cell (w : World) (b n : Nat) (T : TypeId) (h : w.heap[b]? = some (.cells #[.int .i64 (-1), .int .i64 0, .int .i64 (-9223372036854775808), .int .i64 1, .int .i64 1, .int .i64 0, .int .i64 (n : Nat), .int .i64 ((n : Int) - 1), .int .i64 ((n : Int) + 1), .int .i64 ((n : Int) + 1), .int .i64 0, .int .i64 9223372036854775807, .int .i64 9223372036854775807, .int .i64 (-9223372036854775808)] T (0, 0))) (i : Nat) (hi : i < 7) : w.cell? ⟨b, i * 2, none⟩ = some (.int .i64 (en n i).1) ∧ w.cell? ⟨b, i * 2 + 1, none⟩ = some (.int .i64 (en n i).2) := by
  rw [cell_of_row w _ _ _ _ _ h, cell_of_row w _ _ _ _ _ h]
  match i, hi with
  | 0, _ => exact ⟨rfl, rfl⟩
  | 1, _ => exact ⟨rfl, rfl⟩
  | 2, _ => exact ⟨rfl, rfl⟩
  | 3, _ => exact ⟨rfl, rfl⟩
  | 4, _ => exact ⟨rfl, rfl⟩
  | 5, _ => exact ⟨rfl, rfl⟩
  | 6, _ => exact ⟨rfl, rfl⟩

set_option maxRecDepth 100000 in
set_option maxHeartbeats 4000000 in
theorem law_words (w : World) (zs ys : List It) (ao ao2 : Option Addr) (cap cap2 : Nat) (fr tt k n : Int) (hR : RdR w (.slice ao zs.length cap) zs) (hR2 : RdR w (.slice ao2 ys.length cap2) ys)
    (hs : ∀ i : Nat, (zs[i]?.getD (ByteArray.mk #[])).size ≤ 140737488351232) (hs2 : ∀ i : Nat, (ys[i]?.getD (ByteArray.mk #[])).size ≤ 140737488351232) (hl1 : zs.length ≤ 140737488351232) (hl2 : ys.length ≤ 140737488351232) :
    Calls Try.prog 7 #[.slice ao zs.length cap, .int .i64 fr, .int .i64 tt, .slice ao2 ys.length cap2, .int .i64 k, .int .i64 n] w fun e w' => e = .returned (.bool true) ∧ Below w.heap.size w w' := by
  have HR := hidIt hR
  have HR2 := hidIt hR2
  have HS := hidIt hs
  have HS2 := hidIt hs2
  clear hR hR2 hs hs2
  go_enter Try.func7, Try.ntmps7
  go_upto_block 0 with fail
  go_cut [14] from 41 to 58 (fun c wF => ∃ T : Nat, c = .int .i64 (T : Nat) ∧ T ≤ 562949953421312 ∧ (T ≤ 4194304 → T = 4 + tx zs) ∧ 4 ≤ T ∧ wF = w)
  case first =>
    go_wp2_with fail
    go_loopg [14, 15] zs.length (TxI 4 zs w)
    case atStart => exact ⟨0, by omega, rfl, rfl, by rw [List.take_zero]; simp only [tx]; omega, rfl⟩
    case round =>
      obtain ⟨i, hig, rfl, rfl, hT, hwr⟩ := hrel
      obtain rfl : w = wr := hwr.symm
      by_cases hi : i < zs.length
      · have hi' : (i : Int) < (zs.length : Int) := by omega
        by_cases ht : 4 + tx (zs.take i) ≤ 4194304
        · obtain ⟨b, off, cap', e0, hlc, hcm, hbl, hcc⟩ := HR.out.at (by omega)
          simp only [Value.slice.injEq] at e0
          obtain ⟨rfl, he0, rfl⟩ := e0
          clear he0
          have y0 := (hcc i hi).1
          have hz := HS.out i
          have EX := hidIt (tx_snoc zs i hi)
          generalize zs[i]?.getD (ByteArray.mk #[]) = x at *
          generalize hX : 4 + tx (zs.take i) = X at *
          have ht2 : (X : Int) ≤ 4194304 := by omega
          have hz' : (x.size : Int) ≤ 140737488351232 := by omega
          clear hcc
          go_wp2_with fail
          go_roundg (zs.length - (i + 1))
          case measure => omega
          exact ⟨i + 1, by omega, by rw [EX.out, ← Nat.add_assoc, hX]; simp, by simp, by rw [EX.out]; omega, rfl⟩
        · have ht2 : ¬ ((4 + tx (zs.take i) : Nat) : Int) ≤ 4194304 := by omega
          generalize hX : 4 + tx (zs.take i) = X at *
          go_wp2_with fail
          go_meet
          case rel => exact ⟨X, rfl, hT, fun h => absurd h ht, by omega, rfl⟩
      · have hi' : ¬ (i : Int) < (zs.length : Int) := by omega
        have ei : i = zs.length := by omega
        have ee : zs.take i = zs := by rw [ei, List.take_length]
        rw [ee] at hT
        go_wp2_with fail
        go_meet
        case rel => exact ⟨4 + tx zs, by first | rfl | simp [ee], hT, fun _ => rfl, Nat.le_add_right _ _, rfl⟩
  obtain ⟨T1, rfl, hT11, hT12, hT13, hwc⟩ := hcut
  obtain rfl : w = wc := hwc.symm
  have HT12 := hidIt hT12
  clear hT12
  go_upto_block 2 with fail
  go_cut [14] from 58 to 75 (fun c wF => ∃ T : Nat, c = .int .i64 (T : Nat) ∧ T ≤ 562949953421312 ∧ (T ≤ 4194304 → T = T1 + tx ys) ∧ T1 ≤ T ∧ wF = w)
  case first =>
    go_wp2_with fail
    go_loopg [14, 16] ys.length (TxI T1 ys w)
    case atStart => exact ⟨0, by omega, rfl, rfl, by rw [List.take_zero]; simp only [tx]; omega, rfl⟩
    case round =>
      obtain ⟨i, hig, rfl, rfl, hT, hwr⟩ := hrel
      obtain rfl : w = wr := hwr.symm
      by_cases hi : i < ys.length
      · have hi' : (i : Int) < (ys.length : Int) := by omega
        by_cases ht : T1 + tx (ys.take i) ≤ 4194304
        · obtain ⟨b, off, cap', e0, hlc, hcm, hbl, hcc⟩ := HR2.out.at (by omega)
          simp only [Value.slice.injEq] at e0
          obtain ⟨rfl, he0, rfl⟩ := e0
          clear he0
          have y0 := (hcc i hi).1
          have hz := HS2.out i
          have EX := hidIt (tx_snoc ys i hi)
          generalize ys[i]?.getD (ByteArray.mk #[]) = x at *
          generalize hX : T1 + tx (ys.take i) = X at *
          have ht2 : (X : Int) ≤ 4194304 := by omega
          have hz' : (x.size : Int) ≤ 140737488351232 := by omega
          clear hcc
          go_wp2_with fail
          go_roundg (ys.length - (i + 1))
          case measure => omega
          exact ⟨i + 1, by omega, by rw [EX.out, ← Nat.add_assoc, hX]; simp, by simp, by rw [EX.out]; omega, rfl⟩
        · have ht2 : ¬ ((T1 + tx (ys.take i) : Nat) : Int) ≤ 4194304 := by omega
          generalize hX : T1 + tx (ys.take i) = X at *
          go_wp2_with fail
          go_meet
          case rel => exact ⟨X, rfl, hT, fun h => absurd h ht, by omega, rfl⟩
      · have hi' : ¬ (i : Int) < (ys.length : Int) := by omega
        have ei : i = ys.length := by omega
        have ee : ys.take i = ys := by rw [ei, List.take_length]
        rw [ee] at hT
        go_wp2_with fail
        go_meet
        case rel => exact ⟨T1 + tx ys, by first | rfl | simp [ee], hT, fun _ => rfl, Nat.le_add_right _ _, rfl⟩
  obtain ⟨T2, rfl, hT21, hT22, hT23, hwc⟩ := hcut
  obtain rfl : w = wc := hwc.symm
  have HT22 := hidIt hT22
  clear hT22
  obtain ⟨sz, hsz⟩ : ∃ sz : Nat, sz = zs.length + ys.length + 2 := ⟨_, rfl⟩
  have esz : (zs.length : Int) + (ys.length : Int) + 2 = (sz : Int) := by omega
  go_upto_region 11 with fail
  rw [esz]
  have HSZ := hidIt hsz
  clear hsz esz
  by_cases gA : 1048576 < sz
  · have gA' : (1048576 : Int) < (sz : Int) := by omega
    go_wp2_with fail
    go_ret
    exact ⟨rfl, Below.refl _ _⟩
  have gA' : ¬ (1048576 : Int) < (sz : Int) := by omega
  by_cases gB : 4194304 < T2
  · have gB' : (4194304 : Int) < (T2 : Int) := by omega
    go_wp2_with fail
    go_ret
    exact ⟨rfl, Below.refl _ _⟩
  have gB' : ¬ (4194304 : Int) < (T2 : Int) := by omega
  obtain ⟨M, hM⟩ : ∃ M : Nat, M = sz * (sz + T2) := ⟨_, rfl⟩
  have HM := hidIt hM
  have hM2 : M ≤ 1048576 * 5242880 := by rw [hM]; exact Nat.mul_le_mul (by omega) (by omega)
  have hwM : IntKind.i64.wrap ((sz : Int) * ((sz : Int) + (T2 : Int))) = (M : Int) := by rw [show (sz : Int) * ((sz : Int) + (T2 : Int)) = (M : Int) by rw [hM]; push_cast; rfl, IntKind.wrap_i64]; omega
  clear hM
  by_cases gC : 4194304 < M
  · have gC' : (4194304 : Int) < (M : Int) := by omega
    go_wp2_with fail
    go_ret
    exact ⟨rfl, Below.refl _ _⟩
  have gC' : ¬ (4194304 : Int) < (M : Int) := by omega
  go_upto_region 13 with fail
  have HLZ : Hid (zs.length ≤ 1048576 ∧ ys.length ≤ 1048576 ∧ tx zs + tx ys ≤ 4194304) := by
    have h1 := HSZ.out
    have h2 := HT22.out (by omega)
    have h3 := HT12.out (by omega)
    unfold Hid
    omega
  have HL1 : Hid (zs.length ≤ 1048576) := HLZ.out.1
  clear hl1 hl2
  obtain ⟨one, hone⟩ : ∃ o : It, o = ByteArray.mk #[111, 110, 101] := ⟨_, rfl⟩
  have ONE : Hid (one.size = 3) := by unfold Hid; rw [hone]; rfl
  obtain ⟨w1, hw1⟩ : ∃ w1, w1 = w.alloc (.cells #[.string (ByteArray.mk #[111, 110, 101])] 58) := ⟨_, rfl⟩
  have O1 : Hid (OwnR w1 w.heap.size 58 (.slice (some ⟨w.heap.size, 0, none⟩) 1 1) [one]) := by unfold Hid; rw [hw1, hone]; exact OwnR.lit1 _ _ _
  have B1 : Hid (Below w.heap.size w w1) := by unfold Hid; rw [hw1]; exact ext_alloc (Below.refl _ _) _
  clear hone gA gA' gB gB' gC gC' hM2 hwM hT11 hT13 hT21 hT23
  go_upto_block 4 with fail
  rw [← hw1]
  clear hw1
  go_cut [17] from 91 to 105 (fun c wF => Hid (OwnR wF w.heap.size 58 c (one :: zs) ∧ Below w.heap.size w wF))
  case first =>
    go_wp2_with fail
    go_loopg [17, 18] zs.length (fun gk c p wr => ∃ i : Nat, i + gk = zs.length ∧ p = .int .i64 (i : Nat) ∧ Hid (OwnR wr w.heap.size 58 c (one :: zs.take i) ∧ Below w.heap.size w wr))
    case atStart => exact ⟨0, by omega, rfl, O1.out, B1.out⟩
    case round =>
      obtain ⟨i, hig, rfl, HO⟩ := hrel
      by_cases hi : i < zs.length
      · have hi' : (i : Int) < (zs.length : Int) := by omega
        obtain ⟨ao1, cap1, rfl⟩ := HO.out.1.form1
        obtain ⟨b, off, cap', e0, hlc, hcm, hbl, hcc⟩ := (HR.out.ext HO.out.2).at (by omega)
        simp only [Value.slice.injEq] at e0
        obtain ⟨rfl, he0, rfl⟩ := e0
        clear he0
        have y0 := (hcc i hi).1
        have et : zs.take (i + 1) = zs.take i ++ [zs[i]?.getD (ByteArray.mk #[])] := by
          rw [List.take_add_one, List.getElem?_eq_getElem hi]; rfl
        have ET := hidIt et
        have hlt : (zs.take i).length ≤ 1048576 := by have := HLZ.out; rw [List.length_take]; omega
        generalize zs[i]?.getD (ByteArray.mk #[]) = x at *
        clear hcc et
        go_wp2_with (at_builtin; refine wpList_append_runs rfl _ _ 59 rfl w.heap.size 58 Try.info_word Try.underlying59 _ (one :: zs.take i) rfl (HO.out.1.ext (ext_alloc (Below.refl _ _) _)) _ [x] rfl (RdR.lit1 _ _ _) (by simp only [List.length_cons, List.length_nil]; omega) (by have := HO.out.2.size; simp; omega) ?_; intro o2 w2 hO2 hg; have HB2 := hidIt (OwnR.below (ext_alloc HO.out.2 _) (HO.out.1.ext (ext_alloc (Below.refl _ _) _)) hg); have HO2 := hidIt hO2; clear hO2 hg)
        go_roundg (zs.length - (i + 1))
        case rel => exact ⟨i + 1, by omega, by go_num, by rw [ET.out]; exact HO2.out, HB2.out⟩
        case measure => omega
      · have hi' : ¬ (i : Int) < (zs.length : Int) := by omega
        have ei : i = zs.length := by omega
        have ee := HO.out
        rw [ei, List.take_length] at ee
        have HE := hidIt ee
        clear ee HO
        obtain ⟨ao1, cap1, rfl⟩ := HE.out.1.form1
        go_wp2_with fail
        go_meet
        case rel => exact HE.out
  have HL := hidIt hcut.out.1
  have BL := hidIt hcut.out.2
  generalize hwl : wc = wl at *
  clear hwl hcut O1 B1
  obtain ⟨gl, cl, hvl⟩ := HL.out.form_pos1 (by simp)
  subst hvl
  go_upto_block 6 with fail
  go_cut [19] from 105 to 119 (fun c wF => Hid (OwnR wF wl.heap.size 58 c (ys) ∧ Below wl.heap.size wl wF))
  case first =>
    go_wp2_with fail
    go_loopg [19, 20] ys.length (fun gk c p wr => ∃ i : Nat, i + gk = ys.length ∧ p = .int .i64 (i : Nat) ∧ Hid (OwnR wr wl.heap.size 58 c (ys.take i) ∧ Below wl.heap.size wl wr))
    case atStart => exact ⟨0, by omega, rfl, (OwnR.nil _ _ _), (Below.refl _ _)⟩
    case round =>
      obtain ⟨i, hig, rfl, HO⟩ := hrel
      by_cases hi : i < ys.length
      · have hi' : (i : Int) < (ys.length : Int) := by omega
        obtain ⟨ao1, cap1, rfl⟩ := HO.out.1.form1
        obtain ⟨b, off, cap', e0, hlc, hcm, hbl, hcc⟩ := (HR2.out.ext (ext_trans BL.out HO.out.2)).at (by omega)
        simp only [Value.slice.injEq] at e0
        obtain ⟨rfl, he0, rfl⟩ := e0
        clear he0
        have y0 := (hcc i hi).1
        have et : ys.take (i + 1) = ys.take i ++ [ys[i]?.getD (ByteArray.mk #[])] := by
          rw [List.take_add_one, List.getElem?_eq_getElem hi]; rfl
        have ET := hidIt et
        have hlt : (ys.take i).length ≤ 1048576 := by have := HLZ.out; rw [List.length_take]; omega
        generalize ys[i]?.getD (ByteArray.mk #[]) = x at *
        clear hcc et
        go_wp2_with (at_builtin; refine wpList_append_runs rfl _ _ 59 rfl wl.heap.size 58 Try.info_word Try.underlying59 _ (ys.take i) rfl (HO.out.1.ext (ext_alloc (Below.refl _ _) _)) _ [x] rfl (RdR.lit1 _ _ _) (by simp only [List.length_cons, List.length_nil]; omega) (by have := HO.out.2.size; simp; omega) ?_; intro o2 w2 hO2 hg; have HB2 := hidIt (OwnR.below (ext_alloc HO.out.2 _) (HO.out.1.ext (ext_alloc (Below.refl _ _) _)) hg); have HO2 := hidIt hO2; clear hO2 hg)
        go_roundg (ys.length - (i + 1))
        case rel => exact ⟨i + 1, by omega, by go_num, by rw [ET.out]; exact HO2.out, HB2.out⟩
        case measure => omega
      · have hi' : ¬ (i : Int) < (ys.length : Int) := by omega
        have ei : i = ys.length := by omega
        have ee := HO.out
        rw [ei, List.take_length] at ee
        have HE := hidIt ee
        clear ee HO
        obtain ⟨ao1, cap1, rfl⟩ := HE.out.1.form1
        go_wp2_with fail
        go_meet
        case rel => exact HE.out
  have HP := hidIt hcut.out.1
  have BP := hidIt hcut.out.2
  generalize hwp : wc = wp at *
  clear hwp hcut
  obtain ⟨ap, cp, hvp⟩ := HP.out.form1
  subst hvp
  generalize hl : one :: zs = l at *
  have HLL := hidIt hl
  have hll : 0 < l.length := by rw [← hl]; simp
  have hlb : l.length ≤ 1048577 := by have := HLZ.out; rw [← hl, List.length_cons]; omega
  have hyb : ys.length ≤ 1048576 := HLZ.out.2.1
  have HWT : Hid (wt l + wt ys ≤ 8388608) := by
    have h1 := HLZ.out
    have h2 := tx_wt l
    have h3 := tx_wt ys
    have h4 := ONE.out
    have h5 : tx l = 3 + tx zs := by rw [← hl, tx, h4]
    unfold Hid
    omega
  clear hl
  have RL : Hid (∀ w', Below wp.heap.size wp w' → RdR w' (.slice (some ⟨gl, 0, none⟩) l.length cl) l ∧ RdR w' (.slice ap ys.length cp) ys) := fun w' hb => ⟨HL.out.rd.ext (ext_trans BP.out hb), HP.out.rd.ext hb⟩
  have BW := hidIt (ext_trans BL.out BP.out)
  have hcl : l.length ≤ cl ∧ cl ≤ 9223372036854775807 := by obtain ⟨_, _, e1, e2, e3, _⟩ := HL.out.rd; simp only [Value.slice.injEq] at e1; rw [e1.2.2]; exact ⟨e2, e3⟩
  clear HR HR2 HS HS2 HT12 HT22 HSZ HM HL1
  go_upto_region 24 with (go_at_call 25; refine (slot_any fr l.length wp (by omega)).mono ?_; rintro e wn ⟨i, rfl, hi, hwn⟩; obtain rfl : wp = wn := hwn.symm)
  have SL2 : Hid (Calls Try.prog 25 #[.int .i64 tt, .int .i64 ((l.length : Int) - (i : Int))] wp fun e w' => ∃ k : Nat, e = .returned (.int .i64 k) ∧ k ≤ l.length - i ∧ w' = wp) := by
    rw [show (l.length : Int) - (i : Int) = ((l.length - i : Nat) : Int) by omega]
    exact slot_any tt (l.length - i) wp (by omega)
  go_upto_region 25 with (go_at_call 25; refine SL2.out.mono ?_; rintro e wn ⟨d, rfl, hd, hwn⟩; obtain rfl : wp = wn := hwn.symm)
  rw [show (i : Int) + (d : Int) = ((i + d : Nat) : Int) by omega]
  obtain ⟨j, hj⟩ : ∃ j : Nat, j = i + d := ⟨_, rfl⟩
  have hij : i ≤ j := by omega
  have hjl : j ≤ l.length := by omega
  rw [← hj]
  clear hj hd SL2
  go_wp2_with fail
  refine (Of_any _ l wp (RL.out wp (Below.refl _ _)).1 (by have := HWT.out; omega)).mono ?_
  rintro e w2 ⟨u, rfl, hT, hb2⟩
  obtain ⟨w3, hw3⟩ : ∃ w3, w3 = w2.alloc (.cells #[.pointer u] 62) := ⟨_, rfl⟩
  have hb3 : Below w2.heap.size w2 w3 := by rw [hw3]; exact ext_alloc (Below.refl _ _) _
  have HB3 := hidIt (ext_trans hb2 hb3)
  have HT3 : Hid (∀ w', Below w3.heap.size w3 w' → TT w' (.agg #[.pointer u]) l ∧ w'.cell? ⟨w2.heap.size, 0, none⟩ = some (.pointer u)) := fun w' hb => ⟨(hT.ext hb3).ext hb, BlkT.cell (BlkT.ext (by rw [hw3]; exact heap_alloc_new _ _) hb)⟩
  go_upto_region 26 with fail
  rw [← hw3]
  generalize w2.heap.size = t0 at *
  clear hw3 hb2 hb3 hT
  have q0 := (HT3.out w3 (Below.refl _ _)).2
  obtain ⟨U, hU⟩ : ∃ U, U = l.take i ++ ys ++ l.drop j := ⟨_, rfl⟩
  have HU := hidIt hU
  have hUL : U.length ≤ 2097153 := by rw [hU]; simp only [List.length_append, List.length_take, List.length_drop]; omega
  have HUW : Hid (wt U ≤ 16777216) := by
    have e1 := wt_sub l i
    have e2 := wt_sub l j
    have e3 := HWT.out
    unfold Hid
    rw [hU, wt_app, wt_app]
    omega
  have RU := hidIt (Replace_good u l i j (.slice ap ys.length cp) ys w3 (HT3.out w3 (Below.refl _ _)).1 (RL.out w3 HB3.out).2 hij hjl (by have h1 := HWT.out; omega))
  rw [← hU] at RU
  clear hU
  go_wp2_with fail
  refine RU.out.mono ?_
  rintro e w4 ⟨u1, rfl, hT4, hb4⟩
  obtain ⟨w5, hw5⟩ : ∃ w5, w5 = w4.alloc (.cells #[.pointer u1] 62) := ⟨_, rfl⟩
  have hb5 : Below w4.heap.size w4 w5 := by rw [hw5]; exact ext_alloc (Below.refl _ _) _
  have HX5 := hidIt (ext_trans hb4 hb5)
  have HB5 := hidIt (ext_trans HB3.out HX5.out)
  have HT5 : Hid (∀ w', Below w5.heap.size w5 w' → TT w' (.agg #[.pointer u1]) U ∧ w'.cell? ⟨w4.heap.size, 0, none⟩ = some (.pointer u1)) := fun w' hb => ⟨(hT4.ext hb5).ext hb, BlkT.cell (BlkT.ext (by rw [hw5]; exact heap_alloc_new _ _) hb)⟩
  go_upto_region 28 with fail
  rw [← hw5]
  generalize w4.heap.size = t1 at *
  clear hw5 hb4 hb5 hT4 RU q0
  have i3 : (i : Int) ≤ (cl : Int) := by omega
  have SI : Hid (RdR w5 (.slice (some ⟨gl, 0, none⟩) i cl) (l.take i)) := by have := (RL.out w5 HB5.out).1.upto i (by omega); exact this
  have hti : (l.take i).length ≤ 1048577 := by rw [List.length_take]; omega
  go_upto_region 29 with (at_builtin; refine wpList_append_runs rfl _ _ 59 rfl w5.heap.size 58 Try.info_word Try.underlying59 _ [] rfl (OwnR.nil _ _ _) _ (l.take i) rfl SI.out (by simp only [List.length_nil]; omega) (Nat.le_refl _) ?_; intro o2 w6 hO2 hg; have HB6 := hidIt (OwnR.below (Below.refl _ _) (OwnR.nil w5 w5.heap.size 58) hg); have HO6 := hidIt hO2; clear hO2 hg)
  obtain ⟨a6, c6, hv6⟩ := HO6.out.form1
  subst hv6
  go_upto_region 30 with (at_builtin; refine wpList_append_runs rfl _ _ 59 rfl w5.heap.size 58 Try.info_word Try.underlying59 _ ([] ++ l.take i) rfl HO6.out _ ys rfl (RL.out w6 (ext_trans HB5.out HB6.out)).2 (by simp only [List.nil_append]; omega) HB6.out.size ?_; intro o2 w7 hO2 hg; have HB7 := hidIt (OwnR.below HB6.out HO6.out hg); have HO7 := hidIt hO2; clear hO2 hg)
  rw [List.nil_append] at HO7
  obtain ⟨a7, c7, hv7⟩ := HO7.out.form1
  subst hv7
  have i1 : (0 : Int) ≤ (j : Int) := by omega
  have i2 : (j : Int) ≤ (l.length : Int) := by omega
  have i4 : (l.length : Int) ≤ (cl : Int) := by omega
  have i5 : ((l.length : Int) - (j : Int)).toNat = l.length - j := by omega
  have RL7 := hidIt (RL.out w7 (ext_trans HB5.out HB7.out)).1
  go_cut [26] from 119 to 154 (fun c wF => Hid (OwnR wF w5.heap.size 58 c U ∧ Below w5.heap.size w5 wF))
  case first =>
    by_cases hcj : cl = j
    · have HSL : Hid (∀ a b : Nat, a = 0 → b = 0 → RdR w7 (.slice (some ⟨gl, 0, none⟩) a b) (l.drop j)) := by
        have hjl2 : j = l.length := by omega
        intro a b ha hb
        rw [hjl2, List.drop_length, ha, hb]
        exact ⟨some ⟨gl, 0, none⟩, 0, rfl, Nat.le_refl _, by simp [maxLen], (fun h => by cases h), fun h => absurd rfl h⟩
      subst hcj
      go_wp2_with (at_builtin; refine wpList_append_runs rfl _ _ 59 rfl w5.heap.size 58 Try.info_word Try.underlying59 _ (l.take i ++ ys) rfl HO7.out _ (l.drop cl) rfl (HSL.out _ _ (by omega) (by omega)) (by simp only [List.length_append, List.length_drop]; omega) HB7.out.size ?_; intro o8 w8 hO2 hg; have HB8 := hidIt (OwnR.below HB7.out HO7.out hg); have HO8 := hidIt hO2; clear hO2 hg)
      go_meet
      case rel => exact ⟨by rw [HU.out]; exact HO8.out, HB8.out⟩
    · have HSL : Hid (RdR w7 (.slice (some ⟨gl, j, none⟩) (l.length - j) (cl - j)) (l.drop j)) := by
        have := RL7.out.from j (by omega)
        rw [Nat.zero_add] at this
        exact this
      go_wp2_with (at_builtin; refine wpList_append_runs rfl _ _ 59 rfl w5.heap.size 58 Try.info_word Try.underlying59 _ (l.take i ++ ys) rfl HO7.out _ _ rfl HSL.out (by simp only [List.length_append, List.length_drop]; omega) HB7.out.size ?_; intro o8 w8 hO2 hg; have HB8 := hidIt (OwnR.below HB7.out HO7.out hg); have HO8 := hidIt hO2; clear hO2 hg)
      go_meet
      case rel => exact ⟨by rw [HU.out]; exact HO8.out, HB8.out⟩
  have HO8 := hidIt hcut.out.1
  have BX8 := hidIt hcut.out.2
  generalize hw8 : wc = w8 at *
  clear hw8 hcut HB6 HB7 HO6 HO7 RL7 SI HU
  obtain ⟨a8, c8, hv8⟩ := HO8.out.form1
  subst hv8
  have BD : Hid (∀ (f t : Int) (v : Value) (vs : List It) (w' : World), Below w3.heap.size w3 w' → RdR w' v vs → (f < 0 ∨ t < f ∨ (l.length : Int) < t) → Calls Try.prog 33 #[.agg #[.pointer u], .int .i64 f, .int .i64 t, v] w' fun e w'' => e = .returned (.tuple #[.agg #[.pointer none], .int .i64 1]) ∧ Below w'.heap.size w' w'') := fun f t v vs w' hb hv h => Replace_bad u l f t v vs w' (HT3.out w' hb).1 hv h
  have HX8 := hidIt (ext_trans HX5.out BX8.out)
  have q0 := (HT3.out w8 HX8.out).2
  go_wp2_with fail
  refine (BD.out _ _ _ [] w8 HX8.out (RdR.nil _) (by omega)).mono ?_
  rintro e w9 ⟨rfl, hb9⟩
  obtain ⟨w10, hw10⟩ : ∃ w10, w10 = w9.alloc (.cells #[.pointer none] 62) := ⟨_, rfl⟩
  have hb10 : Below w9.heap.size w9 w10 := by rw [hw10]; exact ext_alloc (Below.refl _ _) _
  have BX10 := hidIt (ext_trans BX8.out (ext_trans hb9 hb10))
  have HX10 := hidIt (ext_trans HX8.out (ext_trans hb9 hb10))
  have HO10 := hidIt (HO8.out.rd.ext (ext_trans hb9 hb10))
  go_upto_region 32 with fail
  rw [← hw10]
  generalize w9.heap.size = t2 at *
  clear hw10 hb9 hb10 q0 HX8 BX8 HO8
  have q1 := (HT5.out w10 BX10.out).2
  have WD := hidIt (wordy_any w10 u1 U a8 c8 k n (HT5.out w10 BX10.out).1 HO10.out (by omega) (by have := HUW.out; omega))
  go_upto_region 34 with (first
    | (go_at_call 28; refine (num_any _ w10).mono ?_; rintro e wn ⟨rfl, hwn⟩; obtain rfl : w10 = wn := hwn.symm)
    | (go_at_call 34; refine WD.out.mono ?_; rintro e w11 ⟨rfl, hb11⟩; have HB11 := hidIt hb11; clear hb11))
  obtain ⟨w12, hw12⟩ : ∃ w12, w12 = w11.alloc (.cells #[.int .i64 (-1), .int .i64 0, .int .i64 (-9223372036854775808), .int .i64 1, .int .i64 1, .int .i64 0, .int .i64 (l.length : Nat), .int .i64 ((l.length : Int) - 1), .int .i64 ((l.length : Int) + 1), .int .i64 ((l.length : Int) + 1), .int .i64 0, .int .i64 9223372036854775807, .int .i64 9223372036854775807, .int .i64 (-9223372036854775808)] 69) := ⟨_, rfl⟩
  have hb12 : Below w11.heap.size w11 w12 := by rw [hw12]; exact ext_alloc (Below.refl _ _) _
  have HX12 := hidIt (ext_trans HX10.out (ext_trans HB11.out hb12))
  have hE : w12.heap[w11.heap.size]? = some (.cells #[.int .i64 (-1), .int .i64 0, .int .i64 (-9223372036854775808), .int .i64 1, .int .i64 1, .int .i64 0, .int .i64 (l.length : Nat), .int .i64 ((l.length : Int) - 1), .int .i64 ((l.length : Int) + 1), .int .i64 ((l.length : Int) + 1), .int .i64 0, .int .i64 9223372036854775807, .int .i64 9223372036854775807, .int .i64 (-9223372036854775808)] 69 (0, 0)) := by rw [hw12]; exact heap_alloc_new _ _
  have HE := hidIt hE
  go_upto_block 8 with fail
  rw [← hw12]
  generalize w11.heap.size = eb at *
  clear hw12 hb12 hE q1 WD HB11 HX10 BX10 HO10
  go_cut [] from 197 to 229 (fun wF => Hid (Below w12.heap.size w12 wF))
  case first =>
    go_wp2_with fail
    go_loopg [30] 7 (fun gk p wr => ∃ i : Nat, i + gk = 7 ∧ p = .int .i64 (i : Nat) ∧ Hid (Below w12.heap.size w12 wr))
    case atStart => exact ⟨0, rfl, rfl, Below.refl _ _⟩
    case round =>
      obtain ⟨g, hig, rfl, HB⟩ := hrel
      by_cases hi : g < 7
      · have hi' : (g : Int) < 7 := by omega
        have hen := en_bad l.length g hlb hi
        obtain ⟨k1, k2⟩ := en_cell w12 eb l.length 69 HE.out g hi
        have hel : eb < w12.heap.size := (Array.getElem?_eq_some_iff.1 HE.out).1
        have HQ : Hid (∀ w', Below wr.heap.size wr w' → w'.cell? ⟨t0, 0, none⟩ = some (.pointer u) ∧ w'.cell? ⟨eb, g * 2, none⟩ = some (.int .i64 (en l.length g).1) ∧ w'.cell? ⟨eb, g * 2 + 1, none⟩ = some (.int .i64 (en l.length g).2)) := fun w' hb =>
          ⟨(HT3.out w' (ext_trans HX12.out (ext_trans HB.out hb))).2, ((ext_trans HB.out hb).cell (p := ⟨eb, g * 2, none⟩) hel).trans k1, ((ext_trans HB.out hb).cell (p := ⟨eb, g * 2 + 1, none⟩) hel).trans k2⟩
        have RP : Hid (∀ w', Below wr.heap.size wr w' → Calls Try.prog 33 #[.agg #[.pointer u], .int .i64 (en l.length g).1, .int .i64 (en l.length g).2, .slice ap ys.length cp] w' fun e w'' => e = .returned (.tuple #[.agg #[.pointer none], .int .i64 1]) ∧ Below w'.heap.size w' w'') := fun w' hb => BD.out _ _ _ ys w' (ext_trans HX12.out (ext_trans HB.out hb)) (RL.out w' (ext_trans HB3.out (ext_trans HX12.out (ext_trans HB.out hb)))).2 hen
        clear k1 k2 hen hel
        generalize (en l.length g).1 = e1 at *
        generalize (en l.length g).2 = e2 at *
        obtain ⟨c0, c1, c2⟩ := HQ.out wr (Below.refl _ _)
        go_upto_region 38 with fail
        go_cut [31, 32] from 203 to 219 (fun p e wF => ∃ tb : Nat, p = .pointer (some ⟨tb, 0, none⟩) ∧ e = .int .i64 1 ∧ Hid (wF.heap[tb]? = some (.cells #[.pointer none] 62 (0, 0)) ∧ Below wr.heap.size wr wF))
        case first =>
          go_region_held3 (fun w' => w'.cell? ⟨t0, 0, none⟩ = some (.pointer u) ∧ w'.cell? ⟨eb, g * 2, none⟩ = some (.int .i64 e1) ∧ w'.cell? ⟨eb, g * 2 + 1, none⟩ = some (.int .i64 e2)) (first | exact HQ.out _ (by repeat (first | exact HC1.out | exact Below.refl _ _ | apply Below.drew | refine ext_alloc ?_ _ | refine Below.setCell ?_ (by first | exact Nat.le_refl _ | exact HC1.out.size) _)) | go_keep) (
            (go_at_call 33; refine (RP.out _ (by repeat (first | exact HC1.out | exact Below.refl _ _ | apply Below.drew | refine ext_alloc ?_ _ | refine Below.setCell ?_ (by first | exact Nat.le_refl _ | exact HC1.out.size) _))).mono ?_; clear c0 c1 c2; rintro e w1 ⟨rfl, hb1⟩; have HW1 := hidIt hb1; (first | (have hzC : wr.heap.size < w1.heap.size := (by have := hb1.size; simp at this; omega); have HT := hidIt (show w1.heap[wr.heap.size]? = some (.cells #[.pointer none] 62 (0, 0)) from (by rw [HW1.out.block _ (by simp)]; exact heap_alloc_new _ _)); have t0' : w1.cell? ⟨wr.heap.size, 0, none⟩ = some (.pointer none) := (by rw [cell_of_row _ _ 0 _ _ _ HT.out]; rfl); have tf : ∀ i, w1.frozen? ⟨wr.heap.size, i, none⟩ = false := (fun i => by simp [World.frozen?, HT.out])) | skip); have HC1 : Hid (Below wr.heap.size wr w1) := ext_trans (by repeat (first | exact HC1.out | exact Below.refl _ _ | apply Below.drew | refine ext_alloc ?_ _ | refine Below.setCell ?_ (by first | exact Nat.le_refl _ | exact HC1.out.size) _)) hb1; obtain ⟨c0, c1, c2⟩ := HQ.out w1 HC1.out; clear hb1))
          all_goals
            go_wp2_with fail
            go_meet
            case rel =>
              first
                | (obtain ⟨p1, p2⟩ := set1 HT.out 0 (.pointer none); exact ⟨_, rfl, rfl, p1, below_put HC1.out HC1.out.size p2 (Nat.le_refl _)⟩)
                | exact ⟨_, rfl, rfl, heap_alloc_new _ _, ext_alloc HC1.out _⟩
        obtain ⟨tb, rfl, rfl, HXX⟩ := hcut
        generalize hWA : wc = wa at *
        clear hWA c0 c1 c2 RP HQ
        have x0 : wa.cell? ⟨tb, 0, none⟩ = some (.pointer none) := by rw [cell_of_row _ _ 0 _ _ _ HXX.out.1]; rfl
        have HBA := hidIt (ext_trans HB.out HXX.out.2)
        clear HXX
        go_wp2_with (first
          | (go_at_call 28; refine (num_any _ wa).mono ?_; rintro e wn ⟨rfl, hwn⟩; obtain rfl : wa = wn := hwn.symm)
          | (go_at_call 35; refine (Size_any none [] wa (TT.nil wa)).mono ?_; clear x0; rintro e wz ⟨rfl, hbz⟩; have HBZ := hidIt (ext_trans HBA.out hbz); clear hbz))
        go_roundg (6 - g)
        case rel => exact ⟨g + 1, by omega, by go_num, HBZ.out⟩
        case measure => omega
      · have hi' : ¬ (g : Int) < 7 := by omega
        go_wp2_with fail
        go_meet
        case rel => exact HB.out
  have HB13 := hidIt hcut.out
  generalize hwd : wc = wd at *
  clear hwd hcut
  have WY : Hid (∀ (k' : Int) (w' : World), Below w12.heap.size w12 w' → Calls Try.prog 34 #[.agg #[.pointer u], .slice (some ⟨gl, 0, none⟩) l.length cl, .int .i64 k', .int .i64 n] w' fun e w'' => e = .returned (.bool true) ∧ Below w'.heap.size w' w'') := fun k' w' hb => wordy_any w' u l (some ⟨gl, 0, none⟩) cl k' n (HT3.out w' (ext_trans HX12.out hb)).1 (RL.out w' (ext_trans HB3.out (ext_trans HX12.out hb))).1 (by omega) (by have := HWT.out; omega)
  have HQ0 : Hid (∀ w', Below w12.heap.size w12 w' → w'.cell? ⟨t0, 0, none⟩ = some (.pointer u)) := fun w' hb => (HT3.out w' (ext_trans HX12.out hb)).2
  clear BD HE
  go_upto_block 10 with fail
  go_cut [] from 227 to 237 (fun wF => Hid (Below w12.heap.size w12 wF))
  case first =>
    go_wp2_with fail
    go_loopg [33] 15 (fun gk p wr => ∃ g : Nat, g + gk = 15 ∧ p = .int .i64 ((g : Int) - 2) ∧ Hid (Below w12.heap.size w12 wr))
    case atStart => exact ⟨0, rfl, rfl, HB13.out⟩
    case round =>
      obtain ⟨g, hig, rfl, HB⟩ := hrel
      by_cases hi : g < 15
      · have hi' : (g : Int) - 2 < 13 := by omega
        have hg0 : (0 : Int) ≤ (g : Int) := by omega
        have q0 := HQ0.out wr HB.out
        have WG := hidIt (WY.out ((g : Int) - 2) wr HB.out)
        go_wp2_with (go_at_call 34; refine WG.out.mono ?_; clear q0; rintro e wz ⟨rfl, hbz⟩; have HBZ := hidIt (ext_trans HB.out hbz); clear hbz)
        go_roundg (14 - g)
        case rel => exact ⟨g + 1, by omega, by go_num, HBZ.out⟩
        case measure => omega
      · have hi' : ¬ (g : Int) - 2 < 13 := by omega
        go_wp2_with fail
        go_meet
        case rel => exact HB.out
  have HBE := hidIt hcut.out
  generalize hwe : wc = we at *
  clear hwe hcut HB13
  have q0 := HQ0.out we HBE.out
  have WA := hidIt (WY.out k we HBE.out)
  go_wp2_with fail
  refine WA.out.mono ?_
  clear q0
  rintro e wf ⟨rfl, hbf⟩
  have HBF := hidIt (ext_trans HBE.out hbf)
  clear hbf
  have q0 := HQ0.out wf HBF.out
  have WB := hidIt (WY.out 1099511627776 wf HBF.out)
  go_wp2_with fail
  refine WB.out.mono ?_
  clear q0
  rintro e wg ⟨rfl, hbg⟩
  have HBG := hidIt (ext_trans HBF.out hbg)
  clear hbg
  go_wp2_with fail
  go_ret
  exact ⟨rfl, ext_trans BW.out (ext_trans HB3.out (ext_trans HX12.out HBG.out))⟩
end Go.Proofs.Ytcdamhgblolofaa.W
