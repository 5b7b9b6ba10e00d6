/- The last atom of bytes: the code's narrow.last, latin.last. -/
import Derived.Test.YtbfbaknfeleddaaDecode
namespace Go.Proofs.Ytbfbaknfeleddaa
open Go.RowKit

def Cx.tl (zs : List Int) (s : Nat) : List Int := zs.drop (zs.length - s)
def Cx.lh (zs : List Int) (s : Nat) : Bool := decide (s ≤ zs.length) && decide (Cx.mtch (Cx.tl zs s) = s)
def Cx.lb (zs : List Int) : Int := zs[zs.length - 1]?.getD 0
def Cx.lst8 (zs : List Int) : Int × Int :=
  if Cx.lh zs 1 = true then (Cx.val (Cx.tl zs 1), 1) else if Cx.lh zs 2 = true then (Cx.val (Cx.tl zs 2), 2)
  else if Cx.lh zs 3 = true then (Cx.val (Cx.tl zs 3), 3) else if Cx.lh zs 4 = true then (Cx.val (Cx.tl zs 4), 4) else (-1 - Cx.lb zs, 1)

theorem Cx.lst8_hit (zs : List Int) (k : Nat) (h1 : 1 ≤ k) (h4 : k ≤ 4) (hh : Cx.lh zs k = true) (hn : ∀ j, 1 ≤ j → j < k → Cx.lh zs j = false) : Cx.lst8 zs = (Cx.val (Cx.tl zs k), (k : Int)) := by
  have e : k = 1 ∨ k = 2 ∨ k = 3 ∨ k = 4 := by omega
  unfold Cx.lst8
  rcases e with rfl | rfl | rfl | rfl
  · rw [if_pos hh]; rfl
  · rw [if_neg (by rw [hn 1 (by omega) (by omega)]; simp), if_pos hh]; rfl
  · rw [if_neg (by rw [hn 1 (by omega) (by omega)]; simp), if_neg (by rw [hn 2 (by omega) (by omega)]; simp), if_pos hh]; rfl
  · rw [if_neg (by rw [hn 1 (by omega) (by omega)]; simp), if_neg (by rw [hn 2 (by omega) (by omega)]; simp), if_neg (by rw [hn 3 (by omega) (by omega)]; simp), if_pos hh]; rfl
theorem Cx.lst8_none (zs : List Int) (hn : ∀ j, 1 ≤ j → j ≤ 4 → Cx.lh zs j = false) : Cx.lst8 zs = (-1 - Cx.lb zs, 1) := by
  unfold Cx.lst8
  rw [if_neg (by rw [hn 1 (by omega) (by omega)]; simp), if_neg (by rw [hn 2 (by omega) (by omega)]; simp), if_neg (by rw [hn 3 (by omega) (by omega)]; simp), if_neg (by rw [hn 4 (by omega) (by omega)]; simp)]
theorem Cx.lh_long (zs : List Int) (j : Nat) (h : zs.length < j) : Cx.lh zs j = false := by unfold Cx.lh; rw [decide_eq_false (by omega)]; rfl

theorem Cx.tl_len (zs : List Int) (s : Nat) (h : s ≤ zs.length) : (Cx.tl zs s).length = s := by unfold Cx.tl; rw [List.length_drop]; omega

set_option maxRecDepth 100000 in
set_option maxHeartbeats 1000000 in
theorem last8_any (v : Value) (zs : List Int) (w : World) (h : Rd .u8 w v zs) (hb : Byt zs) (hn : zs ≠ []) :
    Calls Try.prog 114 #[.agg #[], v] w fun e w' => e = .returned (.tuple #[.int .i64 (Cx.lst8 zs).1, .int .i64 (Cx.lst8 zs).2]) ∧ Below w.heap.size w w' := by
  have HR : Hid (Rd .u8 w v zs) := h
  have HB : Hid (Byt zs) := hb
  have hlen := h.len
  have hbl' := hb.at (zs.length - 1)
  change 0 ≤ Cx.lb zs ∧ Cx.lb zs ≤ 255 at hbl'
  obtain ⟨ao, cap, rfl, hl, hm, hc⟩ := h
  obtain ⟨b, off, rfl, hbl, hc⟩ := hc hn
  have hpos : 0 < zs.length := List.length_pos_iff.2 hn
  have hlast := hc (zs.length - 1) (by omega)
  change w.cell? ⟨b, off + (zs.length - 1), none⟩ = some (.int .u8 (Cx.lb zs)) at hlast
  have HH : Hid (∀ k : Nat, 1 ≤ k → k ≤ 4 → Cx.lh zs k = true → (∀ j, 1 ≤ j → j < k → Cx.lh zs j = false) → Cx.lst8 zs = (Cx.val (Cx.tl zs k), (k : Int))) := Cx.lst8_hit zs
  have HN : Hid ((∀ j, 1 ≤ j → j ≤ 4 → Cx.lh zs j = false) → Cx.lst8 zs = (-1 - Cx.lb zs, 1)) := Cx.lst8_none zs
  clear hn hc hm hb
  go_enter Try.func114, Try.ntmps114
  go_wp2_with fail
  go_loopw [6] (fun i wr => ∃ k : Nat, 1 ≤ k ∧ k ≤ 5 ∧ i = .int .i64 k ∧ Hid (∀ j, 1 ≤ j → j < k → Cx.lh zs j = false) ∧ Below w.heap.size w wr) (fun i _ => 5 - (intOf i).toNat)
  case atStart => exact ⟨1, Nat.le_refl _, by omega, rfl, fun j h1 h2 => by omega, (Below.refl _ _).alloc (Nat.le_refl _) _⟩
  case round =>
    obtain ⟨k, hk1, hk2, rfl, HJ, hbw⟩ := hrel
    have HBW : Hid (Below w.heap.size w wr) := hbw
    by_cases hin : k ≤ 4 ∧ k ≤ zs.length
    · obtain ⟨hin1, hin2⟩ := hin
      have HT : Hid (Rd .u8 w (.slice (some ⟨b, off + (zs.length - k), none⟩) k (cap - (zs.length - k))) (Cx.tl zs k)) := by
        have := HR.out.cut (n := zs.length - k) (by omega)
        rwa [show zs.length - (zs.length - k) = k from by omega] at this
      have HTB : Hid (Byt (Cx.tl zs k)) := HB.out.drop _
      have HTN : Hid (Cx.tl zs k ≠ []) := List.length_pos_iff.1 (by rw [Cx.tl_len zs k hin2]; omega)
      have HK : Hid (Cx.lh zs k = false → ∀ j, 1 ≤ j → j < k + 1 → Cx.lh zs j = false) := fun hh j h1 h2 => by
        by_cases hj : j = k
        · rw [hj]; exact hh
        · exact HJ.out j h1 (by omega)
      have HE : Hid (Cx.lh zs k = decide (Cx.mtch (Cx.tl zs k) = k)) := by unfold Hid Cx.lh; rw [decide_eq_true hin2, Bool.true_and]
      have HF : Hid (Cx.lh zs k = true → Cx.lst8 zs = (Cx.val (Cx.tl zs k), (k : Int))) := fun hh => HH.out k hk1 hin1 hh HJ.out
      have hcne : ¬ cap = zs.length - k := by omega
      have hlk : zs.length - (zs.length - k) = k := by omega
      have HWH : Hid (Cx.mtch (Cx.tl zs k) = k → Cx.Whole (Cx.tl zs k)) := fun hm => by
        have := Cx.whole_of (Cx.tl zs k) HTB.out (by omega) (by rw [Cx.tl_len zs k hin2]; omega)
        rwa [hm, Int.toNat_natCast, List.take_of_length_le (by rw [Cx.tl_len zs k hin2]; exact Nat.le_refl _)] at this
      clear HH HN HJ hbw hlast
      go_wp2_with fail
      refine (match_any _ (Cx.tl zs k) _ (HT.out.ext HBW.out) HTB.out HTN.out).mono ?_
      rintro e w1 ⟨rfl, hw1⟩
      subst hw1
      by_cases hm : Cx.mtch (Cx.tl zs k) = k
      · have hq : (Cx.mtch (Cx.tl zs k) == (k : Int)) = true := by rw [hm]; simp
        have HL : Hid (Cx.lst8 zs = (Cx.val (Cx.tl zs k), (k : Int))) := HF.out (by rw [HE.out, decide_eq_true hm])
        have HW : Hid (Cx.Whole (Cx.tl zs k)) := HWH.out hm
        clear HK HF HE HWH hm
        go_wp2_with fail
        refine (scalar_any _ _ _ (HT.out.ext HBW.out) HW.out).mono ?_
        rintro e w2 ⟨rfl, hb2⟩
        go_wp2
        go_ret2
        exact ⟨by rw [HL.out]; rfl, ext_trans HBW.out hb2⟩
      · have hq : (Cx.mtch (Cx.tl zs k) == (k : Int)) = false := by rw [beq_eq_false_iff_ne]; exact hm
        have HX : Hid (∀ j, 1 ≤ j → j < k + 1 → Cx.lh zs j = false) := HK.out (by rw [HE.out, decide_eq_false hm])
        clear HK HF HE HWH hm
        go_wp2_with fail
        go_roundw
        case rel => exact ⟨k + 1, by omega, by omega, by go_num, HX.out, HBW.out⟩
        case measure => simp [intOf]; omega
    · have HL : Hid (Cx.lst8 zs = (-1 - Cx.lb zs, 1)) := HN.out fun j h1 h4 => by
        by_cases hj : j < k
        · exact HJ.out j h1 hj
        · exact Cx.lh_long zs j (by omega)
      have hcx : wr.cell? ⟨b, off + (zs.length - 1), none⟩ = some (.int .u8 (Cx.lb zs)) := (hbw.cell (p := ⟨b, off + (zs.length - 1), none⟩) hbl).trans hlast
      clear HH HN HJ hbw hlast
      by_cases hin1 : k ≤ 4
      · have hin2 : zs.length < k := by omega
        clear hin
        go_wp2_with fail
        refine (rawAtom_any _ _ hbl'.1 hbl'.2).mono ?_
        rintro e w1 ⟨rfl, hw1⟩
        subst hw1
        go_wp2
        go_ret2
        exact ⟨by rw [HL.out]; rfl, HBW.out⟩
      · clear hin
        go_wp2_with fail
        refine (rawAtom_any _ _ hbl'.1 hbl'.2).mono ?_
        rintro e w1 ⟨rfl, hw1⟩
        subst hw1
        go_wp2
        go_ret2
        exact ⟨by rw [HL.out]; rfl, HBW.out⟩

theorem last4_any (v : Value) (zs : List Int) (w : World) (h : Rd .u8 w v zs) (hb : Byt zs) (hn : zs ≠ []) :
    Calls Try.prog 136 #[.agg #[], v] w fun e w' => e = .returned (.tuple #[.int .i64 (Cx.lb zs), .int .i64 1]) ∧ Below w.heap.size w w' := by
  have hlen := h.len
  have hbl' := hb.at (zs.length - 1)
  change 0 ≤ Cx.lb zs ∧ Cx.lb zs ≤ 255 at hbl'
  obtain ⟨ao, cap, rfl, hl, hm, hc⟩ := h
  obtain ⟨b, off, rfl, hbl, hc⟩ := hc hn
  have hpos : 0 < zs.length := List.length_pos_iff.2 hn
  have hlast := hc (zs.length - 1) (by omega)
  change w.cell? ⟨b, off + (zs.length - 1), none⟩ = some (.int .u8 (Cx.lb zs)) at hlast
  have hlast' : ∀ o : Obj, (w.alloc o).cell? ⟨b, off + (zs.length - 1), none⟩ = some (.int .u8 (Cx.lb zs)) := fun o => ((Below.refl w.heap.size w).alloc (Nat.le_refl _) o |>.cell (p := ⟨b, off + (zs.length - 1), none⟩) hbl).trans hlast
  clear hn hc hm hb hlast
  go_enter Try.func136, Try.ntmps136
  go_wp2
  go_ret2
  exact ⟨rfl, (Below.refl _ _).alloc (Nat.le_refl _) _⟩
end Go.Proofs.Ytbfbaknfeleddaa
