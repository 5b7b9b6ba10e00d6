import Derived.Test.YtbmelpjmpomfcaaGreatJ01
import Derived.Deep.LoopGhost
import Derived.Deep.CutRange
import Derived.Deep.CutBlock
import Derived.RangeFuncNested
import Derived.RangeFuncBound
namespace Go.Proofs.YtbmelpjmpomfcaaGreat
open Go.RowKit

def Cx.tl (zs : List Int) (s : Nat) : List Int := zs.drop (zs.length - s)
def Cx.lh (zs : List Int) (s : Nat) : Bool := decide (s ≤ zs.length) && decide (Cx.mtch (Cx.tl zs s) = s)
def Cx.lb (zs : List Int) : Int := zs[zs.length - 1]?.getD 0
def Cx.lst8 (zs : List Int) : Int × Int :=
  if Cx.lh zs 1 = true then (Cx.val (Cx.tl zs 1), 1) else if Cx.lh zs 2 = true then (Cx.val (Cx.tl zs 2), 2)
  else if Cx.lh zs 3 = true then (Cx.val (Cx.tl zs 3), 3) else if Cx.lh zs 4 = true then (Cx.val (Cx.tl zs 4), 4) else (-1 - Cx.lb zs, 1)

theorem Cx.lst8_hit (zs : List Int) (k : Nat) (h1 : 1 ≤ k) (h4 : k ≤ 4) (hh : Cx.lh zs k = true) (hn : ∀ j, 1 ≤ j → j < k → Cx.lh zs j = false) : Cx.lst8 zs = (Cx.val (Cx.tl zs k), (k : Int)) := by
  have e : k = 1 ∨ k = 2 ∨ k = 3 ∨ k = 4 := by omega
  unfold Cx.lst8
  rcases e with rfl | rfl | rfl | rfl
  · rw [if_pos hh]; rfl
  · rw [if_neg (by rw [hn 1 (by omega) (by omega)]; simp), if_pos hh]; rfl
  · rw [if_neg (by rw [hn 1 (by omega) (by omega)]; simp), if_neg (by rw [hn 2 (by omega) (by omega)]; simp), if_pos hh]; rfl
  · rw [if_neg (by rw [hn 1 (by omega) (by omega)]; simp), if_neg (by rw [hn 2 (by omega) (by omega)]; simp), if_neg (by rw [hn 3 (by omega) (by omega)]; simp), if_pos hh]; rfl
theorem Cx.lst8_none (zs : List Int) (hn : ∀ j, 1 ≤ j → j ≤ 4 → Cx.lh zs j = false) : Cx.lst8 zs = (-1 - Cx.lb zs, 1) := by
  unfold Cx.lst8
  rw [if_neg (by rw [hn 1 (by omega) (by omega)]; simp), if_neg (by rw [hn 2 (by omega) (by omega)]; simp), if_neg (by rw [hn 3 (by omega) (by omega)]; simp), if_neg (by rw [hn 4 (by omega) (by omega)]; simp)]
theorem Cx.lh_long (zs : List Int) (j : Nat) (h : zs.length < j) : Cx.lh zs j = false := by unfold Cx.lh; rw [decide_eq_false (by omega)]; rfl

theorem Cx.tl_len (zs : List Int) (s : Nat) (h : s ≤ zs.length) : (Cx.tl zs s).length = s := by unfold Cx.tl; rw [List.length_drop]; omega

set_option maxRecDepth 100000 in
set_option maxHeartbeats 1000000 in
theorem last8_any (v : Value) (zs : List Int) (w : World) (h : Rd .u8 w v zs) (hb : Byt zs) (hn : zs ≠ []) :
    Calls Tryz.prog 173 #[.agg #[], v] w fun e w' => e = .returned (.tuple #[.int .i64 (Cx.lst8 zs).1, .int .i64 (Cx.lst8 zs).2]) ∧ Below w.heap.size w w' := by
  have HR : Hid (Rd .u8 w v zs) := h
  have HB : Hid (Byt zs) := hb
  have hlen := h.len
  have hbl' := hb.at (zs.length - 1)
  change 0 ≤ Cx.lb zs ∧ Cx.lb zs ≤ 255 at hbl'
  obtain ⟨ao, cap, rfl, hl, hm, hc⟩ := h
  obtain ⟨b, off, rfl, hbl, hc⟩ := hc hn
  have hpos : 0 < zs.length := List.length_pos_iff.2 hn
  have hlast := hc (zs.length - 1) (by omega)
  change w.cell? ⟨b, off + (zs.length - 1), none⟩ = some (.int .u8 (Cx.lb zs)) at hlast
  have HH : Hid (∀ k : Nat, 1 ≤ k → k ≤ 4 → Cx.lh zs k = true → (∀ j, 1 ≤ j → j < k → Cx.lh zs j = false) → Cx.lst8 zs = (Cx.val (Cx.tl zs k), (k : Int))) := Cx.lst8_hit zs
  have HN : Hid ((∀ j, 1 ≤ j → j ≤ 4 → Cx.lh zs j = false) → Cx.lst8 zs = (-1 - Cx.lb zs, 1)) := Cx.lst8_none zs
  clear hn hc hm hb
  go_enter Tryz.func173, Tryz.ntmps173
  go_wp2_with fail
  go_loopw [6] (fun i wr => ∃ k : Nat, 1 ≤ k ∧ k ≤ 5 ∧ i = .int .i64 k ∧ Hid (∀ j, 1 ≤ j → j < k → Cx.lh zs j = false) ∧ Below w.heap.size w wr) (fun i _ => 5 - (intOf i).toNat)
  case atStart => exact ⟨1, Nat.le_refl _, by omega, rfl, fun j h1 h2 => by omega, (Below.refl _ _).alloc (Nat.le_refl _) _⟩
  case round =>
    obtain ⟨k, hk1, hk2, rfl, HJ, hbw⟩ := hrel
    have HBW : Hid (Below w.heap.size w wr) := hbw
    by_cases hin : k ≤ 4 ∧ k ≤ zs.length
    · obtain ⟨hin1, hin2⟩ := hin
      have HT : Hid (Rd .u8 w (.slice (some ⟨b, off + (zs.length - k), none⟩) k (cap - (zs.length - k))) (Cx.tl zs k)) := by
        have := HR.out.cut (n := zs.length - k) (by omega)
        rwa [show zs.length - (zs.length - k) = k from by omega] at this
      have HTB : Hid (Byt (Cx.tl zs k)) := HB.out.drop _
      have HTN : Hid (Cx.tl zs k ≠ []) := List.length_pos_iff.1 (by rw [Cx.tl_len zs k hin2]; omega)
      have HK : Hid (Cx.lh zs k = false → ∀ j, 1 ≤ j → j < k + 1 → Cx.lh zs j = false) := fun hh j h1 h2 => by
        by_cases hj : j = k
        · rw [hj]; exact hh
        · exact HJ.out j h1 (by omega)
      have HE : Hid (Cx.lh zs k = decide (Cx.mtch (Cx.tl zs k) = k)) := by unfold Hid Cx.lh; rw [decide_eq_true hin2, Bool.true_and]
      have HF : Hid (Cx.lh zs k = true → Cx.lst8 zs = (Cx.val (Cx.tl zs k), (k : Int))) := fun hh => HH.out k hk1 hin1 hh HJ.out
      have hcne : ¬ cap = zs.length - k := by omega
      have hlk : zs.length - (zs.length - k) = k := by omega
      have HWH : Hid (Cx.mtch (Cx.tl zs k) = k → Cx.Whole (Cx.tl zs k)) := fun hm => by
        have := Cx.whole_of (Cx.tl zs k) HTB.out (by omega) (by rw [Cx.tl_len zs k hin2]; omega)
        rwa [hm, Int.toNat_natCast, List.take_of_length_le (by rw [Cx.tl_len zs k hin2]; exact Nat.le_refl _)] at this
      clear HH HN HJ hbw hlast
      go_wp2_with fail
      refine (match_any _ (Cx.tl zs k) _ (HT.out.ext HBW.out) HTB.out HTN.out).mono ?_
      rintro e w1 ⟨rfl, hw1⟩
      subst hw1
      by_cases hm : Cx.mtch (Cx.tl zs k) = k
      · have hq : (Cx.mtch (Cx.tl zs k) == (k : Int)) = true := by rw [hm]; simp
        have HL : Hid (Cx.lst8 zs = (Cx.val (Cx.tl zs k), (k : Int))) := HF.out (by rw [HE.out, decide_eq_true hm])
        have HW : Hid (Cx.Whole (Cx.tl zs k)) := HWH.out hm
        clear HK HF HE HWH hm
        go_wp2_with fail
        refine (scalar_any _ _ _ (HT.out.ext HBW.out) HW.out).mono ?_
        rintro e w2 ⟨rfl, hb2⟩
        go_wp2
        go_ret2
        exact ⟨by rw [HL.out]; rfl, ext_trans HBW.out hb2⟩
      · have hq : (Cx.mtch (Cx.tl zs k) == (k : Int)) = false := by rw [beq_eq_false_iff_ne]; exact hm
        have HX : Hid (∀ j, 1 ≤ j → j < k + 1 → Cx.lh zs j = false) := HK.out (by rw [HE.out, decide_eq_false hm])
        clear HK HF HE HWH hm
        go_wp2_with fail
        go_roundw
        case rel => exact ⟨k + 1, by omega, by omega, by go_num, HX.out, HBW.out⟩
        case measure => simp [intOf]; omega
    · have HL : Hid (Cx.lst8 zs = (-1 - Cx.lb zs, 1)) := HN.out fun j h1 h4 => by
        by_cases hj : j < k
        · exact HJ.out j h1 hj
        · exact Cx.lh_long zs j (by omega)
      have hcx : wr.cell? ⟨b, off + (zs.length - 1), none⟩ = some (.int .u8 (Cx.lb zs)) := (hbw.cell (p := ⟨b, off + (zs.length - 1), none⟩) hbl).trans hlast
      clear HH HN HJ hbw hlast
      by_cases hin1 : k ≤ 4
      · have hin2 : zs.length < k := by omega
        clear hin
        go_wp2_with fail
        refine (rawAtom_any _ _ hbl'.1 hbl'.2).mono ?_
        rintro e w1 ⟨rfl, hw1⟩
        subst hw1
        go_wp2
        go_ret2
        exact ⟨by rw [HL.out]; rfl, HBW.out⟩
      · clear hin
        go_wp2_with fail
        refine (rawAtom_any _ _ hbl'.1 hbl'.2).mono ?_
        rintro e w1 ⟨rfl, hw1⟩
        subst hw1
        go_wp2
        go_ret2
        exact ⟨by rw [HL.out]; rfl, HBW.out⟩

theorem last4_any (v : Value) (zs : List Int) (w : World) (h : Rd .u8 w v zs) (hb : Byt zs) (hn : zs ≠ []) :
    Calls Tryz.prog 200 #[.agg #[], v] w fun e w' => e = .returned (.tuple #[.int .i64 (Cx.lb zs), .int .i64 1]) ∧ Below w.heap.size w w' := by
  have hlen := h.len
  have hbl' := hb.at (zs.length - 1)
  change 0 ≤ Cx.lb zs ∧ Cx.lb zs ≤ 255 at hbl'
  obtain ⟨ao, cap, rfl, hl, hm, hc⟩ := h
  obtain ⟨b, off, rfl, hbl, hc⟩ := hc hn
  have hpos : 0 < zs.length := List.length_pos_iff.2 hn
  have hlast := hc (zs.length - 1) (by omega)
  change w.cell? ⟨b, off + (zs.length - 1), none⟩ = some (.int .u8 (Cx.lb zs)) at hlast
  have hlast' : ∀ o : Obj, (w.alloc o).cell? ⟨b, off + (zs.length - 1), none⟩ = some (.int .u8 (Cx.lb zs)) := fun o => ((Below.refl w.heap.size w).alloc (Nat.le_refl _) o |>.cell (p := ⟨b, off + (zs.length - 1), none⟩) hbl).trans hlast
  clear hn hc hm hb hlast
  go_enter Tryz.func200, Tryz.ntmps200
  go_wp2
  go_ret2
  exact ⟨rfl, (Below.refl _ _).alloc (Nat.le_refl _) _⟩
end Go.Proofs.YtbmelpjmpomfcaaGreat

namespace Go.Proofs.YtbmelpjmpomfcaaGreat
open Go.RowKit

def Cx.lst16 (k : Int) (zs : List Int) : Int × Int :=
  if zs.length % 2 = 1 then (-1 - Cx.lb zs, 1) else if 4 ≤ zs.length ∧ Cx.isP k (Cx.tl zs 4) = true then (Cx.pairV k (Cx.tl zs 4), 4) else (Cx.wv k (Cx.tl zs 2), 2)

theorem Rd.tail {w : World} {b off cap : Nat} {zs : List Int} (h : Rd .u8 w (.slice (some ⟨b, off, none⟩) zs.length cap) zs) (s : Nat) (hs : s ≤ zs.length) : Rd .u8 w (.slice (some ⟨b, off + (zs.length - s), none⟩) s (cap - (zs.length - s))) (Cx.tl zs s) := by
  have := h.cut (n := zs.length - s) (by omega)
  rwa [show zs.length - (zs.length - s) = s from by omega] at this

set_option maxRecDepth 100000 in
set_option maxHeartbeats 1000000 in
theorem last16_any (k : Int) (v : Value) (zs : List Int) (w : World) (h : Rd .u8 w v zs) (hb : Byt zs) (hk : k = 0 ∨ k = 1) (hn : zs ≠ []) :
    Calls Tryz.prog 188 #[.agg #[.int .i64 k], v] w fun e w' => e = .returned (.tuple #[.int .i64 (Cx.lst16 k zs).1, .int .i64 (Cx.lst16 k zs).2]) ∧ Below w.heap.size w w' := by
  have HR : Hid (Rd .u8 w v zs) := h
  have HB : Hid (Byt zs) := hb
  have HK : Hid (k = 0 ∨ k = 1) := hk
  have hlen := h.len
  have hbl' := hb.at (zs.length - 1)
  change 0 ≤ Cx.lb zs ∧ Cx.lb zs ≤ 255 at hbl'
  obtain ⟨ao, cap, rfl, hl, hm, hc⟩ := h
  obtain ⟨b, off, rfl, hbl, hc⟩ := hc hn
  have hpos : 0 < zs.length := List.length_pos_iff.2 hn
  have hlast := hc (zs.length - 1) (by omega)
  change w.cell? ⟨b, off + (zs.length - 1), none⟩ = some (.int .u8 (Cx.lb zs)) at hlast
  clear hn hc hm hb hk
  by_cases ho : zs.length % 2 = 1
  · have HE : Hid (Cx.lst16 k zs = (-1 - Cx.lb zs, 1)) := by unfold Hid Cx.lst16; rw [if_pos ho]
    have hq : ((zs.length : Int) % 2 == 1) = true := by rw [beq_iff_eq]; omega
    have hlast' : ∀ o : Obj, (w.alloc o).cell? ⟨b, off + (zs.length - 1), none⟩ = some (.int .u8 (Cx.lb zs)) := fun o => ((Below.refl w.heap.size w).alloc (Nat.le_refl _) o |>.cell (p := ⟨b, off + (zs.length - 1), none⟩) hbl).trans hlast
    clear ho hlast
    go_enter Tryz.func188, Tryz.ntmps188
    go_wp2_with fail
    refine (rawAtom_any _ _ hbl'.1 hbl'.2).mono ?_
    rintro e w1 ⟨rfl, hw1⟩
    subst hw1
    go_wp2
    go_ret2
    exact ⟨by rw [HE.out]; rfl, (Below.refl _ _).alloc (Nat.le_refl _) _⟩
  · have hq : ((zs.length : Int) % 2 == 1) = false := by rw [beq_eq_false_iff_ne]; omega
    have h2 : 2 ≤ zs.length := by omega
    have HT2 : Hid (Rd .u8 w (.slice (some ⟨b, off + (zs.length - 2), none⟩) 2 (cap - (zs.length - 2))) (Cx.tl zs 2)) := HR.out.tail 2 h2
    have HL2 : Hid ((Cx.tl zs 2).length = 2) := Cx.tl_len zs 2 h2
    have hc2 : ¬ cap = zs.length - 2 := by omega
    have hl2 : zs.length - (zs.length - 2) = 2 := by omega
    have ht2 : ((zs.length : Int) - 2).toNat = zs.length - 2 := by omega
    have hi2 : (0 : Int) ≤ (zs.length : Int) - 2 := by omega
    have hj2 : (2 : Int) ≤ (zs.length : Int) := by omega
    have hw2 : IntKind.i64.wrap ((zs.length : Int) - 2) = (zs.length : Int) - 2 := by rw [IntKind.wrap_i64]; omega
    have hi2' : (zs.length : Int) - 2 ≤ (zs.length : Int) := by omega
    clear hlast hbl'
    by_cases h4 : 4 ≤ zs.length
    · have hd4 : decide ((4 : Int) ≤ (zs.length : Int)) = true := by simp; omega
      have HT4 : Hid (Rd .u8 w (.slice (some ⟨b, off + (zs.length - 4), none⟩) 4 (cap - (zs.length - 4))) (Cx.tl zs 4)) := HR.out.tail 4 h4
      have HL4 : Hid ((Cx.tl zs 4).length = 4) := Cx.tl_len zs 4 h4
      have hc4 : ¬ cap = zs.length - 4 := by omega
      have hl4 : zs.length - (zs.length - 4) = 4 := by omega
      have ht4 : ((zs.length : Int) - 4).toNat = zs.length - 4 := by omega
      have hi4 : (0 : Int) ≤ (zs.length : Int) - 4 := by omega
      have hj4 : (4 : Int) ≤ (zs.length : Int) := by omega
      have hw4 : IntKind.i64.wrap ((zs.length : Int) - 4) = (zs.length : Int) - 4 := by rw [IntKind.wrap_i64]; omega
      have hi4' : (zs.length : Int) - 4 ≤ (zs.length : Int) := by omega
      cases hP : Cx.isP k (Cx.tl zs 4)
      · have HE : Hid (Cx.lst16 k zs = (Cx.wv k (Cx.tl zs 2), 2)) := by unfold Hid Cx.lst16; rw [if_neg ho, if_neg (by rw [hP]; simp)]
        clear ho
        go_enter Tryz.func188, Tryz.ntmps188
        go_wp2_with fail
        first | go_region_with (go_at_call 193; refine (isPair_any k _ (Cx.tl zs 4) _ ?_ (HB.out.drop _) HK.out ?_).mono ?_; exact HT4.out.ext ((Below.refl _ _).alloc (Nat.le_refl _) _).drew; (rw [HL4.out]; decide); rintro e w1 ⟨rfl, hb1⟩; rw [hP]; have hcb : w1.cell? ⟨w.heap.size, 0, none⟩ = some (.int .i64 k) := (hb1.cell (p := ⟨w.heap.size, 0, none⟩) (by simp)).trans (by simp); have HW1 : Hid (Below w.heap.size w w1) := ext_trans ((Below.refl w.heap.size w).alloc (Nat.le_refl _) _).drew hb1; clear hb1) | fail
        all_goals go_wp2_with fail
        first | go_region_with (go_at_call 195; refine (unitW_any k _ (Cx.tl zs 2) _ ?_ (HB.out.drop _) HK.out ?_).mono ?_; exact HT2.out.ext (by repeat (first | exact Below.refl _ _ | exact HW1.out | apply below_drewN | refine ext_alloc ?_ _ | apply Below.drew)); (rw [HL2.out]; decide); rintro e w2 ⟨rfl, n2, rfl⟩) | fail
        all_goals
          go_wp2
          go_ret2
          exact ⟨by rw [HE.out]; rfl, (by repeat (first | exact Below.refl _ _ | exact HW1.out | apply below_drewN | refine ext_alloc ?_ _ | apply Below.drew))⟩
      · have HE : Hid (Cx.lst16 k zs = (Cx.pairV k (Cx.tl zs 4), 4)) := by unfold Hid Cx.lst16; rw [if_neg ho, if_pos ⟨h4, hP⟩]
        clear ho
        go_enter Tryz.func188, Tryz.ntmps188
        go_wp2_with fail
        first | go_region_with (go_at_call 193; refine (isPair_any k _ (Cx.tl zs 4) _ ?_ (HB.out.drop _) HK.out ?_).mono ?_; exact HT4.out.ext ((Below.refl _ _).alloc (Nat.le_refl _) _).drew; (rw [HL4.out]; decide); rintro e w1 ⟨rfl, hb1⟩; rw [hP]; have hcb : w1.cell? ⟨w.heap.size, 0, none⟩ = some (.int .i64 k) := (hb1.cell (p := ⟨w.heap.size, 0, none⟩) (by simp)).trans (by simp); have HW1 : Hid (Below w.heap.size w w1) := ext_trans ((Below.refl w.heap.size w).alloc (Nat.le_refl _) _).drew hb1; clear hb1) | fail
        all_goals go_wp2_with fail
        first | go_region_with (go_at_call 194; refine (pair_any k _ (Cx.tl zs 4) _ ?_ (HB.out.drop _) HK.out ?_).mono ?_; exact HT4.out.ext (by repeat (first | exact Below.refl _ _ | exact HW1.out | apply below_drewN | refine ext_alloc ?_ _ | apply Below.drew)); (rw [HL4.out]; decide); rintro e w2 ⟨rfl, hb2⟩; have HW2 : Hid (Below w.heap.size w w2) := ext_trans (by repeat (first | exact Below.refl _ _ | exact HW1.out | apply below_drewN | refine ext_alloc ?_ _ | apply Below.drew)) hb2; clear hb2) | fail
        all_goals
          go_wp2
          go_ret2
          exact ⟨by rw [HE.out]; rfl, (by repeat (first | exact HW2.out | apply below_drewN | apply Below.drew))⟩
    · have HE : Hid (Cx.lst16 k zs = (Cx.wv k (Cx.tl zs 2), 2)) := by unfold Hid Cx.lst16; rw [if_neg ho, if_neg (fun hh => h4 hh.1)]
      have hd4 : decide ((4 : Int) ≤ (zs.length : Int)) = false := by simp; omega
      clear ho
      go_enter Tryz.func188, Tryz.ntmps188
      go_wp2
      go_quiet (fail)
      go_wp2_with fail
      first | go_region_with (go_at_call 195; refine (unitW_any k _ (Cx.tl zs 2) _ ?_ (HB.out.drop _) HK.out ?_).mono ?_; exact HT2.out.ext (by repeat (first | exact Below.refl _ _ | apply below_drewN | refine ext_alloc ?_ _ | apply Below.drew)); (rw [HL2.out]; decide); rintro e w2 ⟨rfl, n2, rfl⟩) | fail
      all_goals
        go_wp2
        go_ret2
        exact ⟨by rw [HE.out]; rfl, (by repeat (first | exact Below.refl _ _ | apply below_drewN | refine ext_alloc ?_ _ | apply Below.drew))⟩
end Go.Proofs.YtbmelpjmpomfcaaGreat

namespace Go.Proofs.YtbmelpjmpomfcaaGreat

theorem Cx.lb_drop (zs : List Int) (n : Nat) (h : n < zs.length) : Cx.lb (zs.drop n) = Cx.lb zs := by
  unfold Cx.lb
  rw [List.getElem?_drop, List.length_drop, show n + (zs.length - n - 1) = zs.length - 1 from by omega]
theorem Cx.tl_drop (zs : List Int) (n s : Nat) (h : s + n ≤ zs.length) : Cx.tl (zs.drop n) s = Cx.tl zs s := by
  unfold Cx.tl
  rw [List.drop_drop, List.length_drop, show n + (zs.length - n - s) = zs.length - s from by omega]
theorem Cx.tl_all (zs : List Int) : Cx.tl zs zs.length = zs := by unfold Cx.tl; rw [Nat.sub_self]; rfl

theorem Cx.cont_no (b : List Int) (h : 128 ≤ Cx.c0 b) (h' : Cx.c0 b ≤ 191) : Cx.mtch b = 0 := by
  have r : Cx.rowN (Cx.c0 b) = 0 := by unfold Cx.rowN; rw [if_neg (by omega), if_pos (by omega)]
  rw [Cx.mtch_eq, r]; split <;> rfl

theorem Cx.row_cont (b : List Int) (hb : Byt b) (h0 : 0 < Cx.mtch b) (hl : Cx.mtch b ≤ b.length) (q : Nat) (h1 : 1 ≤ q) (h2 : (q : Int) < Cx.mtch b) : 128 ≤ Cx.c0 (b.drop q) ∧ Cx.c0 (b.drop q) ≤ 191 := by
  have hw := Cx.whole_of b hb h0 hl
  have hbd := Cx.mtch_bd b
  have e : Cx.c0 (b.drop q) = (b.take (Cx.mtch b).toNat)[q]?.getD 0 := by
    unfold Cx.c0; rw [List.getElem?_drop, Nat.add_zero, List.getElem?_take, if_pos (by omega)]
  have hlen : (b.take (Cx.mtch b).toNat).length = (Cx.mtch b).toNat := by rw [List.length_take]; omega
  rw [e]
  rcases hw with ⟨x, e, r⟩ | ⟨x, y, e, r⟩ | ⟨x, y, z, e, r⟩ | ⟨x, y, z, u, e, r⟩
  · rw [e] at hlen; simp at hlen; omega
  · rw [e] at hlen ⊢; simp at hlen
    obtain rfl : q = 1 := by omega
    simp; omega
  · rw [e] at hlen ⊢; simp at hlen
    have : q = 1 ∨ q = 2 := by omega
    rcases this with rfl | rfl <;> simp <;> omega
  · rw [e] at hlen ⊢; simp at hlen
    have : q = 1 ∨ q = 2 ∨ q = 3 := by omega
    rcases this with rfl | rfl | rfl <;> simp <;> omega

theorem Cx.lh_false (zs : List Int) (s : Nat) (h : s ≤ zs.length → Cx.mtch (Cx.tl zs s) ≠ s) : Cx.lh zs s = false := by
  unfold Cx.lh
  by_cases hs : s ≤ zs.length
  · rw [decide_eq_false (h hs), Bool.and_false]
  · rw [decide_eq_false hs, Bool.false_and]

theorem Cx.fst8_cases (b : List Int) : (0 < Cx.mtch b ∧ Cx.mtch b ≤ b.length ∧ Cx.first8 b = (Cx.val (b.take (Cx.mtch b).toNat), Cx.mtch b)) ∨ (¬ (0 < Cx.mtch b ∧ Cx.mtch b ≤ b.length) ∧ Cx.first8 b = (-1 - Cx.c0 b, 1)) := by
  by_cases h : 0 < Cx.mtch b ∧ Cx.mtch b ≤ b.length
  · exact .inl ⟨h.1, h.2, by unfold Cx.first8; rw [if_pos h]⟩
  · exact .inr ⟨h, by unfold Cx.first8; rw [if_neg h]⟩

theorem Cx.last8_one (b : List Int) (hb : Byt b) (hn : b ≠ []) (h : (Cx.first8 b).2 = b.length) : Cx.lst8 b = Cx.first8 b := by
  have hp : 0 < b.length := List.length_pos_iff.2 hn
  have hbd := Cx.mtch_bd b
  rcases Cx.fst8_cases b with ⟨h0, hl, e⟩ | ⟨hno, e⟩
  · rw [e] at h ⊢
    simp only at h
    have ek : b.length = (Cx.mtch b).toNat := by omega
    have ht : Cx.tl b b.length = b := Cx.tl_all b
    rw [Cx.lst8_hit b b.length (by omega) (by omega) (by unfold Cx.lh; rw [ht, decide_eq_true (Nat.le_refl _), decide_eq_true h]; rfl) (fun j h1 h2 => Cx.lh_false b j fun hj => ?_), ht]
    · rw [← ek, List.take_length, h]
    · have := Cx.row_cont b hb h0 hl (b.length - j) (by omega) (by omega)
      have hz := Cx.cont_no (b.drop (b.length - j)) this.1 this.2
      unfold Cx.tl; omega
  · rw [e] at h ⊢
    simp only at h
    have h1 : b.length = 1 := by omega
    have el : Cx.lb b = Cx.c0 b := by unfold Cx.lb Cx.c0; rw [h1]
    rw [Cx.lst8_none b (fun j hj1 hj4 => Cx.lh_false b j fun hj => ?_), el]
    obtain rfl : j = 1 := by omega
    have ht : Cx.tl b 1 = b := by rw [← h1]; exact Cx.tl_all b
    rw [ht]
    intro hm
    exact hno ⟨by omega, by omega⟩

theorem Cx.last8_more (b : List Int) (hb : Byt b) (hn : b ≠ []) (n : Nat) (hf : (Cx.first8 b).2 = n) (h : n < b.length) : Cx.lst8 b = Cx.lst8 (b.drop n) := by
  have hbd := Cx.mtch_bd b
  have hn1 : 1 ≤ n := by
    have := Cx.fst_bd 1 b hn
    have e : (Cx.fst 1 b).2 = n := hf
    omega
  have hlen : (b.drop n).length = b.length - n := List.length_drop
  have key : ∀ s : Nat, 1 ≤ s → s ≤ 4 → b.length - n < s → s ≤ b.length → Cx.mtch (Cx.tl b s) ≠ s := by
    intro s h1 h4 h2 h3
    rcases Cx.fst8_cases b with ⟨h0, hl, e⟩ | ⟨hno, e⟩
    · rw [e] at hf
      simp only at hf
      by_cases hq : b.length - s = 0
      · have : Cx.tl b s = b := by unfold Cx.tl; rw [hq]; rfl
        rw [this]; omega
      · have := Cx.row_cont b hb h0 hl (b.length - s) (by omega) (by omega)
        have hz := Cx.cont_no (b.drop (b.length - s)) this.1 this.2
        unfold Cx.tl; omega
    · rw [e] at hf
      simp only at hf
      have hq : b.length - s = 0 := by omega
      have : Cx.tl b s = b := by unfold Cx.tl; rw [hq]; rfl
      rw [this]
      intro hm
      exact hno ⟨by omega, by omega⟩
  have same : ∀ s : Nat, 1 ≤ s → s ≤ 4 → Cx.lh b s = Cx.lh (b.drop n) s := by
    intro s h1 h4
    by_cases hs : s ≤ b.length - n
    · unfold Cx.lh
      rw [Cx.tl_drop b n s (by omega), decide_eq_true (by omega : s ≤ b.length), decide_eq_true (by omega : s ≤ (b.drop n).length)]
    · rw [Cx.lh_long (b.drop n) s (by omega)]
      exact Cx.lh_false b s fun hj => key s h1 h4 (by omega) hj
  have vs : ∀ s : Nat, 1 ≤ s → s ≤ 4 → Cx.lh b s = true → Cx.tl b s = Cx.tl (b.drop n) s := by
    intro s h1 h4 hh
    rw [same s h1 h4] at hh
    unfold Cx.lh at hh
    simp only [Bool.and_eq_true, decide_eq_true_eq] at hh
    rw [Cx.tl_drop b n s (by omega)]
  unfold Cx.lst8
  rw [← same 1 (by omega) (by omega), ← same 2 (by omega) (by omega), ← same 3 (by omega) (by omega), ← same 4 (by omega) (by omega), Cx.lb_drop b n h]
  cases g1 : Cx.lh b 1
  · cases g2 : Cx.lh b 2
    · cases g3 : Cx.lh b 3
      · cases g4 : Cx.lh b 4
        · rfl
        · rw [vs 4 (by omega) (by omega) g4]; rfl
      · rw [vs 3 (by omega) (by omega) g3]; rfl
    · rw [vs 2 (by omega) (by omega) g2]; rfl
  · rw [vs 1 (by omega) (by omega) g1]; rfl

theorem Cx.fst16_cases (k : Int) (b : List Int) : (b.length = 1 ∧ Cx.first16 k b = (-1 - Cx.c0 b, 1)) ∨ (b.length ≠ 1 ∧ Cx.isP k b = true ∧ Cx.first16 k b = (Cx.pairV k b, 4)) ∨ (b.length ≠ 1 ∧ Cx.isP k b = false ∧ Cx.first16 k b = (Cx.wv k b, 2)) := by
  unfold Cx.first16
  by_cases h : b.length = 1
  · exact .inl ⟨h, by rw [if_pos h]⟩
  · cases hp : Cx.isP k b
    · exact .inr (.inr ⟨h, rfl, by rw [if_neg h, if_neg (by simp)]⟩)
    · exact .inr (.inl ⟨h, rfl, by rw [if_neg h, if_pos rfl]⟩)
theorem Cx.isP_len (k : Int) (b : List Int) (h : Cx.isP k b = true) : 4 ≤ b.length ∧ Cx.hiU (Cx.wv k b) = true ∧ Cx.loU (Cx.wv k (b.drop 2)) = true := by
  unfold Cx.isP at h
  simp only [Bool.and_eq_true, decide_eq_true_eq] at h
  exact ⟨h.1.1, h.1.2, h.2⟩
theorem Cx.hi_lo (a : Int) (h : Cx.loU a = true) : Cx.hiU a = false := by
  unfold Cx.loU at h; unfold Cx.hiU
  simp at h ⊢; omega

theorem Cx.last16_one (k : Int) (b : List Int) (hn : b ≠ []) (h : (Cx.first16 k b).2 = b.length) : Cx.lst16 k b = Cx.first16 k b := by
  have hp : 0 < b.length := List.length_pos_iff.2 hn
  rcases Cx.fst16_cases k b with ⟨h1, e⟩ | ⟨h1, hP, e⟩ | ⟨h1, hP, e⟩
  · have el : Cx.lb b = Cx.c0 b := by unfold Cx.lb Cx.c0; rw [h1]
    rw [e]; unfold Cx.lst16; rw [if_pos (by omega), el]
  · rw [e] at h ⊢
    simp only at h
    have h4 : b.length = 4 := by omega
    have ht : Cx.tl b 4 = b := by rw [← h4]; exact Cx.tl_all b
    unfold Cx.lst16; rw [if_neg (by omega), ht, if_pos ⟨by omega, hP⟩]
  · rw [e] at h ⊢
    simp only at h
    have h2 : b.length = 2 := by omega
    have ht : Cx.tl b 2 = b := by rw [← h2]; exact Cx.tl_all b
    unfold Cx.lst16; rw [if_neg (by omega), if_neg (by omega), ht]

theorem Cx.last16_more (k : Int) (b : List Int) (n : Nat) (hf : (Cx.first16 k b).2 = n) (h : n < b.length) : Cx.lst16 k b = Cx.lst16 k (b.drop n) := by
  have hlen : (b.drop n).length = b.length - n := List.length_drop
  rcases Cx.fst16_cases k b with ⟨h1, e⟩ | ⟨h1, hP, e⟩ | ⟨h1, hP, e⟩
  · rw [e] at hf; simp only at hf; omega
  · obtain ⟨h4, hh, hl⟩ := Cx.isP_len k b hP
    rw [e] at hf
    simp only at hf
    obtain rfl : n = 4 := by omega
    unfold Cx.lst16
    rw [hlen, Cx.lb_drop b 4 h]
    by_cases ho : b.length % 2 = 1
    · rw [if_pos ho, if_pos (by omega)]
    · have ho4 : ¬ (b.length - 4) % 2 = 1 := by omega
      rw [if_neg ho, if_neg ho4, Cx.tl_drop b 4 2 (by omega)]
      by_cases h8 : 8 ≤ b.length
      · rw [Cx.tl_drop b 4 4 (by omega)]
        by_cases hc : Cx.isP k (Cx.tl b 4) = true
        · rw [if_pos ⟨by omega, hc⟩, if_pos ⟨by omega, hc⟩]
        · rw [if_neg (fun hh => hc hh.2), if_neg (fun hh => hc hh.2)]
      · have h6 : b.length = 6 := by omega
        have hx : ¬ (4 ≤ b.length ∧ Cx.isP k (Cx.tl b 4) = true) := ?_
        · rw [if_neg hx, if_neg (fun hh => by omega)]
        rintro ⟨_, hc⟩
        have := (Cx.isP_len k _ hc).2.1
        have et : Cx.tl b 4 = b.drop 2 := by unfold Cx.tl; rw [h6]
        rw [et, Cx.hi_lo _ hl] at this
        cases this
  · rw [e] at hf
    simp only at hf
    obtain rfl : n = 2 := by omega
    unfold Cx.lst16
    rw [hlen, Cx.lb_drop b 2 h]
    by_cases ho : b.length % 2 = 1
    · rw [if_pos ho, if_pos (by omega)]
    · have ho2 : ¬ (b.length - 2) % 2 = 1 := by omega
      rw [if_neg ho, if_neg ho2, Cx.tl_drop b 2 2 (by omega)]
      by_cases h6 : 6 ≤ b.length
      · rw [Cx.tl_drop b 2 4 (by omega)]
        by_cases hc : Cx.isP k (Cx.tl b 4) = true
        · rw [if_pos ⟨by omega, hc⟩, if_pos ⟨by omega, hc⟩]
        · rw [if_neg (fun hh => hc hh.2), if_neg (fun hh => hc hh.2)]
      · have h4 : b.length = 4 := by omega
        have ht : Cx.tl b 4 = b := by rw [← h4]; exact Cx.tl_all b
        have hx : ¬ (4 ≤ b.length ∧ Cx.isP k (Cx.tl b 4) = true) := ?_
        · rw [if_neg hx, if_neg (fun hh => by omega)]
        rintro ⟨_, hc⟩
        rw [ht, hP] at hc
        cases hc

def Cx.lst (enc : Int) (zs : List Int) : Int × Int := if enc = 1 then Cx.lst8 zs else if enc = 2 then Cx.lst16 0 zs else if enc = 3 then Cx.lst16 1 zs else (Cx.lb zs, 1)
theorem Cx.last_one (enc : Int) (b : List Int) (hb : Byt b) (hn : b ≠ []) (he : enc = 1 ∨ enc = 2 ∨ enc = 3 ∨ enc = 4) (h : (Cx.fst enc b).2 = b.length) : Cx.lst enc b = Cx.fst enc b := by
  rcases he with rfl | rfl | rfl | rfl
  · exact Cx.last8_one b hb hn h
  · exact Cx.last16_one 0 b hn h
  · exact Cx.last16_one 1 b hn h
  · have h1 : (1 : Int) = b.length := h
    show (Cx.lb b, (1 : Int)) = (Cx.c0 b, 1)
    have : b.length = 1 := by omega
    unfold Cx.lb Cx.c0; rw [this]
theorem Cx.last_more (enc : Int) (b : List Int) (hb : Byt b) (hn : b ≠ []) (he : enc = 1 ∨ enc = 2 ∨ enc = 3 ∨ enc = 4) (n : Nat) (hf : (Cx.fst enc b).2 = n) (h : n < b.length) : Cx.lst enc b = Cx.lst enc (b.drop n) := by
  rcases he with rfl | rfl | rfl | rfl
  · exact Cx.last8_more b hb hn n hf h
  · exact Cx.last16_more 0 b n hf h
  · exact Cx.last16_more 1 b n hf h
  · show (Cx.lb b, (1 : Int)) = (Cx.lb (b.drop n), 1)
    rw [Cx.lb_drop b n h]
end Go.Proofs.YtbmelpjmpomfcaaGreat

namespace Go.Proofs.YtbmelpjmpomfcaaGreat
open Go.RowKit

theorem Cx.hit_take (b : List Int) (k M : Nat) (hk : k ≤ M) : Cx.hitB (b.take M) k = Cx.hitB b k := by
  have ht : (b.take M).take k = b.take k := by rw [List.take_take, Nat.min_eq_left hk]
  rw [Bool.eq_iff_iff, Cx.hitB_iff (b.take M) k _ rfl, Cx.hitB_iff b k _ rfl, ht]
  constructor
  · rintro ⟨g1, g2, g3, g4⟩
    rw [List.length_take] at g1
    rw [List.isPrefixOf_iff_prefix] at g4 ⊢
    exact ⟨by omega, g2, g3, g4.trans (List.take_prefix M b)⟩
  · rintro ⟨g1, g2, g3, g4⟩
    rw [List.isPrefixOf_iff_prefix] at g4 ⊢
    exact ⟨by rw [List.length_take]; omega, g2, g3, List.prefix_take_iff.2 ⟨g4, by omega⟩⟩

theorem Cx.c0_take' (b : List Int) (M : Nat) (h : 0 < M) : Cx.c0 (b.take M) = Cx.c0 b := by
  unfold Cx.c0; rw [List.getElem?_take_of_lt h]

theorem Cx.first8_take (b : List Int) (hb : Byt b) (M : Nat) (h : (Cx.first8 b).2 ≤ M) : Cx.first8 (b.take M) = Cx.first8 b := by
  have hbd := Cx.mtch_bd b
  rcases Cx.fst8_cases b with ⟨h0, hl, e⟩ | ⟨hno, e⟩
  · rw [e] at h
    simp only at h
    obtain ⟨k, hk⟩ : ∃ k : Nat, Cx.mtch b = k := ⟨(Cx.mtch b).toNat, by omega⟩
    have hh : Cx.hitB b k = true := (Cx.hit_iff b hb k (by omega) (by omega)).2 ⟨hk, by omega⟩
    rw [Cx.first8_hit b hb k (by omega) (by omega) hh, Cx.first8_hit (b.take M) (hb.take M) k (by omega) (by omega) (by rw [Cx.hit_take b k M (by omega)]; exact hh), List.take_take, Nat.min_eq_left (by omega)]
  · rw [e] at h
    simp only at h
    have hM : 0 < M := by omega
    rw [e, Cx.first8_none (b.take M) (hb.take M), Cx.c0_take' b M hM]
    intro k h1 h4 hkl
    rw [List.length_take] at hkl
    rw [Cx.hit_take b k M (by omega)]
    cases hh : Cx.hitB b k
    · rfl
    · have := (Cx.hit_iff b hb k h1 h4).1 hh
      exact absurd ⟨by omega, by omega⟩ hno

theorem Cx.wv_take (k : Int) (b : List Int) (M : Nat) (h : 2 ≤ M) : Cx.wv k (b.take M) = Cx.wv k b := by
  unfold Cx.wv
  simp only [List.getElem?_take_of_lt (show 0 < M by omega), List.getElem?_take_of_lt (show 1 < M by omega)]

theorem Cx.isP_take (k : Int) (b : List Int) (M : Nat) (h4 : 4 ≤ M) : Cx.isP k (b.take M) = Cx.isP k b := by
  unfold Cx.isP
  rw [Cx.wv_take k b M (by omega), List.drop_take, Cx.wv_take k (b.drop 2) (M - 2) (by omega), List.length_take]
  congr 2
  rw [decide_eq_decide]; omega

theorem Cx.first16_take (k : Int) (b : List Int) (hn : b ≠ []) (M : Nat) (h : (Cx.first16 k b).2 ≤ M) : Cx.first16 k (b.take M) = Cx.first16 k b := by
  have hp : 0 < b.length := List.length_pos_iff.2 hn
  rcases Cx.fst16_cases k b with ⟨h1, e⟩ | ⟨h1, hP, e⟩ | ⟨h1, hP, e⟩
  · rw [e] at h
    simp only at h
    rw [List.take_of_length_le (by omega)]
  · rw [e] at h
    simp only at h
    have := (Cx.isP_len k b hP).1
    have hP' : Cx.isP k (b.take M) = true := by rw [Cx.isP_take k b M (by omega)]; exact hP
    rw [e]
    unfold Cx.first16
    rw [if_neg (by rw [List.length_take]; omega), if_pos hP']
    unfold Cx.pairV
    rw [Cx.wv_take k b M (by omega), List.drop_take, Cx.wv_take k (b.drop 2) (M - 2) (by omega)]
  · rw [e] at h
    simp only at h
    have hP' : Cx.isP k (b.take M) = false := by
      by_cases h4 : 4 ≤ M
      · rw [Cx.isP_take k b M h4]; exact hP
      · unfold Cx.isP
        rw [decide_eq_false (by rw [List.length_take]; omega)]; rfl
    rw [e]
    unfold Cx.first16
    rw [if_neg (by rw [List.length_take]; omega), if_neg (by rw [hP']; simp), Cx.wv_take k b M (by omega)]

theorem Cx.fst_take (enc : Int) (b : List Int) (hb : Byt b) (hn : b ≠ []) (M : Nat) (h : (Cx.fst enc b).2 ≤ M) : Cx.fst enc (b.take M) = Cx.fst enc b := by
  unfold Cx.fst at h ⊢
  split
  · rename_i h1; rw [if_pos h1] at h; exact Cx.first8_take b hb M h
  · rename_i h1; rw [if_neg h1] at h
    split
    · rename_i h2; rw [if_pos h2] at h; exact Cx.first16_take 0 b hn M h
    · rename_i h2; rw [if_neg h2] at h
      split
      · rename_i h3; rw [if_pos h3] at h; exact Cx.first16_take 1 b hn M h
      · rename_i h3; rw [if_neg h3] at h
        simp only at h
        rw [Cx.c0_take' b M (by omega)]

theorem Cx.walk_step (enc : Int) (z : List Int) (hb : Byt z) (he : enc = 1 ∨ enc = 2 ∨ enc = 3 ∨ enc = 4) (p n : Nat) (a : Int) (hp : p < z.length) (hf : Cx.fst enc (z.drop p) = (a, (n : Int))) (h1 : 1 ≤ n) (hn : p + n ≤ z.length)
    (hI : ∀ M, p < M → M ≤ z.length → Cx.lst enc (z.take M) = Cx.lst enc ((z.take M).drop p)) :
    Cx.lst enc (z.take (p + n)) = (a, (n : Int)) ∧ ∀ M, p + n < M → M ≤ z.length → Cx.lst enc (z.take M) = Cx.lst enc ((z.take M).drop (p + n)) := by
  have hne : z.drop p ≠ [] := List.length_pos_iff.1 (by rw [List.length_drop]; omega)
  have key : ∀ M, p + n ≤ M → M ≤ z.length → Cx.fst enc ((z.take M).drop p) = (a, (n : Int)) := fun M hM hz => by
    rw [List.drop_take, Cx.fst_take enc (z.drop p) (hb.drop p) hne (M - p) (by rw [hf]; simp only; omega), hf]
  have hl : ∀ M, M ≤ z.length → ((z.take M).drop p).length = M - p := fun M hM => by rw [List.length_drop, List.length_take]; omega
  constructor
  · have hx : (z.take (p + n)).drop p ≠ [] := List.length_pos_iff.1 (by rw [hl _ hn]; omega)
    rw [hI (p + n) (by omega) hn, Cx.last_one enc _ ((hb.take _).drop p) hx he (by rw [key _ (Nat.le_refl _) hn, hl _ hn]; simp only; omega), key _ (Nat.le_refl _) hn]
  · intro M hM hz
    have hx : (z.take M).drop p ≠ [] := List.length_pos_iff.1 (by rw [hl _ hz]; omega)
    rw [hI M (by omega) hz, Cx.last_more enc _ ((hb.take _).drop p) hx he n (by rw [key M (by omega) hz]) (by rw [hl _ hz]; omega), List.drop_drop]
end Go.Proofs.YtbmelpjmpomfcaaGreat

namespace Go.Proofs.YtbmelpjmpomfcaaGreat
open Go.RowKit

abbrev Cx.En (enc : Int) : Prop := enc = 1 ∨ enc = 2 ∨ enc = 3 ∨ enc = 4
theorem Cx.encB_app (enc : Int) (a b : List Int) : Cx.encB enc (a ++ b) = Cx.encB enc a ++ Cx.encB enc b := by simp [Cx.encB]
theorem Cx.encB_cons (enc : Int) (a : Int) (l : List Int) : Cx.encB enc (a :: l) = Cx.put enc a ++ Cx.encB enc l := by simp [Cx.encB]

theorem Cx.dec_step (enc : Int) (he : Cx.En enc) (b : List Int) (hb : Byt b) (hn : b ≠ []) : ∃ (a : Int) (s : Nat), Cx.fst enc b = (a, (s : Int)) ∧ 1 ≤ s ∧ s ≤ b.length ∧ Cx.put enc a = b.take s ∧ (Cx.put enc a).length = s ∧ Cx.fits enc a = true ∧ Cx.dec enc b = a :: Cx.dec enc (b.drop s) := by
  obtain ⟨h1, h2, h3⟩ := Cx.fst_bd enc b hn
  obtain ⟨k1, k2⟩ := Cx.back enc b hb hn he
  have e : Cx.fst enc b = ((Cx.fst enc b).1, (((Cx.fst enc b).2.toNat : Nat) : Int)) := by rw [Int.toNat_of_nonneg (by omega)]
  refine ⟨(Cx.fst enc b).1, (Cx.fst enc b).2.toNat, e, by omega, by omega, k2, ?_, k1, Cx.dec_cons enc b hn _ _ e⟩
  rw [k2, List.length_take]
  omega

theorem Cx.dec_cut (enc : Int) (he : Cx.En enc) : ∀ (n : Nat) (b : List Int), Byt b → n ≤ (Cx.dec enc b).length →
    (Cx.encB enc ((Cx.dec enc b).take n)).length ≤ b.length ∧ Cx.dec enc (b.drop (Cx.encB enc ((Cx.dec enc b).take n)).length) = (Cx.dec enc b).drop n ∧ Cx.dec enc (b.take (Cx.encB enc ((Cx.dec enc b).take n)).length) = (Cx.dec enc b).take n := by
  intro n
  induction n with
  | zero =>
    intro b hb _
    simp only [List.take_zero, List.drop_zero]
    exact ⟨Nat.zero_le _, rfl, Cx.dec_nil enc⟩
  | succ n ih =>
    intro b hb hn
    by_cases h0 : b = []
    · subst h0; rw [Cx.dec_nil] at hn; simp at hn
    obtain ⟨a, s, hf, s1, s2, hp, hl, _, hd⟩ := Cx.dec_step enc he b hb h0
    rw [hd, List.length_cons] at hn
    obtain ⟨i1, i2, i3⟩ := ih (b.drop s) (hb.drop s) (by omega)
    rw [hd, List.take_succ_cons, List.drop_succ_cons, Cx.encB_cons, List.length_append, hl]
    rw [List.length_drop] at i1
    generalize hk : (Cx.encB enc ((Cx.dec enc (b.drop s)).take n)).length = k at *
    refine ⟨by omega, ?_, ?_⟩
    · rw [← List.drop_drop]; exact i2
    · have hne : b.take (s + k) ≠ [] := by
        intro e
        have := congrArg List.length e
        rw [List.length_take, List.length_nil] at this
        omega
      have hft := Cx.fst_take enc b hb h0 (s + k) (by rw [hf]; simp only; omega)
      rw [Cx.dec_cons enc (b.take (s + k)) hne a s (by rw [hft]; exact hf)]
      congr 1
      rw [List.drop_take, show s + k - s = k by omega]
      exact i3

theorem Cx.dec_last (enc : Int) (he : Cx.En enc) : ∀ (m : Nat) (b : List Int), b.length ≤ m → Byt b → b ≠ [] → ∃ l, Cx.dec enc b = l ++ [(Cx.lst enc b).1] := by
  intro m
  induction m with
  | zero => intro b h _ hn; exact absurd (List.length_eq_zero_iff.1 (by omega)) hn
  | succ m ih =>
    intro b h hb hn
    obtain ⟨a, s, hf, s1, s2, hp, hl, _, hd⟩ := Cx.dec_step enc he b hb hn
    by_cases hs : s = b.length
    · have := Cx.last_one enc b hb hn he (by rw [hf, hs])
      rw [this, hf]
      refine ⟨[], ?_⟩
      rw [hd, hs, List.drop_length, Cx.dec_nil]
      rfl
    · have := Cx.last_more enc b hb hn he s (by rw [hf]) (by omega)
      rw [this, hd]
      obtain ⟨l, hl'⟩ := ih (b.drop s) (by rw [List.length_drop]; omega) (hb.drop s) (by
        intro e
        have := congrArg List.length e
        rw [List.length_drop, List.length_nil] at this
        omega)
      exact ⟨a :: l, by rw [hl']; rfl⟩

theorem Cx.dec_snoc (enc : Int) (he : Cx.En enc) (b : List Int) (a : Int) (hb : Byt b) (hp : Byt (Cx.put enc a)) (hn : Cx.put enc a ≠ []) (h : (Cx.lst enc (b ++ Cx.put enc a)).1 = a) : Cx.dec enc (b ++ Cx.put enc a) = Cx.dec enc b ++ [a] := by
  have hB : Byt (b ++ Cx.put enc a) := fun x hx => (List.mem_append.1 hx).elim (hb x) (hp x)
  obtain ⟨l, hl⟩ := Cx.dec_last enc he _ _ (Nat.le_refl _) hB (by simp [hn])
  rw [h] at hl
  have he1 := (Cx.back_all enc he _ _ (Nat.le_refl _) hB).1
  rw [hl, Cx.encB_app] at he1
  have e2 : Cx.encB enc l = b := by
    have : Cx.encB enc [a] = Cx.put enc a := by simp [Cx.encB]
    rw [this] at he1
    exact List.append_cancel_right he1
  obtain ⟨_, _, k3⟩ := Cx.dec_cut enc he l.length (b ++ Cx.put enc a) hB (by rw [hl]; simp)
  rw [hl, List.take_left' rfl, e2, List.take_left' rfl] at k3
  rw [hl, k3]
end Go.Proofs.YtbmelpjmpomfcaaGreat

namespace Go.Proofs.YtbmelpjmpomfcaaGreat
open Go.RowKit

theorem m_last1 (w : World) : (method 336 175 (.agg #[]) "copyist/codec.last").run Tryz.prog w = .ok (173, .agg #[]) w := by kernel_rfl
theorem m_last2 (k : Int) (w : World) : (method 336 177 (.agg #[.int .i64 k]) "copyist/codec.last").run Tryz.prog w = .ok (188, .agg #[.int .i64 k]) w := by kernel_rfl
theorem m_last4 (w : World) : (method 336 178 (.agg #[]) "copyist/codec.last").run Tryz.prog w = .ok (200, .agg #[]) w := by kernel_rfl
theorem n_first1 (w : World) : (nilAhead 336 175 (.agg #[]) "copyist/codec.first").run Tryz.prog w = .ok (some false) w := by kernel_rfl
theorem n_first2 (k : Int) (w : World) : (nilAhead 336 177 (.agg #[.int .i64 k]) "copyist/codec.first").run Tryz.prog w = .ok (some false) w := by kernel_rfl
theorem n_first4 (w : World) : (nilAhead 336 178 (.agg #[]) "copyist/codec.first").run Tryz.prog w = .ok (some false) w := by kernel_rfl
theorem n_last1 (w : World) : (nilAhead 336 175 (.agg #[]) "copyist/codec.last").run Tryz.prog w = .ok (some false) w := by kernel_rfl
theorem n_last2 (k : Int) (w : World) : (nilAhead 336 177 (.agg #[.int .i64 k]) "copyist/codec.last").run Tryz.prog w = .ok (some false) w := by kernel_rfl
theorem n_last4 (w : World) : (nilAhead 336 178 (.agg #[]) "copyist/codec.last").run Tryz.prog w = .ok (some false) w := by kernel_rfl

def Cx.nx (enc : Int) (zs : List Int) (a : Int) : Int × Int := if Cx.known enc = true ∧ 0 ≤ a ∧ a < zs.length then Cx.fst enc (zs.drop a.toNat) else (0, 0)
def Cx.pv (enc : Int) (zs : List Int) (a : Int) : Int × Int := if Cx.known enc = true ∧ 0 < a ∧ a ≤ zs.length then Cx.lst enc (zs.take a.toNat) else (0, 0)

theorem lst1_any (v : Value) (zs : List Int) (w : World) (h : Rd .u8 w v zs) (hb : Byt zs) (hn : zs ≠ []) :
    Calls Tryz.prog 173 #[.agg #[], v] w fun e w' => e = .returned (.tuple #[.int .i64 (Cx.lst 1 zs).1, .int .i64 (Cx.lst 1 zs).2]) ∧ Below w.heap.size w w' := by
  rw [show Cx.lst 1 zs = Cx.lst8 zs by unfold Cx.lst; rw [if_pos rfl]]
  exact last8_any v zs w h hb hn
theorem lst2_any (v : Value) (zs : List Int) (w : World) (h : Rd .u8 w v zs) (hb : Byt zs) (hn : zs ≠ []) :
    Calls Tryz.prog 188 #[.agg #[.int .i64 0], v] w fun e w' => e = .returned (.tuple #[.int .i64 (Cx.lst 2 zs).1, .int .i64 (Cx.lst 2 zs).2]) ∧ Below w.heap.size w w' := by
  rw [show Cx.lst 2 zs = Cx.lst16 0 zs by unfold Cx.lst; rw [if_neg (by decide), if_pos rfl]]
  exact last16_any 0 v zs w h hb (.inl rfl) hn
theorem lst3_any (v : Value) (zs : List Int) (w : World) (h : Rd .u8 w v zs) (hb : Byt zs) (hn : zs ≠ []) :
    Calls Tryz.prog 188 #[.agg #[.int .i64 1], v] w fun e w' => e = .returned (.tuple #[.int .i64 (Cx.lst 3 zs).1, .int .i64 (Cx.lst 3 zs).2]) ∧ Below w.heap.size w w' := by
  rw [show Cx.lst 3 zs = Cx.lst16 1 zs by unfold Cx.lst; rw [if_neg (by decide), if_neg (by decide), if_pos rfl]]
  exact last16_any 1 v zs w h hb (.inr rfl) hn
theorem lst4_any (v : Value) (zs : List Int) (w : World) (h : Rd .u8 w v zs) (hb : Byt zs) (hn : zs ≠ []) :
    Calls Tryz.prog 200 #[.agg #[], v] w fun e w' => e = .returned (.tuple #[.int .i64 (Cx.lst 4 zs).1, .int .i64 (Cx.lst 4 zs).2]) ∧ Below w.heap.size w w' := by
  rw [show Cx.lst 4 zs = (Cx.lb zs, 1) by unfold Cx.lst; rw [if_neg (by decide), if_neg (by decide), if_neg (by decide)]]
  exact last4_any v zs w h hb hn
end Go.Proofs.YtbmelpjmpomfcaaGreat

namespace Go.Proofs.YtbmelpjmpomfcaaGreat
open Go.RowKit

set_option maxRecDepth 100000 in
set_option maxHeartbeats 2000000 in
theorem Next_1 (v : Value) (zs : List Int) (n : Nat) (w : World) (h : Rd .u8 w v zs) (hb : Byt zs) (hn : n < zs.length) :
    Calls Tryz.prog 52 #[.int .i64 1, v, .int .i64 n] w fun e w' => e = .returned (.tuple #[.int .i64 (Cx.fst 1 (zs.drop n)).1, .int .i64 (Cx.fst 1 (zs.drop n)).2]) ∧ Below w.heap.size w w' := by
  have HR : Hid (Rd .u8 w v zs) := h
  have HB : Hid (Byt zs) := hb
  have hlen := h.len
  obtain ⟨ao, cap, rfl, hl, hm, hc⟩ := h
  obtain ⟨b, off, rfl, _⟩ := hc (List.length_pos_iff.1 (by omega))
  have HN : Hid (zs.drop n ≠ []) := List.length_pos_iff.1 (by rw [List.length_drop]; omega)
  obtain ⟨a, m, hf⟩ : ∃ (a : Int) (m : Nat), Cx.fst 1 (zs.drop n) = (a, (m : Int)) := by
    have := Cx.fst_bd 1 (zs.drop n) HN.out
    exact ⟨_, (Cx.fst 1 (zs.drop n)).2.toNat, Prod.ext rfl (by simp only; omega)⟩
  have HF : Hid (Cx.fst 1 (zs.drop n) = (a, (m : Int))) := hf
  have hcn : ¬ cap = n := by omega
  have HC : Hid (Rd .u8 w (.slice (some ⟨b, off + n, none⟩) (zs.length - n) (cap - n)) (zs.drop n)) := HR.out.cut (by omega)
  have hcm : cap ≤ 9223372036854775807 := hm
  rw [hf]
  clear hb hc hf hm
  have hmt := m_first1
  have hnt := n_first1
  go_enter Tryz.func52, Tryz.ntmps52
  go_wp2_with fail
  refine (coderOf_1 _).mono ?_
  rintro e w' ⟨rfl, rfl⟩
  go_wp2_with fail
  first | go_region_with (go_at_call 172; refine (fst1_any _ (zs.drop n) a m _ (HC.out.ext (by repeat (first | exact Below.refl _ _ | apply below_drewN | refine ext_alloc ?_ _ | apply Below.drew))) (HB.out.drop n) HN.out HF.out).mono ?_; rintro e w1 ⟨rfl, hb1⟩; have HW1 : Hid (Below w'.heap.size w' w1) := ext_trans (by repeat (first | exact Below.refl _ _ | apply below_drewN | refine ext_alloc ?_ _ | apply Below.drew)) hb1; clear hb1) | fail
  all_goals
    go_wp2
    go_ret2
    exact ⟨rfl, (by repeat (first | exact HW1.out | exact Below.refl _ _ | apply below_drewN | refine ext_alloc ?_ _ | apply Below.drew))⟩

set_option maxRecDepth 100000 in
set_option maxHeartbeats 2000000 in
theorem Next_2 (v : Value) (zs : List Int) (n : Nat) (w : World) (h : Rd .u8 w v zs) (hb : Byt zs) (hn : n < zs.length) :
    Calls Tryz.prog 52 #[.int .i64 2, v, .int .i64 n] w fun e w' => e = .returned (.tuple #[.int .i64 (Cx.fst 2 (zs.drop n)).1, .int .i64 (Cx.fst 2 (zs.drop n)).2]) ∧ Below w.heap.size w w' := by
  have HR : Hid (Rd .u8 w v zs) := h
  have HB : Hid (Byt zs) := hb
  have hlen := h.len
  obtain ⟨ao, cap, rfl, hl, hm, hc⟩ := h
  obtain ⟨b, off, rfl, _⟩ := hc (List.length_pos_iff.1 (by omega))
  have HN : Hid (zs.drop n ≠ []) := List.length_pos_iff.1 (by rw [List.length_drop]; omega)
  obtain ⟨a, m, hf⟩ : ∃ (a : Int) (m : Nat), Cx.fst 2 (zs.drop n) = (a, (m : Int)) := by
    have := Cx.fst_bd 2 (zs.drop n) HN.out
    exact ⟨_, (Cx.fst 2 (zs.drop n)).2.toNat, Prod.ext rfl (by simp only; omega)⟩
  have HF : Hid (Cx.fst 2 (zs.drop n) = (a, (m : Int))) := hf
  have hcn : ¬ cap = n := by omega
  have HC : Hid (Rd .u8 w (.slice (some ⟨b, off + n, none⟩) (zs.length - n) (cap - n)) (zs.drop n)) := HR.out.cut (by omega)
  have hcm : cap ≤ 9223372036854775807 := hm
  rw [hf]
  clear hb hc hf hm
  have hmt := m_first2
  have hnt := n_first2
  go_enter Tryz.func52, Tryz.ntmps52
  go_wp2_with fail
  refine (coderOf_2 _).mono ?_
  rintro e w' ⟨rfl, rfl⟩
  go_wp2_with fail
  first | go_region_with (go_at_call 187; refine (fst2_any _ (zs.drop n) a m _ (HC.out.ext (by repeat (first | exact Below.refl _ _ | apply below_drewN | refine ext_alloc ?_ _ | apply Below.drew))) (HB.out.drop n) HN.out HF.out).mono ?_; rintro e w1 ⟨rfl, hb1⟩; have HW1 : Hid (Below w'.heap.size w' w1) := ext_trans (by repeat (first | exact Below.refl _ _ | apply below_drewN | refine ext_alloc ?_ _ | apply Below.drew)) hb1; clear hb1) | fail
  all_goals
    go_wp2
    go_ret2
    exact ⟨rfl, (by repeat (first | exact HW1.out | exact Below.refl _ _ | apply below_drewN | refine ext_alloc ?_ _ | apply Below.drew))⟩

set_option maxRecDepth 100000 in
set_option maxHeartbeats 2000000 in
theorem Next_3 (v : Value) (zs : List Int) (n : Nat) (w : World) (h : Rd .u8 w v zs) (hb : Byt zs) (hn : n < zs.length) :
    Calls Tryz.prog 52 #[.int .i64 3, v, .int .i64 n] w fun e w' => e = .returned (.tuple #[.int .i64 (Cx.fst 3 (zs.drop n)).1, .int .i64 (Cx.fst 3 (zs.drop n)).2]) ∧ Below w.heap.size w w' := by
  have HR : Hid (Rd .u8 w v zs) := h
  have HB : Hid (Byt zs) := hb
  have hlen := h.len
  obtain ⟨ao, cap, rfl, hl, hm, hc⟩ := h
  obtain ⟨b, off, rfl, _⟩ := hc (List.length_pos_iff.1 (by omega))
  have HN : Hid (zs.drop n ≠ []) := List.length_pos_iff.1 (by rw [List.length_drop]; omega)
  obtain ⟨a, m, hf⟩ : ∃ (a : Int) (m : Nat), Cx.fst 3 (zs.drop n) = (a, (m : Int)) := by
    have := Cx.fst_bd 3 (zs.drop n) HN.out
    exact ⟨_, (Cx.fst 3 (zs.drop n)).2.toNat, Prod.ext rfl (by simp only; omega)⟩
  have HF : Hid (Cx.fst 3 (zs.drop n) = (a, (m : Int))) := hf
  have hcn : ¬ cap = n := by omega
  have HC : Hid (Rd .u8 w (.slice (some ⟨b, off + n, none⟩) (zs.length - n) (cap - n)) (zs.drop n)) := HR.out.cut (by omega)
  have hcm : cap ≤ 9223372036854775807 := hm
  rw [hf]
  clear hb hc hf hm
  have hmt := m_first2
  have hnt := n_first2
  go_enter Tryz.func52, Tryz.ntmps52
  go_wp2_with fail
  refine (coderOf_3 _).mono ?_
  rintro e w' ⟨rfl, rfl⟩
  go_wp2_with fail
  first | go_region_with (go_at_call 187; refine (fst3_any _ (zs.drop n) a m _ (HC.out.ext (by repeat (first | exact Below.refl _ _ | apply below_drewN | refine ext_alloc ?_ _ | apply Below.drew))) (HB.out.drop n) HN.out HF.out).mono ?_; rintro e w1 ⟨rfl, hb1⟩; have HW1 : Hid (Below w'.heap.size w' w1) := ext_trans (by repeat (first | exact Below.refl _ _ | apply below_drewN | refine ext_alloc ?_ _ | apply Below.drew)) hb1; clear hb1) | fail
  all_goals
    go_wp2
    go_ret2
    exact ⟨rfl, (by repeat (first | exact HW1.out | exact Below.refl _ _ | apply below_drewN | refine ext_alloc ?_ _ | apply Below.drew))⟩

set_option maxRecDepth 100000 in
set_option maxHeartbeats 2000000 in
theorem Next_4 (v : Value) (zs : List Int) (n : Nat) (w : World) (h : Rd .u8 w v zs) (hb : Byt zs) (hn : n < zs.length) :
    Calls Tryz.prog 52 #[.int .i64 4, v, .int .i64 n] w fun e w' => e = .returned (.tuple #[.int .i64 (Cx.fst 4 (zs.drop n)).1, .int .i64 (Cx.fst 4 (zs.drop n)).2]) ∧ Below w.heap.size w w' := by
  have HR : Hid (Rd .u8 w v zs) := h
  have HB : Hid (Byt zs) := hb
  have hlen := h.len
  obtain ⟨ao, cap, rfl, hl, hm, hc⟩ := h
  obtain ⟨b, off, rfl, _⟩ := hc (List.length_pos_iff.1 (by omega))
  have HN : Hid (zs.drop n ≠ []) := List.length_pos_iff.1 (by rw [List.length_drop]; omega)
  obtain ⟨a, m, hf⟩ : ∃ (a : Int) (m : Nat), Cx.fst 4 (zs.drop n) = (a, (m : Int)) := by
    have := Cx.fst_bd 4 (zs.drop n) HN.out
    exact ⟨_, (Cx.fst 4 (zs.drop n)).2.toNat, Prod.ext rfl (by simp only; omega)⟩
  have HF : Hid (Cx.fst 4 (zs.drop n) = (a, (m : Int))) := hf
  have hcn : ¬ cap = n := by omega
  have HC : Hid (Rd .u8 w (.slice (some ⟨b, off + n, none⟩) (zs.length - n) (cap - n)) (zs.drop n)) := HR.out.cut (by omega)
  have hcm : cap ≤ 9223372036854775807 := hm
  rw [hf]
  clear hb hc hf hm
  have hmt := m_first4
  have hnt := n_first4
  go_enter Tryz.func52, Tryz.ntmps52
  go_wp2_with fail
  refine (coderOf_4 _).mono ?_
  rintro e w' ⟨rfl, rfl⟩
  go_wp2_with fail
  first | go_region_with (go_at_call 199; refine (fst4_any _ (zs.drop n) a m _ (HC.out.ext (by repeat (first | exact Below.refl _ _ | apply below_drewN | refine ext_alloc ?_ _ | apply Below.drew))) (HB.out.drop n) HN.out HF.out).mono ?_; rintro e w1 ⟨rfl, hb1⟩; have HW1 : Hid (Below w'.heap.size w' w1) := ext_trans (by repeat (first | exact Below.refl _ _ | apply below_drewN | refine ext_alloc ?_ _ | apply Below.drew)) hb1; clear hb1) | fail
  all_goals
    go_wp2
    go_ret2
    exact ⟨rfl, (by repeat (first | exact HW1.out | exact Below.refl _ _ | apply below_drewN | refine ext_alloc ?_ _ | apply Below.drew))⟩
end Go.Proofs.YtbmelpjmpomfcaaGreat

namespace Go.Proofs.YtbmelpjmpomfcaaGreat
open Go.RowKit

set_option maxRecDepth 100000 in
set_option maxHeartbeats 2000000 in
theorem Prev_1 (v : Value) (zs : List Int) (n : Nat) (w : World) (h : Rd .u8 w v zs) (hb : Byt zs) (h0 : 0 < n) (hn : n ≤ zs.length) :
    Calls Tryz.prog 127 #[.int .i64 1, v, .int .i64 n] w fun e w' => e = .returned (.tuple #[.int .i64 (Cx.lst 1 (zs.take n)).1, .int .i64 (Cx.lst 1 (zs.take n)).2]) ∧ Below w.heap.size w w' := by
  have HR : Hid (Rd .u8 w v zs) := h
  have HB : Hid (Byt zs) := hb
  have hlen := h.len
  obtain ⟨ao, cap, rfl, hl, hm, hc⟩ := h
  obtain ⟨b, off, rfl, _⟩ := hc (List.length_pos_iff.1 (by omega))
  have HN : Hid (zs.take n ≠ []) := List.length_pos_iff.1 (by rw [List.length_take]; omega)
  have hcm : cap ≤ 9223372036854775807 := hm
  have hnc : n ≤ cap := by omega
  have HX : Hid (∀ w' : World, Below w.heap.size w w' → Calls Tryz.prog 173 #[.agg #[], .slice (some ⟨b, off, none⟩) n cap] w' fun e w'' => e = .returned (.tuple #[.int .i64 (Cx.lst 1 (zs.take n)).1, .int .i64 (Cx.lst 1 (zs.take n)).2]) ∧ Below w'.heap.size w' w'') := fun w' hw => lst1_any (.slice (some ⟨b, off, none⟩) n cap) (zs.take n) w' ((HR.out.take n hn).ext hw) (HB.out.take n) HN.out
  generalize (Cx.lst 1 (zs.take n)).1 = x at *
  generalize (Cx.lst 1 (zs.take n)).2 = y at *
  clear hb hc hm
  have hmt := m_last1
  have hnt := n_last1
  go_enter Tryz.func127, Tryz.ntmps127
  go_wp2_with fail
  refine (coderOf_1 _).mono ?_
  rintro e w' ⟨rfl, rfl⟩
  go_wp2_with fail
  first | go_region_with (go_at_call 173; refine (HX.out _ (by repeat (first | exact Below.refl _ _ | apply below_drewN | refine ext_alloc ?_ _ | apply Below.drew))).mono ?_; rintro e w1 ⟨rfl, hb1⟩; have HW1 : Hid (Below w'.heap.size w' w1) := ext_trans (by repeat (first | exact Below.refl _ _ | apply below_drewN | refine ext_alloc ?_ _ | apply Below.drew)) hb1; clear hb1) | fail
  all_goals
    go_wp2
    go_ret2
    exact ⟨rfl, (by repeat (first | exact HW1.out | exact Below.refl _ _ | apply below_drewN | refine ext_alloc ?_ _ | apply Below.drew))⟩

set_option maxRecDepth 100000 in
set_option maxHeartbeats 2000000 in
theorem Prev_2 (v : Value) (zs : List Int) (n : Nat) (w : World) (h : Rd .u8 w v zs) (hb : Byt zs) (h0 : 0 < n) (hn : n ≤ zs.length) :
    Calls Tryz.prog 127 #[.int .i64 2, v, .int .i64 n] w fun e w' => e = .returned (.tuple #[.int .i64 (Cx.lst 2 (zs.take n)).1, .int .i64 (Cx.lst 2 (zs.take n)).2]) ∧ Below w.heap.size w w' := by
  have HR : Hid (Rd .u8 w v zs) := h
  have HB : Hid (Byt zs) := hb
  have hlen := h.len
  obtain ⟨ao, cap, rfl, hl, hm, hc⟩ := h
  obtain ⟨b, off, rfl, _⟩ := hc (List.length_pos_iff.1 (by omega))
  have HN : Hid (zs.take n ≠ []) := List.length_pos_iff.1 (by rw [List.length_take]; omega)
  have hcm : cap ≤ 9223372036854775807 := hm
  have hnc : n ≤ cap := by omega
  have HX : Hid (∀ w' : World, Below w.heap.size w w' → Calls Tryz.prog 188 #[.agg #[.int .i64 0], .slice (some ⟨b, off, none⟩) n cap] w' fun e w'' => e = .returned (.tuple #[.int .i64 (Cx.lst 2 (zs.take n)).1, .int .i64 (Cx.lst 2 (zs.take n)).2]) ∧ Below w'.heap.size w' w'') := fun w' hw => lst2_any (.slice (some ⟨b, off, none⟩) n cap) (zs.take n) w' ((HR.out.take n hn).ext hw) (HB.out.take n) HN.out
  generalize (Cx.lst 2 (zs.take n)).1 = x at *
  generalize (Cx.lst 2 (zs.take n)).2 = y at *
  clear hb hc hm
  have hmt := m_last2
  have hnt := n_last2
  go_enter Tryz.func127, Tryz.ntmps127
  go_wp2_with fail
  refine (coderOf_2 _).mono ?_
  rintro e w' ⟨rfl, rfl⟩
  go_wp2_with fail
  first | go_region_with (go_at_call 188; refine (HX.out _ (by repeat (first | exact Below.refl _ _ | apply below_drewN | refine ext_alloc ?_ _ | apply Below.drew))).mono ?_; rintro e w1 ⟨rfl, hb1⟩; have HW1 : Hid (Below w'.heap.size w' w1) := ext_trans (by repeat (first | exact Below.refl _ _ | apply below_drewN | refine ext_alloc ?_ _ | apply Below.drew)) hb1; clear hb1) | fail
  all_goals
    go_wp2
    go_ret2
    exact ⟨rfl, (by repeat (first | exact HW1.out | exact Below.refl _ _ | apply below_drewN | refine ext_alloc ?_ _ | apply Below.drew))⟩

set_option maxRecDepth 100000 in
set_option maxHeartbeats 2000000 in
theorem Prev_3 (v : Value) (zs : List Int) (n : Nat) (w : World) (h : Rd .u8 w v zs) (hb : Byt zs) (h0 : 0 < n) (hn : n ≤ zs.length) :
    Calls Tryz.prog 127 #[.int .i64 3, v, .int .i64 n] w fun e w' => e = .returned (.tuple #[.int .i64 (Cx.lst 3 (zs.take n)).1, .int .i64 (Cx.lst 3 (zs.take n)).2]) ∧ Below w.heap.size w w' := by
  have HR : Hid (Rd .u8 w v zs) := h
  have HB : Hid (Byt zs) := hb
  have hlen := h.len
  obtain ⟨ao, cap, rfl, hl, hm, hc⟩ := h
  obtain ⟨b, off, rfl, _⟩ := hc (List.length_pos_iff.1 (by omega))
  have HN : Hid (zs.take n ≠ []) := List.length_pos_iff.1 (by rw [List.length_take]; omega)
  have hcm : cap ≤ 9223372036854775807 := hm
  have hnc : n ≤ cap := by omega
  have HX : Hid (∀ w' : World, Below w.heap.size w w' → Calls Tryz.prog 188 #[.agg #[.int .i64 1], .slice (some ⟨b, off, none⟩) n cap] w' fun e w'' => e = .returned (.tuple #[.int .i64 (Cx.lst 3 (zs.take n)).1, .int .i64 (Cx.lst 3 (zs.take n)).2]) ∧ Below w'.heap.size w' w'') := fun w' hw => lst3_any (.slice (some ⟨b, off, none⟩) n cap) (zs.take n) w' ((HR.out.take n hn).ext hw) (HB.out.take n) HN.out
  generalize (Cx.lst 3 (zs.take n)).1 = x at *
  generalize (Cx.lst 3 (zs.take n)).2 = y at *
  clear hb hc hm
  have hmt := m_last2
  have hnt := n_last2
  go_enter Tryz.func127, Tryz.ntmps127
  go_wp2_with fail
  refine (coderOf_3 _).mono ?_
  rintro e w' ⟨rfl, rfl⟩
  go_wp2_with fail
  first | go_region_with (go_at_call 188; refine (HX.out _ (by repeat (first | exact Below.refl _ _ | apply below_drewN | refine ext_alloc ?_ _ | apply Below.drew))).mono ?_; rintro e w1 ⟨rfl, hb1⟩; have HW1 : Hid (Below w'.heap.size w' w1) := ext_trans (by repeat (first | exact Below.refl _ _ | apply below_drewN | refine ext_alloc ?_ _ | apply Below.drew)) hb1; clear hb1) | fail
  all_goals
    go_wp2
    go_ret2
    exact ⟨rfl, (by repeat (first | exact HW1.out | exact Below.refl _ _ | apply below_drewN | refine ext_alloc ?_ _ | apply Below.drew))⟩

set_option maxRecDepth 100000 in
set_option maxHeartbeats 2000000 in
theorem Prev_4 (v : Value) (zs : List Int) (n : Nat) (w : World) (h : Rd .u8 w v zs) (hb : Byt zs) (h0 : 0 < n) (hn : n ≤ zs.length) :
    Calls Tryz.prog 127 #[.int .i64 4, v, .int .i64 n] w fun e w' => e = .returned (.tuple #[.int .i64 (Cx.lst 4 (zs.take n)).1, .int .i64 (Cx.lst 4 (zs.take n)).2]) ∧ Below w.heap.size w w' := by
  have HR : Hid (Rd .u8 w v zs) := h
  have HB : Hid (Byt zs) := hb
  have hlen := h.len
  obtain ⟨ao, cap, rfl, hl, hm, hc⟩ := h
  obtain ⟨b, off, rfl, _⟩ := hc (List.length_pos_iff.1 (by omega))
  have HN : Hid (zs.take n ≠ []) := List.length_pos_iff.1 (by rw [List.length_take]; omega)
  have hcm : cap ≤ 9223372036854775807 := hm
  have hnc : n ≤ cap := by omega
  have HX : Hid (∀ w' : World, Below w.heap.size w w' → Calls Tryz.prog 200 #[.agg #[], .slice (some ⟨b, off, none⟩) n cap] w' fun e w'' => e = .returned (.tuple #[.int .i64 (Cx.lst 4 (zs.take n)).1, .int .i64 (Cx.lst 4 (zs.take n)).2]) ∧ Below w'.heap.size w' w'') := fun w' hw => lst4_any (.slice (some ⟨b, off, none⟩) n cap) (zs.take n) w' ((HR.out.take n hn).ext hw) (HB.out.take n) HN.out
  generalize (Cx.lst 4 (zs.take n)).1 = x at *
  generalize (Cx.lst 4 (zs.take n)).2 = y at *
  clear hb hc hm
  have hmt := m_last4
  have hnt := n_last4
  go_enter Tryz.func127, Tryz.ntmps127
  go_wp2_with fail
  refine (coderOf_4 _).mono ?_
  rintro e w' ⟨rfl, rfl⟩
  go_wp2_with fail
  first | go_region_with (go_at_call 200; refine (HX.out _ (by repeat (first | exact Below.refl _ _ | apply below_drewN | refine ext_alloc ?_ _ | apply Below.drew))).mono ?_; rintro e w1 ⟨rfl, hb1⟩; have HW1 : Hid (Below w'.heap.size w' w1) := ext_trans (by repeat (first | exact Below.refl _ _ | apply below_drewN | refine ext_alloc ?_ _ | apply Below.drew)) hb1; clear hb1) | fail
  all_goals
    go_wp2
    go_ret2
    exact ⟨rfl, (by repeat (first | exact HW1.out | exact Below.refl _ _ | apply below_drewN | refine ext_alloc ?_ _ | apply Below.drew))⟩
end Go.Proofs.YtbmelpjmpomfcaaGreat

namespace Go.Proofs.YtbmelpjmpomfcaaGreat.P
open Go.RowKit

def sg (a k : Int) : Rs := ⟨1, k, if a = 10 ∨ a = 13 then 1 else 0, decide (a = 10), decide (a = 13)⟩
theorem size_nn (enc a : Int) : 0 ≤ Cx.size enc a := by unfold Cx.size; split <;> omega
theorem sg_ok (a k : Int) (h : 0 ≤ k) : Rs.Ok (sg a k) := by
  unfold sg
  refine ⟨by simp, h, ?_, ?_, fun h => by simp at h⟩
  · simp only; split <;> omega
  · simp only [decide_eq_true_eq]; intro e; rw [if_pos (.inl e)]; omega
def aA (enc : Int) : Alg Int Rs where
  zero := Rs.zero
  add := Rs.add
  meas := fun a => sg a (Cx.size enc a)
  key := Rs.key
  Ok := Rs.Ok
  okz := Rs.ok_zero
  okm := fun a => sg_ok a _ (size_nn enc a)
  oka := fun _ _ ha hb => Rs.ok_add ha hb
  assoc := Rs.assoc
  zadd := fun a _ => Rs.zadd a
  addz := Rs.addz
  mono := Rs.mono
  keyz := fun k => by unfold Rs.key Rs.zero; simp
def spn (enc : Int) (l : List Int) : Rs := (aA enc).su l
theorem spn_nil (enc : Int) : spn enc [] = Rs.zero := rfl
theorem spn_app (enc : Int) (a b : List Int) : spn enc (a ++ b) = Rs.add (spn enc a) (spn enc b) := (aA enc).su_app a b
theorem spn_snoc (enc : Int) (a : List Int) (x : Int) : spn enc (a ++ [x]) = Rs.add (spn enc a) (sg x (Cx.size enc x)) := (aA enc).su_snoc a x
theorem spn_cons (enc : Int) (x : Int) (l : List Int) : spn enc (x :: l) = Rs.add (sg x (Cx.size enc x)) (spn enc l) := (aA enc).su_cons x l
theorem spn_ok (enc : Int) (l : List Int) : Rs.Ok (spn enc l) := (aA enc).ok l
theorem add_as (x y : Rs) (hx : Rs.Ok x) (hy : Rs.Ok y) : (Rs.add x y).a = x.a + y.a ∧ (Rs.add x y).s = x.s + y.s := by
  unfold Rs.add
  by_cases h1 : x.a = 0
  · rw [if_pos h1, hx.z h1]; exact ⟨(Int.zero_add _).symm, (Int.zero_add _).symm⟩
  · rw [if_neg h1]
    by_cases h2 : y.a = 0
    · rw [if_pos h2, hy.z h2]; exact ⟨(Int.add_zero _).symm, (Int.add_zero _).symm⟩
    · rw [if_neg h2]; exact ⟨rfl, rfl⟩
theorem spn_as (enc : Int) (l : List Int) (h : ∀ a ∈ l, Cx.fits enc a = true) : (spn enc l).a = l.length ∧ (spn enc l).s = (Cx.encB enc l).length := by
  induction l with
  | nil => exact ⟨rfl, rfl⟩
  | cons x l ih =>
    obtain ⟨i1, i2⟩ := ih (fun a ha => h a (List.mem_cons_of_mem _ ha))
    obtain ⟨k1, k2⟩ := add_as (sg x (Cx.size enc x)) (spn enc l) (sg_ok x _ (size_nn enc x)) (spn_ok enc l)
    rw [spn_cons, k1, k2, i1, i2, Cx.encB_cons, List.length_append, List.length_cons]
    have e : Cx.size enc x = (Cx.put enc x).length := by unfold Cx.size; rw [if_pos (h x List.mem_cons_self)]
    refine ⟨?_, ?_⟩
    · show (1 : Int) + _ = _
      omega
    · show Cx.size enc x + _ = _
      rw [e]; omega

theorem single_any (a k : Int) (w : World) : Calls Tryz.prog 71 #[.int .i64 a, .int .i64 k] w fun e w' => e = .returned (.agg #[.int .i64 (sg a k).a, .int .i64 (sg a k).s, .int .i64 (sg a k).b, .bool (sg a k).lf, .bool (sg a k).cr]) ∧ Below w.heap.size w w' := by
  by_cases h1 : a = 10
  · subst h1
    go_enter Tryz.func71, Tryz.ntmps71
    go_wp2_with fail
    exact bodyPost_ret (v := .agg #[.int .i64 1, .int .i64 k, .int .i64 1, .bool true, .bool false]) (by simp [results, Tryz.results71, go_sem]) rfl ⟨rfl, by repeat (first | exact Below.refl _ _ | refine ext_alloc ?_ _)⟩
  by_cases h2 : a = 13
  · subst h2
    go_enter Tryz.func71, Tryz.ntmps71
    go_wp2_with fail
    exact bodyPost_ret (v := .agg #[.int .i64 1, .int .i64 k, .int .i64 1, .bool false, .bool true]) (by simp [results, Tryz.results71, go_sem]) rfl ⟨rfl, by repeat (first | exact Below.refl _ _ | refine ext_alloc ?_ _)⟩
  · have e : sg a k = ⟨1, k, 0, false, false⟩ := by unfold sg; rw [if_neg (by omega)]; simp [h1, h2]
    have b1 : (a == 10) = false := by simp [h1]
    have b2 : (a == 13) = false := by simp [h2]
    rw [e]
    clear e
    go_enter Tryz.func71, Tryz.ntmps71
    go_wp2_with fail
    exact bodyPost_ret (v := .agg #[.int .i64 1, .int .i64 k, .int .i64 0, .bool false, .bool false]) (by simp [results, Tryz.results71, go_sem]) rfl ⟨rfl, by repeat (first | exact Below.refl _ _ | refine ext_alloc ?_ _)⟩

def tg (pl k : Int) : Int := if pl = -1 then -1 else pl + k
theorem tag_any (x : It) (k : Int) (w : World) (h0 : -1 ≤ x.pl) (hk : 0 ≤ k) (h1 : x.pl + k ≤ 9223372036854775807) : Calls Tryz.prog 101 #[.agg #[.slice x.p x.n x.c, .int .i64 x.pl, .int .i64 x.sp.a, .int .i64 x.sp.s, .int .i64 x.sp.b, .bool x.sp.lf, .bool x.sp.cr], .int .i64 k] w fun e w' => e = .returned (.int .i64 (tg x.pl k)) ∧ Below w.heap.size w w' := by
  obtain ⟨p, n, c, pl, sp, ok⟩ := x
  simp only at *
  by_cases h : pl = -1
  · have e : tg pl k = -1 := by unfold tg; rw [if_pos h]
    rw [e, h]
    go_enter Tryz.func101, Tryz.ntmps101
    go_wp2_with fail
    go_ret
    exact ⟨rfl, ext_alloc (Below.refl _ _) _⟩
  · have e : tg pl k = pl + k := by unfold tg; rw [if_neg h]
    have hb : (pl == -1) = false := by simp [h]
    rw [e]
    clear e
    go_enter Tryz.func101, Tryz.ntmps101
    go_wp2_with fail
    go_ret
    exact ⟨rfl, ext_alloc (Below.refl _ _) _⟩

theorem Next_any (enc : Int) (he : Cx.En enc) (v : Value) (zs : List Int) (n : Nat) (w : World) (h : Rd .u8 w v zs) (hb : Byt zs) (hn : n < zs.length) :
    Calls Tryz.prog 52 #[.int .i64 enc, v, .int .i64 n] w fun e w' => e = .returned (.tuple #[.int .i64 (Cx.fst enc (zs.drop n)).1, .int .i64 (Cx.fst enc (zs.drop n)).2]) ∧ Below w.heap.size w w' := by
  rcases he with rfl | rfl | rfl | rfl
  · exact Next_1 v zs n w h hb hn
  · exact Next_2 v zs n w h hb hn
  · exact Next_3 v zs n w h hb hn
  · exact Next_4 v zs n w h hb hn
theorem Prev_any (enc : Int) (he : Cx.En enc) (v : Value) (zs : List Int) (n : Nat) (w : World) (h : Rd .u8 w v zs) (hb : Byt zs) (h0 : 0 < n) (hn : n ≤ zs.length) :
    Calls Tryz.prog 127 #[.int .i64 enc, v, .int .i64 n] w fun e w' => e = .returned (.tuple #[.int .i64 (Cx.lst enc (zs.take n)).1, .int .i64 (Cx.lst enc (zs.take n)).2]) ∧ Below w.heap.size w w' := by
  rcases he with rfl | rfl | rfl | rfl
  · exact Prev_1 v zs n w h hb h0 hn
  · exact Prev_2 v zs n w h hb h0 hn
  · exact Prev_3 v zs n w h hb h0 hn
  · exact Prev_4 v zs n w h hb h0 hn
theorem endsWith_any (enc : Int) (he : Cx.En enc) (v : Value) (zs : List Int) (a : Int) (w : World) (h : Rd .u8 w v zs) (hb : Byt zs) (h0 : 0 < zs.length) :
    Calls Tryz.prog 106 #[.int .i64 enc, v, .int .i64 a] w fun e w' => e = .returned (.bool (decide ((Cx.lst enc zs).1 = a))) ∧ Below w.heap.size w w' := by
  have PV := hidIt (Prev_any enc he v zs zs.length w h hb h0 (Nat.le_refl _))
  rw [List.take_length] at PV
  obtain ⟨ao, cap, rfl, _⟩ := h
  generalize (Cx.lst enc zs).1 = q at *
  generalize (Cx.lst enc zs).2 = q2 at *
  by_cases hq : q = a
  · have hq' : (q == a) = true := by simp [hq]
    have hd : decide (q = a) = true := by simp [hq]
    rw [hd]
    clear hq hd
    go_enter Tryz.func106, Tryz.ntmps106
    go_wp2_with (go_at_call 127; refine PV.out.mono ?_; rintro e w1 ⟨rfl, hb1⟩; have HB1 := hidIt hb1; clear hb1)
    go_ret
    exact ⟨rfl, HB1.out⟩
  · have hq' : (q == a) = false := by simp [hq]
    have hd : decide (q = a) = false := by simp [hq]
    rw [hd]
    clear hd
    go_enter Tryz.func106, Tryz.ntmps106
    go_wp2_with (go_at_call 127; refine PV.out.mono ?_; rintro e w1 ⟨rfl, hb1⟩; have HB1 := hidIt hb1; clear hb1)
    go_ret
    exact ⟨rfl, HB1.out⟩
end Go.Proofs.YtbmelpjmpomfcaaGreat.P

namespace Go.Proofs.YtbmelpjmpomfcaaGreat.P
open Go.RowKit

def off (enc : Int) (zs : List Int) (j : Nat) : Nat := (Cx.encB enc ((Cx.dec enc zs).take j)).length
theorem off_zero (enc : Int) (zs : List Int) : off enc zs 0 = 0 := rfl
theorem off_le (enc : Int) (he : Cx.En enc) (zs : List Int) (hB : Byt zs) (j : Nat) (h : j ≤ (Cx.dec enc zs).length) : off enc zs j ≤ zs.length := (Cx.dec_cut enc he j zs hB h).1
theorem off_step (enc : Int) (he : Cx.En enc) (zs : List Int) (hB : Byt zs) (j : Nat) (h : j < (Cx.dec enc zs).length) :
    off enc zs j < zs.length ∧ ∃ (a : Int) (s : Nat), Cx.fst enc (zs.drop (off enc zs j)) = (a, (s : Int)) ∧ (Cx.dec enc zs)[j]? = some a ∧ off enc zs (j + 1) = off enc zs j + s ∧ 1 ≤ s ∧ Cx.fits enc a = true ∧ Cx.size enc a = s := by
  obtain ⟨h1, h2, h3⟩ := Cx.dec_cut enc he j zs hB (by omega)
  have e0 : (Cx.encB enc ((Cx.dec enc zs).take j)).length = off enc zs j := rfl
  rw [e0] at h1 h2 h3
  have hne : zs.drop (off enc zs j) ≠ [] := by
    intro e
    rw [e, Cx.dec_nil] at h2
    have := congrArg List.length h2
    rw [List.length_nil, List.length_drop] at this
    omega
  have hlt : off enc zs j < zs.length := by
    have : 0 < (zs.drop (off enc zs j)).length := List.length_pos_iff.2 hne
    rw [List.length_drop] at this
    omega
  obtain ⟨a, s, hf, s1, s2, hp, hl, hfit, hd⟩ := Cx.dec_step enc he (zs.drop (off enc zs j)) (hB.drop _) hne
  have hj : (Cx.dec enc zs)[j]? = some a := by
    have := congrArg (fun l => l[0]?) h2
    simp only [List.getElem?_drop, Nat.add_zero] at this
    rw [← this, hd]; rfl
  refine ⟨hlt, a, s, hf, hj, ?_, s1, hfit, ?_⟩
  · show (Cx.encB enc ((Cx.dec enc zs).take (j + 1))).length = _
    rw [List.take_add_one, hj, Option.toList_some, Cx.encB_app, List.length_append, e0]
    congr 1
    simp [Cx.encB, hl]
  · unfold Cx.size; rw [if_pos hfit, hl]
theorem off_one (enc : Int) (he : Cx.En enc) (zs : List Int) (hB : Byt zs) (h : zs.length = (Cx.dec enc zs).length) : ∀ j, j ≤ (Cx.dec enc zs).length → off enc zs j = j := by
  have lo : ∀ j, j ≤ (Cx.dec enc zs).length → j ≤ off enc zs j := by
    intro j
    induction j with
    | zero => intro _; exact Nat.zero_le _
    | succ j ih =>
      intro hj
      obtain ⟨_, a, s, _, _, h1, h2, _⟩ := off_step enc he zs hB j (by omega)
      have := ih (by omega)
      omega
  have hi : ∀ d j, j + d = (Cx.dec enc zs).length → off enc zs j + d ≤ zs.length := by
    intro d
    induction d with
    | zero => intro j hj; rw [Nat.add_zero] at hj ⊢; exact off_le enc he zs hB j (by omega)
    | succ d ih =>
      intro j hj
      obtain ⟨_, a, s, _, _, h1, h2, _⟩ := off_step enc he zs hB j (by omega)
      have := ih (j + 1) (by omega)
      omega
  intro j hj
  have h1 := lo j hj
  have h2 := hi ((Cx.dec enc zs).length - j) j (by omega)
  omega

set_option maxRecDepth 100000 in
set_option maxHeartbeats 1000000 in
theorem skip_any (enc : Int) (he : Cx.En enc) (x : It) (zs : List Int) (n : Nat) (w : World) (hR : Rd .u8 w (.slice x.p x.n x.c) zs) (hB : Byt zs) (hl : zs.length ≤ 4611686018427387904) (ha : x.sp.a = (Cx.dec enc zs).length) (hn : n ≤ (Cx.dec enc zs).length) :
    Calls Tryz.prog 100 #[.agg #[.slice x.p x.n x.c, .int .i64 x.pl, .int .i64 x.sp.a, .int .i64 x.sp.s, .int .i64 x.sp.b, .bool x.sp.lf, .bool x.sp.cr], .int .i64 enc, .int .i64 n] w fun e w' => e = .returned (.int .i64 (off enc zs n : Nat)) ∧ Below w.heap.size w w' := by
  have hxn : x.n = zs.length := by obtain ⟨_, _, e, _⟩ := hR; simp only [Value.slice.injEq] at e; exact e.2.1
  obtain ⟨p, xn, c, pl, ⟨a, s, b, lf, cr⟩, ok⟩ := x
  simp only at *
  subst hxn
  have hdl : (Cx.dec enc zs).length ≤ zs.length := Cx.dec_len enc _ _
  by_cases h1 : zs.length = (Cx.dec enc zs).length
  · have HE := hidIt (off_one enc he zs hB h1 n hn)
    have hz : ((zs.length : Int) == a) = true := by rw [ha, h1]; simp
    clear ha
    rw [HE.out]
    go_enter Tryz.func100, Tryz.ntmps100
    go_wp2_with fail
    go_ret
    exact ⟨rfl, ext_alloc (Below.refl _ _) _⟩
  · have hz : ((zs.length : Int) == a) = false := by rw [ha]; simp; omega
    have hz' : ¬ (zs.length : Int) = a := by rw [ha]; omega
    obtain ⟨w0, hw0⟩ : ∃ w0, w0 = w.alloc (.cells #[.slice p zs.length c, .int .i64 pl, .int .i64 a, .int .i64 s, .int .i64 b, .bool lf, .bool cr] 122) := ⟨_, rfl⟩
    have hb0 : Below w.heap.size w w0 := by rw [hw0]; exact ext_alloc (Below.refl _ _) _
    have HB0 := hidIt hb0
    have hX : w0.heap[w.heap.size]? = some (.cells #[.slice p zs.length c, .int .i64 pl, .int .i64 a, .int .i64 s, .int .i64 b, .bool lf, .bool cr] 122 (0, 0)) := by rw [hw0]; exact heap_alloc_new _ _
    have hzl : w.heap.size < w0.heap.size := (Array.getElem?_eq_some_iff.1 hX).1
    have d0 : w0.cell? ⟨w.heap.size, 0, none⟩ = some (.slice p zs.length c) := by rw [cell_of_row w0 _ _ _ _ _ hX]; rfl
    have HC : Hid (∀ w', Below w0.heap.size w0 w' → w'.cell? ⟨w.heap.size, 0, none⟩ = some (.slice p zs.length c) ∧ Rd .u8 w' (.slice p zs.length c) zs) := fun w' h => ⟨(h.cell (p := ⟨w.heap.size, 0, none⟩) hzl).trans d0, (hR.ext hb0).ext h⟩
    have ST := hidIt (off_step enc he zs hB)
    have HLE := hidIt (off_le enc he zs hB)
    have HBY := hidIt hB
    have HEN := hidIt he
    clear ha hX d0 hR hb0 hB he
    go_enter Tryz.func100, Tryz.ntmps100
    go_upto_region 4 with fail
    rw [← hw0]
    clear hw0
    go_wp2_with fail
    go_loopg [7, 19] n (fun gk k p wr => ∃ j : Nat, j + gk = n ∧ k = .int .i64 (off enc zs j : Nat) ∧ p = .int .i64 (j : Nat) ∧ Hid (Below w0.heap.size w0 wr))
    case atStart => exact ⟨0, by omega, rfl, rfl, Below.refl _ _⟩
    case round =>
      obtain ⟨j, hj, rfl, rfl, HB⟩ := hrel
      by_cases hi : j < n
      · have hi' : (j : Int) < (n : Int) := by omega
        obtain ⟨q1, q, sz, hf, hq, ho, hs1, hfit, hsz⟩ := ST.out j (by omega)
        have hle := HLE.out (j + 1) (by omega)
        obtain ⟨c0, hrd⟩ := HC.out wr HB.out
        have NX := hidIt (Next_any enc HEN.out _ zs (off enc zs j) wr hrd HBY.out q1)
        rw [hf] at NX
        have HO := hidIt ho
        rw [ho] at hle
        clear hrd ho hq hfit hsz hf
        generalize off enc zs j = k at *
        go_wp2_with (go_at_call 52; refine NX.out.mono ?_; clear c0; rintro e w1 ⟨rfl, hb1⟩; have HB1 := hidIt (ext_trans HB.out hb1); clear hb1)
        go_roundg (n - (j + 1))
        case rel => exact ⟨j + 1, by omega, by rw [HO.out]; go_num, by go_num, HB1.out⟩
        case measure => omega
      · have hi' : ¬ (j : Int) < (n : Int) := by omega
        obtain rfl : j = n := by omega
        have HBE := hidIt (ext_trans HB0.out HB.out)
        go_wp2_with fail
        go_ret
        exact ⟨rfl, HBE.out⟩
end Go.Proofs.YtbmelpjmpomfcaaGreat.P

namespace Go.Proofs.YtbmelpjmpomfcaaGreat.P
open Go.RowKit

def bhd (s h : Rs) (nx : Int) : Rs := ⟨s.a - h.a, s.s - h.s, s.b - h.b + (if h.cr = true ∧ nx = 10 then 1 else 0), decide (nx = 10), s.cr⟩
theorem spn_lf (enc y : Int) (l : List Int) : (spn enc (y :: l)).lf = decide (y = 10) := by
  rw [spn_cons]
  unfold Rs.add
  rw [if_neg (by simp [sg])]
  split
  · rfl
  · rfl
theorem spn_pos (enc : Int) (l : List Int) (h : l ≠ []) : 0 < (spn enc l).a := by
  cases l with
  | nil => exact absurd rfl h
  | cons y l =>
    rw [spn_cons, (add_as _ _ (sg_ok y _ (size_nn enc y)) (spn_ok enc l)).1]
    have := (spn_ok enc l).a0
    show 0 < (1 : Int) + _
    omega
theorem spn_b (enc : Int) (l : List Int) : (spn enc l).b ≤ l.length := by
  induction l with
  | nil => exact Int.le_refl _
  | cons x l ih =>
    rw [spn_cons, List.length_cons]
    have k : (sg x (Cx.size enc x)).b ≤ 1 := by unfold sg; simp only; split <;> omega
    have m := Rs.mlt_range (sg x (Cx.size enc x)) (spn enc l)
    unfold Rs.add
    split
    · omega
    · split
      · omega
      · simp only; omega
theorem bhd_spn (enc : Int) (h : List Int) (y : Int) (r : List Int) (hh : h ≠ []) : bhd (spn enc (h ++ y :: r)) (spn enc h) y = spn enc (y :: r) := by
  have p1 := spn_pos enc h hh
  have p2 := spn_pos enc (y :: r) (by simp)
  have hl := spn_lf enc y r
  rw [spn_app]
  generalize spn enc h = a at *
  generalize spn enc (y :: r) = b at *
  unfold Rs.add
  rw [if_neg (by omega), if_neg (by omega)]
  unfold bhd Rs.mlt
  obtain ⟨b1, b2, b3, b4, b5⟩ := b
  simp only at *
  subst hl
  simp only [Rs.mk.injEq, decide_eq_true_eq]
  refine ⟨by omega, by omega, ?_, by simp, by simp⟩
  split <;> omega

set_option maxRecDepth 100000 in
set_option maxHeartbeats 1000000 in
theorem behind_any (s h : Rs) (nx : Int) (w : World) (h1 : 0 ≤ s.a - h.a ∧ s.a ≤ 4611686018427387904 ∧ 0 ≤ h.a) (h2 : 0 ≤ s.s - h.s ∧ s.s ≤ 4611686018427387904 ∧ 0 ≤ h.s) (h3 : -1 ≤ s.b - h.b ∧ s.b ≤ 4611686018427387904 ∧ 0 ≤ h.b) :
    Calls Tryz.prog 103 #[.agg #[.int .i64 s.a, .int .i64 s.s, .int .i64 s.b, .bool s.lf, .bool s.cr], .agg #[.int .i64 h.a, .int .i64 h.s, .int .i64 h.b, .bool h.lf, .bool h.cr], .int .i64 nx] w fun e w' => e = .returned (.agg #[.int .i64 (bhd s h nx).a, .int .i64 (bhd s h nx).s, .int .i64 (bhd s h nx).b, .bool (bhd s h nx).lf, .bool (bhd s h nx).cr]) ∧ Below w.heap.size w w' := by
  obtain ⟨a1, s1, b1, f1, r1⟩ := s
  obtain ⟨a2, s2, b2, f2, r2⟩ := h
  simp only at *
  have MT : Hid (∀ w', Calls Tryz.prog 70 #[.agg #[.int .i64 a2, .int .i64 s2, .int .i64 b2, .bool f2, .bool r2], .agg #[.int .i64 (a1 - a2), .int .i64 (s1 - s2), .int .i64 (b1 - b2), .bool (decide (nx = 10)), .bool r1]] w' fun e w'' => e = .returned (.bool (r2 && decide (nx = 10))) ∧ Below w'.heap.size w' w'') := fun w' => melt_any ⟨a2, s2, b2, f2, r2⟩ ⟨a1 - a2, s1 - s2, b1 - b2, decide (nx = 10), r1⟩ w'
  obtain ⟨w4, hw4⟩ : ∃ w4, w4 = (((w.alloc (.cells #[.int .i64 a1, .int .i64 s1, .int .i64 b1, .bool f1, .bool r1] 119)).alloc (.cells #[.int .i64 a2, .int .i64 s2, .int .i64 b2, .bool f2, .bool r2] 119)).alloc (.cells #[.int .i64 0, .int .i64 0, .int .i64 0, .bool false, .bool false] 119)).alloc (.cells #[.int .i64 (a1 - a2), .int .i64 (s1 - s2), .int .i64 (b1 - b2), .bool (decide (nx = 10)), .bool r1] 119) := ⟨_, rfl⟩
  have HB4 : Hid (Below w.heap.size w w4) := by unfold Hid; rw [hw4]; repeat (first | exact Below.refl _ _ | refine ext_alloc ?_ _)
  have K1 : Hid (Blk 119 w4 (w.heap.size + 3) ⟨a1 - a2, s1 - s2, b1 - b2, decide (nx = 10), r1⟩) := by
    unfold Hid Blk
    rw [hw4]
    have e : w.heap.size + 3 = (((w.alloc (.cells #[.int .i64 a1, .int .i64 s1, .int .i64 b1, .bool f1, .bool r1] 119)).alloc (.cells #[.int .i64 a2, .int .i64 s2, .int .i64 b2, .bool f2, .bool r2] 119)).alloc (.cells #[.int .i64 0, .int .i64 0, .int .i64 0, .bool false, .bool false] 119)).heap.size := by simp
    rw [e]; exact heap_alloc_new _ _
  have K2 : Hid (Blk 119 w4 (w.heap.size + 2) Rs.zero) := by
    unfold Hid
    rw [hw4]
    have e : w.heap.size + 2 = ((w.alloc (.cells #[.int .i64 a1, .int .i64 s1, .int .i64 b1, .bool f1, .bool r1] 119)).alloc (.cells #[.int .i64 a2, .int .i64 s2, .int .i64 b2, .bool f2, .bool r2] 119)).heap.size := by simp
    rw [e]
    exact (Blk.new 119 _ Rs.zero).ext (ext_alloc (Below.refl _ _) _)
  obtain ⟨nb, hnb⟩ : ∃ nb : Bool, nb = decide (nx = 10) := ⟨_, rfl⟩
  have HNB := hidIt hnb
  have hnb' : (nx == 10) = nb := by rw [hnb]; rfl
  unfold bhd
  simp only
  rw [← hnb] at hw4 MT K1 ⊢
  have EB : Hid ((if r2 = true ∧ nx = 10 then (1 : Int) else 0) = if (r2 && nb) = true then 1 else 0) := by unfold Hid; rw [hnb]; simp only [Bool.and_eq_true, decide_eq_true_eq]
  rw [EB.out]
  clear hnb EB
  generalize (r2 && nb) = mb at MT ⊢
  go_enter Tryz.func103, Tryz.ntmps103
  go_wp2_with fail
  rw [← hw4]
  clear hw4
  refine (MT.out w4).mono ?_
  rintro e w5 ⟨rfl, hb5⟩
  have HB5 := hidIt (ext_trans HB4.out hb5)
  have G1 := hidIt (K1.out.ext hb5)
  have G2 := hidIt (K2.out.ext hb5)
  clear hb5 MT K1 K2 HB4
  obtain ⟨c0, _, _, _, cf⟩ := G1.out.cells
  obtain ⟨d0, _, _, _, df⟩ := G2.out.cells
  have l1 := G1.out.lt
  have l2 := G2.out.lt
  simp only at c0 d0
  cases mb
  · go_wp2_with fail
    obtain ⟨p1, p2⟩ := G2.out.put ⟨a1 - a2, s1 - s2, b1 - b2, nb, r1⟩
    exact bodyPost_ret (v := .agg #[.int .i64 (a1 - a2), .int .i64 (s1 - s2), .int .i64 (b1 - b2), .bool nb, .bool r1]) (by simp [results, Tryz.results103, go_sem, d0]) rfl ⟨by simp, below_put HB5.out HB5.out.size p2 (by omega)⟩
  · go_wp2_with fail
    obtain ⟨n1, n2⟩ := set1 G1.out 2 (.int .i64 (b1 - b2 + 1))
    obtain ⟨p1, p2⟩ := (G2.out.other n2 (by omega)).put ⟨a1 - a2, s1 - s2, b1 - b2 + 1, nb, r1⟩
    have q1 : (w5.setCell ⟨w.heap.size + 3, 2, none⟩ (.int .i64 (b1 - b2 + 1))).heap.size = w5.heap.size := by simp
    exact bodyPost_ret (v := .agg #[.int .i64 (a1 - a2), .int .i64 (s1 - s2), .int .i64 (b1 - b2 + 1), .bool nb, .bool r1]) (by simp [results, Tryz.results103, go_sem, d0]) rfl ⟨by simp, below_put (below_put HB5.out HB5.out.size n2 (by omega)) (by rw [q1]; exact HB5.out.size) p2 (by omega)⟩
end Go.Proofs.YtbmelpjmpomfcaaGreat.P

namespace Go.Proofs.YtbmelpjmpomfcaaGreat

theorem Cx.put_byt (enc a : Int) (hf : Cx.fits enc a = true) : Byt (Cx.put enc a) := by
  have hfb : -256 ≤ a ∧ a ≤ 1114111 ∧ (enc = 4 → a ≤ 255) := by
    unfold Cx.fits Cx.isSc at hf
    repeat' split at hf
    all_goals simp at hf
    all_goals omega
  intro z hz
  unfold Cx.put Cx.put8 Cx.unit at hz
  repeat' split at hz
  all_goals simp at hz
  all_goals omega

theorem Cx.mean_put8 (a : Int) (h : Cx.isSc a = true) : Cx.mean (Cx.put8 a) = a := by
  have := (Cx.sc_iff a).1 h
  rcases (show a < 128 ∨ (128 ≤ a ∧ a < 2048) ∨ (2048 ≤ a ∧ a < 65536) ∨ 65536 ≤ a from by omega) with h | ⟨h, h'⟩ | ⟨h, h'⟩ | h
  · rw [Cx.put8_1 a h]; rfl
  · rw [Cx.put8_2 a h h']; simp only [Cx.mean]; omega
  · rw [Cx.put8_3 a h h']; simp only [Cx.mean]; omega
  · rw [Cx.put8_4 a h]; simp only [Cx.mean]; omega

theorem Cx.read1 (a : Int) (r : List Int) (h : Cx.isSc a = true) (hr : Byt r) : Cx.first8 (Cx.put 1 a ++ r) = (a, ((Cx.put 1 a).length : Int)) := by
  have hs := (Cx.sc_iff a).1 h
  have e : Cx.put 1 a = Cx.put8 a := by unfold Cx.put; rw [if_neg (by omega), if_pos rfl]
  have hb : Byt (Cx.put 1 a ++ r) := by
    intro z hz
    rcases List.mem_append.1 hz with hz | hz
    · exact Cx.put_byt 1 a (by unfold Cx.fits; rw [if_pos rfl, h, Bool.true_or]) z hz
    · exact hr z hz
  have ht : (Cx.put 1 a ++ r).take (Cx.put 1 a).length = Cx.put8 a := by rw [List.take_left', e]; rfl
  have hl := Cx.put_len 1 a
  have hm : Cx.mean ((Cx.put 1 a ++ r).take (Cx.put 1 a).length) = a := by rw [ht, Cx.mean_put8 a h]
  have hh : Cx.hitB (Cx.put 1 a ++ r) (Cx.put 1 a).length = true := by
    rw [Cx.hitB_iff _ _ a hm]
    refine ⟨by rw [List.length_append]; omega, h, by rw [e], ?_⟩
    rw [List.isPrefixOf_iff_prefix, e]
    exact List.prefix_append _ _
  rw [Cx.first8_hit _ hb _ hl.1 hl.2 hh, hm]

theorem Cx.wv_unit (enc u : Int) (r : List Int) (he : enc = 2 ∨ enc = 3) : Cx.wv (Cx.lowOf enc) (Cx.unit enc u ++ r) = u := by
  rcases he with rfl | rfl
  · simp only [Cx.wv, Cx.lowOf, Cx.unit, if_true, List.cons_append, List.nil_append, List.getElem?_cons_succ, List.getElem?_cons_zero, Option.getD_some]
    omega
  · simp only [Cx.wv, Cx.lowOf, Cx.unit, show ¬ ((3 : Int) = 2) from by decide, show ¬ ((1 : Int) = 0) from by decide, if_false, List.cons_append, List.nil_append, List.getElem?_cons_succ, List.getElem?_cons_zero, Option.getD_some]
    omega
theorem Cx.unit_len (enc u : Int) : (Cx.unit enc u).length = 2 := by unfold Cx.unit; split <;> rfl

theorem Cx.read2 (enc a : Int) (r : List Int) (h : Cx.isSc a = true) (he : enc = 2 ∨ enc = 3) : Cx.first16 (Cx.lowOf enc) (Cx.put enc a ++ r) = (a, ((Cx.put enc a).length : Int)) := by
  have hs := (Cx.sc_iff a).1 h
  by_cases hb : 65536 ≤ a
  · have e : Cx.put enc a = Cx.unit enc (55296 + (a - 65536) / 1024) ++ Cx.unit enc (56320 + a % 1024) := by
      unfold Cx.put; rw [if_neg (by omega), if_neg (by omega), if_neg (by omega), if_pos hb]
    have l1 := Cx.unit_len enc (55296 + (a - 65536) / 1024)
    have l2 := Cx.unit_len enc (56320 + a % 1024)
    rw [e, List.append_assoc]
    have e1 := Cx.wv_unit enc (55296 + (a - 65536) / 1024) (Cx.unit enc (56320 + a % 1024) ++ r) he
    have e2 : Cx.wv (Cx.lowOf enc) ((Cx.unit enc (55296 + (a - 65536) / 1024) ++ (Cx.unit enc (56320 + a % 1024) ++ r)).drop 2) = 56320 + a % 1024 := by
      rw [← l1, List.drop_left]; exact Cx.wv_unit enc _ r he
    have hP : Cx.isP (Cx.lowOf enc) (Cx.unit enc (55296 + (a - 65536) / 1024) ++ (Cx.unit enc (56320 + a % 1024) ++ r)) = true := by
      unfold Cx.isP
      rw [e1, e2]
      unfold Cx.hiU Cx.loU
      simp only [List.length_append, l1, l2, Bool.and_eq_true, decide_eq_true_eq]
      omega
    unfold Cx.first16
    rw [if_neg (by simp only [List.length_append, l1, l2]; omega), hP, if_pos rfl]
    unfold Cx.pairV
    rw [e1, e2, List.length_append, l1, l2]
    refine Prod.ext (by simp only; omega) rfl
  · have e : Cx.put enc a = Cx.unit enc a := by
      unfold Cx.put; rw [if_neg (by omega), if_neg (by omega), if_neg (by omega), if_neg hb]
    have l1 := Cx.unit_len enc a
    have e1 := Cx.wv_unit enc a r he
    rw [e]
    have hP : Cx.isP (Cx.lowOf enc) (Cx.unit enc a ++ r) = false := by
      unfold Cx.isP
      rw [e1]
      have : Cx.hiU a = false := by unfold Cx.hiU; simp; omega
      rw [this, Bool.and_false, Bool.false_and]
    unfold Cx.first16
    rw [if_neg (by simp only [List.length_append, l1]; omega), hP, if_neg (by simp), e1, l1]
    rfl

theorem Cx.read (enc a : Int) (r : List Int) (h : Cx.isSc a = true) (hf : Cx.fits enc a = true) (hr : Byt r) (he : enc = 1 ∨ enc = 2 ∨ enc = 3 ∨ enc = 4) : Cx.fst enc (Cx.put enc a ++ r) = (a, ((Cx.put enc a).length : Int)) := by
  rcases he with rfl | rfl | rfl | rfl
  · exact Cx.read1 a r h hr
  · exact Cx.read2 2 a r h (.inl rfl)
  · exact Cx.read2 3 a r h (.inr rfl)
  · have hs := (Cx.sc_iff a).1 h
    have e : Cx.put 4 a = [a] := by unfold Cx.put; rw [if_neg (by omega)]; rfl
    rw [e]; rfl

theorem Cx.read_all (enc : Int) (he : enc = 1 ∨ enc = 2 ∨ enc = 3 ∨ enc = 4) : ∀ l : List Int, (∀ a ∈ l, Cx.isSc a = true ∧ Cx.fits enc a = true) → Cx.dec enc (Cx.encB enc l) = l ∧ Byt (Cx.encB enc l) ∧ l.length ≤ (Cx.encB enc l).length := by
  intro l
  induction l with
  | nil => intro _; exact ⟨rfl, by intro z hz; simp [Cx.encB] at hz, by simp [Cx.encB]⟩
  | cons a l ih =>
    intro h
    obtain ⟨h1, h2⟩ := h a (by simp)
    obtain ⟨i1, i2, i3⟩ := ih (fun b hb => h b (by simp [hb]))
    have hl := Cx.put_len enc a
    have e : Cx.encB enc (a :: l) = Cx.put enc a ++ Cx.encB enc l := by simp [Cx.encB]
    have hr := Cx.read enc a (Cx.encB enc l) h1 h2 i2 he
    rw [e]
    refine ⟨?_, ?_, by rw [List.length_append, List.length_cons]; omega⟩
    · rw [Cx.dec_cons enc _ (List.length_pos_iff.1 (by rw [List.length_append]; omega)) a (Cx.put enc a).length hr, List.drop_left, i1]
    · intro z hz
      rcases List.mem_append.1 hz with hz | hz
      · exact Cx.put_byt enc a h2 z hz
      · exact i2 z hz
end Go.Proofs.YtbmelpjmpomfcaaGreat

namespace Go.Proofs.YtbmelpjmpomfcaaGreat
open Go.RowKit

theorem Cx.put_ne (enc a : Int) : Cx.put enc a ≠ [] := by
  unfold Cx.put Cx.put8 Cx.unit
  repeat' split
  all_goals simp
theorem Cx.fst_put16 (enc a : Int) (he : enc = 2 ∨ enc = 3) (hf : -256 ≤ a ∧ a ≤ 1114111) (hns : ¬ ((0 ≤ a ∧ a < 55296) ∨ (57343 < a ∧ a ≤ 1114111))) : Cx.fst enc (Cx.put enc a) = (a, ((Cx.put enc a).length : Int)) := by
  rw [Cx.fst_low enc _ he]
  by_cases h0 : a < 0
  · have hp : Cx.put enc a = [-1 - a] := by unfold Cx.put; rw [if_pos h0]
    rw [hp]
    unfold Cx.first16
    rw [if_pos (show [-1 - a].length = 1 from rfl)]
    simp [Cx.c0]
    omega
  · have hp : Cx.put enc a = Cx.unit enc a := by unfold Cx.put; rw [if_neg h0, if_neg (by omega), if_neg (by omega), if_neg (by omega)]
    have hl := Cx.unit_len enc a
    have hw := Cx.wv_unit enc a [] he
    rw [List.append_nil] at hw
    rw [hp]
    unfold Cx.first16
    rw [if_neg (by omega), hl]
    have hP : Cx.isP (Cx.lowOf enc) (Cx.unit enc a) = false := by unfold Cx.isP; rw [hl]; simp
    rw [hP, hw]
    rfl
theorem Cx.fst_put (enc a : Int) (he : Cx.En enc) (hf : Cx.fits enc a = true) : Cx.fst enc (Cx.put enc a) = (a, ((Cx.put enc a).length : Int)) := by
  by_cases hs : Cx.isSc a = true
  · have := Cx.read enc a [] hs hf (fun _ h => by cases h) he
    rwa [List.append_nil] at this
  · have hns : ¬ ((0 ≤ a ∧ a < 55296) ∨ (57343 < a ∧ a ≤ 1114111)) := fun h => hs ((Cx.sc_iff a).2 h)
    rcases he with rfl | rfl | rfl | rfl
    · have hf' : -256 ≤ a ∧ a ≤ -129 := by
        unfold Cx.fits at hf
        simp [hs] at hf
        omega
      have hp : Cx.put 1 a = [-1 - a] := by unfold Cx.put; rw [if_pos (by omega)]
      rw [hp]
      show Cx.first8 [-1 - a] = _
      rcases Cx.fst8_cases [-1 - a] with ⟨h1, h2, _⟩ | ⟨_, h2⟩
      · have hm : Cx.mtch [-1 - a] = 1 := by simp at h2; omega
        rw [Cx.mtch_eq] at hm
        split at hm
        · unfold Cx.rowN Cx.c0 at hm
          simp at hm
          repeat' split at hm
          all_goals omega
        · omega
      · rw [h2]
        simp [Cx.c0]
        omega
    · exact Cx.fst_put16 2 a (.inl rfl) (by unfold Cx.fits at hf; simp at hf; omega) hns
    · exact Cx.fst_put16 3 a (.inr rfl) (by unfold Cx.fits at hf; simp at hf; omega) hns
    · exfalso
      unfold Cx.fits at hf
      simp at hf
      omega
theorem Cx.dec_put (enc a : Int) (he : Cx.En enc) (hf : Cx.fits enc a = true) : Cx.dec enc (Cx.put enc a) = [a] := by
  rw [Cx.dec_cons enc (Cx.put enc a) (Cx.put_ne enc a) a _ (Cx.fst_put enc a he hf), List.drop_length, Cx.dec_nil]
theorem Cx.lst_put (enc a : Int) (he : Cx.En enc) (hf : Cx.fits enc a = true) : (Cx.lst enc (Cx.put enc a)).1 = a := by
  obtain ⟨l, hl⟩ := Cx.dec_last enc he _ (Cx.put enc a) (Nat.le_refl _) (Cx.put_byt enc a hf) (Cx.put_ne enc a)
  rw [Cx.dec_put enc a he hf] at hl
  have := congrArg List.getLast? hl
  simp at this
  exact this.symm
end Go.Proofs.YtbmelpjmpomfcaaGreat

namespace Go.Proofs.YtbmelpjmpomfcaaGreat.P
open Go.RowKit

structure Gr (enc : Int) (g : List Int) : Prop where
  ne : g ≠ []
  fit : ∀ a ∈ g, Cx.fits enc a = true
  dec : Cx.dec enc (Cx.encB enc g) = g
def ln (enc : Int) (g : List Int) : Nat := (Cx.encB enc g).length
theorem ln_nil (enc : Int) : ln enc [] = 0 := rfl
theorem ln_app (enc : Int) (a b : List Int) : ln enc (a ++ b) = ln enc a + ln enc b := by unfold ln; rw [Cx.encB_app, List.length_append]
theorem ln_one (enc a : Int) : ln enc [a] = (Cx.put enc a).length := by simp [ln, Cx.encB]
theorem ln_cons (enc a : Int) (l : List Int) : ln enc (a :: l) = (Cx.put enc a).length + ln enc l := by unfold ln; rw [Cx.encB_cons, List.length_append]
theorem ln_ge (enc : Int) (g : List Int) : g.length ≤ ln enc g := by
  induction g with
  | nil => exact Nat.le_refl _
  | cons a g ih => rw [ln_cons, List.length_cons]; have := (Cx.put_len enc a).1; omega
theorem ln_le (enc : Int) (g : List Int) : ln enc g ≤ 4 * g.length := by
  induction g with
  | nil => exact Nat.le_refl _
  | cons a g ih => rw [ln_cons, List.length_cons]; have := (Cx.put_len enc a).2; omega
theorem encB_byt (enc : Int) (g : List Int) (h : ∀ a ∈ g, Cx.fits enc a = true) : Byt (Cx.encB enc g) := by
  induction g with
  | nil => intro z hz; cases hz
  | cons a g ih =>
    rw [Cx.encB_cons]
    intro z hz
    rcases List.mem_append.1 hz with h1 | h1
    · exact Cx.put_byt enc a (h a List.mem_cons_self) z h1
    · exact ih (fun b hb => h b (List.mem_cons_of_mem _ hb)) z h1
theorem size_fit (enc a : Int) (h : Cx.fits enc a = true) : Cx.size enc a = (Cx.put enc a).length := by unfold Cx.size; rw [if_pos h]
theorem Gr.one {enc a : Int} (he : Cx.En enc) (h : Cx.fits enc a = true) : Gr enc [a] := ⟨by simp, by simpa using h, by rw [show Cx.encB enc [a] = Cx.put enc a by simp [Cx.encB]]; exact Cx.dec_put enc a he h⟩
theorem Gr.snoc {enc a : Int} {g : List Int} (he : Cx.En enc) (hg : Gr enc g) (h : Cx.fits enc a = true) (hl : (Cx.lst enc (Cx.encB enc (g ++ [a]))).1 = a) : Gr enc (g ++ [a]) := by
  refine ⟨by simp, fun b hb => (List.mem_append.1 hb).elim (hg.fit b) (fun e => by rw [List.mem_singleton] at e; subst e; exact h), ?_⟩
  have e : Cx.encB enc (g ++ [a]) = Cx.encB enc g ++ Cx.put enc a := by rw [Cx.encB_app]; simp [Cx.encB]
  rw [e] at hl ⊢
  rw [Cx.dec_snoc enc he _ a (encB_byt enc g hg.fit) (Cx.put_byt enc a h) (Cx.put_ne enc a) hl, hg.dec]
theorem Gr.pos {enc : Int} {g : List Int} (h : Gr enc g) : 0 < g.length := List.length_pos_iff.2 h.ne
theorem Gr.lpos {enc : Int} {g : List Int} (h : Gr enc g) : 0 < ln enc g := Nat.lt_of_lt_of_le h.pos (ln_ge enc g)
theorem Gr.byt {enc : Int} {g : List Int} (h : Gr enc g) : Byt (Cx.encB enc g) := encB_byt enc g h.fit
theorem spn_a (enc : Int) (g : List Int) (h : ∀ a ∈ g, Cx.fits enc a = true) : (spn enc g).a = g.length ∧ (spn enc g).s = ln enc g := spn_as enc g h
theorem off_gr {enc : Int} {g : List Int} (h : Gr enc g) (j : Nat) : off enc (Cx.encB enc g) j = ln enc (g.take j) := by unfold off; rw [h.dec]; rfl
theorem Gr.cut {enc : Int} {g : List Int} (he : Cx.En enc) (h : Gr enc g) (n : Nat) (h0 : 0 < n) (hn : n < g.length) : Gr enc (g.take n) ∧ Gr enc (g.drop n) := by
  obtain ⟨k1, k2, k3⟩ := Cx.dec_cut enc he n (Cx.encB enc g) h.byt (by rw [h.dec]; omega)
  rw [h.dec] at k1 k2 k3
  have e : Cx.encB enc g = Cx.encB enc (g.take n) ++ Cx.encB enc (g.drop n) := by rw [← Cx.encB_app, List.take_append_drop]
  refine ⟨⟨fun e => ?_, fun a ha => h.fit a (List.mem_of_mem_take ha), ?_⟩, ⟨fun e => ?_, fun a ha => h.fit a (List.mem_of_mem_drop ha), ?_⟩⟩
  · have := congrArg List.length e; rw [List.length_take, List.length_nil] at this; omega
  · rw [e, List.take_left' rfl] at k3; exact k3
  · have := congrArg List.length e; rw [List.length_drop, List.length_nil] at this; omega
  · rw [e, List.drop_left' rfl] at k2; exact k2
theorem Gr.load {enc : Int} (he : Cx.En enc) {L : List Int} (hL : Byt L) {g : List Int} {i : Nat} (hg : ((Cx.dec enc L).drop i).take g.length = g) (hi : i + g.length ≤ (Cx.dec enc L).length) (hn : g ≠ []) :
    Gr enc g ∧ (L.drop (off enc L i)).take (ln enc g) = Cx.encB enc g ∧ off enc L i + ln enc g = off enc L (i + g.length) ∧ off enc L i + ln enc g ≤ L.length := by
  obtain ⟨b1, b2⟩ := Cx.back_all enc he _ L (Nat.le_refl _) hL
  obtain ⟨k1, k2, k3⟩ := Cx.dec_cut enc he i L hL (by omega)
  have e0 : (Cx.encB enc ((Cx.dec enc L).take i)).length = off enc L i := rfl
  rw [e0] at k1 k2 k3
  have hfit : ∀ a ∈ g, Cx.fits enc a = true := fun a ha => by rw [← hg] at ha; exact b2 a (List.mem_of_mem_drop (List.mem_of_mem_take ha))
  obtain ⟨m1, m2, m3⟩ := Cx.dec_cut enc he g.length (L.drop (off enc L i)) (hL.drop _) (by rw [k2, List.length_drop]; omega)
  rw [k2, hg] at m1 m2 m3
  have e1 : (Cx.encB enc g).length = ln enc g := rfl
  rw [e1] at m1 m2 m3
  have e2 : (L.drop (off enc L i)).take (ln enc g) = Cx.encB enc g := by
    have := (Cx.back_all enc he _ ((L.drop (off enc L i)).take (ln enc g)) (Nat.le_refl _) ((hL.drop _).take _)).1
    rw [m3] at this
    exact this.symm
  rw [List.length_drop] at m1
  refine ⟨⟨hn, hfit, ?_⟩, e2, ?_, by omega⟩
  · rw [← e2]; exact m3
  · unfold off
    rw [show (Cx.dec enc L).take (i + g.length) = (Cx.dec enc L).take i ++ g by rw [List.take_add, hg], Cx.encB_app, List.length_append]
    rfl

def mkx (enc : Int) (b o pl : Nat) (g : List Int) : It := ⟨some ⟨b, o + pl, none⟩, ln enc g, ln enc g, (pl : Int), spn enc g, spn_ok enc g⟩
def mks (enc : Int) (b o : Nat) : Nat → List (List Int) → List It
  | _, [] => []
  | pl, g :: gs => mkx enc b o pl g :: mks enc b o (pl + ln enc g) gs
theorem mks_snoc (enc : Int) (b o : Nat) (g : List Int) : ∀ (gs : List (List Int)) (pl : Nat), mks enc b o pl (gs ++ [g]) = mks enc b o pl gs ++ [mkx enc b o (pl + ln enc gs.flatten) g] := by
  intro gs
  induction gs with
  | nil => intro pl; rfl
  | cons h gs ih =>
    intro pl
    rw [List.cons_append, mks, ih, mks, List.cons_append, List.flatten_cons, ln_app, Nat.add_assoc]
theorem mks_len (enc : Int) (b o : Nat) : ∀ (gs : List (List Int)) (pl : Nat), (mks enc b o pl gs).length = gs.length := by
  intro gs
  induction gs with
  | nil => intro pl; rfl
  | cons h gs ih => intro pl; rw [mks, List.length_cons, ih, List.length_cons]

def ctn (enc : Int) : Int → List Int → List (Int × Int)
  | _, [] => []
  | pl, a :: g => (a, pl) :: ctn enc (tg pl ((Cx.put enc a).length : Nat)) g
theorem tg_new (k : Int) : tg (-1) k = -1 := rfl
theorem tg_tg (pl : Int) (h : -1 ≤ pl) (j k : Int) (hj : 0 ≤ j) : tg (tg pl j) k = tg pl (j + k) := by
  unfold tg
  by_cases e : pl = -1
  · rw [if_pos e, if_pos rfl, if_pos e]
  · rw [if_neg e, if_neg (by omega), if_neg e]; omega
theorem tg_zero (pl : Int) : tg pl 0 = pl := by unfold tg; split <;> omega
theorem tg_ge (pl : Int) (h : -1 ≤ pl) (j : Int) (hj : 0 ≤ j) : -1 ≤ tg pl j := by unfold tg; split <;> omega
theorem ctn_app (enc : Int) (b : List Int) : ∀ (a : List Int) (pl : Int), -1 ≤ pl → ctn enc pl (a ++ b) = ctn enc pl a ++ ctn enc (tg pl (ln enc a : Nat)) b := by
  intro a
  induction a with
  | nil => intro pl _; rw [ln_nil]; show _ = ctn enc (tg pl 0) b; rw [tg_zero]; rfl
  | cons x a ih =>
    intro pl h
    rw [List.cons_append, ctn, ih _ (tg_ge pl h _ (by omega)), tg_tg pl h _ _ (by omega), ctn, List.cons_append, ln_cons]
    congr 4
theorem ctn_len (enc : Int) : ∀ (g : List Int) (pl : Int), (ctn enc pl g).length = g.length := by
  intro g
  induction g with
  | nil => intro pl; rfl
  | cons a g ih => intro pl; rw [ctn, List.length_cons, ih, List.length_cons]
theorem ctn_fst (enc : Int) : ∀ (g : List Int) (pl : Int), (ctn enc pl g).map Prod.fst = g := by
  intro g
  induction g with
  | nil => intro pl; rfl
  | cons a g ih => intro pl; rw [ctn, List.map_cons, ih]
theorem ctn_take (enc : Int) (g : List Int) (pl : Int) (h : -1 ≤ pl) (n : Nat) : (ctn enc pl g).take n = ctn enc pl (g.take n) ∧ (ctn enc pl g).drop n = ctn enc (tg pl (ln enc (g.take n) : Nat)) (g.drop n) := by
  have e := ctn_app enc (g.drop n) (g.take n) pl h
  rw [List.take_append_drop] at e
  by_cases hn : n ≤ g.length
  · have hl : (ctn enc pl (g.take n)).length = n := by rw [ctn_len, List.length_take]; omega
    rw [e]
    exact ⟨List.take_left' hl, List.drop_left' hl⟩
  · rw [List.take_of_length_le (by rw [ctn_len]; omega), List.drop_eq_nil_of_le (by rw [ctn_len]; omega), List.take_of_length_le (by omega), List.drop_eq_nil_of_le (by omega)]
    exact ⟨rfl, rfl⟩
theorem ctn_new (enc : Int) (g : List Int) : ctn enc (-1) g = g.map fun a => (a, -1) := by
  induction g with
  | nil => rfl
  | cons a g ih => rw [ctn, tg_new, ih, List.map_cons]
end Go.Proofs.YtbmelpjmpomfcaaGreat.P

namespace Go.Proofs.YtbmelpjmpomfcaaGreat.P
open Go.RowKit

structure Kps (own : Nat → Prop) (W W' : World) : Prop where
  os : W'.os = W.os
  tape : W'.tape = W.tape
  output : W'.output = W.output
  size : W.heap.size ≤ W'.heap.size
  same : ∀ k, k < W.heap.size → ¬ own k → W'.heap[k]? = W.heap[k]?
theorem Kps.refl (own : Nat → Prop) (W : World) : Kps own W W := ⟨rfl, rfl, rfl, Nat.le_refl _, fun _ _ _ => rfl⟩
theorem Kps.trans {o p : Nat → Prop} {A B C : World} (h : Kps o A B) (k : Kps p B C) (hp : ∀ i, i < A.heap.size → p i → o i) : Kps o A C :=
  ⟨k.os.trans h.os, k.tape.trans h.tape, k.output.trans h.output, Nat.le_trans h.size k.size, fun i hi ho => (k.same i (Nat.lt_of_lt_of_le hi h.size) (fun e => ho (hp i hi e))).trans (h.same i hi ho)⟩
theorem Kps.below {o : Nat → Prop} {A B : World} (h : Kps o A B) {n : Nat} (hn : n ≤ A.heap.size) (ho : ∀ k, o k → n ≤ k) : Below n A B :=
  ⟨h.os, h.tape, h.output, h.size, fun k hk => h.same k (Nat.lt_of_lt_of_le hk hn) (fun e => by have := ho k e; omega)⟩
theorem Kps.of_below {A B : World} (o : Nat → Prop) (h : Below A.heap.size A B) : Kps o A B := ⟨h.os, h.tape, h.output, h.size, fun k hk _ => h.block k hk⟩
theorem Kps.put {o : Nat → Prop} {A : World} {r : Nat} (x : Obj) (hr : o r) : Kps o A (A.putObj r x) :=
  ⟨rfl, rfl, rfl, by simp, fun k _ hk => World.putObj_heap_other (fun e => hk (e ▸ hr))⟩
theorem Kps.mono {o p : Nat → Prop} {A B : World} (h : Kps o A B) (hp : ∀ i, i < A.heap.size → o i → p i) : Kps p A B := ⟨h.os, h.tape, h.output, h.size, fun k hk hn => h.same k hk (fun e => hn (hp k hk e))⟩
theorem Kps.grown {o : Nat → Prop} {A B : World} {row : Option Nat} (h : A.grownBy B row) (hr : ∀ k, row = some k → k < A.heap.size → o k) : Kps o A B :=
  ⟨h.os, h.tape, h.output, h.size, fun k hk hn => h.block k hk (fun e => hn (hr k e.symm hk))⟩

structure Guest (σ α : Type) where
  own : σ → Nat → Prop
  J : σ → List α → World → Prop
  Jx : σ → List α → World → Prop
  lean : Nat → Prop
  stay : ∀ s pre W W', J s pre W → W.heap.size ≤ W'.heap.size → (∀ k, own s k ∨ lean k → W'.heap[k]? = W.heap[k]?) → J s pre W'
  stayx : ∀ s pre W W', Jx s pre W → W.heap.size ≤ W'.heap.size → (∀ k, own s k ∨ lean k → W'.heap[k]? = W.heap[k]?) → Jx s pre W'
  lives : ∀ s pre W, J s pre W → ∀ k, own s k → k < W.heap.size

def Newer {σ : Type} (own : σ → Nat → Prop) (s s' : σ) (W : World) : Prop := ∀ k, own s' k → own s k ∨ W.heap.size ≤ k

def SeqX {α : Type} (F : Fence) (n : Nat) (P : Program) (g : Nat) (lb : Array Value) (encs : α → Array Value) (rel : Nat → Prop) (S Sp : List α → Prop) (w : World) : Prop :=
  ∀ (l : Nat) (σ : Type) (G : Guest σ α) (s : σ) (W : World), Kps (fun k => ¬ rel k) w W → (∀ k, rel k → k < w.heap.size ∧ ¬ G.own s k) → (∀ k, G.lean k → k < W.heap.size) →
    (∀ s pre x W1, G.J s pre W1 → Sp (pre ++ [x]) → YieldAt F (n - 1) P l (encs x) W1 fun e W' =>
      (e = .returned (.bool true) ∧ ∃ s', G.J s' (pre ++ [x]) W' ∧ Kps (G.own s) W1 W' ∧ Newer G.own s s' W1) ∨ (e = .returned (.bool false) ∧ ∃ s', G.Jx s' (pre ++ [x]) W' ∧ Kps (G.own s) W1 W' ∧ Newer G.own s s' W1)) →
    G.J s [] W →
    CallsIn F n P g (#[.func (.yield l) #[] #[]] ++ lb) W fun e W' => (∃ v, e = .returned v) ∧ ∃ s', Kps (G.own s) W W' ∧ Newer G.own s s' W ∧ ((∃ xs, S xs ∧ G.J s' xs W') ∨ (∃ pre, Sp pre ∧ G.Jx s' pre W'))

def postX {σ α : Type} (own : σ → Nat → Prop) (I : σ → List α → World → Prop) (Ix : Code → σ → List α → World → Prop) (s : σ) (xs : List α) (W : World) : Exit → Act → World → Prop
  | .normal, _, W' => ∃ s', I s' xs W' ∧ Kps (own s) W W' ∧ Newer own s s' W
  | .ret, _, W' => ∃ s', Ix .ret s' xs W' ∧ Kps (own s) W W' ∧ Newer own s s' W
  | .exit id, _, W' => ∃ s', Ix (.exit id) s' xs W' ∧ Kps (own s) W W' ∧ Newer own s s' W
  | .goto t, _, W' => ∃ s', Ix (.goto t) s' xs W' ∧ Kps (own s) W W' ∧ Newer own s s' W
  | .panic _, _, _ => False
  | .outgrown, _, _ => False

variable {F : Fence} {n : Nat} {P : Program}

set_option maxHeartbeats 1000000 in
theorem range_x {σ α : Type} {g : Operand} {ps : Array Tmp} {assign body : Code} {Q : Exit → Act → World → Prop} {a : Act} {w : World}
    (hro : F.round = none) (h1 : 1 ≤ n) {gf : Nat} {lb : Array Value} (hg : a.eval g = .func (.func gf) #[] lb) (hFg : F.fn gf) (eg : ∀ args w, (callFunc gf args).run P w = .ok (.enter gf args) w)
    {encs : α → Array Value} {rel : Nat → Prop} {S Sp : List α → Prop} {w0 : World} (hseq : SeqX F (n - 1) P gf lb encs rel S Sp w0) (hrw : Kps (fun k => ¬ rel k) w0 w) (hps : ∀ x, (encs x).size = ps.size)
    (own : σ → Nat → Prop) (I : σ → List α → World → Prop) (Ix : Code → σ → List α → World → Prop) (s0 : σ) (hrel : ∀ k, rel k → k < w0.heap.size ∧ ¬ own s0 k)
    (lean : Nat → Prop) (hln : ∀ k, lean k → k < w.heap.size)
    (hI : ∀ s pre W W', I s pre W → W.heap.size ≤ W'.heap.size → (∀ k, own s k ∨ lean k → W'.heap[k]? = W.heap[k]?) → I s pre W')
    (hIx : ∀ c s pre W W', Ix c s pre W → W.heap.size ≤ W'.heap.size → (∀ k, own s k ∨ lean k → W'.heap[k]? = W.heap[k]?) → Ix c s pre W')
    (hlv : ∀ s pre W, I s pre W → ∀ k, own s k → k < W.heap.size) (h0 : I s0 [] w) (Ax : α → Act → World → Prop) (hAx : ∀ x a' W W', Ax x a' W → W.heap.size ≤ W'.heap.size → (∀ k, w.heap.size + 2 ≤ k → k < W.heap.size → W'.heap[k]? = W.heap[k]?) → Ax x a' W')
    (hassign : ∀ (l : Nat) (x : α) (W : World) (K : Act → World → Prop), w.heap.size + 2 ≤ W.heap.size → (∀ a' W', Below W.heap.size W W' → Ax x a' W' → K a' W') →
      assign.wpIn (F.inRound l) (n - 1 - 1) P (Exit.then K (fun _ _ _ => False)) { tmps := (ps.zip (encs x)).foldl (fun t (p, v) => t.setIfInBounds p v) a.tmps, defers := [] } W)
    (hbody : ∀ (l : Nat) (s : σ) (pre : List α) (x : α) (a' : Act) (W : World), I s pre W → Ax x a' W → Sp (pre ++ [x]) → w.heap.size + 2 ≤ W.heap.size → body.wpIn (F.inRound l) (n - 1 - 1) P (postX own I Ix s (pre ++ [x]) W) a' W)
    (hdone : ∀ (s : σ) (xs : List α) (W : World), Kps (own s0) w W → Newer own s0 s w → S xs → I s xs W → W.heap[w.heap.size]? = some (.deferred (some [])) → ¬ own s w.heap.size → Q .normal { a with defers := { target := .collected w.heap.size, args := #[] } :: a.defers } W)
    (hstop : ∀ (c : Code) (s : σ) (pre : List α) (W : World), Kps (own s0) w W → Newer own s0 s w → Sp pre → Ix c s pre W → W.heap[w.heap.size]? = some (.deferred (some [])) → ¬ own s w.heap.size → c.wpIn F n P Q { a with defers := { target := .collected w.heap.size, args := #[] } :: a.defers } W) :
    (Code.rangeFunc g ps assign body).wpIn F n P Q a w := by
  refine wpIn_rangeFunc fun fn hfn => ?_
  rw [hro]
  obtain ⟨rec, hrec⟩ : ∃ rec : LoopState → Option Code → Loop, rec = fun st pe => { state := st, pending := pe, fn, tmps := a.tmps, params := ps, assign, body, defers := w.heap.size } := ⟨_, rfl⟩
  obtain ⟨W1, hW1⟩ : ∃ W1, (w.alloc (.deferred (some []))).alloc (.loop (rec .ready none)) = W1 := ⟨_, rfl⟩
  have bW : Below w.heap.size w W1 := by rw [← hW1]; exact ext_alloc (ext_alloc (Below.refl _ _) _) _
  have sW : W1.heap.size = w.heap.size + 2 := by rw [← hW1]; simp
  have hL1 : W1.heap[w.heap.size + 1]? = some (.loop (rec .ready none)) := by
    rw [← hW1]
    have := World.alloc_heap_new (w.alloc (.deferred (some []))) (.loop (rec .ready none))
    rwa [World.size_alloc] at this
  have hD1 : W1.heap[w.heap.size]? = some (.deferred (some [])) := by
    rw [← hW1]
    exact (Below.heap_alloc _ _ _ (by simp)).trans (World.alloc_heap_new w _)
  -- what the caller owns besides: the record and the block for the rounds' deferred calls
  let G : Guest σ α := {
    own := fun s k => own s k ∨ k = w.heap.size ∨ k = w.heap.size + 1
    J := fun s pre W => I s pre W ∧ (∀ k, own s k → k ≠ w.heap.size ∧ k ≠ w.heap.size + 1) ∧ W.heap[w.heap.size + 1]? = some (.loop (rec .ready none)) ∧ W.heap[w.heap.size]? = some (.deferred (some [])) ∧ w.heap.size + 2 ≤ W.heap.size
    Jx := fun s pre W => ∃ c, Ix c s pre W ∧ (∀ k, own s k → k ≠ w.heap.size ∧ k ≠ w.heap.size + 1) ∧ W.heap[w.heap.size + 1]? = some (.loop (rec .done (some c))) ∧ W.heap[w.heap.size]? = some (.deferred (some [])) ∧ w.heap.size + 2 ≤ W.heap.size
    lean := lean
    stay := fun s pre W W' h hs hk => ⟨hI s pre W W' h.1 hs (fun k ho => ho.elim (fun o => hk k (.inl (.inl o))) (fun q => hk k (.inr q))), h.2.1, (hk _ (.inl (.inr (.inr rfl)))).trans h.2.2.1, (hk _ (.inl (.inr (.inl rfl)))).trans h.2.2.2.1, Nat.le_trans h.2.2.2.2 hs⟩
    stayx := fun s pre W W' h hs hk => by
      obtain ⟨c, h1, h2, h3, h4, h5⟩ := h
      exact ⟨c, hIx c s pre W W' h1 hs (fun k ho => ho.elim (fun o => hk k (.inl (.inl o))) (fun q => hk k (.inr q))), h2, (hk _ (.inl (.inr (.inr rfl)))).trans h3, (hk _ (.inl (.inr (.inl rfl)))).trans h4, Nat.le_trans h5 hs⟩
    lives := fun s pre W h k ho => by
      rcases ho with ho | rfl | rfl
      · exact hlv s pre W h.1 k ho
      · have := h.2.2.2.2; omega
      · have := h.2.2.2.2; omega }
  have ap0 : ∀ k, own s0 k → k < w.heap.size := fun k ho => hlv s0 [] w h0 k ho
  refine ⟨w.heap.size + 1, [{ target := .collected w.heap.size, args := #[] }], W1, { target := .fn (.func gf) lb, args := #[.func (.yield (w.heap.size + 1)) #[] #[]] }, W1, gf,
    #[.func (.yield (w.heap.size + 1)) #[] #[]] ++ lb, W1, ?_, ?_, ?_, ?_, fun _ => h1, ?_⟩
  · rw [← hW1, hrec]; exact run_enterLoop_outer _ _ _ _ _
  · simp only [resolve, hg]
    simp [go_sem]
  · intro f' hf'
    simp [Target.leads] at hf'
    subst hf'
    exact hFg
  · simp [invoke, go_sem, eg]
  · refine (hseq (w.heap.size + 1) σ G s0 W1 (hrw.trans (Kps.of_below (fun k => ¬ rel k) bW) (fun _ _ e => e)) (fun k hk => ?_) (fun k hk => Nat.lt_of_lt_of_le (hln k hk) bW.size) ?_ ?_).mono ?_
    · obtain ⟨k1, k2⟩ := hrel k hk
      have hsz := hrw.size
      refine ⟨k1, ?_⟩
      rintro (h | rfl | rfl)
      · exact k2 h
      · omega
      · omega
    · -- a round
      rintro s pre x W ⟨hi, hap, hl, hk, hz⟩ hlen
      have hy := run_yield (P := P) (args := encs x) hl (by rw [hrec]; exact hps x)
      rw [hrec] at hy
      refine ⟨fn, _, assign, body, hy, roundIn_of_wpIn hfn (hassign _ x W _ hz fun a' Wa bA hax => ?_)⟩
      have za := bA.size
      have hla : Wa.heap[w.heap.size + 1]? = some (.loop (rec .ready none)) := (bA.block _ (by omega)).trans hl
      have hka : Wa.heap[w.heap.size]? = some (.deferred (some [])) := (bA.block _ (by omega)).trans hk
      refine ⟨_, run_beginRound hla (by rw [hrec]), ?_⟩
      obtain ⟨W2, hW2⟩ : ∃ W2, Wa.putObj (w.heap.size + 1) (.loop { rec .ready none with state := .busy }) = W2 := ⟨_, rfl⟩
      rw [hW2]
      have k2 : Kps (G.own s) W W2 := by rw [← hW2]; exact Kps.trans (Kps.of_below _ bA) (Kps.put (o := G.own s) _ (.inr (.inr rfl))) (fun _ _ e => e)
      have z2 : W2.heap.size = Wa.heap.size := by rw [← hW2]; simp
      have l2 : W2.heap[w.heap.size + 1]? = some (.loop { rec .ready none with state := .busy }) := by rw [← hW2]; exact World.putObj_heap_same (by omega)
      have d2 : W2.heap[w.heap.size]? = some (.deferred (some [])) := by rw [← hW2]; exact (World.putObj_heap_other (by omega)).trans hka
      have i2 : I s pre W2 := hI s pre W W2 hi (by omega) (fun k ho => by
        rw [← hW2]
        rcases ho with ho | ho
        · exact (World.putObj_heap_other (hap k ho).2).trans (bA.block k (hlv s pre W hi k ho))
        · have := hln k ho
          exact (World.putObj_heap_other (by omega)).trans (bA.block k (by omega)))
      have a2 : Ax x a' W2 := hAx x a' Wa W2 hax (by omega) (fun k hk _ => by rw [← hW2]; exact World.putObj_heap_other (by omega))
      refine wpIn_mono (hbody _ s pre x a' W2 i2 a2 hlen (by omega)) ?_
      -- the round's end, whichever it is
      have fin : ∀ (jump : Option Code) (s' : σ) (W3 : World), Kps (own s) W2 W3 → Newer own s s' W2 →
          ∃ W4, (Instr.endRound (w.heap.size + 1) jump).run P W3 = .ok (.bool jump.isNone) W4 ∧ W4.heap[w.heap.size + 1]? = some (.loop (rec (if jump.isNone then .ready else .done) jump)) ∧ W4.heap[w.heap.size]? = some (.deferred (some [])) ∧
            W3.heap.size ≤ W4.heap.size ∧ w.heap.size + 2 ≤ W4.heap.size ∧ (∀ k, own s' k → k ≠ w.heap.size ∧ k ≠ w.heap.size + 1) ∧ (∀ k, own s' k ∨ lean k → W4.heap[k]? = W3.heap[k]?) ∧ Kps (G.own s) W W4 ∧ Newer G.own s s' W := fun jump s' W3 k3 n3 => by
        have l3 : W3.heap[w.heap.size + 1]? = some (.loop { rec .ready none with state := .busy }) := (k3.same _ (by omega) (fun e => (hap _ e).2 rfl)).trans l2
        have d3 : W3.heap[w.heap.size]? = some (.deferred (some [])) := (k3.same _ (by omega) (fun e => (hap _ e).1 rfl)).trans d2
        have z3 := k3.size
        have hap' : ∀ k, own s' k → k ≠ w.heap.size ∧ k ≠ w.heap.size + 1 := fun k ho => by
          rcases n3 k ho with h | h
          · exact hap k h
          · omega
        have hr := run_endRound (P := P) jump l3
        refine ⟨_, hr, ?_, ?_, by simp, by simp; omega, hap', fun k ho => World.putObj_heap_other (ho.elim (fun o => (hap' k o).2) (fun q => by have := hln k q; omega)), ?_, ?_⟩
        · rw [hrec]; exact World.putObj_heap_same (by omega)
        · exact (World.putObj_heap_other (by omega)).trans d3
        · refine Kps.trans (Kps.trans k2 k3 (fun i _ e => .inl e)) (Kps.put (o := G.own s) _ (.inr (.inr rfl))) (fun i _ e => e)
        · intro k ho
          rcases ho with ho | ho | ho
          · rcases n3 k ho with h | h
            · exact .inl (.inl h)
            · exact .inr (by omega)
          · exact .inl (.inr (.inl ho))
          · exact .inl (.inr (.inr ho))
      rintro e a3 W3 hp
      cases e with
      | normal =>
        obtain ⟨s', hi3, k3, n3⟩ := hp
        obtain ⟨W4, hr, q1, q2, q3, q4, q5, q6, q7, q8⟩ := fin none s' W3 k3 n3
        exact ⟨_, _, hr, .inl ⟨rfl, s', ⟨hI s' _ W3 W4 hi3 q3 q6, q5, q1, q2, q4⟩, q7, q8⟩⟩
      | ret =>
        obtain ⟨s', hi3, k3, n3⟩ := hp
        obtain ⟨W4, hr, q1, q2, q3, q4, q5, q6, q7, q8⟩ := fin (some .ret) s' W3 k3 n3
        exact ⟨_, _, hr, .inr ⟨rfl, s', ⟨_, hIx _ s' _ W3 W4 hi3 q3 q6, q5, q1, q2, q4⟩, q7, q8⟩⟩
      | exit id =>
        obtain ⟨s', hi3, k3, n3⟩ := hp
        obtain ⟨W4, hr, q1, q2, q3, q4, q5, q6, q7, q8⟩ := fin (some (.exit id)) s' W3 k3 n3
        exact ⟨_, _, hr, .inr ⟨rfl, s', ⟨_, hIx _ s' _ W3 W4 hi3 q3 q6, q5, q1, q2, q4⟩, q7, q8⟩⟩
      | goto t =>
        obtain ⟨s', hi3, k3, n3⟩ := hp
        obtain ⟨W4, hr, q1, q2, q3, q4, q5, q6, q7, q8⟩ := fin (some (.goto t)) s' W3 k3 n3
        exact ⟨_, _, hr, .inr ⟨rfl, s', ⟨_, hIx _ s' _ W3 W4 hi3 q3 q6, q5, q1, q2, q4⟩, q7, q8⟩⟩
      | panic ch => exact hp.elim
      | outgrown => exact hp.elim
    · exact ⟨hI s0 [] w W1 h0 (by omega) (fun k ho => bW.block k (ho.elim (ap0 k) (hln k))), fun k ho => by have := ap0 k ho; omega, hL1, hD1, by omega⟩
    · -- behind the iterator
      rintro e W2 ⟨⟨v, rfl⟩, s', kW, nW, hend⟩
      have kw : ∀ W3, Kps (G.own s0) W1 W3 → Kps (own s0) w W3 := fun W3 k => ⟨k.os.trans bW.os, k.tape.trans bW.tape, k.output.trans bW.output, by have := k.size; omega, fun i hi ho => (k.same i (by omega) (by rintro (h | h | h); exact ho h; omega; omega)).trans (bW.block i hi)⟩
      have nw : (∀ k, own s' k → k ≠ w.heap.size ∧ k ≠ w.heap.size + 1) → Newer own s0 s' w := fun hap k ho => by
        rcases nW k (.inl ho) with (h | h | h) | h
        · exact .inl h
        · exact absurd h (hap k ho).1
        · exact absurd h (hap k ho).2
        · exact .inr (by omega)
      rcases hend with ⟨xs, hS, hi, hap, hl, hd, hz⟩ | ⟨pre, hSp, c, hi, hap, hl, hd, hz⟩
      · have hr := run_endLoop (P := P) hl (by rw [hrec]; simp)
        have hr' : (Instr.endLoop (w.heap.size + 1)).run P W2 = .ok none (W2.putObj (w.heap.size + 1) (.loop { rec .ready none with state := .exhausted })) := by rw [hr, hrec]
        refine ⟨none, _, hr', hdone s' xs _ (kw _ (Kps.trans kW (Kps.put (o := G.own s0) _ (.inr (.inr rfl))) (fun i _ e => e))) (nw hap) hS (hI s' xs W2 _ hi (by simp) (fun k ho => World.putObj_heap_other (ho.elim (fun o => (hap k o).2) (fun q => by have := hln k q; omega)))) ((World.putObj_heap_other (by omega)).trans hd) (fun h => (hap _ h).1 rfl)⟩
      · have hr := run_endLoop (P := P) hl (by rw [hrec]; simp)
        have hr' : (Instr.endLoop (w.heap.size + 1)).run P W2 = .ok (some c) (W2.putObj (w.heap.size + 1) (.loop { rec .done (some c) with state := .exhausted })) := by rw [hr, hrec]
        refine ⟨some c, _, hr', hstop c s' pre _ (kw _ (Kps.trans kW (Kps.put (o := G.own s0) _ (.inr (.inr rfl))) (fun i _ e => e))) (nw hap) hSp (hIx c s' pre W2 _ hi (by simp) (fun k ho => World.putObj_heap_other (ho.elim (fun o => (hap k o).2) (fun q => by have := hln k q; omega)))) ((World.putObj_heap_other (by omega)).trans hd) (fun h => (hap _ h).1 rfl)⟩
end Go.Proofs.YtbmelpjmpomfcaaGreat.P
