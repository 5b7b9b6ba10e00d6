/- The last atom of bytes: the code's wide.last. -/
import Derived.Test.YtbfbaknfeleddaaLast
namespace Go.Proofs.Ytbfbaknfeleddaa
open Go.RowKit

def Cx.lst16 (k : Int) (zs : List Int) : Int × Int :=
  if zs.length % 2 = 1 then (-1 - Cx.lb zs, 1) else if 4 ≤ zs.length ∧ Cx.isP k (Cx.tl zs 4) = true then (Cx.pairV k (Cx.tl zs 4), 4) else (Cx.wv k (Cx.tl zs 2), 2)

theorem Rd.tail {w : World} {b off cap : Nat} {zs : List Int} (h : Rd .u8 w (.slice (some ⟨b, off, none⟩) zs.length cap) zs) (s : Nat) (hs : s ≤ zs.length) : Rd .u8 w (.slice (some ⟨b, off + (zs.length - s), none⟩) s (cap - (zs.length - s))) (Cx.tl zs s) := by
  have := h.cut (n := zs.length - s) (by omega)
  rwa [show zs.length - (zs.length - s) = s from by omega] at this

set_option maxRecDepth 100000 in
set_option maxHeartbeats 1000000 in
theorem last16_any (k : Int) (v : Value) (zs : List Int) (w : World) (h : Rd .u8 w v zs) (hb : Byt zs) (hk : k = 0 ∨ k = 1) (hn : zs ≠ []) :
    Calls Try.prog 124 #[.agg #[.int .i64 k], v] w fun e w' => e = .returned (.tuple #[.int .i64 (Cx.lst16 k zs).1, .int .i64 (Cx.lst16 k zs).2]) ∧ Below w.heap.size w w' := by
  have HR : Hid (Rd .u8 w v zs) := h
  have HB : Hid (Byt zs) := hb
  have HK : Hid (k = 0 ∨ k = 1) := hk
  have hlen := h.len
  have hbl' := hb.at (zs.length - 1)
  change 0 ≤ Cx.lb zs ∧ Cx.lb zs ≤ 255 at hbl'
  obtain ⟨ao, cap, rfl, hl, hm, hc⟩ := h
  obtain ⟨b, off, rfl, hbl, hc⟩ := hc hn
  have hpos : 0 < zs.length := List.length_pos_iff.2 hn
  have hlast := hc (zs.length - 1) (by omega)
  change w.cell? ⟨b, off + (zs.length - 1), none⟩ = some (.int .u8 (Cx.lb zs)) at hlast
  clear hn hc hm hb hk
  by_cases ho : zs.length % 2 = 1
  · have HE : Hid (Cx.lst16 k zs = (-1 - Cx.lb zs, 1)) := by unfold Hid Cx.lst16; rw [if_pos ho]
    have hq : ((zs.length : Int) % 2 == 1) = true := by rw [beq_iff_eq]; omega
    have hlast' : ∀ o : Obj, (w.alloc o).cell? ⟨b, off + (zs.length - 1), none⟩ = some (.int .u8 (Cx.lb zs)) := fun o => ((Below.refl w.heap.size w).alloc (Nat.le_refl _) o |>.cell (p := ⟨b, off + (zs.length - 1), none⟩) hbl).trans hlast
    clear ho hlast
    go_enter Try.func124, Try.ntmps124
    go_wp2_with fail
    refine (rawAtom_any _ _ hbl'.1 hbl'.2).mono ?_
    rintro e w1 ⟨rfl, hw1⟩
    subst hw1
    go_wp2
    go_ret2
    exact ⟨by rw [HE.out]; rfl, (Below.refl _ _).alloc (Nat.le_refl _) _⟩
  · have hq : ((zs.length : Int) % 2 == 1) = false := by rw [beq_eq_false_iff_ne]; omega
    have h2 : 2 ≤ zs.length := by omega
    have HT2 : Hid (Rd .u8 w (.slice (some ⟨b, off + (zs.length - 2), none⟩) 2 (cap - (zs.length - 2))) (Cx.tl zs 2)) := HR.out.tail 2 h2
    have HL2 : Hid ((Cx.tl zs 2).length = 2) := Cx.tl_len zs 2 h2
    have hc2 : ¬ cap = zs.length - 2 := by omega
    have hl2 : zs.length - (zs.length - 2) = 2 := by omega
    have ht2 : ((zs.length : Int) - 2).toNat = zs.length - 2 := by omega
    have hi2 : (0 : Int) ≤ (zs.length : Int) - 2 := by omega
    have hj2 : (2 : Int) ≤ (zs.length : Int) := by omega
    have hw2 : IntKind.i64.wrap ((zs.length : Int) - 2) = (zs.length : Int) - 2 := by rw [IntKind.wrap_i64]; omega
    have hi2' : (zs.length : Int) - 2 ≤ (zs.length : Int) := by omega
    clear hlast hbl'
    by_cases h4 : 4 ≤ zs.length
    · have hd4 : decide ((4 : Int) ≤ (zs.length : Int)) = true := by simp; omega
      have HT4 : Hid (Rd .u8 w (.slice (some ⟨b, off + (zs.length - 4), none⟩) 4 (cap - (zs.length - 4))) (Cx.tl zs 4)) := HR.out.tail 4 h4
      have HL4 : Hid ((Cx.tl zs 4).length = 4) := Cx.tl_len zs 4 h4
      have hc4 : ¬ cap = zs.length - 4 := by omega
      have hl4 : zs.length - (zs.length - 4) = 4 := by omega
      have ht4 : ((zs.length : Int) - 4).toNat = zs.length - 4 := by omega
      have hi4 : (0 : Int) ≤ (zs.length : Int) - 4 := by omega
      have hj4 : (4 : Int) ≤ (zs.length : Int) := by omega
      have hw4 : IntKind.i64.wrap ((zs.length : Int) - 4) = (zs.length : Int) - 4 := by rw [IntKind.wrap_i64]; omega
      have hi4' : (zs.length : Int) - 4 ≤ (zs.length : Int) := by omega
      cases hP : Cx.isP k (Cx.tl zs 4)
      · have HE : Hid (Cx.lst16 k zs = (Cx.wv k (Cx.tl zs 2), 2)) := by unfold Hid Cx.lst16; rw [if_neg ho, if_neg (by rw [hP]; simp)]
        clear ho
        go_enter Try.func124, Try.ntmps124
        go_wp2_with fail
        first | go_region_with (go_at_call 129; refine (isPair_any k _ (Cx.tl zs 4) _ ?_ (HB.out.drop _) HK.out ?_).mono ?_; exact HT4.out.ext ((Below.refl _ _).alloc (Nat.le_refl _) _).drew; (rw [HL4.out]; decide); rintro e w1 ⟨rfl, hb1⟩; rw [hP]; have hcb : w1.cell? ⟨w.heap.size, 0, none⟩ = some (.int .i64 k) := (hb1.cell (p := ⟨w.heap.size, 0, none⟩) (by simp)).trans (by simp); have HW1 : Hid (Below w.heap.size w w1) := ext_trans ((Below.refl w.heap.size w).alloc (Nat.le_refl _) _).drew hb1; clear hb1) | fail
        all_goals go_wp2_with fail
        first | go_region_with (go_at_call 131; refine (unitW_any k _ (Cx.tl zs 2) _ ?_ (HB.out.drop _) HK.out ?_).mono ?_; exact HT2.out.ext (by repeat (first | exact Below.refl _ _ | exact HW1.out | apply below_drewN | refine ext_alloc ?_ _ | apply Below.drew)); (rw [HL2.out]; decide); rintro e w2 ⟨rfl, n2, rfl⟩) | fail
        all_goals
          go_wp2
          go_ret2
          exact ⟨by rw [HE.out]; rfl, (by repeat (first | exact Below.refl _ _ | exact HW1.out | apply below_drewN | refine ext_alloc ?_ _ | apply Below.drew))⟩
      · have HE : Hid (Cx.lst16 k zs = (Cx.pairV k (Cx.tl zs 4), 4)) := by unfold Hid Cx.lst16; rw [if_neg ho, if_pos ⟨h4, hP⟩]
        clear ho
        go_enter Try.func124, Try.ntmps124
        go_wp2_with fail
        first | go_region_with (go_at_call 129; refine (isPair_any k _ (Cx.tl zs 4) _ ?_ (HB.out.drop _) HK.out ?_).mono ?_; exact HT4.out.ext ((Below.refl _ _).alloc (Nat.le_refl _) _).drew; (rw [HL4.out]; decide); rintro e w1 ⟨rfl, hb1⟩; rw [hP]; have hcb : w1.cell? ⟨w.heap.size, 0, none⟩ = some (.int .i64 k) := (hb1.cell (p := ⟨w.heap.size, 0, none⟩) (by simp)).trans (by simp); have HW1 : Hid (Below w.heap.size w w1) := ext_trans ((Below.refl w.heap.size w).alloc (Nat.le_refl _) _).drew hb1; clear hb1) | fail
        all_goals go_wp2_with fail
        first | go_region_with (go_at_call 130; refine (pair_any k _ (Cx.tl zs 4) _ ?_ (HB.out.drop _) HK.out ?_).mono ?_; exact HT4.out.ext (by repeat (first | exact Below.refl _ _ | exact HW1.out | apply below_drewN | refine ext_alloc ?_ _ | apply Below.drew)); (rw [HL4.out]; decide); rintro e w2 ⟨rfl, hb2⟩; have HW2 : Hid (Below w.heap.size w w2) := ext_trans (by repeat (first | exact Below.refl _ _ | exact HW1.out | apply below_drewN | refine ext_alloc ?_ _ | apply Below.drew)) hb2; clear hb2) | fail
        all_goals
          go_wp2
          go_ret2
          exact ⟨by rw [HE.out]; rfl, (by repeat (first | exact HW2.out | apply below_drewN | apply Below.drew))⟩
    · have HE : Hid (Cx.lst16 k zs = (Cx.wv k (Cx.tl zs 2), 2)) := by unfold Hid Cx.lst16; rw [if_neg ho, if_neg (fun hh => h4 hh.1)]
      have hd4 : decide ((4 : Int) ≤ (zs.length : Int)) = false := by simp; omega
      clear ho
      go_enter Try.func124, Try.ntmps124
      go_wp2
      go_quiet (fail)
      go_wp2_with fail
      first | go_region_with (go_at_call 131; refine (unitW_any k _ (Cx.tl zs 2) _ ?_ (HB.out.drop _) HK.out ?_).mono ?_; exact HT2.out.ext (by repeat (first | exact Below.refl _ _ | apply below_drewN | refine ext_alloc ?_ _ | apply Below.drew)); (rw [HL2.out]; decide); rintro e w2 ⟨rfl, n2, rfl⟩) | fail
      all_goals
        go_wp2
        go_ret2
        exact ⟨by rw [HE.out]; rfl, (by repeat (first | exact Below.refl _ _ | apply below_drewN | refine ext_alloc ?_ _ | apply Below.drew))⟩
end Go.Proofs.Ytbfbaknfeleddaa
