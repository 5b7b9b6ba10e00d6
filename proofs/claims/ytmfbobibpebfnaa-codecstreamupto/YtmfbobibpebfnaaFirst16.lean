/- The 16-bit encodings of the code: unit, isPair, pair, first, waits; latin. -/
import Derived.Test.YtmfbobibpebfnaaFirst8
import Derived.Deep.RegionHeld3
import Derived.Deep.RegionWith
namespace Go.Proofs.Ytmfbobibpebfnaa
open Go.RowKit

/-- The unit that two bytes make: k is the place of the low half. -/
def Cx.wv (k : Int) (zs : List Int) : Int := if k = 0 then zs[1]?.getD 0 * 256 + zs[0]?.getD 0 else zs[0]?.getD 0 * 256 + zs[1]?.getD 0
theorem Cx.wv_bd (k : Int) (zs : List Int) (hb : Byt zs) : 0 ≤ Cx.wv k zs ∧ Cx.wv k zs ≤ 65535 := by
  have := hb.at 0
  have := hb.at 1
  unfold Cx.wv; split <;> omega

theorem or8 {x y : Int} (hx0 : 0 ≤ x) (hx : x % 256 = 0) (hx1 : x < 9223372036854775808) (h0 : 0 ≤ y) (h1 : y < 256) : bits .or .i64 x y = x + y := bits_join .i64 63 (by decide) wraps_i64 8 x y hx0 (by omega) (by omega) h0 (by omega) (by omega)

set_option maxRecDepth 100000 in
theorem unitW_any (k : Int) (v : Value) (zs : List Int) (w : World) (h : Rd .u8 w v zs) (hb : Byt zs) (hk : k = 0 ∨ k = 1) (h2 : 2 ≤ zs.length) :
    Calls Try.prog 70 #[.agg #[.int .i64 k], v] w fun e w' => e = .returned (.int .i64 (Cx.wv k zs)) ∧ ∃ n, w' = (w.alloc (.cells #[.int .i64 k] 66)).drewN n := by
  have hlen := h.len
  obtain ⟨ao, cap, rfl, hl, hm, hc⟩ := h
  obtain ⟨b, off, rfl, hbl, hc⟩ := hc (List.length_pos_iff.1 (by omega))
  have h0 := hc 0 (by omega)
  have h1 := hc 1 (by omega)
  have hb0 := hb.at 0
  have hb1 := hb.at 1
  have HE : Hid (Cx.wv k zs = if k = 0 then zs[1]?.getD 0 * 256 + zs[0]?.getD 0 else zs[0]?.getD 0 * 256 + zs[1]?.getD 0) := rfl
  generalize Cx.wv k zs = R at *
  generalize zs[0]?.getD 0 = x at *
  generalize zs[1]?.getD 0 = y at *
  rw [Nat.add_zero] at h0
  have h0' : ∀ o : Obj, (w.alloc o).cell? ⟨b, off, none⟩ = some (.int .u8 x) := fun o => ((Below.refl w.heap.size w).alloc (Nat.le_refl _) o |>.cell (p := ⟨b, off, none⟩) hbl).trans h0
  have h1' : ∀ o : Obj, (w.alloc o).cell? ⟨b, off + 1, none⟩ = some (.int .u8 y) := fun o => ((Below.refl w.heap.size w).alloc (Nat.le_refl _) o |>.cell (p := ⟨b, off + 1, none⟩) hbl).trans h1
  have hg0 : (0 : Int) < (zs.length : Int) := by omega
  have hg1 : (1 : Int) < (zs.length : Int) := by omega
  clear hc hb hm h0 h1
  rcases hk with rfl | rfl
  · rw [if_pos rfl] at HE
    go_enter Try.func70, Try.ntmps70
    go_wp2
    go_quiet (fail)
    go_wp2
    go_ret
    refine ⟨ret_int' ?_, _, rfl⟩
    rw [HE.out]
    rw [or8 (by omega) (by omega) (by omega) (by omega) (by omega)]
  · rw [if_neg (by omega)] at HE
    go_enter Try.func70, Try.ntmps70
    go_wp2
    go_quiet (fail)
    go_wp2
    go_ret
    refine ⟨ret_int' ?_, _, rfl⟩
    rw [HE.out]
    rw [or8 (by omega) (by omega) (by omega) (by omega) (by omega)]

def Cx.hiU (a : Int) : Bool := decide (55296 ≤ a) && decide (a < 56320)
def Cx.loU (a : Int) : Bool := decide (56320 ≤ a) && decide (a ≤ 57343)
theorem isHigh_any (a : Int) (w : World) : Calls Try.prog 71 #[.int .i64 a] w fun e w' => e = .returned (.bool (Cx.hiU a)) ∧ w' = w := by
  unfold Cx.hiU
  by_cases h1 : 55296 ≤ a
  · go_enter Try.func71, Try.ntmps71
    go_wp2
    go_ret
    exact ⟨by rw [decide_eq_true h1, Bool.true_and]; rfl, rfl⟩
  · have hd : decide (55296 ≤ a) = false := by simp; omega
    go_enter Try.func71, Try.ntmps71
    go_wp2
    go_ret
    exact ⟨rfl, rfl⟩
theorem isLow_any (a : Int) (w : World) : Calls Try.prog 72 #[.int .i64 a] w fun e w' => e = .returned (.bool (Cx.loU a)) ∧ w' = w := by
  unfold Cx.loU
  by_cases h1 : 56320 ≤ a
  · go_enter Try.func72, Try.ntmps72
    go_wp2
    go_ret
    exact ⟨by rw [decide_eq_true h1, Bool.true_and]; rfl, rfl⟩
  · have hd : decide (56320 ≤ a) = false := by simp; omega
    go_enter Try.func72, Try.ntmps72
    go_wp2
    go_ret
    exact ⟨rfl, rfl⟩

theorem ext_alloc {a w : World} (h : Below a.heap.size a w) (o : Obj) : Below a.heap.size a (w.alloc o) := h.alloc h.size o
theorem two_new {w w' : World} {o o' : Obj} {n : Nat} (h : w' = ((w.alloc o).alloc o').drewN n) : Below w.heap.size w w' := by
  subst h; exact below_drewN (((Below.refl _ _).alloc (Nat.le_refl _) _).alloc (by simp) _) _
theorem one_new {w w' : World} {o : Obj} {n : Nat} (h : w' = (w.alloc o).drewN n) : Below w.heap.size w w' := by
  subst h; exact below_drewN ((Below.refl _ _).alloc (Nat.le_refl _) _) _

theorem Rd.drop {k : IntKind} {w : World} {b off n cap : Nat} {zs : List Int} (h : Rd k w (.slice (some ⟨b, off, none⟩) n cap) zs) (m : Nat) (hm : m < zs.length) : Rd k w (.slice (some ⟨b, off + m, none⟩) (n - m) (cap - m)) (zs.drop m) := by
  obtain ⟨ao', cap', hv, h1, h2, h3⟩ := h
  cases hv
  refine ⟨_, cap - m, by rw [List.length_drop], by rw [List.length_drop]; omega, by omega, fun hn => ?_⟩
  obtain ⟨b', off', ha, hb, hc⟩ := h3 (fun h => by rw [h] at hm; simp at hm)
  cases ha
  refine ⟨b, off + m, rfl, hb, fun i hi => ?_⟩
  rw [List.length_drop] at hi
  rw [Nat.add_assoc, hc (m + i) (by omega), List.getElem?_drop]

def Cx.isP (k : Int) (zs : List Int) : Bool := decide (4 ≤ zs.length) && Cx.hiU (Cx.wv k zs) && Cx.loU (Cx.wv k (zs.drop 2))

set_option maxRecDepth 100000 in
set_option maxHeartbeats 1000000 in
theorem isPair_any (k : Int) (v : Value) (zs : List Int) (w : World) (h : Rd .u8 w v zs) (hb : Byt zs) (hk : k = 0 ∨ k = 1) (h2 : 2 ≤ zs.length) :
    Calls Try.prog 68 #[.agg #[.int .i64 k], v] w fun e w' => e = .returned (.bool (Cx.isP k zs)) ∧ Below w.heap.size w w' := by
  have HR : Hid (Rd .u8 w v zs) := h
  have HB : Hid (Byt zs) := hb
  have HK : Hid (k = 0 ∨ k = 1) := hk
  have hlen := h.len
  obtain ⟨ao, cap, rfl, hl, hm, hc⟩ := h
  obtain ⟨b, off, rfl, hbl, hc⟩ := hc (List.length_pos_iff.1 (by omega))
  clear hm hk hb
  by_cases h4 : 4 ≤ zs.length
  · have HD : Hid (Rd .u8 w (.slice (some ⟨b, off + 2, none⟩) (zs.length - 2) (cap - 2)) (zs.drop 2)) := HR.out.drop 2 (by omega)
    have hi4 : (4 : Int) ≤ (zs.length : Int) := by omega
    cases hH : Cx.hiU (Cx.wv k zs)
    · have HE : Hid (Cx.isP k zs = false) := by unfold Hid Cx.isP; rw [hH, Bool.and_false, Bool.false_and]
      clear hc
      go_enter Try.func68, Try.ntmps68
      go_wp2_with fail
      first | go_region_with (first | (go_at_call 71; refine (isHigh_any _ _).mono ?_; rintro e w' ⟨rfl, rfl⟩; rw [hH]) | (go_at_call_of 70 (Value.slice (some { block := b, off := off }) zs.length cap); refine (unitW_any k _ zs _ ?_ HB.out HK.out h2).mono ?_; exact HR.out.ext ((Below.refl _ _).alloc (Nat.le_refl _) _).drew; rintro e w' ⟨rfl, n1, rfl⟩)) | fail
      all_goals
        go_wp2
        go_ret
        exact ⟨by rw [HE.out]; rfl, (by repeat (first | exact Below.refl _ _ | apply below_drewN | refine ext_alloc ?_ _ | apply Below.drew))⟩
    · cases hL : Cx.loU (Cx.wv k (zs.drop 2))
      · have HE : Hid (Cx.isP k zs = false) := by unfold Hid Cx.isP; rw [hL, Bool.and_false]
        clear hc
        go_enter Try.func68, Try.ntmps68
        go_wp2_with fail
        first | go_region_with (first | (go_at_call 71; refine (isHigh_any _ _).mono ?_; rintro e w' ⟨rfl, rfl⟩; rw [hH]) | (go_at_call 72; refine (isLow_any _ _).mono ?_; rintro e w' ⟨rfl, rfl⟩; rw [hL]) | (go_at_call_of 70 (Value.slice (some { block := b, off := off }) zs.length cap); refine (unitW_any k _ zs _ ?_ HB.out HK.out h2).mono ?_; exact HR.out.ext ((Below.refl _ _).alloc (Nat.le_refl _) _).drew; rintro e w' ⟨rfl, n1, rfl⟩) | (go_at_call 70; refine (unitW_any k _ (zs.drop 2) _ ?_ (HB.out.drop 2) HK.out ?_).mono ?_; exact HD.out.ext (two_new rfl); (rw [List.length_drop]; omega); rintro e w' ⟨rfl, n2, rfl⟩)) | fail
        all_goals
          go_wp2
          go_ret
          exact ⟨by rw [HE.out]; rfl, (by repeat (first | exact Below.refl _ _ | apply below_drewN | refine ext_alloc ?_ _ | apply Below.drew))⟩
      · have HE : Hid (Cx.isP k zs = true) := by unfold Hid Cx.isP; rw [hH, hL, decide_eq_true h4]; rfl
        clear hc
        go_enter Try.func68, Try.ntmps68
        go_wp2_with fail
        first | go_region_with (first | (go_at_call 71; refine (isHigh_any _ _).mono ?_; rintro e w' ⟨rfl, rfl⟩; rw [hH]) | (go_at_call 72; refine (isLow_any _ _).mono ?_; rintro e w' ⟨rfl, rfl⟩; rw [hL]) | (go_at_call_of 70 (Value.slice (some { block := b, off := off }) zs.length cap); refine (unitW_any k _ zs _ ?_ HB.out HK.out h2).mono ?_; exact HR.out.ext ((Below.refl _ _).alloc (Nat.le_refl _) _).drew; rintro e w' ⟨rfl, n1, rfl⟩) | (go_at_call 70; refine (unitW_any k _ (zs.drop 2) _ ?_ (HB.out.drop 2) HK.out ?_).mono ?_; exact HD.out.ext (two_new rfl); (rw [List.length_drop]; omega); rintro e w' ⟨rfl, n2, rfl⟩)) | fail
        all_goals
          go_wp2
          go_ret
          exact ⟨by rw [HE.out]; rfl, (by repeat (first | exact Below.refl _ _ | apply below_drewN | refine ext_alloc ?_ _ | apply Below.drew))⟩
  · have HE : Hid (Cx.isP k zs = false) := by unfold Hid Cx.isP; rw [decide_eq_false h4]; rfl
    have hd : decide ((4 : Int) ≤ (zs.length : Int)) = false := by simp; omega
    clear hc
    go_enter Try.func68, Try.ntmps68
    go_wp2
    go_quiet (fail)
    go_wp2
    go_ret
    exact ⟨by rw [HE.out]; rfl, (by repeat (first | exact Below.refl _ _ | apply below_drewN | refine ext_alloc ?_ _ | apply Below.drew))⟩
end Go.Proofs.Ytmfbobibpebfnaa
