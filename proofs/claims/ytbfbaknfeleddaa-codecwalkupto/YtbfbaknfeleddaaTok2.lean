/- Next and Prev at any encoding and place; the document's Next and Prev. -/
import Derived.Test.YtbfbaknfeleddaaTokN
import Derived.Test.YtbfbaknfeleddaaTokP
namespace Go.Proofs.Ytbfbaknfeleddaa
open Go.RowKit

theorem Cx.nx_yes (enc : Int) (zs : List Int) (n : Nat) (hk : Cx.known enc = true) (h : n < zs.length) : Cx.nx enc zs n = Cx.fst enc (zs.drop n) := by
  unfold Cx.nx; rw [if_pos ⟨hk, by omega, by omega⟩, Int.toNat_natCast]
theorem Cx.pv_yes (enc : Int) (zs : List Int) (n : Nat) (hk : Cx.known enc = true) (h0 : 0 < n) (h : n ≤ zs.length) : Cx.pv enc zs n = Cx.lst enc (zs.take n) := by
  unfold Cx.pv; rw [if_pos ⟨hk, by omega, by omega⟩, Int.toNat_natCast]

set_option maxRecDepth 100000 in
/-- codec.Next: every encoding, every place. -/
theorem Next_any (enc : Int) (v : Value) (zs : List Int) (a : Int) (w : World) (h : Rd .u8 w v zs) (hb : Byt zs) :
    Calls Try.prog 21 #[.int .i64 enc, v, .int .i64 a] w fun e w' => e = .returned (.tuple #[.int .i64 (Cx.nx enc zs a).1, .int .i64 (Cx.nx enc zs a).2]) ∧ Below w.heap.size w w' := by
  by_cases hy : Cx.known enc = true ∧ 0 ≤ a ∧ a < zs.length
  · obtain ⟨hk, h0, h1⟩ := hy
    obtain ⟨n, rfl⟩ : ∃ n : Nat, a = n := ⟨a.toNat, by omega⟩
    have hn : n < zs.length := by omega
    rw [Cx.nx_yes enc zs n hk hn]
    rcases (Cx.known_iff enc).1 hk with rfl | rfl | rfl | rfl
    · exact Next_1 v zs n w h hb hn
    · exact Next_2 v zs n w h hb hn
    · exact Next_3 v zs n w h hb hn
    · exact Next_4 v zs n w h hb hn
  · have HE : Hid (Cx.nx enc zs a = (0, 0)) := by unfold Hid Cx.nx; rw [if_neg hy]
    obtain ⟨ao, cap, rfl, _⟩ := h
    cases hk : Cx.known enc
    · obtain ⟨h1, h2, h3, h4⟩ := Cx.known_no enc hk
      clear hy hb
      go_enter Try.func21, Try.ntmps21
      go_wp2_with fail
      refine (coderOf_no _ h1 h2 h3 h4 _).mono ?_
      rintro e w' ⟨rfl, rfl⟩
      clear h1 h2 h3 h4
      go_wp2
      go_ret2
      exact ⟨by rw [HE.out]; rfl, Below.refl _ _⟩
    · by_cases h0 : a < 0
      · have hd0 : decide (a < 0) = true := decide_eq_true h0
        clear hy hb
        go_enter Try.func21, Try.ntmps21
        go_wp2_with fail
        refine (coderOf_any _ _).mono ?_
        rintro e w' ⟨rfl, rfl⟩
        rw [hk]
        generalize Cx.cv enc = cv
        go_wp2
        go_ret2
        exact ⟨by rw [HE.out]; rfl, Below.refl _ _⟩
      · have h1 : (zs.length : Int) ≤ a := by
          by_cases h : a < zs.length
          · exact absurd ⟨hk, by omega, h⟩ hy
          · omega
        have hd0 : decide (a < 0) = false := decide_eq_false h0
        have hd1 : decide ((zs.length : Int) ≤ a) = true := decide_eq_true h1
        clear hy hb
        go_enter Try.func21, Try.ntmps21
        go_wp2_with fail
        refine (coderOf_any _ _).mono ?_
        rintro e w' ⟨rfl, rfl⟩
        rw [hk]
        generalize Cx.cv enc = cv
        go_wp2
        go_ret2
        exact ⟨by rw [HE.out]; rfl, Below.refl _ _⟩

set_option maxRecDepth 100000 in
/-- codec.Prev: every encoding, every place. -/
theorem Prev_any (enc : Int) (v : Value) (zs : List Int) (a : Int) (w : World) (h : Rd .u8 w v zs) (hb : Byt zs) :
    Calls Try.prog 22 #[.int .i64 enc, v, .int .i64 a] w fun e w' => e = .returned (.tuple #[.int .i64 (Cx.pv enc zs a).1, .int .i64 (Cx.pv enc zs a).2]) ∧ Below w.heap.size w w' := by
  by_cases hy : Cx.known enc = true ∧ 0 < a ∧ a ≤ zs.length
  · obtain ⟨hk, h0, h1⟩ := hy
    obtain ⟨n, rfl⟩ : ∃ n : Nat, a = n := ⟨a.toNat, by omega⟩
    have hn : n ≤ zs.length := by omega
    have h0' : 0 < n := by omega
    rw [Cx.pv_yes enc zs n hk h0' hn]
    rcases (Cx.known_iff enc).1 hk with rfl | rfl | rfl | rfl
    · exact Prev_1 v zs n w h hb h0' hn
    · exact Prev_2 v zs n w h hb h0' hn
    · exact Prev_3 v zs n w h hb h0' hn
    · exact Prev_4 v zs n w h hb h0' hn
  · have HE : Hid (Cx.pv enc zs a = (0, 0)) := by unfold Hid Cx.pv; rw [if_neg hy]
    obtain ⟨ao, cap, rfl, _⟩ := h
    cases hk : Cx.known enc
    · obtain ⟨h1, h2, h3, h4⟩ := Cx.known_no enc hk
      clear hy hb
      go_enter Try.func22, Try.ntmps22
      go_wp2_with fail
      refine (coderOf_no _ h1 h2 h3 h4 _).mono ?_
      rintro e w' ⟨rfl, rfl⟩
      clear h1 h2 h3 h4
      go_wp2
      go_ret2
      exact ⟨by rw [HE.out]; rfl, Below.refl _ _⟩
    · by_cases h0 : a ≤ 0
      · have hd0 : decide (a ≤ 0) = true := decide_eq_true h0
        clear hy hb
        go_enter Try.func22, Try.ntmps22
        go_wp2_with fail
        refine (coderOf_any _ _).mono ?_
        rintro e w' ⟨rfl, rfl⟩
        rw [hk]
        generalize Cx.cv enc = cv
        go_wp2
        go_ret2
        exact ⟨by rw [HE.out]; rfl, Below.refl _ _⟩
      · have h1 : (zs.length : Int) < a := by
          by_cases h : a ≤ zs.length
          · exact absurd ⟨hk, by omega, h⟩ hy
          · omega
        have hd0 : decide (a ≤ 0) = false := decide_eq_false h0
        have hd1 : decide ((zs.length : Int) < a) = true := decide_eq_true h1
        clear hy hb
        go_enter Try.func22, Try.ntmps22
        go_wp2_with fail
        refine (coderOf_any _ _).mono ?_
        rintro e w' ⟨rfl, rfl⟩
        rw [hk]
        generalize Cx.cv enc = cv
        go_wp2
        go_ret2
        exact ⟨by rw [HE.out]; rfl, Below.refl _ _⟩

set_option maxRecDepth 100000 in
/-- The document's Next. -/
theorem rNext_any (enc : Int) (v : Value) (zs : List Int) (a : Int) (w : World) (h : Rd .u8 w v zs) (hb : Byt zs) (hm : zs.length ≤ 4611686018427387000) :
    Calls Try.prog 63 #[.int .i64 enc, v, .int .i64 a] w fun e w' => e = .returned (.tuple #[.int .i64 (Cx.nx enc zs a).1, .int .i64 (Cx.nx enc zs a).2]) ∧ Below w.heap.size w w' := by
  have HR : Hid (Rd .u8 w v zs) := h
  have HB : Hid (Byt zs) := hb
  obtain ⟨ao, cap, rfl, hl, hcm, hc⟩ := h
  have hcm' : cap ≤ 9223372036854775807 := hcm
  by_cases hy : Cx.known enc = true ∧ 0 ≤ a ∧ a < zs.length
  · obtain ⟨hk, h0, h1⟩ := hy
    obtain ⟨n, rfl⟩ : ∃ n : Nat, a = n := ⟨a.toNat, by omega⟩
    have hn : n < zs.length := by omega
    have HE : Hid (Cx.nx enc zs n = Cx.fst enc (zs.drop n)) := Cx.nx_yes enc zs n hk hn
    have HK : Hid (enc = 1 ∨ enc = 2 ∨ enc = 3 ∨ enc = 4) := (Cx.known_iff enc).1 hk
    obtain ⟨b, off, rfl, _⟩ := hc (List.length_pos_iff.1 (by omega))
    have hcn : ¬ cap = n := by omega
    have HC : Hid (Rd .u8 w (.slice (some ⟨b, off + n, none⟩) (zs.length - n) (cap - n)) (zs.drop n)) := HR.out.cut (by omega)
    have hdl : Hid ((zs.drop n).length = zs.length - n) := List.length_drop
    clear hc hb hcm
    generalize hR : Cx.fst enc (zs.drop n) = R at *
    have HRR : Hid (Cx.fst enc ((zs.drop n).drop 0) = R) := by unfold Hid; rw [List.drop_zero]; exact hR
    clear hR
    go_enter Try.func63, Try.ntmps63
    go_wp2_with fail
    refine (rknown_any _ _).mono ?_
    rintro e w' ⟨rfl, rfl⟩
    rw [hk]
    go_wp2_with fail
    refine (At_any enc _ (zs.drop n) 0 _ HC.out (HB.out.drop n) HK.out (by rw [hdl.out]; omega) (by rw [hdl.out]; omega)).mono ?_
    rw [HRR.out]
    rintro e w1 ⟨rfl, hb1⟩
    go_wp2
    go_ret2
    exact ⟨by rw [HE.out]; rfl, hb1⟩
  · have HE : Hid (Cx.nx enc zs a = (0, 0)) := by unfold Hid Cx.nx; rw [if_neg hy]
    cases hk : Cx.known enc
    · clear hy hb hc
      go_enter Try.func63, Try.ntmps63
      go_wp2_with fail
      refine (rknown_any _ _).mono ?_
      rintro e w' ⟨rfl, rfl⟩
      rw [hk]
      go_wp2
      go_ret2
      exact ⟨by rw [HE.out]; rfl, Below.refl _ _⟩
    · by_cases h0 : a < 0
      · have hd0 : decide (a < 0) = true := decide_eq_true h0
        clear hy hb hc
        go_enter Try.func63, Try.ntmps63
        go_wp2_with fail
        refine (rknown_any _ _).mono ?_
        rintro e w' ⟨rfl, rfl⟩
        rw [hk]
        go_wp2
        go_ret2
        exact ⟨by rw [HE.out]; rfl, Below.refl _ _⟩
      · have h1 : (zs.length : Int) ≤ a := by
          by_cases h : a < zs.length
          · exact absurd ⟨hk, by omega, h⟩ hy
          · omega
        have hd0 : decide (a < 0) = false := decide_eq_false h0
        have hd1 : decide ((zs.length : Int) ≤ a) = true := decide_eq_true h1
        clear hy hb hc
        go_enter Try.func63, Try.ntmps63
        go_wp2_with fail
        refine (rknown_any _ _).mono ?_
        rintro e w' ⟨rfl, rfl⟩
        rw [hk]
        go_wp2
        go_ret2
        exact ⟨by rw [HE.out]; rfl, Below.refl _ _⟩
end Go.Proofs.Ytbfbaknfeleddaa
