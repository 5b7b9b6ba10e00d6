/- The document's Prev. -/
import Derived.Test.YtbfbaknfeleddaaTok2
namespace Go.Proofs.Ytbfbaknfeleddaa
open Go.RowKit

set_option maxRecDepth 100000 in
/-- The document's Prev. -/
theorem rPrev_any (enc : Int) (v : Value) (zs : List Int) (a : Int) (w : World) (h : Rd .u8 w v zs) (hb : Byt zs) (hm : zs.length ≤ 4611686018427387000) :
    Calls Try.prog 64 #[.int .i64 enc, v, .int .i64 a] w fun e w' => e = .returned (.tuple #[.int .i64 (Cx.pv enc zs a).1, .int .i64 (Cx.pv enc zs a).2]) ∧ Below w.heap.size w w' := by
  have HR : Hid (Rd .u8 w v zs) := h
  have HB : Hid (Byt zs) := hb
  obtain ⟨ao, cap, rfl, hl, hcm, hc⟩ := h
  have hcm' : cap ≤ 9223372036854775807 := hcm
  by_cases hy : Cx.known enc = true ∧ 0 < a ∧ a ≤ zs.length
  · obtain ⟨hk, h0, h1⟩ := hy
    obtain ⟨n, rfl⟩ : ∃ n : Nat, a = n := ⟨a.toNat, by omega⟩
    have hn : n ≤ zs.length := by omega
    have h0' : 0 < n := by omega
    have HE : Hid (Cx.pv enc zs n = Cx.lst enc (zs.take n)) := Cx.pv_yes enc zs n hk h0' hn
    have HK : Hid (enc = 1 ∨ enc = 2 ∨ enc = 3 ∨ enc = 4) := (Cx.known_iff enc).1 hk
    obtain ⟨b, off, rfl, _⟩ := hc (List.length_pos_iff.1 (by omega))
    have hnc : n ≤ cap := by omega
    have hdn : decide (zs.length < n) = false := decide_eq_false (by omega)
    have HC : Hid (Rd .u8 w (.slice (some ⟨b, off, none⟩) n cap) (zs.take n)) := HR.out.take n hn
    have hZl' : (zs.take n).length = n := by rw [List.length_take]; omega
    have hZb : Hid (Byt (zs.take n)) := HB.out.take n
    clear hc hb hcm
    generalize zs.take n = Z at *
    have hZl : Hid (Z.length = n) := hZl'
    clear hZl'
    go_enter Try.func64, Try.ntmps64
    go_wp2_with fail
    refine (rknown_any _ _).mono ?_
    rintro e w' ⟨rfl, rfl⟩
    rw [hk]
    go_wp2_with fail
    go_loopw [9, 10, 11] (fun av nv iv wr => ∃ (k : Nat) (x y : Int), k ≤ n ∧ av = .int .i64 x ∧ nv = .int .i64 y ∧ iv = .int .i64 k ∧ Hid ((k = n → Cx.lst enc Z = (x, y)) ∧ (k < n → Cx.lst enc Z = Cx.lst enc (Z.drop k))) ∧ Below w'.heap.size w' wr) (fun _ _ iv _ => n - (intOf iv).toNat)
    case atStart => exact ⟨0, 0, 0, Nat.zero_le _, rfl, rfl, rfl, ⟨fun h => by omega, fun _ => by rw [List.drop_zero]⟩, Below.refl _ _⟩
    case round =>
      obtain ⟨k, x, y, hk1, rfl, rfl, rfl, HI, hbw⟩ := hrel
      by_cases hlt : k < n
      · have hne : Z.drop k ≠ [] := List.length_pos_iff.1 (by rw [List.length_drop, hZl.out]; omega)
        have hdl : (Z.drop k).length = n - k := by rw [List.length_drop, hZl.out]
        obtain ⟨a', m, hf, hm1, hm2⟩ : ∃ (a' : Int) (m : Nat), Cx.fst enc (Z.drop k) = (a', (m : Int)) ∧ 1 ≤ m ∧ m ≤ (Z.drop k).length := by
          have := Cx.fst_bd enc (Z.drop k) hne
          exact ⟨_, (Cx.fst enc (Z.drop k)).2.toNat, Prod.ext rfl (by simp only; omega), by omega, by omega⟩
        rw [hdl] at hm2
        have HF : Hid (Cx.fst enc (Z.drop k) = (a', (m : Int))) := hf
        have HN : Hid ((k + m = n → Cx.lst enc Z = (a', (m : Int))) ∧ (k + m < n → Cx.lst enc Z = Cx.lst enc (Z.drop (k + m)))) := by
          refine ⟨fun he => ?_, fun hl' => ?_⟩
          · rw [HI.out.2 hlt, Cx.last_one enc _ (hZb.out.drop k) hne HK.out (by rw [hf, hdl]; simp only; omega), hf]
          · rw [HI.out.2 hlt, Cx.last_more enc _ (hZb.out.drop k) hne HK.out m (by rw [hf]) (by rw [hdl]; omega), List.drop_drop]
        clear hf hne hdl HI
        go_wp2_with fail
        refine (At_fst enc _ Z k a' m _ (HC.out.ext hbw) hZb.out HK.out (by rw [hZl.out]; exact hlt) (by rw [hZl.out]; omega) HF.out).mono ?_
        rintro e w1 ⟨rfl, hb1⟩
        have hbw1 : Below w'.heap.size w' w1 := ext_trans hbw hb1
        clear hbw hb1
        go_wp2
        go_roundw
        case rel => exact ⟨k + m, a', m, by omega, rfl, rfl, by go_num, HN.out, hbw1⟩
        case measure => simp [intOf]; omega
      · have HL : Hid (Cx.lst enc Z = (x, y)) := HI.out.1 (by omega)
        clear HI
        go_wp2
        go_ret2
        exact ⟨by rw [HE.out, HL.out]; rfl, hbw⟩
  · have HE : Hid (Cx.pv enc zs a = (0, 0)) := by unfold Hid Cx.pv; rw [if_neg hy]
    cases hk : Cx.known enc
    · clear hy hb hc
      go_enter Try.func64, Try.ntmps64
      go_wp2_with fail
      refine (rknown_any _ _).mono ?_
      rintro e w' ⟨rfl, rfl⟩
      rw [hk]
      go_wp2
      go_ret2
      exact ⟨by rw [HE.out]; rfl, Below.refl _ _⟩
    · by_cases h0 : a ≤ 0
      · have hd0 : decide (a ≤ 0) = true := decide_eq_true h0
        clear hy hb hc
        go_enter Try.func64, Try.ntmps64
        go_wp2_with fail
        refine (rknown_any _ _).mono ?_
        rintro e w' ⟨rfl, rfl⟩
        rw [hk]
        go_wp2
        go_ret2
        exact ⟨by rw [HE.out]; rfl, Below.refl _ _⟩
      · have h1 : (zs.length : Int) < a := by
          by_cases h : a ≤ zs.length
          · exact absurd ⟨hk, by omega, h⟩ hy
          · omega
        have hd0 : decide (a ≤ 0) = false := decide_eq_false h0
        have hd1 : decide ((zs.length : Int) < a) = true := decide_eq_true h1
        clear hy hb hc
        go_enter Try.func64, Try.ntmps64
        go_wp2_with fail
        refine (rknown_any _ _).mono ?_
        rintro e w' ⟨rfl, rfl⟩
        rw [hk]
        go_wp2
        go_ret2
        exact ⟨by rw [HE.out]; rfl, Below.refl _ _⟩
end Go.Proofs.Ytbfbaknfeleddaa
