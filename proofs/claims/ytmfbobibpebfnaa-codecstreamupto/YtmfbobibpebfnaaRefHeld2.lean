/- The document's Held: the stream's. -/
import Derived.Test.YtmfbobibpebfnaaRefHeld
import Derived.Test.YtmfbobibpebfnaaRefAt
import Derived.Test.YtmfbobibpebfnaaHeldP
namespace Go.Proofs.Ytmfbobibpebfnaa
open Go.RowKit

theorem Cx.held_else (enc : Int) (h1 : enc ≠ 1) (h2 : enc ≠ 2) (h3 : enc ≠ 3) : ∀ (f : Nat) (b : List Int), b.length ≤ f → (Cx.fd enc b).2.length = 0 := by
  intro f
  induction f with
  | zero =>
    intro b hf
    obtain rfl : b = [] := List.length_eq_zero_iff.1 (by omega)
    rw [Cx.fd_stop enc [] (.inl rfl)]; rfl
  | succ f ih =>
    intro b hf
    by_cases hn : b = []
    · subst hn; rw [Cx.fd_stop enc [] (.inl rfl)]; rfl
    · obtain ⟨a, n, hfst, g1, g2⟩ := Cx.fst_nat enc b hn
      rw [Cx.fd_go enc b hn (by unfold Cx.wt; rw [if_neg h1, if_neg h2, if_neg h3]) a n hfst]
      exact ih (b.drop n) (by rw [List.length_drop]; omega)

set_option maxRecDepth 100000 in
set_option maxHeartbeats 4000000 in
theorem rHeld1_any (v : Value) (zs : List Int) (g : Nat) (w : World) (c0 : w.cell? ⟨g, 0, none⟩ = some (.int .i64 1)) (c1 : w.cell? ⟨g, 1, none⟩ = some v) (h : Rd .u8 w v zs) (hb : Byt zs) (hm : zs.length ≤ 4611686018427387000) :
    Calls Try.prog 21 #[.pointer (some ⟨g, 0, none⟩)] w fun e w' => e = .returned (.int .i64 (Cx.fd 1 zs).2.length) ∧ Below w.heap.size w w' := by
  have HR : Hid (Rd .u8 w v zs) := h
  have HB : Hid (Byt zs) := hb
  have hgl : g < w.heap.size := World.block_lt_of_cell? w _ c0
  have HC1 : Hid (∀ w', Below w.heap.size w w' → w'.cell? ⟨g, 1, none⟩ = some v) := fun w' hw => (hw.cell (p := ⟨g, 1, none⟩) hgl).trans c1
  obtain ⟨ao, cap, rfl, _⟩ := id h
  clear h hb
  go_enter Try.func21, Try.ntmps21
  go_wp2_with fail
  go_loopw [4] (fun i wr => ∃ a : Nat, a ≤ zs.length ∧ i = .int .i64 a ∧ Hid ((Cx.fd 1 (zs.drop a)).2.length = (Cx.fd 1 zs).2.length) ∧ Hid (Below w.heap.size w wr)) (fun i _ => zs.length - (intOf i).toNat)
  case atStart => exact ⟨0, Nat.zero_le _, rfl, rfl, Below.refl _ _⟩
  case round =>
    obtain ⟨a, ha, rfl, HF, HBW⟩ := hrel
    by_cases hal : a < zs.length
    · have hd1 : decide ((a : Int) < (zs.length : Int)) = true := by simp; omega
      have hne : zs.drop a ≠ [] := List.length_pos_iff.1 (by rw [List.length_drop]; omega)
      have hbi := Cx.begin_iff (zs.drop a) hne
      obtain ⟨y, n, hfst, hn1, hn2⟩ := Cx.fst_nat 1 (zs.drop a) hne
      rw [List.length_drop] at hn2
      have hf8 : Cx.first8 (zs.drop a) = (y, (n : Int)) := by rw [← hfst]; unfold Cx.fst; simp
      have HF8 : Hid (Cx.first8 (zs.drop a) = (y, (n : Int))) := hf8
      have HST : Hid (((zs.drop a).length : Int) < Cx.mtch (zs.drop a) → (Cx.fd 1 zs).2.length = zs.length - a) := fun h => by
        rw [← HF.out, Cx.held8_stop _ hne (hbi.2 h), List.length_drop]
      have HGO : Hid (¬ (zs.length - a ≤ 3 ∧ ((zs.drop a).length : Int) < Cx.mtch (zs.drop a)) → (Cx.fd 1 (zs.drop (a + n))).2.length = (Cx.fd 1 zs).2.length) := fun h => by
        have := Cx.held8_go _ hne (fun h2 => h ⟨by have := h2.1; rw [List.length_drop] at this; exact this, hbi.1 h2.2⟩)
        rw [hf8, HF.out, List.drop_drop] at this
        exact this.symm
      have hc := HC1.out wr HBW.out
      have hs1 : IntKind.i64.wrap ((zs.length : Int) - (a : Int)) = (zs.length : Int) - (a : Int) := by rw [IntKind.wrap_i64]; omega
      have hs2 : IntKind.i64.wrap ((a : Int) + (n : Int)) = (a : Int) + (n : Int) := by rw [IntKind.wrap_i64]; omega
      clear hbi hfst hf8 hne HF
      by_cases h3 : zs.length - a ≤ 3
      · have hd2 : decide ((zs.length : Int) - (a : Int) ≤ 3) = true := by simp; omega
        have h3' : (zs.length : Int) - (a : Int) ≤ 3 := by omega
        have BG : Hid (∀ w', Below w.heap.size w w' → Calls Try.prog 26 #[.slice ao zs.length cap, .int .i64 a] w' fun e w'' => e = .returned (.bool (decide (((zs.drop a).length : Int) < Cx.mtch (zs.drop a)))) ∧ Below w'.heap.size w' w'') := fun w' hw => beginning_any _ zs a w' (HR.out.ext hw) HB.out hal h3 hm
        by_cases hq : ((zs.drop a).length : Int) < Cx.mtch (zs.drop a)
        · have HE : Hid ((Cx.fd 1 zs).2.length = zs.length - a) := HST.out hq
          rw [decide_eq_true hq] at BG
          clear HST HGO hq
          go_wp2_with (go_at_call 26; refine (BG.out _ HBW.out).mono ?_; rintro e w2 ⟨rfl, hb2⟩; have HBX : Hid (Below w.heap.size w w2) := ext_trans HBW.out hb2; clear hb2)
          go_ret
          exact ⟨ret_int (by rw [HE.out]; omega), HBX.out⟩
        · have HG : Hid ((Cx.fd 1 (zs.drop (a + n))).2.length = (Cx.fd 1 zs).2.length) := HGO.out (fun h => hq h.2)
          rw [decide_eq_false hq] at BG
          clear HST HGO hq
          go_wp2_with (first | (go_at_call 26; refine (BG.out _ HBW.out).mono ?_; rintro e w2 ⟨rfl, hb2⟩; have HBX : Hid (Below w.heap.size w w2) := ext_trans HBW.out hb2; have hc2 := HC1.out w2 HBX.out; clear hb2 BG) | (go_at_call 27; refine (eightAt_any _ zs a _ (HR.out.ext HBX.out) HB.out hal hm).mono ?_; rintro e w3 ⟨rfl, hb3⟩; rw [HF8.out]; have HW3 : Hid (Below w.heap.size w w3) := ext_trans HBX.out hb3; clear hb3))
          go_roundw
          case rel => exact ⟨a + n, by omega, by go_num, HG.out, HW3.out⟩
          case measure => simp [intOf]; omega
      · have hd2 : decide ((zs.length : Int) - (a : Int) ≤ 3) = false := by simp; omega
        have h3' : ¬ (zs.length : Int) - (a : Int) ≤ 3 := by omega
        have HG : Hid ((Cx.fd 1 (zs.drop (a + n))).2.length = (Cx.fd 1 zs).2.length) := HGO.out (fun h => h3 h.1)
        have HBX : Hid (Below w.heap.size w wr) := HBW.out
        clear HST HGO
        go_wp2_with (go_at_call 27; refine (eightAt_any _ zs a _ (HR.out.ext HBX.out) HB.out hal hm).mono ?_; rintro e w3 ⟨rfl, hb3⟩; rw [HF8.out]; have HW3 : Hid (Below w.heap.size w w3) := ext_trans HBX.out hb3; clear hb3)
        go_roundw
        case rel => exact ⟨a + n, by omega, by go_num, HG.out, HW3.out⟩
        case measure => simp [intOf]; omega
    · obtain rfl : a = zs.length := by omega
      have hd1 : decide ((zs.length : Int) < (zs.length : Int)) = false := by simp
      have HE : Hid ((Cx.fd 1 zs).2.length = 0) := by
        unfold Hid
        rw [← HF.out, List.drop_length, Cx.fd_stop 1 [] (.inl rfl)]; rfl
      clear HF
      go_wp2_with fail
      go_ret
      exact ⟨ret_int (by rw [HE.out]; rfl), HBW.out⟩
end Go.Proofs.Ytmfbobibpebfnaa
