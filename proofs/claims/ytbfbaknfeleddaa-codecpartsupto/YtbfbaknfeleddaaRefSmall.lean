/- The document's answer for one atom: Fits, Put, Size; then the law CodecSizes. -/
import Derived.Test.YtbfbaknfeleddaaBase
namespace Go.Proofs.Ytbfbaknfeleddaa
open Go.RowKit

theorem Scalar_any (a : Int) (w : World) : Calls Try.prog 73 #[.int .i64 a] w fun e w' => e = .returned (.bool (Cx.isSc a)) ∧ w' = w := by
  rcases (show a < 0 ∨ (0 ≤ a ∧ a < 55296) ∨ (55296 ≤ a ∧ a ≤ 57343) ∨ (57344 ≤ a ∧ a ≤ 1114111) ∨ 1114111 < a from by omega) with h | ⟨h, h'⟩ | ⟨h, h'⟩ | ⟨h, h'⟩ | h
  all_goals
    go_enter Try.func73, Try.ntmps73
    go_wp2
    all_goals
      go_ret
      refine ⟨ret_bool ?_, rfl⟩
      first | (simp [Cx.isSc]; done) | (rw [Bool.eq_iff_iff]; simp [Cx.isSc]; omega)

theorem rFits_any (enc a : Int) (w : World) : Calls Try.prog 52 #[.int .i64 enc, .int .i64 a] w fun e w' => e = .returned (.bool (Cx.fits enc a)) ∧ w' = w := by
  by_cases h1 : enc = 1
  · subst h1
    rcases (show a < -256 ∨ (-256 ≤ a ∧ a ≤ -129) ∨ (-128 ≤ a ∧ a < 0) ∨ (0 ≤ a ∧ a < 55296) ∨ (55296 ≤ a ∧ a ≤ 57343) ∨ (57344 ≤ a ∧ a ≤ 1114111) ∨ 1114111 < a from by omega) with h | ⟨h, h'⟩ | ⟨h, h'⟩ | ⟨h, h'⟩ | ⟨h, h'⟩ | ⟨h, h'⟩ | h
    all_goals
      go_enter Try.func52, Try.ntmps52
      go_wp2
      all_goals
        go_ret
        refine ⟨ret_bool ?_, rfl⟩
        first | (simp [Cx.fits, Cx.isSc]; done) | (rw [Bool.eq_iff_iff]; simp [Cx.fits, Cx.isSc]; omega)
  by_cases h2 : enc = 2 ∨ enc = 3
  · rcases h2 with rfl | rfl
    all_goals
      go_enter Try.func52, Try.ntmps52
      go_wp2
      all_goals
        go_ret
        refine ⟨ret_bool ?_, rfl⟩
        first | (simp [Cx.fits]; done) | (rw [Bool.eq_iff_iff]; simp [Cx.fits]; omega)
  by_cases h4 : enc = 4
  · subst h4
    go_enter Try.func52, Try.ntmps52
    go_wp2
    all_goals
      go_ret
      refine ⟨ret_bool ?_, rfl⟩
      first | (simp [Cx.fits]; done) | (rw [Bool.eq_iff_iff]; simp [Cx.fits]; omega)
  · have b1 : (enc == 1) = false := by simp [h1]
    have b2 : (enc == 2) = false := by simp; omega
    have b3 : (enc == 3) = false := by simp; omega
    have b4 : (enc == 4) = false := by simp [h4]
    have hf : Hid (Cx.fits enc a = false) := by simp [Hid, Cx.fits, h1, h2, h4]
    clear h1 h2 h4
    go_enter Try.func52, Try.ntmps52
    go_wp2
    go_ret
    exact ⟨ret_bool hf.out.symm, rfl⟩

/-- A slice literal of bytes in a new block. -/
def Cx.Lit (w w' : World) (v : Value) (bs : List Int) : Prop :=
  ∃ g, v = .slice (some ⟨g, 0, none⟩) bs.length bs.length ∧ w.heap.size ≤ g ∧ w'.heap[g]? = some (.cells (bs.map (Value.int .u8)).toArray 5 (0, 0)) ∧ Below w.heap.size w w'

theorem Cx.lit_new (w : World) (bs : List Int) : Cx.Lit w (w.alloc (.cells (bs.map (Value.int .u8)).toArray 5)) (.slice (some ⟨w.heap.size, 0, none⟩) bs.length bs.length) bs :=
  ⟨w.heap.size, rfl, Nat.le_refl _, heap_alloc_new w _, (Below.refl _ _).alloc (Nat.le_refl _) _⟩

theorem eight_any (a : Int) (w : World) (h0 : 0 ≤ a) (hx : a ≤ 1114111) : Calls Try.prog 84 #[.int .i64 a] w fun e w' => ∃ v, e = .returned v ∧ Cx.Lit w w' v (Cx.put8 a) := by
  rcases (show a < 128 ∨ (128 ≤ a ∧ a < 2048) ∨ (2048 ≤ a ∧ a < 65536) ∨ 65536 ≤ a from by omega) with h | ⟨h, h'⟩ | ⟨h, h'⟩ | h
  · have e1 : Cx.put8 a = [a] := by unfold Cx.put8; rw [if_pos h]
    go_enter Try.func84, Try.ntmps84
    go_wp2
    go_ret
    exact ⟨_, rfl, by rw [e1]; exact Cx.lit_new w [a]⟩
  · have e1 : Cx.put8 a = [192 + a / 64, 128 + a % 64] := by unfold Cx.put8; rw [if_neg (by omega), if_pos h']
    go_enter Try.func84, Try.ntmps84
    go_wp2
    go_ret
    exact ⟨_, rfl, by rw [e1]; exact Cx.lit_new w [192 + a / 64, 128 + a % 64]⟩
  · have e1 : Cx.put8 a = [224 + a / 4096, 128 + a / 64 % 64, 128 + a % 64] := by unfold Cx.put8; rw [if_neg (by omega), if_neg (by omega), if_pos h']
    go_enter Try.func84, Try.ntmps84
    go_wp2
    go_ret
    exact ⟨_, rfl, by rw [e1]; exact Cx.lit_new w [224 + a / 4096, 128 + a / 64 % 64, 128 + a % 64]⟩
  · have e1 : Cx.put8 a = [240 + a / 262144, 128 + a / 4096 % 64, 128 + a / 64 % 64, 128 + a % 64] := by unfold Cx.put8; rw [if_neg (by omega), if_neg (by omega), if_neg (by omega)]
    go_enter Try.func84, Try.ntmps84
    go_wp2
    go_ret
    exact ⟨_, rfl, by rw [e1]; exact Cx.lit_new w [240 + a / 262144, 128 + a / 4096 % 64, 128 + a / 64 % 64, 128 + a % 64]⟩

theorem unit_any (enc u : Int) (w : World) (h0 : 0 ≤ u) (hx : u ≤ 65535) : Calls Try.prog 85 #[.int .i64 enc, .int .i64 u] w fun e w' => ∃ v, e = .returned v ∧ Cx.Lit w w' v (Cx.unit enc u) := by
  by_cases h : enc = 2
  · subst h
    go_enter Try.func85, Try.ntmps85
    go_wp2
    go_ret
    exact ⟨_, rfl, Cx.lit_new w [u % 256, u / 256]⟩
  · have b : (enc == 2) = false := by simp [h]
    have e1 : Cx.unit enc u = [u / 256, u % 256] := by unfold Cx.unit; rw [if_neg h]
    clear h
    go_enter Try.func85, Try.ntmps85
    go_wp2
    go_ret
    exact ⟨_, rfl, by rw [e1]; exact Cx.lit_new w [u / 256, u % 256]⟩

theorem Cx.Lit.head {w w' : World} {v : Value} {bs : List Int} (h : Cx.Lit w w' v bs) : ∃ g, v = .slice (some ⟨g, 0, none⟩) bs.length bs.length ∧ w.heap.size ≤ g ∧ (∀ i, i < bs.length → w'.cell? ⟨g, i, none⟩ = some (.int .u8 (bs.getD i 0))) ∧ Below w.heap.size w w' := by
  obtain ⟨g, hv, hg, hh, hb⟩ := h
  refine ⟨g, hv, hg, fun i hi => ?_, hb⟩
  rw [cell_of_row w' g i _ _ _ hh]
  simp [List.getD, hi]

theorem Cx.put_len (enc a : Int) : 1 ≤ (Cx.put enc a).length ∧ (Cx.put enc a).length ≤ 4 := by
  unfold Cx.put Cx.put8 Cx.unit
  repeat' split
  all_goals simp

def Cx.u0 (enc u : Int) : Int := if enc = 2 then u % 256 else u / 256
def Cx.u1 (enc u : Int) : Int := if enc = 2 then u / 256 else u % 256
theorem Cx.unit_eq (enc u : Int) : Cx.unit enc u = [Cx.u0 enc u, Cx.u1 enc u] := by unfold Cx.unit Cx.u0 Cx.u1; split <;> rfl
theorem Cx.u_bd (enc u : Int) (h0 : 0 ≤ u) (hx : u ≤ 65535) : (0 ≤ Cx.u0 enc u ∧ Cx.u0 enc u ≤ 255) ∧ 0 ≤ Cx.u1 enc u ∧ Cx.u1 enc u ≤ 255 := by unfold Cx.u0 Cx.u1; split <;> omega

theorem unit2_any (enc u : Int) (w : World) (h0 : 0 ≤ u) (hx : u ≤ 65535) : Calls Try.prog 85 #[.int .i64 enc, .int .i64 u] w fun e w' => ∃ g, e = .returned (.slice (some ⟨g, 0, none⟩) 2 2) ∧ w.heap.size ≤ g ∧ g < w'.heap.size ∧
    w'.cell? ⟨g, 0, none⟩ = some (.int .u8 (Cx.u0 enc u)) ∧ w'.cell? ⟨g, 1, none⟩ = some (.int .u8 (Cx.u1 enc u)) ∧ Below w.heap.size w w' := by
  refine (unit_any enc u w h0 hx).mono ?_
  rintro e w' ⟨v, rfl, hv⟩
  rw [Cx.unit_eq] at hv
  obtain ⟨g, rfl, hg, hc, hb⟩ := hv.head
  have h1 := hc 0 (by simp)
  have h2 := hc 1 (by simp)
  simp at h1 h2
  exact ⟨g, rfl, hg, World.block_lt_of_cell? w' _ h1, h1, h2, hb⟩

theorem Put_any (enc a : Int) (w : World) (h0 : -256 ≤ a) (hx : a ≤ 1114111) (h4 : enc = 4 → a ≤ 255) : Calls Try.prog 74 #[.int .i64 enc, .int .i64 a] w fun e w' => ∃ v, e = .returned v ∧ Cx.Lit w w' v (Cx.put enc a) := by
  by_cases hn : a < 0
  · have e1 : Cx.put enc a = [-1 - a] := by unfold Cx.put; rw [if_pos hn]
    clear h4
    go_enter Try.func74, Try.ntmps74
    go_wp2
    go_ret
    exact ⟨_, rfl, by rw [e1]; exact Cx.lit_new w [-1 - a]⟩
  by_cases h1 : enc = 1
  · subst h1
    have e1 : Cx.put 1 a = Cx.put8 a := by unfold Cx.put; rw [if_neg hn, if_pos rfl]
    have HE : Hid (Cx.put 1 a = Cx.put8 a) := e1
    clear h4 e1
    go_enter Try.func74, Try.ntmps74
    go_wp2_with (go_at_call 84; refine (eight_any _ _ (by omega) (by omega)).mono ?_; rintro e w' ⟨v, rfl, hv⟩)
    go_ret
    exact ⟨_, rfl, by rw [HE.out]; assumption⟩
  by_cases h4' : enc = 4
  · subst h4'
    have h4 := h4 rfl
    have HE : Hid (Cx.put 4 a = [a]) := by unfold Hid Cx.put; rw [if_neg hn]; rfl
    go_enter Try.func74, Try.ntmps74
    go_wp2
    go_ret
    exact ⟨_, rfl, by rw [HE.out]; exact Cx.lit_new w [a]⟩
  have b1 : (enc == 1) = false := by simp [h1]
  have b4 : (enc == 4) = false := by simp [h4']
  by_cases hb : 65536 ≤ a
  · have HE : Hid (Cx.put enc a = Cx.unit enc (55296 + (a - 65536) / 1024) ++ Cx.unit enc (56320 + a % 1024)) := by unfold Hid Cx.put; rw [if_neg hn, if_neg h1, if_neg h4', if_pos hb]
    clear h4 h1 h4'
    go_enter Try.func74, Try.ntmps74
    go_wp2_with fail
    refine (unit2_any _ _ _ (by omega) (by omega)).mono ?_
    rintro e w1 ⟨g, rfl, hg, hgl, c0, c1, hb1⟩
    go_wp2_with fail
    refine (unit2_any _ _ _ (by omega) (by omega)).mono ?_
    rintro e w2 ⟨g2, rfl, hg2, hgl2, d0, d1, hb2⟩
    have e0 : w2.cell? ⟨g, 0, none⟩ = some (.int .u8 (Cx.u0 enc (55296 + (a - 65536) / 1024))) := (hb2.cell (p := ⟨g, 0, none⟩) hgl).trans c0
    have e1 : w2.cell? ⟨g, 1, none⟩ = some (.int .u8 (Cx.u1 enc (55296 + (a - 65536) / 1024))) := (hb2.cell (p := ⟨g, 1, none⟩) hgl).trans c1
    have hz : w.heap.size ≤ w2.heap.size := by omega
    have HB : Hid (Below w.heap.size w w2) := hb1.trans (hb2.mono hb1.size)
    clear c0 c1 hb1 hb2
    go_wp2
    go_region
    all_goals (try go_wp2)
    all_goals
      go_ret
      refine ⟨_, rfl, ?_⟩
      rw [HE.out, Cx.unit_eq, Cx.unit_eq]
      exact ⟨w2.heap.size, rfl, hz, heap_alloc_new w2 _, (HB.out.alloc hz _).drew⟩
  · have HE : Hid (Cx.put enc a = Cx.unit enc a) := by unfold Hid Cx.put; rw [if_neg hn, if_neg h1, if_neg h4', if_neg hb]
    clear h4 h1 h4'
    go_enter Try.func74, Try.ntmps74
    go_wp2_with (go_at_call 85; refine (unit_any _ _ _ (by omega) (by omega)).mono ?_; rintro e w' ⟨v, rfl, hv⟩)
    go_ret
    exact ⟨_, rfl, by rw [HE.out]; assumption⟩

theorem rSize_any (enc a : Int) (w : World) : Calls Try.prog 53 #[.int .i64 enc, .int .i64 a] w fun e w' => e = .returned (.int .i64 (Cx.size enc a)) ∧ Below w.heap.size w w' := by
  by_cases hf : Cx.fits enc a = true
  · have HE : Hid (Cx.size enc a = ((Cx.put enc a).length : Int)) := by unfold Hid Cx.size; rw [if_pos hf]
    have g0 : -256 ≤ a ∧ a ≤ 1114111 ∧ (enc = 4 → a ≤ 255) := by
      unfold Cx.fits Cx.isSc at hf
      repeat' split at hf
      all_goals simp at hf
      all_goals omega
    obtain ⟨g0, g1, g2⟩ := g0
    have hl := Cx.put_len enc a
    generalize hn : (Cx.put enc a).length = n at *
    have HN : Hid ((Cx.put enc a).length = n) := hn
    clear hn
    go_enter Try.func53, Try.ntmps53
    go_wp2_with (first | (go_at_call 52; refine (rFits_any _ _ _).mono ?_; rintro e w' ⟨rfl, rfl⟩) | (go_at_call 74; refine (Put_any _ _ _ g0 g1 g2).mono ?_; rintro e w' ⟨v, rfl, g, rfl, hg, hh, hb⟩; rw [HN.out]))
    go_ret
    exact ⟨ret_int HE.out.symm, by assumption⟩
  · have hf : Cx.fits enc a = false := by simpa using hf
    have HE : Hid (Cx.size enc a = 0) := by unfold Hid Cx.size; rw [hf]; rfl
    go_enter Try.func53, Try.ntmps53
    go_wp2_with (go_at_call 52; refine (rFits_any _ _ _).mono ?_; rintro e w' ⟨rfl, rfl⟩)
    go_ret
    exact ⟨ret_int HE.out.symm, Below.refl _ _⟩

theorem Cx.fits_size (enc a : Int) : decide (0 < Cx.size enc a) = Cx.fits enc a := by
  have := Cx.put_len enc a
  unfold Cx.size
  cases h : Cx.fits enc a <;> simp; omega

theorem Fits_any (enc a : Int) (w : World) : Calls Try.prog 33 #[.int .i64 enc, .int .i64 a] w fun e w' => e = .returned (.bool (Cx.fits enc a)) ∧ Below w.heap.size w w' := by
  have HE := Cx.fits_size enc a
  rw [← HE]
  clear HE
  go_enter Try.func33, Try.ntmps33
  go_wp2_with (go_at_call 34; refine (Size_any _ _ _).mono ?_; rintro e w' ⟨rfl, hb⟩)
  go_ret
  exact ⟨rfl, by assumption⟩

theorem sized_any (enc a : Int) (w : World) : Calls Try.prog 16 #[.int .i64 enc, .int .i64 a] w fun e w' => e = .returned (.bool true) ∧ Below w.heap.size w w' := by
  go_enter Try.func16, Try.ntmps16
  go_wp2_with (first | (go_at_call 33; refine (Fits_any _ _ _).mono ?_; rintro e w1 ⟨rfl, hb1⟩) | (go_at_call 52; refine (rFits_any _ _ _).mono ?_; rintro e w' ⟨rfl, rfl⟩) | (go_at_call 34; refine (Size_any _ _ _).mono ?_; rintro e w2 ⟨rfl, hb2⟩) | (go_at_call 53; refine (rSize_any _ _ _).mono ?_; rintro e w3 ⟨rfl, hb3⟩))
  go_ret
  refine ⟨rfl, ?_⟩
  exact hb1.trans ((hb2.mono hb1.size).trans (hb3.mono (Nat.le_trans hb1.size hb2.size)))

theorem law_sizes (enc a : Int) (w : World) : Calls Try.prog 4 #[.int .i64 enc, .int .i64 a] w fun e w' => e = .returned (.bool true) ∧ Below w.heap.size w w' := by
  go_enter Try.func4, Try.ntmps4
  go_wp2_with fail
  refine (sized_any _ _ _).mono ?_
  rintro e w1 ⟨rfl, hb1⟩
  go_wp2_with fail
  refine (sized_any _ _ _).mono ?_
  rintro e w2 ⟨rfl, hb2⟩
  go_wp2_with fail
  go_ret
  exact ⟨rfl, hb1.trans (hb2.mono hb1.size)⟩
end Go.Proofs.Ytbfbaknfeleddaa
