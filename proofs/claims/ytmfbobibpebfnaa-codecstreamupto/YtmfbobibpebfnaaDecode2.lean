/- Decode of the code and of the document's answer; sameInts; decoded; the law CodecDecode. -/
import Derived.Test.YtmfbobibpebfnaaDecode
namespace Go.Proofs.Ytmfbobibpebfnaa
open Go.RowKit

def Cx.dd (enc : Int) (zs : List Int) : List Int := if Cx.known enc = true then Cx.dec enc zs else []
def Cx.er (enc : Int) : Int := if Cx.known enc = true then 0 else 10
theorem Cx.known_iff (enc : Int) : Cx.known enc = true ↔ (enc = 1 ∨ enc = 2 ∨ enc = 3 ∨ enc = 4) := by unfold Cx.known; simp; omega
theorem Cx.known_no (enc : Int) (h : Cx.known enc = false) : enc ≠ 1 ∧ enc ≠ 2 ∧ enc ≠ 3 ∧ enc ≠ 4 := by
  unfold Cx.known at h; simp at h; omega
theorem Cx.dd_yes (enc : Int) (zs : List Int) (h : Cx.known enc = true) : Cx.dd enc zs = Cx.dec enc zs := by unfold Cx.dd; rw [if_pos h]
theorem Cx.dd_no (enc : Int) (zs : List Int) (h : Cx.known enc = false) : Cx.dd enc zs = [] := by unfold Cx.dd; rw [h]; rfl
theorem Cx.dd_len (enc : Int) (zs : List Int) : (Cx.dd enc zs).length ≤ zs.length := by
  unfold Cx.dd; split
  · exact Cx.dec_len enc _ zs
  · simp

theorem rknown_any (enc : Int) (w : World) : Calls Try.prog 12 #[.int .i64 enc] w fun e w' => e = .returned (.bool (Cx.known enc)) ∧ w' = w := by
  unfold Cx.known
  by_cases h1 : 1 ≤ enc
  · go_enter Try.func12, Try.ntmps12
    go_wp2
    go_ret
    exact ⟨by rw [decide_eq_true h1, Bool.true_and]; rfl, rfl⟩
  · have hd : decide (1 ≤ enc) = false := by simp; omega
    go_enter Try.func12, Try.ntmps12
    go_wp2
    go_ret
    exact ⟨rfl, rfl⟩

theorem At_fst (enc : Int) (v : Value) (zs : List Int) (at' : Nat) (a : Int) (n : Nat) (w : World) (h : Rd .u8 w v zs) (hb : Byt zs) (he : enc = 1 ∨ enc = 2 ∨ enc = 3 ∨ enc = 4) (hl : at' < zs.length) (hm : zs.length ≤ 4611686018427387000) (hf : Cx.fst enc (zs.drop at') = (a, (n : Int))) :
    Calls Try.prog 31 #[.int .i64 enc, v, .int .i64 at'] w fun e w' => e = .returned (.tuple #[.int .i64 a, .int .i64 n]) ∧ Below w.heap.size w w' := by
  have := At_any enc v zs at' w h hb he hl hm
  rwa [hf] at this

set_option maxRecDepth 100000 in
theorem rDecode_any (enc : Int) (v : Value) (zs : List Int) (w : World) (h : Rd .u8 w v zs) (hb : Byt zs) (hz : zs.length * 8 ≤ 140737488355328) :
    Calls Try.prog 25 #[.int .i64 enc, v] w fun e w' => ∃ v', e = .returned (.tuple #[v', .int .i64 (Cx.er enc)]) ∧ w'.ownsRow w.heap.size 3 1 v' (Cx.dd enc zs).length ((Cx.dd enc zs).map (Value.int .i64)) ∧ Below w.heap.size w w' := by
  obtain ⟨i0, hi, hz0, hz1, hz2⟩ := info_parts Try.info_i64
  have HR : Hid (Rd .u8 w v zs) := h
  have HB : Hid (Byt zs) := hb
  obtain ⟨ao, cap, rfl, _⟩ := id h
  clear h hb
  cases hk : Cx.known enc
  · have HE : Hid (Cx.dd enc zs = []) := Cx.dd_no enc zs hk
    have HX : Hid (Cx.er enc = 10) := by unfold Hid Cx.er; rw [hk]; rfl
    go_enter Try.func25, Try.ntmps25
    go_wp2_with (go_at_call 12; refine (rknown_any _ _).mono ?_; rintro e w' ⟨rfl, rfl⟩; rw [hk])
    go_ret2
    exact ⟨_, by rw [HX.out]; rfl, by rw [HE.out]; exact World.ownsRow_nil _ _ _ _, Below.refl _ _⟩
  · have HX : Hid (Cx.er enc = 0) := by unfold Hid Cx.er; rw [hk]; rfl
    have HE : Hid (Cx.dd enc zs = Cx.dec enc zs) := Cx.dd_yes enc zs hk
    have HK : Hid (enc = 1 ∨ enc = 2 ∨ enc = 3 ∨ enc = 4) := (Cx.known_iff enc).1 hk
    go_enter Try.func25, Try.ntmps25
    go_wp2_with (go_at_call 12; refine (rknown_any _ _).mono ?_; rintro e w0 ⟨rfl, rfl⟩; rw [hk])
    rename_i w
    go_loopw [7, 8] (fun o i wr => ∃ (k : Nat) (l : List Int), k ≤ zs.length ∧ i = .int .i64 k ∧ Hid (Cx.dec enc zs = l ++ Cx.dec enc (zs.drop k)) ∧ l.length ≤ k ∧ wr.ownsRow w0.heap.size 3 1 o l.length (l.map (Value.int .i64)) ∧ Below w0.heap.size w0 wr) (fun _ i _ => zs.length - (intOf i).toNat)
    case atStart => exact ⟨0, [], Nat.zero_le _, rfl, rfl, Nat.le_refl _, World.ownsRow_nil _ _ _ _, Below.refl _ _⟩
    case round =>
      obtain ⟨k, l, hk1, rfl, HD, hle, hown, hbw⟩ := hrel
      have hw' : w0.heap.size ≤ wr.heap.size := hbw.size
      by_cases hlt : k < zs.length
      · have hn : zs.drop k ≠ [] := List.length_pos_iff.1 (by rw [List.length_drop]; omega)
        obtain ⟨a, n, hf, hn1, hn2⟩ : ∃ (a : Int) (n : Nat), Cx.fst enc (zs.drop k) = (a, (n : Int)) ∧ 1 ≤ n ∧ n ≤ (zs.drop k).length := by
          have := Cx.fst_bd enc (zs.drop k) hn
          exact ⟨_, (Cx.fst enc (zs.drop k)).2.toNat, Prod.ext rfl (by simp only; omega), by omega, by omega⟩
        have HF : Hid (Cx.fst enc (zs.drop k) = (a, (n : Int))) := hf
        have HD' : Hid (Cx.dec enc zs = (l ++ [a]) ++ Cx.dec enc (zs.drop (k + n))) := by unfold Hid; rw [HD.out, Cx.dec_cons enc _ hn a n hf, List.drop_drop]; simp
        rw [List.length_drop] at hn2
        have HT' : Hid (l.map (Value.int .i64) ++ [Value.int .i64 a] = (l ++ [a]).map (Value.int .i64)) := snoc_map l a
        clear hf hn HD
        generalize l.map (Value.int .i64) = ml at hown HT'
        go_wp2_with fail
        refine (At_fst enc _ zs k a n _ (HR.out.ext hbw) HB.out HK.out hlt (by omega) HF.out).mono ?_
        rintro e w1 ⟨rfl, hb1⟩
        have hown1 := own_ext hown hb1
        have hbw1 : Below w0.heap.size w0 w1 := ext_trans hbw hb1
        have hw1 : w0.heap.size ≤ w1.heap.size := hbw1.size
        clear hown hbw hb1
        go_wp2_with (at_builtin; refine wpList_append_own _ rfl _ _ 54 rfl w0.heap.size 3 i0 (.int .i64 0) 1 8 Try.underlying54 hi hz0 hz1 hz2 rfl (by decide) _ _ _ rfl (hown1.alloc _) ⟨w1.heap.size, 0, none⟩ 1 1 [.int .i64 a] rfl rfl (cell_one_new _ _ _) (one_i64 _) (by unfold maxLen; omega) (by omega) (by simp; omega) ?_; intro v' w' hown' hg' hx')
        go_roundw
        case rel => exact ⟨k + n, l ++ [a], by omega, by go_num, HD'.out, by rw [List.length_append, List.length_singleton]; omega, by rw [List.length_append]; rw [HT'.out] at hown'; exact hown', below_push hbw1 hown1 hg'⟩
        case measure => simp [intOf]; omega
      · have hke : k = zs.length := by omega
        subst hke
        have HT : Hid (Cx.dd enc zs = l) := by unfold Hid; rw [HE.out, HD.out, List.drop_length, Cx.dec_nil, List.append_nil]
        clear HD
        go_wp2
        go_ret2
        exact ⟨_, by rw [HX.out]; rfl, by rw [HT.out]; exact hown, hbw⟩
end Go.Proofs.Ytmfbobibpebfnaa
