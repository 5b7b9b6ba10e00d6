/- CodecStream: the law's walk. -/
import Derived.Test.YtmfbobibpebfnaaSStr
namespace Go.Proofs.Ytmfbobibpebfnaa
open Go.RowKit

theorem RdO.ext {w w' : World} {v : Value} {os : List Stp} (h : RdO w v os) (hb : Below w.heap.size w w') : RdO w' v os := by
  obtain ⟨ao, cap, rfl, hc⟩ := h
  refine ⟨ao, cap, rfl, fun hn => ?_⟩
  obtain ⟨b, off, rfl, hcc⟩ := hc hn
  refine ⟨b, off, rfl, fun i o ho => ?_⟩
  obtain ⟨h0, h1, h2, h3⟩ := hcc i o ho
  have hl : b < w.heap.size := World.block_lt_of_cell? w _ h0
  exact ⟨(hb.cell (p := ⟨b, off + i * 3, none⟩) hl).trans h0, (hb.cell (p := ⟨b, off + i * 3 + 1, none⟩) hl).trans h1, (hb.cell (p := ⟨b, off + i * 3 + 2, none⟩) hl).trans h2, h3.ext hb⟩
theorem streams_below (w : World) (enc other : Int) (v : Value) (os : List Stp) (hr : RdO w v os) (hB : ∀ o ∈ os, Byt o.d ∧ o.d.length ≤ 1048576) (hl : sl os ≤ 1048576) (hn : os.length ≤ 1048576) :
    Calls Try.prog 4 #[.int .i64 enc, .int .i64 other, v] w fun e w' => e = .returned (.bool true) ∧ Below w.heap.size w w' := by
  refine (streams_any w (fun k => k < w.heap.size) enc other v os (fun _ h => h) (fun y k => hr.ext (k.below (Nat.le_refl _) (fun i e => Nat.le_of_not_lt e))) hB hl hn).mono ?_
  rintro e w' ⟨rfl, k⟩
  exact ⟨rfl, k.below (Nat.le_refl _) (fun i e => Nat.le_of_not_lt e)⟩
/-- The law's own script. -/
def os0 (b : Nat) : List Stp := [⟨1, 0, some ⟨b, 0, none⟩, 3, [195, 169, 226]⟩, ⟨2, 0, none, 0, []⟩, ⟨2, 1, none, 0, []⟩]
theorem rd_os0 (w : World) : RdO ((w.alloc (.cells #[.int .u8 195, .int .u8 169, .int .u8 226] 5)).alloc (.cells #[.int .i64 1, .int .i64 0, .slice (some ⟨w.heap.size, 0, none⟩) 3 3, .int .i64 2, .int .i64 0, .slice none 0 0, .int .i64 2, .int .i64 1, .slice none 0 0] 26)) (.slice (some ⟨w.heap.size + 1, 0, none⟩) 3 3) (os0 w.heap.size) := by
  have hs : (w.alloc (.cells #[.int .u8 195, .int .u8 169, .int .u8 226] 5)).heap.size = w.heap.size + 1 := by simp
  have hg := heap_alloc_new (w.alloc (.cells #[.int .u8 195, .int .u8 169, .int .u8 226] 5)) (.cells #[.int .i64 1, .int .i64 0, .slice (some ⟨w.heap.size, 0, none⟩) 3 3, .int .i64 2, .int .i64 0, .slice none 0 0, .int .i64 2, .int .i64 1, .slice none 0 0] 26)
  rw [hs] at hg
  have hr := (rd_lit .u8 w 5 [195, 169, 226] (by simp [maxLen])).ext (ext_alloc (Below.refl _ _) (.cells #[.int .i64 1, .int .i64 0, .slice (some ⟨w.heap.size, 0, none⟩) 3 3, .int .i64 2, .int .i64 0, .slice none 0 0, .int .i64 2, .int .i64 1, .slice none 0 0] 26))
  refine ⟨_, _, rfl, fun _ => ⟨_, _, rfl, fun i o ho => ?_⟩⟩
  match i with
  | 0 =>
    cases ho
    exact ⟨by rw [cell_of_row _ _ _ _ _ _ hg]; rfl, by rw [cell_of_row _ _ _ _ _ _ hg]; rfl, by rw [cell_of_row _ _ _ _ _ _ hg]; rfl, hr⟩
  | 1 =>
    cases ho
    exact ⟨by rw [cell_of_row _ _ _ _ _ _ hg]; rfl, by rw [cell_of_row _ _ _ _ _ _ hg]; rfl, by rw [cell_of_row _ _ _ _ _ _ hg]; rfl, rd_nil _ _⟩
  | 2 =>
    cases ho
    exact ⟨by rw [cell_of_row _ _ _ _ _ _ hg]; rfl, by rw [cell_of_row _ _ _ _ _ _ hg]; rfl, by rw [cell_of_row _ _ _ _ _ _ hg]; rfl, rd_nil _ _⟩
  | i + 3 => simp [os0] at ho
theorem os0_ok (b : Nat) : (∀ o ∈ os0 b, Byt o.d ∧ o.d.length ≤ 1048576) ∧ sl (os0 b) ≤ 1048576 := by
  refine ⟨fun o ho => ?_, by simp [sl, os0]⟩
  simp only [os0, List.mem_cons, List.not_mem_nil, or_false] at ho
  rcases ho with rfl | rfl | rfl
  · exact ⟨by intro z hz; simp at hz; omega, by simp⟩
  · exact ⟨(by intro z hz; cases hz), by simp⟩
  · exact ⟨(by intro z hz; cases hz), by simp⟩
set_option maxRecDepth 100000 in
theorem law_stream (enc other : Int) (v : Value) (os : List Stp) (w : World) (hr : RdO w v os) (hB : ∀ o ∈ os, Byt o.d ∧ o.d.length ≤ 1048576) (hl : sl os ≤ 1048576) (hn : os.length ≤ 1048576) :
    Calls Try.prog 3 #[.int .i64 enc, .int .i64 other, v] w fun e w' => e = .returned (.bool true) ∧ Below w.heap.size w w' := by
  obtain ⟨w2, hw2⟩ : ∃ w2, w2 = (w.alloc (.cells #[.int .u8 195, .int .u8 169, .int .u8 226] 5)).alloc (.cells #[.int .i64 1, .int .i64 0, .slice (some ⟨w.heap.size, 0, none⟩) 3 3, .int .i64 2, .int .i64 0, .slice none 0 0, .int .i64 2, .int .i64 1, .slice none 0 0] 26) := ⟨_, rfl⟩
  have hb2 : Below w.heap.size w w2 := by rw [hw2]; exact ext_alloc (ext_alloc (Below.refl _ _) _) _
  have h0 : RdO w2 (.slice (some ⟨w.heap.size + 1, 0, none⟩) 3 3) (os0 w.heap.size) := by rw [hw2]; exact rd_os0 w
  have HS0 := hidIt (streams_below w2 1 2 _ (os0 w.heap.size) h0 (os0_ok _).1 (os0_ok _).2 (by simp [os0]))
  have HB2 := hidIt hb2
  have HS1 : Hid (∀ y, Below w.heap.size w y → Calls Try.prog 4 #[.int .i64 enc, .int .i64 other, v] y fun e w' => e = .returned (.bool true) ∧ Below y.heap.size y w') := fun y hb => streams_below y enc other v os (hr.ext hb) hB hl hn
  clear hr hB hl hn hb2 h0
  go_enter Try.func3, Try.ntmps3
  go_wp2_with fail
  rw [← hw2]
  refine HS0.out.mono ?_
  rintro e w3 ⟨rfl, hb3⟩
  have HB3 := hidIt (ext_trans HB2.out hb3)
  clear hb3 HS0 hw2
  go_wp2_with fail
  refine (HS1.out _ HB3.out).mono ?_
  rintro e w4 ⟨rfl, hb4⟩
  have HB4 := hidIt (ext_trans HB3.out hb4)
  clear hb4
  go_wp2_with fail
  go_ret
  exact ⟨rfl, HB4.out⟩
end Go.Proofs.Ytmfbobibpebfnaa
