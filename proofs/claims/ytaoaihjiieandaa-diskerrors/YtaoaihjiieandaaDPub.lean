/- New, Names, Restart, Down. -/
import Derived.Test.YtaoaihjiieandaaDCrash
namespace Go.Proofs.Ytaoaihjiieandaa
open Go.RowKit

/-- An empty disk. -/
def dk0 (s : Nat) : Dk := ⟨s, [], [], [], [], fun _ => none, 0, false⟩
theorem wf0 {s : Nat} (h : s ≤ 1048576) : Wf 0 (dk0 s) :=
  ⟨h, fun f hf => by simp [dk0] at hf, fun k _ => by simpa [dk0, acts] using DirOk.nil 0, fun a ha => by simp [dk0] at ha, rfl, Nat.le_refl _, Nat.le_refl _, Nat.le_refl _⟩
set_option maxRecDepth 100000 in
theorem New_any (s : Nat) (hs : s ≤ 1048576) (w : World) (F : Nat → Prop) (hF : ∀ q, F q → q < w.heap.size) :
    Calls Try.prog 33 #[.int .i64 (s : Int)] w fun e w' => ∃ d, e = .returned (.tuple #[pp d, .nilIface]) ∧ Dsk F 0 w' d (dk0 s) ∧ Below w.heap.size w w' := by
  have hl : ¬ (s : Int) < 0 := by omega
  have hg : ¬ (s : Int) > 1048576 := by omega
  have FIN : Hid (∀ w', w' = ((w.alloc (.map #[] 0)).alloc (.map #[] 0)).alloc (.cells #[.int .i64 (s : Int), .int .i64 0, .map (some w.heap.size), .map (some (w.heap.size + 1)), .slice none 0 0, .map none, .int .i64 0, .bool false] 88) → Dsk F 0 w' (w.heap.size + 2) (dk0 s) ∧ Below w.heap.size w w') := by
    rintro w' rfl
    have hb : Below w.heap.size w (((w.alloc (.map #[] 0)).alloc (.map #[] 0)).alloc (.cells #[.int .i64 (s : Int), .int .i64 0, .map (some w.heap.size), .map (some (w.heap.size + 1)), .slice none 0 0, .map none, .int .i64 0, .bool false] 88)) := ext_alloc (ext_alloc (ext_alloc (Below.refl _ _) _) _) _
    have m0 : (w.alloc (.map #[] 0)).ownsMap Try.prog 9 heldR w.heap.size 0 (.map []) := World.ownsMap_made _ _ _ _
    have m1 := World.ownsMap_made (H := Value) (w.alloc (.map #[] 0)) Try.prog 9 heldR
    have e1 : (w.alloc (.map #[] 0)).heap.size = w.heap.size + 1 := by simp
    rw [e1] at m1
    have nF : ∀ k, w.heap.size ≤ k → ¬ F k := fun k hk e => by have := hF k e; omega
    refine ⟨⟨w.heap.size, w.heap.size + 1, none, .slice none 0 0, fun _ => 0, fun _ => .slice none 0 0, ?_, ?_, wf0 hs, by decide⟩, hb⟩
    · have := heap_alloc_new ((w.alloc (.map #[] 0)).alloc (.map #[] 0)) (.cells #[.int .i64 (s : Int), .int .i64 0, .map (some w.heap.size), .map (some (w.heap.size + 1)), .slice none 0 0, .map none, .int .i64 0, .bool false] 88)
      rw [show ((w.alloc (.map #[] 0)).alloc (.map #[] 0)).heap.size = w.heap.size + 2 by simp] at this
      exact this
    · exact {
        hs := DirM.of (n := 0) ((m0.alloc _).alloc _)
        hl := DirM.of (n := 0) (m1.alloc _)
        ne := by omega
        ha := ⟨rfl, .inl ⟨rfl, rfl⟩⟩
        hp := fun _ => rfl
        pe := ⟨by simp, by simp⟩
        hf := fun i f hi => by simp [dk0] at hi
        f1 := fun i j hi => by simp [dk0] at hi
        f2 := fun i j g hi => by simp [dk0] at hi
        fd := nF _ (by omega)
        fs := nF _ (by omega)
        fl := nF _ (by omega)
        fp := fun b e => by cases e
        fa := fun g hg => by cases hg
        ff := fun i hi => by simp [dk0] at hi
        fb := fun i g hi => by simp [dk0] at hi
        fw := fun q hq => Nat.lt_of_lt_of_le (hF q hq) hb.size }
  have hmk : ∀ w : World, (Instr.makeMap 84 none).run Try.prog w = .ok (.map (some w.heap.size)) (w.alloc (.map #[] 0)) := fun w => by kernel_rfl
  go_enter Try.func33, Try.ntmps33
  go_wp2_with fail
  go_ret2
  exact ⟨_, rfl, FIN.out _ (by simp)⟩
set_option maxRecDepth 100000 in
theorem Down_any {F : Nat → Prop} {M : Nat} {w : World} {d : Nat} {D : Dk} (h : Dsk F M w d D) : Calls Try.prog 15 #[pp d] w fun e w' => e = .returned (.bool D.dn) ∧ w = w' := by
  obtain ⟨ms, ml, mp, va, fq, fv, hx⟩ := h.open
  obtain ⟨_, _, _, _, _, _, _, c7, _⟩ := dC_cells hx.1
  clear h hx
  go_enter Try.func15, Try.ntmps15
  go_wp2_with fail
  go_ret
  exact ⟨rfl, rfl⟩
set_option maxRecDepth 100000 in
theorem Restart_any {F : Nat → Prop} {M : Nat} {w : World} {d : Nat} {D : Dk} (h : Dsk F M w d D) : Calls Try.prog 16 #[pp d] w fun e w' => e = .returned (.tuple #[]) ∧ Dsk F M w' d D.restart ∧ Kd F w w' := by
  have H := hidIt h
  obtain ⟨ms, ml, mp, va, fq, fv, hx⟩ := h.open
  obtain ⟨c0, c1, c2, c3, c4, c5, c6, c7, fr⟩ := dC_cells hx.1
  cases hdn : D.dn with
  | false =>
    have E : Hid (D.restart = D) := by unfold Hid Dk.restart; rw [if_neg (by rw [hdn]; decide)]
    rw [hdn] at c7
    rw [E.out]
    clear h hx c0 c1 c2 c3 c4 c5 c6 fr
    go_enter Try.func16, Try.ntmps16
    go_wp2_with fail
    (try simp only [Exit.inBlock, Exit.then])
    exact bodyPost_ret (results_none rfl _ _ _) rfl ⟨rfl, H.out, Kd.refl _ _⟩
  | true =>
    have E : Hid (D.restart = { D with dn := false, pl := fun _ => none, st := 0 }) := by unfold Hid Dk.restart; rw [if_pos hdn]
    rw [hdn] at c7
    rw [E.out]
    obtain ⟨s1, g1⟩ := set1 hx.1 7 (.bool false)
    obtain ⟨s2, g2⟩ := set1 s1 5 (.map none)
    obtain ⟨s3, g3⟩ := set1 s2 6 (.int .i64 0)
    have FIN : Hid (∀ w', w' = ((w.setCell ⟨d, 7, none⟩ (.bool false)).setCell ⟨d, 5, none⟩ (.map none)).setCell ⟨d, 6, none⟩ (.int .i64 0) → Dsk F M w' d { D with dn := false, pl := fun _ => none, st := 0 } ∧ Kd F w w') := by
      rintro w' rfl
      have g := grown_trans (grown_trans g1 g2) g3
      have r := hx.2.1.own hx.1 g
      refine ⟨⟨ms, ml, none, va, fq, fv, by rw [s3]; rfl, { r with hp := fun _ => rfl, pe := ⟨by simp, by simp⟩, fp := fun b e => by cases e }, ?_, hx.2.2.2⟩, Kd.of_own hx.1 (by decide) hx.2.1.fd g⟩
      have hw := hx.2.2.1
      exact ⟨hw.sp, hw.fi, hw.dir, hw.ac, hw.see, hw.lfi, hw.lac, Nat.zero_le _⟩
    have f7 := fr 7
    have f5 : (w.setCell ⟨d, 7, none⟩ (.bool false)).frozen? ⟨d, 5, none⟩ = false := frozen_of_row _ _ _ _ _ s1
    have f6 : ((w.setCell ⟨d, 7, none⟩ (.bool false)).setCell ⟨d, 5, none⟩ (.map none)).frozen? ⟨d, 6, none⟩ = false := frozen_of_row _ _ _ _ _ s2
    have e5 : (w.setCell ⟨d, 7, none⟩ (.bool false)).cell? ⟨d, 5, none⟩ = some (.map mp) := by simp [World.cell?, s1]
    have e6 : ((w.setCell ⟨d, 7, none⟩ (.bool false)).setCell ⟨d, 5, none⟩ (.map none)).cell? ⟨d, 6, none⟩ = some (.int .i64 (D.st : Int)) := by simp [World.cell?, s2]
    clear h hx s1 g1 s2 g2 s3 g3 fr
    go_enter Try.func16, Try.ntmps16
    go_wp2_with fail
    exact bodyPost_end (results_none rfl _ _ _) rfl ⟨rfl, FIN.out _ rfl⟩
end Go.Proofs.Ytaoaihjiieandaa
