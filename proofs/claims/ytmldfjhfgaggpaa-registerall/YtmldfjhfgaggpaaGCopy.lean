/- maps.Clone at the registers; register's Copy. -/
import Derived.Test.YtmldfjhfgaggpaaGRefJ
import Derived.Shelf.SlMaps.Clone
namespace Go.Proofs.Ytmldfjhfgaggpaa
open Go.RowKit
variable {F : Nat → Prop}

set_option maxRecDepth 100000 in
set_option maxHeartbeats 2000000 in
theorem clone_map (b : Nat) (es : Array MapEntry) (cl : Nat) (w : World) (hb : w.heap[b]? = some (.map es cl)) :
    Calls Try.prog 45 #[.map (some b)] w fun e w' => e = .returned (.map (some w.heap.size)) ∧ w' = w.alloc (.map es cl) := by
  have hq := fun w => run_eql_map_nil_sl (P := Try.prog) w 68 _ _ (some b) Try.underlying68
  go_enter Try.func45, Try.ntmps45
  go_wp2
  rw [run_callFunc_extern Try.func58 (by kernel_rfl) (by kernel_rfl) (by kernel_rfl) (e := Extern.MapsClone.clone) (by kernel_rfl), run_maps_clone_sl w 68 hb]
  simp only [Result.andThen]
  rw [Oper.upon_value]
  go_wp2
  rw [run_typeAssert_map_sl _ 68 20 _ _ _ Try.underlying68]
  simp only [Result.andThen]
  rw [Oper.upon_value]
  go_wp2
  go_ret
  exact ⟨rfl, rfl⟩
/-- A bank is copied: another block, another map, the same texts. -/
theorem Bk.copy {w w3 : World} {b bm N : Nat} {m : Int → Option Rg} {p : Int} (h : Bk F w b bm N m p) {es : Array MapEntry} {cl : Nat} (hm : w.heap[bm]? = some (.map es cl)) {b2 bm2 : Nat} (hm2 : w3.heap[bm2]? = some (.map es cl)) (hb2 : w3.heap[b2]? = some (.cells #[.map (some bm2), .int .i64 p] 70 (0, 0))) (hb : Below w.heap.size w w3) {F' : Nat → Prop} (h1 : F' b2) (h2 : ∀ q, F' q → q < w3.heap.size ∧ (F q ∨ w.heap.size ≤ q)) : Bk F' w3 b2 bm2 N m p := by
  obtain ⟨a1, a2, a3, D, a4, a5⟩ := h
  obtain ⟨es', cl', x1, Fx, x2, x3⟩ := a4
  rw [hm] at x1
  cases x1
  refine ⟨hb2, a2, ⟨h1, fun q hq => (h2 q hq).1⟩, D, ⟨es, cl, hm2, Fx, x2, x3⟩, fun k hk => ?_⟩
  have e := a5 k hk
  cases hmk : m k with
  | none => rw [hmk] at e; exact e
  | some r =>
    rw [hmk] at e
    obtain ⟨e1, u, e2, e3, e4⟩ := e
    exact ⟨e1, u, e2, e3.avoid hb (fun q hq => (h2 q hq).2), e4⟩
set_option maxRecDepth 100000 in
set_option maxHeartbeats 2000000 in
theorem Copy_any (w : World) (b bm N : Nat) (m : Int → Option Rg) (p : Int) (hB : Bk F w b bm N m p) :
    Calls Try.prog 22 #[.pointer (some ⟨b, 0, none⟩)] w fun e w' => ∃ b2 bm2, e = .returned (.pointer (some ⟨b2, 0, none⟩)) ∧ w.heap.size ≤ b2 ∧ w.heap.size ≤ bm2 ∧ b2 < w'.heap.size ∧ Below w.heap.size w w' ∧ ∀ F' : Nat → Prop, F' b2 → (∀ q, F' q → q < w'.heap.size ∧ (F q ∨ w.heap.size ≤ q)) → Bk F' w' b2 bm2 N m p := by
  obtain ⟨hc0, hc1, _⟩ := hB.cells
  obtain ⟨es, cl, hm⟩ : ∃ es cl, w.heap[bm]? = some (.map es cl) := by
    obtain ⟨_, _, _, D, ⟨es, cl, h, _⟩, _⟩ := hB
    exact ⟨es, cl, h⟩
  have HB := hidIt hB
  have HM := hidIt hm
  have CL : Hid (Calls Try.prog 45 #[.map (some bm)] w.drew fun e w' => e = .returned (.map (some w.heap.size)) ∧ Below w.heap.size w w' ∧ w'.heap[w.heap.size]? = some (.map es cl) ∧ w'.cell? ⟨b, 0, none⟩ = some (.map (some bm)) ∧ w'.cell? ⟨b, 1, none⟩ = some (.int .i64 p) ∧ w.heap.size < w'.heap.size) := by
    refine (clone_map bm es cl w.drew hm).mono ?_
    rintro e w' ⟨rfl, rfl⟩
    have hb : Below w.heap.size w (w.drew.alloc (.map es cl)) := (Below.refl _ _).drew.alloc (Nat.le_refl _) _
    exact ⟨rfl, hb, heap_alloc_new _ _, (hb.cell (p := ⟨b, 0, none⟩) hB.lt.1).trans hc0, (hb.cell (p := ⟨b, 1, none⟩) hB.lt.1).trans hc1, by simp⟩
  clear hB hm
  go_enter Try.func22, Try.ntmps22
  go_upto_region 1 with fail
  go_region_with (go_at_call 45; refine CL.out.mono ?_; rintro e w2 ⟨rfl, hb2, hm2, c0, c1, hs2⟩; have HB2 := hidIt hb2; have HM2 := hidIt hm2; have HS2 := hidIt hs2; clear hb2 hm2 hs2 hc0 hc1; (try dsimp only))
  all_goals
    go_wp2_with fail
    go_ret
    have HBX := HB2.out.alloc HB2.out.size (.cells #[.map (some w.heap.size), .int .i64 p] 70)
    exact ⟨_, _, rfl, HB2.out.size, Nat.le_refl _, by simp, HBX, fun F' h1 h2 => HB.out.copy HM.out ((heap_alloc_old _ _ HS2.out).trans HM2.out) (heap_alloc_new _ _) HBX h1 h2⟩
end Go.Proofs.Ytmldfjhfgaggpaa
