/- register's with, atoms. -/
import Derived.Test.YtmldfjhfgaggpaaGChn
import Derived.Laws.CopyOwn
import Derived.OwnWalk
namespace Go.Proofs.Ytmldfjhfgaggpaa
open Go.RowKit
variable {F : Nat → Prop}

theorem cells3 {w : World} {b : Nat} {T : TypeId} {v0 v1 v2 : Value} (h : w.heap[b]? = some (.cells #[v0, v1, v2] T (0, 0))) : b < w.heap.size ∧ w.cell? ⟨b, 0, none⟩ = some v0 ∧ w.cell? ⟨b, 1, none⟩ = some v1 ∧ w.cell? ⟨b, 2, none⟩ = some v2 ∧ (∀ i, w.frozen? ⟨b, i, none⟩ = false) := by
  refine ⟨(Array.getElem?_eq_some_iff.1 h).1, ?_, ?_, ?_, fun i => by simp [World.frozen?, h]⟩ <;> (rw [cell_of_row _ _ _ _ _ _ h]; rfl)
theorem put3 {w : World} {g : Nat} {T : TypeId} {a0 a1 a2 : Value} (h : w.heap[g]? = some (.cells #[a0, a1, a2] T (0, 0))) (x0 x1 x2 : Value) :
    (((w.setCell ⟨g, 0, none⟩ x0).setCell ⟨g, 1, none⟩ x1).setCell ⟨g, 2, none⟩ x2).heap[g]? = some (.cells #[x0, x1, x2] T (0, 0)) ∧ w.grownBy (((w.setCell ⟨g, 0, none⟩ x0).setCell ⟨g, 1, none⟩ x1).setCell ⟨g, 2, none⟩ x2) (some g) := by
  obtain ⟨h1, g1⟩ := set1 h 0 x0
  obtain ⟨h2, g2⟩ := set1 h1 1 x1
  obtain ⟨h3, g3⟩ := set1 h2 2 x2
  exact ⟨h3, grown_trans (grown_trans g1 g2) g3⟩

set_option maxRecDepth 100000 in
set_option maxHeartbeats 2000000 in
theorem with_any (w : World) (k : Int) (a : Option Addr) (u : Value) (xs t : List Int) (hv : Hg F w (.pointer a) xs) (hu : RdS w u t) (ho : ∀ q, F q → Off u q) (hF : ∀ q, F q → q < w.heap.size) (ht : t ≠ []) (hx : xs.length ≤ 1000000) (hl : t.length ≤ 1000000) :
    Calls Try.prog 70 #[.agg #[.int .i64 k, .int .i64 xs.length, .pointer a], u] w fun e w' => ∃ g, e = .returned (.agg #[.int .i64 k, .int .i64 (xs ++ t).length, .pointer (some ⟨g, 0, none⟩)]) ∧ Hg F w' (.pointer (some ⟨g, 0, none⟩)) (xs ++ t) ∧ Below w.heap.size w w' := by
  obtain ⟨ao, c, rfl, _⟩ := hu.len
  obtain ⟨w1, hw1, k0, k1, hb1, hlt1⟩ := two_new w #[.int .i64 k, .int .i64 xs.length, .pointer a] #[.int .i64 0, .int .i64 0, .pointer none] 73 73
  have HV := hidIt hv
  have HU := hidIt hu
  have HO := hidIt ho
  have HF := hidIt hF
  have HT := hidIt ht
  have HB1 := hidIt hb1
  have HL := hidIt (show w.heap.size + 1 < w1.heap.size from hlt1)
  have HE := hidIt (show (((xs ++ t).length : Nat) : Int) = (xs.length : Int) + (t.length : Int) by simp)
  have HX := hidIt hx
  have HLT := hidIt hl
  have HK0 := hidIt k0
  have HK1 := hidIt k1
  obtain ⟨_, c0, c1, c2, cf⟩ := cells3 k0
  clear hv hu ho hF ht hb1 hlt1 k0 k1
  generalize hgn : xs.length = n at *
  generalize hgm : t.length = m at *
  go_enter Try.func70, Try.ntmps70
  go_upto_region 1 with fail
  rw [← hw1]
  clear hw1
  have s2 := set1 HK0.out 2 (.pointer (some ⟨w1.heap.size, 0, none⟩))
  go_upto_region 2 with fail
  generalize hw2 : World.setCell _ _ _ = w2
  rw [hw2] at s2
  have hz2 : w2.heap.size = w1.heap.size := by rw [← hw2]; simp [World.setCell]
  clear hw2 c0 c1 c2 cf
  generalize hy : World.alloc _ _ = y
  have HPB : Hid (Below w2.heap.size w2 y) := by unfold Hid; rw [← hy]; exact ext_alloc (Below.refl _ _) _
  have HP : Hid (y.heap[w1.heap.size]? = some (.cells #[.pointer a, .slice ao m c] 89 (0, 0)) ∧ y.heap.size = w1.heap.size + 1) := by unfold Hid; rw [← hy, ← hz2]; exact ⟨heap_alloc_new _ _, by simp⟩
  have HQ2 := hidIt ((HPB.out.block _ (by rw [hz2]; exact Nat.lt_trans (Nat.lt_succ_self _) HL.out)).trans s2.1)
  have HB2 := hidIt ((below_put HB1.out HB1.out.size s2.2 (Nat.le_refl _)).trans (HPB.out.mono (by rw [hz2]; exact HB1.out.size)))
  have HR1 := hidIt ((HPB.out.block _ (by rw [hz2]; exact HL.out)).trans ((s2.2.block _ HL.out (by simp)).trans HK1.out))
  clear hy s2
  have hz := HL.out
  obtain ⟨_, c0, c1, c2, cf⟩ := cells3 HQ2.out
  have s3 := set1 HQ2.out 1 (.int .i64 ((n : Int) + (m : Int)))
  go_upto_region 3 with fail
  generalize hw3 : World.setCell _ _ _ = w3
  rw [hw3] at s3
  clear hw3 c0 c1 c2 cf
  have HQ3 : Hid (w3.heap[w.heap.size]? = some (.cells #[.int .i64 k, .int .i64 ((n : Int) + (m : Int)), .pointer (some ⟨w1.heap.size, 0, none⟩)] 73 (0, 0))) := s3.1
  have HB3 := hidIt (below_put HB2.out HB2.out.size s3.2 (Nat.le_refl _))
  have HR2 := hidIt ((s3.2.block _ (Array.getElem?_eq_some_iff.1 HR1.out).1 (by simp)).trans HR1.out)
  have HP2 := hidIt ((s3.2.block _ (Array.getElem?_eq_some_iff.1 HP.out.1).1 (by simp; omega)).trans HP.out.1)
  clear s3
  obtain ⟨_, c0, c1, c2, cf⟩ := cells3 HQ3.out
  obtain ⟨_, r0, r1, r2, rf⟩ := cells3 HR2.out
  have s4 := put3 HR2.out (.int .i64 k) (.int .i64 ((n : Int) + (m : Int))) (.pointer (some ⟨w1.heap.size, 0, none⟩))
  have HB4 := hidIt (below_put HB3.out HB3.out.size s4.2 (Nat.le_succ _))
  have HP4 := hidIt ((s4.2.block _ (Array.getElem?_eq_some_iff.1 HP2.out).1 (by simp; omega)).trans HP2.out)
  clear s4
  go_wp2_with fail
  refine bodyPost_ret (v := .agg #[.int .i64 k, .int .i64 ((n : Int) + (m : Int)), .pointer (some ⟨w1.heap.size, 0, none⟩)]) (by simp [results, Try.results70, go_sem, r0, r1, r2]) rfl ⟨w1.heap.size, by rw [HE.out], ?_, HB4.out⟩
  exact Hg.snoc (HV.out.ext HB4.out) HP4.out (fun h => by have := HF.out _ h; omega) (HU.out.ext HB4.out) HO.out HT.out
end Go.Proofs.Ytmldfjhfgaggpaa
