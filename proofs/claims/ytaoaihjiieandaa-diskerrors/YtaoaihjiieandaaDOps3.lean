/- Append. -/
import Derived.Test.YtaoaihjiieandaaDOps2
import Derived.Laws.EntriesVeiled
namespace Go.Proofs.Ytaoaihjiieandaa
open Go.RowKit

theorem crash_dn (D : Dk) (c : Ct) : (D.crash c).dn = true := by
  unfold Dk.crash
  split
  · assumption
  · rfl
theorem part_dn (n : Nm) (b : List Int) (m : Int) (D : Dk) : (opPart n b m D).d.dn = D.dn ∧ (opPart n b m D).e ≠ 165 := by
  unfold opPart opWith
  split
  · split
    · exact ⟨rfl, by show (162 : Int) ≠ 165; decide⟩
    · exact ⟨rfl, by show (0 : Int) ≠ 165; decide⟩
  · exact ⟨rfl, by show (164 : Int) ≠ 165; decide⟩
theorem app_dn0 (n : Nm) (b : List Int) (D : Dk) : (opApp n b D).d.dn = D.dn ∧ (opApp n b D).e ≠ 165 := by
  have h := part_dn n b (b.length : Int) D
  unfold opApp
  dsimp only
  split
  · exact ⟨h.1, by show (161 : Int) ≠ 165; decide⟩
  · exact h
theorem bel_dn {r : Rs} (h : r.e ≠ 165) : (bel r).e ≠ 165 := by
  unfold bel
  split
  · show (160 : Int) ≠ 165
    decide
  · exact h
theorem app_dn (n : Nm) (b : List Int) (D : Dk) : ((take (opApp n b) (some (opPart n b)) D).d.dn = true → (take (opApp n b) (some (opPart n b)) D).n = 0) ∧ ((take (opApp n b) (some (opPart n b)) D).d.dn = false → (take (opApp n b) (some (opPart n b)) D).e ≠ 165) := by
  unfold take
  split
  · rename_i hd
    exact ⟨fun _ => rfl, fun e => by rw [show (Rs.err D 165).d.dn = D.dn from rfl, hd] at e; cases e⟩
  · rename_i hd
    have ht : D.tick.dn = false := by have : D.tick.dn = D.dn := rfl; rw [this]; simpa using hd
    generalize D.tick = T at *
    generalize D.pl ((D.st + 1 : Nat) : Int) = o
    have ha := app_dn0 n b T
    have hp := fun m => part_dn n b m T
    cases o with
    | none => exact ⟨(fun e => by rw [show (meet (opApp n b) (some (opPart n b)) T none).d.dn = T.dn from ha.1, ht] at e; cases e), fun _ => ha.2⟩
    | some f =>
      unfold meet
      dsimp only
      split
      · exact ⟨fun _ => rfl, fun _ => by show (160 : Int) ≠ 165; decide⟩
      · split
        · refine ⟨fun e => ?_, fun _ => bel_dn (hp f.pt).2⟩
          rw [bel_d, (hp f.pt).1, ht] at e
          cases e
        · split
          · refine ⟨fun e => ?_, fun _ => bel_dn ha.2⟩
            rw [bel_d, ha.1, ht] at e
            cases e
          · split
            · exact ⟨fun _ => rfl, fun e => by rw [show (Rs.err (T.crash f.cut) 165).d.dn = (T.crash f.cut).dn from rfl, crash_dn] at e; cases e⟩
            · exact ⟨fun _ => rfl, fun e => by rw [show (Rs.err ((opApp n b T).d.crash f.cut) 165).d.dn = ((opApp n b T).d.crash f.cut).dn from rfl, crash_dn] at e; cases e⟩
set_option maxRecDepth 100000 in
set_option maxHeartbeats 2000000 in
/-- Append; where there are no bytes, wherever the slice points. -/
theorem Append_gen (CR : CrashOk) {F : Nat → Prop} {M : Nat} {w : World} {d : Nat} {D : Dk} (h : Dsk F M w d D) (hM : M + 3 ≤ 1099511627776) (n : Nm) (hn : n.length ≤ 9223372036854775807) (vb : Value) (b : List Int) (hb : RdU w vb b) (hbl : b.length ≤ 1099511627776) (h256 : ∀ x ∈ b, 0 ≤ x ∧ x < 256) (hvF : b ≠ [] → ∀ g, vb.ownBlock = some g → F g) :
    Calls Try.prog 23 #[pp d, sv n, vb] w fun e w' => ∃ v, e = .returned (.tuple #[.int .i64 ((take (opApp n b) (some (opPart n b)) D).n : Nat), v]) ∧ StepP True F M w d ⟨#[97, 112, 112, 101, 110, 100]⟩ (bsOf n) (stepNo D) (take (opApp n b) (some (opPart n b)) D) v w' := by
  obtain ⟨va0, vc0, rfl, _⟩ := hb.take (Nat.le_refl _)
  obtain ⟨w1, hw1, k0, k1, hb1⟩ := alloc2 w (pp d) (sv n) 28 9
  obtain ⟨w2, hw2, k2, k3, hb2⟩ := alloc2 w1 (.slice va0 b.length vc0) (.int .i64 0) 22 3
  have hs1 : w1.heap.size = w.heap.size + 2 := by rw [hw1]; simp
  have hs2 : w2.heap.size = w.heap.size + 4 := by rw [hw2]; simp [hs1]
  obtain ⟨w3, hw3, k4, hb3⟩ : ∃ w3, w3 = w2.alloc (.cells #[.func (.func 53) #[] #[pp w.heap.size, pp (w.heap.size + 1), pp (w.heap.size + 2), pp (w.heap.size + 3)]] 108) ∧ w3.heap[w2.heap.size]? = some (.cells #[.func (.func 53) #[] #[pp w.heap.size, pp (w.heap.size + 1), pp (w.heap.size + 2), pp (w.heap.size + 3)]] 108 (0, 0)) ∧ Below w2.heap.size w2 w3 := ⟨_, rfl, heap_alloc_new _ _, ext_alloc (Below.refl _ _) _⟩
  have hb23 := ext_trans hb2 hb3
  have hbw := ext_trans hb1 hb23
  have k0 := (hb23.block _ (Array.getElem?_eq_some_iff.1 k0).1).trans k0
  have k1 := (hb23.block _ (Array.getElem?_eq_some_iff.1 k1).1).trans k1
  have k2 := (hb3.block _ (Array.getElem?_eq_some_iff.1 k2).1).trans k2
  have k3 := (hb3.block _ (Array.getElem?_eq_some_iff.1 k3).1).trans k3
  rw [hs1] at k2 k3
  rw [hs2] at k4
  have hF3 : Fx F w w3 (w.heap.size + 3) := .inr ⟨Nat.le_add_right _ 3, (Array.getElem?_eq_some_iff.1 k3).1⟩
  have hvl : b ≠ [] → ∀ g, (Value.slice va0 b.length vc0).ownBlock = some g → Fx F w w3 g ∧ g ≠ w.heap.size + 3 := fun hn g hg => ⟨.inl (hvF hn g hg), by have := h.fw g (hvF hn g hg); omega⟩
  have B0 := bx_some (F := F) (c := w.heap.size + 3) k0 (Nat.le_refl _) (by omega)
  have B1 := bx_some (F := F) (c := w.heap.size + 3) k1 (Nat.le_succ _) (by omega)
  have B2 := bx_some (F := F) (c := w.heap.size + 3) k2 (Nat.le_add_right _ 2) (by omega)
  have B4 := bx_some (F := F) (c := w.heap.size + 3) k4 (Nat.le_add_right _ 4) (by omega)
  have hrb := hb.ext hbw
  have TK := hidIt (take_app CR (do_app hn B0 B1 B2 k3 hF3 hrb hbl h256 hvl B4) (appAx k3 hF3) (opPart n b) (fun M w1 D1 most => part_any hn B0 B1 B2 k3 hF3 hrb hbl h256 hvl M w1 D1 most) M D (h.pen hbw) hM ⟨#[97, 112, 112, 101, 110, 100]⟩ (bsOf n))
  have AD := hidIt (app_dn n b D)
  have q0 : w3.cell? ⟨w.heap.size, 0, none⟩ = some (pp d) := by simp [World.cell?, k0]
  have q1 : w3.cell? ⟨w.heap.size + 1, 0, none⟩ = some (sv n) := by simp [World.cell?, k1]
  have q4 : w3.cell? ⟨w.heap.size + 4, 0, none⟩ = some (.func (.func 53) #[] #[pp w.heap.size, pp (w.heap.size + 1), pp (w.heap.size + 2), pp (w.heap.size + 3)]) := by simp [World.cell?, k4]
  have HB := hidIt hbw
  have K0 := hidIt k0
  have HF3 := hidIt hF3
  rw [hw2, hw1] at hw3
  clear h hbw k0 k1 k2 k3 k4 hb1 hb2 hb3 hw1 hw2 hs1 hs2 hF3 hb23 hrb B0 B1 B2 B4 hb hvF hvl h256
  generalize take (opApp n b) (some (opPart n b)) D = RT at *
  go_enter Try.func23, Try.ntmps23
  go_upto_region 4 with fail
  rw [← hw3]
  clear hw3
  go_upto_region 5 with (go_at_call 47; refine TK.out.mono ?_; rintro e w4 ⟨v2, rfl, h1, h2, h3, hF, kk, h4, h5⟩; have H1 := hidIt h1; have H2 := hidIt h2; have H3 := hidIt h3; have H4 := hidIt h4; have H5 := hidIt h5; clear h1 h2 h3 h4 h5)
  have SP := hidIt (StepP.of2 HB.out (fun k e => by cases e; omega) H1.out H2.out H3.out)
  have b0 : w4.cell? ⟨w.heap.size, 0, none⟩ = some (pp d) := by
    have := (H3.out.keep K0.out (by decide) (by simp)).trans K0.out
    simp [World.cell?, this]
  have b3 : w4.cell? ⟨w.heap.size + 3, 0, none⟩ = some (.int .i64 kk) := by simp [World.cell?, H4.out]
  have f3 : w4.frozen? ⟨w.heap.size + 3, 0, none⟩ = false := frozen_of_row _ _ _ _ _ H4.out
  obtain ⟨ms, ml, mp, va, fq, fv, hx⟩ := H2.out.open
  obtain ⟨_, _, _, _, _, _, _, c7, _⟩ := dC_cells hx.1
  clear hx
  have FI : Hid (RT.d.dn = true → StepP True F M w d ⟨#[97, 112, 112, 101, 110, 100]⟩ (bsOf n) (stepNo D) RT v2 (w4.setCell ⟨w.heap.size + 3, 0, none⟩ (.int .i64 0)) ∧ (w4.setCell ⟨w.heap.size + 3, 0, none⟩ (.int .i64 0)).cell? ⟨w.heap.size + 3, 0, none⟩ = some (.int .i64 0)) := fun _ => by
    obtain ⟨s1, g⟩ := set1 H4.out 0 (.int .i64 0)
    obtain ⟨p1, p2, p3⟩ := SP.out
    refine ⟨⟨?_, (H2.out.kps (Kps.grown (o := fun k => k = w.heap.size + 3) g (fun k e _ => by cases e; rfl)) (fun k _ e => by rw [e]; exact HF3.out)).less (fun _ hq => .inl hq), Kps.trans p3 (Kps.grown (o := fun k => k = w.heap.size + 3) g (fun k e _ => by cases e; rfl)) (fun i hi e => by omega)⟩, by simp [World.cell?, s1]⟩
    rcases p1 with p1 | ⟨p1, q, hq, hv, hqc⟩
    · exact .inl p1
    · exact .inr ⟨p1, q, hq, hv, (g.block q (Array.getElem?_eq_some_iff.1 hqc).1 (by simpa using ne_obj hqc H4.out (by simp))).trans hqc⟩
  cases hdn : RT.d.dn with
  | true =>
    rw [hdn] at c7
    obtain ⟨SP5, r5⟩ := FI.out hdn
    have HS5 := hidIt SP5
    have HN := hidIt (AD.out.1 hdn)
    clear SP5 FI
    go_wp2_with fail
    go_ret2
    exact ⟨_, by rw [HN.out]; rfl, HS5.out⟩
  | false =>
    rw [hdn] at c7
    have HN := hidIt (H5.out (AD.out.2 hdn))
    clear FI
    go_wp2_with fail
    go_ret2
    exact ⟨_, by rw [← HN.out]; rfl, SP.out⟩
theorem Append_any (CR : CrashOk) {F : Nat → Prop} {M : Nat} {w : World} {d : Nat} {D : Dk} (h : Dsk F M w d D) (hM : M + 3 ≤ 1099511627776) (n : Nm) (hn : n.length ≤ 9223372036854775807) (vb : Value) (b : List Int) (hb : RdU w vb b) (hbl : b.length ≤ 1099511627776) (h256 : ∀ x ∈ b, 0 ≤ x ∧ x < 256) (hvF : ∀ g, vb.ownBlock = some g → F g) :
    Calls Try.prog 23 #[pp d, sv n, vb] w fun e w' => ∃ v, e = .returned (.tuple #[.int .i64 ((take (opApp n b) (some (opPart n b)) D).n : Nat), v]) ∧ StepP True F M w d ⟨#[97, 112, 112, 101, 110, 100]⟩ (bsOf n) (stepNo D) (take (opApp n b) (some (opPart n b)) D) v w' :=
  Append_gen CR h hM n hn vb b hb hbl h256 (fun _ => hvF)
end Go.Proofs.Ytaoaihjiieandaa
