/- Read, Stamp, Append. -/
import Derived.Test.YtaoaihjiieandaaDOps
namespace Go.Proofs.Ytaoaihjiieandaa
open Go.RowKit

theorem bel_ne (r : Rs) : (bel r).e ≠ 0 := by
  unfold bel
  split
  · show (160 : Int) ≠ 0
    decide
  · assumption
theorem readAx {F : Nat → Prop} {w : World} {bb : Nat} (h : w.heap[bb]? = some (.cells #[.slice none 0 0] 22 (0, 0))) (hF : F bb) : AxOk F (some bb) w (ReadAx F bb) := by
  have hB : BoxT F w bb 22 1 := ⟨⟨_, rfl, h⟩, hF⟩
  refine ⟨fun k e => by cases e; exact hF, fun D e w1 k => ⟨hB.kd k, fun _ => ?_⟩, fun r w1 a => ⟨a.1, fun e => absurd e (bel_ne r)⟩, fun r D w1 w2 a k => ⟨a.1.kd k, fun e => by cases e⟩, fun r w1 w2 hb a => ⟨a.1.kn hb, fun e => ?_⟩⟩
  · have h1 := (k.same bb (Array.getElem?_eq_some_iff.1 h).1 (fun e => e.1 hF)).trans h
    exact ⟨.slice none 0 0, 0, by simp [World.cell?, h1], ⟨rfl, .inl ⟨rfl, rfl⟩⟩, fun g hg => by cases hg⟩
  · obtain ⟨v, base, h1, h2, h3⟩ := a.2 e
    exact ⟨v, base, (hb.cell (p := ⟨bb, 0, none⟩) (cell_lt h1)).trans h1, own_ext h2 hb, h3⟩
theorem stampAx {F : Nat → Prop} {w : World} {bb : Nat} (h : w.heap[bb]? = some (.cells #[.int .i64 0, .int .i64 0, .int .i64 0] 55 (0, 0))) (hF : F bb) : AxOk F (some bb) w (StampAx F bb) := by
  have hB : BoxT F w bb 55 3 := ⟨⟨_, rfl, h⟩, hF⟩
  refine ⟨fun k e => by cases e; exact hF, fun D e w1 k => ⟨hB.kd k, fun _ => ?_⟩, fun r w1 a => ⟨a.1, fun e => absurd e (bel_ne r)⟩, fun r D w1 w2 a k => ⟨a.1.kd k, fun e => by cases e⟩, fun r w1 w2 hb a => ⟨a.1.kn hb, fun e => ?_⟩⟩
  · exact (k.same bb (Array.getElem?_eq_some_iff.1 h).1 (fun e => e.1 hF)).trans h
  · exact (hb.block bb (Array.getElem?_eq_some_iff.1 (a.2 e)).1).trans (a.2 e)
theorem appAx {F : Nat → Prop} {w : World} {bc : Nat} (h : w.heap[bc]? = some (.cells #[.int .i64 0] 3 (0, 0))) (hF : F bc) : AxOk F (some bc) w (AppAx F bc) := by
  refine ⟨fun k e => by cases e; exact hF, fun D e w1 k => ⟨hF, 0, (k.same bc (Array.getElem?_eq_some_iff.1 h).1 (fun e => e.1 hF)).trans h, fun _ => rfl⟩, fun r w1 a => ?_, fun r D w1 w2 a k => ?_, fun r w1 w2 hb a => ?_⟩
  · obtain ⟨h1, k, h2, h3⟩ := a
    refine ⟨h1, k, h2, fun e => ?_⟩
    unfold bel at e ⊢
    split at e
    · rename_i h0; rw [if_pos h0]; exact h3 (by omega)
    · rename_i h0; rw [if_neg h0]; exact h3 e
  · obtain ⟨h1, j, h2, h3⟩ := a
    exact ⟨h1, j, (k.same bc (Array.getElem?_eq_some_iff.1 h2).1 (fun e => e.1 h1)).trans h2, fun e => absurd rfl e⟩
  · obtain ⟨h1, j, h2, h3⟩ := a
    exact ⟨h1, j, (hb.block bc (Array.getElem?_eq_some_iff.1 h2).1).trans h2, h3⟩
theorem bx_some {F : Nat → Prop} {w w1 : World} {b c : Nat} {v : Value} {T : TypeId} (h : w1.heap[b]? = some (.cells #[v] T (0, 0))) (hb : w.heap.size ≤ b) (hn : b ≠ c) : Bx (Fx F w w1) (some c) w1 b v :=
  ⟨by simp [World.cell?, h], .inr ⟨hb, (Array.getElem?_eq_some_iff.1 h).1⟩, fun e => hn (by cases e; rfl)⟩
theorem StepP.of2 {U : Prop} {F : Nat → Prop} {ob : Option Nat} {M : Nat} {w w1 w' : World} {d : Nat} {on nm : ByteArray} {st : Nat} {r : Rs} {v : Value} (hb : Below w.heap.size w w1) (hob : ∀ k, ob = some k → w.heap.size ≤ k) (h1 : ErrV w' w1.heap.size v on nm (st : Int) r.e) (h2 : Dsk (Fx F w w1) (M + 3) w' d r.d) (h3 : Kn U (Fx F w w1) ob w1 w') : StepP U F M w d on nm st r v w' := by
  refine ⟨h1.mono hb.size, h2.less (fun _ hq => .inl hq), ?_⟩
  refine ⟨h3.os.trans hb.os, h3.tape.trans hb.tape, h3.output.trans hb.output, Nat.le_trans hb.size h3.size, fun k hk hn => ?_⟩
  rw [h3.same k (Nat.lt_of_lt_of_le hk hb.size) (fun e => e.elim (fun e => hn ⟨fun f => e.1 (.inl f), e.2.elim (fun e => .inl (e.same (hb.block k hk))) (fun e => .inr ⟨e.1, e.2.same (hb.block k hk)⟩)⟩) (fun e => by have := hob k e; omega)), hb.block k hk]
set_option maxRecDepth 100000 in
theorem Read_any (CR : CrashOk) {F : Nat → Prop} {M : Nat} {w : World} {d : Nat} {D : Dk} (h : Dsk F M w d D) (hM : M + 3 ≤ 1099511627776) (n : Nm) (hn : n.length ≤ 9223372036854775807) :
    Calls Try.prog 17 #[pp d, sv n] w fun e w' => ∃ u v, e = .returned (.tuple #[u, v]) ∧ StepP False F M w d ⟨#[114, 101, 97, 100]⟩ (bsOf n) (stepNo D) (take (opRead n) none D) v w' ∧ ((take (opRead n) none D).e = 0 → ∃ base, OwnU w' base u (take (opRead n) none D).b) := by
  obtain ⟨w1, hw1, k0, k1, hb1⟩ := alloc2 w (pp d) (sv n) 28 9
  obtain ⟨w2, hw2, k2, hb2⟩ : ∃ w2, w2 = w1.alloc (.cells #[.slice none 0 0] 22) ∧ w2.heap[w1.heap.size]? = some (.cells #[.slice none 0 0] 22 (0, 0)) ∧ Below w1.heap.size w1 w2 := ⟨_, rfl, heap_alloc_new _ _, ext_alloc (Below.refl _ _) _⟩
  have hs1 : w1.heap.size = w.heap.size + 2 := by rw [hw1]; simp
  have hb := ext_trans hb1 hb2
  have k0 := (hb2.block _ (Array.getElem?_eq_some_iff.1 k0).1).trans k0
  have k1 := (hb2.block _ (Array.getElem?_eq_some_iff.1 k1).1).trans k1
  rw [hs1] at k2
  have hF2 : Fx F w w2 (w.heap.size + 2) := .inr ⟨Nat.le_add_right _ 2, (Array.getElem?_eq_some_iff.1 k2).1⟩
  have TK := hidIt (take_read CR (do_read hn (bx_some (F := F) (c := w.heap.size + 2) k0 (Nat.le_refl _) (by omega)) (bx_some (F := F) k1 (Nat.le_succ _) (by omega)) ⟨⟨_, rfl, k2⟩, hF2⟩) (readAx k2 hF2) M D (h.pen hb) hM ⟨#[114, 101, 97, 100]⟩ (bsOf n))
  have q0 : w2.cell? ⟨w.heap.size, 0, none⟩ = some (pp d) := by simp [World.cell?, k0]
  have q1 : w2.cell? ⟨w.heap.size + 1, 0, none⟩ = some (sv n) := by simp [World.cell?, k1]
  have HB := hidIt hb
  rw [hw1] at hw2
  clear h hb k0 k1 k2 hb1 hb2 hw1 hs1 hF2
  generalize take (opRead n) none D = RT at *
  go_enter Try.func17, Try.ntmps17
  go_upto_region 2 with fail
  rw [← hw2]
  clear hw2
  go_upto_region 3 with (go_at_call 47; refine TK.out.mono ?_; rintro e w3 ⟨v2, rfl, h1, h2, h3, h4⟩; have H1 := hidIt h1; have H2 := hidIt h2; have H3 := hidIt h3; have H4 := hidIt h4; clear h1 h2 h3 h4)
  rcases H1.out with ⟨he, rfl⟩ | ⟨he, q, hq, rfl, hqc⟩
  · obtain ⟨u, base, hu, hou, _⟩ := H4.out.2 he
    obtain ⟨ua, un, uc, rfl⟩ := form_own hou
    have HU := hidIt hou
    clear hou
    go_wp2_with fail
    go_ret2
    exact ⟨_, _, rfl, StepP.of2 HB.out (fun k e => by cases e; omega) H1.out H2.out H3.out, fun _ => ⟨_, HU.out⟩⟩
  · have hne : Hid (RT.e ≠ 0) := he
    clear he hqc hq
    go_wp2_with fail
    go_ret2
    exact ⟨_, _, rfl, StepP.of2 HB.out (fun k e => by cases e; omega) H1.out H2.out H3.out, fun e => absurd e hne.out⟩
set_option maxRecDepth 100000 in
theorem Stamp_any (CR : CrashOk) {F : Nat → Prop} {M : Nat} {w : World} {d : Nat} {D : Dk} (h : Dsk F M w d D) (hM : M + 3 ≤ 1099511627776) (n : Nm) (hn : n.length ≤ 9223372036854775807) :
    Calls Try.prog 52 #[pp d, sv n] w fun e w' => ∃ a b c v, e = .returned (.tuple #[.agg #[.int .i64 a, .int .i64 b, .int .i64 c], v]) ∧ StepP False F M w d ⟨#[115, 116, 97, 109, 112]⟩ (bsOf n) (stepNo D) (take (opStamp n) none D) v w' ∧ ((take (opStamp n) none D).e = 0 → (a, b, c) = (take (opStamp n) none D).s) := by
  obtain ⟨w1, hw1, k0, k1, hb1⟩ := alloc2 w (pp d) (sv n) 28 9
  obtain ⟨w2, hw2, k2, hb2⟩ : ∃ w2, w2 = w1.alloc (.cells #[.int .i64 0, .int .i64 0, .int .i64 0] 55) ∧ w2.heap[w1.heap.size]? = some (.cells #[.int .i64 0, .int .i64 0, .int .i64 0] 55 (0, 0)) ∧ Below w1.heap.size w1 w2 := ⟨_, rfl, heap_alloc_new _ _, ext_alloc (Below.refl _ _) _⟩
  obtain ⟨w3, hw3, k3, hb3⟩ : ∃ w3, w3 = w2.alloc (.cells #[.int .i64 0, .int .i64 0, .int .i64 0] 55) ∧ w3.heap[w2.heap.size]? = some (.cells #[.int .i64 0, .int .i64 0, .int .i64 0] 55 (0, 0)) ∧ Below w2.heap.size w2 w3 := ⟨_, rfl, heap_alloc_new _ _, ext_alloc (Below.refl _ _) _⟩
  have hs1 : w1.heap.size = w.heap.size + 2 := by rw [hw1]; simp
  have hs2 : w2.heap.size = w.heap.size + 3 := by rw [hw2]; simp [hs1]
  have hb23 := ext_trans hb2 hb3
  have hb := ext_trans hb1 hb23
  have k0 := (hb23.block _ (Array.getElem?_eq_some_iff.1 k0).1).trans k0
  have k1 := (hb23.block _ (Array.getElem?_eq_some_iff.1 k1).1).trans k1
  have k2 := (hb3.block _ (Array.getElem?_eq_some_iff.1 k2).1).trans k2
  rw [hs1] at k2
  rw [hs2] at k3
  have hF2 : Fx F w w3 (w.heap.size + 2) := .inr ⟨Nat.le_add_right _ 2, (Array.getElem?_eq_some_iff.1 k2).1⟩
  have hF3 : Fx F w w3 (w.heap.size + 3) := .inr ⟨Nat.le_add_right _ 3, (Array.getElem?_eq_some_iff.1 k3).1⟩
  have TK := hidIt (take_stamp CR (do_stamp hn (bx_some (F := F) (c := w.heap.size + 3) k0 (Nat.le_refl _) (by omega)) (bx_some (F := F) k1 (Nat.le_succ _) (by omega)) ⟨⟨_, rfl, k3⟩, hF3⟩) (stampAx k3 hF3) M D (h.pen hb) hM ⟨#[115, 116, 97, 109, 112]⟩ (bsOf n))
  have q0 : w3.cell? ⟨w.heap.size, 0, none⟩ = some (pp d) := by simp [World.cell?, k0]
  have q1 : w3.cell? ⟨w.heap.size + 1, 0, none⟩ = some (sv n) := by simp [World.cell?, k1]
  have HB := hidIt hb
  have K2 := hidIt k2
  have HF2 := hidIt hF2
  rw [hw2, hw1] at hw3
  clear h hb k0 k1 k2 k3 hb1 hb2 hb3 hw1 hw2 hs1 hs2 hF2 hF3 hb23
  generalize take (opStamp n) none D = RT at *
  go_enter Try.func52, Try.ntmps52
  go_upto_region 2 with fail
  rw [← hw3]
  clear hw3
  go_upto_region 3 with (go_at_call 47; refine TK.out.mono ?_; rintro e w4 ⟨v2, rfl, h1, h2, h3, h4⟩; have H1 := hidIt h1; have H2 := hidIt h2; have H3 := hidIt h3; have H4 := hidIt h4; clear h1 h2 h3 h4)
  have kb := (H3.out.keep K2.out (by decide) (by simp)).trans K2.out
  obtain ⟨z0, z1, z2, zf⟩ := cells3 kb
  have zf0 := zf 0
  have zf1 := zf 1
  have zf2 := zf 2
  have FI : Hid (∀ v a b c, StepP False F M w d ⟨#[115, 116, 97, 109, 112]⟩ (bsOf n) (stepNo D) RT v w4 → ∀ w5, (((w4.setCell ⟨w.heap.size + 2, 0, none⟩ (.int .i64 a)).setCell ⟨w.heap.size + 2, 1, none⟩ (.int .i64 b)).setCell ⟨w.heap.size + 2, 2, none⟩ (.int .i64 c)) = w5 → StepP False F M w d ⟨#[115, 116, 97, 109, 112]⟩ (bsOf n) (stepNo D) RT v w5 ∧ (w5.cell? ⟨w.heap.size + 2, 0, none⟩ = some (.int .i64 a) ∧ w5.cell? ⟨w.heap.size + 2, 1, none⟩ = some (.int .i64 b) ∧ w5.cell? ⟨w.heap.size + 2, 2, none⟩ = some (.int .i64 c))) := by
    rintro v a b c ⟨p1, p2, p3⟩ w5 rfl
    obtain ⟨s1, g1⟩ := set1 kb 0 (.int .i64 a)
    obtain ⟨s2, g2⟩ := set1 s1 1 (.int .i64 b)
    obtain ⟨s3, g3⟩ := set1 s2 2 (.int .i64 c)
    have g := grown_trans (grown_trans g1 g2) g3
    obtain ⟨r0, r1, r2, _⟩ := cells3 (a := .int .i64 a) (b := .int .i64 b) (c := .int .i64 c) (by rw [s3]; rfl)
    refine ⟨⟨?_, (H2.out.kps (Kps.grown (o := fun k => k = w.heap.size + 2) g (fun k e _ => by cases e; rfl)) (fun k _ e => by rw [e]; exact HF2.out)).less (fun _ hq => .inl hq), Kps.trans p3 (Kps.grown (o := fun k => k = w.heap.size + 2) g (fun k e _ => by cases e; rfl)) (fun i hi e => by omega)⟩, r0, r1, r2⟩
    rcases p1 with p1 | ⟨p1, q, hq, hv, hqc⟩
    · exact .inl p1
    · exact .inr ⟨p1, q, hq, hv, (g.block q (Array.getElem?_eq_some_iff.1 hqc).1 (by simpa using ne_obj hqc kb (by simp))).trans hqc⟩
  clear kb zf
  rcases H1.out with ⟨he, rfl⟩ | ⟨he, q, hq, rfl, hqc⟩
  · obtain ⟨y0, y1, y2, _⟩ := cells3 (H4.out.2 he)
    have SP := hidIt (StepP.of2 HB.out (fun k e => by cases e; omega) H1.out H2.out H3.out)
    generalize hs : RT.s = S at *
    obtain ⟨sa, sb, sc⟩ := S
    go_wp2_with fail
    (try simp only [Exit.inBlock, Exit.then])
    obtain ⟨SP5, r0, r1, r2⟩ := FI.out _ sa sb sc SP.out _ rfl
    refine bodyPost_ret (v := .tuple #[.agg #[.int .i64 sa, .int .i64 sb, .int .i64 sc], .nilIface]) ?_ rfl ⟨sa, sb, sc, _, rfl, SP5, rfl, rfl, rfl⟩
    rw [results_cell_tmp rfl]
    go_simp
  · have hne : Hid (RT.e ≠ 0) := he
    have SP := hidIt (StepP.of2 HB.out (fun k e => by cases e; omega) H1.out H2.out H3.out)
    clear he hqc hq
    go_wp2_with fail
    (try simp only [Exit.inBlock, Exit.then])
    obtain ⟨SP5, r0, r1, r2⟩ := FI.out _ 0 0 0 SP.out _ rfl
    refine bodyPost_ret (v := .tuple #[.agg #[.int .i64 0, .int .i64 0, .int .i64 0], .iface 131 (pp q)]) ?_ rfl ⟨0, 0, 0, _, rfl, SP5, fun e => absurd e hne.out⟩
    rw [results_cell_tmp rfl]
    go_simp
end Go.Proofs.Ytaoaihjiieandaa
