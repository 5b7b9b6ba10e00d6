/- A step is taken (read, stamp). -/
import Derived.Test.YtaoaihjiieandaaDTick
import Derived.Test.YtaoaihjiieandaaDMeet4
namespace Go.Proofs.Ytaoaihjiieandaa
open Go.RowKit

set_option maxRecDepth 100000 in
set_option maxHeartbeats 4000000 in
theorem take_read {U : Prop} {F : Nat → Prop} {ob : Option Nat} {w : World} {d : Nat} {bb bd bn : Nat} {op : Dk → Rs} {Ax : Rs → World → Prop} (CR : CrashOk) (DO : DoOk U F ob w d 48 #[pp bd, pp bn, pp bb] op Ax) (AX : AxOk F ob w Ax) (M : Nat) (D : Dk) (h : Dsk F M w d D) (hM : M + 3 ≤ 1099511627776) (on sn : ByteArray) :
    Calls Try.prog 47 #[pp d, .agg #[.string on, .string sn, .func (.func 48) #[] #[pp bd, pp bn, pp bb], .nilFunc]] w fun e w' => ∃ v, e = .returned v ∧ ErrV w' w.heap.size v on sn (stepNo D : Nat) (take op none D).e ∧ Dsk F (M + 3) w' d (take op none D).d ∧ Kn U F ob w w' ∧ Ax (take op none D) w' := by
  obtain ⟨w1, hw1, k1, hb1⟩ : ∃ w1, w1 = w.alloc (.cells #[.string on, .string sn, .func (.func 48) #[] #[pp bd, pp bn, pp bb], .nilFunc] 110) ∧ w1.heap[w.heap.size]? = some (.cells #[.string on, .string sn, .func (.func 48) #[] #[pp bd, pp bn, pp bb], .nilFunc] 110 (0, 0)) ∧ Below w.heap.size w w1 := ⟨_, rfl, heap_alloc_new _ _, ext_alloc (Below.refl _ _) _⟩
  obtain ⟨ms, ml, mp, va, fq, fv, hx⟩ := h.open
  have x1 := hx.ext hb1
  have hwl := h.fw
  have hsz1 : w1.heap.size = w.heap.size + 1 := by rw [hw1]; simp
  obtain ⟨c0, c1, c2, c3, c4, c5, c6, c7, fr⟩ := dC_cells x1.1
  obtain ⟨s0, s1, s2, s3⟩ := cells4 k1
  have HB1 := hidIt hb1
  cases hdn : D.dn with
  | true =>
    have FA := hidIt (failed_any on sn 0 165 w1)
    have E : Hid ((take op none D) = .err D 165) := by unfold Hid take; rw [if_pos hdn]
    have ES : Hid (((stepNo D : Nat) : Int) = 0) := by unfold Hid stepNo; rw [if_pos hdn]; rfl
    have FIN : Hid (∀ w2, Below w1.heap.size w1 w2 → Dsk F (M + 3) w2 d D ∧ Ax (.err D 165) w2) := fun w2 hb2 => ⟨(x1.ext hb2).dsk.monoN (by omega) hM, AX.zero D 165 w2 ((Kd.of hb1).trans (Kd.of hb2))⟩
    rw [hdn] at c7
    clear h hx x1 hb1 k1 c0 c1 c2 c3 c4 c5 c6 fr DO hwl
    rw [E.out]
    generalize ((stepNo D : Nat) : Int) = sn' at *
    go_enter Try.func47, Try.ntmps47
    go_upto_region 1 with fail
    rw [← hw1]
    clear hw1
    go_wp2_with (go_at_call 35; refine FA.out.mono ?_; rintro e w2 ⟨v2, rfl, hev, hb2⟩; have HE := hidIt hev; have HB2 := hidIt hb2; clear hev hb2)
    go_ret
    refine ⟨_, rfl, ?_, (FIN.out _ HB2.out).1, Kn.of (ext_trans HB1.out HB2.out), (FIN.out _ HB2.out).2⟩
    rw [ES.out]
    exact HE.out.mono HB1.out.size
  | false =>
    obtain ⟨w2, a, b, c, e, x, y, z, hw2, hs2, ⟨t6, t5⟩, g2, hft, hlook, hdel⟩ := x1.tick (by omega)
    have E : Hid ((take op none D) = meet op none D.tick (D.pl ((D.st + 1 : Nat) : Int))) := by unfold Hid take; rw [if_neg (by rw [hdn]; decide)]
    have ES : Hid (((stepNo D : Nat) : Int) = (D.st : Int) + 1) := by unfold Hid stepNo; rw [if_neg (by rw [hdn]; decide)]; omega
    have k2 := (g2.block w.heap.size (Array.getElem?_eq_some_iff.1 k1).1 (by simp; have := hx.lt; omega)).trans k1
    have PH : Hid (∃ w4, (Builtin.delete_ #[86, 3] 0 #[.map mp, .int .i64 ((D.st : Int) + 1)]).run Try.prog (w2.alloc (.cells #[.int .i64 a, .int .i64 b, .int .i64 c, .int .i64 e, .slice x y z] 62)) = .ok (.tuple #[]) w4 ∧ (w4.cell? ⟨w.heap.size, 0, none⟩ = some (.string on) ∧ w4.cell? ⟨w.heap.size, 1, none⟩ = some (.string sn) ∧ w4.cell? ⟨w.heap.size, 2, none⟩ = some (.func (.func 48) #[] #[pp bd, pp bn, pp bb]) ∧ w4.cell? ⟨w.heap.size, 3, none⟩ = some (.nilFunc) ∧ w4.cell? ⟨w.heap.size + 1, 0, none⟩ = some (.int .i64 a) ∧ w4.cell? ⟨w.heap.size + 1, 1, none⟩ = some (.int .i64 b) ∧ w4.cell? ⟨w.heap.size + 1, 2, none⟩ = some (.int .i64 c) ∧ w4.cell? ⟨w.heap.size + 1, 3, none⟩ = some (.int .i64 e) ∧ w4.cell? ⟨w.heap.size + 1, 4, none⟩ = some (.slice x y z)) ∧ (w2.alloc (.cells #[.int .i64 a, .int .i64 b, .int .i64 c, .int .i64 e, .slice x y z] 62)).cell? ⟨d, 5, none⟩ = some (.map mp) ∧
        Calls Try.prog 82 #[pp d, .agg #[.string on, .string sn, .func (.func 48) #[] #[pp bd, pp bn, pp bb], .nilFunc], .agg #[.int .i64 a, .int .i64 b, .int .i64 c, .int .i64 e, .slice x y z]] w4.drew fun e' w' => e' = .returned (.int .i64 (take op none D).e) ∧ Dsk F (M + 3) w' d (take op none D).d ∧ Kn U F ob w w' ∧ Ax (take op none D) w' ∧ (w'.cell? ⟨w.heap.size, 0, none⟩ = some (.string on) ∧ w'.cell? ⟨w.heap.size, 1, none⟩ = some (.string sn) ∧ w'.cell? ⟨w.heap.size, 2, none⟩ = some (.func (.func 48) #[] #[pp bd, pp bn, pp bb]) ∧ w'.cell? ⟨w.heap.size, 3, none⟩ = some (.nilFunc) ∧ w'.cell? ⟨w.heap.size + 1, 0, none⟩ = some (.int .i64 a) ∧ w'.cell? ⟨w.heap.size + 1, 1, none⟩ = some (.int .i64 b) ∧ w'.cell? ⟨w.heap.size + 1, 2, none⟩ = some (.int .i64 c) ∧ w'.cell? ⟨w.heap.size + 1, 3, none⟩ = some (.int .i64 e) ∧ w'.cell? ⟨w.heap.size + 1, 4, none⟩ = some (.slice x y z))) := by
      have hb3 : Below w2.heap.size w2 (w2.alloc (.cells #[.int .i64 a, .int .i64 b, .int .i64 c, .int .i64 e, .slice x y z] 62)) := ext_alloc (Below.refl _ _) _
      obtain ⟨w4, hrun4, h4, kd4, ft4, keep4, sz4⟩ := hdel _ hb3
      have f3 : (w2.alloc (.cells #[.int .i64 a, .int .i64 b, .int .i64 c, .int .i64 e, .slice x y z] 62)).heap[w.heap.size + 1]? = some (.cells #[.int .i64 a, .int .i64 b, .int .i64 c, .int .i64 e, .slice x y z] 62 (0, 0)) := by rw [← hsz1, ← hs2]; exact heap_alloc_new _ _
      have s3' := (hb3.block w.heap.size (Array.getElem?_eq_some_iff.1 k2).1).trans k2
      have f4 := keep4 _ _ _ f3
      have s4 := keep4 _ _ _ s3'
      obtain ⟨p0, p1, p2, p3⟩ := cells4 s4
      obtain ⟨p4, p5, p6, p7, p8⟩ := cells5 f4
      refine ⟨w4, hrun4, ⟨p0, p1, p2, p3, p4, p5, p6, p7, p8⟩, (hb3.cell (p := ⟨d, 5, none⟩) (cell_lt t5)).trans t5, ?_⟩
      have kd : Kd F w w4 := (Kd.of hb1).trans kd4
      have hdr : Below w4.heap.size w4 w4.drew := (Below.refl _ w4).drew
      rw [E.out]
      refine (meet_read CR DO AX (M + 1) w4.drew D.tick h4.drew (by omega) (kd.trans (Kd.of hdr)) on sn _ _ (ft4.ext (fun g cur hc => hdr.block g (Array.getElem?_eq_some_iff.1 hc).1))).mono ?_
      rintro e' w5 ⟨rfl, h5, k5, a5⟩
      have kk : ∀ k, ob = some k → k < w.heap.size := fun k e => hwl k (AX.ob k e)
      have f5 := (k5.keep (w := w4.drew) f4 (by decide) (fun e => by have := kk _ e; omega)).trans f4
      have s5 := (k5.keep (w := w4.drew) s4 (by decide) (fun e => by have := kk _ e; omega)).trans s4
      obtain ⟨p0, p1, p2, p3⟩ := cells4 s5
      obtain ⟨p4, p5, p6, p7, p8⟩ := cells5 f5
      exact ⟨rfl, h5, ((kd.trans (Kd.of hdr)).kn ob).trans k5, a5, ⟨p0, p1, p2, p3, p4, p5, p6, p7, p8⟩⟩
    have AXE := hidIt AX.ext
    have SX : Hid (∀ wa wb : World, Below wa.heap.size wa wb → (wa.cell? ⟨w.heap.size, 0, none⟩ = some (.string on) ∧ wa.cell? ⟨w.heap.size, 1, none⟩ = some (.string sn) ∧ wa.cell? ⟨w.heap.size, 2, none⟩ = some (.func (.func 48) #[] #[pp bd, pp bn, pp bb]) ∧ wa.cell? ⟨w.heap.size, 3, none⟩ = some (.nilFunc) ∧ wa.cell? ⟨w.heap.size + 1, 0, none⟩ = some (.int .i64 a) ∧ wa.cell? ⟨w.heap.size + 1, 1, none⟩ = some (.int .i64 b) ∧ wa.cell? ⟨w.heap.size + 1, 2, none⟩ = some (.int .i64 c) ∧ wa.cell? ⟨w.heap.size + 1, 3, none⟩ = some (.int .i64 e) ∧ wa.cell? ⟨w.heap.size + 1, 4, none⟩ = some (.slice x y z)) → (wb.cell? ⟨w.heap.size, 0, none⟩ = some (.string on) ∧ wb.cell? ⟨w.heap.size, 1, none⟩ = some (.string sn) ∧ wb.cell? ⟨w.heap.size, 2, none⟩ = some (.func (.func 48) #[] #[pp bd, pp bn, pp bb]) ∧ wb.cell? ⟨w.heap.size, 3, none⟩ = some (.nilFunc) ∧ wb.cell? ⟨w.heap.size + 1, 0, none⟩ = some (.int .i64 a) ∧ wb.cell? ⟨w.heap.size + 1, 1, none⟩ = some (.int .i64 b) ∧ wb.cell? ⟨w.heap.size + 1, 2, none⟩ = some (.int .i64 c) ∧ wb.cell? ⟨w.heap.size + 1, 3, none⟩ = some (.int .i64 e) ∧ wb.cell? ⟨w.heap.size + 1, 4, none⟩ = some (.slice x y z))) := by
      rintro wa wb hb ⟨r0, r1, r2, r3, r4, r5, r6, r7, r8⟩
      exact ⟨(hb.cell (p := ⟨w.heap.size, 0, none⟩) (cell_lt r0)).trans r0, (hb.cell (p := ⟨w.heap.size, 1, none⟩) (cell_lt r1)).trans r1, (hb.cell (p := ⟨w.heap.size, 2, none⟩) (cell_lt r2)).trans r2, (hb.cell (p := ⟨w.heap.size, 3, none⟩) (cell_lt r3)).trans r3, (hb.cell (p := ⟨w.heap.size + 1, 0, none⟩) (cell_lt r4)).trans r4, (hb.cell (p := ⟨w.heap.size + 1, 1, none⟩) (cell_lt r5)).trans r5, (hb.cell (p := ⟨w.heap.size + 1, 2, none⟩) (cell_lt r6)).trans r6, (hb.cell (p := ⟨w.heap.size + 1, 3, none⟩) (cell_lt r7)).trans r7, (hb.cell (p := ⟨w.heap.size + 1, 4, none⟩) (cell_lt r8)).trans r8⟩
    have FA := fun e w => hidIt (failed_any on sn ((D.st : Int) + 1) e w)
    have hst := hx.2.2.1.lst
    have fr6 := fr 6
    rw [hdn] at c7
    have HSZ := hidIt (show w.heap.size ≤ w1.heap.size by omega)
    obtain ⟨w4, hrun4, ⟨p0, p1, p2, p3, p4, p5, p6, p7, p8⟩, d5, hm⟩ := PH.out
    have ME := hidIt hm
    have hs21 : w2.heap.size = w.heap.size + 1 := by rw [hs2, hsz1]
    clear h hx x1 hb1 k1 c0 c1 c2 c3 c4 c5 fr DO hwl E hft hdel PH hm g2 k2
    generalize (take op none D) = RT at *
    generalize ((stepNo D : Nat) : Int) = sn' at *
    generalize hstI : (D.st : Int) = sI at *
    have hstB : 0 ≤ sI ∧ sI ≤ 1099511627776 := by omega
    clear hstI hdn
    go_enter Try.func47, Try.ntmps47
    go_upto_region 1 with fail
    rw [← hw1]
    clear hw1 hs2 hsz1
    go_upto_region 4 with fail
    clear hw2
    go_upto_region 7 with fail
    refine wp_region_held_drew (S := fun w' => w'.cell? ⟨w.heap.size, 0, none⟩ = some (.string on) ∧ w'.cell? ⟨w.heap.size, 1, none⟩ = some (.string sn) ∧ w'.cell? ⟨w.heap.size, 2, none⟩ = some (.func (.func 48) #[] #[pp bd, pp bn, pp bb]) ∧ w'.cell? ⟨w.heap.size, 3, none⟩ = some (.nilFunc) ∧ w'.cell? ⟨w.heap.size + 1, 0, none⟩ = some (.int .i64 a) ∧ w'.cell? ⟨w.heap.size + 1, 1, none⟩ = some (.int .i64 b) ∧ w'.cell? ⟨w.heap.size + 1, 2, none⟩ = some (.int .i64 c) ∧ w'.cell? ⟨w.heap.size + 1, 3, none⟩ = some (.int .i64 e) ∧ w'.cell? ⟨w.heap.size + 1, 4, none⟩ = some (.slice x y z)) (by kernel_rfl) (by first | exact ⟨p0, p1, p2, p3, p4, p5, p6, p7, p8⟩ | (simp only [World.cell?_drew]; exact ⟨p0, p1, p2, p3, p4, p5, p6, p7, p8⟩)) (fun hHeld => ?_)
    refine wpAnyH_take (i := 0) (oi := _) (v := ?_) rfl (by kernel_rfl) (by kernel_rfl) (by kernel_rfl) (fun _ _ _ h => h) (Or.inl ⟨by rfl, ?_⟩) (by assumption) ?_
    rotate_left 1
    · intro wq hSw; (try dsimp only at hSw); go_simp; try (with_reducible rfl)
    try simp only [Act.put, List.getElem_toArray, List.getElem_cons_zero, List.setIfInBounds_toArray, List.set_cons_zero, List.set_cons_succ]
    refine wpAnyH_take (i := 1) (oi := _) (v := ?_) rfl (by kernel_rfl) (by kernel_rfl) (by kernel_rfl) (fun _ _ _ h => h) (Or.inl ⟨by rfl, ?_⟩) (by assumption) ?_
    rotate_left 1
    · intro wq hSw; (try dsimp only at hSw); go_simp; try (with_reducible rfl)
    try simp only [Act.put, List.getElem_toArray, List.getElem_cons_succ, List.getElem_cons_zero, List.setIfInBounds_toArray, List.set_cons_zero, List.set_cons_succ]
    refine wpAnyH_take (i := 2) (oi := _) (v := ?_) rfl (by kernel_rfl) (by kernel_rfl) (by kernel_rfl) (fun _ _ _ h => h) (Or.inl ⟨by rfl, ?_⟩) (by assumption) ?_
    rotate_left 1
    · intro wq hSw; (try dsimp only at hSw); go_simp; try (with_reducible rfl)
    try simp only [Act.put, List.getElem_toArray, List.getElem_cons_succ, List.getElem_cons_zero, List.setIfInBounds_toArray, List.set_cons_zero, List.set_cons_succ]
    refine wpAnyH_take (i := 3) (oi := _) (v := ?_) rfl (by kernel_rfl) (by kernel_rfl) (by kernel_rfl) (fun _ _ _ h => h) (Or.inl ⟨by rfl, ?_⟩) (by assumption) ?_
    rotate_left 1
    · intro wq hSw; (try dsimp only at hSw); go_simp; try (with_reducible rfl)
    try simp only [Act.put, List.getElem_toArray, List.getElem_cons_succ, List.getElem_cons_zero, List.setIfInBounds_toArray, List.set_cons_zero, List.set_cons_succ]
    refine wpAnyH_take (i := 4) (oi := _) (v := ?_) rfl (by kernel_rfl) (by kernel_rfl) (by kernel_rfl) (fun _ _ _ h => h) (Or.inl ⟨by rfl, ?_⟩) (by assumption) ?_
    rotate_left 1
    · intro wq hSw; (try dsimp only at hSw); go_simp; try (with_reducible rfl)
    try simp only [Act.put, List.getElem_toArray, List.getElem_cons_succ, List.getElem_cons_zero, List.setIfInBounds_toArray, List.set_cons_zero, List.set_cons_succ]
    refine wpAnyH_take (i := 5) (oi := _) (v := ?_) rfl (by kernel_rfl) (by kernel_rfl) (by kernel_rfl) (fun _ _ _ h => h) (Or.inl ⟨by rfl, ?_⟩) (by assumption) ?_
    rotate_left 1
    · intro wq hSw; (try dsimp only at hSw); go_simp; try (with_reducible rfl)
    try simp only [Act.put, List.getElem_toArray, List.getElem_cons_succ, List.getElem_cons_zero, List.setIfInBounds_toArray, List.set_cons_zero, List.set_cons_succ]
    refine wpAnyH_take (i := 6) (oi := _) (v := ?_) rfl (by kernel_rfl) (by kernel_rfl) (by kernel_rfl) (fun _ _ _ h => h) (Or.inl ⟨by rfl, ?_⟩) (by assumption) ?_
    rotate_left 1
    · intro wq hSw; (try dsimp only at hSw); go_simp; try (with_reducible rfl)
    try simp only [Act.put, List.getElem_toArray, List.getElem_cons_succ, List.getElem_cons_zero, List.setIfInBounds_toArray, List.set_cons_zero, List.set_cons_succ]
    refine wpAnyH_take (i := 7) (oi := _) (v := ?_) rfl (by kernel_rfl) (by kernel_rfl) (by kernel_rfl) (fun _ _ _ h => h) (Or.inl ⟨by rfl, ?_⟩) (by assumption) ?_
    rotate_left 1
    · intro wq hSw; (try dsimp only at hSw); go_simp; try (with_reducible rfl)
    try simp only [Act.put, List.getElem_toArray, List.getElem_cons_succ, List.getElem_cons_zero, List.setIfInBounds_toArray, List.set_cons_zero, List.set_cons_succ]
    refine wpAnyH_ready (rs := [8]) (by kernel_rfl) (by simp) ?_
    refine AllReadyH.cons (o := _) rfl (fun K hK => ?_) AllReadyH.nil
    go_simp
    refine ME.out.mono ?_; rintro e' w5 ⟨rfl, h5, k5, a5, ⟨q0, q1, q2, q3, q4, q5, q6, q7, q8⟩⟩; have H5 := hidIt h5; have K5 := hidIt k5; have A5 := hidIt a5; clear h5 k5 a5; try dsimp only
    refine hK.out _ _ ?_ (fun hHeld => ?_)
    · exact ⟨q0, q1, q2, q3, q4, q5, q6, q7, q8⟩
    clear hK K
    try simp only [Act.put, List.getElem_toArray, List.getElem_cons_succ, List.getElem_cons_zero, List.setIfInBounds_toArray, List.set_cons_zero, List.set_cons_succ]
    refine wpAnyH_ready (rs := [9]) (by kernel_rfl) (by simp) ?_
    refine AllReadyH.cons (o := _) rfl (fun K hK => ?_) AllReadyH.nil
    go_simp
    refine (FA _ _).out.mono ?_; rintro e' w6 ⟨v6, rfl, hev, hb6⟩; have HE := hidIt hev; have HB6 := hidIt hb6; clear hev hb6; try dsimp only
    refine hK.out _ _ ?_ (fun hHeld => ?_)
    · exact SX.out _ _ HB6.out ⟨q0, q1, q2, q3, q4, q5, q6, q7, q8⟩
    clear hK K
    try simp only [Act.put, List.getElem_toArray, List.getElem_cons_succ, List.getElem_cons_zero, List.setIfInBounds_toArray, List.set_cons_zero, List.set_cons_succ]
    refine wpAnyH_take (i := 10) (oi := _) (v := ?_) rfl (by kernel_rfl) (by kernel_rfl) (by kernel_rfl) (fun _ _ _ h => h) (Or.inl ⟨by rfl, ?_⟩) (by assumption) ?_
    rotate_left 1
    · intro wq hSw; (try dsimp only at hSw); go_simp; try (with_reducible rfl)
    try simp only [Act.put, List.getElem_toArray, List.getElem_cons_succ, List.getElem_cons_zero, List.setIfInBounds_toArray, List.set_cons_zero, List.set_cons_succ]
    refine wpAnyH_done (by kernel_rfl) ?_ _
    go_wp2_with fail
    go_ret
    refine ⟨_, rfl, ?_, H5.out.ext HB6.out, K5.out.trans (Kn.of HB6.out), AXE.out _ _ _ HB6.out A5.out⟩
    rw [ES.out]
    exact HE.out.mono K5.out.size

set_option maxRecDepth 100000 in
set_option maxHeartbeats 4000000 in
theorem take_stamp {U : Prop} {F : Nat → Prop} {ob : Option Nat} {w : World} {d : Nat} {bb bd bn : Nat} {op : Dk → Rs} {Ax : Rs → World → Prop} (CR : CrashOk) (DO : DoOk U F ob w d 83 #[pp bd, pp bn, pp bb] op Ax) (AX : AxOk F ob w Ax) (M : Nat) (D : Dk) (h : Dsk F M w d D) (hM : M + 3 ≤ 1099511627776) (on sn : ByteArray) :
    Calls Try.prog 47 #[pp d, .agg #[.string on, .string sn, .func (.func 83) #[] #[pp bd, pp bn, pp bb], .nilFunc]] w fun e w' => ∃ v, e = .returned v ∧ ErrV w' w.heap.size v on sn (stepNo D : Nat) (take op none D).e ∧ Dsk F (M + 3) w' d (take op none D).d ∧ Kn U F ob w w' ∧ Ax (take op none D) w' := by
  obtain ⟨w1, hw1, k1, hb1⟩ : ∃ w1, w1 = w.alloc (.cells #[.string on, .string sn, .func (.func 83) #[] #[pp bd, pp bn, pp bb], .nilFunc] 110) ∧ w1.heap[w.heap.size]? = some (.cells #[.string on, .string sn, .func (.func 83) #[] #[pp bd, pp bn, pp bb], .nilFunc] 110 (0, 0)) ∧ Below w.heap.size w w1 := ⟨_, rfl, heap_alloc_new _ _, ext_alloc (Below.refl _ _) _⟩
  obtain ⟨ms, ml, mp, va, fq, fv, hx⟩ := h.open
  have x1 := hx.ext hb1
  have hwl := h.fw
  have hsz1 : w1.heap.size = w.heap.size + 1 := by rw [hw1]; simp
  obtain ⟨c0, c1, c2, c3, c4, c5, c6, c7, fr⟩ := dC_cells x1.1
  obtain ⟨s0, s1, s2, s3⟩ := cells4 k1
  have HB1 := hidIt hb1
  cases hdn : D.dn with
  | true =>
    have FA := hidIt (failed_any on sn 0 165 w1)
    have E : Hid ((take op none D) = .err D 165) := by unfold Hid take; rw [if_pos hdn]
    have ES : Hid (((stepNo D : Nat) : Int) = 0) := by unfold Hid stepNo; rw [if_pos hdn]; rfl
    have FIN : Hid (∀ w2, Below w1.heap.size w1 w2 → Dsk F (M + 3) w2 d D ∧ Ax (.err D 165) w2) := fun w2 hb2 => ⟨(x1.ext hb2).dsk.monoN (by omega) hM, AX.zero D 165 w2 ((Kd.of hb1).trans (Kd.of hb2))⟩
    rw [hdn] at c7
    clear h hx x1 hb1 k1 c0 c1 c2 c3 c4 c5 c6 fr DO hwl
    rw [E.out]
    generalize ((stepNo D : Nat) : Int) = sn' at *
    go_enter Try.func47, Try.ntmps47
    go_upto_region 1 with fail
    rw [← hw1]
    clear hw1
    go_wp2_with (go_at_call 35; refine FA.out.mono ?_; rintro e w2 ⟨v2, rfl, hev, hb2⟩; have HE := hidIt hev; have HB2 := hidIt hb2; clear hev hb2)
    go_ret
    refine ⟨_, rfl, ?_, (FIN.out _ HB2.out).1, Kn.of (ext_trans HB1.out HB2.out), (FIN.out _ HB2.out).2⟩
    rw [ES.out]
    exact HE.out.mono HB1.out.size
  | false =>
    obtain ⟨w2, a, b, c, e, x, y, z, hw2, hs2, ⟨t6, t5⟩, g2, hft, hlook, hdel⟩ := x1.tick (by omega)
    have E : Hid ((take op none D) = meet op none D.tick (D.pl ((D.st + 1 : Nat) : Int))) := by unfold Hid take; rw [if_neg (by rw [hdn]; decide)]
    have ES : Hid (((stepNo D : Nat) : Int) = (D.st : Int) + 1) := by unfold Hid stepNo; rw [if_neg (by rw [hdn]; decide)]; omega
    have k2 := (g2.block w.heap.size (Array.getElem?_eq_some_iff.1 k1).1 (by simp; have := hx.lt; omega)).trans k1
    have PH : Hid (∃ w4, (Builtin.delete_ #[86, 3] 0 #[.map mp, .int .i64 ((D.st : Int) + 1)]).run Try.prog (w2.alloc (.cells #[.int .i64 a, .int .i64 b, .int .i64 c, .int .i64 e, .slice x y z] 62)) = .ok (.tuple #[]) w4 ∧ (w4.cell? ⟨w.heap.size, 0, none⟩ = some (.string on) ∧ w4.cell? ⟨w.heap.size, 1, none⟩ = some (.string sn) ∧ w4.cell? ⟨w.heap.size, 2, none⟩ = some (.func (.func 83) #[] #[pp bd, pp bn, pp bb]) ∧ w4.cell? ⟨w.heap.size, 3, none⟩ = some (.nilFunc) ∧ w4.cell? ⟨w.heap.size + 1, 0, none⟩ = some (.int .i64 a) ∧ w4.cell? ⟨w.heap.size + 1, 1, none⟩ = some (.int .i64 b) ∧ w4.cell? ⟨w.heap.size + 1, 2, none⟩ = some (.int .i64 c) ∧ w4.cell? ⟨w.heap.size + 1, 3, none⟩ = some (.int .i64 e) ∧ w4.cell? ⟨w.heap.size + 1, 4, none⟩ = some (.slice x y z)) ∧ (w2.alloc (.cells #[.int .i64 a, .int .i64 b, .int .i64 c, .int .i64 e, .slice x y z] 62)).cell? ⟨d, 5, none⟩ = some (.map mp) ∧
        Calls Try.prog 82 #[pp d, .agg #[.string on, .string sn, .func (.func 83) #[] #[pp bd, pp bn, pp bb], .nilFunc], .agg #[.int .i64 a, .int .i64 b, .int .i64 c, .int .i64 e, .slice x y z]] w4.drew fun e' w' => e' = .returned (.int .i64 (take op none D).e) ∧ Dsk F (M + 3) w' d (take op none D).d ∧ Kn U F ob w w' ∧ Ax (take op none D) w' ∧ (w'.cell? ⟨w.heap.size, 0, none⟩ = some (.string on) ∧ w'.cell? ⟨w.heap.size, 1, none⟩ = some (.string sn) ∧ w'.cell? ⟨w.heap.size, 2, none⟩ = some (.func (.func 83) #[] #[pp bd, pp bn, pp bb]) ∧ w'.cell? ⟨w.heap.size, 3, none⟩ = some (.nilFunc) ∧ w'.cell? ⟨w.heap.size + 1, 0, none⟩ = some (.int .i64 a) ∧ w'.cell? ⟨w.heap.size + 1, 1, none⟩ = some (.int .i64 b) ∧ w'.cell? ⟨w.heap.size + 1, 2, none⟩ = some (.int .i64 c) ∧ w'.cell? ⟨w.heap.size + 1, 3, none⟩ = some (.int .i64 e) ∧ w'.cell? ⟨w.heap.size + 1, 4, none⟩ = some (.slice x y z))) := by
      have hb3 : Below w2.heap.size w2 (w2.alloc (.cells #[.int .i64 a, .int .i64 b, .int .i64 c, .int .i64 e, .slice x y z] 62)) := ext_alloc (Below.refl _ _) _
      obtain ⟨w4, hrun4, h4, kd4, ft4, keep4, sz4⟩ := hdel _ hb3
      have f3 : (w2.alloc (.cells #[.int .i64 a, .int .i64 b, .int .i64 c, .int .i64 e, .slice x y z] 62)).heap[w.heap.size + 1]? = some (.cells #[.int .i64 a, .int .i64 b, .int .i64 c, .int .i64 e, .slice x y z] 62 (0, 0)) := by rw [← hsz1, ← hs2]; exact heap_alloc_new _ _
      have s3' := (hb3.block w.heap.size (Array.getElem?_eq_some_iff.1 k2).1).trans k2
      have f4 := keep4 _ _ _ f3
      have s4 := keep4 _ _ _ s3'
      obtain ⟨p0, p1, p2, p3⟩ := cells4 s4
      obtain ⟨p4, p5, p6, p7, p8⟩ := cells5 f4
      refine ⟨w4, hrun4, ⟨p0, p1, p2, p3, p4, p5, p6, p7, p8⟩, (hb3.cell (p := ⟨d, 5, none⟩) (cell_lt t5)).trans t5, ?_⟩
      have kd : Kd F w w4 := (Kd.of hb1).trans kd4
      have hdr : Below w4.heap.size w4 w4.drew := (Below.refl _ w4).drew
      rw [E.out]
      refine (meet_stamp CR DO AX (M + 1) w4.drew D.tick h4.drew (by omega) (kd.trans (Kd.of hdr)) on sn _ _ (ft4.ext (fun g cur hc => hdr.block g (Array.getElem?_eq_some_iff.1 hc).1))).mono ?_
      rintro e' w5 ⟨rfl, h5, k5, a5⟩
      have kk : ∀ k, ob = some k → k < w.heap.size := fun k e => hwl k (AX.ob k e)
      have f5 := (k5.keep (w := w4.drew) f4 (by decide) (fun e => by have := kk _ e; omega)).trans f4
      have s5 := (k5.keep (w := w4.drew) s4 (by decide) (fun e => by have := kk _ e; omega)).trans s4
      obtain ⟨p0, p1, p2, p3⟩ := cells4 s5
      obtain ⟨p4, p5, p6, p7, p8⟩ := cells5 f5
      exact ⟨rfl, h5, ((kd.trans (Kd.of hdr)).kn ob).trans k5, a5, ⟨p0, p1, p2, p3, p4, p5, p6, p7, p8⟩⟩
    have AXE := hidIt AX.ext
    have SX : Hid (∀ wa wb : World, Below wa.heap.size wa wb → (wa.cell? ⟨w.heap.size, 0, none⟩ = some (.string on) ∧ wa.cell? ⟨w.heap.size, 1, none⟩ = some (.string sn) ∧ wa.cell? ⟨w.heap.size, 2, none⟩ = some (.func (.func 83) #[] #[pp bd, pp bn, pp bb]) ∧ wa.cell? ⟨w.heap.size, 3, none⟩ = some (.nilFunc) ∧ wa.cell? ⟨w.heap.size + 1, 0, none⟩ = some (.int .i64 a) ∧ wa.cell? ⟨w.heap.size + 1, 1, none⟩ = some (.int .i64 b) ∧ wa.cell? ⟨w.heap.size + 1, 2, none⟩ = some (.int .i64 c) ∧ wa.cell? ⟨w.heap.size + 1, 3, none⟩ = some (.int .i64 e) ∧ wa.cell? ⟨w.heap.size + 1, 4, none⟩ = some (.slice x y z)) → (wb.cell? ⟨w.heap.size, 0, none⟩ = some (.string on) ∧ wb.cell? ⟨w.heap.size, 1, none⟩ = some (.string sn) ∧ wb.cell? ⟨w.heap.size, 2, none⟩ = some (.func (.func 83) #[] #[pp bd, pp bn, pp bb]) ∧ wb.cell? ⟨w.heap.size, 3, none⟩ = some (.nilFunc) ∧ wb.cell? ⟨w.heap.size + 1, 0, none⟩ = some (.int .i64 a) ∧ wb.cell? ⟨w.heap.size + 1, 1, none⟩ = some (.int .i64 b) ∧ wb.cell? ⟨w.heap.size + 1, 2, none⟩ = some (.int .i64 c) ∧ wb.cell? ⟨w.heap.size + 1, 3, none⟩ = some (.int .i64 e) ∧ wb.cell? ⟨w.heap.size + 1, 4, none⟩ = some (.slice x y z))) := by
      rintro wa wb hb ⟨r0, r1, r2, r3, r4, r5, r6, r7, r8⟩
      exact ⟨(hb.cell (p := ⟨w.heap.size, 0, none⟩) (cell_lt r0)).trans r0, (hb.cell (p := ⟨w.heap.size, 1, none⟩) (cell_lt r1)).trans r1, (hb.cell (p := ⟨w.heap.size, 2, none⟩) (cell_lt r2)).trans r2, (hb.cell (p := ⟨w.heap.size, 3, none⟩) (cell_lt r3)).trans r3, (hb.cell (p := ⟨w.heap.size + 1, 0, none⟩) (cell_lt r4)).trans r4, (hb.cell (p := ⟨w.heap.size + 1, 1, none⟩) (cell_lt r5)).trans r5, (hb.cell (p := ⟨w.heap.size + 1, 2, none⟩) (cell_lt r6)).trans r6, (hb.cell (p := ⟨w.heap.size + 1, 3, none⟩) (cell_lt r7)).trans r7, (hb.cell (p := ⟨w.heap.size + 1, 4, none⟩) (cell_lt r8)).trans r8⟩
    have FA := fun e w => hidIt (failed_any on sn ((D.st : Int) + 1) e w)
    have hst := hx.2.2.1.lst
    have fr6 := fr 6
    rw [hdn] at c7
    have HSZ := hidIt (show w.heap.size ≤ w1.heap.size by omega)
    obtain ⟨w4, hrun4, ⟨p0, p1, p2, p3, p4, p5, p6, p7, p8⟩, d5, hm⟩ := PH.out
    have ME := hidIt hm
    have hs21 : w2.heap.size = w.heap.size + 1 := by rw [hs2, hsz1]
    clear h hx x1 hb1 k1 c0 c1 c2 c3 c4 c5 fr DO hwl E hft hdel PH hm g2 k2
    generalize (take op none D) = RT at *
    generalize ((stepNo D : Nat) : Int) = sn' at *
    generalize hstI : (D.st : Int) = sI at *
    have hstB : 0 ≤ sI ∧ sI ≤ 1099511627776 := by omega
    clear hstI hdn
    go_enter Try.func47, Try.ntmps47
    go_upto_region 1 with fail
    rw [← hw1]
    clear hw1 hs2 hsz1
    go_upto_region 4 with fail
    clear hw2
    go_upto_region 7 with fail
    refine wp_region_held_drew (S := fun w' => w'.cell? ⟨w.heap.size, 0, none⟩ = some (.string on) ∧ w'.cell? ⟨w.heap.size, 1, none⟩ = some (.string sn) ∧ w'.cell? ⟨w.heap.size, 2, none⟩ = some (.func (.func 83) #[] #[pp bd, pp bn, pp bb]) ∧ w'.cell? ⟨w.heap.size, 3, none⟩ = some (.nilFunc) ∧ w'.cell? ⟨w.heap.size + 1, 0, none⟩ = some (.int .i64 a) ∧ w'.cell? ⟨w.heap.size + 1, 1, none⟩ = some (.int .i64 b) ∧ w'.cell? ⟨w.heap.size + 1, 2, none⟩ = some (.int .i64 c) ∧ w'.cell? ⟨w.heap.size + 1, 3, none⟩ = some (.int .i64 e) ∧ w'.cell? ⟨w.heap.size + 1, 4, none⟩ = some (.slice x y z)) (by kernel_rfl) (by first | exact ⟨p0, p1, p2, p3, p4, p5, p6, p7, p8⟩ | (simp only [World.cell?_drew]; exact ⟨p0, p1, p2, p3, p4, p5, p6, p7, p8⟩)) (fun hHeld => ?_)
    refine wpAnyH_take (i := 0) (oi := _) (v := ?_) rfl (by kernel_rfl) (by kernel_rfl) (by kernel_rfl) (fun _ _ _ h => h) (Or.inl ⟨by rfl, ?_⟩) (by assumption) ?_
    rotate_left 1
    · intro wq hSw; (try dsimp only at hSw); go_simp; try (with_reducible rfl)
    try simp only [Act.put, List.getElem_toArray, List.getElem_cons_zero, List.setIfInBounds_toArray, List.set_cons_zero, List.set_cons_succ]
    refine wpAnyH_take (i := 1) (oi := _) (v := ?_) rfl (by kernel_rfl) (by kernel_rfl) (by kernel_rfl) (fun _ _ _ h => h) (Or.inl ⟨by rfl, ?_⟩) (by assumption) ?_
    rotate_left 1
    · intro wq hSw; (try dsimp only at hSw); go_simp; try (with_reducible rfl)
    try simp only [Act.put, List.getElem_toArray, List.getElem_cons_succ, List.getElem_cons_zero, List.setIfInBounds_toArray, List.set_cons_zero, List.set_cons_succ]
    refine wpAnyH_take (i := 2) (oi := _) (v := ?_) rfl (by kernel_rfl) (by kernel_rfl) (by kernel_rfl) (fun _ _ _ h => h) (Or.inl ⟨by rfl, ?_⟩) (by assumption) ?_
    rotate_left 1
    · intro wq hSw; (try dsimp only at hSw); go_simp; try (with_reducible rfl)
    try simp only [Act.put, List.getElem_toArray, List.getElem_cons_succ, List.getElem_cons_zero, List.setIfInBounds_toArray, List.set_cons_zero, List.set_cons_succ]
    refine wpAnyH_take (i := 3) (oi := _) (v := ?_) rfl (by kernel_rfl) (by kernel_rfl) (by kernel_rfl) (fun _ _ _ h => h) (Or.inl ⟨by rfl, ?_⟩) (by assumption) ?_
    rotate_left 1
    · intro wq hSw; (try dsimp only at hSw); go_simp; try (with_reducible rfl)
    try simp only [Act.put, List.getElem_toArray, List.getElem_cons_succ, List.getElem_cons_zero, List.setIfInBounds_toArray, List.set_cons_zero, List.set_cons_succ]
    refine wpAnyH_take (i := 4) (oi := _) (v := ?_) rfl (by kernel_rfl) (by kernel_rfl) (by kernel_rfl) (fun _ _ _ h => h) (Or.inl ⟨by rfl, ?_⟩) (by assumption) ?_
    rotate_left 1
    · intro wq hSw; (try dsimp only at hSw); go_simp; try (with_reducible rfl)
    try simp only [Act.put, List.getElem_toArray, List.getElem_cons_succ, List.getElem_cons_zero, List.setIfInBounds_toArray, List.set_cons_zero, List.set_cons_succ]
    refine wpAnyH_take (i := 5) (oi := _) (v := ?_) rfl (by kernel_rfl) (by kernel_rfl) (by kernel_rfl) (fun _ _ _ h => h) (Or.inl ⟨by rfl, ?_⟩) (by assumption) ?_
    rotate_left 1
    · intro wq hSw; (try dsimp only at hSw); go_simp; try (with_reducible rfl)
    try simp only [Act.put, List.getElem_toArray, List.getElem_cons_succ, List.getElem_cons_zero, List.setIfInBounds_toArray, List.set_cons_zero, List.set_cons_succ]
    refine wpAnyH_take (i := 6) (oi := _) (v := ?_) rfl (by kernel_rfl) (by kernel_rfl) (by kernel_rfl) (fun _ _ _ h => h) (Or.inl ⟨by rfl, ?_⟩) (by assumption) ?_
    rotate_left 1
    · intro wq hSw; (try dsimp only at hSw); go_simp; try (with_reducible rfl)
    try simp only [Act.put, List.getElem_toArray, List.getElem_cons_succ, List.getElem_cons_zero, List.setIfInBounds_toArray, List.set_cons_zero, List.set_cons_succ]
    refine wpAnyH_take (i := 7) (oi := _) (v := ?_) rfl (by kernel_rfl) (by kernel_rfl) (by kernel_rfl) (fun _ _ _ h => h) (Or.inl ⟨by rfl, ?_⟩) (by assumption) ?_
    rotate_left 1
    · intro wq hSw; (try dsimp only at hSw); go_simp; try (with_reducible rfl)
    try simp only [Act.put, List.getElem_toArray, List.getElem_cons_succ, List.getElem_cons_zero, List.setIfInBounds_toArray, List.set_cons_zero, List.set_cons_succ]
    refine wpAnyH_ready (rs := [8]) (by kernel_rfl) (by simp) ?_
    refine AllReadyH.cons (o := _) rfl (fun K hK => ?_) AllReadyH.nil
    go_simp
    refine ME.out.mono ?_; rintro e' w5 ⟨rfl, h5, k5, a5, ⟨q0, q1, q2, q3, q4, q5, q6, q7, q8⟩⟩; have H5 := hidIt h5; have K5 := hidIt k5; have A5 := hidIt a5; clear h5 k5 a5; try dsimp only
    refine hK.out _ _ ?_ (fun hHeld => ?_)
    · exact ⟨q0, q1, q2, q3, q4, q5, q6, q7, q8⟩
    clear hK K
    try simp only [Act.put, List.getElem_toArray, List.getElem_cons_succ, List.getElem_cons_zero, List.setIfInBounds_toArray, List.set_cons_zero, List.set_cons_succ]
    refine wpAnyH_ready (rs := [9]) (by kernel_rfl) (by simp) ?_
    refine AllReadyH.cons (o := _) rfl (fun K hK => ?_) AllReadyH.nil
    go_simp
    refine (FA _ _).out.mono ?_; rintro e' w6 ⟨v6, rfl, hev, hb6⟩; have HE := hidIt hev; have HB6 := hidIt hb6; clear hev hb6; try dsimp only
    refine hK.out _ _ ?_ (fun hHeld => ?_)
    · exact SX.out _ _ HB6.out ⟨q0, q1, q2, q3, q4, q5, q6, q7, q8⟩
    clear hK K
    try simp only [Act.put, List.getElem_toArray, List.getElem_cons_succ, List.getElem_cons_zero, List.setIfInBounds_toArray, List.set_cons_zero, List.set_cons_succ]
    refine wpAnyH_take (i := 10) (oi := _) (v := ?_) rfl (by kernel_rfl) (by kernel_rfl) (by kernel_rfl) (fun _ _ _ h => h) (Or.inl ⟨by rfl, ?_⟩) (by assumption) ?_
    rotate_left 1
    · intro wq hSw; (try dsimp only at hSw); go_simp; try (with_reducible rfl)
    try simp only [Act.put, List.getElem_toArray, List.getElem_cons_succ, List.getElem_cons_zero, List.setIfInBounds_toArray, List.set_cons_zero, List.set_cons_succ]
    refine wpAnyH_done (by kernel_rfl) ?_ _
    go_wp2_with fail
    go_ret
    refine ⟨_, rfl, ?_, H5.out.ext HB6.out, K5.out.trans (Kn.of HB6.out), AXE.out _ _ _ HB6.out A5.out⟩
    rw [ES.out]
    exact HE.out.mono K5.out.size
end Go.Proofs.Ytaoaihjiieandaa
