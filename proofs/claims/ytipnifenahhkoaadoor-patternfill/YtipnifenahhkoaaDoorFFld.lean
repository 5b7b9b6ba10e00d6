/- The law's filled: Fill's answers are the document's, what was lent stays. -/
import Derived.Test.YtipnifenahhkoaaDoorFLend
namespace Go.Proofs.YtipnifenahhkoaaDoor
open Go.RowKit

theorem rd_grown {k : IntKind} {w w' : World} {v : Value} {zs : List Int} {g : Nat} (h : Rd k w v zs) (hg : w.grownBy w' (some g)) (hn : ∀ b o n c, v = .slice (some ⟨b, o, none⟩) n c → b ≠ g) : Rd k w' v zs := by
  obtain ⟨ao, cap, rfl, h1, h2, h3⟩ := h
  refine ⟨ao, cap, rfl, h1, h2, fun hz => ?_⟩
  obtain ⟨b, off, rfl, hb, hc⟩ := h3 hz
  refine ⟨b, off, rfl, Nat.lt_of_lt_of_le hb hg.size, fun i hi => ?_⟩
  have hne := hn b off _ _ rfl
  rw [← hc i hi]
  unfold World.cell?
  simp only [hg.block b hb (fun e => hne (Option.some.inj e))]
theorem rd_ext {k : IntKind} {w0 w w' : World} {v : Value} {zs : List Int} {g : Nat} (h : Rd k w0 v zs) (h0 : Below w0.heap.size w0 w) (hg : w.grownBy w' (some g)) (hn : w0.heap.size ≤ g) : Rd k w' v zs :=
  h.ext (h0.grown hg h0.size (fun k e => by cases e; exact hn))
theorem nw_ne {lo g : Nat} {v : Value} (h : Nw lo v) (hg : g < lo) : ∀ b o n c, v = .slice (some ⟨b, o, none⟩) n c → b ≠ g := fun b o n c e => by
  have := h b o n c e
  omega
theorem alt_64 (n : Nat) : In64 (alt n) := by
  intro i
  by_cases h : i < n
  · rw [alt_get n i h]
    simp only [Option.getD_some]
    constructor <;> omega
  · have : (alt n)[i]? = none := by rw [List.getElem?_eq_none]; rw [alt_len]; omega
    rw [this]
    constructor <;> decide
/-- The whole row's load, in a drawn region. -/
theorem load_take {P : Program} {W : World} {ev : Operand → Value} {o : Oper} (t : TypeId) (p : Operand) (ho : o.op = .load t p) (b : Nat) (c : Array Value) (n : Nat) (e : TypeId) (hp : ev p = .pointer (some ⟨b, 0, none⟩)) (hb : W.heap[b]? = some (.cells c t (0, 0))) (hu : P.underlying t = some (.array n e)) (hi : (P.info? t).map (·.size) = some c.size) : (execOp ev o).run P W = .ok (.value (.agg c)) W := by
  have hr : (Instr.loadAt t (.pointer (some ⟨b, 0, none⟩))).run P W = .ok (.agg c) W := by
    simp only [Instr.loadAt, Instr.sureAddr, Sem.run_bind, Sem.run_pure, Result.andThen]
    exact run_loadVar_row _ _ t t c (0, 0) _ hb hu rfl hi
  simp only [execOp, ho, hp, Sem.run_bind, hr, Result.andThen_ok, Sem.run_pure]
/-- What holds all through: the boxed row, and what came in. -/
def Fw (w : World) (M : Array Value) (gc gd : Nat) (y : World) : Prop := Below w.heap.size w y ∧ y.heap[w.heap.size]? = some (.cells M 23 (0, 0)) ∧ w.heap.size < gc ∧ gc < gd ∧ gd < y.heap.size
section
variable {w y y' : World} {M : Array Value} {gc gd : Nat}
theorem Fw.ext (h : Fw w M gc gd y) (hb : Below y.heap.size y y') : Fw w M gc gd y' := by
  obtain ⟨h1, h2, h3, h4, h5⟩ := h
  exact ⟨h1.trans (hb.mono h1.size), (hb.block _ (by omega)).trans h2, h3, h4, Nat.lt_of_lt_of_le h5 hb.size⟩
theorem Fw.grown {g : Nat} (h : Fw w M gc gd y) (hb : y.grownBy y' (some g)) (hg : gc ≤ g) : Fw w M gc gd y' := by
  obtain ⟨h1, h2, h3, h4, h5⟩ := h
  exact ⟨h1.grown hb h1.size (fun k e => by cases e; omega), (hb.block _ (by omega) (fun e => by cases e; omega)).trans h2, h3, h4, Nat.lt_of_lt_of_le h5 hb.size⟩
end

set_option maxRecDepth 100000 in
set_option maxHeartbeats 8000000 in
theorem filled_any (w : World) (sv lv : Value) (rep line mt : List Int) (hmt : mt.length = 20) (hT : Tabs w) (hr : Rd .i64 w sv rep) (hrs : Sl sv) (hl : Rd .i64 w lv line) (hls : Sl lv) (h64 : In64 rep) (hl64 : In64 line) (hz : (rep.length + 40) * 8 ≤ 140737488355328) (hzl : (line.length + 40) * 8 ≤ 140737488355328) :
    Calls Tryd.prog 4 #[sv, lv, .agg (mt.map (Value.int .i64)).toArray] w fun e w' => e = .returned (.bool true) ∧ Below w.heap.size w w' := by
  obtain ⟨sa, sc, rfl, _⟩ := id hr
  obtain ⟨la, lc, rfl, _⟩ := id hl
  have HR := hidIt hr
  have HRS := hidIt hrs
  have HL := hidIt hl
  have HLS := hidIt hls
  have H6 := hidIt h64
  have HL6 := hidIt hl64
  have HT := hidIt hT
  have HZ := hidIt hz
  have HZL := hidIt hzl
  have FA : Hid (∀ (w : World) (sv lv : Value) (rep line : List Int) (_ : Tabs w) (_ : Rd .i64 w sv rep) (_ : Rd .i64 w lv line) (_ : In64 rep) (_ : In64 line) (_ : line.length ≤ 17592186044416) (_ : ∀ k o n c, sv = .slice (some ⟨k, o, none⟩) n c → k < w.heap.size) (_ : ∀ k o n c, lv = .slice (some ⟨k, o, none⟩) n c → k < w.heap.size),
    Calls Tryd.prog 7 #[sv, lv, .agg (mt.map (Value.int .i64)).toArray] w fun e w' => FiR w rep line mt e w') := fun w sv lv rep line a b c d e f g h => Fill_any w sv lv rep line mt hmt a b c d e f g h
  have RA : Hid (∀ (w : World) (sv lv : Value) (rep line : List Int) (_ : Rd .i64 w sv rep) (_ : Rd .i64 w lv line) (_ : In64 rep),
    Calls Tryd.prog 8 #[sv, lv, .agg (mt.map (Value.int .i64)).toArray] w fun e w' => FiR w rep line mt e w') := fun w sv lv rep line a b c => rFill_any w sv lv rep line mt hmt a b c
  obtain ⟨M, hM⟩ : ∃ M, M = (mt.map (Value.int .i64)).toArray := ⟨_, rfl⟩
  have HMS : Hid (M.size = 20) := by unfold Hid; rw [hM]; simp [hmt]
  rw [← hM] at FA RA ⊢
  clear hr hrs hl hls h64 hl64 hT hz hzl hM
  unfold FiR at FA RA
  obtain ⟨w1, hw1⟩ : ∃ w1, w1 = w.alloc (.cells M 23) := ⟨_, rfl⟩
  go_enter Tryd.func4, Tryd.ntmps4
  go_upto_region 1 with fail
  rw [← hw1]
  have HB1 : Hid (Below w.heap.size w w1) := by unfold Hid; rw [hw1]; exact ext_alloc (Below.refl _ _) _
  have HZ1 : Hid (w1.heap.size = w.heap.size + 1) := by unfold Hid; rw [hw1]; simp
  have K0 : Hid (w1.heap[w.heap.size]? = some (.cells M 23 (0, 0))) := by unfold Hid; rw [hw1]; exact heap_alloc_new _ _
  clear hw1
  have LE1 := hidIt (lend_any _ rep w1 (HR.out.ext HB1.out) HRS.out HZ.out)
  go_upto_region 2 with (go_at_call 6; refine LE1.out.mono ?_; rintro e w2 ⟨gc, cc, rfl, hl2, hb2⟩; (try dsimp only); have L2 := hidIt hl2; have B2 := hidIt hb2; clear hl2 hb2)
  have HB2 : Hid (Below w.heap.size w w2) := HB1.out.trans (B2.out.mono HB1.out.size)
  have LE2 := hidIt (lend_any _ line w2 (HL.out.ext HB2.out) HLS.out HZL.out)
  go_upto_region 3 with (go_at_call 6; refine LE2.out.mono ?_; rintro e w3 ⟨gd, cd, rfl, hl3, hb3⟩; (try dsimp only); have L3 := hidIt hl3; have B3 := hidIt hb3; clear hl3 hb3)
  have Y3 : Hid (Fw w M gc gd w3) := by
    have h1 := L2.out.2.2.1
    have h2 := L2.out.2.2.2.1
    have h3 := L3.out.2.2.1
    have h4 := L3.out.2.2.2.1
    have h5 := HZ1.out
    have h6 := B2.out.size
    refine ⟨HB2.out.trans (B3.out.mono HB2.out.size), ?_, by omega, by omega, h4⟩
    exact (B3.out.block _ (by omega)).trans ((B2.out.block _ (by omega)).trans K0.out)
  have LC : Hid (LentI w3 w1.heap.size gc cc rep) := L2.out.ext B3.out
  have BD : Hid (Below w3.heap.size w3 w3.drew) := (Below.refl _ _).drew
  have FL1 := hidIt (FA.out w3.drew (.slice (some ⟨gc, 0, none⟩) rep.length cc) (.slice (some ⟨gd, 0, none⟩) line.length cd) rep line (HT.out.ext (Y3.out.ext BD.out).1) (LC.out.ext BD.out).rd (L3.out.ext BD.out).rd H6.out HL6.out (by have := HZL.out; omega) (fun k o n c e => by cases e; exact (LC.out.ext BD.out).2.2.2.1) (fun k o n c e => by cases e; exact (L3.out.ext BD.out).2.2.2.1))
  have RFX : Hid (∀ y, Below w.heap.size w y → Calls Tryd.prog 8 #[.slice sa rep.length sc, .slice la line.length lc, .agg M] y fun e w' => ∃ v, e = .returned (.tuple #[v, .int .i64 (fll rep line mt).2]) ∧ Rd .i64 w' v (fll rep line mt).1 ∧ Below y.heap.size y w' ∧ Nw y.heap.size v) := fun y hb => RA.out y _ _ _ _ (HR.out.ext hb) (HL.out.ext hb) H6.out
  generalize (fll rep line mt).1 = F1 at *
  generalize (fll rep line mt).2 = F2 at *
  have hrc : rep.length ≤ cc := by have := LC.out.1; omega
  have hld : line.length ≤ cd := by have := L3.out.1; omega
  have hcc : cc ≤ 9223372036854775807 := LC.out.2.1
  have hcd : cd ≤ 9223372036854775807 := L3.out.2.1
  clear LE1 LE2 L2 B2 B3 HB1 HB2 HZ1 K0
  refine wp_region_held_drew (S := fun w' => w'.heap[w.heap.size]? = some (.cells M 23 (0, 0))) (by kernel_rfl) (Y3.out.2.1) (fun hHeld => ?_)
  refine wpAnyH_take (i := 0) (oi := _) (v := ?_) rfl (by kernel_rfl) (by kernel_rfl) (by kernel_rfl) (fun _ _ _ h => h) (Or.inl ⟨by rfl, ?_⟩) (by assumption) ?_
  rotate_left 1
  · intro wq hSw; (try dsimp only at hSw); go_simp; try (with_reducible rfl)
  try simp only [Act.put, List.getElem_toArray, List.getElem_cons_zero, List.setIfInBounds_toArray, List.set_cons_zero, List.set_cons_succ]
  refine wpAnyH_take (i := 1) (oi := _) (v := ?_) rfl (by kernel_rfl) (by kernel_rfl) (by kernel_rfl) (fun _ _ _ h => h) (Or.inl ⟨by rfl, ?_⟩) (by assumption) ?_
  rotate_left 1
  · intro wq hSw; (try dsimp only at hSw); go_simp; try (with_reducible rfl)
  try simp only [Act.put, List.getElem_toArray, List.getElem_cons_succ, List.getElem_cons_zero, List.setIfInBounds_toArray, List.set_cons_zero, List.set_cons_succ]
  refine wpAnyH_take (i := 2) (oi := _) (v := ?_) rfl (by kernel_rfl) (by kernel_rfl) (by kernel_rfl) (fun _ _ _ h => h) (Or.inl ⟨by rfl, ?_⟩) (by assumption) ?_
  rotate_left 1
  · intro wq hSw; (try dsimp only at hSw); go_simp; try (with_reducible rfl)
  try simp only [Act.put, List.getElem_toArray, List.getElem_cons_succ, List.getElem_cons_zero, List.setIfInBounds_toArray, List.set_cons_zero, List.set_cons_succ]
  refine wpAnyH_take (i := 3) (oi := _) (v := ?_) rfl (by kernel_rfl) (by kernel_rfl) (by kernel_rfl) (fun _ _ _ h => h) (Or.inl ⟨by rfl, ?_⟩) (by assumption) ?_
  rotate_left 1
  · intro wq hSw; (try dsimp only at hSw); go_simp; try (with_reducible rfl)
  try simp only [Act.put, List.getElem_toArray, List.getElem_cons_succ, List.getElem_cons_zero, List.setIfInBounds_toArray, List.set_cons_zero, List.set_cons_succ]
  refine wpAnyH_take (i := 4) (oi := _) (v := ?_) rfl (by kernel_rfl) (by kernel_rfl) (by kernel_rfl) (fun _ _ _ h => h) (Or.inl ⟨by rfl, ?_⟩) (by assumption) ?_
  rotate_left 1
  · intro wq hSw; (try dsimp only at hSw); go_simp; try (with_reducible rfl)
  try simp only [Act.put, List.getElem_toArray, List.getElem_cons_succ, List.getElem_cons_zero, List.setIfInBounds_toArray, List.set_cons_zero, List.set_cons_succ]
  refine wpAnyH_take (i := 5) (oi := _) (v := ?_) rfl (by kernel_rfl) (by kernel_rfl) (by kernel_rfl) (fun _ _ _ h => h) (Or.inl ⟨by rfl, ?_⟩) (by assumption) ?_
  rotate_left 1
  · intro wq hSw; (try dsimp only at hSw); go_simp; try (with_reducible rfl)
  try simp only [Act.put, List.getElem_toArray, List.getElem_cons_succ, List.getElem_cons_zero, List.setIfInBounds_toArray, List.set_cons_zero, List.set_cons_succ]
  refine wpAnyH_take (i := 6) (oi := _) (v := ?_) rfl (by kernel_rfl) (by kernel_rfl) (by kernel_rfl) (fun _ _ _ h => h) (Or.inl ⟨by rfl, ?_⟩) (by assumption) ?_
  rotate_left 1
  · intro wq hSw; (try dsimp only at hSw); go_simp; try (with_reducible rfl)
  try simp only [Act.put, List.getElem_toArray, List.getElem_cons_succ, List.getElem_cons_zero, List.setIfInBounds_toArray, List.set_cons_zero, List.set_cons_succ]
  refine wpAnyH_take (i := 7) (oi := _) (v := ?_) rfl (by kernel_rfl) (by kernel_rfl) (by kernel_rfl) (fun _ _ _ h => h) (Or.inl ⟨by rfl, ?_⟩) (by assumption) ?_
  rotate_left 1
  · intro wq hSw; (try dsimp only at hSw); go_simp; try (with_reducible rfl)
  try simp only [Act.put, List.getElem_toArray, List.getElem_cons_succ, List.getElem_cons_zero, List.setIfInBounds_toArray, List.set_cons_zero, List.set_cons_succ]
  refine wpAnyH_take (i := 8) (oi := _) (v := .agg M) rfl (by kernel_rfl) (by kernel_rfl) (by kernel_rfl) (fun _ _ _ h => h) (Or.inl ⟨by rfl, ?_⟩) (by assumption) ?_
  · intro wq hSw; exact load_take _ _ rfl _ M 20 3 rfl hSw u20 (by rw [HMS.out]; exact z20)
  try simp only [Act.put, List.getElem_toArray, List.getElem_cons_succ, List.getElem_cons_zero, List.setIfInBounds_toArray, List.set_cons_zero, List.set_cons_succ]
  refine wpAnyH_ready (rs := [9]) (by kernel_rfl) (by simp) ?_
  refine AllReadyH.cons (o := _) rfl (fun K hK => ?_) AllReadyH.nil
  go_simp
  refine FL1.out.mono ?_
  rintro e y4 ⟨l1, rfl, hr1, hb1, hn1⟩
  dsimp only
  have R1 := hidIt hr1
  have B1 := hidIt hb1
  have N1 := hidIt hn1
  clear hr1 hb1 hn1
  refine hK.out _ _ ?_ (fun hHeld => ?_)
  · exact (B1.out.block _ (by have := Y3.out.2.2; simp; omega)).trans Y3.out.2.1
  clear hK K
  try simp only [Act.put, List.getElem_toArray, List.getElem_cons_succ, List.getElem_cons_zero, List.setIfInBounds_toArray, List.set_cons_zero, List.set_cons_succ]
  refine wpAnyH_take (i := 10) (oi := _) (v := ?_) rfl (by kernel_rfl) (by kernel_rfl) (by kernel_rfl) (fun _ _ _ h => h) (Or.inl ⟨by rfl, ?_⟩) (by assumption) ?_
  rotate_left 1
  · intro wq hSw; (try dsimp only at hSw); go_simp; try (with_reducible rfl)
  try simp only [Act.put, List.getElem_toArray, List.getElem_cons_succ, List.getElem_cons_zero, List.setIfInBounds_toArray, List.set_cons_zero, List.set_cons_succ]
  refine wpAnyH_take (i := 11) (oi := _) (v := ?_) rfl (by kernel_rfl) (by kernel_rfl) (by kernel_rfl) (fun _ _ _ h => h) (Or.inl ⟨by rfl, ?_⟩) (by assumption) ?_
  rotate_left 1
  · intro wq hSw; (try dsimp only at hSw); go_simp; try (with_reducible rfl)
  try simp only [Act.put, List.getElem_toArray, List.getElem_cons_succ, List.getElem_cons_zero, List.setIfInBounds_toArray, List.set_cons_zero, List.set_cons_succ]
  refine wpAnyH_take (i := 12) (oi := _) (v := ?_) rfl (by kernel_rfl) (by kernel_rfl) (by kernel_rfl) (fun _ _ _ h => h) (Or.inl ⟨by rfl, ?_⟩) (by assumption) ?_
  rotate_left 1
  · intro wq hSw; (try dsimp only at hSw); go_simp; try (with_reducible rfl)
  try simp only [Act.put, List.getElem_toArray, List.getElem_cons_succ, List.getElem_cons_zero, List.setIfInBounds_toArray, List.set_cons_zero, List.set_cons_succ]
  refine wpAnyH_take (i := 13) (oi := _) (v := ?_) rfl (by kernel_rfl) (by kernel_rfl) (by kernel_rfl) (fun _ _ _ h => h) (Or.inl ⟨by rfl, ?_⟩) (by assumption) ?_
  rotate_left 1
  · intro wq hSw; (try dsimp only at hSw); go_simp; try (with_reducible rfl)
  try simp only [Act.put, List.getElem_toArray, List.getElem_cons_succ, List.getElem_cons_zero, List.setIfInBounds_toArray, List.set_cons_zero, List.set_cons_succ]
  refine wpAnyH_take (i := 14) (oi := _) (v := ?_) rfl (by kernel_rfl) (by kernel_rfl) (by kernel_rfl) (fun _ _ _ h => h) (Or.inl ⟨by rfl, ?_⟩) (by assumption) ?_
  rotate_left 1
  · intro wq hSw; (try dsimp only at hSw); go_simp; try (with_reducible rfl)
  try simp only [Act.put, List.getElem_toArray, List.getElem_cons_succ, List.getElem_cons_zero, List.setIfInBounds_toArray, List.set_cons_zero, List.set_cons_succ]
  refine wpAnyH_done (by kernel_rfl) ?_ _
  have Y4 := hidIt ((Y3.out.ext BD.out).ext B1.out)
  have LC4 := hidIt ((LC.out.ext BD.out).ext B1.out)
  have LD4 := hidIt ((L3.out.ext BD.out).ext B1.out)
  have HGC : Hid (gc < w3.drew.heap.size ∧ gd < w3.drew.heap.size) := by unfold Hid; have := Y3.out.2.2; simp; omega
  have B34 := hidIt B1.out.size
  clear LC L3 Y3 BD B1 FL1
  have RF1 := hidIt (RFX.out y4 Y4.out.1)
  go_upto_region 5 with (first | (refine wpl_load_row _ rfl 23 _ rfl w.heap.size M 20 3 rfl Y4.out.2.1 u20 (by rw [HMS.out]; exact z20) ?_) | (go_at_call 8; refine RF1.out.mono ?_; rintro e y5 ⟨l2, rfl, hr2, hb2, hn2⟩; (try dsimp only); have R2 := hidIt hr2; have B2 := hidIt hb2; have N2 := hidIt hn2; clear hr2 hb2 hn2))
  have Y5 := hidIt (Y4.out.ext B2.out)
  have R15 := hidIt (R1.out.ext B2.out)
  have LC5 := hidIt (LC4.out.ext B2.out)
  have LD5 := hidIt (LD4.out.ext B2.out)
  have KP1 := hidIt (kept_any _ rep gc cc w1.heap.size y5 (HR.out.ext Y5.out.1) LC5.out)
  go_upto_region 6 with (go_at_call 9; refine KP1.out.mono ?_; rintro e y6 ⟨rfl, ha6, hg6⟩; (try dsimp only); have AC6 := hidIt ha6; have G6 := hidIt hg6; clear ha6 hg6)
  have Y6 := hidIt (Y5.out.grown G6.out (Nat.le_refl _))
  have LD6 := hidIt (LD5.out.stay (G6.out.block gd Y5.out.2.2.2.2 (fun e => by have := Y5.out.2.2; cases e; omega)) G6.out.size)
  have KP2 := hidIt (kept_any _ line gd cd w2.heap.size y6 (HL.out.ext Y6.out.1) LD6.out)
  have R16 := hidIt (rd_grown R15.out G6.out (nw_ne N1.out HGC.out.1))
  have R26 := hidIt (rd_grown R2.out G6.out (nw_ne N2.out (by have := HGC.out; have := B34.out; omega)))
  clear KP1 LC4 LD4 RF1 R1 R2 R15 LC5 LD5
  go_upto_region 7 with (go_at_call 9; refine KP2.out.mono ?_; rintro e y7 ⟨rfl, ha7, hg7⟩; (try dsimp only); have AD7 := hidIt ha7; have G7 := hidIt hg7; clear ha7 hg7)
  have Y7 := hidIt (Y6.out.grown G7.out (Nat.le_of_lt Y6.out.2.2.2.1))
  have AC7 := hidIt (AC6.out.stay (G7.out.block gc AC6.out.2.2.1 (fun e => by have := Y6.out.2.2; cases e; omega)) G7.out.size)
  have R17 := hidIt (rd_grown R16.out G7.out (nw_ne N1.out HGC.out.2))
  have R27 := hidIt (rd_grown R26.out G7.out (nw_ne N2.out (by have := HGC.out; have := B34.out; omega)))
  have SM1 := hidIt (sameInts_any l1 l2 F1 y7 R17.out R27.out)
  have hq : ((F2 : Int) != F2) = false := by simp
  have hq2 : ((F2 : Int) == F2) = true := by simp
  clear KP2 R16 R26 G6 G7 LD6 Y4 Y5 Y6 AC6 N1 N2 B2 B34 R17 R27
  go_upto_region 9 with (first | (go_at_call 10; refine (num_any _ _).mono ?_; rintro e y8 ⟨rfl, rfl⟩; (try dsimp only)) | (go_at_call 11; refine SM1.out.mono ?_; rintro e y8 ⟨rfl, hb8⟩; (try dsimp only); have B8 := hidIt hb8; clear hb8))
  have Y8 := hidIt (Y7.out.ext B8.out)
  have AC8 := hidIt (AC7.out.stay (B8.out.block gc AC7.out.2.2.1) B8.out.size)
  have AD8 := hidIt (AD7.out.stay (B8.out.block gd AD7.out.2.2.1) B8.out.size)
  have BD8 : Hid (Below y8.heap.size y8 y8.drew) := (Below.refl _ _).drew
  have FL2 := hidIt (FA.out y8.drew (.slice (some ⟨gc, 0, none⟩) rep.length cc) (.slice (some ⟨gd, 0, none⟩) line.length cd) (alt rep.length) (alt line.length) (HT.out.ext (Y8.out.ext BD8.out).1) ((AC8.out.rd hrc).ext BD8.out) ((AD8.out.rd hld).ext BD8.out) (alt_64 _) (alt_64 _) (by rw [alt_len]; have := HZL.out; omega) (fun k o n c e => by cases e; exact AC8.out.2.2.1) (fun k o n c e => by cases e; exact AD8.out.2.2.1))
  have RF2 : Hid (∀ y u v, Rd .i64 y u (alt rep.length) → Rd .i64 y v (alt line.length) → Calls Tryd.prog 8 #[u, v, .agg M] y fun e w' => ∃ v, e = .returned (.tuple #[v, .int .i64 (fll (alt rep.length) (alt line.length) mt).2]) ∧ Rd .i64 w' v (fll (alt rep.length) (alt line.length) mt).1 ∧ Below y.heap.size y w' ∧ Nw y.heap.size v) := fun y u v h1 h2 => RA.out y u v _ _ h1 h2 (alt_64 _)
  generalize (fll (alt rep.length) (alt line.length) mt).1 = G1 at *
  generalize (fll (alt rep.length) (alt line.length) mt).2 = G2 at *
  have hg1 : ((G2 : Int) == G2) = true := by simp
  have hg2 : decide ((G2 : Int) = G2) = true := by simp
  clear SM1 Y7 AC7 AD7 B8 FA RA HR HL HRS HLS HT H6 HL6 RFX hq hq2
  refine wp_region_held_drew (S := fun w' => w'.heap[w.heap.size]? = some (.cells M 23 (0, 0))) (by kernel_rfl) (Y8.out.2.1) (fun hHeld => ?_)
  refine wpAnyH_take (i := 0) (oi := _) (v := ?_) rfl (by kernel_rfl) (by kernel_rfl) (by kernel_rfl) (fun _ _ _ h => h) (Or.inl ⟨by rfl, ?_⟩) (by assumption) ?_
  rotate_left 1
  · intro wq hSw; (try dsimp only at hSw); go_simp; try (with_reducible rfl)
  try simp only [Act.put, List.getElem_toArray, List.getElem_cons_zero, List.setIfInBounds_toArray, List.set_cons_zero, List.set_cons_succ]
  refine wpAnyH_take (i := 1) (oi := _) (v := ?_) rfl (by kernel_rfl) (by kernel_rfl) (by kernel_rfl) (fun _ _ _ h => h) (Or.inl ⟨by rfl, ?_⟩) (by assumption) ?_
  rotate_left 1
  · intro wq hSw; (try dsimp only at hSw); go_simp; try (with_reducible rfl)
  try simp only [Act.put, List.getElem_toArray, List.getElem_cons_succ, List.getElem_cons_zero, List.setIfInBounds_toArray, List.set_cons_zero, List.set_cons_succ]
  refine wpAnyH_take (i := 2) (oi := _) (v := ?_) rfl (by kernel_rfl) (by kernel_rfl) (by kernel_rfl) (fun _ _ _ h => h) (Or.inl ⟨by rfl, ?_⟩) (by assumption) ?_
  rotate_left 1
  · intro wq hSw; (try dsimp only at hSw); go_simp; try (with_reducible rfl)
  try simp only [Act.put, List.getElem_toArray, List.getElem_cons_succ, List.getElem_cons_zero, List.setIfInBounds_toArray, List.set_cons_zero, List.set_cons_succ]
  refine wpAnyH_take (i := 3) (oi := _) (v := ?_) rfl (by kernel_rfl) (by kernel_rfl) (by kernel_rfl) (fun _ _ _ h => h) (Or.inl ⟨by rfl, ?_⟩) (by assumption) ?_
  rotate_left 1
  · intro wq hSw; (try dsimp only at hSw); go_simp; try (with_reducible rfl)
  try simp only [Act.put, List.getElem_toArray, List.getElem_cons_succ, List.getElem_cons_zero, List.setIfInBounds_toArray, List.set_cons_zero, List.set_cons_succ]
  refine wpAnyH_take (i := 4) (oi := _) (v := ?_) rfl (by kernel_rfl) (by kernel_rfl) (by kernel_rfl) (fun _ _ _ h => h) (Or.inl ⟨by rfl, ?_⟩) (by assumption) ?_
  rotate_left 1
  · intro wq hSw; (try dsimp only at hSw); go_simp; try (with_reducible rfl)
  try simp only [Act.put, List.getElem_toArray, List.getElem_cons_succ, List.getElem_cons_zero, List.setIfInBounds_toArray, List.set_cons_zero, List.set_cons_succ]
  refine wpAnyH_take (i := 5) (oi := _) (v := ?_) rfl (by kernel_rfl) (by kernel_rfl) (by kernel_rfl) (fun _ _ _ h => h) (Or.inl ⟨by rfl, ?_⟩) (by assumption) ?_
  rotate_left 1
  · intro wq hSw; (try dsimp only at hSw); go_simp; try (with_reducible rfl)
  try simp only [Act.put, List.getElem_toArray, List.getElem_cons_succ, List.getElem_cons_zero, List.setIfInBounds_toArray, List.set_cons_zero, List.set_cons_succ]
  refine wpAnyH_take (i := 6) (oi := _) (v := ?_) rfl (by kernel_rfl) (by kernel_rfl) (by kernel_rfl) (fun _ _ _ h => h) (Or.inl ⟨by rfl, ?_⟩) (by assumption) ?_
  rotate_left 1
  · intro wq hSw; (try dsimp only at hSw); go_simp; try (with_reducible rfl)
  try simp only [Act.put, List.getElem_toArray, List.getElem_cons_succ, List.getElem_cons_zero, List.setIfInBounds_toArray, List.set_cons_zero, List.set_cons_succ]
  refine wpAnyH_take (i := 7) (oi := _) (v := ?_) rfl (by kernel_rfl) (by kernel_rfl) (by kernel_rfl) (fun _ _ _ h => h) (Or.inl ⟨by rfl, ?_⟩) (by assumption) ?_
  rotate_left 1
  · intro wq hSw; (try dsimp only at hSw); go_simp; try (with_reducible rfl)
  try simp only [Act.put, List.getElem_toArray, List.getElem_cons_succ, List.getElem_cons_zero, List.setIfInBounds_toArray, List.set_cons_zero, List.set_cons_succ]
  refine wpAnyH_take (i := 8) (oi := _) (v := .agg M) rfl (by kernel_rfl) (by kernel_rfl) (by kernel_rfl) (fun _ _ _ h => h) (Or.inl ⟨by rfl, ?_⟩) (by assumption) ?_
  · intro wq hSw; exact load_take _ _ rfl _ M 20 3 rfl hSw u20 (by rw [HMS.out]; exact z20)
  try simp only [Act.put, List.getElem_toArray, List.getElem_cons_succ, List.getElem_cons_zero, List.setIfInBounds_toArray, List.set_cons_zero, List.set_cons_succ]
  refine wpAnyH_ready (rs := [9]) (by kernel_rfl) (by simp) ?_
  refine AllReadyH.cons (o := _) rfl (fun K hK => ?_) AllReadyH.nil
  go_simp
  refine FL2.out.mono ?_
  rintro e y9 ⟨l3, rfl, hr3, hb3, hn3⟩
  dsimp only
  have R9 := hidIt hr3
  have B9 := hidIt hb3
  clear hr3 hb3 hn3
  refine hK.out _ _ ?_ (fun hHeld => ?_)
  · exact (B9.out.block _ (by have := Y8.out.2.2; simp; omega)).trans Y8.out.2.1
  clear hK K
  try simp only [Act.put, List.getElem_toArray, List.getElem_cons_succ, List.getElem_cons_zero, List.setIfInBounds_toArray, List.set_cons_zero, List.set_cons_succ]
  refine wpAnyH_take (i := 10) (oi := _) (v := ?_) rfl (by kernel_rfl) (by kernel_rfl) (by kernel_rfl) (fun _ _ _ h => h) (Or.inl ⟨by rfl, ?_⟩) (by assumption) ?_
  rotate_left 1
  · intro wq hSw; (try dsimp only at hSw); go_simp; try (with_reducible rfl)
  try simp only [Act.put, List.getElem_toArray, List.getElem_cons_succ, List.getElem_cons_zero, List.setIfInBounds_toArray, List.set_cons_zero, List.set_cons_succ]
  refine wpAnyH_take (i := 11) (oi := _) (v := ?_) rfl (by kernel_rfl) (by kernel_rfl) (by kernel_rfl) (fun _ _ _ h => h) (Or.inl ⟨by rfl, ?_⟩) (by assumption) ?_
  rotate_left 1
  · intro wq hSw; (try dsimp only at hSw); go_simp; try (with_reducible rfl)
  try simp only [Act.put, List.getElem_toArray, List.getElem_cons_succ, List.getElem_cons_zero, List.setIfInBounds_toArray, List.set_cons_zero, List.set_cons_succ]
  refine wpAnyH_take (i := 12) (oi := _) (v := ?_) rfl (by kernel_rfl) (by kernel_rfl) (by kernel_rfl) (fun _ _ _ h => h) (Or.inl ⟨by rfl, ?_⟩) (by assumption) ?_
  rotate_left 1
  · intro wq hSw; (try dsimp only at hSw); go_simp; try (with_reducible rfl)
  try simp only [Act.put, List.getElem_toArray, List.getElem_cons_succ, List.getElem_cons_zero, List.setIfInBounds_toArray, List.set_cons_zero, List.set_cons_succ]
  refine wpAnyH_take (i := 13) (oi := _) (v := ?_) rfl (by kernel_rfl) (by kernel_rfl) (by kernel_rfl) (fun _ _ _ h => h) (Or.inl ⟨by rfl, ?_⟩) (by assumption) ?_
  rotate_left 1
  · intro wq hSw; (try dsimp only at hSw); go_simp; try (with_reducible rfl)
  try simp only [Act.put, List.getElem_toArray, List.getElem_cons_succ, List.getElem_cons_zero, List.setIfInBounds_toArray, List.set_cons_zero, List.set_cons_succ]
  refine wpAnyH_take (i := 14) (oi := _) (v := ?_) rfl (by kernel_rfl) (by kernel_rfl) (by kernel_rfl) (fun _ _ _ h => h) (Or.inl ⟨by rfl, ?_⟩) (by assumption) ?_
  rotate_left 1
  · intro wq hSw; (try dsimp only at hSw); go_simp; try (with_reducible rfl)
  try simp only [Act.put, List.getElem_toArray, List.getElem_cons_succ, List.getElem_cons_zero, List.setIfInBounds_toArray, List.set_cons_zero, List.set_cons_succ]
  refine wpAnyH_done (by kernel_rfl) ?_ _
  have YB := hidIt ((Y8.out.ext BD8.out).ext B9.out)
  have AC9 := hidIt (AC8.out.stay (((BD8.out.trans (B9.out.mono BD8.out.size)).block gc (by have := Y8.out.2.2; omega))) (BD8.out.trans (B9.out.mono BD8.out.size)).size)
  have AD9 := hidIt (AD8.out.stay (((BD8.out.trans (B9.out.mono BD8.out.size)).block gd (by have := Y8.out.2.2; omega))) (BD8.out.trans (B9.out.mono BD8.out.size)).size)
  have BD9 : Hid (Below y9.heap.size y9 y9.drew) := (Below.refl _ _).drew
  have KEEP : Hid (∀ y, Below y9.heap.size y9 y → y.heap[w.heap.size]? = some (.cells M 23 (0, 0))) := fun y hb => (YB.out.ext hb).2.1
  have COC : Hid (∀ y, Below y9.heap.size y9 y → Calls Tryd.prog 12 #[.slice (some ⟨gc, 0, none⟩) rep.length cc] y fun e y' => ∃ v', e = .returned v' ∧ Rd .i64 y' v' (alt rep.length) ∧ Below y.heap.size y y') := fun y hb => by
    refine (copied_any _ (alt rep.length) y ((AC9.out.rd hrc).ext hb) (.inr ⟨_, _, _, rfl⟩) (by rw [alt_len]; have := HZ.out; omega)).mono ?_
    rintro e y' ⟨v', rfl, ho, hb'⟩
    exact ⟨v', rfl, rd_own ho, hb'⟩
  have COD : Hid (∀ y, Below y9.heap.size y9 y → Calls Tryd.prog 12 #[.slice (some ⟨gd, 0, none⟩) line.length cd] y fun e y' => ∃ v', e = .returned v' ∧ Rd .i64 y' v' (alt line.length) ∧ Below y.heap.size y y') := fun y hb => by
    refine (copied_any _ (alt line.length) y ((AD9.out.rd hld).ext hb) (.inr ⟨_, _, _, rfl⟩) (by rw [alt_len]; have := HZL.out; omega)).mono ?_
    rintro e y' ⟨v', rfl, ho, hb'⟩
    exact ⟨v', rfl, rd_own ho, hb'⟩
  clear AC8 AD8 Y8 BD8 AC9 AD9 B9
  go_upto_region 10 with fail
  refine wp_region_held_drew (S := fun w' => w'.heap[w.heap.size]? = some (.cells M 23 (0, 0))) (by kernel_rfl) (KEEP.out _ BD9.out) (fun hHeld => ?_)
  refine wpAnyH_take (i := 0) (oi := _) (v := ?_) rfl (by kernel_rfl) (by kernel_rfl) (by kernel_rfl) (fun _ _ _ h => h) (Or.inl ⟨by rfl, ?_⟩) (by assumption) ?_
  rotate_left 1
  · intro wq hSw; (try dsimp only at hSw); go_simp; try (with_reducible rfl)
  try simp only [Act.put, List.getElem_toArray, List.getElem_cons_zero, List.setIfInBounds_toArray, List.set_cons_zero, List.set_cons_succ]
  refine wpAnyH_take (i := 1) (oi := _) (v := ?_) rfl (by kernel_rfl) (by kernel_rfl) (by kernel_rfl) (fun _ _ _ h => h) (Or.inl ⟨by rfl, ?_⟩) (by assumption) ?_
  rotate_left 1
  · intro wq hSw; (try dsimp only at hSw); go_simp; try (with_reducible rfl)
  try simp only [Act.put, List.getElem_toArray, List.getElem_cons_succ, List.getElem_cons_zero, List.setIfInBounds_toArray, List.set_cons_zero, List.set_cons_succ]
  refine wpAnyH_take (i := 2) (oi := _) (v := ?_) rfl (by kernel_rfl) (by kernel_rfl) (by kernel_rfl) (fun _ _ _ h => h) (Or.inl ⟨by rfl, ?_⟩) (by assumption) ?_
  rotate_left 1
  · intro wq hSw; (try dsimp only at hSw); go_simp; try (with_reducible rfl)
  try simp only [Act.put, List.getElem_toArray, List.getElem_cons_succ, List.getElem_cons_zero, List.setIfInBounds_toArray, List.set_cons_zero, List.set_cons_succ]
  refine wpAnyH_take (i := 3) (oi := _) (v := ?_) rfl (by kernel_rfl) (by kernel_rfl) (by kernel_rfl) (fun _ _ _ h => h) (Or.inl ⟨by rfl, ?_⟩) (by assumption) ?_
  rotate_left 1
  · intro wq hSw; (try dsimp only at hSw); go_simp; try (with_reducible rfl)
  try simp only [Act.put, List.getElem_toArray, List.getElem_cons_succ, List.getElem_cons_zero, List.setIfInBounds_toArray, List.set_cons_zero, List.set_cons_succ]
  refine wpAnyH_take (i := 5) (oi := _) (v := ?_) rfl (by kernel_rfl) (by kernel_rfl) (by kernel_rfl) (fun _ _ _ h => h) (Or.inl ⟨by rfl, ?_⟩) (by assumption) ?_
  rotate_left 1
  · intro wq hSw; (try dsimp only at hSw); go_simp; try (with_reducible rfl)
  try simp only [Act.put, List.getElem_toArray, List.getElem_cons_succ, List.getElem_cons_zero, List.setIfInBounds_toArray, List.set_cons_zero, List.set_cons_succ]
  refine wpAnyH_take (i := 6) (oi := _) (v := ?_) rfl (by kernel_rfl) (by kernel_rfl) (by kernel_rfl) (fun _ _ _ h => h) (Or.inl ⟨by rfl, ?_⟩) (by assumption) ?_
  rotate_left 1
  · intro wq hSw; (try dsimp only at hSw); go_simp; try (with_reducible rfl)
  try simp only [Act.put, List.getElem_toArray, List.getElem_cons_succ, List.getElem_cons_zero, List.setIfInBounds_toArray, List.set_cons_zero, List.set_cons_succ]
  refine wpAnyH_take (i := 7) (oi := _) (v := ?_) rfl (by kernel_rfl) (by kernel_rfl) (by kernel_rfl) (fun _ _ _ h => h) (Or.inl ⟨by rfl, ?_⟩) (by assumption) ?_
  rotate_left 1
  · intro wq hSw; (try dsimp only at hSw); go_simp; try (with_reducible rfl)
  try simp only [Act.put, List.getElem_toArray, List.getElem_cons_succ, List.getElem_cons_zero, List.setIfInBounds_toArray, List.set_cons_zero, List.set_cons_succ]
  refine wpAnyH_take (i := 8) (oi := _) (v := ?_) rfl (by kernel_rfl) (by kernel_rfl) (by kernel_rfl) (fun _ _ _ h => h) (Or.inl ⟨by rfl, ?_⟩) (by assumption) ?_
  rotate_left 1
  · intro wq hSw; (try dsimp only at hSw); go_simp; try (with_reducible rfl)
  try simp only [Act.put, List.getElem_toArray, List.getElem_cons_succ, List.getElem_cons_zero, List.setIfInBounds_toArray, List.set_cons_zero, List.set_cons_succ]
  refine wpAnyH_take (i := 10) (oi := _) (v := .agg M) rfl (by kernel_rfl) (by kernel_rfl) (by kernel_rfl) (fun _ _ _ h => h) (Or.inl ⟨by rfl, ?_⟩) (by assumption) ?_
  · intro wq hSw; exact load_take _ _ rfl _ M 20 3 rfl hSw u20 (by rw [HMS.out]; exact z20)
  try simp only [Act.put, List.getElem_toArray, List.getElem_cons_succ, List.getElem_cons_zero, List.setIfInBounds_toArray, List.set_cons_zero, List.set_cons_succ]
  refine wpAnyH_ready (rs := [4]) (by kernel_rfl) (by simp) ?_
  refine AllReadyH.cons (o := _) rfl (fun K hK => ?_) AllReadyH.nil
  go_simp
  refine (COC.out _ BD9.out).mono ?_
  rintro e p1 ⟨cv, rfl, hrcv, hbcv⟩
  dsimp only
  have RC := hidIt hrcv
  have PB_p1 := hidIt ((BD9.out).trans (hbcv.mono (BD9.out).size))
  have BB_p1 := hidIt hbcv
  clear hrcv hbcv
  refine hK.out _ _ ?_ (fun hHeld => ?_)
  · exact KEEP.out _ PB_p1.out
  clear hK K
  try simp only [Act.put, List.getElem_toArray, List.getElem_cons_succ, List.getElem_cons_zero, List.setIfInBounds_toArray, List.set_cons_zero, List.set_cons_succ]
  refine wpAnyH_ready (rs := [9]) (by kernel_rfl) (by simp) ?_
  refine AllReadyH.cons (o := _) rfl (fun K hK => ?_) AllReadyH.nil
  go_simp
  refine (COD.out _ PB_p1.out).mono ?_
  rintro e p2 ⟨dv, rfl, hrdv, hbdv⟩
  dsimp only
  have RDD := hidIt hrdv
  have PB_p2 := hidIt ((PB_p1.out).trans (hbdv.mono (PB_p1.out).size))
  have BB_p2 := hidIt hbdv
  clear hrdv hbdv
  have PB := hidIt PB_p2.out
  refine hK.out _ _ ?_ (fun hHeld => ?_)
  · exact KEEP.out _ PB_p2.out
  clear hK K
  try simp only [Act.put, List.getElem_toArray, List.getElem_cons_succ, List.getElem_cons_zero, List.setIfInBounds_toArray, List.set_cons_zero, List.set_cons_succ]
  refine wpAnyH_ready (rs := [11]) (by kernel_rfl) (by simp) ?_
  refine AllReadyH.cons (o := _) rfl (fun K hK => ?_) AllReadyH.nil
  go_simp
  refine (RF2.out p2 _ _ (RC.out.ext BB_p2.out) RDD.out).mono ?_
  rintro e y10 ⟨l4, rfl, hr4, hb4, hn4⟩
  dsimp only
  have R4 := hidIt hr4
  have B10' := hidIt hb4
  clear hr4 hb4 hn4
  refine hK.out _ _ ?_ (fun hHeld => ?_)
  · exact KEEP.out _ (PB.out.trans (B10'.out.mono PB.out.size))
  clear hK K
  try simp only [Act.put, List.getElem_toArray, List.getElem_cons_succ, List.getElem_cons_zero, List.setIfInBounds_toArray, List.set_cons_zero, List.set_cons_succ]
  refine wpAnyH_take (i := 12) (oi := _) (v := ?_) rfl (by kernel_rfl) (by kernel_rfl) (by kernel_rfl) (fun _ _ _ h => h) (Or.inl ⟨by rfl, ?_⟩) (by assumption) ?_
  rotate_left 1
  · intro wq hSw; (try dsimp only at hSw); go_simp; try (with_reducible rfl)
  try simp only [Act.put, List.getElem_toArray, List.getElem_cons_succ, List.getElem_cons_zero, List.setIfInBounds_toArray, List.set_cons_zero, List.set_cons_succ]
  refine wpAnyH_take (i := 13) (oi := _) (v := ?_) rfl (by kernel_rfl) (by kernel_rfl) (by kernel_rfl) (fun _ _ _ h => h) (Or.inl ⟨by rfl, ?_⟩) (by assumption) ?_
  rotate_left 1
  · intro wq hSw; (try dsimp only at hSw); go_simp; try (with_reducible rfl)
  try simp only [Act.put, List.getElem_toArray, List.getElem_cons_succ, List.getElem_cons_zero, List.setIfInBounds_toArray, List.set_cons_zero, List.set_cons_succ]
  refine wpAnyH_take (i := 14) (oi := _) (v := ?_) rfl (by kernel_rfl) (by kernel_rfl) (by kernel_rfl) (fun _ _ _ h => h) (Or.inl ⟨by rfl, ?_⟩) (by assumption) ?_
  rotate_left 1
  · intro wq hSw; (try dsimp only at hSw); go_simp; try (with_reducible rfl)
  try simp only [Act.put, List.getElem_toArray, List.getElem_cons_succ, List.getElem_cons_zero, List.setIfInBounds_toArray, List.set_cons_zero, List.set_cons_succ]
  refine wpAnyH_take (i := 15) (oi := _) (v := ?_) rfl (by kernel_rfl) (by kernel_rfl) (by kernel_rfl) (fun _ _ _ h => h) (Or.inl ⟨by rfl, ?_⟩) (by assumption) ?_
  rotate_left 1
  · intro wq hSw; (try dsimp only at hSw); go_simp; try (with_reducible rfl)
  try simp only [Act.put, List.getElem_toArray, List.getElem_cons_succ, List.getElem_cons_zero, List.setIfInBounds_toArray, List.set_cons_zero, List.set_cons_succ]
  refine wpAnyH_take (i := 16) (oi := _) (v := ?_) rfl (by kernel_rfl) (by kernel_rfl) (by kernel_rfl) (fun _ _ _ h => h) (Or.inl ⟨by rfl, ?_⟩) (by assumption) ?_
  rotate_left 1
  · intro wq hSw; (try dsimp only at hSw); go_simp; try (with_reducible rfl)
  try simp only [Act.put, List.getElem_toArray, List.getElem_cons_succ, List.getElem_cons_zero, List.setIfInBounds_toArray, List.set_cons_zero, List.set_cons_succ]
  refine wpAnyH_done (by kernel_rfl) ?_ _
  have Z10 := hidIt (YB.out.ext PB.out)
  have B10 := hidIt (Z10.out.1.trans (B10'.out.mono Z10.out.1.size))
  have R10 := hidIt (R9.out.ext (PB.out.trans (B10'.out.mono PB.out.size)))
  have SM2 := hidIt (sameInts_any l3 l4 G1 y10 R10.out R4.out)
  go_wp2_with (first | (go_at_call 10; refine (num_any _ _).mono ?_; rintro e y11 ⟨rfl, rfl⟩; (try dsimp only)) | (go_at_call 11; refine SM2.out.mono ?_; rintro e y11 ⟨rfl, hb11⟩; (try dsimp only); have B11 := hidIt hb11; clear hb11))
  go_ret
  exact ⟨rfl, B10.out.trans (B11.out.mono B10.out.size)⟩
end Go.Proofs.YtipnifenahhkoaaDoor
