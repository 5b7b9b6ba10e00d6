/- The law PatternFill. -/
import Derived.Test.YtipnifenahhkoaaDoorFPat
namespace Go.Proofs.YtipnifenahhkoaaDoor
open Go.RowKit

def mt12 : List Int := [1, 2, 0, 0, 0, 0, 0, 0, 0, 0, 0, 0, 0, 0, 0, 0, 0, 0, 0, 0]
theorem wpl_run {P : Program} {ops : Array Oper} {rest : List Oper} {o : Oper} {a : Act} {w : World} {Q : Exit → Act → World → Prop} (hg : o.guard = none) (dst : Option Tmp) (hdst : o.dst = dst)
    (v : Value) (w' : World) (hrun : (execOp a.eval o).run P w = .ok (.value v) w') (h : wpList P ops Q rest (a.put dst v) w') : wpList P ops Q (o :: rest) a w := by
  subst hdst
  refine wpList_plain hg fun K hK => ?_
  unfold Oper.wp
  rw [hrun, Oper.upon_value]
  exact hK _ _ h
def zro : List Int := [0, 0, 0, 0, 0, 0, 0, 0, 0, 0, 0, 0, 0, 0, 0, 0, 0, 0, 0, 0]
theorem built12 : Tryd.prog.built 23 [(0, .int .i64 1), (1, .int .i64 2)] = some (mt12.map (Value.int .i64)).toArray := by kernel_rfl
theorem build_run (ev : Operand → Value) (o : Oper) (W : World) (ho : o.op = .build 23 #[(0, .const (.int .i64 1)), (1, .const (.int .i64 2))]) (h1 : ev (.const (.int .i64 1)) = .int .i64 1) (h2 : ev (.const (.int .i64 2)) = .int .i64 2) : (execOp ev o).run Tryd.prog W = .ok (.value (.agg (mt12.map (Value.int .i64)).toArray)) W := by
  have hb := run_build (P := Tryd.prog) W 23 #[(0, .int .i64 1), (1, .int .i64 2)] _ built12
  unfold execOp
  simp only [ho, List.map_toArray, List.map_cons, List.map_nil, h1, h2, Sem.run_bind, hb, Result.andThen_ok, Sem.run_pure]
theorem alloc_run (ev : Operand → Value) (o : Oper) (W : World) (ho : o.op = .alloc 23) : (execOp ev o).run Tryd.prog W = .ok (.value (.pointer (some ⟨W.heap.size, 0, none⟩))) (W.alloc (.cells (zro.map (Value.int .i64)).toArray 23)) := by
  unfold execOp
  rw [ho]
  kernel_rfl
theorem in64_all {l : List Int} (h : ∀ a ∈ l, -9223372036854775808 ≤ a ∧ a ≤ 9223372036854775807) : In64 l := by
  intro i
  by_cases hi : i < l.length
  · rw [List.getElem?_eq_getElem hi]
    have := h _ (List.getElem_mem hi)
    simp only [Option.getD_some]
    constructor <;> omega
  · rw [List.getElem?_eq_none (by omega)]
    simp only [Option.getD_none]
    constructor <;> omega
theorem in64_a : In64 [97, 38] := in64_all (by simp)
theorem in64_x : In64 [120, 121, 122] := in64_all (by simp)
set_option maxRecDepth 100000 in
set_option maxHeartbeats 8000000 in
theorem patFill_any (w : World) (sv lv : Value) (rep line mt : List Int) (hmt : mt.length = 20) (hT : Tabs w) (hr : Rd .i64 w sv rep) (hrs : Sl sv) (hl : Rd .i64 w lv line) (hls : Sl lv) (h64 : In64 rep) (hl64 : In64 line) (hz : (rep.length + 40) * 8 ≤ 140737488355328) (hzl : (line.length + 40) * 8 ≤ 140737488355328) :
    Calls Tryd.prog 3 #[sv, lv, .agg (mt.map (Value.int .i64)).toArray] w fun e w' => e = .returned (.bool true) ∧ Below w.heap.size w w' := by
  have FL2 : Hid (∀ y, Below w.heap.size w y → Calls Tryd.prog 4 #[sv, lv, .agg (mt.map (Value.int .i64)).toArray] y fun e w' => e = .returned (.bool true) ∧ Below y.heap.size y w') := fun y hb => filled_any y sv lv rep line mt hmt (hT.ext hb) (hr.ext hb) hrs (hl.ext hb) hls h64 hl64 hz hzl
  have FL1 : Hid (∀ y u v, Below w.heap.size w y → Rd .i64 y u [97, 38] → Sl u → Rd .i64 y v [120, 121, 122] → Sl v → Calls Tryd.prog 4 #[u, v, .agg (mt12.map (Value.int .i64)).toArray] y fun e w' => e = .returned (.bool true) ∧ Below y.heap.size y w') := fun y u v hb h1 h2 h3 h4 => filled_any y u v [97, 38] [120, 121, 122] mt12 rfl (hT.ext hb) h1 h2 h3 h4 in64_a in64_x (by simp only [List.length_cons, List.length_nil]; omega) (by simp only [List.length_cons, List.length_nil]; omega)
  obtain ⟨M, hM⟩ : ∃ M, M = (mt.map (Value.int .i64)).toArray := ⟨_, rfl⟩
  have HM : Hid (M.size = 20) := by unfold Hid; rw [hM]; simp [hmt]
  rw [← hM] at FL2 ⊢
  obtain ⟨N, hN⟩ : ∃ N, N = (mt12.map (Value.int .i64)).toArray := ⟨_, rfl⟩
  have HN : Hid (N.size = 20) := by unfold Hid; rw [hN]; simp [mt12]
  have HN1 : Hid (N.all (·.oneCell') = true) := by unfold Hid; rw [hN]; simp [mt12, Value.oneCell']
  rw [← hN] at FL1
  have BRUN : Hid (∀ (ev : Operand → Value) (o : Oper) (W : World) (_ : o.op = .build 23 #[(0, .const (.int .i64 1)), (1, .const (.int .i64 2))]) (_ : ev (.const (.int .i64 1)) = .int .i64 1) (_ : ev (.const (.int .i64 2)) = .int .i64 2), (execOp ev o).run Tryd.prog W = .ok (.value (.agg N)) W) := fun ev o W h1 h2 h3 => by rw [hN]; exact build_run ev o W h1 h2 h3
  obtain ⟨Zr, hZ⟩ : ∃ Zr, Zr = (zro.map (Value.int .i64)).toArray := ⟨_, rfl⟩
  have HZR : Hid (Zr.size = N.size) := by unfold Hid; rw [HN.out, hZ]; simp [zro]
  have ARUN : Hid (∀ (ev : Operand → Value) (o : Oper) (W : World) (_ : o.op = .alloc 23), (execOp ev o).run Tryd.prog W = .ok (.value (.pointer (some ⟨W.heap.size, 0, none⟩))) (W.alloc (.cells Zr 23))) := fun ev o W h1 => by rw [hZ]; exact alloc_run ev o W h1
  clear hZ
  obtain ⟨sa, sc, rfl, _⟩ := id hr
  obtain ⟨la, lc, rfl, _⟩ := id hl
  clear hr hrs hl hls h64 hl64 hT hz hzl hM hN
  obtain ⟨w1, hw1⟩ : ∃ w1, w1 = w.alloc (.cells M 23) := ⟨_, rfl⟩
  go_enter Tryd.func3, Tryd.ntmps3
  go_upto_region 1 with fail
  rw [← hw1]
  have HB1 : Hid (Below w.heap.size w w1) := by unfold Hid; rw [hw1]; exact ext_alloc (Below.refl _ _) _
  have HZ1 : Hid (w1.heap.size = w.heap.size + 1) := by unfold Hid; rw [hw1]; simp
  have K0 : Hid (w1.heap[w.heap.size]? = some (.cells M 23 (0, 0))) := by unfold Hid; rw [hw1]; exact heap_alloc_new _ _
  clear hw1
  refine wp_region_lit ?_
  refine wpl_run rfl _ rfl (.agg N) w1 (BRUN.out _ _ w1 rfl rfl rfl) ?_
  refine wpl_run rfl _ rfl (.pointer (some ⟨w1.heap.size, 0, none⟩)) (w1.alloc (.cells Zr 23)) (ARUN.out _ _ w1 rfl) ?_
  refine wpl_store_new w1 rfl 23 _ _ rfl Zr N rfl rfl (by rw [HN.out]; exact z20) HZR.out HN1.out ?_
  refine wpList_nil ?_
  go_upto_region 2 with fail
  obtain ⟨w2, hw2⟩ : ∃ w2, w2 = w1.alloc (.cells N 23) := ⟨_, rfl⟩
  rw [← hw2]
  have HB2 : Hid (Below w1.heap.size w1 w2) := by unfold Hid; rw [hw2]; exact ext_alloc (Below.refl _ _) _
  have K1 : Hid (w2.heap[w.heap.size + 1]? = some (.cells N 23 (0, 0))) := by unfold Hid; rw [hw2, ← HZ1.out]; exact heap_alloc_new _ _
  have K2 : Hid (w2.heap[w.heap.size]? = some (.cells M 23 (0, 0))) := (HB2.out.block _ (by rw [HZ1.out]; omega)).trans K0.out
  have HZ2 : Hid (w2.heap.size = w.heap.size + 2) := by unfold Hid; rw [hw2]; have := HZ1.out; simp; omega
  clear hw2
  have WB : Hid (∀ y, Below w2.heap.size w2 y → Below w.heap.size w y) := fun y hb => (HB1.out.trans (HB2.out.mono HB1.out.size)).trans (hb.mono (by rw [HZ2.out]; omega))
  have KEEP : Hid (∀ y, Below w2.heap.size w2 y → y.heap[w.heap.size]? = some (.cells M 23 (0, 0)) ∧ y.heap[w.heap.size + 1]? = some (.cells N 23 (0, 0))) := fun y hb => ⟨(hb.block _ (by rw [HZ2.out]; omega)).trans K2.out, (hb.block _ (by rw [HZ2.out]; omega)).trans K1.out⟩
  have BD : Hid (Below w2.heap.size w2 w2.drew) := (Below.refl _ _).drew
  have hw1s := HZ1.out
  rw [hw1s]
  clear HB1 HB2 K0 K1 K2 hw1s HN1 BRUN ARUN HZR
  refine wp_region_held_drew (S := fun w' => w'.heap[w.heap.size]? = some (.cells M 23 (0, 0)) ∧ w'.heap[w.heap.size + 1]? = some (.cells N 23 (0, 0))) (by kernel_rfl) (KEEP.out _ BD.out) (fun hHeld => ?_)
  refine wpAnyH_take (i := 2) (oi := _) (v := .agg N) rfl (by kernel_rfl) (by kernel_rfl) (by kernel_rfl) (fun _ _ _ h => h) (Or.inl ⟨by rfl, ?_⟩) (by assumption) ?_
  · intro wq hSw; exact load_take _ _ rfl _ N 20 3 rfl hSw.2 u20 (by rw [HN.out]; exact z20)
  try simp only [Act.put, List.getElem_toArray, List.getElem_cons_succ, List.getElem_cons_zero, List.setIfInBounds_toArray, List.set_cons_zero, List.set_cons_succ]
  refine wpAnyH_ready (rs := [0]) (by kernel_rfl) (by simp) ?_
  refine AllReadyH.cons (o := _) rfl (fun K hK => ?_) AllReadyH.nil
  go_simp
  refine (letters_a _).mono ?_
  rintro e y1 ⟨v1, rfl, ho1, hb1⟩
  dsimp only
  have O1 := hidIt ho1
  have B1 := hidIt (BD.out.trans (hb1.mono BD.out.size))
  clear ho1 hb1
  refine hK.out _ _ ?_ (fun hHeld => ?_)
  · exact KEEP.out _ B1.out
  clear hK K
  try simp only [Act.put, List.getElem_toArray, List.getElem_cons_succ, List.getElem_cons_zero, List.setIfInBounds_toArray, List.set_cons_zero, List.set_cons_succ]
  refine wpAnyH_ready (rs := [1]) (by kernel_rfl) (by simp) ?_
  refine AllReadyH.cons (o := _) rfl (fun K hK => ?_) AllReadyH.nil
  go_simp
  refine (letters_x _).mono ?_
  rintro e y2 ⟨v2, rfl, ho2, hb2⟩
  dsimp only
  have O2 := hidIt ho2
  have BB2 := hidIt hb2
  have B2 := hidIt (B1.out.trans (hb2.mono B1.out.size))
  clear ho2 hb2
  refine hK.out _ _ ?_ (fun hHeld => ?_)
  · exact KEEP.out _ B2.out
  clear hK K
  try simp only [Act.put, List.getElem_toArray, List.getElem_cons_succ, List.getElem_cons_zero, List.setIfInBounds_toArray, List.set_cons_zero, List.set_cons_succ]
  refine wpAnyH_ready (rs := [3]) (by kernel_rfl) (by simp) ?_
  refine AllReadyH.cons (o := _) rfl (fun K hK => ?_) AllReadyH.nil
  go_simp
  refine (FL1.out y2 v1 v2 (WB.out y2 B2.out) ((rd_own (zs := [97, 38]) O1.out).ext BB2.out) (Sl.of_own O1.out) (rd_own (zs := [120, 121, 122]) O2.out) (Sl.of_own O2.out)).mono ?_
  rintro e y3 ⟨rfl, hb3⟩
  dsimp only
  have B3 := hidIt (B2.out.trans (hb3.mono B2.out.size))
  clear hb3
  refine hK.out _ _ ?_ (fun hHeld => ?_)
  · exact KEEP.out _ B3.out
  clear hK K
  try simp only [Act.put, List.getElem_toArray, List.getElem_cons_succ, List.getElem_cons_zero, List.setIfInBounds_toArray, List.set_cons_zero, List.set_cons_succ]
  refine wpAnyH_take (i := 4) (oi := _) (v := ?_) rfl (by kernel_rfl) (by kernel_rfl) (by kernel_rfl) (fun _ _ _ h => h) (Or.inl ⟨by rfl, ?_⟩) (by assumption) ?_
  rotate_left 1
  · intro wq hSw; (try dsimp only at hSw); go_simp; try (with_reducible rfl)
  try simp only [Act.put, List.getElem_toArray, List.getElem_cons_succ, List.getElem_cons_zero, List.setIfInBounds_toArray, List.set_cons_zero, List.set_cons_succ]
  refine wpAnyH_take (i := 5) (oi := _) (v := ?_) rfl (by kernel_rfl) (by kernel_rfl) (by kernel_rfl) (fun _ _ _ h => h) (Or.inl ⟨by rfl, ?_⟩) (by assumption) ?_
  rotate_left 1
  · intro wq hSw; (try dsimp only at hSw); go_simp; try (with_reducible rfl)
  try simp only [Act.put, List.getElem_toArray, List.getElem_cons_succ, List.getElem_cons_zero, List.setIfInBounds_toArray, List.set_cons_zero, List.set_cons_succ]
  refine wpAnyH_take (i := 6) (oi := _) (v := ?_) rfl (by kernel_rfl) (by kernel_rfl) (by kernel_rfl) (fun _ _ _ h => h) (Or.inl ⟨by rfl, ?_⟩) (by assumption) ?_
  rotate_left 1
  · intro wq hSw; (try dsimp only at hSw); go_simp; try (with_reducible rfl)
  try simp only [Act.put, List.getElem_toArray, List.getElem_cons_succ, List.getElem_cons_zero, List.setIfInBounds_toArray, List.set_cons_zero, List.set_cons_succ]
  refine wpAnyH_take (i := 7) (oi := _) (v := .agg M) rfl (by kernel_rfl) (by kernel_rfl) (by kernel_rfl) (fun _ _ _ h => h) (Or.inl ⟨by rfl, ?_⟩) (by assumption) ?_
  · intro wq hSw; exact load_take _ _ rfl _ M 20 3 rfl hSw.1 u20 (by rw [HM.out]; exact z20)
  try simp only [Act.put, List.getElem_toArray, List.getElem_cons_succ, List.getElem_cons_zero, List.setIfInBounds_toArray, List.set_cons_zero, List.set_cons_succ]
  refine wpAnyH_ready (rs := [8]) (by kernel_rfl) (by simp) ?_
  refine AllReadyH.cons (o := _) rfl (fun K hK => ?_) AllReadyH.nil
  go_simp
  refine (FL2.out y3 (WB.out y3 B3.out)).mono ?_
  rintro e y4 ⟨rfl, hb4⟩
  dsimp only
  have B4 := hidIt (B3.out.trans (hb4.mono B3.out.size))
  clear hb4
  refine hK.out _ _ ?_ (fun hHeld => ?_)
  · exact KEEP.out _ B4.out
  clear hK K
  try simp only [Act.put, List.getElem_toArray, List.getElem_cons_succ, List.getElem_cons_zero, List.setIfInBounds_toArray, List.set_cons_zero, List.set_cons_succ]
  refine wpAnyH_take (i := 9) (oi := _) (v := ?_) rfl (by kernel_rfl) (by kernel_rfl) (by kernel_rfl) (fun _ _ _ h => h) (Or.inl ⟨by rfl, ?_⟩) (by assumption) ?_
  rotate_left 1
  · intro wq hSw; (try dsimp only at hSw); go_simp; try (with_reducible rfl)
  try simp only [Act.put, List.getElem_toArray, List.getElem_cons_succ, List.getElem_cons_zero, List.setIfInBounds_toArray, List.set_cons_zero, List.set_cons_succ]
  refine wpAnyH_take (i := 10) (oi := _) (v := ?_) rfl (by kernel_rfl) (by kernel_rfl) (by kernel_rfl) (fun _ _ _ h => h) (Or.inl ⟨by rfl, ?_⟩) (by assumption) ?_
  rotate_left 1
  · intro wq hSw; (try dsimp only at hSw); go_simp; try (with_reducible rfl)
  try simp only [Act.put, List.getElem_toArray, List.getElem_cons_succ, List.getElem_cons_zero, List.setIfInBounds_toArray, List.set_cons_zero, List.set_cons_succ]
  refine wpAnyH_done (by kernel_rfl) ?_ _
  go_wp2_with fail
  go_ret
  exact ⟨rfl, WB.out y4 B4.out⟩
end Go.Proofs.YtipnifenahhkoaaDoor
