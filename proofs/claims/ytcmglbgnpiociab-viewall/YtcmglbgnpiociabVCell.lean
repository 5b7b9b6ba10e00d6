/- Cell and At. -/
import Derived.Test.YtcmglbgnpiociabVPls
namespace Go.Proofs.Ytcmglbgnpiociab.P
open Go.RowKit Go.Shelf

attribute [local go_sem] Oper.semAt_some

theorem heap_alloc_new (w : World) (o : Obj) : (w.alloc o).heap[w.heap.size]? = some o := World.alloc_heap_new w o
theorem places_at (ao : Option Addr) (n cap : Nat) (w : World) (k : Nat) (hk : w.heap.size = k) : Calls Try.prog 27 #[.slice ao n cap] w fun e w' => e = .returned (.func (.func 36) #[] #[.pointer (some ⟨k, 0, none⟩)]) ∧ w' = w.alloc (.cells #[.slice ao n cap] 27) := hk ▸ places_any ao n cap w

theorem set1 {T : TypeId} {w : World} {g : Nat} {cs : Array Value} (hg : w.heap[g]? = some (.cells cs T (0, 0))) (i : Nat) (v : Value) : (w.setCell ⟨g, i, none⟩ v).heap[g]? = some (.cells (cs.setIfInBounds i v) T (0, 0)) ∧ w.grownBy (w.setCell ⟨g, i, none⟩ v) (some g) := by
  rw [setCell_eq_setRow w g i _ _ _ _ hg]
  exact ⟨setRow_heap w g _ _ T (0, 0) hg, ⟨rfl, rfl, rfl, by simp [World.setRow], fun j _ hk => setRow_other w g j _ (by intro e; subst e; exact hk rfl)⟩⟩
/-- No panic, no want of room. -/
def calm (Q : Exit → Act → World → Prop) : Exit → Act → World → Prop
  | .panic _, _, _ => False
  | .outgrown, _, _ => False
  | e, a, w => Q e a w
theorem calm_imp {Q : Exit → Act → World → Prop} {e : Exit} {a : Act} {w : World} (h : calm Q e a w) : Q e a w := by
  cases e with
  | panic c => exact h.elim
  | outgrown => exact h.elim
  | _ => exact h
/-- What holds behind the rounds of Cell, and where it was left. -/
def CellI (w : World) (a : Int) (pre : List (Nat × Nat × Nat)) (W : World) : Prop := W.heap[w.heap.size + 1]? = some (.cells #[.int .i64 (Vw.lst pre : Nat)] 3 (0, 0)) ∧ W.heap[w.heap.size]? = some (.cells #[.int .i64 a] 3 (0, 0)) ∧ (∀ p ∈ pre, (p.2.1 : Int) ≤ a) ∧ w.heap.size + 3 ≤ W.heap.size
def CellX (w : World) (a : Int) (c : Code) (pre : List (Nat × Nat × Nat)) (W : World) : Prop := c = .exit 0 ∧ ∃ pre0 x, pre = pre0 ++ [x] ∧ a < (x.2.1 : Int) ∧ (∀ p ∈ pre0, (p.2.1 : Int) ≤ a) ∧ W.heap[w.heap.size + 1]? = some (.cells #[.int .i64 (Vw.lst pre0 : Nat)] 3 (0, 0))

/-- The world in which the range begins. -/
theorem begun (w : World) (a b v : Value) (e1 e2 e3 : TypeId) : ∀ w3, w3 = ((w.alloc (.cells #[a] e1)).alloc (.cells #[b] e2)).alloc (.cells #[v] e3) →
    w3.heap.size = w.heap.size + 3 ∧ w3.heap[w.heap.size]? = some (.cells #[a] e1 (0, 0)) ∧ w3.heap[w.heap.size + 1]? = some (.cells #[b] e2 (0, 0)) ∧ w3.heap[w.heap.size + 2]? = some (.cells #[v] e3 (0, 0)) ∧ Below w.heap.size w w3 := by
  rintro w3 rfl
  refine ⟨by simp, ?_, ?_, ?_, ext_alloc (ext_alloc (ext_alloc (Below.refl _ _) _) _) _⟩
  · exact (Below.heap_alloc _ _ _ (by simp; omega)).trans ((Below.heap_alloc _ _ _ (by simp)).trans (heap_alloc_new _ _))
  · have e : w.heap.size + 1 = (w.alloc (.cells #[a] e1)).heap.size := by simp
    rw [e]
    exact (Below.heap_alloc _ _ _ (by simp)).trans (heap_alloc_new _ _)
  · have e : w.heap.size + 2 = ((w.alloc (.cells #[a] e1)).alloc (.cells #[b] e2)).heap.size := by simp
    rw [e]
    exact heap_alloc_new _ _

set_option maxRecDepth 100000 in
set_option maxHeartbeats 4000000 in
theorem Cell_any (v : Value) (zs : List Int) (a : Int) (w : World) (hr : Rd .i64 w v zs) (hz : zs.length ≤ 140737488355328) : Calls Try.prog 11 #[v, .int .i64 a] w fun e w' => e = .returned (.int .i64 (Vw.cell zs a : Nat)) ∧ Below w.heap.size w w' := by
  have HR := hidIt hr
  obtain ⟨ao, cap, rfl, hcz, hcm, _⟩ := hr
  have PL := hidIt (places_at ao zs.length cap ((w.alloc (.cells #[.int .i64 a] 3)).alloc (.cells #[.int .i64 0] 3)) (w.heap.size + 2) (by simp))
  refine (callsIn_wide (n := 9)).1 ?_
  refine callsIn_of_wp_marks Try.func11 rfl trivial ?_ rfl
  simp only [Try.ntmps11, List.size_toArray, List.length_cons, List.length_nil, Nat.reduceAdd, Nat.reduceSub, Array.replicate_succ, Array.replicate_zero, List.push_toArray, List.append_toArray, List.nil_append, List.cons_append]
  refine wpIn_mono (Q := calm _) ?_ (fun _ _ _ h => calm_imp h)
  refine wpIn_wide.2 ?_
  go_wp2_with (go_at_call 27; refine PL.out.mono ?_; rintro e w3 ⟨rfl, hw3⟩; have HW3 := hidIt hw3; clear hw3 PL; (try dsimp only))
  have HG3 := hidIt (begun w _ _ _ _ _ _ w3 HW3.out)
  have hs3 := HG3.out.1
  have SQ := hidIt (places_stops 8 zs _ w HR.out hz w3 HG3.out.2.2.2.2 (w.heap.size + 2) (by omega) HG3.out.2.2.2.1)
  clear HW3
  refine (wpIn_wide (n := 9)).1 ?_
  refine range_x (σ := Unit) rfl (by omega) (gf := 36) (lb := #[.pointer (some ⟨w.heap.size + 2, 0, none⟩)]) rfl trivial (enters_of Try.func36 (by kernel_rfl) rfl) SQ.out (Kps.refl _ _) (fun _ => rfl)
    (fun _ k => k = w.heap.size + 1) (fun _ pre W => CellI w a pre W) (fun c _ pre W => CellX w a c pre W) ()
    ?rel (fun k => k = w.heap.size) (fun k hk => by omega) (fun _ _ _ _ h hz hk => ⟨(hk _ (.inl rfl)).trans h.1, (hk _ (.inr rfl)).trans h.2.1, h.2.2.1, Nat.le_trans h.2.2.2 hz⟩) (fun _ _ _ _ _ h _ hk => by obtain ⟨h1, p0, x, h2, h3, h4, h5⟩ := h; exact ⟨h1, p0, x, h2, h3, h4, (hk _ (.inl rfl)).trans h5⟩) (fun _ _ _ h k hk => by have := h.2.2.2; omega) ?h0
    (fun q a' W => ∃ b, w3.heap.size + 2 ≤ b ∧ b < W.heap.size ∧ W.heap[b]? = some (.cells #[.int .i64 q.1, .int .i64 q.2.1, .int .i64 q.2.2] 41 (0, 0)) ∧ a' = { tmps := #[.slice ao zs.length cap, .int .i64 a, undef, .pointer (some ⟨w.heap.size, 0, none⟩), .int .i64 0, .pointer (some ⟨w.heap.size + 1, 0, none⟩), .pointer (some ⟨b, 0, none⟩), .slice ao zs.length cap, .func (.func 36) #[] #[.pointer (some ⟨w.heap.size + 2, 0, none⟩)], plV q, undef, undef, undef, undef, undef, undef, undef], defers := [] })
    (fun _ _ _ _ h hz hk => by obtain ⟨b, h1, h2, h3, h4⟩ := h; exact ⟨b, h1, by omega, (hk b h1 h2).trans h3, h4⟩) ?assign ?body ?done ?stop
  case rel =>
    rintro k (hk | rfl)
    · exact ⟨by omega, fun h => by omega⟩
    · exact ⟨by omega, fun h => by omega⟩
  case h0 => exact ⟨HG3.out.2.2.1, HG3.out.2.1, by simp, by omega⟩
  case assign =>
    intro l q W K hz hK
    unfold plV at hK ⊢
    gi_wp2_with fail
    exact hK _ _ (ext_alloc (Below.refl _ _) _) ⟨W.heap.size, hz, by simp, heap_alloc_new _ _, rfl⟩
  case body =>
    rintro l s pre q a' W ⟨i1, i2, i3, i4⟩ ⟨b, hb1, hb2, hb3, rfl⟩ hSp hzW
    have c1 : W.cell? ⟨b, 1, none⟩ = some (.int .i64 q.2.1) := by rw [cell_of_row W _ _ _ _ _ hb3]; rfl
    have c2 : W.cell? ⟨b, 2, none⟩ = some (.int .i64 q.2.2) := by rw [cell_of_row W _ _ _ _ _ hb3]; rfl
    have ca : W.cell? ⟨w.heap.size, 0, none⟩ = some (.int .i64 a) := by rw [cell_of_row W _ _ _ _ _ i2]; rfl
    have c5 : W.cell? ⟨w.heap.size + 1, 0, none⟩ = some (.int .i64 (Vw.lst pre : Nat)) := by rw [cell_of_row W _ _ _ _ _ i1]; rfl
    have f5 : ∀ i, W.frozen? ⟨w.heap.size + 1, i, none⟩ = false := fun i => by simp [World.frozen?, i1]
    have I1 := hidIt i1
    have I2 := hidIt i2
    have I3 := hidIt i3
    unfold plV
    clear i1 i2 i3 hb3 hSp HR SQ HG3
    refine wpIn_block ?_
    by_cases hlt : a < (q.2.1 : Int)
    · gi_wp2_with fail
      exact ⟨(), ⟨rfl, pre, q, rfl, hlt, I3.out, I1.out⟩, Kps.refl _ _, fun k h => .inl h⟩
    · gi_wp2_with fail
      obtain ⟨s1, s2⟩ := set1 I1.out 0 (.int .i64 q.2.2)
      refine ⟨(), ⟨?_, (s2.block _ (by omega) (by simp)).trans I2.out, fun p hp => ?_, Nat.le_trans i4 s2.size⟩, Kps.grown s2 (fun k hk _ => by cases hk; rfl), fun k h => .inl h⟩
      · rw [Vw.lst_app]; exact s1
      · rcases List.mem_append.1 hp with h | h
        · exact I3.out p h
        · obtain rfl := List.mem_singleton.1 h; omega
  case done =>
    intro s xs W hk hnw hS ⟨i1, i2, i3, i4⟩ hdf hno
    subst hS
    have c5 : W.cell? ⟨w.heap.size + 1, 0, none⟩ = some (.int .i64 (Vw.lst (Vw.ps zs 0 0) : Nat)) := by rw [cell_of_row W _ _ _ _ _ i1]; rfl
    have HQ := hidIt (Vw.cellL_all _ a i3)
    have HB := hidIt HG3.out.2.2.2.2
    clear hnw i1 i2 i3 SQ HG3
    gi_wp2
    go_wp2_with fail
    refine ⟨by simp, .inl ⟨_, _, rfl, run_takeDeferred hdf, ?_⟩⟩
    refine ⟨_, results_tmp rfl _ _ _, ?_⟩
    refine ⟨ret_int (by unfold Vw.cell; rw [HQ.out]), ?_⟩
    refine HB.out.trans (Kps.below (o := fun k => w.heap.size ≤ k) ?_ HB.out.size (fun k hk => hk))
    refine Kps.trans (hk.mono fun i _ hi => ?_) (Kps.put (o := fun k => w.heap.size ≤ k) _ HB.out.size) (fun _ _ e => e)
    omega
  case stop =>
    rintro c s pre W hk hnw hSp ⟨rfl, p0, x, rfl, h3, h4, h5⟩ hdf hno
    have c5 : W.cell? ⟨w.heap.size + 1, 0, none⟩ = some (.int .i64 (Vw.lst p0 : Nat)) := by rw [cell_of_row W _ _ _ _ _ h5]; rfl
    have HQ : Hid (Vw.cell zs a = Vw.lst p0) := by
      obtain ⟨t, ht⟩ := hSp
      unfold Hid Vw.cell
      rw [← ht, List.append_assoc]
      exact Vw.cellL_stop p0 x t a h4 h3
    have HB := hidIt HG3.out.2.2.2.2
    clear hnw h5 h4 SQ HG3 hSp
    gi_wp2
    go_wp2_with fail
    refine ⟨by simp, .inl ⟨_, _, rfl, run_takeDeferred hdf, ?_⟩⟩
    refine ⟨_, results_tmp rfl _ _ _, ?_⟩
    refine ⟨ret_int (by rw [HQ.out]), ?_⟩
    refine HB.out.trans (Kps.below (o := fun k => w.heap.size ≤ k) ?_ HB.out.size (fun k hk => hk))
    refine Kps.trans (hk.mono fun i _ hi => ?_) (Kps.put (o := fun k => w.heap.size ≤ k) _ HB.out.size) (fun _ _ e => e)
    omega
end Go.Proofs.Ytcmglbgnpiociab.P
