/- The methods of a file; slices.Clone of bytes; within. -/
import Derived.Test.YtaoaihjiieandaaDDir
namespace Go.Proofs.Ytaoaihjiieandaa
open Go.RowKit

theorem within_any (n : Int) (m : Nat) (w : World) : Calls Try.prog 43 #[.int .i64 n, .int .i64 (m : Int)] w fun e w' => e = .returned (.int .i64 (clip n m : Nat)) ∧ w = w' := by
  go_enter Try.func43, Try.ntmps43
  go_wp2_with fail
  go_ret
  exact ⟨ret_int (by unfold clip; omega), rfl⟩

/-- A row of bytes of one's own. -/
abbrev OwnU (w : World) (base : Nat) (v : Value) (zs : List Int) : Prop := w.ownsRow base 5 1 v zs.length (zs.map (Value.int .u8))
/-- Bytes that are read and lie as Go makes them. -/
def RdU (w : World) (v : Value) (zs : List Int) : Prop := Rd .u8 w v zs ∧ Sl v
theorem RdU.ext {w w' : World} {v : Value} {zs : List Int} (h : RdU w v zs) (hb : Below w.heap.size w w') : RdU w' v zs := ⟨h.1.ext hb, h.2⟩
theorem OwnU.rdu {w : World} {base : Nat} {v : Value} {zs : List Int} (h : OwnU w base v zs) : RdU w v zs := ⟨Rd.of_own h, Sl.of_own h⟩
theorem OwnU.le {w : World} {base base' : Nat} {v : Value} {zs : List Int} (h : OwnU w base v zs) (hb : base' ≤ base) : OwnU w base' v zs := by
  obtain ⟨h1, h2⟩ := h
  refine ⟨h1, ?_⟩
  rcases h2 with h2 | ⟨g, cap, cur, hv, hg, r⟩
  · exact .inl h2
  · exact .inr ⟨g, cap, cur, hv, Nat.le_trans hb hg, r⟩
section
variable {P : Program} {W : World} {ops : Array Oper} {rest : List Oper} {o : Oper} {a : Act} {Q : Exit → Act → World → Prop}
/-- append(v, s...), of bytes: s any slice that is read. -/
theorem wpl_bytes (hgd : o.guard = none) (s x : Operand) (t : TypeId) (ho : o.op = .call { callee := .builtin .append, args := #[s, x], argTypes := #[t, t] })
    (base : Nat) (hinf : (P.info? 5).map (fun i => (i.zero, i.size, i.bytes)) = some (some (.int .u8 0), 1, 1)) (ht : P.underlying t = some (.slice 5))
    (v : Value) (zs : List Int) (hs : a.eval s = v) (hown : OwnU W base v zs) (u : Value) (ys : List Int) (hx : a.eval x = u) (hu : RdU W u ys) (hl : zs.length + ys.length ≤ 140737488355328) (hbase : base ≤ W.heap.size)
    (h : ∀ v' w', OwnU w' base v' (zs ++ ys) → W.grownBy w' v.ownBlock → wpList P ops Q rest (a.put o.dst v') w') : wpList P ops Q (o :: rest) a W := by
  obtain ⟨i0, hi, hz0, hz1, hz2⟩ := info_parts hinf
  obtain ⟨hr, hsl⟩ := hu
  rcases hsl with rfl | ⟨ad, n, c, rfl⟩
  · have : ys = [] := by
      obtain ⟨ao, cap, hv, _⟩ := hr
      have : ys.length = 0 := by injection hv with _ h2 _; omega
      exact List.length_eq_zero_iff.1 this
    subst this
    refine wpList_append_own_none hgd s x t ho base 5 i0 1 ht hi v zs.length (zs.map (Value.int .u8)) hs hown hx ?_
    exact h v W (by rw [List.append_nil]; exact hown) ⟨rfl, rfl, rfl, Nat.le_refl _, fun _ _ _ => rfl⟩
  · obtain ⟨hn, hc⟩ := rd_cells hr
    subst hn
    refine wpList_append_own W hgd s x t ho base 5 i0 (.int .u8 0) 1 1 ht hi hz0 hz1 hz2 rfl (by decide) v zs.length (zs.map (Value.int .u8)) hs hown ad ys.length c (ys.map (Value.int .u8)) hx (by simp) hc (one_all _ _) (by unfold maxLen; omega) (by omega) hbase ?_
    intro v' w' h1 h2 _
    refine h v' w' ?_ h2
    unfold OwnU
    rw [List.length_append, List.map_append]
    exact h1
end

set_option maxRecDepth 100000 in
set_option maxHeartbeats 2000000 in
theorem cloneB_any (v : Value) (zs : List Int) (w : World) (h : RdU w v zs) (hl : zs.length ≤ 140737488355328) :
    Calls Try.prog 74 #[v] w fun e w' => ∃ v', e = .returned v' ∧ OwnU w' w.heap.size v' zs ∧ Below w.heap.size w w' := by
  rcases h.2 with rfl | ⟨ad, n, c, rfl⟩
  · obtain ⟨⟨ao, cap, hv, _⟩, _⟩ := h
    have : zs.length = 0 := by injection hv with _ h2 _; omega
    have hz := List.length_eq_zero_iff.1 this
    subst hz
    clear hl this hv
    have he := Lib.run_eql_slice_nil (P := Try.prog) w 22 5 none 0 0 0 0 Try.underlying22
    go_enter Try.func74, Try.ntmps74
    go_wp2_with fail
    go_ret
    exact ⟨_, rfl, ⟨rfl, .inl ⟨rfl, rfl⟩⟩, Below.refl _ _⟩
  have H := hidIt h
  have he := Lib.run_eql_slice_nil (P := Try.prog) w 22 5 (some ad) n c 0 0 Try.underlying22
  clear h
  go_enter Try.func74, Try.ntmps74
  go_wp2_with (at_builtin; refine wpl_bytes rfl _ _ 22 rfl w.heap.size Try.info_u8 Try.underlying22 _ [] rfl ⟨rfl, .inr ⟨w.heap.size, 0, #[], rfl, Nat.le_refl _, heap_alloc_new _ _, Nat.le_refl _, by simp [maxLen], rfl, rfl⟩⟩ _ zs rfl (H.out.ext (ext_alloc (Below.refl _ _) _)) (by simpa using hl) (by simp) ?_; intro v2 w2 own2 hg2; have O2 := hidIt own2; have B2 := hidIt hg2; clear own2 hg2)
  go_ret
  exact ⟨_, rfl, O2.out, (ext_alloc (Below.refl _ _) _).grown B2.out (by simp) (fun k e => by cases e; exact Nat.le_refl _)⟩

section
variable {w : World} {q i : Nat} {v : Value} {f : Fi}
theorem FiB.cells (h : FiB w q v i f) : w.cell? ⟨q, 0, none⟩ = some (.int .i64 ((i : Int) + 1)) ∧ w.cell? ⟨q, 1, none⟩ = some v ∧ w.cell? ⟨q, 2, none⟩ = some (.int .i64 (f.sy : Int)) ∧ w.cell? ⟨q, 3, none⟩ = some (.int .i64 (f.ct : Int)) ∧ ∀ i, w.frozen? ⟨q, i, none⟩ = false := by
  have h1 := h.1
  refine ⟨?_, ?_, ?_, ?_, fun i => ?_⟩
  · simp [World.cell?, h1]
  · simp [World.cell?, h1]
  · simp [World.cell?, h1]
  · simp [World.cell?, h1]
  · exact frozen_of_row _ _ _ _ _ h1
theorem FiB.slice (h : FiB w q v i f) : ∃ ao c, v = .slice ao f.bs.length c ∧ f.bs.length ≤ 9223372036854775807 := by
  obtain ⟨ao, cap, hv, h1, h2, _⟩ := Rd.of_own h.2
  exact ⟨ao, cap, hv, by unfold maxLen at h2; omega⟩
end
set_option maxRecDepth 100000 in
theorem sync_any {w : World} {q i : Nat} {v : Value} {f : Fi} (h : FiB w q v i f) :
    Calls Try.prog 60 #[pp q] w fun e w' => e = .returned (.tuple #[]) ∧ w' = w.setCell ⟨q, 2, none⟩ (.int .i64 (f.bs.length : Int)) := by
  obtain ⟨c0, c1, c2, c3, fr⟩ := h.cells
  obtain ⟨ao, c, rfl, hl⟩ := h.slice
  have f2 := fr 2
  clear h
  go_enter Try.func60, Try.ntmps60
  go_wp2_with fail
  refine bodyPost_end (results_none rfl _ _ _) rfl ⟨rfl, rfl⟩
set_option maxRecDepth 100000 in
theorem copied_any {w : World} {q i : Nat} {v : Value} {f : Fi} (h : FiB w q v i f) (hl : f.bs.length ≤ 1048576) :
    Calls Try.prog 51 #[pp q] w fun e w' => ∃ v', e = .returned v' ∧ OwnU w' w.heap.size v' f.bs ∧ Below w.heap.size w w' := by
  obtain ⟨c0, c1, c2, c3, fr⟩ := h.cells
  have CL := hidIt (cloneB_any v f.bs w (OwnU.rdu h.2) (by omega))
  obtain ⟨ao, c, rfl, _⟩ := h.slice
  clear h
  go_enter Try.func51, Try.ntmps51
  go_wp2_with (go_at_call 74; refine CL.out.mono ?_; rintro e w2 ⟨v2, rfl, O2, B2⟩; have O2 := hidIt O2; have B2 := hidIt B2)
  go_ret
  exact ⟨_, rfl, O2.out, B2.out⟩
end Go.Proofs.Ytaoaihjiieandaa
