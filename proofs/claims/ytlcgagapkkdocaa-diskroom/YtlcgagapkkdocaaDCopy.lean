/- append(nil, b...) in a region that draws: a copy of bytes. -/
import Derived.Test.YtlcgagapkkdocaaDScr
namespace Go.Proofs.Ytlcgagapkkdocaa
open Go.RowKit

set_option maxRecDepth 100000 in
theorem wp_append_copy {W : World} {op : Oper} {a : Act} {K : Act → World → Prop} {Q : Exit → Act → World → Prop} (s x : Operand) (ho : op.op = .call { callee := .builtin .append, args := #[s, x], argTypes := #[22, 22] }) (hs : a.eval s = .slice none 0 0) (hinf : (Try.prog.info? 5).map (fun i => (i.zero, i.size, i.bytes)) = some (some (.int .u8 0), 1, 1)) (u : Value) (hx : a.eval x = u) (ys : List Int) (hu : RdU W u ys) (hl : ys.length ≤ 140737488355328)
    (h : ∀ v' w', OwnU w' W.heap.size v' ys → Below W.heap.size W w' → K (a.put op.dst v') w') : op.wp Try.prog a W K Q := by
  obtain ⟨i0, hi, hz0, hz1, hz2⟩ := info_parts hinf
  have hnil : W.ownsRow W.heap.size 5 1 (.slice none 0 0) 0 [] := ⟨rfl, .inl ⟨rfl, rfl⟩⟩
  obtain ⟨hr, hsl⟩ := hu
  rcases hsl with rfl | ⟨ad, n, c, rfl⟩
  · have h0 : ys = [] := by
      obtain ⟨ao, cap, hv, _⟩ := hr
      have : ys.length = 0 := by injection hv with _ h2 _; omega
      exact List.length_eq_zero_iff.1 this
    subst h0
    have hrun := run_append_owned_none (P := Try.prog) (w := W) W.heap.size 22 op.type 5 i0 1 Try.underlying22 hi (.slice none 0 0) 0 [] hnil
    unfold Oper.wp execOp
    simp only [ho, resolve, invoke, builtin, Sem.run_bind, Sem.run_pure, Result.andThen_ok, List.map_toArray, List.map_cons, List.map_nil, hs, hx, hrun]
    exact h _ W ⟨rfl, .inl ⟨rfl, rfl⟩⟩ (Below.refl _ _)
  · obtain ⟨hn, hc⟩ := rd_cells hr
    subst hn
    obtain ⟨v', w', hrun, o2, g2, _⟩ := run_append_own (P := Try.prog) W W.heap.size 22 op.type 5 i0 (.int .u8 0) 1 1 Try.underlying22 hi hz0 hz1 hz2 rfl (by decide) (.slice none 0 0) 0 [] hnil ad ys.length c (ys.map (Value.int .u8)) (by simp) hc (one_all _ _) (by unfold maxLen; omega) (by omega) (Nat.le_refl _)
    unfold Oper.wp execOp
    simp only [ho, resolve, invoke, builtin, Sem.run_bind, Sem.run_pure, Result.andThen_ok, List.map_toArray, List.map_cons, List.map_nil, hs, hx, hrun]
    refine h v' w' (by unfold OwnU; simpa using o2) ⟨g2.os, g2.tape, g2.output, g2.size, fun k hk => g2.block k hk (by simp [Value.ownBlock])⟩
/-- The name that a text is. -/
theorem sv_of (s : ByteArray) : sv s.data.toList = .string s := by
  simp [sv, bsOf]
end Go.Proofs.Ytlcgagapkkdocaa
