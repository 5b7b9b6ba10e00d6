/- A whole row by value: out of a block, into a new one. -/
import Derived.Test.YtipnifenahhkoaaDoorFOby
import Derived.Deep.WholeRow
namespace Go.Proofs.YtipnifenahhkoaaDoor
open Go.RowKit

theorem wpl_store_new {P : Program} (W0 : World) {ops : Array Oper} {rest : List Oper} {o : Oper} {a : Act} {Q : Exit → Act → World → Prop} (hgd : o.guard = none) (t : TypeId) (p x : Operand) (ho : o.op = .store t p x) (c c' : Array Value) (hp : a.eval p = .pointer (some ⟨W0.heap.size, 0, none⟩)) (hx : a.eval x = .agg c') (hi : (P.info? t).map (·.size) = some c'.size) (hcc : c.size = c'.size) (h1 : c'.all (·.oneCell') = true)
    (h : wpList P ops Q rest (a.put o.dst undef) (W0.alloc (.cells c' t))) : wpList P ops Q (o :: rest) a (W0.alloc (.cells c t)) := by
  refine wpList_plain hgd fun K hK => ?_
  have hr := run_storeAt_new (P := P) W0 t c c' hi hcc h1
  unfold Oper.wp
  simp only [execOp, ho, hp, hx, Sem.run_bind, hr, Result.andThen_ok, Sem.run_pure, Oper.upon_skip]
  exact hK _ _ h
theorem wpl_load_row {P : Program} (W : World) {ops : Array Oper} {rest : List Oper} {o : Oper} {a : Act} {Q : Exit → Act → World → Prop} (hgd : o.guard = none) (t : TypeId) (p : Operand) (ho : o.op = .load t p) (b : Nat) (c : Array Value) (n : Nat) (e : TypeId) (hp : a.eval p = .pointer (some ⟨b, 0, none⟩)) (hb : W.heap[b]? = some (.cells c t (0, 0))) (hu : P.underlying t = some (.array n e)) (hi : (P.info? t).map (·.size) = some c.size)
    (h : wpList P ops Q rest (a.put o.dst (.agg c)) W) : wpList P ops Q (o :: rest) a W := by
  refine wpList_plain hgd fun K hK => ?_
  have hr : (Instr.loadAt t (.pointer (some ⟨b, 0, none⟩))).run P W = .ok (.agg c) W := by
    simp only [Instr.loadAt, Instr.sureAddr, Sem.run_bind, Sem.run_pure, Result.andThen]
    exact run_loadVar_row _ _ t t c (0, 0) _ hb hu rfl hi
  unfold Oper.wp
  simp only [execOp, ho, hp, Sem.run_bind, hr, Result.andThen_ok, Sem.run_pure, Oper.upon_value]
  exact hK _ _ h
end Go.Proofs.YtipnifenahhkoaaDoor
