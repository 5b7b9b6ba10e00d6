/- append of ints, up to a little more than the kit's bound: the new capacity is at most a quarter more than what is asked for. -/
import Derived.Test.YtmldfjhfgaggpaaGKit
namespace Go.Proofs.Ytmldfjhfgaggpaa
open Go.RowKit

theorem cap_fine {need old : Nat} (h : old < need) : Builtin.nextslicecap need old ≤ need + need / 4 + 512 := by
  unfold Builtin.nextslicecap
  split
  · omega
  · split
    · omega
    · rw [growBy_four]
      repeat' split
      all_goals omega
theorem cap_fits {need old : Nat} (h : old < need) (hb : need * 8 ≤ 140739635838976) : Builtin.nextslicecap need old * 8 ≤ 281474976710656 := by
  have := cap_fine h
  omega
section
variable {P : Program} (w : World)
/-- What a new row of ints holds. -/
theorem new_row (base n old : Nat) (e : TypeId) (zs : List Value) (hn : zs.length = n) (h63 : n ≤ maxLen) (hbase : base ≤ w.heap.size) (row : Option Nat) :
    (w.drew.alloc (.cells (zs.toArray ++ Builtin.zeroCells (Value.int .i64 0).cells (grownCap w n old e - n)) e)).ownsRow base e 1 (.slice (some ⟨w.heap.size, 0, none⟩) n (grownCap w n old e)) n zs ∧
      w.grownBy (w.drew.alloc (.cells (zs.toArray ++ Builtin.zeroCells (Value.int .i64 0).cells (grownCap w n old e - n)) e)) row := by
  subst hn
  have hge := grownCap_ge w zs.length old e
  refine ⟨⟨by omega, .inr ⟨w.heap.size, _, _, rfl, hbase, heap_alloc_new w.drew _, hge, grownCap_le_maxLen w _ old e h63, ?_, ?_⟩⟩, ⟨rfl, rfl, rfl, by simp, fun k hk _ => heap_alloc_old w.drew _ hk⟩⟩
  · simp only [Array.size_append, List.size_toArray, size_zeroCells]
    simp [Value.cells]
    omega
  · simp only [Array.toList_append, Nat.mul_one]
    exact List.take_left
theorem run_append_fine (base : Nat) (t ty e : TypeId) (i : TypeInfo) (ht : P.underlying t = some (.slice e)) (hi : P.info? e = some i) (hz : i.zero = some (.int .i64 0)) (hsize : i.size = 1) (hby : i.bytes = 8)
    (v : Value) (n : Nat) (xs : List Value) (hown : w.ownsRow base e 1 v n xs) (a : Addr) (m c : Nat) (news : List Value) (hl : news.length = m) (hnews : ∀ j u, news[j]? = some u → w.cell? (a.add j) = some u) (h1 : ∀ u ∈ news, u.oneCell' = true)
    (hbytes : (n + m) * 8 ≤ 140739635838976) (hbase : base ≤ w.heap.size) :
    ∃ v' w', (Builtin.append_ #[t, t] ty #[v, .slice (some a) m c]).run P w = .ok v' w' ∧ w'.ownsRow base e 1 v' (n + m) (xs ++ news) ∧ w.grownBy w' v.ownBlock := by
  have hxl : xs.length = n := by have := hown.1; omega
  have h63 : n + m ≤ maxLen := by simp only [maxLen]; omega
  rcases hown.2 with ⟨rfl, rfl⟩ | ⟨g, cap, cur, rfl, hbg, hg, hnc, hcm, hcs, htake⟩
  · have hx : xs = [] := List.eq_nil_of_length_eq_zero hxl
    subst hx
    rcases Nat.eq_zero_or_pos m with rfl | hm
    · obtain ⟨v', w', r1, r2, r3, _⟩ := run_append_own (P := P) w base t ty e i _ 1 8 ht hi hz hsize hby rfl (by decide) _ 0 [] hown a 0 c news (by omega) hnews h1 h63 (by omega) hbase
      exact ⟨v', w', r1, r2, r3⟩
    · have hr := run_append_nil (P := P) w t ty e i _ ht hi hz a m c news (by rw [hsize]; omega) hnews hm (by omega) (by rw [hby]; omega)
      have hgr := new_row w base m 0 e news hl (by simpa using h63) hbase (Value.ownBlock (.slice none 0 0))
      rw [Nat.zero_add, List.nil_append]
      exact ⟨_, _, hr, hgr⟩
  · by_cases hroom : n + m ≤ cap
    · have hr := run_append_room (P := P) w t ty e i ht hi g n cap cur hg a m c news (by rw [hsize]; omega) hnews h1 hroom (by rw [hsize]; omega)
      rw [hsize, Nat.mul_one] at hr
      refine ⟨_, _, hr, ⟨by simp; omega, .inr ⟨g, cap, _, rfl, hbg, setRow_heap w g cur _ e _ hg, hroom, hcm, ?_, ?_⟩⟩, ⟨rfl, rfl, rfl, by simp, fun k _ hk => setRow_other w g k _ (fun e => hk (by simp [Value.ownBlock, e]))⟩⟩
      · simp only [List.size_toArray, List.length_append, List.length_take, List.length_drop, Array.length_toList]
        omega
      · rw [Nat.mul_one] at htake
        rw [htake, Nat.mul_one, show n + m = (xs ++ news).length by simp; omega]
        exact List.take_left
    · have holds : ∀ j u, xs[j]? = some u → w.cell? ((⟨g, 0, none⟩ : Addr).add j) = some u := hown.cells (g := g) rfl
      have hr := run_append_grow (P := P) w t ty e i _ ht hi hz ⟨g, 0, none⟩ n cap xs (by rw [hsize]; omega) holds a m c news (by rw [hsize]; omega) hnews (by omega) (by omega) (by rw [hby]; exact cap_fits (by omega) hbytes)
      have hgr := new_row w base (n + m) cap e (xs ++ news) (by simp; omega) h63 hbase (Value.ownBlock (.slice (some ⟨g, 0, none⟩) n cap))
      rw [← List.append_toArray] at hgr
      exact ⟨_, _, hr, hgr⟩
end
section
variable {P : Program} {W : World} {ops : Array Oper} {rest : List Oper} {o : Oper} {a : Act} {Q : Exit → Act → World → Prop}
/-- append(v, s...), of ints: s any slice that is read; the wider bound. -/
theorem wpl_intsF (hgd : o.guard = none) (s x : Operand) (t : TypeId) (ho : o.op = .call { callee := .builtin .append, args := #[s, x], argTypes := #[t, t] })
    (base : Nat) (hinf : (P.info? 3).map (fun i => (i.zero, i.size, i.bytes)) = some (some (.int .i64 0), 1, 8)) (ht : P.underlying t = some (.slice 3))
    (v : Value) (zs : List Int) (hs : a.eval s = v) (hown : OwnI W base v zs) (u : Value) (ys : List Int) (hx : a.eval x = u) (hu : RdS W u ys) (hl : (zs.length + ys.length) * 8 ≤ 140739635838976) (hbase : base ≤ W.heap.size)
    (h : ∀ v' w', OwnI w' base v' (zs ++ ys) → Below base W w' → wpList P ops Q rest (a.put o.dst v') w') : wpList P ops Q (o :: rest) a W := by
  obtain ⟨i0, hi, hz0, hz1, hz2⟩ := info_parts hinf
  obtain ⟨hr, hsl⟩ := hu
  rcases hsl with rfl | ⟨ad, n, c, rfl⟩
  · have : ys = [] := by
      obtain ⟨ao, cap, hv, _⟩ := hr
      have : ys.length = 0 := by injection hv with _ h2 _; omega
      exact List.length_eq_zero_iff.1 this
    subst this
    refine wpList_append_own_none hgd s x t ho base 3 i0 1 ht hi v zs.length (zs.map (Value.int .i64)) hs hown hx ?_
    exact h v W (by rw [List.append_nil]; exact hown) (Below.refl _ _)
  · obtain ⟨hn, hc⟩ := rd_cells hr
    subst hn
    refine wpList_plain hgd fun K hK => ?_
    obtain ⟨v', w', hrun, h2, h3⟩ := run_append_fine (P := P) W base t o.type 3 i0 ht hi hz0 hz1 hz2 v zs.length (zs.map (Value.int .i64)) hown ad ys.length c (ys.map (Value.int .i64)) (by simp) hc (one_all _ _) hl hbase
    unfold Oper.wp execOp
    simp only [ho, resolve, invoke, builtin, Sem.run_bind, Sem.run_pure, Result.andThen_ok, List.map_toArray, List.map_cons, List.map_nil, hs, hx, hrun]
    refine hK _ _ (h v' w' ?_ ((Below.refl _ _).grown h3 hbase (fun k hk => (World.ownsRow.lt hown k hk).1)))
    unfold OwnI
    rw [List.length_append, List.map_append]
    exact h2
end
end Go.Proofs.Ytmldfjhfgaggpaa
