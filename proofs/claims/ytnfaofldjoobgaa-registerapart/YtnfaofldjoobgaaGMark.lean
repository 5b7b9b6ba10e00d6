/- Lists that hold one mark alone: append of marks; the law's grown. -/
import Derived.Test.YtnfaofldjoobgaaGApB
import Derived.Test.YtnfaofldjoobgaaGWd
namespace Go.Proofs.Ytnfaofldjoobgaa
open Go.RowKit

theorem rep_map (n : Nat) (m : Int) : (List.replicate n m).map (Value.int .i64) = List.replicate n (.int .i64 m) := by simp
theorem run_append_marks {P : Program} (w : World) (B : Nat) (t ty e : TypeId) (i : TypeInfo) (ht : P.underlying t = some (.slice e)) (hi : P.info? e = some i) (hz : i.zero = some (.int .i64 0)) (hsize : i.size = 1) (hby : i.bytes = 8) (he : e = 3)
    (m : Int) (n j : Nat) (v : Value) (hown : OwnI w B v (List.replicate n m)) (a : Addr) (c : Nat) (hsrc : ∀ k, k < j → w.cell? (a.add k) = some (.int .i64 m)) (hj : 0 < j) (hn : n + j ≤ 1000000) (hB : B ≤ w.heap.size) :
    ∃ v' w', (Builtin.append_ #[t, t] ty #[v, .slice (some a) j c]).run P w = .ok v' w' ∧ OwnI w' B v' (List.replicate (n + j) m) ∧ (∀ y k, OwnI w B y (List.replicate k m) → OwnI w' B y (List.replicate k m)) ∧ w.grownBy w' v.ownBlock ∧ (v'.ownBlock = v.ownBlock ∨ v'.ownBlock = some w.heap.size) := by
  subst he
  have hnews : ∀ q u, (List.replicate j (Value.int .i64 m))[q]? = some u → w.cell? (a.add q) = some u := fun q u hq => by
    have hql : q < j := by have := (List.getElem?_eq_some_iff.1 hq).1; simpa using this
    rw [hsrc q hql]
    rw [List.getElem?_replicate, if_pos hql] at hq
    exact hq
  have hone : ∀ u ∈ List.replicate j (Value.int .i64 m), u.oneCell' = true := fun u hu => by
    rw [List.eq_of_mem_replicate hu]; rfl
  have hown' : w.ownsRow B 3 1 v n (List.replicate n (.int .i64 m)) := by
    have := hown
    unfold OwnI at this
    rw [rep_map, List.length_replicate] at this
    exact this
  obtain ⟨v', w', hr, h2, h3, h4⟩ := run_append_blk (P := P) w B t ty 3 i (.int .i64 0) 1 8 ht hi hz hsize hby rfl (by decide) v n _ hown' a j c (List.replicate j (.int .i64 m)) (by simp) hnews hone (by unfold maxLen; omega) (by omega) hB (fun _ => hj)
  refine ⟨v', w', hr, ?_, ?_, h3, h4⟩
  · unfold OwnI
    rw [rep_map, List.length_replicate]
    rw [List.replicate_append_replicate] at h2
    exact h2
  · intro y k hy
    obtain ⟨y1, y2⟩ := hy
    refine ⟨y1, ?_⟩
    rcases y2 with y2 | ⟨g, cap, cur, hv, hg1, hg2, hg3, hg4, hg5, hg6⟩
    · exact .inl y2
    · by_cases hvb : v.ownBlock = some g
      · rcases hown'.2 with ⟨rfl, _⟩ | ⟨g', cap', cur', rfl, b1, b2, b3, b4, b5, b6⟩
        · cases hvb
        · have eg : g = g' := by cases hvb; rfl
          subst eg
          rw [hg2] at b2
          cases b2
          by_cases hroom : n + j ≤ cap'
          · have hr2 := run_append_room (P := P) w t ty 3 i ht hi g n cap' cur hg2 a j c (List.replicate j (.int .i64 m)) (by rw [hsize]; simp) hnews hone hroom (by rw [hsize]; simp; omega)
            rw [hsize, Nat.mul_one] at hr2
            rw [hr2] at hr
            cases hr
            refine .inr ⟨g, cap, _, hv, hg1, setRow_heap w g cur _ 3 _ hg2, hg3, hg4, ?_, ?_⟩
            · simp only [List.size_toArray, List.length_append, List.length_take, List.length_drop, Array.length_toList, List.length_replicate]
              omega
            · rw [rep_map, List.length_replicate] at *
              rw [Nat.mul_one] at *
              apply List.ext_getElem?
              intro q
              by_cases hq : q < k
              · rw [List.getElem?_take_of_lt hq, List.getElem?_replicate, if_pos hq]
                have hcq : cur.toList[q]? = some (.int .i64 m) := by
                  have := congrArg (fun l => l[q]?) hg6
                  simp only [List.getElem?_take_of_lt hq, List.getElem?_replicate, if_pos hq] at this
                  exact this
                have hql := (List.getElem?_eq_some_iff.1 hcq).1
                rw [List.getElem?_append]
                have hn' : min n cur.toList.length = n := by simp; omega
                by_cases q1 : q < n
                · rw [if_pos (by rw [List.length_append, List.length_take, hn']; omega), List.getElem?_append, if_pos (by rw [List.length_take, hn']; exact q1), List.getElem?_take_of_lt q1]
                  exact hcq
                · by_cases q2 : q < n + j
                  · rw [if_pos (by rw [List.length_append, List.length_take, hn', List.length_replicate]; exact q2), List.getElem?_append, if_neg (by rw [List.length_take, hn']; exact q1), List.getElem?_replicate, if_pos (by rw [List.length_take, hn']; omega)]
                  · rw [if_neg (by rw [List.length_append, List.length_take, hn', List.length_replicate]; exact q2), List.getElem?_drop]
                    rw [← hcq]
                    congr 1
                    rw [List.length_append, List.length_take, hn', List.length_replicate]
                    omega
              · rw [List.getElem?_take_eq_none (by omega), List.getElem?_eq_none (by simp; omega)]
          · have holds : ∀ j u, (List.replicate n (Value.int .i64 m))[j]? = some u → w.cell? ((⟨g, 0, none⟩ : Addr).add j) = some u := hown'.cells (g := g) rfl
            have hr2 := run_append_grow (P := P) w t ty 3 i (.int .i64 0) ht hi hz ⟨g, 0, none⟩ n cap' _ (by rw [hsize]; simp) holds a j c (List.replicate j (.int .i64 m)) (by rw [hsize]; simp) hnews (by omega) (by omega) (by rw [hby]; exact growslice_fits (by omega) (by omega))
            rw [hr2] at hr
            cases hr
            exact .inr ⟨g, cap, cur, hv, hg1, (heap_alloc_old w.drew _ (Array.getElem?_eq_some_iff.1 hg2).1).trans hg2, hg3, hg4, hg5, hg6⟩
      · exact .inr ⟨g, cap, cur, hv, hg1, (h3.block g (Array.getElem?_eq_some_iff.1 hg2).1 (fun e => hvb e.symm)).trans hg2, hg3, hg4, hg5, hg6⟩
section
variable {P : Program} {W : World} {ops : Array Oper} {rest : List Oper} {o : Oper} {a : Act} {Q : Exit → Act → World → Prop}
/-- append of marks. -/
theorem wpl_marks (hgd : o.guard = none) (s x : Operand) (t : TypeId) (ho : o.op = .call { callee := .builtin .append, args := #[s, x], argTypes := #[t, t] })
    (B : Nat) (hinf : (P.info? 3).map (fun i => (i.zero, i.size, i.bytes)) = some (some (.int .i64 0), 1, 8)) (ht : P.underlying t = some (.slice 3))
    (m : Int) (n j : Nat) (v : Value) (hs : a.eval s = v) (hown : OwnI W B v (List.replicate n m)) (sb c : Nat) (hx : a.eval x = .slice (some ⟨sb, 0, none⟩) j c) (hsrc : ∀ k, k < j → W.cell? ⟨sb, k, none⟩ = some (.int .i64 m)) (hj : 0 < j) (hn : n + j ≤ 1000000) (hB : B ≤ W.heap.size)
    (h : ∀ v' w', OwnI w' B v' (List.replicate (n + j) m) → (∀ y k, OwnI W B y (List.replicate k m) → OwnI w' B y (List.replicate k m)) → W.grownBy w' v.ownBlock → (v'.ownBlock = v.ownBlock ∨ v'.ownBlock = some W.heap.size) → wpList P ops Q rest (a.put o.dst v') w') : wpList P ops Q (o :: rest) a W := by
  obtain ⟨i0, hi, hz0, hz1, hz2⟩ := info_parts hinf
  obtain ⟨v', w', hrun, h1, h2, h3, h4⟩ := run_append_marks (P := P) W B t o.type 3 i0 ht hi hz0 hz1 hz2 rfl m n j v hown ⟨sb, 0, none⟩ c (fun k hk => by rw [Addr.add_lit, Nat.zero_add]; exact hsrc k hk) hj hn hB
  refine wpList_plain hgd fun K hK => ?_
  unfold Oper.wp execOp
  simp only [ho, resolve, invoke, builtin, Sem.run_bind, Sem.run_pure, Result.andThen_ok, List.map_toArray, List.map_cons, List.map_nil, hs, hx, hrun]
  exact hK _ _ (h v' w' h1 h2 h3 h4)
end
end Go.Proofs.Ytnfaofldjoobgaa
