/- A switch over ranges of one integer: read off the code, once for all. -/
import Derived.Test.YtipnifenahhkoaaDoorTab
namespace Go.Proofs.YtipnifenahhkoaaDoor
open Go.RowKit

namespace Sw
variable {P : Program} {o : Oper} {b : Act} {w : World} {K : Act → World → Prop} {Q : Exit → Act → World → Prop}

theorem move_wp {s : Nat} (ho : o.op = .move (.tmp s)) : o.wp P b w K Q = K (b.put o.dst (b.eval (.tmp s))) w := by
  unfold Oper.wp execOp
  simp only [ho]
  rfl
theorem assign_wp {x : Operand} (ho : o.op = .assign x) : o.wp P b w K Q = K (b.put o.dst (b.eval x)) w := by
  unfold Oper.wp execOp
  simp only [ho]
  rfl
theorem pick_wp {s : Nat} {x y : Operand} {t : Bool} (ho : o.op = .pick (.tmp s) x y) (hs : b.eval (.tmp s) = .bool t) : o.wp P b w K Q = K (b.put o.dst (if t then b.eval x else b.eval y)) w := by
  unfold Oper.wp execOp
  simp only [ho, hs]
  cases t <;> simp [asBool, Oper.upon]
theorem geq_wp {s : Nat} {ty ty' : TypeId} {n x : Int} (ho : o.op = .binOp .geq ty (.tmp s) (.const (.int .i64 n)) ty') (hs : b.eval (.tmp s) = .int .i64 x) : o.wp P b w K Q = K (b.put o.dst (.bool (decide (n ≤ x)))) w := by
  unfold Oper.wp execOp
  simp only [ho, hs]
  simp [eqGuard, binOp, Op.intCmp, Oper.upon, Act.eval]
theorem leq_wp {s : Nat} {ty ty' : TypeId} {n x : Int} (ho : o.op = .binOp .leq ty (.tmp s) (.const (.int .i64 n)) ty') (hs : b.eval (.tmp s) = .int .i64 x) : o.wp P b w K Q = K (b.put o.dst (.bool (decide (x ≤ n)))) w := by
  unfold Oper.wp execOp
  simp only [ho, hs]
  simp [eqGuard, binOp, Op.intCmp, Oper.upon, Act.eval]
theorem eql_wp {s : Nat} {ty ty' : TypeId} {n x : Int} (ho : o.op = .binOp .eql ty (.tmp s) (.const (.int .i64 n)) ty') (hs : b.eval (.tmp s) = .int .i64 x) : o.wp P b w K Q = K (b.put o.dst (.bool (x == n))) w := by
  unfold Oper.wp execOp
  simp only [ho, hs]
  simp [eqGuard, binOp, Op.intCmp, Oper.upon, Act.eval]

/-- A frame of N slots, the number x in slot 0. -/
def Fr (N : Nat) (x : Int) (b : Act) : Prop := b.tmps.size = N ∧ b.eval (.tmp 0) = .int .i64 x ∧ b.defers = []

theorem eval_put (b : Act) (d s : Nat) (v : Value) (hd : d < b.tmps.size) : (b.put (some d) v).eval (.tmp s) = if s = d then v else b.eval (.tmp s) := by
  simp only [Act.put, Act.eval, Array.getD_eq_getD_getElem?, Array.getElem?_setIfInBounds]
  by_cases h : d = s
  · subst h; simp [hd]
  · simp [h, Ne.symm h]
theorem Fr.put {N : Nat} {x : Int} {b : Act} (h : Fr N x b) (d : Nat) (v : Value) (h0 : 0 < d) (hN : d < N) : Fr N x (b.put (some d) v) := by
  obtain ⟨h1, h2, h3⟩ := h
  refine ⟨by simp [Act.put, h1], ?_, h3⟩
  rw [eval_put _ _ _ _ (by omega), if_neg (by omega)]
  exact h2
theorem Fr.at {N : Nat} {x : Int} {b : Act} (h : Fr N x b) (d s : Nat) (v : Value) (hN : d < N) : (b.put (some d) v).eval (.tmp s) = if s = d then v else b.eval (.tmp s) := eval_put b d s v (by rw [h.1]; exact hN)
theorem yielded_at {ops : Array Oper} {b : Act} {j : Nat} {d : Nat} {t : Bool} (hj : (ops[j]?).bind (·.dst) = some d) (hd : d < b.tmps.size) (h : b.eval (.tmp d) = .bool t) : yielded ops b.tmps j = some t := by
  unfold yielded
  rw [hj]
  have : b.tmps[d]? = some (.bool t) := by
    simp only [Act.eval, Array.getD_eq_getD_getElem?] at h
    rw [Array.getElem?_eq_getElem hd] at h ⊢
    simpa using h
  simp [this]

/-- The code tests x against ranges and leaves the answer in slot r. -/
def Ch (P : Program) (N : Nat) (r : Nat) (c : Code) (l : List (Int × Int)) : Prop :=
  ∀ (x : Int) (w : World) (b : Act) (Q : Exit → Act → World → Prop), Fr N x b → (∀ b', Fr N x b' → b'.eval (.tmp r) = .bool (l.any fun i => decide (i.1 ≤ x) && decide (x ≤ i.2)) → Q .normal b' w) → c.wp P Q b w

theorem ch_eq {N id : Nat} {k r : Nat} {n : Int} {ty ty' t1 t2 t3 : TypeId} {p1 p2 p3 : String} {e1 e2 e3 : Array Edge} (hk : 0 < k) (hkN : k + 1 < N) (hr : 0 < r) (hrN : r < N) :
    Ch P N r (.region id #[⟨some k, .move (.tmp 0), t1, p1, e1, none⟩, ⟨some (k + 1), .binOp .eql ty (.tmp k) (.const (.int .i64 n)) ty', t2, p2, e2, none⟩, ⟨some r, .assign (.tmp (k + 1)), t3, p3, e3, none⟩] false) [(n, n)] := by
  intro x w b Q hF hQ
  refine wp_region_lit (wpList_plain rfl fun K hK => ?_)
  rw [move_wp rfl]
  apply hK
  have F1 := hF.put k (b.eval (.tmp 0)) hk (by omega)
  refine wpList_plain rfl fun K hK => ?_
  rw [eql_wp (x := x) rfl (by rw [hF.at _ _ _ (by omega), if_pos rfl]; exact hF.2.1)]
  apply hK
  have F2 := F1.put (k + 1) (.bool (x == n)) (by omega) hkN
  refine wpList_plain rfl fun K hK => ?_
  rw [assign_wp rfl]
  apply hK
  refine wpList_nil (hQ _ (F2.put r _ hr hrN) ?_)
  rw [F2.at _ _ _ hrN, if_pos rfl, F1.at _ _ _ hkN, if_pos rfl]
  congr 1
  simp only [List.any_cons, List.any_nil, Bool.or_false]
  rw [Bool.eq_iff_iff]
  simp
  omega

theorem ch_rg {N id : Nat} {k r : Nat} {lo hi : Int} {ty ty' ty2 ty2' t1 t2 t3 t4 t5 t6 t7 : TypeId} {p1 p2 p3 p4 p5 p6 p7 : String} {e1 e2 e3 e4 e5 e6 e7 : Array Edge} (hk : 0 < k) (hkN : k + 5 < N) (hr : 0 < r) (hrN : r < N) :
    Ch P N r (.region id #[⟨some k, .move (.tmp 0), t1, p1, e1, none⟩, ⟨some (k + 1), .binOp .geq ty (.tmp k) (.const (.int .i64 lo)) ty', t2, p2, e2, none⟩, ⟨some (k + 2), .move (.tmp (k + 1)), t3, p3, e3, none⟩,
      ⟨some (k + 3), .move (.tmp 0), t4, p4, e4, some (2, true)⟩, ⟨some (k + 4), .binOp .leq ty2 (.tmp (k + 3)) (.const (.int .i64 hi)) ty2', t5, p5, e5, some (2, true)⟩,
      ⟨some (k + 5), .pick (.tmp (k + 2)) (.tmp (k + 4)) (.const (.bool false)), t6, p6, e6, none⟩, ⟨some r, .assign (.tmp (k + 5)), t7, p7, e7, none⟩] false) [(lo, hi)] := by
  intro x w b Q hF hQ
  refine wp_region_lit (wpList_plain rfl fun K hK => ?_)
  rw [move_wp rfl]
  apply hK
  have F1 := hF.put k (b.eval (.tmp 0)) hk (by omega)
  refine wpList_plain rfl fun K hK => ?_
  rw [geq_wp (x := x) rfl (by rw [hF.at _ _ _ (by omega), if_pos rfl]; exact hF.2.1)]
  apply hK
  have F2 := F1.put (k + 1) (.bool (decide (lo ≤ x))) (by omega) (by omega)
  refine wpList_plain rfl fun K hK => ?_
  rw [move_wp rfl]
  apply hK
  have e2 : ((b.put (some k) (b.eval (.tmp 0))).put (some (k + 1)) (.bool (decide (lo ≤ x)))).eval (.tmp (k + 1)) = .bool (decide (lo ≤ x)) := by rw [F1.at _ _ _ (by omega), if_pos rfl]
  rw [e2]
  have F3 := F2.put (k + 2) (.bool (decide (lo ≤ x))) (by omega) (by omega)
  have e3 := F2.at (k + 2) (k + 2) (.bool (decide (lo ≤ x))) (by omega)
  rw [if_pos rfl] at e3
  generalize ((b.put (some k) (b.eval (.tmp 0))).put (some (k + 1)) (.bool (decide (lo ≤ x)))).put (some (k + 2)) (.bool (decide (lo ≤ x))) = b3 at *
  by_cases hlo : lo ≤ x
  · have hd : decide (lo ≤ x) = true := by simp [hlo]
    rw [hd] at e3
    refine wpList_step fun K hK => ?_
    rw [if_pos (by unfold Region.wanted; simp only; rw [yielded_at (d := k + 2) rfl (by rw [F3.1]; omega) e3]; rfl), move_wp rfl]
    apply hK
    have F4 := F3.put (k + 3) (b3.eval (.tmp 0)) (by omega) (by omega)
    have e4 : (b3.put (some (k + 3)) (b3.eval (.tmp 0))).eval (.tmp (k + 2)) = .bool true := by rw [F3.at _ _ _ (by omega), if_neg (by omega)]; exact e3
    refine wpList_step fun K hK => ?_
    rw [if_pos (by unfold Region.wanted; simp only; rw [yielded_at (d := k + 2) rfl (by rw [F4.1]; omega) e4]; rfl), leq_wp (x := x) rfl (by rw [F3.at _ _ _ (by omega), if_pos rfl]; exact F3.2.1)]
    apply hK
    have F5 := F4.put (k + 4) (.bool (decide (x ≤ hi))) (by omega) (by omega)
    have e5 : ((b3.put (some (k + 3)) (b3.eval (.tmp 0))).put (some (k + 4)) (.bool (decide (x ≤ hi)))).eval (.tmp (k + 2)) = .bool true := by rw [F4.at _ _ _ (by omega), if_neg (by omega)]; exact e4
    refine wpList_plain rfl fun K hK => ?_
    rw [pick_wp (t := true) rfl e5, if_pos rfl, F4.at _ _ _ (by omega), if_pos rfl]
    apply hK
    have F6 := F5.put (k + 5) (.bool (decide (x ≤ hi))) (by omega) (by omega)
    refine wpList_plain rfl fun K hK => ?_
    rw [assign_wp rfl]
    apply hK
    refine wpList_nil (hQ _ (F6.put r _ hr hrN) ?_)
    rw [F6.at _ _ _ hrN, if_pos rfl, F5.at _ _ _ (by omega), if_pos rfl]
    simp [hlo]
  · have hd : decide (lo ≤ x) = false := by simp; omega
    rw [hd] at e3
    refine wpList_skip (by unfold Region.wanted; simp only; rw [yielded_at (d := k + 2) rfl (by rw [F3.1]; omega) e3]; rfl) ?_
    have F4 := F3.put (k + 3) undef (by omega) (by omega)
    have e4 : (b3.put (some (k + 3)) undef).eval (.tmp (k + 2)) = .bool false := by rw [F3.at _ _ _ (by omega), if_neg (by omega)]; exact e3
    refine wpList_skip (by unfold Region.wanted; simp only; rw [yielded_at (d := k + 2) rfl (by rw [F4.1]; omega) e4]; rfl) ?_
    have F5 := F4.put (k + 4) undef (by omega) (by omega)
    have e5 : ((b3.put (some (k + 3)) undef).put (some (k + 4)) undef).eval (.tmp (k + 2)) = .bool false := by rw [F4.at _ _ _ (by omega), if_neg (by omega)]; exact e4
    refine wpList_plain rfl fun K hK => ?_
    rw [pick_wp (t := false) rfl e5, if_neg (by simp)]
    apply hK
    show wpList _ _ _ _ (Act.put _ (some (k + 5)) (Value.bool false)) _
    have F6 := F5.put (k + 5) (.bool false) (by omega) (by omega)
    refine wpList_plain rfl fun K hK => ?_
    rw [assign_wp rfl]
    apply hK
    refine wpList_nil (hQ _ (F6.put r _ hr hrN) ?_)
    rw [F6.at _ _ _ hrN, if_pos rfl, F5.at _ _ _ (by omega), if_pos rfl]
    simp [hd]

theorem ch_cons {N : Nat} {r : Nat} {c d : Code} {i : Int × Int} {l : List (Int × Int)} (hc : Ch P N r c [i]) (hd : Ch P N r d l) : Ch P N r (.seq c (.cond (.tmp r) .skip d)) (i :: l) := by
  intro x w b Q hF hQ
  refine wp_seq (hc x w b _ hF fun b' hF' he => ?_)
  simp only [List.any_cons, List.any_nil, Bool.or_false] at he
  cases ht : (decide (i.1 ≤ x) && decide (x ≤ i.2)) with
  | true =>
    rw [ht] at he
    exact wp_cond_true he (wp_skip (hQ b' hF' (by rw [he, List.any_cons, ht]; rfl)))
  | false =>
    rw [ht] at he
    refine wp_cond_false he (hd x w b' Q hF' fun b'' hF'' he' => hQ b'' hF'' ?_)
    rw [he', List.any_cons, ht]
    rfl

/-- The first case whose ranges hold x. -/
def pick (cs : List (List (Int × Int) × Value)) (x : Int) : Option Value := (cs.find? fun c => c.1.any fun i => decide (i.1 ≤ x) && decide (x ≤ i.2)).map (·.2)

/-- A switch: the case that holds x lays its value in slot 2 and returns; else it goes on. -/
def Cs (P : Program) (N : Nat) (c : Code) (cs : List (List (Int × Int) × Value)) : Prop :=
  ∀ (x : Int) (w : World) (b : Act) (Q : Exit → Act → World → Prop), Fr N x b → (∀ v, pick cs x = some v → ∀ b', Fr N x b' → b'.eval (.tmp 2) = v → Q .ret b' w) → (pick cs x = none → ∀ b', Fr N x b' → Q .normal b' w) → c.wp P Q b w

theorem cs_nil {N : Nat} : Cs P N .skip [] := fun _ _ b _ hF _ hn => wp_skip (hn rfl b hF)
theorem cs_cons {N id : Nat} {r : Nat} {c d : Code} {v : Value} {t1 : TypeId} {p1 : String} {e1 : Array Edge} {l : List (Int × Int)} {cs : List (List (Int × Int) × Value)} (h2 : 2 < N) (hc : Ch P N r c l) (hd : Cs P N d cs) :
    Cs P N (.seq c (.cond (.tmp r) (.seq (.region id #[⟨some 2, .assign (.const v), t1, p1, e1, none⟩] false) .ret) d)) ((l, v) :: cs) := by
  intro x w b Q hF hv hn
  refine wp_seq (hc x w b _ hF fun b' hF' he => ?_)
  cases ht : (l.any fun i => decide (i.1 ≤ x) && decide (x ≤ i.2)) with
  | true =>
    rw [ht] at he
    refine wp_cond_true he (wp_seq (wp_region_lit (wpList_plain rfl fun K hK => ?_)))
    rw [assign_wp rfl]
    apply hK
    refine wpList_nil (wp_ret (hv v (by simp [pick, ht]) _ (hF'.put 2 _ (by omega) h2) ?_))
    rw [hF'.at _ _ _ h2, if_pos rfl]
    rfl
  | false =>
    rw [ht] at he
    have e : pick ((l, v) :: cs) x = pick cs x := by simp [pick, ht]
    rw [e] at hv hn
    exact wp_cond_false he (hd x w b' Q hF' hv hn)

/-- The whole body. -/
theorem body {N id id0 id2 : Nat} {c : Code} {v0 v : Value} {t1 t2 : TypeId} {p1 p2 : String} {e1 e2 : Array Edge} {cs : List (List (Int × Int) × Value)} (h2 : 2 < N) (hc : Cs P N c cs) {x : Int} {w : World} {b : Act} (hF : Fr N x b)
    (hQ : ∀ b', b'.defers = [] → b'.eval (.tmp 2) = (pick cs x).getD v → Q .ret b' w) :
    (Code.seq (.region id #[⟨some 2, .assign (.const v0), t1, p1, e1, none⟩] false) (.seq (.block id0 c) (.seq (.region id2 #[⟨some 2, .assign (.const v), t2, p2, e2, none⟩] false) .ret))).wp P Q b w := by
  refine wp_seq (wp_region_lit (wpList_plain rfl fun K hK => ?_))
  rw [assign_wp rfl]
  apply hK
  have F1 := hF.put 2 (b.eval (.const v0)) (by omega) h2
  refine wpList_nil (wp_seq (wp_block (hc x w _ _ F1 (fun u hu b' hF' he => ?_) (fun hu b' hF' => ?_))))
  · exact hQ b' hF'.2.2 (by rw [he, hu]; rfl)
  · refine wp_seq (wp_region_lit (wpList_plain rfl fun K hK => ?_))
    rw [assign_wp rfl]
    apply hK
    refine wpList_nil (wp_ret (hQ _ (hF'.put 2 _ (by omega) h2).2.2 ?_))
    rw [hF'.at _ _ _ h2, if_pos rfl, hu]
    rfl
end Sw
end Go.Proofs.YtipnifenahhkoaaDoor
