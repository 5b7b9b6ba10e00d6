import Derived.Test.YtmldfjhfgaggpaaJ15
import Derived.Test.YtmldfjhfgaggpaaJ04
/- The law's shown. -/
namespace Go.Proofs.Ytmldfjhfgaggpaa
open Go.RowKit

def fl2 (l : List (Rg × Value)) : List Value := l.flatMap (fun p => [Value.int .i64 p.1.k, p.2])
theorem fl2_len : ∀ l : List (Rg × Value), (fl2 l).length = l.length * 2
  | [] => rfl
  | p :: l => by
    have := fl2_len l
    unfold fl2 at this ⊢
    simp only [List.flatMap_cons, List.length_append, List.length_cons, List.length_nil] at this ⊢
    omega
theorem fl2_at : ∀ (l : List (Rg × Value)) (i : Nat) (p : Rg × Value), l[i]? = some p → (fl2 l)[i * 2]? = some (Value.int .i64 p.1.k) ∧ (fl2 l)[i * 2 + 1]? = some p.2
  | [], i, p, h => by simp at h
  | q :: l, 0, p, h => by
    simp at h
    subst h
    unfold fl2
    simp
  | q :: l, i + 1, p, h => by
    simp at h
    have := fl2_at l i p h
    unfold fl2 at this ⊢
    simp only [List.flatMap_cons]
    rw [show (i + 1) * 2 = 2 + i * 2 by omega, List.getElem?_append_right (by simp), show 2 + i * 2 + 1 = 2 + (i * 2 + 1) by omega, List.getElem?_append_right (by simp)]
    simpa using this
/-- p lies in another block than e. -/
def Av (p e : Value) : Prop := ∀ k, p.ownBlock = some k → e.ownBlock ≠ some k
/-- A row of Regs of the call's own, whose texts are of its own and lie elsewhere than e. -/
def OwnG (w : World) (base : Nat) (v : Value) (gs : List Rg) (e : Value) : Prop := ∃ l : List (Rg × Value), l.map Prod.fst = gs ∧ w.ownsRow base 31 2 v l.length (fl2 l) ∧ ∀ p ∈ l, OwnI w base p.2 p.1.t ∧ Av p.2 e
theorem OwnG.nil (w : World) (base : Nat) (e : Value) : OwnG w base (.slice none 0 0) [] e := ⟨[], rfl, ⟨rfl, .inl ⟨rfl, rfl⟩⟩, fun p h => by cases h⟩
theorem OwnG.ext {w w' : World} {base : Nat} {v e : Value} {gs : List Rg} (h : OwnG w base v gs e) (hb : Below w.heap.size w w') : OwnG w' base v gs e := by
  obtain ⟨l, h1, h2, h3⟩ := h
  exact ⟨l, h1, own_ext h2 hb, fun p hp => ⟨(h3 p hp).1.ext hb, (h3 p hp).2⟩⟩
theorem Try.info_reg : (Try.prog.info? 31).map (fun i => (i.zero, i.size, i.bytes)) = some (some (.agg #[.int .i64 0, .slice none 0 0]), 2, 32) := by kernel_rfl
/-- A row of ints stays when another row, of Regs, grows. -/
theorem OwnI.keep {w w' : World} {base base' size n : Nat} {e : TypeId} {v y : Value} {xs : List Value} {r : List Int} (hy : OwnI w base y r) (h2 : w.ownsRow base' e size v n xs) (k2 : w.grownBy w' v.ownBlock) (he : e ≠ 3) : OwnI w' base y r := by
  obtain ⟨e1, e2⟩ := hy
  refine ⟨e1, ?_⟩
  rcases e2 with e2 | ⟨q, cap, cur, hv, hbq, hg, rr⟩
  · exact .inl e2
  · refine .inr ⟨q, cap, cur, hv, hbq, (k2.block q (Array.getElem?_eq_some_iff.1 hg).1 (fun e => ?_)).trans hg, rr⟩
    rcases h2.2 with ⟨rfl, _⟩ | ⟨q', cap', cur', rfl, _, hg', _⟩
    · cases e
    · cases e
      rw [hg] at hg'
      cases hg'
      exact he rfl
set_option maxRecDepth 100000 in
/-- append(l, Reg) as an operation of a drawn region. -/
theorem wp_append_reg (W : World) {op : Oper} {a : Act} {K : Act → World → Prop} {Q : Exit → Act → World → Prop} (s x : Operand) (ho : op.op = .call { callee := .builtin .append, args := #[s, x], argTypes := #[34, 34] })
    (base : Nat) (v : Value) (gs : List Rg) (ev : Value) (hs : a.eval s = v) (hown : OwnG W base v gs ev) (g : Nat) (kk : Int) (u : Value) (tt : List Int) (hx : a.eval x = .slice (some ⟨g, 0, none⟩) 1 1) (c0 : W.cell? ⟨g, 0, none⟩ = some (.int .i64 kk)) (c1 : W.cell? ⟨g, 1, none⟩ = some u) (hu : OwnI W base u tt) (hav : Av u ev) (hl : gs.length ≤ 1000) (hbase : base ≤ W.heap.size)
    (h : ∀ v' w', OwnG w' base v' (gs ++ [⟨kk, tt⟩]) ev → Below base W w' → W.grownBy w' v.ownBlock → (∀ y r, OwnI W base y r → OwnI w' base y r) → K (a.put op.dst v') w') : op.wp Try.prog a W K Q := by
  obtain ⟨i0, hi, hz0, hz1, hz2⟩ := info_parts Try.info_reg
  obtain ⟨l, h1, h2, h3⟩ := hown
  have hll : l.length = gs.length := by rw [← h1, List.length_map]
  obtain ⟨au, nu, cu, eu⟩ := hu.form
  obtain ⟨v', w', hrun, k1, k2, _⟩ := run_append_own (P := Try.prog) W base 34 op.type 31 i0 (.agg #[.int .i64 0, .slice none 0 0]) 2 32 Try.underlying34 hi hz0 hz1 hz2 rfl (by decide) v l.length (fl2 l) h2 ⟨g, 0, none⟩ 1 1 [.int .i64 kk, u] rfl (fun j q hj => by
    match j, hj with
    | 0, hj => simp at hj; subst hj; exact c0
    | 1, hj => simp at hj; subst hj; rw [Addr.add_lit]; exact c1
    | n + 2, hj => simp at hj) (fun q hq => by simp at hq; rcases hq with rfl | rfl; rfl; subst eu; rfl) (by unfold maxLen; omega) (by omega) hbase
  unfold Oper.wp execOp
  simp only [ho, resolve, invoke, builtin, Sem.run_bind, Sem.run_pure, Result.andThen_ok, List.map_toArray, List.map_cons, List.map_nil, hs, hx, hrun]
  have kp : ∀ y r, OwnI W base y r → OwnI w' base y r := fun y r hy => hy.keep h2 k2 (by decide)
  refine h v' w' ⟨l ++ [(⟨kk, tt⟩, u)], by rw [List.map_append, h1]; rfl, ?_, fun p hp => ?_⟩ ((Below.refl _ _).grown k2 hbase (fun k hk => (World.ownsRow.lt h2 k hk).1)) k2 kp
  · rw [List.length_append, show fl2 (l ++ [(⟨kk, tt⟩, u)]) = fl2 l ++ [.int .i64 kk, u] by unfold fl2; rw [List.flatMap_append]; rfl]
    exact k1
  · rcases List.mem_append.1 hp with hp | hp
    · exact ⟨kp _ _ (h3 p hp).1, (h3 p hp).2⟩
    · simp at hp; subst hp; exact ⟨kp _ _ hu, hav⟩
section
variable {W : World} {ops : Array Oper} {rest : List Oper} {o : Oper} {a : Act} {Q : Exit → Act → World → Prop}
set_option maxRecDepth 100000 in
/-- append(errs, e): the row of Regs stays. -/
theorem wpl_err (hgd : o.guard = none) (s x : Operand) (ho : o.op = .call { callee := .builtin .append, args := #[s, x], argTypes := #[29, 29] })
    (base : Nat) (v : Value) (gs : List Rg) (ev : Value) (el : List Int) (hs : a.eval s = ev) (hg : OwnG W base v gs ev) (he : OwnI W base ev el) (g : Nat) (er : Int) (hx : a.eval x = .slice (some ⟨g, 0, none⟩) 1 1) (hc : W.cell? ⟨g, 0, none⟩ = some (.int .i64 er)) (hl : el.length ≤ 1000) (hbase : base ≤ W.heap.size)
    (h : ∀ v' w', OwnG w' base v gs v' → OwnI w' base v' (el ++ [er]) → Below base W w' → wpList Try.prog ops Q rest (a.put o.dst v') w') : wpList Try.prog ops Q (o :: rest) a W := by
  obtain ⟨i0, hi, hz0, hz1, hz2⟩ := info_parts Try.info_i64
  refine wpList_append_blk W hgd s x 29 ho base 3 i0 (.int .i64 0) 1 8 Try.underlying29 hi hz0 hz1 hz2 rfl (by decide) ev el.length (el.map (Value.int .i64)) hs he ⟨g, 0, none⟩ 1 1 [.int .i64 er] hx rfl (fun j w' hj => ?_) (one_i64 er) (by unfold maxLen; omega) (by omega) hbase (fun _ => by decide) ?_
  · cases j with
    | zero => simp at hj; subst hj; exact hc
    | succ j => simp at hj
  intro v' w' k1 k2 k3
  obtain ⟨l, h1, h2, h3⟩ := hg
  refine h v' w' ⟨l, h1, ?_, fun p hp => ?_⟩ ?_ ((Below.refl _ _).grown k2 hbase (fun k hk => (World.ownsRow.lt he k hk).1))
  · obtain ⟨e1, e2⟩ := h2
    refine ⟨e1, ?_⟩
    rcases e2 with e2 | ⟨q, cap, cur, hv, hbq, hgq, rr⟩
    · exact .inl e2
    · refine .inr ⟨q, cap, cur, hv, hbq, (k2.block q (Array.getElem?_eq_some_iff.1 hgq).1 (fun e => ?_)).trans hgq, rr⟩
      rcases he.2 with ⟨rfl, _⟩ | ⟨q', cap', cur', rfl, _, hg', _⟩
      · cases e
      · cases e
        rw [hgq] at hg'
        cases hg'
  · obtain ⟨p1, p2⟩ := h3 p hp
    refine ⟨World.ownsRow.kept (row := ev.ownBlock) p1 k2 ?_, fun k hk => ?_⟩
    · cases hpb : p.2.ownBlock with
      | none => exact .inl rfl
      | some k => exact .inr (fun e => p2 k hpb e.symm)
    · rcases k3 with k3 | k3
      · rw [k3]; exact p2 k hk
      · rw [k3]
        intro e
        cases e
        have := (World.ownsRow.lt p1 W.heap.size hk).2
        omega
  · unfold OwnI
    rw [List.length_append, List.map_append]
    exact k1
end
def gR (x : Int × Option Rg) : Rg := match x.2 with
  | none => ⟨0, []⟩
  | some y => y
theorem GtR.one {w : World} {x : Int × Option Rg} {e : Ending} {w' : World} (h : GtR w x e w') : (∃ u, e = .returned (.tuple #[.agg #[.int .i64 (gR x).k, u], .int .i64 x.1]) ∧ OwnI w' w.heap.size u (gR x).t) ∧ Below w.heap.size w w' := by
  obtain ⟨er, o⟩ := x
  cases o with
  | none => exact ⟨⟨_, h.1, OwnI.nil _ _⟩, h.2⟩
  | some y => exact h
theorem getB_len {F : Nat → Prop} {w : World} {b bm N : Nat} {m : Int → Option Rg} {p n : Int} (h : Bk F w b bm N m p) (hn : In64 n) : (gR (getB m p n)).t.length ≤ 140000 := by
  unfold getB
  split
  · have hk : In64 (sml (if unB n = true then p else n)) := by
      split
      · exact sml_in h.pin
      · exact sml_in hn
    cases hm : m (sml (if unB n = true then p else n)) with
    | none => simp [gR]
    | some r =>
      obtain ⟨_, _, _, D, _, he⟩ := h
      have := he _ hk
      rw [hm] at this
      obtain ⟨_, _, _, _, _, h6, _⟩ := this
      exact h6
  · simp [gR]
def shG (m : Int → Option Rg) (p : Int) (k : Nat) : List Rg := (List.range k).map (fun (i : Nat) => gR (getB m p ((i : Int) - 2)))
def shE (m : Int → Option Rg) (p : Int) (k : Nat) : List Int := (List.range k).map (fun (i : Nat) => (getB m p ((i : Int) - 2)).1)
theorem shG_succ (m : Int → Option Rg) (p : Int) (k : Nat) : shG m p (k + 1) = shG m p k ++ [gR (getB m p ((k : Int) - 2))] := by unfold shG; rw [List.range_succ, List.map_append]; rfl
theorem shE_succ (m : Int → Option Rg) (p : Int) (k : Nat) : shE m p (k + 1) = shE m p k ++ [(getB m p ((k : Int) - 2)).1] := by unfold shE; rw [List.range_succ, List.map_append]; rfl
theorem own_form {w : World} {base e size n : Nat} {v : Value} {xs : List Value} (h : w.ownsRow base e size v n xs) : ∀ k, v.ownBlock = some k → k < w.heap.size := fun k hk => (World.ownsRow.lt h k hk).2

set_option maxRecDepth 100000 in
set_option maxHeartbeats 8000000 in
theorem shown_any {F : Nat → Prop} (w : World) (b bm N : Nat) (m : Int → Option Rg) (p : Int) (h : Bk F w b bm N m p) : Calls Try.prog 17 #[.pointer (some ⟨b, 0, none⟩)] w fun e w' => ∃ l ev, e = .returned (.tuple #[l, ev]) ∧ OwnG w' w.heap.size l (shG m p 132) ev ∧ OwnI w' w.heap.size ev (shE m p 132) ∧ Below w.heap.size w w' := by
  have HBK := hidIt h
  clear h
  go_enter Try.func17, Try.ntmps17
  go_wp2_with fail
  go_loopw [4, 5, 6] (fun l ev i wr => ∃ k : Nat, k ≤ 132 ∧ i = .int .i64 ((k : Int) - 2) ∧ OwnG wr w.heap.size l (shG m p k) ev ∧ OwnI wr w.heap.size ev (shE m p k) ∧ Below w.heap.size w wr) (fun _ _ i _ => 132 - ((RowKit.intOf i) + 2).toNat)
  case atStart => exact ⟨0, Nat.zero_le _, rfl, OwnG.nil _ _ _, OwnI.nil _ _, Below.refl _ _⟩
  case round =>
    obtain ⟨l, rfl⟩ : ∃ l, l = u4 := ⟨_, rfl⟩
    obtain ⟨ev, rfl⟩ : ∃ l, l = u5 := ⟨_, rfl⟩
    obtain ⟨k, hk, rfl, hog, hoe, hbw⟩ := hrel
    have HOG := hidIt hog
    have HOE := hidIt hoe
    have HBW := hidIt hbw
    have HGLN := hidIt (show (shG m p k).length ≤ 1000 by unfold shG; simp; omega)
    have HELN := hidIt (show (shE m p k).length ≤ 1000 by unfold shE; simp; omega)
    clear hog hoe hbw
    by_cases hlt : (k : Int) - 2 < 130
    · have hin : In64 ((k : Int) - 2) := In64.of (by omega) (by omega)
      have HTT := hidIt (show (gR (getB m p ((k : Int) - 2))).t.length * 8 ≤ 140737488355328 by have := getB_len (n := (k : Int) - 2) HBK.out hin; omega)
      have GT := hidIt ((Get_any wr b bm N m p ((k : Int) - 2) (HBK.out.ext HBW.out) hin).mono (fun e w' h => GtR.one h))
      have HGS := hidIt (shG_succ m p k)
      have HES := hidIt (shE_succ m p k)
      have hwr : IntKind.i64.wrap ((k : Int) - 2 + 1) = (k : Int) - 2 + 1 := by rw [IntKind.wrap_i64]; omega
      have HNEXT := hidIt (show Value.int .i64 ((k : Int) - 2 + 1) = .int .i64 (((k + 1 : Nat) : Int) - 2) by congr 1; omega)
      generalize shG m p k = gl at *
      generalize shE m p k = el at *
      generalize getB m p ((k : Int) - 2) = gb at *
      generalize hki : (k : Int) - 2 = ki at *
      obtain ⟨er, ob⟩ := gb
      dsimp only at *
      generalize gR (er, ob) = gr at *
      obtain ⟨kk, tt⟩ := gr
      dsimp only at *
      clear hin
      go_upto_region 7 with (go_at_call 20; refine GT.out.mono ?_; rintro e w1 ⟨⟨u, rfl, hu⟩, hb1⟩; obtain ⟨ua, un, uc, eu⟩ := hu.form; subst eu; have HU := hidIt hu; have HB1 := hidIt hb1; clear hu hb1; (try dsimp only))
      generalize hw2 : World.alloc _ _ = w2
      have HB02 : Hid (Below w1.heap.size w1 w2) := by unfold Hid; rw [← hw2]; exact ext_alloc (Below.refl _ _) _
      have HK2 : Hid (w2.heap[w1.heap.size]? = some (.cells #[.int .i64 kk, .slice ua un uc] 31 (0, 0))) := by unfold Hid; rw [← hw2]; exact heap_alloc_new _ _
      clear hw2
      have HB12 := hidIt (ext_trans HB1.out HB02.out)
      have HU2 := hidIt (HU.out.rds.ext HB02.out)
      have HAV : Hid (∀ (w9 : World) (a9 : Option Addr) (n9 c9 : Nat), OwnI w9 w2.heap.size (.slice a9 n9 c9) tt → Av (.slice a9 n9 c9) ev) := fun w9 a9 n9 c9 ho q hq e => by
        have h1 := (World.ownsRow.lt ho q hq).1
        have h2 := (World.ownsRow.lt HOE.out q e).2
        have := HB12.out.size
        omega
      have HS : Hid (∀ w', Below w2.heap.size w2 w' → w'.cell? ⟨w1.heap.size, 0, none⟩ = some (.int .i64 kk) ∧ w'.cell? ⟨w1.heap.size, 1, none⟩ = some (.slice ua un uc)) := fun w' hb => by
        have e := (hb.block _ (Array.getElem?_eq_some_iff.1 HK2.out).1).trans HK2.out
        exact ⟨(cells2 e).2.1, (cells2 e).2.2.1⟩
      have HSG : Hid (∀ w' w'', Below w2.heap.size w2 w' → w'.grownBy w'' l.ownBlock → w''.cell? ⟨w1.heap.size, 0, none⟩ = some (.int .i64 kk) ∧ w''.cell? ⟨w1.heap.size, 1, none⟩ = some (.slice ua un uc)) := fun w' w'' hb hg => by
        have e := (hb.block _ (Array.getElem?_eq_some_iff.1 HK2.out).1).trans HK2.out
        have e2 := (hg.block w1.heap.size (Array.getElem?_eq_some_iff.1 e).1 (fun eq => by
          obtain ⟨ll, _, h2, _⟩ := HOG.out
          have := (World.ownsRow.lt h2 w1.heap.size eq.symm).2
          have := HB1.out.size
          omega)).trans e
        exact ⟨(cells2 e2).2.1, (cells2 e2).2.2.1⟩
      have ks := HS.out w2 (Below.refl _ _)
      refine wp_region_held_drew (S := fun w'' => w''.cell? ⟨w1.heap.size, 0, none⟩ = some (.int .i64 kk) ∧ w''.cell? ⟨w1.heap.size, 1, none⟩ = some (.slice ua un uc)) (by kernel_rfl) (ks) (fun hHeld => ?_)
      refine wpAnyH_take (i := 0) (oi := _) (v := ?_) rfl (by kernel_rfl) (by kernel_rfl) (by kernel_rfl) (fun _ _ _ h => h) (Or.inl ⟨by rfl, ?_⟩) (by assumption) ?_
      rotate_left 1
      · intro wq hSw; (try dsimp only at hSw); go_simp; try (with_reducible rfl)
      try simp only [Act.put, List.getElem_toArray, List.getElem_cons_zero, List.setIfInBounds_toArray, List.set_cons_zero, List.set_cons_succ]
      refine wpAnyH_take (i := 1) (oi := _) (v := ?_) rfl (by kernel_rfl) (by kernel_rfl) (by kernel_rfl) (fun _ _ _ h => h) (Or.inl ⟨by rfl, ?_⟩) (by assumption) ?_
      rotate_left 1
      · intro wq hSw; (try dsimp only at hSw); go_simp; try (with_reducible rfl)
      try simp only [Act.put, List.getElem_toArray, List.getElem_cons_succ, List.getElem_cons_zero, List.setIfInBounds_toArray, List.set_cons_zero, List.set_cons_succ]
      refine wpAnyH_take (i := 2) (oi := _) (v := ?_) rfl (by kernel_rfl) (by kernel_rfl) (by kernel_rfl) (fun _ _ _ h => h) (Or.inl ⟨by rfl, ?_⟩) (by assumption) ?_
      rotate_left 1
      · intro wq hSw; (try dsimp only at hSw); go_simp; try (with_reducible rfl)
      try simp only [Act.put, List.getElem_toArray, List.getElem_cons_succ, List.getElem_cons_zero, List.setIfInBounds_toArray, List.set_cons_zero, List.set_cons_succ]
      refine wpAnyH_take (i := 3) (oi := _) (v := ?_) rfl (by kernel_rfl) (by kernel_rfl) (by kernel_rfl) (fun _ _ _ h => h) (Or.inl ⟨by rfl, ?_⟩) (by assumption) ?_
      rotate_left 1
      · intro wq hSw; (try dsimp only at hSw); go_simp; try (with_reducible rfl)
      try simp only [Act.put, List.getElem_toArray, List.getElem_cons_succ, List.getElem_cons_zero, List.setIfInBounds_toArray, List.set_cons_zero, List.set_cons_succ]
      refine wpAnyH_take (i := 4) (oi := _) (v := ?_) rfl (by kernel_rfl) (by kernel_rfl) (by kernel_rfl) (fun _ _ _ h => h) (Or.inl ⟨by rfl, ?_⟩) (by assumption) ?_
      rotate_left 1
      · intro wq hSw; (try dsimp only at hSw); go_simp; try (with_reducible rfl)
      try simp only [Act.put, List.getElem_toArray, List.getElem_cons_succ, List.getElem_cons_zero, List.setIfInBounds_toArray, List.set_cons_zero, List.set_cons_succ]
      refine wpAnyH_ready (rs := [5]) (by kernel_rfl) (by simp) ?_
      refine AllReadyH.cons (o := _) rfl (fun K hK => ?_) AllReadyH.nil
      rw [if_pos (by rfl)]
      refine wp_append_fresh _ _ _ 29 (by rfl) Try.info_i64 Try.underlying29 (by rfl) _ tt (by rfl) (HU2.out.ext (Below.drew (Below.refl _ _))) HTT.out ?_; intro v9 w9 ho9 hb9; obtain ⟨a9, n9, c9, e9⟩ := ho9.form; subst e9; have HO9 := hidIt (show OwnI w9 w2.heap.size (.slice a9 n9 c9) tt from ho9); have HB9 := hidIt (ext_trans (Below.drew (Below.refl w2.heap.size w2)) hb9); clear ho9 hb9 ks; have ks := HS.out w9 HB9.out
      refine hK.out _ _ ?_ (fun hHeld => ?_)
      · (try simp only [World.cell?_drew]); exact ks
      clear hK K
      try simp only [Act.put, List.getElem_toArray, List.getElem_cons_succ, List.getElem_cons_zero, List.setIfInBounds_toArray, List.set_cons_zero, List.set_cons_succ]
      refine wpAnyH_take (i := 6) (oi := _) (v := ?_) rfl (by kernel_rfl) (by kernel_rfl) (by kernel_rfl) (fun _ _ _ h => h) (Or.inl ⟨by rfl, ?_⟩) (by assumption) ?_
      rotate_left 1
      · intro wq hSw; (try dsimp only at hSw); go_simp; try (with_reducible rfl)
      try simp only [Act.put, List.getElem_toArray, List.getElem_cons_succ, List.getElem_cons_zero, List.setIfInBounds_toArray, List.set_cons_zero, List.set_cons_succ]
      refine wpAnyH_ready (rs := [7]) (by kernel_rfl) (by simp) ?_
      refine AllReadyH.cons (o := _) rfl (fun K hK => ?_) AllReadyH.nil
      go_simp
      generalize hwN : World.alloc _ _ = y2; have HB10 : Hid (Below w9.heap.size w9 y2) := (by unfold Hid; rw [← hwN]; exact ext_alloc (Below.refl _ _) _); have HL10 : Hid (y2.heap[w9.heap.size]? = some (.cells #[.int .i64 kk, .slice a9 n9 c9] 31 (0, 0))) := (by unfold Hid; rw [← hwN]; exact heap_alloc_new _ _); clear hwN ks; have HB210 := hidIt (ext_trans HB9.out HB10.out); have ks := HS.out y2 HB210.out; try dsimp only
      refine hK.out _ _ ?_ (fun hHeld => ?_)
      · (try simp only [World.cell?_drew]); exact ks
      clear hK K
      try simp only [Act.put, List.getElem_toArray, List.getElem_cons_succ, List.getElem_cons_zero, List.setIfInBounds_toArray, List.set_cons_zero, List.set_cons_succ]
      refine wpAnyH_ready (rs := [8]) (by kernel_rfl) (by simp) ?_
      refine AllReadyH.cons (o := _) rfl (fun K hK => ?_) AllReadyH.nil
      rw [if_pos (by rfl)]
      refine wp_append_reg _ _ _ (by rfl) w.heap.size l gl ev (by rfl) (HOG.out.ext (ext_trans HB12.out HB210.out)) w9.heap.size kk _ tt (by rfl) (cells2 HL10.out).2.1 (cells2 HL10.out).2.2.1 ((HO9.out.ext HB10.out).le (by have := HBW.out.size; have := HB12.out.size; omega)) (HAV.out _ _ _ _ HO9.out) HGLN.out (by have := HBW.out.size; have := HB12.out.size; have := HB210.out.size; omega) ?_; intro v11 w11 og11 hb11 hg11 kp11; have HOG11 := hidIt og11; have HB11 := hidIt hb11; have HKP := hidIt kp11; clear ks; have ks := HSG.out y2 w11 HB210.out hg11; clear og11 hb11 kp11 hg11
      refine hK.out _ _ ?_ (fun hHeld => ?_)
      · (try simp only [World.cell?_drew]); exact ks
      clear hK K
      try simp only [Act.put, List.getElem_toArray, List.getElem_cons_succ, List.getElem_cons_zero, List.setIfInBounds_toArray, List.set_cons_zero, List.set_cons_succ]
      refine wpAnyH_take (i := 9) (oi := _) (v := ?_) rfl (by kernel_rfl) (by kernel_rfl) (by kernel_rfl) (fun _ _ _ h => h) (Or.inl ⟨by rfl, ?_⟩) (by assumption) ?_
      rotate_left 1
      · intro wq hSw; (try dsimp only at hSw); go_simp; try (with_reducible rfl)
      try simp only [Act.put, List.getElem_toArray, List.getElem_cons_succ, List.getElem_cons_zero, List.setIfInBounds_toArray, List.set_cons_zero, List.set_cons_succ]
      refine wpAnyH_done (by kernel_rfl) ?_ _
      have HOE11 := hidIt (HKP.out _ _ ((HOE.out.ext HB12.out).ext HB210.out))
      have HW11 := hidIt ((HBW.out.trans ((ext_trans HB12.out HB210.out).mono HBW.out.size)).trans HB11.out)
      go_wp2_with (at_builtin; refine wpl_err rfl _ _ rfl w.heap.size v11 (gl ++ [⟨kk, tt⟩]) ev el rfl (HOG11.out.ext (ext_alloc (Below.refl _ _) _)) (HOE11.out.ext (ext_alloc (Below.refl _ _) _)) w11.heap.size er rfl (by rw [cell_of_row _ _ _ _ _ _ (heap_alloc_new _ _)]; rfl) HELN.out (by have := HW11.out.size; simp; omega) ?_; intro v12 w12 og12 oe12 hb12; have HOG12 := hidIt og12; have HOE12 := hidIt oe12; have HB12' := hidIt hb12; clear og12 oe12 hb12)
      go_roundw
      case rel => exact ⟨k + 1, by omega, HNEXT.out, by rw [HGS.out]; exact HOG12.out, by rw [HES.out]; exact HOE12.out, (ext_alloc HW11.out _).trans HB12'.out⟩
      case measure => simp [RowKit.intOf]; omega

    · have hk2 : k = 132 := by omega
      subst hk2
      clear hlt
      go_wp2_with fail
      go_ret2
      exact ⟨_, _, rfl, HOG.out, HOE.out, HBW.out⟩
end Go.Proofs.Ytmldfjhfgaggpaa

/- The law's sameShown. -/
namespace Go.Proofs.Ytmldfjhfgaggpaa
open Go.RowKit

theorem OwnG.row {w : World} {base : Nat} {v e : Value} {gs : List Rg} (h : OwnG w base v gs e) (hn : gs ≠ []) : ∃ g cap, v = .slice (some ⟨g, 0, none⟩) gs.length cap ∧ gs.length ≤ cap ∧ cap ≤ 9223372036854775807 ∧ g < w.heap.size ∧ ∀ (i : Nat) (x : Rg), gs[i]? = some x → w.cell? ⟨g, i * 2, none⟩ = some (.int .i64 x.k) ∧ ∃ u, w.cell? ⟨g, i * 2 + 1, none⟩ = some u ∧ OwnI w base u x.t := by
  obtain ⟨l, h1, h2, h3⟩ := h
  have hll : l.length = gs.length := by rw [← h1, List.length_map]
  rcases id h2.2 with ⟨_, h5⟩ | ⟨g, cap, cur, rfl, _, hg, hc, hm, _⟩
  · exact absurd (List.length_eq_zero_iff.1 (by omega)) hn
  · refine ⟨g, cap, by rw [hll], by omega, by unfold maxLen at hm; exact hm, (Array.getElem?_eq_some_iff.1 hg).1, fun i x hx => ?_⟩
    rw [← h1, List.getElem?_map] at hx
    obtain ⟨p, hp, rfl⟩ := Option.map_eq_some_iff.1 hx
    obtain ⟨q1, q2⟩ := fl2_at l i p hp
    have hcs := World.ownsRow.cells h2 (g := g) (by simp [Value.ownBlock])
    have r1 := hcs (i * 2) _ q1
    have r2 := hcs (i * 2 + 1) _ q2
    rw [Addr.add_lit, Nat.zero_add] at r1 r2
    exact ⟨r1, p.2, r2, (h3 p (List.mem_of_getElem? hp)).1⟩
theorem OwnG.kb {F : Nat → Prop} {b bm N base : Nat} {m : Int → Option Rg} {p : Int} {w w' : World} {v e : Value} {gs : List Rg} (h : OwnG w base v gs e) (k : Kb b bm w w') (hB : Bk F w b bm N m p) : OwnG w' base v gs e := by
  obtain ⟨l, h1, h2, h3⟩ := h
  refine ⟨l, h1, ?_, fun q hq => ⟨(h3 q hq).1.kb k hB, (h3 q hq).2⟩⟩
  obtain ⟨e1, e2⟩ := h2
  refine ⟨e1, ?_⟩
  rcases e2 with e2 | ⟨g, cap, cur, hv, hb, hg, r⟩
  · exact .inl e2
  · refine .inr ⟨g, cap, cur, hv, hb, (k.block (Array.getElem?_eq_some_iff.1 hg).1 (fun e => ?_) (fun e => ?_)).trans hg, r⟩
    · subst e
      rw [hB.1] at hg
      cases hg
    · subst e
      obtain ⟨_, _, _, _, ⟨_, _, hm, _⟩, _⟩ := hB
      rw [hm] at hg
      cases hg
theorem shG_len (m : Int → Option Rg) (p : Int) (k : Nat) : (shG m p k).length = k := by unfold shG; simp

set_option maxRecDepth 100000 in
set_option maxHeartbeats 8000000 in
theorem sameShown_any {F : Nat → Prop} (w : World) (b bm N base : Nat) (m : Int → Option Rg) (p : Int) (l ev : Value) (h : Bk F w b bm N m p) (hl : OwnG w base l (shG m p 132) ev) (he : OwnI w base ev (shE m p 132)) : Calls Try.prog 19 #[.pointer (some ⟨b, 0, none⟩), l, ev] w fun e w' => e = .returned (.bool true) ∧ Below w.heap.size w w' := by
  have SH := hidIt (shown_any w b bm N m p h)
  have hne : shG m p 132 ≠ [] := by intro e; have := congrArg List.length e; rw [shG_len] at this; simp at this
  obtain ⟨g1, cap1, rfl, hcp1, _, hg1, hr1⟩ := hl.row hne
  rw [shG_len] at *
  have HR1 := hidIt hr1
  have HE := hidIt he
  clear h hl he hr1
  go_enter Try.func19, Try.ntmps19
  go_upto_region 2 with (go_at_call 17; refine SH.out.mono ?_; rintro e w1 ⟨l2, ev2, rfl, hog, hoe, hb1⟩; obtain ⟨g2, cap2, hl2, hcp2, _, hg2, hr2⟩ := hog.row hne; rw [shG_len] at hl2 hcp2; subst hl2; have HR2 := hidIt hr2; have HE2 := hidIt hoe; have HB1 := hidIt hb1; clear hog hoe hb1 hr2; (try dsimp only))
  go_wp2_with fail
  go_loopw [9] (fun i wr => ∃ k : Nat, k ≤ 132 ∧ i = .int .i64 k ∧ Below w1.heap.size w1 wr) (fun i _ => 132 - (RowKit.intOf i).toNat)
  case atStart => exact ⟨0, Nat.zero_le _, rfl, Below.refl _ _⟩
  case round =>
    obtain ⟨k, hk, rfl, hbw⟩ := hrel
    have HBW := hidIt hbw
    clear hbw
    by_cases hlt : (k : Int) < 132
    · obtain ⟨x, hx⟩ : ∃ x, (shG m p 132)[k]? = some x := ⟨_, List.getElem?_eq_getElem (by rw [shG_len]; omega)⟩
      obtain ⟨q1, u1, q2, q3⟩ := HR1.out k x hx
      obtain ⟨r1, u2, r2, r3⟩ := HR2.out k x hx
      obtain ⟨a1, n1, c1, e1⟩ := q3.form
      obtain ⟨a2, n2, c2, e2⟩ := r3.form
      subst e1 e2
      have hbb := ext_trans HB1.out HBW.out
      have HS : Hid (∀ w', Below wr.heap.size wr w' → w'.cell? ⟨g1, k * 2, none⟩ = some (.int .i64 x.k) ∧ w'.cell? ⟨g1, k * 2 + 1, none⟩ = some (.slice a1 n1 c1) ∧ w'.cell? ⟨g2, k * 2, none⟩ = some (.int .i64 x.k) ∧ w'.cell? ⟨g2, k * 2 + 1, none⟩ = some (.slice a2 n2 c2)) := fun w' hb => by
        have b1 := ext_trans hbb hb
        have b2 := ext_trans HBW.out hb
        exact ⟨(b1.cell (p := ⟨g1, k * 2, none⟩) hg1).trans q1, (b1.cell (p := ⟨g1, k * 2 + 1, none⟩) hg1).trans q2, (b2.cell (p := ⟨g2, k * 2, none⟩) hg2).trans r1, (b2.cell (p := ⟨g2, k * 2 + 1, none⟩) hg2).trans r2⟩
      have SI : Hid (∀ w', Below wr.heap.size wr w' → Calls Try.prog 26 #[.slice a1 n1 c1, .slice a2 n2 c2] w' fun e w'' => e = .returned (.bool true) ∧ Below w'.heap.size w' w'') := fun w' hb => sameInts_any _ _ x.t w' (q3.ext (ext_trans hbb hb)).rd (r3.ext (ext_trans HBW.out hb)).rd
      have ks := HS.out wr (Below.refl _ _)
      have hkk : (x.k != x.k) = false := by simp
      clear q1 q2 q3 r1 r2 r3 hx hbb
      go_upto_region 5 with fail
      refine wp_region_held_drew (S := fun w'' => w''.cell? ⟨g1, k * 2, none⟩ = some (.int .i64 x.k) ∧ w''.cell? ⟨g1, k * 2 + 1, none⟩ = some (.slice a1 n1 c1) ∧ w''.cell? ⟨g2, k * 2, none⟩ = some (.int .i64 x.k) ∧ w''.cell? ⟨g2, k * 2 + 1, none⟩ = some (.slice a2 n2 c2)) (by kernel_rfl) (ks) (fun hHeld => ?_)
      refine wpAnyH_take (i := 0) (oi := _) (v := ?_) rfl (by kernel_rfl) (by kernel_rfl) (by kernel_rfl) (fun _ _ _ h => h) (Or.inl ⟨by rfl, ?_⟩) (by assumption) ?_
      rotate_left 1
      · intro wq hSw; (try dsimp only at hSw); go_simp; try (with_reducible rfl)
      try simp only [Act.put, List.getElem_toArray, List.getElem_cons_zero, List.setIfInBounds_toArray, List.set_cons_zero, List.set_cons_succ]
      refine wpAnyH_take (i := 1) (oi := _) (v := ?_) rfl (by kernel_rfl) (by kernel_rfl) (by kernel_rfl) (fun _ _ _ h => h) (Or.inl ⟨by rfl, ?_⟩) (by assumption) ?_
      rotate_left 1
      · intro wq hSw; (try dsimp only at hSw); go_simp; try (with_reducible rfl)
      try simp only [Act.put, List.getElem_toArray, List.getElem_cons_succ, List.getElem_cons_zero, List.setIfInBounds_toArray, List.set_cons_zero, List.set_cons_succ]
      refine wpAnyH_take (i := 2) (oi := _) (v := ?_) rfl (by kernel_rfl) (by kernel_rfl) (by kernel_rfl) (fun _ _ _ h => h) (Or.inl ⟨by rfl, ?_⟩) (by assumption) ?_
      rotate_left 1
      · intro wq hSw; (try dsimp only at hSw); go_simp; try (with_reducible rfl)
      try simp only [Act.put, List.getElem_toArray, List.getElem_cons_succ, List.getElem_cons_zero, List.setIfInBounds_toArray, List.set_cons_zero, List.set_cons_succ]
      refine wpAnyH_take (i := 3) (oi := _) (v := ?_) rfl (by kernel_rfl) (by kernel_rfl) (by kernel_rfl) (fun _ _ _ h => h) (Or.inl ⟨by rfl, ?_⟩) (by assumption) ?_
      rotate_left 1
      · intro wq hSw; (try dsimp only at hSw); go_simp; try (with_reducible rfl)
      try simp only [Act.put, List.getElem_toArray, List.getElem_cons_succ, List.getElem_cons_zero, List.setIfInBounds_toArray, List.set_cons_zero, List.set_cons_succ]
      refine wpAnyH_take (i := 4) (oi := _) (v := ?_) rfl (by kernel_rfl) (by kernel_rfl) (by kernel_rfl) (fun _ _ _ h => h) (Or.inl ⟨by rfl, ?_⟩) (by assumption) ?_
      rotate_left 1
      · intro wq hSw; (try dsimp only at hSw); go_simp; try (with_reducible rfl)
      try simp only [Act.put, List.getElem_toArray, List.getElem_cons_succ, List.getElem_cons_zero, List.setIfInBounds_toArray, List.set_cons_zero, List.set_cons_succ]
      refine wpAnyH_take (i := 5) (oi := _) (v := ?_) rfl (by kernel_rfl) (by kernel_rfl) (by kernel_rfl) (fun _ _ _ h => h) (Or.inl ⟨by rfl, ?_⟩) (by assumption) ?_
      rotate_left 1
      · intro wq hSw; (try dsimp only at hSw); go_simp; try (with_reducible rfl)
      try simp only [Act.put, List.getElem_toArray, List.getElem_cons_succ, List.getElem_cons_zero, List.setIfInBounds_toArray, List.set_cons_zero, List.set_cons_succ]
      refine wpAnyH_take (i := 6) (oi := _) (v := ?_) rfl (by kernel_rfl) (by kernel_rfl) (by kernel_rfl) (fun _ _ _ h => h) (Or.inl ⟨by rfl, ?_⟩) (by assumption) ?_
      rotate_left 1
      · intro wq hSw; (try dsimp only at hSw); go_simp; try (with_reducible rfl)
      try simp only [Act.put, List.getElem_toArray, List.getElem_cons_succ, List.getElem_cons_zero, List.setIfInBounds_toArray, List.set_cons_zero, List.set_cons_succ]
      refine wpAnyH_take (i := 7) (oi := _) (v := ?_) rfl (by kernel_rfl) (by kernel_rfl) (by kernel_rfl) (fun _ _ _ h => h) (Or.inl ⟨by rfl, ?_⟩) (by assumption) ?_
      rotate_left 1
      · intro wq hSw; (try dsimp only at hSw); go_simp; try (with_reducible rfl)
      try simp only [Act.put, List.getElem_toArray, List.getElem_cons_succ, List.getElem_cons_zero, List.setIfInBounds_toArray, List.set_cons_zero, List.set_cons_succ]
      refine wpAnyH_take (i := 8) (oi := _) (v := ?_) rfl (by kernel_rfl) (by kernel_rfl) (by kernel_rfl) (fun _ _ _ h => h) (Or.inl ⟨by rfl, ?_⟩) (by assumption) ?_
      rotate_left 1
      · intro wq hSw; (try dsimp only at hSw); go_simp; try (with_reducible rfl)
      try simp only [Act.put, List.getElem_toArray, List.getElem_cons_succ, List.getElem_cons_zero, List.setIfInBounds_toArray, List.set_cons_zero, List.set_cons_succ]
      refine wpAnyH_take (i := 9) (oi := _) (v := ?_) rfl (by kernel_rfl) (by kernel_rfl) (by kernel_rfl) (fun _ _ _ h => h) (Or.inl ⟨by rfl, ?_⟩) (by assumption) ?_
      rotate_left 1
      · intro wq hSw; (try dsimp only at hSw); go_simp; try (with_reducible rfl)
      try simp only [Act.put, List.getElem_toArray, List.getElem_cons_succ, List.getElem_cons_zero, List.setIfInBounds_toArray, List.set_cons_zero, List.set_cons_succ]
      refine wpAnyH_take (i := 10) (oi := _) (v := ?_) rfl (by kernel_rfl) (by kernel_rfl) (by kernel_rfl) (fun _ _ _ h => h) (Or.inl ⟨by rfl, ?_⟩) (by assumption) ?_
      rotate_left 1
      · intro wq hSw; (try dsimp only at hSw); go_simp; try (with_reducible rfl)
      try simp only [Act.put, List.getElem_toArray, List.getElem_cons_succ, List.getElem_cons_zero, List.setIfInBounds_toArray, List.set_cons_zero, List.set_cons_succ]
      refine wpAnyH_take (i := 11) (oi := _) (v := ?_) rfl (by kernel_rfl) (by kernel_rfl) (by kernel_rfl) (fun _ _ _ h => h) (Or.inl ⟨by rfl, ?_⟩) (by assumption) ?_
      rotate_left 1
      · intro wq hSw; (try dsimp only at hSw); go_simp; try (with_reducible rfl)
      try simp only [Act.put, List.getElem_toArray, List.getElem_cons_succ, List.getElem_cons_zero, List.setIfInBounds_toArray, List.set_cons_zero, List.set_cons_succ]
      refine wpAnyH_take (i := 12) (oi := _) (v := ?_) rfl (by kernel_rfl) (by kernel_rfl) (by kernel_rfl) (fun _ _ _ h => h) (Or.inl ⟨by rfl, ?_⟩) (by assumption) ?_
      rotate_left 1
      · intro wq hSw; (try dsimp only at hSw); go_simp; try (with_reducible rfl)
      try simp only [Act.put, List.getElem_toArray, List.getElem_cons_succ, List.getElem_cons_zero, List.setIfInBounds_toArray, List.set_cons_zero, List.set_cons_succ]
      refine wpAnyH_take (i := 13) (oi := _) (v := ?_) rfl (by kernel_rfl) (by kernel_rfl) (by kernel_rfl) (fun _ _ _ h => h) (Or.inl ⟨by rfl, ?_⟩) (by assumption) ?_
      rotate_left 1
      · intro wq hSw; (try dsimp only at hSw); go_simp; try (with_reducible rfl)
      try simp only [Act.put, List.getElem_toArray, List.getElem_cons_succ, List.getElem_cons_zero, List.setIfInBounds_toArray, List.set_cons_zero, List.set_cons_succ]
      refine wpAnyH_take (i := 14) (oi := _) (v := ?_) rfl (by kernel_rfl) (by kernel_rfl) (by kernel_rfl) (fun _ _ _ h => h) (Or.inl ⟨by rfl, ?_⟩) (by assumption) ?_
      rotate_left 1
      · intro wq hSw; (try dsimp only at hSw); go_simp; try (with_reducible rfl)
      try simp only [Act.put, List.getElem_toArray, List.getElem_cons_succ, List.getElem_cons_zero, List.setIfInBounds_toArray, List.set_cons_zero, List.set_cons_succ]
      refine wpAnyH_take (i := 15) (oi := _) (v := ?_) rfl (by kernel_rfl) (by kernel_rfl) (by kernel_rfl) (fun _ _ _ h => h) (Or.inl ⟨by rfl, ?_⟩) (by assumption) ?_
      rotate_left 1
      · intro wq hSw; (try dsimp only at hSw); go_simp; try (with_reducible rfl)
      try simp only [Act.put, List.getElem_toArray, List.getElem_cons_succ, List.getElem_cons_zero, List.setIfInBounds_toArray, List.set_cons_zero, List.set_cons_succ]
      refine wpAnyH_take (i := 16) (oi := _) (v := ?_) rfl (by kernel_rfl) (by kernel_rfl) (by kernel_rfl) (fun _ _ _ h => h) (Or.inl ⟨by rfl, ?_⟩) (by assumption) ?_
      rotate_left 1
      · intro wq hSw; (try dsimp only at hSw); go_simp; try (with_reducible rfl)
      try simp only [Act.put, List.getElem_toArray, List.getElem_cons_succ, List.getElem_cons_zero, List.setIfInBounds_toArray, List.set_cons_zero, List.set_cons_succ]
      refine wpAnyH_take (i := 17) (oi := _) (v := ?_) rfl (by kernel_rfl) (by kernel_rfl) (by kernel_rfl) (fun _ _ _ h => h) (Or.inl ⟨by rfl, ?_⟩) (by assumption) ?_
      rotate_left 1
      · intro wq hSw; (try dsimp only at hSw); go_simp; try (with_reducible rfl)
      try simp only [Act.put, List.getElem_toArray, List.getElem_cons_succ, List.getElem_cons_zero, List.setIfInBounds_toArray, List.set_cons_zero, List.set_cons_succ]
      refine wpAnyH_take (i := 18) (oi := _) (v := ?_) rfl (by kernel_rfl) (by kernel_rfl) (by kernel_rfl) (fun _ _ _ h => h) (Or.inl ⟨by rfl, ?_⟩) (by assumption) ?_
      rotate_left 1
      · intro wq hSw; (try dsimp only at hSw); go_simp; try (with_reducible rfl)
      try simp only [Act.put, List.getElem_toArray, List.getElem_cons_succ, List.getElem_cons_zero, List.setIfInBounds_toArray, List.set_cons_zero, List.set_cons_succ]
      refine wpAnyH_take (i := 19) (oi := _) (v := ?_) rfl (by kernel_rfl) (by kernel_rfl) (by kernel_rfl) (fun _ _ _ h => h) (Or.inl ⟨by rfl, ?_⟩) (by assumption) ?_
      rotate_left 1
      · intro wq hSw; (try dsimp only at hSw); go_simp; try (with_reducible rfl)
      try simp only [Act.put, List.getElem_toArray, List.getElem_cons_succ, List.getElem_cons_zero, List.setIfInBounds_toArray, List.set_cons_zero, List.set_cons_succ]
      refine wpAnyH_take (i := 20) (oi := _) (v := ?_) rfl (by kernel_rfl) (by kernel_rfl) (by kernel_rfl) (fun _ _ _ h => h) (Or.inl ⟨by rfl, ?_⟩) (by assumption) ?_
      rotate_left 1
      · intro wq hSw; (try dsimp only at hSw); go_simp; try (with_reducible rfl)
      try simp only [Act.put, List.getElem_toArray, List.getElem_cons_succ, List.getElem_cons_zero, List.setIfInBounds_toArray, List.set_cons_zero, List.set_cons_succ]
      refine wpAnyH_take (i := 21) (oi := _) (v := ?_) rfl (by kernel_rfl) (by kernel_rfl) (by kernel_rfl) (fun _ _ _ h => h) (Or.inl ⟨by rfl, ?_⟩) (by assumption) ?_
      rotate_left 1
      · intro wq hSw; (try dsimp only at hSw); go_simp; try (with_reducible rfl)
      try simp only [Act.put, List.getElem_toArray, List.getElem_cons_succ, List.getElem_cons_zero, List.setIfInBounds_toArray, List.set_cons_zero, List.set_cons_succ]
      refine wpAnyH_ready (rs := [22]) (by kernel_rfl) (by simp) ?_
      refine AllReadyH.cons (o := _) rfl (fun K hK => ?_) AllReadyH.nil
      go_simp
      refine (SI.out _ (Below.drew (Below.refl _ _))).mono ?_; rintro e y2 ⟨rfl, hb2⟩; have HB2 := hidIt (ext_trans (Below.drew (Below.refl wr.heap.size wr)) hb2); clear hb2 ks; have ks := HS.out y2 HB2.out; try dsimp only
      refine hK.out _ _ ?_ (fun hHeld => ?_)
      · (try simp only [World.cell?_drew]); exact ks
      clear hK K
      try simp only [Act.put, List.getElem_toArray, List.getElem_cons_succ, List.getElem_cons_zero, List.setIfInBounds_toArray, List.set_cons_zero, List.set_cons_succ]
      refine wpAnyH_take (i := 23) (oi := _) (v := ?_) rfl (by kernel_rfl) (by kernel_rfl) (by kernel_rfl) (fun _ _ _ h => h) (Or.inl ⟨by rfl, ?_⟩) (by assumption) ?_
      rotate_left 1
      · intro wq hSw; (try dsimp only at hSw); go_simp; try (with_reducible rfl)
      try simp only [Act.put, List.getElem_toArray, List.getElem_cons_succ, List.getElem_cons_zero, List.setIfInBounds_toArray, List.set_cons_zero, List.set_cons_succ]
      refine wpAnyH_take (i := 24) (oi := _) (v := ?_) rfl (by kernel_rfl) (by kernel_rfl) (by kernel_rfl) (fun _ _ _ h => h) (Or.inl ⟨by rfl, ?_⟩) (by assumption) ?_
      rotate_left 1
      · intro wq hSw; (try dsimp only at hSw); go_simp; try (with_reducible rfl)
      try simp only [Act.put, List.getElem_toArray, List.getElem_cons_succ, List.getElem_cons_zero, List.setIfInBounds_toArray, List.set_cons_zero, List.set_cons_succ]
      refine wpAnyH_done (by kernel_rfl) ?_ _
      go_wp2_with fail
      go_roundw
      case rel => exact ⟨k + 1, by omega, by go_num, ext_trans HBW.out HB2.out⟩
      case measure => simp [RowKit.intOf]; omega

    · have hk2 : k = 132 := by omega
      subst hk2
      clear hlt
      have SI := hidIt (sameInts_any _ _ (shE m p 132) wr (HE.out.ext (ext_trans HB1.out HBW.out)).rd (HE2.out.ext HBW.out).rd)
      go_wp2_with (go_at_call 26; refine SI.out.mono ?_; rintro e w3 ⟨rfl, hb3⟩; have HB3 := hidIt hb3; clear hb3; (try dsimp only))
      go_ret
      exact ⟨rfl, ext_trans (ext_trans HB1.out HBW.out) HB3.out⟩
end Go.Proofs.Ytmldfjhfgaggpaa
