import Derived.Test.YtfdceljdhgbkcaaGreatDoorJ20
import Derived.Deep.WholeRow
/- The document's tables: its functions. -/
namespace Go.Proofs.YtfdceljdhgbkcaaGreatDoor
open Go.RowKit
/-- An array that is written out: its operations. -/
theorem wpl_run {P : Program} {ops : Array Oper} {rest : List Oper} {o : Oper} {a : Act} {w : World} {Q : Exit → Act → World → Prop} (hg : o.guard = none) (dst : Option Tmp) (hdst : o.dst = dst)
    (v : Value) (w' : World) (hrun : (execOp a.eval o).run P w = .ok (.value v) w') (h : wpList P ops Q rest (a.put dst v) w') : wpList P ops Q (o :: rest) a w := by
  subst hdst
  refine wpList_plain hg fun K hK => ?_
  unfold Oper.wp
  rw [hrun, Oper.upon_value]
  exact hK _ _ h
theorem wpl_store_new {P : Program} (W0 : World) {ops : Array Oper} {rest : List Oper} {o : Oper} {a : Act} {Q : Exit → Act → World → Prop} (hgd : o.guard = none) (t : TypeId) (p x : Operand) (ho : o.op = .store t p x) (c c' : Array Value) (hp : a.eval p = .pointer (some ⟨W0.heap.size, 0, none⟩)) (hx : a.eval x = .agg c') (hi : (P.info? t).map (·.size) = some c'.size) (hcc : c.size = c'.size) (h1 : c'.all (·.oneCell') = true)
    (h : wpList P ops Q rest (a.put o.dst undef) (W0.alloc (.cells c' t))) : wpList P ops Q (o :: rest) a (W0.alloc (.cells c t)) := by
  refine wpList_plain hgd fun K hK => ?_
  have hr := run_storeAt_new (P := P) W0 t c c' hi hcc h1
  unfold Oper.wp
  simp only [execOp, ho, hp, hx, Sem.run_bind, hr, Result.andThen_ok, Sem.run_pure, Oper.upon_skip]
  exact hK _ _ h
def arS (l : List ByteArray) : Array Value := (l.map Value.string).toArray
def arI (l : List Int) : Array Value := (l.map (Value.int .i64)).toArray
theorem arS_at {w : World} {g p : Nat} {l : List ByteArray} {T : TypeId} (h : w.heap[g]? = some (.cells (arS l) T (0, 0))) (hp : p < l.length) : w.cell? ⟨g, p, none⟩ = some (.string (l[p]?.getD ⟨#[]⟩)) := by
  rw [cell_of_row _ _ _ _ _ _ h, List.getElem?_eq_getElem hp]
  unfold arS
  simp [hp]
theorem arI_at {w : World} {g p : Nat} {l : List Int} {T : TypeId} (h : w.heap[g]? = some (.cells (arI l) T (0, 0))) (hp : p < l.length) : w.cell? ⟨g, p, none⟩ = some (.int .i64 (l[p]?.getD 0)) := by
  rw [cell_of_row _ _ _ _ _ _ h, List.getElem?_eq_getElem hp]
  unfold arI
  simp [hp]
/-- The rows that a round of a table makes. -/
def tabR (ss : List ByteArray) (vs ms : List Int) (k : Bool) : List DRw := (List.range ss.length).map fun p => ⟨bys (ss[p]?.getD ⟨#[]⟩), vs[p]?.getD 0, ms[p]?.getD 0, 0, k⟩
theorem tab_at {ss : List ByteArray} {vs ms : List Int} {k : Bool} {p : Nat} (h : p < ss.length) : (tabR ss vs ms k).take (p + 1) = (tabR ss vs ms k).take p ++ [⟨bys (ss[p]?.getD ⟨#[]⟩), vs[p]?.getD 0, ms[p]?.getD 0, 0, k⟩] := by
  have e : (tabR ss vs ms k)[p]? = some ⟨bys (ss[p]?.getD ⟨#[]⟩), vs[p]?.getD 0, ms[p]?.getD 0, 0, k⟩ := by
    unfold tabR
    rw [List.getElem?_map, List.getElem?_range h]
    rfl
  rw [List.take_add_one, e]
  rfl
theorem tab_len (ss : List ByteArray) (vs ms : List Int) (k : Bool) : (tabR ss vs ms k).length = ss.length := by unfold tabR; simp
theorem own_ki {w : World} {base : Nat} {v : Value} {zs : List Int} (h : OwnI w base v zs) : KI w v zs := h.ki
/-- Rows that are answered. -/
def DrP (w w' : World) (L : List DRw) (e : Ending) : Prop := ∃ v xs, e = .returned v ∧ OwnD w' w.heap.size v xs ∧ Hid (xs.map Prod.fst = L) ∧ Below w.heap.size w w'
/-- Rows that grow: wb the world ahead, v0 what they were then. -/
structure Gro (wb : World) (v0 : Value) (base : Nat) (wr : World) (v : Value) (xs : List (DRw × Value)) : Prop where
  ow : OwnD wr base v xs
  kp : Kps (fun k => v0.ownBlock = some k) wb wr
  nw : ∀ k, v.ownBlock = some k → v0.ownBlock = some k ∨ wb.heap.size ≤ k
theorem Gro.init {wb : World} {v0 : Value} {base : Nat} {xs : List (DRw × Value)} (h : OwnD wb base v0 xs) : Gro wb v0 base wb v0 xs := ⟨h, Kps.refl _ _, fun _ e => .inl e⟩
theorem Gro.ext {wb : World} {v0 : Value} {base : Nat} {wr y : World} {v : Value} {xs : List (DRw × Value)} (h : Gro wb v0 base wr v xs) (hb : Below wr.heap.size wr y) : Gro wb v0 base y v xs :=
  ⟨h.ow.ext hb, Kps.trans h.kp (Kps.of_below (fun k => v0.ownBlock = some k) hb) (fun _ _ e => e), h.nw⟩
theorem Gro.push {wb : World} {v0 : Value} {base : Nat} {wr y : World} {v u : Value} {xs ys : List (DRw × Value)} (h : Gro wb v0 base wr v xs) (ho : OwnD y base u ys) (hg : wr.grownBy y v.ownBlock) (hn : u.ownBlock = v.ownBlock ∨ u.ownBlock = some wr.heap.size) : Gro wb v0 base y u ys := by
  refine ⟨ho, Kps.trans h.kp (Kps.grown (o := fun k => v.ownBlock = some k) hg (fun k e _ => e)) (fun i hi e => ?_), fun k e => ?_⟩
  · rcases h.nw i e with e | e
    · exact e
    · omega
  · rcases hn with e2 | e2
    · exact h.nw k (e2 ▸ e)
    · rw [e2] at e
      cases e
      exact .inr h.kp.size
theorem Gro.below {wb : World} {v0 : Value} {base : Nat} {wr : World} {v : Value} {xs ys : List (DRw × Value)} (h : Gro wb v0 base wr v xs) (h0 : OwnD wb base v0 ys) (hb : base ≤ wb.heap.size) : Below base wb wr := h.kp.below hb (fun _ e => (h0.blk e).1)
/-- A block that is none of the rows' own has turned. -/
theorem KI.poke {W W' : World} {gr : Nat} {v : Value} {ks : List Int} {cs : Array Value} {r : Nat × Nat} (h : KI W v ks) (hg : W.grownBy W' (some gr)) (hr : W.heap[gr]? = some (.cells cs 71 r)) : KI W' v ks := by
  have hne : ∀ a n c, v = .slice (some a) n c → W'.heap[a.block]? = W.heap[a.block]? := fun a n c e => by
    obtain ⟨cur, r2, h3⟩ := h.2 a n c e
    refine hg.block _ (Array.getElem?_eq_some_iff.1 h3).1 (fun e2 => ?_)
    cases e2
    rw [h3] at hr
    injection hr with hr
    injection hr with _ h4
    exact absurd h4 (by decide)
  refine ⟨?_, fun a n c e => ?_⟩
  · obtain ⟨⟨ao, cap, hv, q1, q2, q3⟩, hs⟩ := h.1
    refine ⟨⟨ao, cap, hv, q1, q2, fun hn => ?_⟩, hs⟩
    obtain ⟨b, off, e1, hb1, hc1⟩ := q3 hn
    refine ⟨b, off, e1, Nat.lt_of_lt_of_le hb1 hg.size, fun i hi => ?_⟩
    rw [← hc1 i hi]
    unfold World.cell?
    have := hne ⟨b, off, none⟩ _ _ (by rw [hv, e1])
    simp only at this
    simp only [this]
  · obtain ⟨cur, r2, h3⟩ := h.2 a n c e
    exact ⟨cur, r2, (hne a n c e).trans h3⟩
theorem Gro.poke {wb : World} {v0 : Value} {base : Nat} {W W' : World} {v : Value} {xs : List (DRw × Value)} {gr : Nat} {cs : Array Value} {r : Nat × Nat} (h : Gro wb v0 base W v xs) (hg : W.grownBy W' (some gr)) (hr : W.heap[gr]? = some (.cells cs 71 r)) (hf : ¬ v.ownBlock = some gr) (hge : wb.heap.size ≤ gr) : Gro wb v0 base W' v xs := by
  refine ⟨⟨⟨h.ow.1.1, ?_⟩, fun x hx => (h.ow.2 x hx).poke hg hr⟩, Kps.trans h.kp (Kps.grown (o := fun k => k = gr) hg (fun k e _ => (Option.some.inj e).symm)) (fun i hi e => by omega), h.nw⟩
  rcases h.ow.1.2 with e | ⟨g, cap, cur, e, h1, h2, h3⟩
  · exact .inl e
  · refine .inr ⟨g, cap, cur, e, h1, (hg.block _ (Array.getElem?_eq_some_iff.1 h2).1 (fun e2 => ?_)).trans h2, h3⟩
    exact hf (by rw [e]; exact e2)
/-- A block of another kind is none of the rows' own. -/
theorem own_far {w : World} {base g : Nat} {v : Value} {xs : List (DRw × Value)} {cs : Array Value} {T : TypeId} {r : Nat × Nat} (h : OwnD w base v xs) (hg : w.heap[g]? = some (.cells cs T r)) (hT : T ≠ 71) : ¬ v.ownBlock = some g := fun e => by
  rcases h.1.2 with ⟨e2, _⟩ | ⟨k, cap, cur, e2, _, hk, _⟩
  · rw [e2] at e; cases e
  · rw [e2] at e
    cases e
    rw [hk] at hg
    injection hg with hg
    injection hg with _ h1
    exact hT h1.symm
def zS (n : Nat) : List ByteArray := List.replicate n ⟨#[]⟩
def zI (n : Nat) : List Int := List.replicate n 0
def sOp : List ByteArray := [⟨#[100]⟩, ⟨#[99]⟩, ⟨#[121]⟩, ⟨#[62]⟩, ⟨#[60]⟩, ⟨#[103, 85]⟩, ⟨#[103, 117]⟩, ⟨#[103, 126]⟩]
def vOp : List Int := [2, 3, 4, 8, 9, 5, 6, 7]
theorem tOp : tabR sOp vOp [] false = dOps := by rfl
theorem sOp_sz : ∀ s ∈ sOp, s.size ≤ 100 := by decide
set_option maxRecDepth 100000 in
set_option maxHeartbeats 8000000 in
theorem r_operators_any (w : World) : Calls Tryz.prog 35 #[] w fun e w' => DrP w w' dOps e := by
  obtain ⟨B0, hB0⟩ : ∃ B0, B0 = w.heap.size := ⟨_, rfl⟩
  have HBE := hidIt hB0
  go_enter Tryz.func35, Tryz.ntmps35
  go_upto_region 1 with fail
  refine wp_region_lit ?_
  refine wpl_run rfl _ rfl (.agg (arS sOp)) w (by kernel_rfl) ?_
  refine wpl_run rfl _ rfl (.pointer (some ⟨w.heap.size, 0, none⟩)) (w.alloc (.cells (arS (zS 8)) 107)) (by kernel_rfl) ?_
  refine wpl_store_new w rfl 107 _ _ rfl (arS (zS 8)) (arS sOp) rfl rfl (by kernel_rfl) (by kernel_rfl) (by kernel_rfl) ?_
  refine wpList_nil ?_
  go_upto_region 2 with fail
  obtain ⟨w1, hw1⟩ : ∃ w1, w1 = w.alloc (.cells (arS sOp) 107) := ⟨_, rfl⟩
  rw [← hw1]
  have Bw1 : Hid (Below w.heap.size w w1) := by unfold Hid; rw [hw1]; exact ext_alloc (Below.refl _ _) _
  have Rw1 : Hid (w1.heap[w.heap.size]? = some (.cells (arS sOp) 107 (0, 0))) := by unfold Hid; rw [hw1]; exact heap_alloc_new _ _
  clear hw1
  refine wp_region_lit ?_
  refine wpl_run rfl _ rfl (.agg (arI vOp)) w1 (by kernel_rfl) ?_
  refine wpl_run rfl _ rfl (.pointer (some ⟨w1.heap.size, 0, none⟩)) (w1.alloc (.cells (arI (zI 8)) 108)) (by kernel_rfl) ?_
  refine wpl_store_new w1 rfl 108 _ _ rfl (arI (zI 8)) (arI vOp) rfl rfl (by kernel_rfl) (by kernel_rfl) (by kernel_rfl) ?_
  refine wpList_nil ?_
  go_upto_region 3 with fail
  obtain ⟨w2, hw2⟩ : ∃ w2, w2 = w1.alloc (.cells (arI vOp) 108) := ⟨_, rfl⟩
  rw [← hw2]
  have Bw2 : Hid (Below w1.heap.size w1 w2) := by unfold Hid; rw [hw2]; exact ext_alloc (Below.refl _ _) _
  have Rw2 : Hid (w2.heap[w1.heap.size]? = some (.cells (arI vOp) 108 (0, 0))) := by unfold Hid; rw [hw2]; exact heap_alloc_new _ _
  clear hw2
  have RS := hidIt (((Bw2.out.block _ (Array.getElem?_eq_some_iff.1 Rw1.out).1).trans Rw1.out))
  have Rx1 := Rw2
  have HBW : Hid (Below B0 w w2) := by unfold Hid; rw [hB0]; exact (ext_trans Bw1.out Bw2.out)
  have HOV : Hid (OwnD w2 B0 (.slice none 0 0) []) := OwnD.nil _ _
  have HB0 : Hid (B0 ≤ w2.heap.size) := by unfold Hid; rw [hB0]; exact HBW.out.size
  have FsN : Hid (¬ ((.slice none 0 0) : Value).ownBlock = some w.heap.size) := own_far HOV.out RS.out (by decide)
  have Fx1 : Hid (¬ ((.slice none 0 0) : Value).ownBlock = some w1.heap.size) := own_far HOV.out Rx1.out (by decide)
  clear Bw1 Rw1 Bw2 hB0
  generalize w.heap.size = gs at RS FsN
  generalize w1.heap.size = gx1 at Rx1 Fx1
  go_wp2_with fail
  go_loopw [3, 4] (fun rv iv wr => ∃ (p : Nat) (ao : Option Addr) (cn c : Nat) (xs : List (DRw × Value)), p ≤ 8 ∧ iv = .int .i64 p ∧ rv = .slice ao cn c ∧ Hid (Gro w2 (.slice none 0 0) B0 wr (.slice ao cn c) xs) ∧ Hid (xs.map Prod.fst = [] ++ (tabR sOp vOp [] false).take p) ∧ Hid (xs.length ≤ 200 + p)) (fun _ iv _ => 8 - (RowKit.intOf iv).toNat)
  case atStart => exact ⟨0, none, 0, 0, [], Nat.zero_le _, rfl, rfl, Gro.init HOV.out, rfl, Nat.zero_le _⟩
  case round =>
    obtain ⟨p, ao, cn, c, xs, hp, rfl, rfl, HG, HM, HXL⟩ := hrel
    by_cases hlt : p < 8
    · have hltI : (p : Int) < 8 := by omega
      have HNX := hidIt (tab_at (ss := sOp) (vs := vOp) (ms := []) (k := false) hlt)
      have HTS : Hid ((sOp[p]?.getD ⟨#[]⟩).size ≤ 100) := by unfold Hid; rw [List.getElem?_eq_getElem (show p < sOp.length from hlt)]; exact sOp_sz _ (List.getElem_mem _)
      have HS : Hid (∀ W : World, Kps (fun k => ((.slice none 0 0) : Value).ownBlock = some k) w2 W → W.cell? ⟨gs, p, none⟩ = some (.string (sOp[p]?.getD ⟨#[]⟩)) ∧ W.cell? ⟨gx1, p, none⟩ = some (.int .i64 (vOp[p]?.getD 0))) := fun W hW => ⟨arS_at ((hW.same _ (Array.getElem?_eq_some_iff.1 RS.out).1 FsN.out).trans RS.out) hlt, arI_at ((hW.same _ (Array.getElem?_eq_some_iff.1 Rx1.out).1 Fx1.out).trans Rx1.out) (show p < vOp.length from hlt)⟩
      generalize sOp[p]?.getD ⟨#[]⟩ = t at HNX HTS HS
      generalize vOp[p]?.getD 0 = x1 at HNX HS
      go_upto_region 7 with fail
      refine wp_region_held_drew (S := fun w' => w'.cell? ⟨gs, p, none⟩ = some (.string t) ∧ w'.cell? ⟨gx1, p, none⟩ = some (.int .i64 x1)) (by kernel_rfl) (by first | exact HS.out _ HG.out.kp | exact HS.out _ (HG.out.ext (Below.refl _ _).drew).kp) (fun hHeld => ?_)
      refine wpAnyH_take (i := 0) (oi := _) (v := ?_) rfl (by kernel_rfl) (by kernel_rfl) (by kernel_rfl) (fun _ _ _ h => h) (Or.inl ⟨by rfl, ?_⟩) (by assumption) ?_
      rotate_left 1
      · intro wq hSw; (try dsimp only at hSw); go_simp; try (with_reducible rfl)
      try simp only [Act.put, List.getElem_toArray, List.getElem_cons_zero, List.setIfInBounds_toArray, List.set_cons_zero, List.set_cons_succ]
      refine wpAnyH_take (i := 1) (oi := _) (v := ?_) rfl (by kernel_rfl) (by kernel_rfl) (by kernel_rfl) (fun _ _ _ h => h) (Or.inl ⟨by rfl, ?_⟩) (by assumption) ?_
      rotate_left 1
      · intro wq hSw; (try dsimp only at hSw); go_simp; try (with_reducible rfl)
      try simp only [Act.put, List.getElem_toArray, List.getElem_cons_succ, List.getElem_cons_zero, List.setIfInBounds_toArray, List.set_cons_zero, List.set_cons_succ]
      refine wpAnyH_take (i := 2) (oi := _) (v := ?_) rfl (by kernel_rfl) (by kernel_rfl) (by kernel_rfl) (fun _ _ _ h => h) (Or.inl ⟨by rfl, ?_⟩) (by assumption) ?_
      rotate_left 1
      · intro wq hSw; (try dsimp only at hSw); go_simp; try (with_reducible rfl)
      try simp only [Act.put, List.getElem_toArray, List.getElem_cons_succ, List.getElem_cons_zero, List.setIfInBounds_toArray, List.set_cons_zero, List.set_cons_succ]
      refine wpAnyH_take (i := 3) (oi := _) (v := ?_) rfl (by kernel_rfl) (by kernel_rfl) (by kernel_rfl) (fun _ _ _ h => h) (Or.inl ⟨by rfl, ?_⟩) (by assumption) ?_
      rotate_left 1
      · intro wq hSw; (try dsimp only at hSw); go_simp; try (with_reducible rfl)
      try simp only [Act.put, List.getElem_toArray, List.getElem_cons_succ, List.getElem_cons_zero, List.setIfInBounds_toArray, List.set_cons_zero, List.set_cons_succ]
      refine wpAnyH_take (i := 4) (oi := _) (v := ?_) rfl (by kernel_rfl) (by kernel_rfl) (by kernel_rfl) (fun _ _ _ h => h) (Or.inl ⟨by rfl, ?_⟩) (by assumption) ?_
      rotate_left 1
      · intro wq hSw; (try dsimp only at hSw); go_simp; try (with_reducible rfl)
      try simp only [Act.put, List.getElem_toArray, List.getElem_cons_succ, List.getElem_cons_zero, List.setIfInBounds_toArray, List.set_cons_zero, List.set_cons_succ]
      refine wpAnyH_take (i := 5) (oi := _) (v := ?_) rfl (by kernel_rfl) (by kernel_rfl) (by kernel_rfl) (fun _ _ _ h => h) (Or.inl ⟨by rfl, ?_⟩) (by assumption) ?_
      rotate_left 1
      · intro wq hSw; (try dsimp only at hSw); go_simp; try (with_reducible rfl)
      try simp only [Act.put, List.getElem_toArray, List.getElem_cons_succ, List.getElem_cons_zero, List.setIfInBounds_toArray, List.set_cons_zero, List.set_cons_succ]
      refine wpAnyH_take (i := 6) (oi := _) (v := ?_) rfl (by kernel_rfl) (by kernel_rfl) (by kernel_rfl) (fun _ _ _ h => h) (Or.inl ⟨by rfl, ?_⟩) (by assumption) ?_
      rotate_left 1
      · intro wq hSw; (try dsimp only at hSw); go_simp; try (with_reducible rfl)
      try simp only [Act.put, List.getElem_toArray, List.getElem_cons_succ, List.getElem_cons_zero, List.setIfInBounds_toArray, List.set_cons_zero, List.set_cons_succ]
      refine wpAnyH_ready (rs := [7]) (by kernel_rfl) (by simp) ?_
      refine AllReadyH.cons (o := _) rfl (fun K hK => ?_) AllReadyH.nil
      go_simp
      refine (one_any t x1 0 _ HTS.out).mono ?_; rintro e y ⟨v1, rfl, ho1, hb1⟩; obtain ⟨xa, xc, rfl, _⟩ := ho1.rds.len; have HO1 := hidIt ho1; have HB1 : Hid (Below wr.heap.size wr y) := (by first | exact hb1 | exact ext_trans (Below.refl _ _).drew hb1 | exact ext_trans (ext_alloc (Below.refl _ _) _) hb1 | exact ext_trans (ext_alloc (Below.refl _ _).drew _) hb1 | exact ext_trans (ext_alloc (Below.refl _ _) _).drew hb1); clear ho1 hb1; have HG1 := hidIt (HG.out.ext HB1.out); try dsimp only
      refine hK.out _ _ ?_ (fun hHeld => ?_)
      · exact HS.out _ HG1.out.kp
      clear hK K
      try simp only [Act.put, List.getElem_toArray, List.getElem_cons_succ, List.getElem_cons_zero, List.setIfInBounds_toArray, List.set_cons_zero, List.set_cons_succ]
      refine wpAnyH_ready (rs := [8]) (by kernel_rfl) (by simp) ?_
      refine AllReadyH.cons (o := _) rfl (fun K hK => ?_) AllReadyH.nil
      go_simp
      refine hK.out _ _ ?_ (fun hHeld => ?_)
      · exact HS.out _ (HG1.out.ext (ext_alloc (Below.refl _ _) _)).kp
      clear hK K
      try simp only [Act.put, List.getElem_toArray, List.getElem_cons_succ, List.getElem_cons_zero, List.setIfInBounds_toArray, List.set_cons_zero, List.set_cons_succ]
      refine wpAnyH_ready (rs := [9]) (by kernel_rfl) (by simp) ?_
      refine AllReadyH.cons (o := _) rfl (fun K hK => ?_) AllReadyH.nil
      rw [if_pos (by rfl)]
      refine wp_append_drowsB _ _ (by rfl) B0 (.slice ao cn c) xs (by rfl) ((HG1.out.ext (ext_alloc (Below.refl _ _) _)).ow) _ [(⟨bys t, x1, 0, 0, false⟩, .slice xa (bys t).length xc)] (by rfl) (drow_lit ⟨bys t, x1, 0, 0, false⟩ _ HO1.out.ki) (by have := HXL.out; simp; omega) (Nat.le_trans HB0.out (HG1.out.ext (ext_alloc (Below.refl _ _) _)).kp.size) (by simp) ?_; intro v9 w9 ho9 hb9 hg9 hn9; clear hb9; obtain ⟨ao9, n9, c9, rfl⟩ := ho9.form; have HG9 := hidIt ((HG1.out.ext (ext_alloc (Below.refl _ _) _)).push ho9 hg9 hn9); clear ho9 hg9 hn9; try dsimp only
      refine hK.out _ _ ?_ (fun hHeld => ?_)
      · exact HS.out _ HG9.out.kp
      clear hK K
      try simp only [Act.put, List.getElem_toArray, List.getElem_cons_succ, List.getElem_cons_zero, List.setIfInBounds_toArray, List.set_cons_zero, List.set_cons_succ]
      refine wpAnyH_take (i := 10) (oi := _) (v := ?_) rfl (by kernel_rfl) (by kernel_rfl) (by kernel_rfl) (fun _ _ _ h => h) (Or.inl ⟨by rfl, ?_⟩) (by assumption) ?_
      rotate_left 1
      · intro wq hSw; (try dsimp only at hSw); go_simp; try (with_reducible rfl)
      try simp only [Act.put, List.getElem_toArray, List.getElem_cons_succ, List.getElem_cons_zero, List.setIfInBounds_toArray, List.set_cons_zero, List.set_cons_succ]
      refine wpAnyH_done (by kernel_rfl) ?_ _
      go_wp2_with fail
      go_roundw
      case rel => exact ⟨p + 1, ao9, n9, c9, _, by omega, rfl, rfl, HG9.out, by unfold Hid; rw [HNX.out, List.map_append, HM.out, List.append_assoc]; rfl, by unfold Hid; have := HXL.out; rw [List.length_append, List.length_singleton]; omega⟩
      case measure => simp [RowKit.intOf]; omega
    · obtain rfl : p = 8 := by omega
      have hge : ¬ ((8 : Nat) : Int) < 8 := by omega
      go_wp2_with fail
      go_ret
      exact ⟨_, xs, rfl, by rw [← HBE.out]; exact HG.out.ow, by unfold Hid; rw [HM.out]; exact tOp, by rw [← HBE.out]; exact HBW.out.trans (HG.out.below HOV.out HB0.out)⟩
def sEf : List ByteArray := [⟨#[114]⟩, ⟨#[113]⟩, ⟨#[64]⟩, ⟨#[109]⟩]
def vEf : List Int := [16, 28, 29, 30]
theorem sEf_sz : ∀ s ∈ sEf, s.size ≤ 100 := by decide
def sEv : List ByteArray := [⟨#[112]⟩, ⟨#[80]⟩, ⟨#[74]⟩, ⟨#[103, 74]⟩, ⟨#[118]⟩, ⟨#[86]⟩, ⟨#[58]⟩, ⟨#[122, 116]⟩, ⟨#[122, 122]⟩, ⟨#[122, 98]⟩, ⟨#[6]⟩, ⟨#[2]⟩, ⟨#[4]⟩, ⟨#[21]⟩, ⟨#[5]⟩, ⟨#[25]⟩]
def vEv : List Int := [18, 19, 20, 21, 26, 27, 31, 38, 39, 40, 32, 33, 34, 35, 36, 37]

theorem tEf : tabR sEv vEv [] false ++ tabR sEf vEf [] true = dEvr := by rfl
theorem sEv_sz : ∀ s ∈ sEv, s.size ≤ 100 := by decide
set_option maxRecDepth 100000 in
set_option maxHeartbeats 8000000 in
theorem r_everywhere_any (w : World) : Calls Tryz.prog 58 #[] w fun e w' => DrP w w' dEvr e := by
  obtain ⟨B0, hB0⟩ : ∃ B0, B0 = w.heap.size := ⟨_, rfl⟩
  have HBE := hidIt hB0
  go_enter Tryz.func58, Tryz.ntmps58
  go_upto_region 1 with fail
  refine wp_region_lit ?_
  refine wpl_run rfl _ rfl (.agg (arS sEv)) w (by kernel_rfl) ?_
  refine wpl_run rfl _ rfl (.pointer (some ⟨w.heap.size, 0, none⟩)) (w.alloc (.cells (arS (zS 16)) 118)) (by kernel_rfl) ?_
  refine wpl_store_new w rfl 118 _ _ rfl (arS (zS 16)) (arS sEv) rfl rfl (by kernel_rfl) (by kernel_rfl) (by kernel_rfl) ?_
  refine wpList_nil ?_
  go_upto_region 2 with fail
  obtain ⟨w1, hw1⟩ : ∃ w1, w1 = w.alloc (.cells (arS sEv) 118) := ⟨_, rfl⟩
  rw [← hw1]
  have Bw1 : Hid (Below w.heap.size w w1) := by unfold Hid; rw [hw1]; exact ext_alloc (Below.refl _ _) _
  have Rw1 : Hid (w1.heap[w.heap.size]? = some (.cells (arS sEv) 118 (0, 0))) := by unfold Hid; rw [hw1]; exact heap_alloc_new _ _
  clear hw1
  refine wp_region_lit ?_
  refine wpl_run rfl _ rfl (.agg (arI vEv)) w1 (by kernel_rfl) ?_
  refine wpl_run rfl _ rfl (.pointer (some ⟨w1.heap.size, 0, none⟩)) (w1.alloc (.cells (arI (zI 16)) 119)) (by kernel_rfl) ?_
  refine wpl_store_new w1 rfl 119 _ _ rfl (arI (zI 16)) (arI vEv) rfl rfl (by kernel_rfl) (by kernel_rfl) (by kernel_rfl) ?_
  refine wpList_nil ?_
  go_upto_region 3 with fail
  obtain ⟨w2, hw2⟩ : ∃ w2, w2 = w1.alloc (.cells (arI vEv) 119) := ⟨_, rfl⟩
  rw [← hw2]
  have Bw2 : Hid (Below w1.heap.size w1 w2) := by unfold Hid; rw [hw2]; exact ext_alloc (Below.refl _ _) _
  have Rw2 : Hid (w2.heap[w1.heap.size]? = some (.cells (arI vEv) 119 (0, 0))) := by unfold Hid; rw [hw2]; exact heap_alloc_new _ _
  clear hw2
  have RS := hidIt (((Bw2.out.block _ (Array.getElem?_eq_some_iff.1 Rw1.out).1).trans Rw1.out))
  have Rx1 := Rw2
  have HBW : Hid (Below B0 w w2) := by unfold Hid; rw [hB0]; exact (ext_trans Bw1.out Bw2.out)
  have HOV : Hid (OwnD w2 B0 (.slice none 0 0) []) := OwnD.nil _ _
  have HB0 : Hid (B0 ≤ w2.heap.size) := by unfold Hid; rw [hB0]; exact HBW.out.size
  have FsN : Hid (¬ ((.slice none 0 0) : Value).ownBlock = some w.heap.size) := own_far HOV.out RS.out (by decide)
  have Fx1 : Hid (¬ ((.slice none 0 0) : Value).ownBlock = some w1.heap.size) := own_far HOV.out Rx1.out (by decide)
  clear Bw1 Rw1 Bw2 hB0
  generalize w.heap.size = gs at RS FsN
  generalize w1.heap.size = gx1 at Rx1 Fx1
  go_wp2_with fail
  go_loopw [3, 4] (fun rv iv wr => ∃ (p : Nat) (ao : Option Addr) (cn c : Nat) (xs : List (DRw × Value)), p ≤ 16 ∧ iv = .int .i64 p ∧ rv = .slice ao cn c ∧ Hid (Gro w2 (.slice none 0 0) B0 wr (.slice ao cn c) xs) ∧ Hid (xs.map Prod.fst = [] ++ (tabR sEv vEv [] false).take p) ∧ Hid (xs.length ≤ 200 + p)) (fun _ iv _ => 16 - (RowKit.intOf iv).toNat)
  case atStart => exact ⟨0, none, 0, 0, [], Nat.zero_le _, rfl, rfl, Gro.init HOV.out, rfl, Nat.zero_le _⟩
  case round =>
    obtain ⟨p, ao, cn, c, xs, hp, rfl, rfl, HG, HM, HXL⟩ := hrel
    by_cases hlt : p < 16
    · have hltI : (p : Int) < 16 := by omega
      have HNX := hidIt (tab_at (ss := sEv) (vs := vEv) (ms := []) (k := false) hlt)
      have HTS : Hid ((sEv[p]?.getD ⟨#[]⟩).size ≤ 100) := by unfold Hid; rw [List.getElem?_eq_getElem (show p < sEv.length from hlt)]; exact sEv_sz _ (List.getElem_mem _)
      have HS : Hid (∀ W : World, Kps (fun k => ((.slice none 0 0) : Value).ownBlock = some k) w2 W → W.cell? ⟨gs, p, none⟩ = some (.string (sEv[p]?.getD ⟨#[]⟩)) ∧ W.cell? ⟨gx1, p, none⟩ = some (.int .i64 (vEv[p]?.getD 0))) := fun W hW => ⟨arS_at ((hW.same _ (Array.getElem?_eq_some_iff.1 RS.out).1 FsN.out).trans RS.out) hlt, arI_at ((hW.same _ (Array.getElem?_eq_some_iff.1 Rx1.out).1 Fx1.out).trans Rx1.out) (show p < vEv.length from hlt)⟩
      generalize sEv[p]?.getD ⟨#[]⟩ = t at HNX HTS HS
      generalize vEv[p]?.getD 0 = x1 at HNX HS
      go_upto_region 7 with fail
      refine wp_region_held_drew (S := fun w' => w'.cell? ⟨gs, p, none⟩ = some (.string t) ∧ w'.cell? ⟨gx1, p, none⟩ = some (.int .i64 x1)) (by kernel_rfl) (by first | exact HS.out _ HG.out.kp | exact HS.out _ (HG.out.ext (Below.refl _ _).drew).kp) (fun hHeld => ?_)
      refine wpAnyH_take (i := 0) (oi := _) (v := ?_) rfl (by kernel_rfl) (by kernel_rfl) (by kernel_rfl) (fun _ _ _ h => h) (Or.inl ⟨by rfl, ?_⟩) (by assumption) ?_
      rotate_left 1
      · intro wq hSw; (try dsimp only at hSw); go_simp; try (with_reducible rfl)
      try simp only [Act.put, List.getElem_toArray, List.getElem_cons_zero, List.setIfInBounds_toArray, List.set_cons_zero, List.set_cons_succ]
      refine wpAnyH_take (i := 1) (oi := _) (v := ?_) rfl (by kernel_rfl) (by kernel_rfl) (by kernel_rfl) (fun _ _ _ h => h) (Or.inl ⟨by rfl, ?_⟩) (by assumption) ?_
      rotate_left 1
      · intro wq hSw; (try dsimp only at hSw); go_simp; try (with_reducible rfl)
      try simp only [Act.put, List.getElem_toArray, List.getElem_cons_succ, List.getElem_cons_zero, List.setIfInBounds_toArray, List.set_cons_zero, List.set_cons_succ]
      refine wpAnyH_take (i := 2) (oi := _) (v := ?_) rfl (by kernel_rfl) (by kernel_rfl) (by kernel_rfl) (fun _ _ _ h => h) (Or.inl ⟨by rfl, ?_⟩) (by assumption) ?_
      rotate_left 1
      · intro wq hSw; (try dsimp only at hSw); go_simp; try (with_reducible rfl)
      try simp only [Act.put, List.getElem_toArray, List.getElem_cons_succ, List.getElem_cons_zero, List.setIfInBounds_toArray, List.set_cons_zero, List.set_cons_succ]
      refine wpAnyH_take (i := 3) (oi := _) (v := ?_) rfl (by kernel_rfl) (by kernel_rfl) (by kernel_rfl) (fun _ _ _ h => h) (Or.inl ⟨by rfl, ?_⟩) (by assumption) ?_
      rotate_left 1
      · intro wq hSw; (try dsimp only at hSw); go_simp; try (with_reducible rfl)
      try simp only [Act.put, List.getElem_toArray, List.getElem_cons_succ, List.getElem_cons_zero, List.setIfInBounds_toArray, List.set_cons_zero, List.set_cons_succ]
      refine wpAnyH_take (i := 4) (oi := _) (v := ?_) rfl (by kernel_rfl) (by kernel_rfl) (by kernel_rfl) (fun _ _ _ h => h) (Or.inl ⟨by rfl, ?_⟩) (by assumption) ?_
      rotate_left 1
      · intro wq hSw; (try dsimp only at hSw); go_simp; try (with_reducible rfl)
      try simp only [Act.put, List.getElem_toArray, List.getElem_cons_succ, List.getElem_cons_zero, List.setIfInBounds_toArray, List.set_cons_zero, List.set_cons_succ]
      refine wpAnyH_take (i := 5) (oi := _) (v := ?_) rfl (by kernel_rfl) (by kernel_rfl) (by kernel_rfl) (fun _ _ _ h => h) (Or.inl ⟨by rfl, ?_⟩) (by assumption) ?_
      rotate_left 1
      · intro wq hSw; (try dsimp only at hSw); go_simp; try (with_reducible rfl)
      try simp only [Act.put, List.getElem_toArray, List.getElem_cons_succ, List.getElem_cons_zero, List.setIfInBounds_toArray, List.set_cons_zero, List.set_cons_succ]
      refine wpAnyH_take (i := 6) (oi := _) (v := ?_) rfl (by kernel_rfl) (by kernel_rfl) (by kernel_rfl) (fun _ _ _ h => h) (Or.inl ⟨by rfl, ?_⟩) (by assumption) ?_
      rotate_left 1
      · intro wq hSw; (try dsimp only at hSw); go_simp; try (with_reducible rfl)
      try simp only [Act.put, List.getElem_toArray, List.getElem_cons_succ, List.getElem_cons_zero, List.setIfInBounds_toArray, List.set_cons_zero, List.set_cons_succ]
      refine wpAnyH_ready (rs := [7]) (by kernel_rfl) (by simp) ?_
      refine AllReadyH.cons (o := _) rfl (fun K hK => ?_) AllReadyH.nil
      go_simp
      refine (one_any t x1 0 _ HTS.out).mono ?_; rintro e y ⟨v1, rfl, ho1, hb1⟩; obtain ⟨xa, xc, rfl, _⟩ := ho1.rds.len; have HO1 := hidIt ho1; have HB1 : Hid (Below wr.heap.size wr y) := (by first | exact hb1 | exact ext_trans (Below.refl _ _).drew hb1 | exact ext_trans (ext_alloc (Below.refl _ _) _) hb1 | exact ext_trans (ext_alloc (Below.refl _ _).drew _) hb1 | exact ext_trans (ext_alloc (Below.refl _ _) _).drew hb1); clear ho1 hb1; have HG1 := hidIt (HG.out.ext HB1.out); try dsimp only
      refine hK.out _ _ ?_ (fun hHeld => ?_)
      · exact HS.out _ HG1.out.kp
      clear hK K
      try simp only [Act.put, List.getElem_toArray, List.getElem_cons_succ, List.getElem_cons_zero, List.setIfInBounds_toArray, List.set_cons_zero, List.set_cons_succ]
      refine wpAnyH_ready (rs := [8]) (by kernel_rfl) (by simp) ?_
      refine AllReadyH.cons (o := _) rfl (fun K hK => ?_) AllReadyH.nil
      go_simp
      refine hK.out _ _ ?_ (fun hHeld => ?_)
      · exact HS.out _ (HG1.out.ext (ext_alloc (Below.refl _ _) _)).kp
      clear hK K
      try simp only [Act.put, List.getElem_toArray, List.getElem_cons_succ, List.getElem_cons_zero, List.setIfInBounds_toArray, List.set_cons_zero, List.set_cons_succ]
      refine wpAnyH_ready (rs := [9]) (by kernel_rfl) (by simp) ?_
      refine AllReadyH.cons (o := _) rfl (fun K hK => ?_) AllReadyH.nil
      rw [if_pos (by rfl)]
      refine wp_append_drowsB _ _ (by rfl) B0 (.slice ao cn c) xs (by rfl) ((HG1.out.ext (ext_alloc (Below.refl _ _) _)).ow) _ [(⟨bys t, x1, 0, 0, false⟩, .slice xa (bys t).length xc)] (by rfl) (drow_lit ⟨bys t, x1, 0, 0, false⟩ _ HO1.out.ki) (by have := HXL.out; simp; omega) (Nat.le_trans HB0.out (HG1.out.ext (ext_alloc (Below.refl _ _) _)).kp.size) (by simp) ?_; intro v9 w9 ho9 hb9 hg9 hn9; clear hb9; obtain ⟨ao9, n9, c9, rfl⟩ := ho9.form; have HG9 := hidIt ((HG1.out.ext (ext_alloc (Below.refl _ _) _)).push ho9 hg9 hn9); clear ho9 hg9 hn9; try dsimp only
      refine hK.out _ _ ?_ (fun hHeld => ?_)
      · exact HS.out _ HG9.out.kp
      clear hK K
      try simp only [Act.put, List.getElem_toArray, List.getElem_cons_succ, List.getElem_cons_zero, List.setIfInBounds_toArray, List.set_cons_zero, List.set_cons_succ]
      refine wpAnyH_take (i := 10) (oi := _) (v := ?_) rfl (by kernel_rfl) (by kernel_rfl) (by kernel_rfl) (fun _ _ _ h => h) (Or.inl ⟨by rfl, ?_⟩) (by assumption) ?_
      rotate_left 1
      · intro wq hSw; (try dsimp only at hSw); go_simp; try (with_reducible rfl)
      try simp only [Act.put, List.getElem_toArray, List.getElem_cons_succ, List.getElem_cons_zero, List.setIfInBounds_toArray, List.set_cons_zero, List.set_cons_succ]
      refine wpAnyH_done (by kernel_rfl) ?_ _
      go_wp2_with fail
      go_roundw
      case rel => exact ⟨p + 1, ao9, n9, c9, _, by omega, rfl, rfl, HG9.out, by unfold Hid; rw [HNX.out, List.map_append, HM.out, List.append_assoc]; rfl, by unfold Hid; have := HXL.out; rw [List.length_append, List.length_singleton]; omega⟩
      case measure => simp [RowKit.intOf]; omega
    · obtain rfl : p = 16 := by omega
      have hge : ¬ ((16 : Nat) : Int) < 16 := by omega
      have HM1 : Hid (xs.map Prod.fst = (tabR sEv vEv [] false)) := by unfold Hid; rw [HM.out]; rfl
      have HBW1 : Hid (Below B0 w wr) := HBW.out.trans (HG.out.below HOV.out HB0.out)
      have HO1 := hidIt HG.out.ow
      have HL1 : Hid (xs.length ≤ 300) := by unfold Hid; have := HXL.out; omega
      have HB01 : Hid (B0 ≤ wr.heap.size) := Nat.le_trans HB0.out HG.out.kp.size
      clear HG HM HXL HBW HOV RS FsN Rx1 Fx1 HB0
      go_upto_region 8 with fail
      refine wp_region_lit ?_
      refine wpl_run rfl _ rfl (.agg (arS sEf)) wr (by kernel_rfl) ?_
      refine wpl_run rfl _ rfl (.pointer (some ⟨wr.heap.size, 0, none⟩)) (wr.alloc (.cells (arS (zS 4)) 120)) (by kernel_rfl) ?_
      refine wpl_store_new wr rfl 120 _ _ rfl (arS (zS 4)) (arS sEf) rfl rfl (by kernel_rfl) (by kernel_rfl) (by kernel_rfl) ?_
      refine wpList_nil ?_
      go_upto_region 9 with fail
      obtain ⟨w3, hw3⟩ : ∃ w3, w3 = wr.alloc (.cells (arS sEf) 120) := ⟨_, rfl⟩
      rw [← hw3]
      have Bw3 : Hid (Below wr.heap.size wr w3) := by unfold Hid; rw [hw3]; exact ext_alloc (Below.refl _ _) _
      have Rw3 : Hid (w3.heap[wr.heap.size]? = some (.cells (arS sEf) 120 (0, 0))) := by unfold Hid; rw [hw3]; exact heap_alloc_new _ _
      clear hw3
      refine wp_region_lit ?_
      refine wpl_run rfl _ rfl (.agg (arI vEf)) w3 (by kernel_rfl) ?_
      refine wpl_run rfl _ rfl (.pointer (some ⟨w3.heap.size, 0, none⟩)) (w3.alloc (.cells (arI (zI 4)) 121)) (by kernel_rfl) ?_
      refine wpl_store_new w3 rfl 121 _ _ rfl (arI (zI 4)) (arI vEf) rfl rfl (by kernel_rfl) (by kernel_rfl) (by kernel_rfl) ?_
      refine wpList_nil ?_
      go_upto_region 10 with fail
      obtain ⟨w4, hw4⟩ : ∃ w4, w4 = w3.alloc (.cells (arI vEf) 121) := ⟨_, rfl⟩
      rw [← hw4]
      have Bw4 : Hid (Below w3.heap.size w3 w4) := by unfold Hid; rw [hw4]; exact ext_alloc (Below.refl _ _) _
      have Rw4 : Hid (w4.heap[w3.heap.size]? = some (.cells (arI vEf) 121 (0, 0))) := by unfold Hid; rw [hw4]; exact heap_alloc_new _ _
      clear hw4
      have RS := hidIt (((Bw4.out.block _ (Array.getElem?_eq_some_iff.1 Rw3.out).1).trans Rw3.out))
      have Rx1 := Rw4
      have HBW : Hid (Below B0 w w4) := HBW1.out.trans ((ext_trans Bw3.out Bw4.out).mono HB01.out)
      have HOV : Hid (OwnD w4 B0 (.slice ao cn c) xs) := HO1.out.ext (ext_trans Bw3.out Bw4.out)
      have HB0 : Hid (B0 ≤ w4.heap.size) := Nat.le_trans HB01.out (ext_trans Bw3.out Bw4.out).size
      have FsN : Hid (¬ (Value.slice ao cn c).ownBlock = some wr.heap.size) := own_far HOV.out RS.out (by decide)
      have Fx1 : Hid (¬ (Value.slice ao cn c).ownBlock = some w3.heap.size) := own_far HOV.out Rx1.out (by decide)
      clear Bw3 Rw3 Bw4 HO1 HBW1 HB01
      generalize wr.heap.size = gs2 at RS FsN
      generalize w3.heap.size = gx12 at Rx1 Fx1
      go_wp2_with fail
      go_loopw [3, 7] (fun rv iv wr => ∃ (p2 : Nat) (ao2 : Option Addr) (cn2 c2 : Nat) (xs2 : List (DRw × Value)), p2 ≤ 4 ∧ iv = .int .i64 p2 ∧ rv = .slice ao2 cn2 c2 ∧ Hid (Gro w4 (.slice ao cn c) B0 wr (.slice ao2 cn2 c2) xs2) ∧ Hid (xs2.map Prod.fst = (tabR sEv vEv [] false) ++ (tabR sEf vEf [] true).take p2) ∧ Hid (xs2.length ≤ 300 + p2)) (fun _ iv _ => 4 - (RowKit.intOf iv).toNat)
      case atStart => exact ⟨0, ao, cn, c, xs, Nat.zero_le _, rfl, rfl, Gro.init HOV.out, by unfold Hid; rw [HM1.out, List.take_zero, List.append_nil], by have := HL1.out; unfold Hid; omega⟩
      case round =>
        obtain ⟨p2, ao2, cn2, c2, xs2, hp, rfl, rfl, HG, HM, HXL⟩ := hrel
        by_cases hlt : p2 < 4
        · have hltI : (p2 : Int) < 4 := by omega
          have HNX := hidIt (tab_at (ss := sEf) (vs := vEf) (ms := []) (k := true) hlt)
          have HTS : Hid ((sEf[p2]?.getD ⟨#[]⟩).size ≤ 100) := by unfold Hid; rw [List.getElem?_eq_getElem (show p2 < sEf.length from hlt)]; exact sEf_sz _ (List.getElem_mem _)
          have HS : Hid (∀ W : World, Kps (fun k => ((.slice ao cn c) : Value).ownBlock = some k) w4 W → W.cell? ⟨gs2, p2, none⟩ = some (.string (sEf[p2]?.getD ⟨#[]⟩)) ∧ W.cell? ⟨gx12, p2, none⟩ = some (.int .i64 (vEf[p2]?.getD 0))) := fun W hW => ⟨arS_at ((hW.same _ (Array.getElem?_eq_some_iff.1 RS.out).1 FsN.out).trans RS.out) hlt, arI_at ((hW.same _ (Array.getElem?_eq_some_iff.1 Rx1.out).1 Fx1.out).trans Rx1.out) (show p2 < vEf.length from hlt)⟩
          generalize sEf[p2]?.getD ⟨#[]⟩ = t at HNX HTS HS
          generalize vEf[p2]?.getD 0 = x1 at HNX HS
          go_upto_region 13 with fail
          refine wp_region_held_drew (S := fun w' => w'.cell? ⟨gs2, p2, none⟩ = some (.string t) ∧ w'.cell? ⟨gx12, p2, none⟩ = some (.int .i64 x1)) (by kernel_rfl) (by first | exact HS.out _ HG.out.kp | exact HS.out _ (HG.out.ext (Below.refl _ _).drew).kp) (fun hHeld => ?_)
          refine wpAnyH_take (i := 0) (oi := _) (v := ?_) rfl (by kernel_rfl) (by kernel_rfl) (by kernel_rfl) (fun _ _ _ h => h) (Or.inl ⟨by rfl, ?_⟩) (by assumption) ?_
          rotate_left 1
          · intro wq hSw; (try dsimp only at hSw); go_simp; try (with_reducible rfl)
          try simp only [Act.put, List.getElem_toArray, List.getElem_cons_zero, List.setIfInBounds_toArray, List.set_cons_zero, List.set_cons_succ]
          refine wpAnyH_take (i := 1) (oi := _) (v := ?_) rfl (by kernel_rfl) (by kernel_rfl) (by kernel_rfl) (fun _ _ _ h => h) (Or.inl ⟨by rfl, ?_⟩) (by assumption) ?_
          rotate_left 1
          · intro wq hSw; (try dsimp only at hSw); go_simp; try (with_reducible rfl)
          try simp only [Act.put, List.getElem_toArray, List.getElem_cons_succ, List.getElem_cons_zero, List.setIfInBounds_toArray, List.set_cons_zero, List.set_cons_succ]
          refine wpAnyH_take (i := 2) (oi := _) (v := ?_) rfl (by kernel_rfl) (by kernel_rfl) (by kernel_rfl) (fun _ _ _ h => h) (Or.inl ⟨by rfl, ?_⟩) (by assumption) ?_
          rotate_left 1
          · intro wq hSw; (try dsimp only at hSw); go_simp; try (with_reducible rfl)
          try simp only [Act.put, List.getElem_toArray, List.getElem_cons_succ, List.getElem_cons_zero, List.setIfInBounds_toArray, List.set_cons_zero, List.set_cons_succ]
          refine wpAnyH_take (i := 3) (oi := _) (v := ?_) rfl (by kernel_rfl) (by kernel_rfl) (by kernel_rfl) (fun _ _ _ h => h) (Or.inl ⟨by rfl, ?_⟩) (by assumption) ?_
          rotate_left 1
          · intro wq hSw; (try dsimp only at hSw); go_simp; try (with_reducible rfl)
          try simp only [Act.put, List.getElem_toArray, List.getElem_cons_succ, List.getElem_cons_zero, List.setIfInBounds_toArray, List.set_cons_zero, List.set_cons_succ]
          refine wpAnyH_take (i := 4) (oi := _) (v := ?_) rfl (by kernel_rfl) (by kernel_rfl) (by kernel_rfl) (fun _ _ _ h => h) (Or.inl ⟨by rfl, ?_⟩) (by assumption) ?_
          rotate_left 1
          · intro wq hSw; (try dsimp only at hSw); go_simp; try (with_reducible rfl)
          try simp only [Act.put, List.getElem_toArray, List.getElem_cons_succ, List.getElem_cons_zero, List.setIfInBounds_toArray, List.set_cons_zero, List.set_cons_succ]
          refine wpAnyH_take (i := 5) (oi := _) (v := ?_) rfl (by kernel_rfl) (by kernel_rfl) (by kernel_rfl) (fun _ _ _ h => h) (Or.inl ⟨by rfl, ?_⟩) (by assumption) ?_
          rotate_left 1
          · intro wq hSw; (try dsimp only at hSw); go_simp; try (with_reducible rfl)
          try simp only [Act.put, List.getElem_toArray, List.getElem_cons_succ, List.getElem_cons_zero, List.setIfInBounds_toArray, List.set_cons_zero, List.set_cons_succ]
          refine wpAnyH_ready (rs := [6, 7]) (by kernel_rfl) (by simp) ?_
          refine (AllReadyH.cons (o := _) rfl (fun K hK => ?_) (AllReadyH.cons (o := _) rfl (fun K hK => ?_) AllReadyH.nil))
          · skip
            go_simp
            refine (one_any t x1 0 _ HTS.out).mono ?_; rintro e y ⟨v1, rfl, ho1, hb1⟩; obtain ⟨xa, xc, rfl, _⟩ := ho1.rds.len; have HO1 := hidIt ho1; have HB1 : Hid (Below wr.heap.size wr y) := (by first | exact hb1 | exact ext_trans (Below.refl _ _).drew hb1 | exact ext_trans (ext_alloc (Below.refl _ _) _) hb1 | exact ext_trans (ext_alloc (Below.refl _ _).drew _) hb1 | exact ext_trans (ext_alloc (Below.refl _ _) _).drew hb1); clear ho1 hb1; have HG1 := hidIt (HG.out.ext HB1.out); try dsimp only
            refine hK.out _ _ ?_ (fun hHeld => ?_)
            · exact HS.out _ HG1.out.kp
            clear hK K
            try simp only [Act.put, List.getElem_toArray, List.getElem_cons_succ, List.getElem_cons_zero, List.setIfInBounds_toArray, List.set_cons_zero, List.set_cons_succ]
            refine wpAnyH_ready (rs := [7]) (by kernel_rfl) (by simp) ?_
            refine AllReadyH.cons (o := _) rfl (fun K hK => ?_) AllReadyH.nil
            go_simp
            refine hK.out _ _ ?_ (fun hHeld => ?_)
            · exact HS.out _ (HG1.out.ext (ext_alloc (Below.refl _ _) _)).kp
            clear hK K
            try simp only [Act.put, List.getElem_toArray, List.getElem_cons_succ, List.getElem_cons_zero, List.setIfInBounds_toArray, List.set_cons_zero, List.set_cons_succ]
            refine wpAnyH_ready (rs := [8]) (by kernel_rfl) (by simp) ?_
            refine AllReadyH.cons (o := _) rfl (fun K hK => ?_) AllReadyH.nil
            go_simp
            refine hK.out _ _ ?_ (fun hHeld => ?_)
            · exact HS.out _ (HG1.out.ext (ext_alloc (Below.refl _ _) _)).kp
            clear hK K
            try simp only [Act.put, List.getElem_toArray, List.getElem_cons_succ, List.getElem_cons_zero, List.setIfInBounds_toArray, List.set_cons_zero, List.set_cons_succ]
            refine wpAnyH_done (by kernel_rfl) ?_ _
            have HR5 : Hid ((y.alloc (.cells #[.slice xa (bys t).length xc, .int .i64 x1, .int .i64 0, .int .i64 0, .bool false] 71)).heap[y.heap.size]? = some (.cells #[.slice xa (bys t).length xc, .int .i64 x1, .int .i64 0, .int .i64 0, .bool false] 71 (0, 0))) := heap_alloc_new _ _
            have HG5 := hidIt (HG1.out.ext (ext_alloc (Below.refl _ _) (.cells #[.slice xa (bys t).length xc, .int .i64 x1, .int .i64 0, .int .i64 0, .bool false] 71)))
            have HK5 := hidIt (HO1.out.ext (ext_alloc (Below.refl _ _) (.cells #[.slice xa (bys t).length xc, .int .i64 x1, .int .i64 0, .int .i64 0, .bool false] 71))).ki
            have HF5 : Hid (¬ (Value.slice ao2 cn2 c2).ownBlock = some y.heap.size ∧ w4.heap.size ≤ y.heap.size) := ⟨fun e => by have := (HG1.out.ow.blk e).2; omega, HG1.out.kp.size⟩
            clear HO1 HG1
            go_upto_region 14 with fail
            generalize (y.alloc (.cells #[.slice xa (bys t).length xc, .int .i64 x1, .int .i64 0, .int .i64 0, .bool false] 71)) = W5 at HR5 HG5 HK5 ⊢
            generalize y.heap.size = gr at HR5 HF5 ⊢
            obtain ⟨u6, v6⟩ := set1 HR5.out 4 (.bool true)
            obtain ⟨W6, hW6⟩ : ∃ W6, W6 = W5.setCell ⟨gr, 4, none⟩ (.bool true) := ⟨_, rfl⟩
            rw [← hW6] at u6 v6
            have HR6 : Hid (W6.heap[gr]? = some (.cells #[.slice xa (bys t).length xc, .int .i64 x1, .int .i64 0, .int .i64 0, .bool true] 71 (0, 0))) := u6
            have HG6 := hidIt (HG5.out.poke v6 HR5.out HF5.out.1 HF5.out.2)
            have HK6 := hidIt (HK5.out.poke v6 HR5.out)
            obtain ⟨_, e0, e1, e2, e3, e4, ef⟩ := cells5 HR5.out
            clear HG5 HK5 u6 v6
            go_upto_region 15 with fail
            rw [← hW6]
            clear hW6 e0 e1 e2 e3 e4 ef
            obtain ⟨_, e0, e1, e2, e3, e4, ef⟩ := cells5 HR6.out
            go_wp2_with (at_builtin; refine wpl_drows rfl _ _ rfl B0 (.slice ao2 cn2 c2) xs2 rfl (HG6.out.ext (ext_alloc (Below.refl _ _) _)).ow _ [(⟨bys t, x1, 0, 0, true⟩, .slice xa (bys t).length xc)] rfl (drow_lit ⟨bys t, x1, 0, 0, true⟩ _ HK6.out) (by have := HXL.out; simp; omega) (Nat.le_trans HB0.out (HG6.out.ext (ext_alloc (Below.refl _ _) _)).kp.size) (by simp) ?_; intro v9 w9 ho9 hb9 hg9 hn9; clear hb9; obtain ⟨ao9, n9, c9, rfl⟩ := ho9.form; have HG9 := hidIt ((HG6.out.ext (ext_alloc (Below.refl _ _) _)).push ho9 hg9 hn9); clear ho9 hg9 hn9; (try dsimp only))
            go_roundw
            case rel => exact ⟨p2 + 1, ao9, n9, c9, _, by omega, rfl, rfl, HG9.out, by unfold Hid; rw [HNX.out, List.map_append, HM.out, List.append_assoc]; rfl, by unfold Hid; have := HXL.out; rw [List.length_append, List.length_singleton]; omega⟩
            case measure => simp [RowKit.intOf]; omega
          · skip
            go_simp
            refine hK.out _ _ ?_ (fun hHeld => ?_)
            · first | exact HS.out _ (HG.out.ext (ext_alloc (Below.refl _ _) _)).kp | exact HS.out _ (HG.out.ext (ext_alloc (Below.refl _ _).drew _)).kp | exact HS.out _ (HG.out.ext (ext_alloc (Below.refl _ _) _).drew).kp
            clear hK K
            try simp only [Act.put, List.getElem_toArray, List.getElem_cons_succ, List.getElem_cons_zero, List.setIfInBounds_toArray, List.set_cons_zero, List.set_cons_succ]
            refine wpAnyH_ready (rs := [6]) (by kernel_rfl) (by simp) ?_
            refine AllReadyH.cons (o := _) rfl (fun K hK => ?_) AllReadyH.nil
            go_simp
            refine (one_any t x1 0 _ HTS.out).mono ?_; rintro e y ⟨v1, rfl, ho1, hb1⟩; obtain ⟨xa, xc, rfl, _⟩ := ho1.rds.len; have HO1 := hidIt ho1; have HB1 : Hid (Below wr.heap.size wr y) := (by first | exact hb1 | exact ext_trans (Below.refl _ _).drew hb1 | exact ext_trans (ext_alloc (Below.refl _ _) _) hb1 | exact ext_trans (ext_alloc (Below.refl _ _).drew _) hb1 | exact ext_trans (ext_alloc (Below.refl _ _) _).drew hb1); have HZ : Hid (y.heap[wr.heap.size]? = some (.cells #[.slice none 0 0, .int .i64 0, .int .i64 0, .int .i64 0, .bool false] 71 (0, 0))) := (hb1.block _ (by simp)).trans (heap_alloc_new _ _); clear ho1 hb1; obtain ⟨_, e0, e1, e2, e3, e4, ef⟩ := cells5 HZ.out; have HG1 := hidIt (HG.out.ext HB1.out); try dsimp only
            refine hK.out _ _ ?_ (fun hHeld => ?_)
            · exact HS.out _ HG1.out.kp
            clear hK K
            try simp only [Act.put, List.getElem_toArray, List.getElem_cons_succ, List.getElem_cons_zero, List.setIfInBounds_toArray, List.set_cons_zero, List.set_cons_succ]
            refine wpAnyH_ready (rs := [8]) (by kernel_rfl) (by simp) ?_
            refine AllReadyH.cons (o := _) rfl (fun K hK => ?_) AllReadyH.nil
            go_simp
            refine hK.out _ _ ?_ (fun hHeld => ?_)
            · have HP := hidIt (put5 HZ.out (.slice xa (bys t).length xc) (.int .i64 x1) (.int .i64 0) (.int .i64 0) (.bool false)); have HF5 : Hid (¬ (Value.slice ao2 cn2 c2).ownBlock = some wr.heap.size ∧ w4.heap.size ≤ wr.heap.size) := ⟨fun e => by have := (HG.out.ow.blk e).2; omega, HG.out.kp.size⟩; exact HS.out _ (HG1.out.poke HP.out.2 HZ.out HF5.out.1 HF5.out.2).kp
            clear hK K
            try simp only [Act.put, List.getElem_toArray, List.getElem_cons_succ, List.getElem_cons_zero, List.setIfInBounds_toArray, List.set_cons_zero, List.set_cons_succ]
            refine wpAnyH_done (by kernel_rfl) ?_ _
            have HP := hidIt (put5 HZ.out (.slice xa (bys t).length xc) (.int .i64 x1) (.int .i64 0) (.int .i64 0) (.bool false))
            have HF5 : Hid (¬ (Value.slice ao2 cn2 c2).ownBlock = some wr.heap.size ∧ w4.heap.size ≤ wr.heap.size) := ⟨fun e => by have := (HG.out.ow.blk e).2; omega, HG.out.kp.size⟩
            have HR5 := hidIt HP.out.1
            have HG5 := hidIt (HG1.out.poke HP.out.2 HZ.out HF5.out.1 HF5.out.2)
            have HK5 := hidIt (HO1.out.ki.poke HP.out.2 HZ.out)
            clear HP HO1 HG1 HZ e0 e1 e2 e3 e4 ef
            go_upto_region 14 with fail
            generalize (((((y.setCell ⟨wr.heap.size, 0, none⟩ (.slice xa (bys t).length xc)).setCell ⟨wr.heap.size, 1, none⟩ (.int .i64 x1)).setCell ⟨wr.heap.size, 2, none⟩ (.int .i64 0)).setCell ⟨wr.heap.size, 3, none⟩ (.int .i64 0)).setCell ⟨wr.heap.size, 4, none⟩ (.bool false)) = W5 at HR5 HG5 HK5 ⊢
            generalize wr.heap.size = gr at HR5 HF5 ⊢
            obtain ⟨u6, v6⟩ := set1 HR5.out 4 (.bool true)
            obtain ⟨W6, hW6⟩ : ∃ W6, W6 = W5.setCell ⟨gr, 4, none⟩ (.bool true) := ⟨_, rfl⟩
            rw [← hW6] at u6 v6
            have HR6 : Hid (W6.heap[gr]? = some (.cells #[.slice xa (bys t).length xc, .int .i64 x1, .int .i64 0, .int .i64 0, .bool true] 71 (0, 0))) := u6
            have HG6 := hidIt (HG5.out.poke v6 HR5.out HF5.out.1 HF5.out.2)
            have HK6 := hidIt (HK5.out.poke v6 HR5.out)
            obtain ⟨_, e0, e1, e2, e3, e4, ef⟩ := cells5 HR5.out
            clear HG5 HK5 u6 v6
            go_upto_region 15 with fail
            rw [← hW6]
            clear hW6 e0 e1 e2 e3 e4 ef
            obtain ⟨_, e0, e1, e2, e3, e4, ef⟩ := cells5 HR6.out
            go_wp2_with (at_builtin; refine wpl_drows rfl _ _ rfl B0 (.slice ao2 cn2 c2) xs2 rfl (HG6.out.ext (ext_alloc (Below.refl _ _) _)).ow _ [(⟨bys t, x1, 0, 0, true⟩, .slice xa (bys t).length xc)] rfl (drow_lit ⟨bys t, x1, 0, 0, true⟩ _ HK6.out) (by have := HXL.out; simp; omega) (Nat.le_trans HB0.out (HG6.out.ext (ext_alloc (Below.refl _ _) _)).kp.size) (by simp) ?_; intro v9 w9 ho9 hb9 hg9 hn9; clear hb9; obtain ⟨ao9, n9, c9, rfl⟩ := ho9.form; have HG9 := hidIt ((HG6.out.ext (ext_alloc (Below.refl _ _) _)).push ho9 hg9 hn9); clear ho9 hg9 hn9; (try dsimp only))
            go_roundw
            case rel => exact ⟨p2 + 1, ao9, n9, c9, _, by omega, rfl, rfl, HG9.out, by unfold Hid; rw [HNX.out, List.map_append, HM.out, List.append_assoc]; rfl, by unfold Hid; have := HXL.out; rw [List.length_append, List.length_singleton]; omega⟩
            case measure => simp [RowKit.intOf]; omega
        · obtain rfl : p2 = 4 := by omega
          have hge : ¬ ((4 : Nat) : Int) < 4 := by omega
          go_wp2_with fail
          go_ret
          exact ⟨_, xs2, rfl, by rw [← HBE.out]; exact HG.out.ow, by unfold Hid; rw [HM.out]; exact tEf, by rw [← HBE.out]; exact HBW.out.trans (HG.out.below HOV.out HB0.out)⟩
def sFs : List ByteArray := [⟨#[102]⟩, ⟨#[70]⟩, ⟨#[116]⟩, ⟨#[84]⟩, ⟨#[96]⟩, ⟨#[39]⟩]
def vFs : List Int := [7, 8, 9, 10, 49, 50]
theorem sFs_sz : ∀ s ∈ sFs, s.size ≤ 100 := by decide
def sMo : List ByteArray := [⟨#[104]⟩, ⟨#[8]⟩, ⟨#[108]⟩, ⟨#[32]⟩, ⟨#[48]⟩, ⟨#[94]⟩, ⟨#[36]⟩, ⟨#[124]⟩, ⟨#[106]⟩, ⟨#[107]⟩, ⟨#[43]⟩, ⟨#[13]⟩, ⟨#[45]⟩, ⟨#[95]⟩, ⟨#[71]⟩, ⟨#[103, 103]⟩, ⟨#[119]⟩, ⟨#[98]⟩, ⟨#[101]⟩, ⟨#[103, 101]⟩, ⟨#[87]⟩, ⟨#[66]⟩, ⟨#[69]⟩, ⟨#[103, 69]⟩, ⟨#[125]⟩, ⟨#[123]⟩, ⟨#[59]⟩, ⟨#[44]⟩, ⟨#[47]⟩, ⟨#[63]⟩, ⟨#[110]⟩, ⟨#[78]⟩, ⟨#[42]⟩, ⟨#[35]⟩, ⟨#[72]⟩, ⟨#[77]⟩, ⟨#[76]⟩]
def vMo : List Int := [1, 1, 2, 2, 3, 4, 5, 6, 11, 12, 13, 13, 14, 15, 16, 17, 21, 22, 23, 24, 25, 26, 27, 28, 31, 32, 41, 42, 43, 44, 45, 46, 47, 48, 51, 52, 53]
def dMt1 : List DRw := tabR sMo (List.replicate 37 1) vMo false
def dMt2 : List DRw := dMt1 ++ [⟨bys ⟨#[37]⟩, 1, 33, 0, false⟩]
theorem tMo2 : dMt2 ++ tabR sFs (List.replicate 6 1) vFs true = dMot := by rfl
theorem sMo_sz : ∀ s ∈ sMo, s.size ≤ 100 := by decide
set_option maxRecDepth 100000 in
set_option maxHeartbeats 8000000 in
theorem r_motions_any (w : World) : Calls Tryz.prog 31 #[] w fun e w' => DrP w w' dMot e := by
  obtain ⟨B0, hB0⟩ : ∃ B0, B0 = w.heap.size := ⟨_, rfl⟩
  have HBE := hidIt hB0
  go_enter Tryz.func31, Tryz.ntmps31
  go_upto_region 1 with fail
  refine wp_region_lit ?_
  refine wpl_run rfl _ rfl (.agg (arS sMo)) w (by kernel_rfl) ?_
  refine wpl_run rfl _ rfl (.pointer (some ⟨w.heap.size, 0, none⟩)) (w.alloc (.cells (arS (zS 37)) 95)) (by kernel_rfl) ?_
  refine wpl_store_new w rfl 95 _ _ rfl (arS (zS 37)) (arS sMo) rfl rfl (by kernel_rfl) (by kernel_rfl) (by kernel_rfl) ?_
  refine wpList_nil ?_
  go_upto_region 2 with fail
  obtain ⟨w1, hw1⟩ : ∃ w1, w1 = w.alloc (.cells (arS sMo) 95) := ⟨_, rfl⟩
  rw [← hw1]
  have Bw1 : Hid (Below w.heap.size w w1) := by unfold Hid; rw [hw1]; exact ext_alloc (Below.refl _ _) _
  have Rw1 : Hid (w1.heap[w.heap.size]? = some (.cells (arS sMo) 95 (0, 0))) := by unfold Hid; rw [hw1]; exact heap_alloc_new _ _
  clear hw1
  refine wp_region_lit ?_
  refine wpl_run rfl _ rfl (.agg (arI vMo)) w1 (by kernel_rfl) ?_
  refine wpl_run rfl _ rfl (.pointer (some ⟨w1.heap.size, 0, none⟩)) (w1.alloc (.cells (arI (zI 37)) 96)) (by kernel_rfl) ?_
  refine wpl_store_new w1 rfl 96 _ _ rfl (arI (zI 37)) (arI vMo) rfl rfl (by kernel_rfl) (by kernel_rfl) (by kernel_rfl) ?_
  refine wpList_nil ?_
  go_upto_region 3 with fail
  obtain ⟨w2, hw2⟩ : ∃ w2, w2 = w1.alloc (.cells (arI vMo) 96) := ⟨_, rfl⟩
  rw [← hw2]
  have Bw2 : Hid (Below w1.heap.size w1 w2) := by unfold Hid; rw [hw2]; exact ext_alloc (Below.refl _ _) _
  have Rw2 : Hid (w2.heap[w1.heap.size]? = some (.cells (arI vMo) 96 (0, 0))) := by unfold Hid; rw [hw2]; exact heap_alloc_new _ _
  clear hw2
  have RS := hidIt (((Bw2.out.block _ (Array.getElem?_eq_some_iff.1 Rw1.out).1).trans Rw1.out))
  have Rx1 := Rw2
  have HBW : Hid (Below B0 w w2) := by unfold Hid; rw [hB0]; exact (ext_trans Bw1.out Bw2.out)
  have HOV : Hid (OwnD w2 B0 (.slice none 0 0) []) := OwnD.nil _ _
  have HB0 : Hid (B0 ≤ w2.heap.size) := by unfold Hid; rw [hB0]; exact HBW.out.size
  have FsN : Hid (¬ ((.slice none 0 0) : Value).ownBlock = some w.heap.size) := own_far HOV.out RS.out (by decide)
  have Fx1 : Hid (¬ ((.slice none 0 0) : Value).ownBlock = some w1.heap.size) := own_far HOV.out Rx1.out (by decide)
  clear Bw1 Rw1 Bw2 hB0
  generalize w.heap.size = gs at RS FsN
  generalize w1.heap.size = gx1 at Rx1 Fx1
  go_wp2_with fail
  go_loopw [3, 4] (fun rv iv wr => ∃ (p : Nat) (ao : Option Addr) (cn c : Nat) (xs : List (DRw × Value)), p ≤ 37 ∧ iv = .int .i64 p ∧ rv = .slice ao cn c ∧ Hid (Gro w2 (.slice none 0 0) B0 wr (.slice ao cn c) xs) ∧ Hid (xs.map Prod.fst = [] ++ (tabR sMo (List.replicate 37 1) vMo false).take p) ∧ Hid (xs.length ≤ 200 + p)) (fun _ iv _ => 37 - (RowKit.intOf iv).toNat)
  case atStart => exact ⟨0, none, 0, 0, [], Nat.zero_le _, rfl, rfl, Gro.init HOV.out, rfl, Nat.zero_le _⟩
  case round =>
    obtain ⟨p, ao, cn, c, xs, hp, rfl, rfl, HG, HM, HXL⟩ := hrel
    by_cases hlt : p < 37
    · have hltI : (p : Int) < 37 := by omega
      have HNX := hidIt (tab_at (ss := sMo) (vs := (List.replicate 37 1)) (ms := vMo) (k := false) hlt)
      rw [show (List.replicate 37 (1 : Int))[p]?.getD 0 = 1 by rw [List.getElem?_replicate, if_pos hlt]; rfl] at HNX
      have HTS : Hid ((sMo[p]?.getD ⟨#[]⟩).size ≤ 100) := by unfold Hid; rw [List.getElem?_eq_getElem (show p < sMo.length from hlt)]; exact sMo_sz _ (List.getElem_mem _)
      have HS : Hid (∀ W : World, Kps (fun k => ((.slice none 0 0) : Value).ownBlock = some k) w2 W → W.cell? ⟨gs, p, none⟩ = some (.string (sMo[p]?.getD ⟨#[]⟩)) ∧ W.cell? ⟨gx1, p, none⟩ = some (.int .i64 (vMo[p]?.getD 0))) := fun W hW => ⟨arS_at ((hW.same _ (Array.getElem?_eq_some_iff.1 RS.out).1 FsN.out).trans RS.out) hlt, arI_at ((hW.same _ (Array.getElem?_eq_some_iff.1 Rx1.out).1 Fx1.out).trans Rx1.out) (show p < vMo.length from hlt)⟩
      generalize sMo[p]?.getD ⟨#[]⟩ = t at HNX HTS HS
      generalize vMo[p]?.getD 0 = x1 at HNX HS
      go_upto_region 7 with fail
      refine wp_region_held_drew (S := fun w' => w'.cell? ⟨gs, p, none⟩ = some (.string t) ∧ w'.cell? ⟨gx1, p, none⟩ = some (.int .i64 x1)) (by kernel_rfl) (by first | exact HS.out _ HG.out.kp | exact HS.out _ (HG.out.ext (Below.refl _ _).drew).kp) (fun hHeld => ?_)
      refine wpAnyH_take (i := 0) (oi := _) (v := ?_) rfl (by kernel_rfl) (by kernel_rfl) (by kernel_rfl) (fun _ _ _ h => h) (Or.inl ⟨by rfl, ?_⟩) (by assumption) ?_
      rotate_left 1
      · intro wq hSw; (try dsimp only at hSw); go_simp; try (with_reducible rfl)
      try simp only [Act.put, List.getElem_toArray, List.getElem_cons_zero, List.setIfInBounds_toArray, List.set_cons_zero, List.set_cons_succ]
      refine wpAnyH_take (i := 1) (oi := _) (v := ?_) rfl (by kernel_rfl) (by kernel_rfl) (by kernel_rfl) (fun _ _ _ h => h) (Or.inl ⟨by rfl, ?_⟩) (by assumption) ?_
      rotate_left 1
      · intro wq hSw; (try dsimp only at hSw); go_simp; try (with_reducible rfl)
      try simp only [Act.put, List.getElem_toArray, List.getElem_cons_succ, List.getElem_cons_zero, List.setIfInBounds_toArray, List.set_cons_zero, List.set_cons_succ]
      refine wpAnyH_take (i := 2) (oi := _) (v := ?_) rfl (by kernel_rfl) (by kernel_rfl) (by kernel_rfl) (fun _ _ _ h => h) (Or.inl ⟨by rfl, ?_⟩) (by assumption) ?_
      rotate_left 1
      · intro wq hSw; (try dsimp only at hSw); go_simp; try (with_reducible rfl)
      try simp only [Act.put, List.getElem_toArray, List.getElem_cons_succ, List.getElem_cons_zero, List.setIfInBounds_toArray, List.set_cons_zero, List.set_cons_succ]
      refine wpAnyH_take (i := 3) (oi := _) (v := ?_) rfl (by kernel_rfl) (by kernel_rfl) (by kernel_rfl) (fun _ _ _ h => h) (Or.inl ⟨by rfl, ?_⟩) (by assumption) ?_
      rotate_left 1
      · intro wq hSw; (try dsimp only at hSw); go_simp; try (with_reducible rfl)
      try simp only [Act.put, List.getElem_toArray, List.getElem_cons_succ, List.getElem_cons_zero, List.setIfInBounds_toArray, List.set_cons_zero, List.set_cons_succ]
      refine wpAnyH_take (i := 4) (oi := _) (v := ?_) rfl (by kernel_rfl) (by kernel_rfl) (by kernel_rfl) (fun _ _ _ h => h) (Or.inl ⟨by rfl, ?_⟩) (by assumption) ?_
      rotate_left 1
      · intro wq hSw; (try dsimp only at hSw); go_simp; try (with_reducible rfl)
      try simp only [Act.put, List.getElem_toArray, List.getElem_cons_succ, List.getElem_cons_zero, List.setIfInBounds_toArray, List.set_cons_zero, List.set_cons_succ]
      refine wpAnyH_take (i := 5) (oi := _) (v := ?_) rfl (by kernel_rfl) (by kernel_rfl) (by kernel_rfl) (fun _ _ _ h => h) (Or.inl ⟨by rfl, ?_⟩) (by assumption) ?_
      rotate_left 1
      · intro wq hSw; (try dsimp only at hSw); go_simp; try (with_reducible rfl)
      try simp only [Act.put, List.getElem_toArray, List.getElem_cons_succ, List.getElem_cons_zero, List.setIfInBounds_toArray, List.set_cons_zero, List.set_cons_succ]
      refine wpAnyH_take (i := 6) (oi := _) (v := ?_) rfl (by kernel_rfl) (by kernel_rfl) (by kernel_rfl) (fun _ _ _ h => h) (Or.inl ⟨by rfl, ?_⟩) (by assumption) ?_
      rotate_left 1
      · intro wq hSw; (try dsimp only at hSw); go_simp; try (with_reducible rfl)
      try simp only [Act.put, List.getElem_toArray, List.getElem_cons_succ, List.getElem_cons_zero, List.setIfInBounds_toArray, List.set_cons_zero, List.set_cons_succ]
      refine wpAnyH_ready (rs := [7]) (by kernel_rfl) (by simp) ?_
      refine AllReadyH.cons (o := _) rfl (fun K hK => ?_) AllReadyH.nil
      go_simp
      refine (one_any t 1 x1 _ HTS.out).mono ?_; rintro e y ⟨v1, rfl, ho1, hb1⟩; obtain ⟨xa, xc, rfl, _⟩ := ho1.rds.len; have HO1 := hidIt ho1; have HB1 : Hid (Below wr.heap.size wr y) := (by first | exact hb1 | exact ext_trans (Below.refl _ _).drew hb1 | exact ext_trans (ext_alloc (Below.refl _ _) _) hb1 | exact ext_trans (ext_alloc (Below.refl _ _).drew _) hb1 | exact ext_trans (ext_alloc (Below.refl _ _) _).drew hb1); clear ho1 hb1; have HG1 := hidIt (HG.out.ext HB1.out); try dsimp only
      refine hK.out _ _ ?_ (fun hHeld => ?_)
      · exact HS.out _ HG1.out.kp
      clear hK K
      try simp only [Act.put, List.getElem_toArray, List.getElem_cons_succ, List.getElem_cons_zero, List.setIfInBounds_toArray, List.set_cons_zero, List.set_cons_succ]
      refine wpAnyH_ready (rs := [8]) (by kernel_rfl) (by simp) ?_
      refine AllReadyH.cons (o := _) rfl (fun K hK => ?_) AllReadyH.nil
      go_simp
      refine hK.out _ _ ?_ (fun hHeld => ?_)
      · exact HS.out _ (HG1.out.ext (ext_alloc (Below.refl _ _) _)).kp
      clear hK K
      try simp only [Act.put, List.getElem_toArray, List.getElem_cons_succ, List.getElem_cons_zero, List.setIfInBounds_toArray, List.set_cons_zero, List.set_cons_succ]
      refine wpAnyH_ready (rs := [9]) (by kernel_rfl) (by simp) ?_
      refine AllReadyH.cons (o := _) rfl (fun K hK => ?_) AllReadyH.nil
      rw [if_pos (by rfl)]
      refine wp_append_drowsB _ _ (by rfl) B0 (.slice ao cn c) xs (by rfl) ((HG1.out.ext (ext_alloc (Below.refl _ _) _)).ow) _ [(⟨bys t, 1, x1, 0, false⟩, .slice xa (bys t).length xc)] (by rfl) (drow_lit ⟨bys t, 1, x1, 0, false⟩ _ HO1.out.ki) (by have := HXL.out; simp; omega) (Nat.le_trans HB0.out (HG1.out.ext (ext_alloc (Below.refl _ _) _)).kp.size) (by simp) ?_; intro v9 w9 ho9 hb9 hg9 hn9; clear hb9; obtain ⟨ao9, n9, c9, rfl⟩ := ho9.form; have HG9 := hidIt ((HG1.out.ext (ext_alloc (Below.refl _ _) _)).push ho9 hg9 hn9); clear ho9 hg9 hn9; try dsimp only
      refine hK.out _ _ ?_ (fun hHeld => ?_)
      · exact HS.out _ HG9.out.kp
      clear hK K
      try simp only [Act.put, List.getElem_toArray, List.getElem_cons_succ, List.getElem_cons_zero, List.setIfInBounds_toArray, List.set_cons_zero, List.set_cons_succ]
      refine wpAnyH_take (i := 10) (oi := _) (v := ?_) rfl (by kernel_rfl) (by kernel_rfl) (by kernel_rfl) (fun _ _ _ h => h) (Or.inl ⟨by rfl, ?_⟩) (by assumption) ?_
      rotate_left 1
      · intro wq hSw; (try dsimp only at hSw); go_simp; try (with_reducible rfl)
      try simp only [Act.put, List.getElem_toArray, List.getElem_cons_succ, List.getElem_cons_zero, List.setIfInBounds_toArray, List.set_cons_zero, List.set_cons_succ]
      refine wpAnyH_done (by kernel_rfl) ?_ _
      go_wp2_with fail
      go_roundw
      case rel => exact ⟨p + 1, ao9, n9, c9, _, by omega, rfl, rfl, HG9.out, by unfold Hid; rw [HNX.out, List.map_append, HM.out, List.append_assoc]; rfl, by unfold Hid; have := HXL.out; rw [List.length_append, List.length_singleton]; omega⟩
      case measure => simp [RowKit.intOf]; omega
    · obtain rfl : p = 37 := by omega
      have hge : ¬ ((37 : Nat) : Int) < 37 := by omega
      have HMA : Hid (xs.map Prod.fst = dMt1) := by unfold Hid; rw [HM.out]; rfl
      have HL2 : Hid (xs.length ≤ 240) := by unfold Hid; have := HXL.out; omega
      have HB01 : Hid (B0 ≤ wr.heap.size) := Nat.le_trans HB0.out HG.out.kp.size
      clear HM HXL
      go_upto_region 9 with (first | (go_at_call 56; refine (one_any ⟨#[37]⟩ 1 33 _ (by decide)).mono ?_; rintro e y ⟨v1, rfl, ho1, hb1⟩; obtain ⟨xa, xc, rfl, _⟩ := ho1.rds.len; have HO1 := hidIt ho1; have HG1 := hidIt (HG.out.ext hb1); clear ho1 hb1; (try dsimp only)) | (at_builtin; refine wpl_drows rfl _ _ rfl B0 (.slice ao cn c) xs rfl (HG1.out.ext (ext_alloc (Below.refl _ _) _)).ow _ [(⟨bys ⟨#[37]⟩, 1, 33, 0, false⟩, .slice xa (bys ⟨#[37]⟩).length xc)] rfl (drow_lit ⟨bys ⟨#[37]⟩, 1, 33, 0, false⟩ _ HO1.out.ki) (by have := HL2.out; simp; omega) (Nat.le_trans HB0.out (HG1.out.ext (ext_alloc (Below.refl _ _) _)).kp.size) (by simp) ?_; intro v9 w9 ho9 hb9 hg9 hn9; clear hb9; obtain ⟨ao9, n9, c9, rfl⟩ := ho9.form; have HG9 := hidIt ((HG1.out.ext (ext_alloc (Below.refl _ _) _)).push ho9 hg9 hn9); clear ho9 hg9 hn9; (try dsimp only)))
      obtain ⟨xs9, HX9⟩ : ∃ xs9, Hid (xs9 = xs ++ [((⟨bys ⟨#[37]⟩, 1, 33, 0, false⟩ : DRw), Value.slice xa (bys ⟨#[37]⟩).length xc)]) := ⟨_, hidIt rfl⟩
      rw [← HX9.out] at HG9
      have HM1 : Hid (xs9.map Prod.fst = dMt2) := by unfold Hid; rw [HX9.out, List.map_append, HMA.out]; rfl
      have HL1 : Hid (xs9.length ≤ 300) := by unfold Hid; rw [HX9.out, List.length_append, List.length_singleton]; have := HL2.out; omega
      have HBW1 : Hid (Below B0 w w9) := HBW.out.trans (HG9.out.below HOV.out HB0.out)
      have HO1 := hidIt HG9.out.ow
      have HB01 : Hid (B0 ≤ w9.heap.size) := Nat.le_trans HB0.out HG9.out.kp.size
      clear HG HG1 HG9 HBW HOV RS FsN Rx1 Fx1 HB0 HMA HL2 HX9
      refine wp_region_lit ?_
      refine wpl_run rfl _ rfl (.agg (arS sFs)) w9 (by kernel_rfl) ?_
      refine wpl_run rfl _ rfl (.pointer (some ⟨w9.heap.size, 0, none⟩)) (w9.alloc (.cells (arS (zS 6)) 98)) (by kernel_rfl) ?_
      refine wpl_store_new w9 rfl 98 _ _ rfl (arS (zS 6)) (arS sFs) rfl rfl (by kernel_rfl) (by kernel_rfl) (by kernel_rfl) ?_
      refine wpList_nil ?_
      go_upto_region 10 with fail
      obtain ⟨w3, hw3⟩ : ∃ w3, w3 = w9.alloc (.cells (arS sFs) 98) := ⟨_, rfl⟩
      rw [← hw3]
      have Bw3 : Hid (Below w9.heap.size w9 w3) := by unfold Hid; rw [hw3]; exact ext_alloc (Below.refl _ _) _
      have Rw3 : Hid (w3.heap[w9.heap.size]? = some (.cells (arS sFs) 98 (0, 0))) := by unfold Hid; rw [hw3]; exact heap_alloc_new _ _
      clear hw3
      refine wp_region_lit ?_
      refine wpl_run rfl _ rfl (.agg (arI vFs)) w3 (by kernel_rfl) ?_
      refine wpl_run rfl _ rfl (.pointer (some ⟨w3.heap.size, 0, none⟩)) (w3.alloc (.cells (arI (zI 6)) 99)) (by kernel_rfl) ?_
      refine wpl_store_new w3 rfl 99 _ _ rfl (arI (zI 6)) (arI vFs) rfl rfl (by kernel_rfl) (by kernel_rfl) (by kernel_rfl) ?_
      refine wpList_nil ?_
      go_upto_region 11 with fail
      obtain ⟨w4, hw4⟩ : ∃ w4, w4 = w3.alloc (.cells (arI vFs) 99) := ⟨_, rfl⟩
      rw [← hw4]
      have Bw4 : Hid (Below w3.heap.size w3 w4) := by unfold Hid; rw [hw4]; exact ext_alloc (Below.refl _ _) _
      have Rw4 : Hid (w4.heap[w3.heap.size]? = some (.cells (arI vFs) 99 (0, 0))) := by unfold Hid; rw [hw4]; exact heap_alloc_new _ _
      clear hw4
      have RS := hidIt (((Bw4.out.block _ (Array.getElem?_eq_some_iff.1 Rw3.out).1).trans Rw3.out))
      have Rx1 := Rw4
      have HBW : Hid (Below B0 w w4) := HBW1.out.trans ((ext_trans Bw3.out Bw4.out).mono HB01.out)
      have HOV : Hid (OwnD w4 B0 (.slice ao9 n9 c9) xs9) := HO1.out.ext (ext_trans Bw3.out Bw4.out)
      have HB0 : Hid (B0 ≤ w4.heap.size) := Nat.le_trans HB01.out (ext_trans Bw3.out Bw4.out).size
      have FsN : Hid (¬ (Value.slice ao9 n9 c9).ownBlock = some w9.heap.size) := own_far HOV.out RS.out (by decide)
      have Fx1 : Hid (¬ (Value.slice ao9 n9 c9).ownBlock = some w3.heap.size) := own_far HOV.out Rx1.out (by decide)
      clear Bw3 Rw3 Bw4 HO1 HBW1 HB01
      generalize w9.heap.size = gs2 at RS FsN
      generalize w3.heap.size = gx12 at Rx1 Fx1
      go_wp2_with fail
      go_loopw [3, 7] (fun rv iv wr => ∃ (p2 : Nat) (ao2 : Option Addr) (cn2 c2 : Nat) (xs2 : List (DRw × Value)), p2 ≤ 6 ∧ iv = .int .i64 p2 ∧ rv = .slice ao2 cn2 c2 ∧ Hid (Gro w4 (.slice ao9 n9 c9) B0 wr (.slice ao2 cn2 c2) xs2) ∧ Hid (xs2.map Prod.fst = dMt2 ++ (tabR sFs (List.replicate 6 1) vFs true).take p2) ∧ Hid (xs2.length ≤ 300 + p2)) (fun _ iv _ => 6 - (RowKit.intOf iv).toNat)
      case atStart => exact ⟨0, ao9, n9, c9, xs9, Nat.zero_le _, rfl, rfl, Gro.init HOV.out, by unfold Hid; rw [HM1.out, List.take_zero, List.append_nil], by have := HL1.out; unfold Hid; omega⟩
      case round =>
        obtain ⟨p2, ao2, cn2, c2, xs2, hp, rfl, rfl, HG, HM, HXL⟩ := hrel
        by_cases hlt : p2 < 6
        · have hltI : (p2 : Int) < 6 := by omega
          have HNX := hidIt (tab_at (ss := sFs) (vs := (List.replicate 6 1)) (ms := vFs) (k := true) hlt)
          rw [show (List.replicate 6 (1 : Int))[p2]?.getD 0 = 1 by rw [List.getElem?_replicate, if_pos hlt]; rfl] at HNX
          have HTS : Hid ((sFs[p2]?.getD ⟨#[]⟩).size ≤ 100) := by unfold Hid; rw [List.getElem?_eq_getElem (show p2 < sFs.length from hlt)]; exact sFs_sz _ (List.getElem_mem _)
          have HS : Hid (∀ W : World, Kps (fun k => ((.slice ao9 n9 c9) : Value).ownBlock = some k) w4 W → W.cell? ⟨gs2, p2, none⟩ = some (.string (sFs[p2]?.getD ⟨#[]⟩)) ∧ W.cell? ⟨gx12, p2, none⟩ = some (.int .i64 (vFs[p2]?.getD 0))) := fun W hW => ⟨arS_at ((hW.same _ (Array.getElem?_eq_some_iff.1 RS.out).1 FsN.out).trans RS.out) hlt, arI_at ((hW.same _ (Array.getElem?_eq_some_iff.1 Rx1.out).1 Fx1.out).trans Rx1.out) (show p2 < vFs.length from hlt)⟩
          generalize sFs[p2]?.getD ⟨#[]⟩ = t at HNX HTS HS
          generalize vFs[p2]?.getD 0 = x1 at HNX HS
          go_upto_region 14 with fail
          refine wp_region_held_drew (S := fun w' => w'.cell? ⟨gs2, p2, none⟩ = some (.string t) ∧ w'.cell? ⟨gx12, p2, none⟩ = some (.int .i64 x1)) (by kernel_rfl) (by first | exact HS.out _ HG.out.kp | exact HS.out _ (HG.out.ext (Below.refl _ _).drew).kp) (fun hHeld => ?_)
          refine wpAnyH_take (i := 0) (oi := _) (v := ?_) rfl (by kernel_rfl) (by kernel_rfl) (by kernel_rfl) (fun _ _ _ h => h) (Or.inl ⟨by rfl, ?_⟩) (by assumption) ?_
          rotate_left 1
          · intro wq hSw; (try dsimp only at hSw); go_simp; try (with_reducible rfl)
          try simp only [Act.put, List.getElem_toArray, List.getElem_cons_zero, List.setIfInBounds_toArray, List.set_cons_zero, List.set_cons_succ]
          refine wpAnyH_take (i := 1) (oi := _) (v := ?_) rfl (by kernel_rfl) (by kernel_rfl) (by kernel_rfl) (fun _ _ _ h => h) (Or.inl ⟨by rfl, ?_⟩) (by assumption) ?_
          rotate_left 1
          · intro wq hSw; (try dsimp only at hSw); go_simp; try (with_reducible rfl)
          try simp only [Act.put, List.getElem_toArray, List.getElem_cons_succ, List.getElem_cons_zero, List.setIfInBounds_toArray, List.set_cons_zero, List.set_cons_succ]
          refine wpAnyH_take (i := 2) (oi := _) (v := ?_) rfl (by kernel_rfl) (by kernel_rfl) (by kernel_rfl) (fun _ _ _ h => h) (Or.inl ⟨by rfl, ?_⟩) (by assumption) ?_
          rotate_left 1
          · intro wq hSw; (try dsimp only at hSw); go_simp; try (with_reducible rfl)
          try simp only [Act.put, List.getElem_toArray, List.getElem_cons_succ, List.getElem_cons_zero, List.setIfInBounds_toArray, List.set_cons_zero, List.set_cons_succ]
          refine wpAnyH_take (i := 3) (oi := _) (v := ?_) rfl (by kernel_rfl) (by kernel_rfl) (by kernel_rfl) (fun _ _ _ h => h) (Or.inl ⟨by rfl, ?_⟩) (by assumption) ?_
          rotate_left 1
          · intro wq hSw; (try dsimp only at hSw); go_simp; try (with_reducible rfl)
          try simp only [Act.put, List.getElem_toArray, List.getElem_cons_succ, List.getElem_cons_zero, List.setIfInBounds_toArray, List.set_cons_zero, List.set_cons_succ]
          refine wpAnyH_take (i := 4) (oi := _) (v := ?_) rfl (by kernel_rfl) (by kernel_rfl) (by kernel_rfl) (fun _ _ _ h => h) (Or.inl ⟨by rfl, ?_⟩) (by assumption) ?_
          rotate_left 1
          · intro wq hSw; (try dsimp only at hSw); go_simp; try (with_reducible rfl)
          try simp only [Act.put, List.getElem_toArray, List.getElem_cons_succ, List.getElem_cons_zero, List.setIfInBounds_toArray, List.set_cons_zero, List.set_cons_succ]
          refine wpAnyH_take (i := 5) (oi := _) (v := ?_) rfl (by kernel_rfl) (by kernel_rfl) (by kernel_rfl) (fun _ _ _ h => h) (Or.inl ⟨by rfl, ?_⟩) (by assumption) ?_
          rotate_left 1
          · intro wq hSw; (try dsimp only at hSw); go_simp; try (with_reducible rfl)
          try simp only [Act.put, List.getElem_toArray, List.getElem_cons_succ, List.getElem_cons_zero, List.setIfInBounds_toArray, List.set_cons_zero, List.set_cons_succ]
          refine wpAnyH_ready (rs := [6, 7]) (by kernel_rfl) (by simp) ?_
          refine (AllReadyH.cons (o := _) rfl (fun K hK => ?_) (AllReadyH.cons (o := _) rfl (fun K hK => ?_) AllReadyH.nil))
          · skip
            go_simp
            refine (one_any t 1 x1 _ HTS.out).mono ?_; rintro e y ⟨v1, rfl, ho1, hb1⟩; obtain ⟨xa, xc, rfl, _⟩ := ho1.rds.len; have HO1 := hidIt ho1; have HB1 : Hid (Below wr.heap.size wr y) := (by first | exact hb1 | exact ext_trans (Below.refl _ _).drew hb1 | exact ext_trans (ext_alloc (Below.refl _ _) _) hb1 | exact ext_trans (ext_alloc (Below.refl _ _).drew _) hb1 | exact ext_trans (ext_alloc (Below.refl _ _) _).drew hb1); clear ho1 hb1; have HG1 := hidIt (HG.out.ext HB1.out); try dsimp only
            refine hK.out _ _ ?_ (fun hHeld => ?_)
            · exact HS.out _ HG1.out.kp
            clear hK K
            try simp only [Act.put, List.getElem_toArray, List.getElem_cons_succ, List.getElem_cons_zero, List.setIfInBounds_toArray, List.set_cons_zero, List.set_cons_succ]
            refine wpAnyH_ready (rs := [7]) (by kernel_rfl) (by simp) ?_
            refine AllReadyH.cons (o := _) rfl (fun K hK => ?_) AllReadyH.nil
            go_simp
            refine hK.out _ _ ?_ (fun hHeld => ?_)
            · exact HS.out _ (HG1.out.ext (ext_alloc (Below.refl _ _) _)).kp
            clear hK K
            try simp only [Act.put, List.getElem_toArray, List.getElem_cons_succ, List.getElem_cons_zero, List.setIfInBounds_toArray, List.set_cons_zero, List.set_cons_succ]
            refine wpAnyH_ready (rs := [8]) (by kernel_rfl) (by simp) ?_
            refine AllReadyH.cons (o := _) rfl (fun K hK => ?_) AllReadyH.nil
            go_simp
            refine hK.out _ _ ?_ (fun hHeld => ?_)
            · exact HS.out _ (HG1.out.ext (ext_alloc (Below.refl _ _) _)).kp
            clear hK K
            try simp only [Act.put, List.getElem_toArray, List.getElem_cons_succ, List.getElem_cons_zero, List.setIfInBounds_toArray, List.set_cons_zero, List.set_cons_succ]
            refine wpAnyH_done (by kernel_rfl) ?_ _
            have HR5 : Hid ((y.alloc (.cells #[.slice xa (bys t).length xc, .int .i64 1, .int .i64 x1, .int .i64 0, .bool false] 71)).heap[y.heap.size]? = some (.cells #[.slice xa (bys t).length xc, .int .i64 1, .int .i64 x1, .int .i64 0, .bool false] 71 (0, 0))) := heap_alloc_new _ _
            have HG5 := hidIt (HG1.out.ext (ext_alloc (Below.refl _ _) (.cells #[.slice xa (bys t).length xc, .int .i64 1, .int .i64 x1, .int .i64 0, .bool false] 71)))
            have HK5 := hidIt (HO1.out.ext (ext_alloc (Below.refl _ _) (.cells #[.slice xa (bys t).length xc, .int .i64 1, .int .i64 x1, .int .i64 0, .bool false] 71))).ki
            have HF5 : Hid (¬ (Value.slice ao2 cn2 c2).ownBlock = some y.heap.size ∧ w4.heap.size ≤ y.heap.size) := ⟨fun e => by have := (HG1.out.ow.blk e).2; omega, HG1.out.kp.size⟩
            clear HO1 HG1
            go_upto_region 15 with fail
            generalize (y.alloc (.cells #[.slice xa (bys t).length xc, .int .i64 1, .int .i64 x1, .int .i64 0, .bool false] 71)) = W5 at HR5 HG5 HK5 ⊢
            generalize y.heap.size = gr at HR5 HF5 ⊢
            obtain ⟨u6, v6⟩ := set1 HR5.out 4 (.bool true)
            obtain ⟨W6, hW6⟩ : ∃ W6, W6 = W5.setCell ⟨gr, 4, none⟩ (.bool true) := ⟨_, rfl⟩
            rw [← hW6] at u6 v6
            have HR6 : Hid (W6.heap[gr]? = some (.cells #[.slice xa (bys t).length xc, .int .i64 1, .int .i64 x1, .int .i64 0, .bool true] 71 (0, 0))) := u6
            have HG6 := hidIt (HG5.out.poke v6 HR5.out HF5.out.1 HF5.out.2)
            have HK6 := hidIt (HK5.out.poke v6 HR5.out)
            obtain ⟨_, e0, e1, e2, e3, e4, ef⟩ := cells5 HR5.out
            clear HG5 HK5 u6 v6
            go_upto_region 16 with fail
            rw [← hW6]
            clear hW6 e0 e1 e2 e3 e4 ef
            obtain ⟨_, e0, e1, e2, e3, e4, ef⟩ := cells5 HR6.out
            go_wp2_with (at_builtin; refine wpl_drows rfl _ _ rfl B0 (.slice ao2 cn2 c2) xs2 rfl (HG6.out.ext (ext_alloc (Below.refl _ _) _)).ow _ [(⟨bys t, 1, x1, 0, true⟩, .slice xa (bys t).length xc)] rfl (drow_lit ⟨bys t, 1, x1, 0, true⟩ _ HK6.out) (by have := HXL.out; simp; omega) (Nat.le_trans HB0.out (HG6.out.ext (ext_alloc (Below.refl _ _) _)).kp.size) (by simp) ?_; intro v9 w9 ho9 hb9 hg9 hn9; clear hb9; obtain ⟨ao9, n9, c9, rfl⟩ := ho9.form; have HG9 := hidIt ((HG6.out.ext (ext_alloc (Below.refl _ _) _)).push ho9 hg9 hn9); clear ho9 hg9 hn9; (try dsimp only))
            go_roundw
            case rel => exact ⟨p2 + 1, ao9, n9, c9, _, by omega, rfl, rfl, HG9.out, by unfold Hid; rw [HNX.out, List.map_append, HM.out, List.append_assoc]; rfl, by unfold Hid; have := HXL.out; rw [List.length_append, List.length_singleton]; omega⟩
            case measure => simp [RowKit.intOf]; omega
          · skip
            go_simp
            refine hK.out _ _ ?_ (fun hHeld => ?_)
            · first | exact HS.out _ (HG.out.ext (ext_alloc (Below.refl _ _) _)).kp | exact HS.out _ (HG.out.ext (ext_alloc (Below.refl _ _).drew _)).kp | exact HS.out _ (HG.out.ext (ext_alloc (Below.refl _ _) _).drew).kp
            clear hK K
            try simp only [Act.put, List.getElem_toArray, List.getElem_cons_succ, List.getElem_cons_zero, List.setIfInBounds_toArray, List.set_cons_zero, List.set_cons_succ]
            refine wpAnyH_ready (rs := [6]) (by kernel_rfl) (by simp) ?_
            refine AllReadyH.cons (o := _) rfl (fun K hK => ?_) AllReadyH.nil
            go_simp
            refine (one_any t 1 x1 _ HTS.out).mono ?_; rintro e y ⟨v1, rfl, ho1, hb1⟩; obtain ⟨xa, xc, rfl, _⟩ := ho1.rds.len; have HO1 := hidIt ho1; have HB1 : Hid (Below wr.heap.size wr y) := (by first | exact hb1 | exact ext_trans (Below.refl _ _).drew hb1 | exact ext_trans (ext_alloc (Below.refl _ _) _) hb1 | exact ext_trans (ext_alloc (Below.refl _ _).drew _) hb1 | exact ext_trans (ext_alloc (Below.refl _ _) _).drew hb1); have HZ : Hid (y.heap[wr.heap.size]? = some (.cells #[.slice none 0 0, .int .i64 0, .int .i64 0, .int .i64 0, .bool false] 71 (0, 0))) := (hb1.block _ (by simp)).trans (heap_alloc_new _ _); clear ho1 hb1; obtain ⟨_, e0, e1, e2, e3, e4, ef⟩ := cells5 HZ.out; have HG1 := hidIt (HG.out.ext HB1.out); try dsimp only
            refine hK.out _ _ ?_ (fun hHeld => ?_)
            · exact HS.out _ HG1.out.kp
            clear hK K
            try simp only [Act.put, List.getElem_toArray, List.getElem_cons_succ, List.getElem_cons_zero, List.setIfInBounds_toArray, List.set_cons_zero, List.set_cons_succ]
            refine wpAnyH_ready (rs := [8]) (by kernel_rfl) (by simp) ?_
            refine AllReadyH.cons (o := _) rfl (fun K hK => ?_) AllReadyH.nil
            go_simp
            refine hK.out _ _ ?_ (fun hHeld => ?_)
            · have HP := hidIt (put5 HZ.out (.slice xa (bys t).length xc) (.int .i64 1) (.int .i64 x1) (.int .i64 0) (.bool false)); have HF5 : Hid (¬ (Value.slice ao2 cn2 c2).ownBlock = some wr.heap.size ∧ w4.heap.size ≤ wr.heap.size) := ⟨fun e => by have := (HG.out.ow.blk e).2; omega, HG.out.kp.size⟩; exact HS.out _ (HG1.out.poke HP.out.2 HZ.out HF5.out.1 HF5.out.2).kp
            clear hK K
            try simp only [Act.put, List.getElem_toArray, List.getElem_cons_succ, List.getElem_cons_zero, List.setIfInBounds_toArray, List.set_cons_zero, List.set_cons_succ]
            refine wpAnyH_done (by kernel_rfl) ?_ _
            have HP := hidIt (put5 HZ.out (.slice xa (bys t).length xc) (.int .i64 1) (.int .i64 x1) (.int .i64 0) (.bool false))
            have HF5 : Hid (¬ (Value.slice ao2 cn2 c2).ownBlock = some wr.heap.size ∧ w4.heap.size ≤ wr.heap.size) := ⟨fun e => by have := (HG.out.ow.blk e).2; omega, HG.out.kp.size⟩
            have HR5 := hidIt HP.out.1
            have HG5 := hidIt (HG1.out.poke HP.out.2 HZ.out HF5.out.1 HF5.out.2)
            have HK5 := hidIt (HO1.out.ki.poke HP.out.2 HZ.out)
            clear HP HO1 HG1 HZ e0 e1 e2 e3 e4 ef
            go_upto_region 15 with fail
            generalize (((((y.setCell ⟨wr.heap.size, 0, none⟩ (.slice xa (bys t).length xc)).setCell ⟨wr.heap.size, 1, none⟩ (.int .i64 1)).setCell ⟨wr.heap.size, 2, none⟩ (.int .i64 x1)).setCell ⟨wr.heap.size, 3, none⟩ (.int .i64 0)).setCell ⟨wr.heap.size, 4, none⟩ (.bool false)) = W5 at HR5 HG5 HK5 ⊢
            generalize wr.heap.size = gr at HR5 HF5 ⊢
            obtain ⟨u6, v6⟩ := set1 HR5.out 4 (.bool true)
            obtain ⟨W6, hW6⟩ : ∃ W6, W6 = W5.setCell ⟨gr, 4, none⟩ (.bool true) := ⟨_, rfl⟩
            rw [← hW6] at u6 v6
            have HR6 : Hid (W6.heap[gr]? = some (.cells #[.slice xa (bys t).length xc, .int .i64 1, .int .i64 x1, .int .i64 0, .bool true] 71 (0, 0))) := u6
            have HG6 := hidIt (HG5.out.poke v6 HR5.out HF5.out.1 HF5.out.2)
            have HK6 := hidIt (HK5.out.poke v6 HR5.out)
            obtain ⟨_, e0, e1, e2, e3, e4, ef⟩ := cells5 HR5.out
            clear HG5 HK5 u6 v6
            go_upto_region 16 with fail
            rw [← hW6]
            clear hW6 e0 e1 e2 e3 e4 ef
            obtain ⟨_, e0, e1, e2, e3, e4, ef⟩ := cells5 HR6.out
            go_wp2_with (at_builtin; refine wpl_drows rfl _ _ rfl B0 (.slice ao2 cn2 c2) xs2 rfl (HG6.out.ext (ext_alloc (Below.refl _ _) _)).ow _ [(⟨bys t, 1, x1, 0, true⟩, .slice xa (bys t).length xc)] rfl (drow_lit ⟨bys t, 1, x1, 0, true⟩ _ HK6.out) (by have := HXL.out; simp; omega) (Nat.le_trans HB0.out (HG6.out.ext (ext_alloc (Below.refl _ _) _)).kp.size) (by simp) ?_; intro v9 w9 ho9 hb9 hg9 hn9; clear hb9; obtain ⟨ao9, n9, c9, rfl⟩ := ho9.form; have HG9 := hidIt ((HG6.out.ext (ext_alloc (Below.refl _ _) _)).push ho9 hg9 hn9); clear ho9 hg9 hn9; (try dsimp only))
            go_roundw
            case rel => exact ⟨p2 + 1, ao9, n9, c9, _, by omega, rfl, rfl, HG9.out, by unfold Hid; rw [HNX.out, List.map_append, HM.out, List.append_assoc]; rfl, by unfold Hid; have := HXL.out; rw [List.length_append, List.length_singleton]; omega⟩
            case measure => simp [RowKit.intOf]; omega
        · obtain rfl : p2 = 6 := by omega
          have hge : ¬ ((6 : Nat) : Int) < 6 := by omega
          go_wp2_with fail
          go_ret
          exact ⟨_, xs2, rfl, by rw [← HBE.out]; exact HG.out.ow, by unfold Hid; rw [HM.out]; exact tMo2, by rw [← HBE.out]; exact HBW.out.trans (HG.out.below HOV.out HB0.out)⟩
def sSe : List ByteArray := [⟨#[100]⟩, ⟨#[120]⟩, ⟨#[99]⟩, ⟨#[115]⟩, ⟨#[121]⟩, ⟨#[62]⟩, ⟨#[60]⟩, ⟨#[85]⟩, ⟨#[103, 85]⟩, ⟨#[117]⟩, ⟨#[103, 117]⟩, ⟨#[126]⟩, ⟨#[103, 126]⟩, ⟨#[111]⟩]
def vSe : List Int := [2, 2, 3, 3, 4, 8, 9, 5, 5, 6, 6, 7, 7, 45]
theorem tSe : dEvr ++ tabR sSe vSe [] false = dSel := by rfl
theorem sSe_sz : ∀ s ∈ sSe, s.size ≤ 100 := by decide
set_option maxRecDepth 100000 in
set_option maxHeartbeats 8000000 in
theorem r_selected_any (w : World) : Calls Tryz.prog 33 #[] w fun e w' => DrP w w' dSel e := by
  obtain ⟨B0, hB0⟩ : ∃ B0, B0 = w.heap.size := ⟨_, rfl⟩
  have HBE := hidIt hB0
  have HFI := hidIt (r_everywhere_any w)
  go_enter Tryz.func33, Tryz.ntmps33
  go_upto_region 2 with (go_at_call 58; refine HFI.out.mono ?_; rintro e w0 ⟨vq, xq, rfl, ho, hm, hb⟩; obtain ⟨aq, nq, cq, rfl⟩ := ho.form; (try dsimp only); have HO0 := hidIt ho; have HM0 := hidIt hm.out; have HB00 := hidIt hb; clear ho hm hb HFI)
  rw [← HBE.out] at HO0 HB00
  have HL0 : Hid (xq.length ≤ 100) := by unfold Hid; have := congrArg List.length HM0.out; rw [List.length_map] at this; rw [this]; decide
  refine wp_region_lit ?_
  refine wpl_run rfl _ rfl (.agg (arS sSe)) w0 (by kernel_rfl) ?_
  refine wpl_run rfl _ rfl (.pointer (some ⟨w0.heap.size, 0, none⟩)) (w0.alloc (.cells (arS (zS 14)) 103)) (by kernel_rfl) ?_
  refine wpl_store_new w0 rfl 103 _ _ rfl (arS (zS 14)) (arS sSe) rfl rfl (by kernel_rfl) (by kernel_rfl) (by kernel_rfl) ?_
  refine wpList_nil ?_
  go_upto_region 3 with fail
  obtain ⟨w1, hw1⟩ : ∃ w1, w1 = w0.alloc (.cells (arS sSe) 103) := ⟨_, rfl⟩
  rw [← hw1]
  have Bw1 : Hid (Below w0.heap.size w0 w1) := by unfold Hid; rw [hw1]; exact ext_alloc (Below.refl _ _) _
  have Rw1 : Hid (w1.heap[w0.heap.size]? = some (.cells (arS sSe) 103 (0, 0))) := by unfold Hid; rw [hw1]; exact heap_alloc_new _ _
  clear hw1
  refine wp_region_lit ?_
  refine wpl_run rfl _ rfl (.agg (arI vSe)) w1 (by kernel_rfl) ?_
  refine wpl_run rfl _ rfl (.pointer (some ⟨w1.heap.size, 0, none⟩)) (w1.alloc (.cells (arI (zI 14)) 104)) (by kernel_rfl) ?_
  refine wpl_store_new w1 rfl 104 _ _ rfl (arI (zI 14)) (arI vSe) rfl rfl (by kernel_rfl) (by kernel_rfl) (by kernel_rfl) ?_
  refine wpList_nil ?_
  go_upto_region 4 with fail
  obtain ⟨w2, hw2⟩ : ∃ w2, w2 = w1.alloc (.cells (arI vSe) 104) := ⟨_, rfl⟩
  rw [← hw2]
  have Bw2 : Hid (Below w1.heap.size w1 w2) := by unfold Hid; rw [hw2]; exact ext_alloc (Below.refl _ _) _
  have Rw2 : Hid (w2.heap[w1.heap.size]? = some (.cells (arI vSe) 104 (0, 0))) := by unfold Hid; rw [hw2]; exact heap_alloc_new _ _
  clear hw2
  have RS := hidIt (((Bw2.out.block _ (Array.getElem?_eq_some_iff.1 Rw1.out).1).trans Rw1.out))
  have Rx1 := Rw2
  have HBW : Hid (Below B0 w w2) := HB00.out.trans ((ext_trans Bw1.out Bw2.out).mono (by rw [HBE.out]; exact HB00.out.size))
  have HOV : Hid (OwnD w2 B0 (.slice aq nq cq) xq) := HO0.out.ext (ext_trans Bw1.out Bw2.out)
  have HB0 : Hid (B0 ≤ w2.heap.size) := by unfold Hid; rw [hB0]; exact HBW.out.size
  have FsN : Hid (¬ ((.slice aq nq cq) : Value).ownBlock = some w0.heap.size) := own_far HOV.out RS.out (by decide)
  have Fx1 : Hid (¬ ((.slice aq nq cq) : Value).ownBlock = some w1.heap.size) := own_far HOV.out Rx1.out (by decide)
  clear Bw1 Rw1 Bw2 hB0 HO0 HB00
  generalize w0.heap.size = gs at RS FsN
  generalize w1.heap.size = gx1 at Rx1 Fx1
  go_wp2_with fail
  go_loopw [1, 4] (fun rv iv wr => ∃ (p : Nat) (ao : Option Addr) (cn c : Nat) (xs : List (DRw × Value)), p ≤ 14 ∧ iv = .int .i64 p ∧ rv = .slice ao cn c ∧ Hid (Gro w2 (.slice aq nq cq) B0 wr (.slice ao cn c) xs) ∧ Hid (xs.map Prod.fst = dEvr ++ (tabR sSe vSe [] false).take p) ∧ Hid (xs.length ≤ 200 + p)) (fun _ iv _ => 14 - (RowKit.intOf iv).toNat)
  case atStart => exact ⟨0, aq, nq, cq, xq, Nat.zero_le _, rfl, rfl, Gro.init HOV.out, by unfold Hid; rw [HM0.out, List.take_zero, List.append_nil], by have := HL0.out; unfold Hid; omega⟩
  case round =>
    obtain ⟨p, ao, cn, c, xs, hp, rfl, rfl, HG, HM, HXL⟩ := hrel
    by_cases hlt : p < 14
    · have hltI : (p : Int) < 14 := by omega
      have HNX := hidIt (tab_at (ss := sSe) (vs := vSe) (ms := []) (k := false) hlt)
      have HTS : Hid ((sSe[p]?.getD ⟨#[]⟩).size ≤ 100) := by unfold Hid; rw [List.getElem?_eq_getElem (show p < sSe.length from hlt)]; exact sSe_sz _ (List.getElem_mem _)
      have HS : Hid (∀ W : World, Kps (fun k => ((.slice aq nq cq) : Value).ownBlock = some k) w2 W → W.cell? ⟨gs, p, none⟩ = some (.string (sSe[p]?.getD ⟨#[]⟩)) ∧ W.cell? ⟨gx1, p, none⟩ = some (.int .i64 (vSe[p]?.getD 0))) := fun W hW => ⟨arS_at ((hW.same _ (Array.getElem?_eq_some_iff.1 RS.out).1 FsN.out).trans RS.out) hlt, arI_at ((hW.same _ (Array.getElem?_eq_some_iff.1 Rx1.out).1 Fx1.out).trans Rx1.out) (show p < vSe.length from hlt)⟩
      generalize sSe[p]?.getD ⟨#[]⟩ = t at HNX HTS HS
      generalize vSe[p]?.getD 0 = x1 at HNX HS
      go_upto_region 7 with fail
      refine wp_region_held_drew (S := fun w' => w'.cell? ⟨gs, p, none⟩ = some (.string t) ∧ w'.cell? ⟨gx1, p, none⟩ = some (.int .i64 x1)) (by kernel_rfl) (by first | exact HS.out _ HG.out.kp | exact HS.out _ (HG.out.ext (Below.refl _ _).drew).kp) (fun hHeld => ?_)
      refine wpAnyH_take (i := 0) (oi := _) (v := ?_) rfl (by kernel_rfl) (by kernel_rfl) (by kernel_rfl) (fun _ _ _ h => h) (Or.inl ⟨by rfl, ?_⟩) (by assumption) ?_
      rotate_left 1
      · intro wq hSw; (try dsimp only at hSw); go_simp; try (with_reducible rfl)
      try simp only [Act.put, List.getElem_toArray, List.getElem_cons_zero, List.setIfInBounds_toArray, List.set_cons_zero, List.set_cons_succ]
      refine wpAnyH_take (i := 1) (oi := _) (v := ?_) rfl (by kernel_rfl) (by kernel_rfl) (by kernel_rfl) (fun _ _ _ h => h) (Or.inl ⟨by rfl, ?_⟩) (by assumption) ?_
      rotate_left 1
      · intro wq hSw; (try dsimp only at hSw); go_simp; try (with_reducible rfl)
      try simp only [Act.put, List.getElem_toArray, List.getElem_cons_succ, List.getElem_cons_zero, List.setIfInBounds_toArray, List.set_cons_zero, List.set_cons_succ]
      refine wpAnyH_take (i := 2) (oi := _) (v := ?_) rfl (by kernel_rfl) (by kernel_rfl) (by kernel_rfl) (fun _ _ _ h => h) (Or.inl ⟨by rfl, ?_⟩) (by assumption) ?_
      rotate_left 1
      · intro wq hSw; (try dsimp only at hSw); go_simp; try (with_reducible rfl)
      try simp only [Act.put, List.getElem_toArray, List.getElem_cons_succ, List.getElem_cons_zero, List.setIfInBounds_toArray, List.set_cons_zero, List.set_cons_succ]
      refine wpAnyH_take (i := 3) (oi := _) (v := ?_) rfl (by kernel_rfl) (by kernel_rfl) (by kernel_rfl) (fun _ _ _ h => h) (Or.inl ⟨by rfl, ?_⟩) (by assumption) ?_
      rotate_left 1
      · intro wq hSw; (try dsimp only at hSw); go_simp; try (with_reducible rfl)
      try simp only [Act.put, List.getElem_toArray, List.getElem_cons_succ, List.getElem_cons_zero, List.setIfInBounds_toArray, List.set_cons_zero, List.set_cons_succ]
      refine wpAnyH_take (i := 4) (oi := _) (v := ?_) rfl (by kernel_rfl) (by kernel_rfl) (by kernel_rfl) (fun _ _ _ h => h) (Or.inl ⟨by rfl, ?_⟩) (by assumption) ?_
      rotate_left 1
      · intro wq hSw; (try dsimp only at hSw); go_simp; try (with_reducible rfl)
      try simp only [Act.put, List.getElem_toArray, List.getElem_cons_succ, List.getElem_cons_zero, List.setIfInBounds_toArray, List.set_cons_zero, List.set_cons_succ]
      refine wpAnyH_take (i := 5) (oi := _) (v := ?_) rfl (by kernel_rfl) (by kernel_rfl) (by kernel_rfl) (fun _ _ _ h => h) (Or.inl ⟨by rfl, ?_⟩) (by assumption) ?_
      rotate_left 1
      · intro wq hSw; (try dsimp only at hSw); go_simp; try (with_reducible rfl)
      try simp only [Act.put, List.getElem_toArray, List.getElem_cons_succ, List.getElem_cons_zero, List.setIfInBounds_toArray, List.set_cons_zero, List.set_cons_succ]
      refine wpAnyH_take (i := 6) (oi := _) (v := ?_) rfl (by kernel_rfl) (by kernel_rfl) (by kernel_rfl) (fun _ _ _ h => h) (Or.inl ⟨by rfl, ?_⟩) (by assumption) ?_
      rotate_left 1
      · intro wq hSw; (try dsimp only at hSw); go_simp; try (with_reducible rfl)
      try simp only [Act.put, List.getElem_toArray, List.getElem_cons_succ, List.getElem_cons_zero, List.setIfInBounds_toArray, List.set_cons_zero, List.set_cons_succ]
      refine wpAnyH_ready (rs := [7]) (by kernel_rfl) (by simp) ?_
      refine AllReadyH.cons (o := _) rfl (fun K hK => ?_) AllReadyH.nil
      go_simp
      refine (one_any t x1 0 _ HTS.out).mono ?_; rintro e y ⟨v1, rfl, ho1, hb1⟩; obtain ⟨xa, xc, rfl, _⟩ := ho1.rds.len; have HO1 := hidIt ho1; have HB1 : Hid (Below wr.heap.size wr y) := (by first | exact hb1 | exact ext_trans (Below.refl _ _).drew hb1 | exact ext_trans (ext_alloc (Below.refl _ _) _) hb1 | exact ext_trans (ext_alloc (Below.refl _ _).drew _) hb1 | exact ext_trans (ext_alloc (Below.refl _ _) _).drew hb1); clear ho1 hb1; have HG1 := hidIt (HG.out.ext HB1.out); try dsimp only
      refine hK.out _ _ ?_ (fun hHeld => ?_)
      · exact HS.out _ HG1.out.kp
      clear hK K
      try simp only [Act.put, List.getElem_toArray, List.getElem_cons_succ, List.getElem_cons_zero, List.setIfInBounds_toArray, List.set_cons_zero, List.set_cons_succ]
      refine wpAnyH_ready (rs := [8]) (by kernel_rfl) (by simp) ?_
      refine AllReadyH.cons (o := _) rfl (fun K hK => ?_) AllReadyH.nil
      go_simp
      refine hK.out _ _ ?_ (fun hHeld => ?_)
      · exact HS.out _ (HG1.out.ext (ext_alloc (Below.refl _ _) _)).kp
      clear hK K
      try simp only [Act.put, List.getElem_toArray, List.getElem_cons_succ, List.getElem_cons_zero, List.setIfInBounds_toArray, List.set_cons_zero, List.set_cons_succ]
      refine wpAnyH_ready (rs := [9]) (by kernel_rfl) (by simp) ?_
      refine AllReadyH.cons (o := _) rfl (fun K hK => ?_) AllReadyH.nil
      rw [if_pos (by rfl)]
      refine wp_append_drowsB _ _ (by rfl) B0 (.slice ao cn c) xs (by rfl) ((HG1.out.ext (ext_alloc (Below.refl _ _) _)).ow) _ [(⟨bys t, x1, 0, 0, false⟩, .slice xa (bys t).length xc)] (by rfl) (drow_lit ⟨bys t, x1, 0, 0, false⟩ _ HO1.out.ki) (by have := HXL.out; simp; omega) (Nat.le_trans HB0.out (HG1.out.ext (ext_alloc (Below.refl _ _) _)).kp.size) (by simp) ?_; intro v9 w9 ho9 hb9 hg9 hn9; clear hb9; obtain ⟨ao9, n9, c9, rfl⟩ := ho9.form; have HG9 := hidIt ((HG1.out.ext (ext_alloc (Below.refl _ _) _)).push ho9 hg9 hn9); clear ho9 hg9 hn9; try dsimp only
      refine hK.out _ _ ?_ (fun hHeld => ?_)
      · exact HS.out _ HG9.out.kp
      clear hK K
      try simp only [Act.put, List.getElem_toArray, List.getElem_cons_succ, List.getElem_cons_zero, List.setIfInBounds_toArray, List.set_cons_zero, List.set_cons_succ]
      refine wpAnyH_take (i := 10) (oi := _) (v := ?_) rfl (by kernel_rfl) (by kernel_rfl) (by kernel_rfl) (fun _ _ _ h => h) (Or.inl ⟨by rfl, ?_⟩) (by assumption) ?_
      rotate_left 1
      · intro wq hSw; (try dsimp only at hSw); go_simp; try (with_reducible rfl)
      try simp only [Act.put, List.getElem_toArray, List.getElem_cons_succ, List.getElem_cons_zero, List.setIfInBounds_toArray, List.set_cons_zero, List.set_cons_succ]
      refine wpAnyH_done (by kernel_rfl) ?_ _
      go_wp2_with fail
      go_roundw
      case rel => exact ⟨p + 1, ao9, n9, c9, _, by omega, rfl, rfl, HG9.out, by unfold Hid; rw [HNX.out, List.map_append, HM.out, List.append_assoc]; rfl, by unfold Hid; have := HXL.out; rw [List.length_append, List.length_singleton]; omega⟩
      case measure => simp [RowKit.intOf]; omega
    · obtain rfl : p = 14 := by omega
      have hge : ¬ ((14 : Nat) : Int) < 14 := by omega
      go_wp2_with fail
      go_ret
      exact ⟨_, xs, rfl, by rw [← HBE.out]; exact HG.out.ow, by unfold Hid; rw [HM.out]; exact tSe, by rw [← HBE.out]; exact HBW.out.trans (HG.out.below HOV.out HB0.out)⟩
def sNo : List ByteArray := [⟨#[120]⟩, ⟨#[88]⟩, ⟨#[68]⟩, ⟨#[115]⟩, ⟨#[83]⟩, ⟨#[67]⟩, ⟨#[89]⟩, ⟨#[105]⟩, ⟨#[97]⟩, ⟨#[73]⟩, ⟨#[65]⟩, ⟨#[111]⟩, ⟨#[79]⟩, ⟨#[82]⟩, ⟨#[126]⟩, ⟨#[117]⟩, ⟨#[18]⟩, ⟨#[46]⟩, ⟨#[38]⟩, ⟨#[103, 118]⟩, ⟨#[90, 90]⟩, ⟨#[90, 81]⟩]
def vNo : List Int := [2, 2, 2, 3, 3, 3, 4, 10, 11, 12, 13, 14, 15, 17, 22, 23, 24, 25, 43, 44, 41, 42]
def mNo : List Int := [2, 1, 5, 2, 60, 5, 60, 0, 0, 0, 0, 0, 0, 0, 0, 0, 0, 0, 0, 0, 0, 0]
theorem tNo : dEvr ++ tabR sNo vNo mNo false = dNor := by rfl
theorem sNo_sz : ∀ s ∈ sNo, s.size ≤ 100 := by decide
set_option maxRecDepth 100000 in
set_option maxHeartbeats 8000000 in
theorem r_normal_any (w : World) : Calls Tryz.prog 34 #[] w fun e w' => DrP w w' dNor e := by
  obtain ⟨B0, hB0⟩ : ∃ B0, B0 = w.heap.size := ⟨_, rfl⟩
  have HBE := hidIt hB0
  have HFI := hidIt (r_everywhere_any w)
  go_enter Tryz.func34, Tryz.ntmps34
  go_upto_region 2 with (go_at_call 58; refine HFI.out.mono ?_; rintro e w0 ⟨vq, xq, rfl, ho, hm, hb⟩; obtain ⟨aq, nq, cq, rfl⟩ := ho.form; (try dsimp only); have HO0 := hidIt ho; have HM0 := hidIt hm.out; have HB00 := hidIt hb; clear ho hm hb HFI)
  rw [← HBE.out] at HO0 HB00
  have HL0 : Hid (xq.length ≤ 100) := by unfold Hid; have := congrArg List.length HM0.out; rw [List.length_map] at this; rw [this]; decide
  refine wp_region_lit ?_
  refine wpl_run rfl _ rfl (.agg (arS sNo)) w0 (by kernel_rfl) ?_
  refine wpl_run rfl _ rfl (.pointer (some ⟨w0.heap.size, 0, none⟩)) (w0.alloc (.cells (arS (zS 22)) 105)) (by kernel_rfl) ?_
  refine wpl_store_new w0 rfl 105 _ _ rfl (arS (zS 22)) (arS sNo) rfl rfl (by kernel_rfl) (by kernel_rfl) (by kernel_rfl) ?_
  refine wpList_nil ?_
  go_upto_region 3 with fail
  obtain ⟨w1, hw1⟩ : ∃ w1, w1 = w0.alloc (.cells (arS sNo) 105) := ⟨_, rfl⟩
  rw [← hw1]
  have Bw1 : Hid (Below w0.heap.size w0 w1) := by unfold Hid; rw [hw1]; exact ext_alloc (Below.refl _ _) _
  have Rw1 : Hid (w1.heap[w0.heap.size]? = some (.cells (arS sNo) 105 (0, 0))) := by unfold Hid; rw [hw1]; exact heap_alloc_new _ _
  clear hw1
  refine wp_region_lit ?_
  refine wpl_run rfl _ rfl (.agg (arI vNo)) w1 (by kernel_rfl) ?_
  refine wpl_run rfl _ rfl (.pointer (some ⟨w1.heap.size, 0, none⟩)) (w1.alloc (.cells (arI (zI 22)) 106)) (by kernel_rfl) ?_
  refine wpl_store_new w1 rfl 106 _ _ rfl (arI (zI 22)) (arI vNo) rfl rfl (by kernel_rfl) (by kernel_rfl) (by kernel_rfl) ?_
  refine wpList_nil ?_
  go_upto_region 4 with fail
  obtain ⟨w2, hw2⟩ : ∃ w2, w2 = w1.alloc (.cells (arI vNo) 106) := ⟨_, rfl⟩
  rw [← hw2]
  have Bw2 : Hid (Below w1.heap.size w1 w2) := by unfold Hid; rw [hw2]; exact ext_alloc (Below.refl _ _) _
  have Rw2 : Hid (w2.heap[w1.heap.size]? = some (.cells (arI vNo) 106 (0, 0))) := by unfold Hid; rw [hw2]; exact heap_alloc_new _ _
  clear hw2
  refine wp_region_lit ?_
  refine wpl_run rfl _ rfl (.agg (arI mNo)) w2 (by kernel_rfl) ?_
  refine wpl_run rfl _ rfl (.pointer (some ⟨w2.heap.size, 0, none⟩)) (w2.alloc (.cells (arI (zI 22)) 106)) (by kernel_rfl) ?_
  refine wpl_store_new w2 rfl 106 _ _ rfl (arI (zI 22)) (arI mNo) rfl rfl (by kernel_rfl) (by kernel_rfl) (by kernel_rfl) ?_
  refine wpList_nil ?_
  go_upto_region 5 with fail
  obtain ⟨w3, hw3⟩ : ∃ w3, w3 = w2.alloc (.cells (arI mNo) 106) := ⟨_, rfl⟩
  rw [← hw3]
  have Bw3 : Hid (Below w2.heap.size w2 w3) := by unfold Hid; rw [hw3]; exact ext_alloc (Below.refl _ _) _
  have Rw3 : Hid (w3.heap[w2.heap.size]? = some (.cells (arI mNo) 106 (0, 0))) := by unfold Hid; rw [hw3]; exact heap_alloc_new _ _
  clear hw3
  have RS := hidIt (((Bw3.out.block _ (Array.getElem?_eq_some_iff.1 ((Bw2.out.block _ (Array.getElem?_eq_some_iff.1 Rw1.out).1).trans Rw1.out)).1).trans ((Bw2.out.block _ (Array.getElem?_eq_some_iff.1 Rw1.out).1).trans Rw1.out)))
  have Rx1 := hidIt (((Bw3.out.block _ (Array.getElem?_eq_some_iff.1 Rw2.out).1).trans Rw2.out))
  have Rx2 := Rw3
  have HBW : Hid (Below B0 w w3) := HB00.out.trans ((ext_trans (ext_trans Bw1.out Bw2.out) Bw3.out).mono (by rw [HBE.out]; exact HB00.out.size))
  have HOV : Hid (OwnD w3 B0 (.slice aq nq cq) xq) := HO0.out.ext (ext_trans (ext_trans Bw1.out Bw2.out) Bw3.out)
  have HB0 : Hid (B0 ≤ w3.heap.size) := by unfold Hid; rw [hB0]; exact HBW.out.size
  have FsN : Hid (¬ ((.slice aq nq cq) : Value).ownBlock = some w0.heap.size) := own_far HOV.out RS.out (by decide)
  have Fx1 : Hid (¬ ((.slice aq nq cq) : Value).ownBlock = some w1.heap.size) := own_far HOV.out Rx1.out (by decide)
  have Fx2 : Hid (¬ ((.slice aq nq cq) : Value).ownBlock = some w2.heap.size) := own_far HOV.out Rx2.out (by decide)
  clear Bw1 Rw1 Bw2 Rw2 Bw3 hB0 HO0 HB00
  generalize w0.heap.size = gs at RS FsN
  generalize w1.heap.size = gx1 at Rx1 Fx1
  generalize w2.heap.size = gx2 at Rx2 Fx2
  go_wp2_with fail
  go_loopw [1, 5] (fun rv iv wr => ∃ (p : Nat) (ao : Option Addr) (cn c : Nat) (xs : List (DRw × Value)), p ≤ 22 ∧ iv = .int .i64 p ∧ rv = .slice ao cn c ∧ Hid (Gro w3 (.slice aq nq cq) B0 wr (.slice ao cn c) xs) ∧ Hid (xs.map Prod.fst = dEvr ++ (tabR sNo vNo mNo false).take p) ∧ Hid (xs.length ≤ 200 + p)) (fun _ iv _ => 22 - (RowKit.intOf iv).toNat)
  case atStart => exact ⟨0, aq, nq, cq, xq, Nat.zero_le _, rfl, rfl, Gro.init HOV.out, by unfold Hid; rw [HM0.out, List.take_zero, List.append_nil], by have := HL0.out; unfold Hid; omega⟩
  case round =>
    obtain ⟨p, ao, cn, c, xs, hp, rfl, rfl, HG, HM, HXL⟩ := hrel
    by_cases hlt : p < 22
    · have hltI : (p : Int) < 22 := by omega
      have HNX := hidIt (tab_at (ss := sNo) (vs := vNo) (ms := mNo) (k := false) hlt)
      have HTS : Hid ((sNo[p]?.getD ⟨#[]⟩).size ≤ 100) := by unfold Hid; rw [List.getElem?_eq_getElem (show p < sNo.length from hlt)]; exact sNo_sz _ (List.getElem_mem _)
      have HS : Hid (∀ W : World, Kps (fun k => ((.slice aq nq cq) : Value).ownBlock = some k) w3 W → W.cell? ⟨gs, p, none⟩ = some (.string (sNo[p]?.getD ⟨#[]⟩)) ∧ W.cell? ⟨gx1, p, none⟩ = some (.int .i64 (vNo[p]?.getD 0)) ∧ W.cell? ⟨gx2, p, none⟩ = some (.int .i64 (mNo[p]?.getD 0))) := fun W hW => ⟨arS_at ((hW.same _ (Array.getElem?_eq_some_iff.1 RS.out).1 FsN.out).trans RS.out) hlt, arI_at ((hW.same _ (Array.getElem?_eq_some_iff.1 Rx1.out).1 Fx1.out).trans Rx1.out) (show p < vNo.length from hlt), arI_at ((hW.same _ (Array.getElem?_eq_some_iff.1 Rx2.out).1 Fx2.out).trans Rx2.out) (show p < mNo.length from hlt)⟩
      generalize sNo[p]?.getD ⟨#[]⟩ = t at HNX HTS HS
      generalize vNo[p]?.getD 0 = x1 at HNX HS
      generalize mNo[p]?.getD 0 = x2 at HNX HS
      go_upto_region 8 with fail
      refine wp_region_held_drew (S := fun w' => w'.cell? ⟨gs, p, none⟩ = some (.string t) ∧ w'.cell? ⟨gx1, p, none⟩ = some (.int .i64 x1) ∧ w'.cell? ⟨gx2, p, none⟩ = some (.int .i64 x2)) (by kernel_rfl) (by first | exact HS.out _ HG.out.kp | exact HS.out _ (HG.out.ext (Below.refl _ _).drew).kp) (fun hHeld => ?_)
      refine wpAnyH_take (i := 0) (oi := _) (v := ?_) rfl (by kernel_rfl) (by kernel_rfl) (by kernel_rfl) (fun _ _ _ h => h) (Or.inl ⟨by rfl, ?_⟩) (by assumption) ?_
      rotate_left 1
      · intro wq hSw; (try dsimp only at hSw); go_simp; try (with_reducible rfl)
      try simp only [Act.put, List.getElem_toArray, List.getElem_cons_zero, List.setIfInBounds_toArray, List.set_cons_zero, List.set_cons_succ]
      refine wpAnyH_take (i := 1) (oi := _) (v := ?_) rfl (by kernel_rfl) (by kernel_rfl) (by kernel_rfl) (fun _ _ _ h => h) (Or.inl ⟨by rfl, ?_⟩) (by assumption) ?_
      rotate_left 1
      · intro wq hSw; (try dsimp only at hSw); go_simp; try (with_reducible rfl)
      try simp only [Act.put, List.getElem_toArray, List.getElem_cons_succ, List.getElem_cons_zero, List.setIfInBounds_toArray, List.set_cons_zero, List.set_cons_succ]
      refine wpAnyH_take (i := 2) (oi := _) (v := ?_) rfl (by kernel_rfl) (by kernel_rfl) (by kernel_rfl) (fun _ _ _ h => h) (Or.inl ⟨by rfl, ?_⟩) (by assumption) ?_
      rotate_left 1
      · intro wq hSw; (try dsimp only at hSw); go_simp; try (with_reducible rfl)
      try simp only [Act.put, List.getElem_toArray, List.getElem_cons_succ, List.getElem_cons_zero, List.setIfInBounds_toArray, List.set_cons_zero, List.set_cons_succ]
      refine wpAnyH_take (i := 3) (oi := _) (v := ?_) rfl (by kernel_rfl) (by kernel_rfl) (by kernel_rfl) (fun _ _ _ h => h) (Or.inl ⟨by rfl, ?_⟩) (by assumption) ?_
      rotate_left 1
      · intro wq hSw; (try dsimp only at hSw); go_simp; try (with_reducible rfl)
      try simp only [Act.put, List.getElem_toArray, List.getElem_cons_succ, List.getElem_cons_zero, List.setIfInBounds_toArray, List.set_cons_zero, List.set_cons_succ]
      refine wpAnyH_take (i := 4) (oi := _) (v := ?_) rfl (by kernel_rfl) (by kernel_rfl) (by kernel_rfl) (fun _ _ _ h => h) (Or.inl ⟨by rfl, ?_⟩) (by assumption) ?_
      rotate_left 1
      · intro wq hSw; (try dsimp only at hSw); go_simp; try (with_reducible rfl)
      try simp only [Act.put, List.getElem_toArray, List.getElem_cons_succ, List.getElem_cons_zero, List.setIfInBounds_toArray, List.set_cons_zero, List.set_cons_succ]
      refine wpAnyH_take (i := 5) (oi := _) (v := ?_) rfl (by kernel_rfl) (by kernel_rfl) (by kernel_rfl) (fun _ _ _ h => h) (Or.inl ⟨by rfl, ?_⟩) (by assumption) ?_
      rotate_left 1
      · intro wq hSw; (try dsimp only at hSw); go_simp; try (with_reducible rfl)
      try simp only [Act.put, List.getElem_toArray, List.getElem_cons_succ, List.getElem_cons_zero, List.setIfInBounds_toArray, List.set_cons_zero, List.set_cons_succ]
      refine wpAnyH_take (i := 6) (oi := _) (v := ?_) rfl (by kernel_rfl) (by kernel_rfl) (by kernel_rfl) (fun _ _ _ h => h) (Or.inl ⟨by rfl, ?_⟩) (by assumption) ?_
      rotate_left 1
      · intro wq hSw; (try dsimp only at hSw); go_simp; try (with_reducible rfl)
      try simp only [Act.put, List.getElem_toArray, List.getElem_cons_succ, List.getElem_cons_zero, List.setIfInBounds_toArray, List.set_cons_zero, List.set_cons_succ]
      refine wpAnyH_take (i := 7) (oi := _) (v := ?_) rfl (by kernel_rfl) (by kernel_rfl) (by kernel_rfl) (fun _ _ _ h => h) (Or.inl ⟨by rfl, ?_⟩) (by assumption) ?_
      rotate_left 1
      · intro wq hSw; (try dsimp only at hSw); go_simp; try (with_reducible rfl)
      try simp only [Act.put, List.getElem_toArray, List.getElem_cons_succ, List.getElem_cons_zero, List.setIfInBounds_toArray, List.set_cons_zero, List.set_cons_succ]
      refine wpAnyH_take (i := 8) (oi := _) (v := ?_) rfl (by kernel_rfl) (by kernel_rfl) (by kernel_rfl) (fun _ _ _ h => h) (Or.inl ⟨by rfl, ?_⟩) (by assumption) ?_
      rotate_left 1
      · intro wq hSw; (try dsimp only at hSw); go_simp; try (with_reducible rfl)
      try simp only [Act.put, List.getElem_toArray, List.getElem_cons_succ, List.getElem_cons_zero, List.setIfInBounds_toArray, List.set_cons_zero, List.set_cons_succ]
      refine wpAnyH_take (i := 9) (oi := _) (v := ?_) rfl (by kernel_rfl) (by kernel_rfl) (by kernel_rfl) (fun _ _ _ h => h) (Or.inl ⟨by rfl, ?_⟩) (by assumption) ?_
      rotate_left 1
      · intro wq hSw; (try dsimp only at hSw); go_simp; try (with_reducible rfl)
      try simp only [Act.put, List.getElem_toArray, List.getElem_cons_succ, List.getElem_cons_zero, List.setIfInBounds_toArray, List.set_cons_zero, List.set_cons_succ]
      refine wpAnyH_ready (rs := [10]) (by kernel_rfl) (by simp) ?_
      refine AllReadyH.cons (o := _) rfl (fun K hK => ?_) AllReadyH.nil
      go_simp
      refine (one_any t x1 x2 _ HTS.out).mono ?_; rintro e y ⟨v1, rfl, ho1, hb1⟩; obtain ⟨xa, xc, rfl, _⟩ := ho1.rds.len; have HO1 := hidIt ho1; have HB1 : Hid (Below wr.heap.size wr y) := (by first | exact hb1 | exact ext_trans (Below.refl _ _).drew hb1 | exact ext_trans (ext_alloc (Below.refl _ _) _) hb1 | exact ext_trans (ext_alloc (Below.refl _ _).drew _) hb1 | exact ext_trans (ext_alloc (Below.refl _ _) _).drew hb1); clear ho1 hb1; have HG1 := hidIt (HG.out.ext HB1.out); try dsimp only
      refine hK.out _ _ ?_ (fun hHeld => ?_)
      · exact HS.out _ HG1.out.kp
      clear hK K
      try simp only [Act.put, List.getElem_toArray, List.getElem_cons_succ, List.getElem_cons_zero, List.setIfInBounds_toArray, List.set_cons_zero, List.set_cons_succ]
      refine wpAnyH_ready (rs := [11]) (by kernel_rfl) (by simp) ?_
      refine AllReadyH.cons (o := _) rfl (fun K hK => ?_) AllReadyH.nil
      go_simp
      refine hK.out _ _ ?_ (fun hHeld => ?_)
      · exact HS.out _ (HG1.out.ext (ext_alloc (Below.refl _ _) _)).kp
      clear hK K
      try simp only [Act.put, List.getElem_toArray, List.getElem_cons_succ, List.getElem_cons_zero, List.setIfInBounds_toArray, List.set_cons_zero, List.set_cons_succ]
      refine wpAnyH_ready (rs := [12]) (by kernel_rfl) (by simp) ?_
      refine AllReadyH.cons (o := _) rfl (fun K hK => ?_) AllReadyH.nil
      rw [if_pos (by rfl)]
      refine wp_append_drowsB _ _ (by rfl) B0 (.slice ao cn c) xs (by rfl) ((HG1.out.ext (ext_alloc (Below.refl _ _) _)).ow) _ [(⟨bys t, x1, x2, 0, false⟩, .slice xa (bys t).length xc)] (by rfl) (drow_lit ⟨bys t, x1, x2, 0, false⟩ _ HO1.out.ki) (by have := HXL.out; simp; omega) (Nat.le_trans HB0.out (HG1.out.ext (ext_alloc (Below.refl _ _) _)).kp.size) (by simp) ?_; intro v9 w9 ho9 hb9 hg9 hn9; clear hb9; obtain ⟨ao9, n9, c9, rfl⟩ := ho9.form; have HG9 := hidIt ((HG1.out.ext (ext_alloc (Below.refl _ _) _)).push ho9 hg9 hn9); clear ho9 hg9 hn9; try dsimp only
      refine hK.out _ _ ?_ (fun hHeld => ?_)
      · exact HS.out _ HG9.out.kp
      clear hK K
      try simp only [Act.put, List.getElem_toArray, List.getElem_cons_succ, List.getElem_cons_zero, List.setIfInBounds_toArray, List.set_cons_zero, List.set_cons_succ]
      refine wpAnyH_take (i := 13) (oi := _) (v := ?_) rfl (by kernel_rfl) (by kernel_rfl) (by kernel_rfl) (fun _ _ _ h => h) (Or.inl ⟨by rfl, ?_⟩) (by assumption) ?_
      rotate_left 1
      · intro wq hSw; (try dsimp only at hSw); go_simp; try (with_reducible rfl)
      try simp only [Act.put, List.getElem_toArray, List.getElem_cons_succ, List.getElem_cons_zero, List.setIfInBounds_toArray, List.set_cons_zero, List.set_cons_succ]
      refine wpAnyH_done (by kernel_rfl) ?_ _
      go_wp2_with fail
      go_roundw
      case rel => exact ⟨p + 1, ao9, n9, c9, _, by omega, rfl, rfl, HG9.out, by unfold Hid; rw [HNX.out, List.map_append, HM.out, List.append_assoc]; rfl, by unfold Hid; have := HXL.out; rw [List.length_append, List.length_singleton]; omega⟩
      case measure => simp [RowKit.intOf]; omega
    · obtain rfl : p = 22 := by omega
      have hge : ¬ ((22 : Nat) : Int) < 22 := by omega
      go_wp2_with fail
      go_ret
      exact ⟨_, xs, rfl, by rw [← HBE.out]; exact HG.out.ow, by unfold Hid; rw [HM.out]; exact tNo, by rw [← HBE.out]; exact HBW.out.trans (HG.out.below HOV.out HB0.out)⟩
end Go.Proofs.YtfdceljdhgbkcaaGreatDoor
