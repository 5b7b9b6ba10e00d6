/- A file is written, cut, told. -/
import Derived.Test.YtaoaihjiieandaaDAct2
namespace Go.Proofs.Ytaoaihjiieandaa
open Go.RowKit

theorem results_cell_one {fn : Func} {p : Tmp} {ty : TypeId} (h : fn.results = #[.cell p ty]) (tmps : Array Value) (P : Program) (w : World) :
    (results fn tmps).run P w = ((asAddr (tmps.getD p undef)).run P w).andThen fun a w₁ => (loadVar ty a).run P w₁ := by
  simp only [results, h]
  simp [Sem.run_bind, Result.andThen]
/-- A file has turned. -/
def FiUp (U : Prop) (w w' : World) (q : Nat) (v : Value) (i : Nat) (f' : Fi) (v' : Value) : Prop :=
  FiB w' q v' i f' ∧ Kps (fun k => k = q ∨ (U ∧ v.ownBlock = some k)) w w' ∧ ∀ g, v'.ownBlock = some g → v.ownBlock = some g ∨ w.heap.size ≤ g
section
variable {F : Nat → Prop} {N : Nat} {w w' : World} {d : Nat} {D : Dk} {ms ml : Nat} {mp : Option Nat} {va : Value} {fq : Nat → Nat} {fv : Nat → Value}
theorem Dx.fget (h : Dx F N w d D ms ml mp va fq fv) {i : Nat} (hi : i < D.fi.length) : FiB w (fq i) (fv i) i (fiAt D.fi i) := h.2.1.fget hi
theorem Dx.fok (h : Dx F N w d D ms ml mp va fq fv) {i : Nat} (hi : i < D.fi.length) : (fiAt D.fi i).sy ≤ (fiAt D.fi i).bs.length ∧ (fiAt D.fi i).bs.length ≤ D.sp ∧ (fiAt D.fi i).ct ≤ N ∧ ∀ x ∈ (fiAt D.fi i).bs, 0 ≤ x ∧ x < 256 := h.2.2.1.fi _ (fi_mem hi)
theorem Dx.fileU {U : Prop} (h : Dx F N w d D ms ml mp va fq fv) {M : Nat} (hM : N ≤ M) (hM2 : M ≤ 1099511627776) {i : Nat} (hi : i < D.fi.length) {v' : Value} {f' : Fi} (u : FiUp U w w' (fq i) (fv i) i f' v') (h1 : f'.sy ≤ f'.bs.length) (h2 : f'.bs.length ≤ D.sp) (h3 : f'.ct ≤ M) (h4 : ∀ x ∈ f'.bs, 0 ≤ x ∧ x < 256) :
    Dx F M w' d (D.setF i f') ms ml mp va fq (fun j => if j = i then v' else fv j) ∧ Ku U F w w' := by
  obtain ⟨u1, u2, u3⟩ := u
  have hfi := h.fget hi
  have hne : d ≠ fq i := ne_obj h.1 hfi.1 (by simp)
  have hnb : (fv i).ownBlock ≠ some d := fun e => by
    obtain ⟨cur, hc⟩ := own_lt hfi.2 e
    exact ne_obj hc h.1 (by simp) rfl
  refine ⟨⟨?_, (h.2.1.file hi u1 u2.size (fun k hk n1 n2 => u2.same k hk (fun e => e.elim n1 (fun e => n2 e.2))) u3).monoN hM, (h.2.2.1.mono hM).setF i h1 h2 h3 h4, hM2⟩, u2.mono (fun k _ e => e.elim (fun e => by rw [e]; exact ⟨h.2.1.ff i hi, .inl (NI.of hfi.1 (by decide))⟩) (fun e => by obtain ⟨cur, hc⟩ := own_lt hfi.2 e.2; exact ⟨h.2.1.fb i k hi e.2, .inr ⟨e.1, cur, hc⟩⟩))⟩
  rw [u2.same d h.lt (fun e => e.elim hne (fun e => hnb e.2)), h.1]
  simp [Dk.setF]
theorem Dx.file (h : Dx F N w d D ms ml mp va fq fv) {M : Nat} (hM : N ≤ M) (hM2 : M ≤ 1099511627776) {i : Nat} (hi : i < D.fi.length) {v' : Value} {f' : Fi} (u : FiUp False w w' (fq i) (fv i) i f' v') (h1 : f'.sy ≤ f'.bs.length) (h2 : f'.bs.length ≤ D.sp) (h3 : f'.ct ≤ M) (h4 : ∀ x ∈ f'.bs, 0 ≤ x ∧ x < 256) :
    Dx F M w' d (D.setF i f') ms ml mp va fq (fun j => if j = i then v' else fv j) ∧ Kd F w w' := by
  have r := h.fileU hM hM2 hi u h1 h2 h3 h4
  exact ⟨r.1, Ku.kd r.2⟩
end
theorem OwnU.read {w : World} {q i : Nat} {v : Value} {f : Fi} (h : FiB w q v i f) : RdU w v f.bs := OwnU.rdu h.2

section
variable {P : Program} {W : World} {ops : Array Oper} {rest : List Oper} {o : Oper} {a : Act} {Q : Exit → Act → World → Prop}
/-- append(v, s...), of bytes, some: where the answer lies. -/
theorem wpl_bytesB (hgd : o.guard = none) (s x : Operand) (t : TypeId) (ho : o.op = .call { callee := .builtin .append, args := #[s, x], argTypes := #[t, t] })
    (base : Nat) (hinf : (P.info? 5).map (fun i => (i.zero, i.size, i.bytes)) = some (some (.int .u8 0), 1, 1)) (ht : P.underlying t = some (.slice 5))
    (v : Value) (zs : List Int) (hs : a.eval s = v) (hown : OwnU W base v zs) (u : Value) (ys : List Int) (hx : a.eval x = u) (hu : RdU W u ys) (hy : 0 < ys.length) (hl : zs.length + ys.length ≤ 140737488355328) (hbase : base ≤ W.heap.size)
    (h : ∀ v' w', OwnU w' base v' (zs ++ ys) → W.grownBy w' v.ownBlock → (v'.ownBlock = v.ownBlock ∨ v'.ownBlock = some W.heap.size) → wpList P ops Q rest (a.put o.dst v') w') : wpList P ops Q (o :: rest) a W := by
  obtain ⟨i0, hi, hz0, hz1, hz2⟩ := info_parts hinf
  obtain ⟨hr, hsl⟩ := hu
  rcases hsl with rfl | ⟨ad, n, c, rfl⟩
  · have : ys.length = 0 := by
      obtain ⟨ao, cap, hv, _⟩ := hr
      injection hv with _ h2 _
      omega
    omega
  · obtain ⟨hn, hc⟩ := rd_cells hr
    subst hn
    refine wpList_append_blk W hgd s x t ho base 5 i0 (.int .u8 0) 1 1 ht hi hz0 hz1 hz2 rfl (by decide) v zs.length (zs.map (Value.int .u8)) hs hown ad ys.length c (ys.map (Value.int .u8)) hx (by simp) hc (one_all _ _) (by unfold maxLen; omega) (by omega) hbase hy ?_
    intro v' w' h1 h2 h3
    refine h v' w' ?_ h2 h3
    unfold OwnU
    rw [List.length_append, List.map_append]
    exact h1
end
theorem row_ne {w : World} {q i : Nat} {v : Value} {f : Fi} (h : FiB w q v i f) : v.ownBlock ≠ some q := fun e => by
  obtain ⟨cur, hc⟩ := own_lt h.2 e
  exact ne_obj hc h.1 (by simp) rfl
set_option maxRecDepth 100000 in
set_option maxHeartbeats 2000000 in
theorem write_any {w : World} {q i : Nat} {v : Value} {f : Fi} (h : FiB w q v i f) (hf : f.bs.length ≤ 1048576 ∧ f.ct ≤ 1099511627776) (u : Value) (ys : List Int) (hu : RdU w u ys) (hl : ys.length ≤ 1048576) :
    Calls Try.prog 56 #[pp q, u] w fun e w' => e = .returned (.tuple #[]) ∧ ∃ v', FiUp True w w' q v i (wrF f ys) v' := by
  have hql := (Array.getElem?_eq_some_iff.1 h.1).1
  obtain ⟨c0, c1, c2, c3, fr⟩ := h.cells
  obtain ⟨⟨ao, cp, hv, _⟩, _⟩ := id hu
  obtain ⟨fa, fc, hvv, _⟩ := h.slice
  have HU := hidIt hu
  have H := hidIt h
  have f1 := fr 1
  have f3 := fr 3
  subst hv
  clear h hu fr
  cases hy : ys with
  | nil =>
    subst hy
    have FIN : Hid (∃ v', FiUp True w w q v i (wrF f []) v') := ⟨v, by rw [wrF, if_pos rfl]; exact H.out, Kps.refl _ _, fun g hg => .inl hg⟩
    clear H HU hql hl
    simp only [List.length_nil]
    go_enter Try.func56, Try.ntmps56
    go_wp2_with fail
    exact bodyPost_end (results_none rfl _ _ _) rfl ⟨rfl, FIN.out⟩
  | cons y0 yr =>
    rw [← hy]
    have hn : 0 < ys.length := by rw [hy]; simp
    have HYN : Hid (ys ≠ []) := fun e => by rw [e] at hn; simp at hn
    clear hy
    have APD : Hid (∀ (v9 : Value) (w9 : World), OwnU w9 0 v9 (f.bs ++ ys) → w.grownBy w9 v.ownBlock → (v9.ownBlock = v.ownBlock ∨ v9.ownBlock = some w.heap.size) → ∃ w10, (w9.setCell ⟨q, 1, none⟩ v9) = w10 ∧ w9.frozen? ⟨q, 1, none⟩ = false ∧ w10.frozen? ⟨q, 3, none⟩ = false ∧ w10.cell? ⟨q, 3, none⟩ = some (.int .i64 (f.ct : Int)) ∧ (∃ c, w9.cell? ⟨q, 1, none⟩ = some c) ∧ ∃ v', FiUp True w (w10.setCell ⟨q, 3, none⟩ (.int .i64 ((f.ct : Int) + 1))) q v i (wrF f ys) v') := by
      intro v9 w9 own9 hg9 hv9
      have hq9 := (hg9.block q hql (fun e => row_ne H.out e.symm)).trans H.out.1
      obtain ⟨s1, g1⟩ := set1 hq9 1 v9
      obtain ⟨s2, g2⟩ := set1 s1 3 (.int .i64 ((f.ct : Int) + 1))
      refine ⟨_, rfl, frozen_of_row _ _ _ _ _ hq9, frozen_of_row _ _ _ _ _ s1, by simp [World.cell?, s1], ⟨v, by simp [World.cell?, hq9]⟩, v9, ⟨?_, ?_⟩, ?_, ?_⟩
      · rw [s2]
        unfold wrF
        rw [if_neg HYN.out]
        simp
      · unfold wrF
        rw [if_neg HYN.out]
        refine own_same own9 (fun g hg => ?_)
        obtain ⟨cur, hc⟩ := own_lt own9 hg
        have hne := ne_obj hc hq9 (by simp)
        have hlt := (Array.getElem?_eq_some_iff.1 hc).1
        rw [g2.block g (Nat.lt_of_lt_of_le hlt g1.size) (by simpa using hne), g1.block g hlt (by simpa using hne)]
      · exact ((Kps.grown hg9 (fun k e _ => .inr ⟨trivial, e⟩)).trans (Kps.grown g1 (fun k e _ => .inl (by cases e; rfl))) (fun _ _ e => e)).trans (Kps.grown g2 (fun k e _ => .inl (by cases e; rfl))) (fun _ _ e => e)
      · exact fun g hg => hv9.elim (fun e => .inl (e ▸ hg)) (fun e => .inr (by rw [hg] at e; cases e; exact Nat.le_refl _))
    have hlI : (0 : Int) < (ys.length : Int) := by omega
    generalize hfct : f.ct = ct at *
    subst hvv
    go_enter Try.func56, Try.ntmps56
    go_wp2_with (at_builtin; refine wpl_bytesB rfl _ _ 22 rfl 0 Try.info_u8 Try.underlying22 _ f.bs rfl H.out.2 _ ys rfl HU.out hn (by omega) (Nat.zero_le _) ?_; intro v9 w9 own9 hg9 hv9; obtain ⟨w10, e10, y1, y2, y3, ⟨yc, y4⟩, y5⟩ := APD.out _ _ own9 hg9 hv9; obtain ⟨ao9, n9, c9, rfl⟩ := form_own own9; have Y5 := hidIt y5; clear own9 hg9 hv9 y5)
    exact bodyPost_end (results_none rfl _ _ _) rfl ⟨rfl, Y5.out⟩

set_option maxRecDepth 100000 in
set_option maxHeartbeats 2000000 in
theorem become_any {w : World} {q i : Nat} {v : Value} {f : Fi} (h : FiB w q v i f) (hf : f.ct ≤ 1099511627776) (u : Value) (ys : List Int) (hu : RdU w u ys) (hl : ys.length ≤ 1048576) :
    Calls Try.prog 37 #[pp q, u] w fun e w' => e = .returned (.tuple #[]) ∧ ∃ v', FiUp False w w' q v i ⟨ys, ys.length, f.ct + 1⟩ v' := by
  have hql := (Array.getElem?_eq_some_iff.1 h.1).1
  have CL : Hid (Calls Try.prog 74 #[u] w fun e w2 => ∃ v2, e = .returned v2 ∧ (∃ ao n c, v2 = .slice ao n c) ∧ w2.frozen? ⟨q, 1, none⟩ = false ∧ (∃ c, w2.cell? ⟨q, 1, none⟩ = some c) ∧ ∃ w3, w2.setCell ⟨q, 1, none⟩ v2 = w3 ∧ w3.frozen? ⟨q, 3, none⟩ = false ∧ w3.cell? ⟨q, 3, none⟩ = some (.int .i64 (f.ct : Int)) ∧ ∃ w4, w3.setCell ⟨q, 3, none⟩ (.int .i64 ((f.ct : Int) + 1)) = w4 ∧ FiB w4 q v2 i ⟨ys, f.sy, f.ct + 1⟩ ∧ ∃ v', FiUp False w (w4.setCell ⟨q, 2, none⟩ (.int .i64 (ys.length : Int))) q v i ⟨ys, ys.length, f.ct + 1⟩ v') := by
    refine (cloneB_any u ys w hu (by omega)).mono ?_
    rintro e w2 ⟨v2, rfl, o2, b2⟩
    have hq2 := (b2.block q hql).trans h.1
    obtain ⟨s3, g3⟩ := set1 hq2 1 v2
    obtain ⟨s4, g4⟩ := set1 s3 3 (.int .i64 ((f.ct : Int) + 1))
    obtain ⟨s5, g5⟩ := set1 s4 2 (.int .i64 (ys.length : Int))
    have ow : ∀ w' : World, (∀ g, v2.ownBlock = some g → w'.heap[g]? = w2.heap[g]?) → w'.ownsRow 0 5 1 v2 ys.length (ys.map (Value.int .u8)) := fun w' hs => own_same (OwnU.le o2 (Nat.zero_le _)) hs
    have hne : ∀ g, v2.ownBlock = some g → g ≠ q ∧ g < w2.heap.size ∧ w.heap.size ≤ g := fun g hg => by
      have := World.ownsRow.lt o2 g hg
      exact ⟨by omega, this.2, this.1⟩
    have b3 : ∀ g, v2.ownBlock = some g → (w2.setCell ⟨q, 1, none⟩ v2).heap[g]? = w2.heap[g]? := fun g hg => g3.block g (hne g hg).2.1 (by simpa using (hne g hg).1)
    have b4 : ∀ g, v2.ownBlock = some g → ((w2.setCell ⟨q, 1, none⟩ v2).setCell ⟨q, 3, none⟩ (.int .i64 ((f.ct : Int) + 1))).heap[g]? = w2.heap[g]? := fun g hg => (g4.block g (Nat.lt_of_lt_of_le (hne g hg).2.1 g3.size) (by simpa using (hne g hg).1)).trans (b3 g hg)
    refine ⟨v2, rfl, form_own o2, frozen_of_row _ _ _ _ _ hq2, ⟨v, by simp [World.cell?, hq2]⟩, _, rfl, frozen_of_row _ _ _ _ _ s3, by simp [World.cell?, s3], _, rfl, ⟨by rw [s4]; simp, ow _ b4⟩, v2, ⟨by rw [s5]; simp, ow _ (fun g hg => (g5.block g (Nat.lt_of_lt_of_le (Nat.lt_of_lt_of_le (hne g hg).2.1 g3.size) g4.size) (by simpa using (hne g hg).1)).trans (b4 g hg))⟩, ?_, fun g hg => .inr (hne g hg).2.2⟩
    exact (((Kps.of_below _ b2).trans (Kps.grown g3 (fun k e _ => .inl (by cases e; rfl))) (fun _ _ e => e)).trans (Kps.grown g4 (fun k e _ => .inl (by cases e; rfl))) (fun _ _ e => e)).trans (Kps.grown g5 (fun k e _ => .inl (by cases e; rfl))) (fun _ _ e => e)
  obtain ⟨⟨ao, cp, hv, _⟩, _⟩ := id hu
  subst hv
  clear h hu hql
  generalize hct : f.ct = ct at *
  go_enter Try.func37, Try.ntmps37
  go_wp2_with (first
    | (go_at_call 74; refine CL.out.mono ?_; rintro e w2 ⟨v2, rfl, ⟨a2, n2, c2, rfl⟩, y1, ⟨yc, y2⟩, w3, e3, y3, y4, w4, e4, y5, y6⟩; have Y5 := hidIt y5; have Y6 := hidIt y6; clear y5 y6)
    | (go_at_call 60; refine (sync_any Y5.out).mono ?_; rintro e w9 ⟨rfl, rfl⟩))
  exact bodyPost_end (results_none rfl _ _ _) rfl ⟨rfl, Y6.out⟩
theorem own_cut {w : World} {v : Value} {zs : List Int} (h : OwnU w 0 v zs) {k : Nat} (hk : k ≤ zs.length) : ∃ ao c, v = .slice ao zs.length c ∧ zs.length ≤ c ∧ c ≤ maxLen ∧ (ao = none → zs.length = 0 ∧ c = 0) ∧ OwnU w 0 (.slice ao k c) (zs.take k) ∧ (Value.slice ao k c).ownBlock = v.ownBlock := by
  obtain ⟨h1, h2⟩ := h
  have hl : (zs.take k).length = k := by simp; omega
  rcases h2 with ⟨rfl, h0⟩ | ⟨g, cap, cur, rfl, hb, hg, hn, hc, hs, ht⟩
  · have : k = 0 := by omega
    subst this
    exact ⟨none, 0, by rw [h0], by omega, by simp [maxLen], fun _ => ⟨h0, rfl⟩, ⟨by simp, .inl ⟨rfl, by simp⟩⟩, rfl⟩
  · refine ⟨_, _, rfl, hn, hc, (fun e => by cases e), ⟨by simp, .inr ⟨g, cap, cur, by rw [hl], hb, hg, by omega, hc, hs, ?_⟩⟩, rfl⟩
    rw [hl]
    simp only [Nat.mul_one] at ht ⊢
    rw [List.map_take, ← ht, List.take_take]
    congr 1
    omega
set_option maxRecDepth 100000 in
set_option maxHeartbeats 2000000 in
theorem cut_any {w : World} {q i : Nat} {v : Value} {f : Fi} (h : FiB w q v i f) (hf : f.sy ≤ f.bs.length ∧ f.bs.length ≤ 1048576) (more : Int) :
    Calls Try.prog 46 #[pp q, .int .i64 more] w fun e w' => e = .returned (.tuple #[]) ∧ ∃ v', FiUp False w w' q v i (cutF f more) v' := by
  have hql := (Array.getElem?_eq_some_iff.1 h.1).1
  obtain ⟨c0, c1, c2, c3, fr⟩ := h.cells
  obtain ⟨L, hL⟩ : ∃ L, L = f.sy + clip more (f.bs.length - f.sy) := ⟨_, rfl⟩
  have hLl : L ≤ f.bs.length := by rw [hL]; unfold clip; omega
  obtain ⟨ao, c, hv, hlc, hcm, hnil, hcut, hob⟩ := own_cut h.2 hLl
  have hlen : (f.bs.take L).length = L := by simp; omega
  have hcf : cutF f more = ⟨f.bs.take L, L, f.ct⟩ := by unfold cutF; rw [hL]
  obtain ⟨s1, g1⟩ := set1 h.1 1 (.slice ao L c)
  have hr1 : FiB (w.setCell ⟨q, 1, none⟩ (.slice ao L c)) q (.slice ao L c) i ⟨f.bs.take L, f.sy, f.ct⟩ := by
    refine ⟨by rw [s1]; simp, own_same hcut (fun g hg => ?_)⟩
    rw [hob] at hg
    obtain ⟨cur, hc⟩ := own_lt h.2 hg
    exact g1.block g (Array.getElem?_eq_some_iff.1 hc).1 (by simpa using ne_obj hc h.1 (by simp))
  generalize hw1 : w.setCell ⟨q, 1, none⟩ (.slice ao L c) = w1 at *
  obtain ⟨s2, g2⟩ := set1 hr1.1 2 (.int .i64 (L : Int))
  have FIN : Hid (∃ v', FiUp False w (w1.setCell ⟨q, 2, none⟩ (.int .i64 (L : Int))).drew q v i (cutF f more) v') := by
    refine ⟨.slice ao L c, ⟨?_, ?_⟩, ((Kps.grown g1 (fun k e _ => .inl (by cases e; rfl))).trans (Kps.grown g2 (fun k e _ => .inl (by cases e; rfl))) (fun _ _ e => e)).trans (Kps.of_below (fun _ => False) (Below.refl _ _).drew) (fun _ _ e => e.elim), fun g hg => .inl (by rw [hob] at hg; exact hg)⟩
    · show (w1.setCell ⟨q, 2, none⟩ (.int .i64 (L : Int))).heap[q]? = _
      rw [s2, hcf]; simp
    · rw [hcf]
      exact own_same (w' := (w1.setCell ⟨q, 2, none⟩ (.int .i64 (L : Int))).drew) hr1.2 (fun g hg => by
        obtain ⟨cur, hc⟩ := own_lt hr1.2 hg
        exact g2.block g (Array.getElem?_eq_some_iff.1 hc).1 (by simpa using ne_obj hc hr1.1 (by simp)))
  have HR1 := hidIt hr1
  have f1 := fr 1
  have WI := fun w => hidIt (within_any more (f.bs.length - f.sy) w)
  have e1 : IntKind.i64.wrap ((f.bs.length : Int) - (f.sy : Int)) = ((f.bs.length - f.sy : Nat) : Int) := by rw [IntKind.wrap_i64] <;> omega
  have e2 : IntKind.i64.wrap ((f.sy : Int) + ((clip more (f.bs.length - f.sy) : Nat) : Int)) = (L : Int) := by rw [IntKind.wrap_i64] <;> omega
  rw [hv] at c1
  clear h hcut s1 g1 s2 g2 hr1 hcf hlen hob c0 c3 fr hv hql hL
  generalize f.bs.length - f.sy = R at *
  generalize clip more R = C at *
  go_enter Try.func46, Try.ntmps46
  go_wp2_with fail
  go_region_held3 (fun w' => w'.cell? ⟨q, 1, none⟩ = some (.slice ao f.bs.length c) ∧ w'.cell? ⟨q, 2, none⟩ = some (.int .i64 (f.sy : Int))) (go_keep) (
    (go_at_call 43; refine (WI _).out.mono ?_; rintro e w2 ⟨rfl, rfl⟩))
  go_wp2_with (go_at_call 60; refine (sync_any (w := w1.drew) HR1.out).mono ?_; rintro e w9 ⟨rfl, rfl⟩)
  exact bodyPost_end (results_none rfl _ _ _) rfl ⟨rfl, FIN.out⟩
set_option maxRecDepth 100000 in
theorem stamp_any {w : World} {q i : Nat} {v : Value} {f : Fi} (h : FiB w q v i f) :
    Calls Try.prog 85 #[pp q] w fun e w' => e = .returned (.agg #[.int .i64 ((i : Int) + 1), .int .i64 (f.bs.length : Int), .int .i64 (f.ct : Int)]) ∧ Below w.heap.size w w' := by
  have hql := (Array.getElem?_eq_some_iff.1 h.1).1
  obtain ⟨c0, c1, c2, c3, fr⟩ := h.cells
  obtain ⟨ao, c, rfl, hl⟩ := h.slice
  obtain ⟨w1, hw1, k1, b1⟩ : ∃ w1, w1 = w.alloc (.cells #[.int .i64 0, .int .i64 0, .int .i64 0] 55) ∧ w1.heap[w.heap.size]? = some (.cells #[.int .i64 0, .int .i64 0, .int .i64 0] 55 (0, 0)) ∧ Below w.heap.size w w1 := ⟨_, rfl, heap_alloc_new _ _, ext_alloc (Below.refl _ _) _⟩
  have d0 := (b1.cell (p := ⟨q, 0, none⟩) hql).trans c0
  have d1 := (b1.cell (p := ⟨q, 1, none⟩) hql).trans c1
  have d3 := (b1.cell (p := ⟨q, 3, none⟩) hql).trans c3
  clear h c0 c1 c2 c3 fr
  go_enter Try.func85, Try.ntmps85
  go_upto_region 1 with fail
  rw [← hw1]
  obtain ⟨z0, z1, z2, zf⟩ := cells3 k1
  have zf0 := zf 0
  have zf1 := zf 1
  have zf2 := zf 2
  have hne : q ≠ w.heap.size := by omega
  obtain ⟨y1, x1⟩ := set1 k1 0 (.int .i64 ((i : Int) + 1))
  obtain ⟨y2, x2⟩ := set1 y1 1 (.int .i64 (f.bs.length : Int))
  obtain ⟨y3, x3⟩ := set1 y2 2 (.int .i64 (f.ct : Int))
  have HKP : Hid ((((w1.setCell ⟨w.heap.size, 0, none⟩ (.int .i64 ((i : Int) + 1))).setCell ⟨w.heap.size, 1, none⟩ (.int .i64 (f.bs.length : Int))).setCell ⟨w.heap.size, 2, none⟩ (.int .i64 (f.ct : Int))).drew.cell? ⟨q, 0, none⟩ = some (.int .i64 ((i : Int) + 1)) ∧ (((w1.setCell ⟨w.heap.size, 0, none⟩ (.int .i64 ((i : Int) + 1))).setCell ⟨w.heap.size, 1, none⟩ (.int .i64 (f.bs.length : Int))).setCell ⟨w.heap.size, 2, none⟩ (.int .i64 (f.ct : Int))).drew.cell? ⟨q, 1, none⟩ = some (.slice ao f.bs.length c) ∧ (((w1.setCell ⟨w.heap.size, 0, none⟩ (.int .i64 ((i : Int) + 1))).setCell ⟨w.heap.size, 1, none⟩ (.int .i64 (f.bs.length : Int))).setCell ⟨w.heap.size, 2, none⟩ (.int .i64 (f.ct : Int))).drew.cell? ⟨q, 3, none⟩ = some (.int .i64 (f.ct : Int))) := by
    have l1 : q < w1.heap.size := Nat.lt_of_lt_of_le hql b1.size
    have kk : ∀ j : Nat, (((w1.setCell ⟨w.heap.size, 0, none⟩ (.int .i64 ((i : Int) + 1))).setCell ⟨w.heap.size, 1, none⟩ (.int .i64 (f.bs.length : Int))).setCell ⟨w.heap.size, 2, none⟩ (.int .i64 (f.ct : Int))).drew.cell? ⟨q, j, none⟩ = w1.cell? ⟨q, j, none⟩ := fun j => by
      have e : (((w1.setCell ⟨w.heap.size, 0, none⟩ (.int .i64 ((i : Int) + 1))).setCell ⟨w.heap.size, 1, none⟩ (.int .i64 (f.bs.length : Int))).setCell ⟨w.heap.size, 2, none⟩ (.int .i64 (f.ct : Int))).drew.heap[q]? = w1.heap[q]? :=
        (x3.block q (Nat.lt_of_lt_of_le (Nat.lt_of_lt_of_le l1 x1.size) x2.size) (by simpa using hne)).trans ((x2.block q (Nat.lt_of_lt_of_le l1 x1.size) (by simpa using hne)).trans (x1.block q l1 (by simpa using hne)))
      unfold World.cell?
      simp only [e]
    exact ⟨(kk 0).trans d0, (kk 1).trans d1, (kk 3).trans d3⟩
  have HBX : Hid (Below w.heap.size w (((w1.setCell ⟨w.heap.size, 0, none⟩ (.int .i64 ((i : Int) + 1))).setCell ⟨w.heap.size, 1, none⟩ (.int .i64 (f.bs.length : Int))).setCell ⟨w.heap.size, 2, none⟩ (.int .i64 (f.ct : Int))).drew) := (Below.setCell (Below.setCell (Below.setCell b1 (p := ⟨w.heap.size, 0, none⟩) (Nat.le_refl _) _) (p := ⟨w.heap.size, 1, none⟩) (Nat.le_refl _) _) (p := ⟨w.heap.size, 2, none⟩) (Nat.le_refl _) _).drew
  have HY3 := hidIt (cells3 (w := (((w1.setCell ⟨w.heap.size, 0, none⟩ (.int .i64 ((i : Int) + 1))).setCell ⟨w.heap.size, 1, none⟩ (.int .i64 (f.bs.length : Int))).setCell ⟨w.heap.size, 2, none⟩ (.int .i64 (f.ct : Int))).drew) (g := w.heap.size) (T := 55) (a := .int .i64 ((i : Int) + 1)) (b := .int .i64 (f.bs.length : Int)) (c := .int .i64 (f.ct : Int)) (by show (((w1.setCell ⟨w.heap.size, 0, none⟩ (.int .i64 ((i : Int) + 1))).setCell ⟨w.heap.size, 1, none⟩ (.int .i64 (f.bs.length : Int))).setCell ⟨w.heap.size, 2, none⟩ (.int .i64 (f.ct : Int))).heap[w.heap.size]? = _; rw [y3]; rfl))
  clear hw1 b1 zf y1 y2 y3 x1 x2 x3
  go_region_held3 (fun w' => w'.cell? ⟨q, 0, none⟩ = some (.int .i64 ((i : Int) + 1)) ∧ w'.cell? ⟨q, 1, none⟩ = some (.slice ao f.bs.length c) ∧ w'.cell? ⟨q, 3, none⟩ = some (.int .i64 (f.ct : Int))) (first | exact HKP.out | go_keep) (fail)
  go_wp2_with fail
  (try simp only [Exit.inBlock, Exit.then])
  refine bodyPost_ret (v := .agg #[.int .i64 ((i : Int) + 1), .int .i64 (f.bs.length : Int), .int .i64 (f.ct : Int)]) ?_ rfl ⟨rfl, HBX.out⟩
  rw [results_cell_one rfl]
  obtain ⟨a0, a1, a2, _⟩ := HY3.out
  go_simp
set_option maxRecDepth 100000 in
theorem belied_any (e : Int) (w : World) : Calls Try.prog 97 #[.int .i64 e] w fun x w' => x = .returned (.int .i64 (if e = 0 then 160 else e)) ∧ w = w' := by
  by_cases h : e = 0
  · subst h
    go_enter Try.func97, Try.ntmps97
    go_wp2_with fail
    go_ret
    exact ⟨rfl, rfl⟩
  · rw [if_neg h]
    have hb : (e == 0) = false := by simpa using h
    go_enter Try.func97, Try.ntmps97
    go_wp2_with fail
    go_ret
    exact ⟨rfl, rfl⟩
/-- An error as the calls answer it: none, or a Fail of its own. -/
def ErrV (w : World) (base : Nat) (v : Value) (op nm : ByteArray) (st e : Int) : Prop :=
  (e = 0 ∧ v = .nilIface) ∨ (e ≠ 0 ∧ ∃ q, base ≤ q ∧ v = .iface 131 (pp q) ∧ w.heap[q]? = some (.cells #[.string op, .string nm, .int .i64 st, .iface 77 (.int .i64 e)] 133 (0, 0)))
set_option maxRecDepth 100000 in
theorem failed_any (op nm : ByteArray) (st e : Int) (w : World) : Calls Try.prog 35 #[.string op, .string nm, .int .i64 st, .int .i64 e] w fun x w' => ∃ v, x = .returned v ∧ ErrV w' w.heap.size v op nm st e ∧ Below w.heap.size w w' := by
  by_cases h : e = 0
  · subst h
    go_enter Try.func35, Try.ntmps35
    go_wp2_with fail
    go_ret
    exact ⟨_, rfl, .inl ⟨rfl, rfl⟩, Below.refl _ _⟩
  · have hb : (e == 0) = false := by simpa using h
    go_enter Try.func35, Try.ntmps35
    go_wp2_with fail
    go_ret
    exact ⟨_, rfl, .inr ⟨h, _, Nat.le_refl _, rfl, heap_alloc_new _ _⟩, ext_alloc (Below.refl _ _) _⟩
end Go.Proofs.Ytaoaihjiieandaa
