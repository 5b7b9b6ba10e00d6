/- newFile, act, settle. -/
import Derived.Test.YtaoaihjiieandaaDWf
import Derived.Test.YtaoaihjiieandaaAppBlk
namespace Go.Proofs.Ytaoaihjiieandaa
open Go.RowKit

/-- A disk with its parts named. -/
def Dx (F : Nat → Prop) (N : Nat) (w : World) (d : Nat) (D : Dk) (ms ml : Nat) (mp : Option Nat) (va : Value) (fq : Nat → Nat) (fv : Nat → Value) : Prop :=
  w.heap[d]? = some (.cells (dC D ms ml mp va) 88 (0, 0)) ∧ Rst F N w d ms ml mp va fq fv D.fi D.se D.la D.ac D.pl ∧ Wf N D ∧ N ≤ 1099511627776
section
variable {F : Nat → Prop} {N : Nat} {w w' : World} {d : Nat} {D : Dk} {ms ml : Nat} {mp : Option Nat} {va : Value} {fq : Nat → Nat} {fv : Nat → Value}
theorem Dx.dsk (h : Dx F N w d D ms ml mp va fq fv) : Dsk F N w d D := ⟨ms, ml, mp, va, fq, fv, h⟩
theorem Dsk.open (h : Dsk F N w d D) : ∃ ms ml mp va fq fv, Dx F N w d D ms ml mp va fq fv := h
theorem Dx.ext (h : Dx F N w d D ms ml mp va fq fv) (hb : Below w.heap.size w w') : Dx F N w' d D ms ml mp va fq fv := by
  have hl := (Array.getElem?_eq_some_iff.1 h.1).1
  exact ⟨(hb.block d hl).trans h.1, h.2.1.move (fun k hk hn => ⟨hb.block k hk, hn⟩) hl (fun q hq => Nat.lt_of_lt_of_le (h.2.1.fw q hq) hb.size), h.2.2⟩
theorem Dx.lt (h : Dx F N w d D ms ml mp va fq fv) : d < w.heap.size := (Array.getElem?_eq_some_iff.1 h.1).1
theorem PlanM.mono {M : Nat} {pl : Int → Option Ft} (h : PlanM F w mp N pl) (hm : N ≤ M) : PlanM F w mp M pl := by
  cases mp with
  | none => exact h
  | some b => obtain ⟨D, h1, h2⟩ := h; exact ⟨D, h1.mono hm, h2⟩
theorem Rst.monoN {M : Nat} {fi : List Fi} {se la : Dir} {ac : List Ac} {pl : Int → Option Ft} (h : Rst F N w d ms ml mp va fq fv fi se la ac pl) (hm : N ≤ M) : Rst F M w d ms ml mp va fq fv fi se la ac pl :=
  { h with hp := h.hp.mono hm }
theorem Dx.monoN {M : Nat} (h : Dx F N w d D ms ml mp va fq fv) (hm : N ≤ M) (hM : M ≤ 1099511627776) : Dx F M w d D ms ml mp va fq fv := ⟨h.1, h.2.1.monoN hm, h.2.2.1.mono hm, hM⟩
theorem Dsk.monoN {M : Nat} (h : Dsk F N w d D) (hm : N ≤ M) (hM : M ≤ 1099511627776) : Dsk F M w d D := by
  obtain ⟨ms, ml, mp, va, fq, fv, h⟩ := h.open
  exact (h.monoN hm hM).dsk
end
set_option maxRecDepth 100000 in
theorem newFile_any {F : Nat → Prop} {N : Nat} {w : World} {d : Nat} {D : Dk} {ms ml : Nat} {mp : Option Nat} {va : Value} {fq : Nat → Nat} {fv : Nat → Value} (h : Dx F N w d D ms ml mp va fq fv) (hN : N + 1 ≤ 1099511627776) :
    Calls Try.prog 36 #[pp d] w fun e w' => e = .returned (pp w.heap.size) ∧ Dx F (N + 1) w' d D.fresh ms ml mp va (fun j => if j = D.fi.length then w.heap.size else fq j) (fun j => if j = D.fi.length then .slice none 0 0 else fv j) ∧ Kd F w w' := by
  have hdl := h.lt
  obtain ⟨h1, h2, h3, h4⟩ := h
  obtain ⟨c0, c1, c2, c3, c4, c5, c6, c7, fr⟩ := dC_cells h1
  have fr1 := fr 1
  have hlf := h3.lfi
  obtain ⟨s1, g1⟩ := set1 h1 1 (.int .i64 ((D.fi.length : Int) + 1))
  have hr1 := h2.own h1 g1
  generalize hw1 : w.setCell ⟨d, 1, none⟩ (.int .i64 ((D.fi.length : Int) + 1)) = w1 at *
  have hsz1 : w1.heap.size = w.heap.size := by rw [← hw1]; simp
  have n1 : w1.cell? ⟨d, 1, none⟩ = some (.int .i64 ((D.fi.length : Int) + 1)) := by simp [World.cell?, s1]
  have FIN : Hid (Dx F (N + 1) (w1.alloc (.cells #[.int .i64 ((D.fi.length : Int) + 1), .slice none 0 0, .int .i64 0, .int .i64 0] 130)) d D.fresh ms ml mp va (fun j => if j = D.fi.length then w.heap.size else fq j) (fun j => if j = D.fi.length then .slice none 0 0 else fv j) ∧ Kd F w (w1.alloc (.cells #[.int .i64 ((D.fi.length : Int) + 1), .slice none 0 0, .int .i64 0, .int .i64 0] 130))) := by
    have hb : Below w1.heap.size w1 (w1.alloc (.cells #[.int .i64 ((D.fi.length : Int) + 1), .slice none 0 0, .int .i64 0, .int .i64 0] 130)) := ext_alloc (Below.refl _ _) _
    refine ⟨⟨?_, ?_, h3.fresh, hN⟩, (Kd.of_own h1 (by decide) h2.fd g1).trans (Kd.of hb)⟩
    · rw [hb.block d (by rw [hsz1]; exact hdl), s1]
      simp [Dk.fresh]
    · refine (Rst.monoN ?_ (Nat.le_succ N))
      refine hr1.fresh (fun p hp => (h3.seen.ok p hp).2) (fun p hp => (h3.last.ok p hp).2) (fun a ha => (h3.ac a ha).2.2) ⟨?_, rfl, .inl ⟨rfl, rfl⟩⟩ hb (by rw [hsz1]; exact Nat.le_refl _)
      rw [← hsz1]
      exact heap_alloc_new _ _
  generalize hn : (D.fi.length : Int) = n at *
  have hnb : n + 1 ≤ 1099511627776 ∧ 0 ≤ n := by omega
  clear h1 h2 h3 c0 c2 c3 c4 c5 c6 c7 fr s1 g1 hr1 hlf
  go_enter Try.func36, Try.ntmps36
  go_upto_region 2 with fail
  clear hw1
  go_wp2_with fail
  go_ret
  exact ⟨rfl, FIN.out⟩
set_option maxRecDepth 100000 in
set_option maxHeartbeats 2000000 in
theorem clone_dir (b : Nat) (es : Array MapEntry) (cl : Nat) (w : World) (hb : w.heap[b]? = some (.map es cl)) :
    Calls Try.prog 75 #[.map (some b)] w fun e w' => e = .returned (.map (some w.heap.size)) ∧ w' = w.alloc (.map es cl) := by
  have hq := fun w => run_eql_map_nil_sl (P := Try.prog) w 84 _ _ (some b) Try.underlying84
  go_enter Try.func75, Try.ntmps75
  go_wp2
  rw [run_callFunc_extern Try.func92 (by kernel_rfl) (by kernel_rfl) (by kernel_rfl) (e := Extern.MapsClone.clone) (by kernel_rfl), run_maps_clone_sl w 84 hb]
  simp only [Result.andThen]
  rw [Oper.upon_value]
  go_wp2
  rw [run_typeAssert_map_sl _ 84 20 _ _ _ Try.underlying84]
  simp only [Result.andThen]
  rw [Oper.upon_value]
  go_wp2
  go_ret
  exact ⟨rfl, rfl⟩

/-- What is seen lasts: a new map. -/
theorem Dx.settle {F : Nat → Prop} {N : Nat} {w w' : World} {d : Nat} {D : Dk} {ms ml ml' : Nat} {mp : Option Nat} {va : Value} {fq : Nat → Nat} {fv : Nat → Value} (h : Dx F N w d D ms ml mp va fq fv) {es : Array MapEntry} {cl : Nat} (hm : w.heap[ms]? = some (.map es cl)) (hm' : w'.heap[ml']? = some (.map es cl)) (hl : w.heap.size ≤ ml') (hd : w'.heap[d]? = some (.cells (dC D.settle ms ml' mp (.slice none 0 0)) 88 (0, 0))) (hk : Kps (fun k => k = d) w w') : Dx F N w' d D.settle ms ml' mp (.slice none 0 0) fq fv := by
  obtain ⟨h1, h2, h3, h4⟩ := h
  have lt : ∀ {k : Nat} {o : Obj}, w.heap[k]? = some o → k < w.heap.size := fun e => (Array.getElem?_eq_some_iff.1 e).1
  have keep : ∀ {k : Nat} {o : Obj}, w.heap[k]? = some o → (∀ cs, o ≠ .cells cs 88 (0, 0)) → w'.heap[k]? = w.heap[k]? := fun {k o} e ho => hk.same _ (lt e) (fun e2 => ne_obj e h1 (ho _) e2)
  have hms : DirM w' ms fq D.se := h2.hs.same (keep hm (by simp))
  refine ⟨hd, { h2 with hs := hms, hl := ?_, ne := ?_, ha := ⟨rfl, .inl ⟨rfl, rfl⟩⟩, hp := ?_, pe := ?_, hf := ?_, fl := h2.new hl, fa := fun g hg => (by cases hg), fw := fun q hq => Nat.lt_of_lt_of_le (h2.fw q hq) hk.size }, h3.settle, h4⟩
  · obtain ⟨es2, cl2, e1, r⟩ := h2.hs
    rw [hm] at e1
    cases e1
    exact ⟨es, cl, hm', r⟩
  · intro e
    have := lt hm
    omega
  · exact h2.noplan (fun b e => by subst e; obtain ⟨es, cl, e⟩ := h2.hp.heap; exact keep e (by simp)) (fun g cur hc => keep hc (by simp))
  · refine ⟨h2.pe.1, fun e => ?_⟩
    subst e
    obtain ⟨es, cl, e⟩ := h2.hp.heap
    have := lt e
    omega
  · intro i f hi
    exact (h2.hf i f hi).same (keep (h2.hf i f hi).1 (by simp)) (fun g hg => by obtain ⟨cur, hc⟩ := own_lt (h2.hf i f hi).2 hg; exact keep hc (by simp))
set_option maxRecDepth 100000 in
theorem settle_any {F : Nat → Prop} {N : Nat} {w : World} {d : Nat} {D : Dk} {ms ml : Nat} {mp : Option Nat} {va : Value} {fq : Nat → Nat} {fv : Nat → Value} (h : Dx F N w d D ms ml mp va fq fv) :
    Calls Try.prog 38 #[pp d] w fun e w' => e = .returned (.tuple #[]) ∧ (∃ ml', Dx F N w' d D.settle ms ml' mp (.slice none 0 0) fq fv) ∧ Kd F w w' := by
  have hdl := h.lt
  obtain ⟨es, cl, hm⟩ := h.2.1.hs.heap
  have CL := hidIt (clone_dir ms es cl w hm)
  obtain ⟨c0, c1, c2, c3, c4, c5, c6, c7, fr⟩ := dC_cells h.1
  obtain ⟨w1, hw1, m1, b1⟩ : ∃ w1, w1 = w.alloc (.map es cl) ∧ w1.heap[w.heap.size]? = some (.map es cl) ∧ Below w.heap.size w w1 := ⟨_, rfl, heap_alloc_new _ _, ext_alloc (Below.refl _ _) _⟩
  have d1 := (b1.block d hdl).trans h.1
  obtain ⟨s2, g2⟩ := set1 d1 3 (.map (some w.heap.size))
  generalize hw2 : w1.setCell ⟨d, 3, none⟩ (.map (some w.heap.size)) = w2 at *
  obtain ⟨s3, g3⟩ := set1 s2 4 (.slice none 0 0)
  generalize hw3 : w2.setCell ⟨d, 4, none⟩ (.slice none 0 0) = w3 at *
  have f1 : w1.frozen? ⟨d, 3, none⟩ = false := frozen_of_row _ _ _ _ _ d1
  have f2 : w2.frozen? ⟨d, 4, none⟩ = false := frozen_of_row _ _ _ _ _ s2
  have e1 : w1.cell? ⟨d, 3, none⟩ = some (.map (some ml)) := by simp [World.cell?, d1]
  have e2 : w2.cell? ⟨d, 4, none⟩ = some va := by simp [World.cell?, s2]
  have K3 : Hid (Kps (fun k => k = d) w w3) := ((Kps.of_below _ b1).trans (Kps.grown g2 (fun k e _ => by cases e; rfl)) (fun _ _ e => e)).trans (Kps.grown g3 (fun k e _ => by cases e; rfl)) (fun _ _ e => e)
  have m3 : w3.heap[w.heap.size]? = some (.map es cl) := by
    have l1 : w.heap.size < w1.heap.size := by rw [hw1]; simp
    rw [g3.block _ (Nat.lt_of_lt_of_le l1 g2.size) (by simp; omega), g2.block _ l1 (by simp; omega), m1]
  have FIN : Hid (Dx F N w3 d D.settle ms w.heap.size mp (.slice none 0 0) fq fv) := h.settle hm m3 (Nat.le_refl _) (by rw [s3]; rfl) K3.out
  have HK : Hid (Kd F w w3) := K3.out.mono (fun k _ e => by rw [e]; exact ⟨h.2.1.fd, NI.of h.1 (by decide)⟩)
  clear h hm d1 s2 g2 s3 g3 m3 K3 m1 c0 c1 c3 c5 c6 c7 fr b1 c4
  go_enter Try.func38, Try.ntmps38
  go_wp2_with (go_at_call 75; refine CL.out.mono ?_; rintro e w9 ⟨rfl, h9⟩; obtain rfl : w9 = w1 := h9.trans hw1.symm; clear h9 hw1)
  exact bodyPost_end (results_none rfl _ _ _) rfl ⟨rfl, ⟨_, FIN.out⟩, HK.out⟩

theorem cell3_new (w : World) (T : TypeId) (a b c : Value) : ∀ (j : Nat) (u : Value), [a, b, c][j]? = some u → (w.alloc (.cells #[a, b, c] T)).drew.cell? ((⟨w.heap.size, 0, none⟩ : Addr).add j) = some u := by
  intro j u hj
  have h : (w.alloc (.cells #[a, b, c] T)).drew.heap[w.heap.size]? = some (.cells #[a, b, c] T (0, 0)) := heap_alloc_new _ _
  rcases j with _ | _ | _ | j
  · cases hj; exact (cells3 h).1
  · cases hj; exact (cells3 h).2.1
  · cases hj; exact (cells3 h).2.2.1
  · simp at hj
theorem one3 (fq : Nat → Nat) (a b : Nm) (o : Option Nat) : ∀ u ∈ [sv a, sv b, acP fq o], u.oneCell' = true := by
  intro u hu
  simp only [List.mem_cons, List.not_mem_nil, or_false] at hu
  rcases hu with rfl | rfl | rfl
  · rfl
  · rfl
  · cases o <;> rfl
theorem cell_lt {w : World} {b i : Nat} {u : Value} (h : w.cell? ⟨b, i, none⟩ = some u) : b < w.heap.size := by
  unfold World.cell? at h
  by_cases hb : b < w.heap.size
  · exact hb
  · have hn : w.heap[b]? = none := Array.getElem?_eq_none (Nat.le_of_not_lt hb)
    rw [hn] at h
    cases h
theorem form_own {w : World} {base : Nat} {e : TypeId} {size n : Nat} {v : Value} {xs : List Value} (h : w.ownsRow base e size v n xs) : ∃ ao n c, v = .slice ao n c := by
  rcases h.2 with ⟨rfl, _⟩ | ⟨g, cap, cur, rfl, _⟩
  · exact ⟨_, _, _, rfl⟩
  · exact ⟨_, _, _, rfl⟩
theorem Rst.ext {F : Nat → Prop} {N : Nat} {w w' : World} {d ms ml : Nat} {mp : Option Nat} {va : Value} {fq : Nat → Nat} {fv : Nat → Value} {fi : List Fi} {se la : Dir} {ac : List Ac} {pl : Int → Option Ft} (h : Rst F N w d ms ml mp va fq fv fi se la ac pl) (hd : d < w.heap.size) (hb : Below w.heap.size w w') : Rst F N w' d ms ml mp va fq fv fi se la ac pl :=
  h.move (fun k hk hn => ⟨hb.block k hk, hn⟩) hd (fun q hq => Nat.lt_of_lt_of_le (h.fw q hq) hb.size)
/-- append in a region that draws: which block the answer lies in. -/
theorem wp_append_blk {P : Program} {W : World} {op : Oper} {a : Act} {K : Act → World → Prop} {Q : Exit → Act → World → Prop} (s x : Operand) (t : TypeId) (ho : op.op = .call { callee := .builtin .append, args := #[s, x], argTypes := #[t, t] })
    (base : Nat) (e : TypeId) (i : TypeInfo) (z : Value) (size bytes : Nat) (ht : P.underlying t = some (.slice e)) (hi : P.info? e = some i) (hz : i.zero = some z)
    (hsize : i.size = size) (hby : i.bytes = bytes) (hzs : z.cells.size = size) (hsz : 0 < size)
    (v : Value) (n : Nat) (xs : List Value) (hs : a.eval s = v) (hown : W.ownsRow base e size v n xs)
    (ad : Addr) (m c : Nat) (news : List Value) (hx : a.eval x = .slice (some ad) m c) (hl : news.length = m * size) (hnews : ∀ j u, news[j]? = some u → W.cell? (ad.add j) = some u) (h1 : ∀ u ∈ news, u.oneCell' = true)
    (h63 : n + m ≤ maxLen) (hbytes : (n + m) * bytes ≤ 140737488355328) (hbase : base ≤ W.heap.size) (hm : 0 < m)
    (h : ∀ v' w', w'.ownsRow base e size v' (n + m) (xs ++ news) → W.grownBy w' v.ownBlock → (v'.ownBlock = v.ownBlock ∨ v'.ownBlock = some W.heap.size) → K (a.put op.dst v') w') : op.wp P a W K Q := by
  obtain ⟨v', w', hr, h2, h3, h4⟩ := run_append_blk (P := P) W base t op.type e i z size bytes ht hi hz hsize hby hzs hsz v n xs hown ad m c news hl hnews h1 h63 hbytes hbase hm
  unfold Oper.wp execOp
  simp only [ho, resolve, invoke, builtin, Sem.run_bind, Sem.run_pure, Result.andThen_ok, List.map_toArray, List.map_cons, List.map_nil, hs, hx, hr]
  exact h v' w' h2 h3 h4
theorem info_act : (Try.prog.info? 98).map (fun i => (i.zero, i.size, i.bytes)) = some (some (.agg #[.string ⟨#[]⟩, .string ⟨#[]⟩, .pointer none]), 3, 40) := by kernel_rfl
set_option maxRecDepth 100000 in
theorem act_any {F : Nat → Prop} {N : Nat} {w : World} {d : Nat} {D : Dk} {ms ml : Nat} {mp : Option Nat} {va : Value} {fq : Nat → Nat} {fv : Nat → Value} (h : Dx F N w d D ms ml mp va fq fv) (a : Ac) (hok : DirOk D.fi.length (a.on D.se)) (hb : a.gone.length ≤ 32 ∧ a.to.length ≤ 32 ∧ ∀ i, a.fi = some i → i < D.fi.length) (hN : N + 1 ≤ 1099511627776) :
    Calls Try.prog 64 #[pp d, .agg #[sv a.gone, sv a.to, acP fq a.fi]] w fun e w' => e = .returned (.tuple #[]) ∧ (∃ va', Dx F (N + 1) w' d (D.act a) ms ml mp va' fq fv) ∧ Kd F w w' := by
  have hdl := h.lt
  obtain ⟨i0, hi, hz0, hz1, hz2⟩ := info_parts info_act
  obtain ⟨w1, hw1, k1, b1⟩ : ∃ w1, w1 = w.alloc (.cells #[sv a.gone, sv a.to, acP fq a.fi] 98) ∧ w1.heap[w.heap.size]? = some (.cells #[sv a.gone, sv a.to, acP fq a.fi] 98 (0, 0)) ∧ Below w.heap.size w w1 := ⟨_, rfl, heap_alloc_new _ _, ext_alloc (Below.refl _ _) _⟩
  have x1 := h.ext b1
  obtain ⟨c0, c1, c2, c3, c4, c5, c6, c7, fr⟩ := dC_cells x1.1
  obtain ⟨e0, e1, e2, _⟩ := cells3 k1
  have hms := x1.2.1.hs
  have HD1 := hidIt (show d < w1.heap.size ∧ w.heap.size < w1.heap.size ∧ d ≠ w.heap.size ∧ ms ≠ d ∧ ms ≠ w.heap.size by
    obtain ⟨es, cl, hm⟩ := hms.heap
    exact ⟨x1.lt, (Array.getElem?_eq_some_iff.1 k1).1, by omega, ne_obj hm x1.1 (by simp), ne_obj hm k1 (by simp)⟩)
  have ON : Hid (∀ w' : World, w'.heap = w1.heap → w'.os = w1.os → w'.tape = w1.tape → w'.output = w1.output → Calls Try.prog 44 #[.agg #[sv a.gone, sv a.to, acP fq a.fi], .map (some ms)] w' fun e w2 => e = .returned (.tuple #[]) ∧ DirM w2 ms fq (a.on D.se) ∧ w1.grownBy w2 (some ms) ∧ w2.heap[d]? = w1.heap[d]? ∧ w2.heap[w.heap.size]? = w1.heap[w.heap.size]? ∧ w2.cell? ⟨w.heap.size, 0, none⟩ = some (sv a.gone) ∧ w2.cell? ⟨w.heap.size, 1, none⟩ = some (sv a.to) ∧ w2.cell? ⟨w.heap.size, 2, none⟩ = some (acP fq a.fi) ∧ w2.cell? ⟨d, 2, none⟩ = some (.map (some ms))) := fun w' hw o1 o2 o3 => by
    refine (on_any a (hms.same (w' := w') (by rw [hw])) hb.1 hb.2.1 x1.2.2.1.seen.few).mono ?_
    rintro e w2 ⟨rfl, hm2, hg2⟩
    have hg : w1.grownBy w2 (some ms) := ⟨hg2.os.trans o1, hg2.tape.trans o2, hg2.output.trans o3, by rw [← hw]; exact hg2.size, fun j hj hn => (hg2.block j (by rw [hw]; exact hj) hn).trans (by rw [hw])⟩
    have hd2 := hg.block d HD1.out.1 (by simpa using HD1.out.2.2.2.1.symm)
    have hk2 := hg.block w.heap.size HD1.out.2.1 (by simpa using HD1.out.2.2.2.2.symm)
    have q : ∀ (b i : Nat), w2.heap[b]? = w1.heap[b]? → w2.cell? ⟨b, i, none⟩ = w1.cell? ⟨b, i, none⟩ := fun b i e => by unfold World.cell?; simp only [e]
    exact ⟨rfl, hm2, hg, hd2, hk2, (q _ _ hk2).trans e0, (q _ _ hk2).trans e1, (q _ _ hk2).trans e2, (q _ _ hd2).trans c2⟩
  have HVA := hidIt (fun g (hg : va.ownBlock = some g) => (World.ownsRow.lt h.2.1.ha g hg).2)
  have X1 := hidIt x1
  have K1 := hidIt k1
  have B1 := hidIt b1
  have HX := hidIt h
  clear x1 k1 b1 h hms c0 c1 c3 c5 c6 c7 fr c4
  go_enter Try.func64, Try.ntmps64
  go_upto_region 1 with fail
  rw [← hw1]
  clear hw1
  go_region_held3 (fun w'' => w''.cell? ⟨w.heap.size, 0, none⟩ = some (sv a.gone) ∧ w''.cell? ⟨w.heap.size, 1, none⟩ = some (sv a.to) ∧ w''.cell? ⟨w.heap.size, 2, none⟩ = some (acP fq a.fi) ∧ w''.cell? ⟨d, 2, none⟩ = some (.map (some ms))) (first | exact ⟨q0, q1, q2, q3⟩ | go_keep) (
    (go_at_call 44; refine (ON.out _ (by rfl) (by rfl) (by rfl) (by rfl)).mono ?_; rintro e w2 ⟨rfl, hm2, hg2, hd2, hk2, q0, q1, q2, q3⟩; have HM2 := hidIt hm2; have HG2 := hidIt hg2; have HD2 := hidIt hd2; have HK2 := hidIt hk2; clear hm2 hg2 hd2 hk2))
  go_upto_region 2 with fail
  have X2 := hidIt (X1.out.2.1.seen HM2.out HG2.out)
  have dd := HD2.out.trans X1.out.1
  have c4 : w2.cell? ⟨d, 4, none⟩ = some va := by simp [World.cell?, dd]
  have f4 : w2.frozen? ⟨d, 4, none⟩ = false := frozen_of_row _ _ _ _ _ dd
  have HLA := hidIt X1.out.2.2.1.lac
  have HN1 := hidIt X1.out.2.2.2
  have AL : Hid (Below w2.heap.size w2 (w2.alloc (.cells #[sv a.gone, sv a.to, acP fq a.fi] 98)).drew) := (ext_alloc (Below.refl _ _) _).drew
  have ROW : Hid (∀ W, Below w2.heap.size w2 W → W.ownsRow 0 98 3 va D.ac.length (D.ac.flatMap (acC fq))) := fun W hb => own_ext X2.out.ha hb
  have kk := HK2.out.trans K1.out
  have hd2 : d < w2.heap.size := (Array.getElem?_eq_some_iff.1 dd).1
  have hk2 : w.heap.size < w2.heap.size := (Array.getElem?_eq_some_iff.1 kk).1
  have SS : Hid ((w2.alloc (.cells #[sv a.gone, sv a.to, acP fq a.fi] 98)).drew.cell? ⟨d, 4, none⟩ = some va ∧ (w2.alloc (.cells #[sv a.gone, sv a.to, acP fq a.fi] 98)).drew.cell? ⟨w.heap.size, 0, none⟩ = some (sv a.gone) ∧ (w2.alloc (.cells #[sv a.gone, sv a.to, acP fq a.fi] 98)).drew.cell? ⟨w.heap.size, 1, none⟩ = some (sv a.to) ∧ (w2.alloc (.cells #[sv a.gone, sv a.to, acP fq a.fi] 98)).drew.cell? ⟨w.heap.size, 2, none⟩ = some (acP fq a.fi)) :=
    ⟨(AL.out.cell (p := ⟨d, 4, none⟩) hd2).trans c4, (AL.out.cell (p := ⟨w.heap.size, 0, none⟩) hk2).trans q0, (AL.out.cell (p := ⟨w.heap.size, 1, none⟩) hk2).trans q1, (AL.out.cell (p := ⟨w.heap.size, 2, none⟩) hk2).trans q2⟩
  have APD : Hid (∀ (v9 : Value) (w9 : World), w9.ownsRow 0 98 3 v9 (D.ac.length + 1) (D.ac.flatMap (acC fq) ++ [sv a.gone, sv a.to, acP fq a.fi]) → (w2.alloc (.cells #[sv a.gone, sv a.to, acP fq a.fi] 98)).drew.grownBy w9 va.ownBlock → (v9.ownBlock = va.ownBlock ∨ v9.ownBlock = some (w2.alloc (.cells #[sv a.gone, sv a.to, acP fq a.fi] 98)).drew.heap.size) → True ∧ Rst F N w9 d ms ml mp v9 fq fv D.fi (a.on D.se) D.la (D.ac ++ [a]) D.pl ∧ Kd F w w9 ∧ w9.heap[d]? = some (.cells (dC D ms ml mp va) 88 (0, 0)) ∧ w9.cell? ⟨w.heap.size, 0, none⟩ = some (sv a.gone) ∧ w9.cell? ⟨w.heap.size, 1, none⟩ = some (sv a.to) ∧ w9.cell? ⟨w.heap.size, 2, none⟩ = some (acP fq a.fi) ∧ w9.cell? ⟨d, 4, none⟩ = some va) := by
    intro v9 w9 own9 hg9 hv9
    have lt2 : ∀ {k : Nat} {o : Obj}, w2.heap[k]? = some o → (∀ cur, o ≠ .cells cur 98 (0, 0)) → w9.heap[k]? = some o := fun {k o} e ho => by
      have hkl := (Array.getElem?_eq_some_iff.1 e).1
      rw [hg9.block k (Nat.lt_of_lt_of_le hkl AL.out.size) (fun e2 => by
        obtain ⟨cur, hc⟩ := own_lt X2.out.ha e2.symm
        exact ne_obj e hc (ho cur) rfl), AL.out.block k hkl, e]
    have kk9 : ∀ i u, w2.cell? ⟨w.heap.size, i, none⟩ = some u → w9.cell? ⟨w.heap.size, i, none⟩ = some u := fun i u hu => by
      rw [← hu]
      unfold World.cell?
      rw [hg9.block _ (Nat.lt_of_lt_of_le hk2 AL.out.size) (fun e2 => by have := HVA.out _ e2.symm; omega), AL.out.block _ hk2]
    have d9 := lt2 dd (by simp)
    refine ⟨trivial, ?_, ?_, d9, kk9 0 _ q0, kk9 1 _ q1, kk9 2 _ q2, by simp [World.cell?, d9]⟩
    · refine (X2.out.ext hd2 AL.out).acts ?_ hg9 ?_
      · simpa [List.flatMap_append, acC] using own9
      · exact fun g hg => hv9.elim (fun e => .inl (e ▸ hg)) (fun e => .inr (by rw [hg] at e; cases e; exact Nat.le_refl _))
    · obtain ⟨es, cl, hm⟩ := X1.out.2.1.hs.heap
      exact ((Kd.of B1.out).trans (Kd.of_map hm X1.out.2.1.fs HG2.out)).trans ((Kd.of AL.out).trans (Kd.of_row (ROW.out _ AL.out) (by decide) X2.out.fa hg9))
  have FI : Hid (∀ (v9 : Value) (w9 : World), True → Rst F N w9 d ms ml mp v9 fq fv D.fi (a.on D.se) D.la (D.ac ++ [a]) D.pl → Kd F w w9 → w9.heap[d]? = some (.cells (dC D ms ml mp va) 88 (0, 0)) → (∃ va', Dx F (N + 1) (w9.setCell ⟨d, 4, none⟩ v9) d (D.act a) ms ml mp va' fq fv) ∧ Kd F w (w9.setCell ⟨d, 4, none⟩ v9)) := by
    intro v9 w9 _ hr hk h9
    obtain ⟨s4, g4⟩ := set1 h9 4 v9
    exact ⟨⟨v9, by rw [s4]; rfl, (hr.own h9 g4).monoN (Nat.le_succ _), X1.out.2.2.1.act hok hb, hN⟩, hk.trans (Kd.of_own h9 (by decide) hr.fd g4)⟩
  have ZZ : Hid (∀ (w9 : World) (v : Value), w9.heap[d]? = some (.cells (dC D ms ml mp va) 88 (0, 0)) → (w9.cell? ⟨w.heap.size, 0, none⟩ = some (sv a.gone) ∧ w9.cell? ⟨w.heap.size, 1, none⟩ = some (sv a.to) ∧ w9.cell? ⟨w.heap.size, 2, none⟩ = some (acP fq a.fi)) → ((w9.setCell ⟨d, 4, none⟩ v).cell? ⟨w.heap.size, 0, none⟩ = some (sv a.gone) ∧ (w9.setCell ⟨d, 4, none⟩ v).cell? ⟨w.heap.size, 1, none⟩ = some (sv a.to) ∧ (w9.setCell ⟨d, 4, none⟩ v).cell? ⟨w.heap.size, 2, none⟩ = some (acP fq a.fi))) := by
    intro w9 v h9 ⟨z0, z1, z2⟩
    have lt9 : ∀ {i : Nat} {u : Value}, w9.cell? ⟨w.heap.size, i, none⟩ = some u → (w9.setCell ⟨d, 4, none⟩ v).cell? ⟨w.heap.size, i, none⟩ = some u := fun {i u} e => by
      have hl : w.heap.size < w9.heap.size := cell_lt e
      rw [← e]
      unfold World.cell?
      rw [(set1 h9 4 v).2.block _ hl (by simp; omega)]
    exact ⟨lt9 z0, lt9 z1, lt9 z2⟩
  clear dd kk hd2 hk2
  have c4a : (w2.alloc (.cells #[sv a.gone, sv a.to, acP fq a.fi] 98)).cell? ⟨d, 4, none⟩ = some va := SS.out.1
  refine wp_region_held_drew (S := fun w'' => w''.cell? ⟨w.heap.size, 0, none⟩ = some (sv a.gone) ∧ w''.cell? ⟨w.heap.size, 1, none⟩ = some (sv a.to) ∧ w''.cell? ⟨w.heap.size, 2, none⟩ = some (acP fq a.fi)) (by kernel_rfl) (by first | exact ⟨q0, q1, q2⟩ | (simp only [World.cell?_drew]; exact ⟨q0, q1, q2⟩)) (fun hHeld => ?_)
  refine wpAnyH_take (i := 0) (oi := _) (v := ?_) rfl (by kernel_rfl) (by kernel_rfl) (by kernel_rfl) (fun _ _ _ h => h) (Or.inl ⟨by rfl, ?_⟩) (by assumption) ?_
  rotate_left 1
  · intro wq hSw; (try dsimp only at hSw); go_simp; try (with_reducible rfl)
  try simp only [Act.put, List.getElem_toArray, List.getElem_cons_zero, List.setIfInBounds_toArray, List.set_cons_zero, List.set_cons_succ]
  refine wpAnyH_take (i := 1) (oi := _) (v := ?_) rfl (by kernel_rfl) (by kernel_rfl) (by kernel_rfl) (fun _ _ _ h => h) (Or.inl ⟨by rfl, ?_⟩) (by assumption) ?_
  rotate_left 1
  · intro wq hSw; (try dsimp only at hSw); go_simp; try (with_reducible rfl)
  try simp only [Act.put, List.getElem_toArray, List.getElem_cons_succ, List.getElem_cons_zero, List.setIfInBounds_toArray, List.set_cons_zero, List.set_cons_succ]
  refine wpAnyH_take (i := 2) (oi := _) (v := ?_) rfl (by kernel_rfl) (by kernel_rfl) (by kernel_rfl) (fun _ _ _ h => h) (Or.inl ⟨by rfl, ?_⟩) (by assumption) ?_
  rotate_left 1
  · intro wq hSw; (try dsimp only at hSw); go_simp; try (with_reducible rfl)
  try simp only [Act.put, List.getElem_toArray, List.getElem_cons_succ, List.getElem_cons_zero, List.setIfInBounds_toArray, List.set_cons_zero, List.set_cons_succ]
  refine wpAnyH_take (i := 3) (oi := _) (v := ?_) rfl (by kernel_rfl) (by kernel_rfl) (by kernel_rfl) (fun _ _ _ h => h) (Or.inl ⟨by rfl, ?_⟩) (by assumption) ?_
  rotate_left 1
  · intro wq hSw; (try dsimp only at hSw); go_simp; try (with_reducible rfl)
  try simp only [Act.put, List.getElem_toArray, List.getElem_cons_succ, List.getElem_cons_zero, List.setIfInBounds_toArray, List.set_cons_zero, List.set_cons_succ]
  refine wpAnyH_take (i := 5) (oi := _) (v := ?_) rfl (by kernel_rfl) (by kernel_rfl) (by kernel_rfl) (fun _ _ _ h => h) (Or.inl ⟨by rfl, ?_⟩) (by assumption) ?_
  rotate_left 1
  · intro wq hSw; (try dsimp only at hSw); go_simp; try (with_reducible rfl)
  try simp only [Act.put, List.getElem_toArray, List.getElem_cons_succ, List.getElem_cons_zero, List.setIfInBounds_toArray, List.set_cons_zero, List.set_cons_succ]
  refine wpAnyH_ready (rs := [4, 6]) (by kernel_rfl) (by simp) ?_
  refine (AllReadyH.cons (o := _) rfl (fun K hK => ?_) (AllReadyH.cons (o := _) rfl (fun K hK => ?_) AllReadyH.nil))
  · skip
    go_simp
    refine hK.out _ _ ?_ (fun hHeld => ?_)
    · first | exact ⟨q0, q1, q2⟩ | (simp only [World.cell?_drew]; exact ⟨q0, q1, q2⟩)
    clear hK K
    try simp only [Act.put, List.getElem_toArray, List.getElem_cons_succ, List.getElem_cons_zero, List.setIfInBounds_toArray, List.set_cons_zero, List.set_cons_succ]
    refine wpAnyH_ready (rs := [6]) (by kernel_rfl) (by simp) ?_
    refine AllReadyH.cons (o := _) rfl (fun K hK => ?_) AllReadyH.nil
    go_simp
    refine hK.out _ _ ?_ (fun hHeld => ?_)
    · exact SS.out.2
    clear hK K
    try simp only [Act.put, List.getElem_toArray, List.getElem_cons_succ, List.getElem_cons_zero, List.setIfInBounds_toArray, List.set_cons_zero, List.set_cons_succ]
    refine wpAnyH_ready (rs := [7]) (by kernel_rfl) (by simp) ?_
    refine AllReadyH.cons (o := _) rfl (fun K hK => ?_) AllReadyH.nil
    rw [if_pos (by rfl)]
    refine wp_append_blk _ _ 85 (by rfl) 0 98 i0 (.agg #[.string ⟨#[]⟩, .string ⟨#[]⟩, .pointer none]) 3 40 Try.underlying85 hi hz0 hz1 hz2 rfl (by decide) va D.ac.length (D.ac.flatMap (acC fq)) (by rfl) (ROW.out _ AL.out) ⟨w2.heap.size, 0, none⟩ 1 1 [sv a.gone, sv a.to, acP fq a.fi] (by rfl) rfl (cell3_new _ _ _ _ _) (one3 _ _ _ _) (by have := HLA.out; unfold maxLen; omega) (by have := HLA.out; omega) (Nat.zero_le _) (by decide) ?_; intro v9 w9 own9 hg9 hv9; obtain ⟨ao9, n9, c9, rfl⟩ := form_own own9; have DS := hidIt (APD.out _ _ own9 hg9 hv9); clear own9 hg9; obtain ⟨d9, z0, z1, z2, z4⟩ := DS.out.2.2.2; have f9 : w9.frozen? ⟨d, 4, none⟩ = false := frozen_of_row _ _ _ _ _ d9
    refine hK.out _ _ ?_ (fun hHeld => ?_)
    · exact ⟨z0, z1, z2⟩
    clear hK K
    try simp only [Act.put, List.getElem_toArray, List.getElem_cons_succ, List.getElem_cons_zero, List.setIfInBounds_toArray, List.set_cons_zero, List.set_cons_succ]
    refine wpAnyH_take (i := 8) (oi := _) (v := ?_) rfl (by kernel_rfl) (by kernel_rfl) (by kernel_rfl) (fun _ _ _ h => h) (Or.inl ⟨by rfl, ?_⟩) (by assumption) ?_
    rotate_left 1
    · intro wq hSw; (try dsimp only at hSw); go_simp; try (with_reducible rfl)
    try simp only [Act.put, List.getElem_toArray, List.getElem_cons_succ, List.getElem_cons_zero, List.setIfInBounds_toArray, List.set_cons_zero, List.set_cons_succ]
    refine wpAnyH_take (i := 9) (oi := _) (v := ?_) rfl (by kernel_rfl) (by kernel_rfl) (by kernel_rfl) (fun _ _ _ h => h) (Or.inl ⟨by rfl, ?_⟩) (by assumption) ?_
    rotate_left 1
    · intro wq hSw; (try dsimp only at hSw); go_simp; try (with_reducible rfl)
    try simp only [Act.put, List.getElem_toArray, List.getElem_cons_succ, List.getElem_cons_zero, List.setIfInBounds_toArray, List.set_cons_zero, List.set_cons_succ]
    refine wpAnyH_ready (rs := [10]) (by kernel_rfl) (by simp) ?_
    refine AllReadyH.cons (o := _) rfl (fun K hK => ?_) AllReadyH.nil
    go_simp
    refine hK.out _ _ ?_ (fun hHeld => ?_)
    · exact ZZ.out _ _ d9 ⟨z0, z1, z2⟩
    clear hK K
    try simp only [Act.put, List.getElem_toArray, List.getElem_cons_succ, List.getElem_cons_zero, List.setIfInBounds_toArray, List.set_cons_zero, List.set_cons_succ]
    refine wpAnyH_done (by kernel_rfl) ?_ _
    go_wp2_with fail
    exact bodyPost_end (results_none rfl _ _ _) rfl ⟨rfl, FI.out _ _ DS.out.1 DS.out.2.1 DS.out.2.2.1 d9⟩
  · skip
    go_simp
    refine hK.out _ _ ?_ (fun hHeld => ?_)
    · exact SS.out.2
    clear hK K
    try simp only [Act.put, List.getElem_toArray, List.getElem_cons_succ, List.getElem_cons_zero, List.setIfInBounds_toArray, List.set_cons_zero, List.set_cons_succ]
    refine wpAnyH_ready (rs := [4]) (by kernel_rfl) (by simp) ?_
    refine AllReadyH.cons (o := _) rfl (fun K hK => ?_) AllReadyH.nil
    go_simp
    refine hK.out _ _ ?_ (fun hHeld => ?_)
    · exact SS.out.2
    clear hK K
    try simp only [Act.put, List.getElem_toArray, List.getElem_cons_succ, List.getElem_cons_zero, List.setIfInBounds_toArray, List.set_cons_zero, List.set_cons_succ]
    refine wpAnyH_ready (rs := [7]) (by kernel_rfl) (by simp) ?_
    refine AllReadyH.cons (o := _) rfl (fun K hK => ?_) AllReadyH.nil
    rw [if_pos (by rfl)]
    refine wp_append_blk _ _ 85 (by rfl) 0 98 i0 (.agg #[.string ⟨#[]⟩, .string ⟨#[]⟩, .pointer none]) 3 40 Try.underlying85 hi hz0 hz1 hz2 rfl (by decide) va D.ac.length (D.ac.flatMap (acC fq)) (by rfl) (ROW.out _ AL.out) ⟨w2.heap.size, 0, none⟩ 1 1 [sv a.gone, sv a.to, acP fq a.fi] (by rfl) rfl (cell3_new _ _ _ _ _) (one3 _ _ _ _) (by have := HLA.out; unfold maxLen; omega) (by have := HLA.out; omega) (Nat.zero_le _) (by decide) ?_; intro v9 w9 own9 hg9 hv9; obtain ⟨ao9, n9, c9, rfl⟩ := form_own own9; have DS := hidIt (APD.out _ _ own9 hg9 hv9); clear own9 hg9; obtain ⟨d9, z0, z1, z2, z4⟩ := DS.out.2.2.2; have f9 : w9.frozen? ⟨d, 4, none⟩ = false := frozen_of_row _ _ _ _ _ d9
    refine hK.out _ _ ?_ (fun hHeld => ?_)
    · exact ⟨z0, z1, z2⟩
    clear hK K
    try simp only [Act.put, List.getElem_toArray, List.getElem_cons_succ, List.getElem_cons_zero, List.setIfInBounds_toArray, List.set_cons_zero, List.set_cons_succ]
    refine wpAnyH_take (i := 8) (oi := _) (v := ?_) rfl (by kernel_rfl) (by kernel_rfl) (by kernel_rfl) (fun _ _ _ h => h) (Or.inl ⟨by rfl, ?_⟩) (by assumption) ?_
    rotate_left 1
    · intro wq hSw; (try dsimp only at hSw); go_simp; try (with_reducible rfl)
    try simp only [Act.put, List.getElem_toArray, List.getElem_cons_succ, List.getElem_cons_zero, List.setIfInBounds_toArray, List.set_cons_zero, List.set_cons_succ]
    refine wpAnyH_take (i := 9) (oi := _) (v := ?_) rfl (by kernel_rfl) (by kernel_rfl) (by kernel_rfl) (fun _ _ _ h => h) (Or.inl ⟨by rfl, ?_⟩) (by assumption) ?_
    rotate_left 1
    · intro wq hSw; (try dsimp only at hSw); go_simp; try (with_reducible rfl)
    try simp only [Act.put, List.getElem_toArray, List.getElem_cons_succ, List.getElem_cons_zero, List.setIfInBounds_toArray, List.set_cons_zero, List.set_cons_succ]
    refine wpAnyH_ready (rs := [10]) (by kernel_rfl) (by simp) ?_
    refine AllReadyH.cons (o := _) rfl (fun K hK => ?_) AllReadyH.nil
    go_simp
    refine hK.out _ _ ?_ (fun hHeld => ?_)
    · exact ZZ.out _ _ d9 ⟨z0, z1, z2⟩
    clear hK K
    try simp only [Act.put, List.getElem_toArray, List.getElem_cons_succ, List.getElem_cons_zero, List.setIfInBounds_toArray, List.set_cons_zero, List.set_cons_succ]
    refine wpAnyH_done (by kernel_rfl) ?_ _
    go_wp2_with fail
    exact bodyPost_end (results_none rfl _ _ _) rfl ⟨rfl, FI.out _ _ DS.out.1 DS.out.2.1 DS.out.2.2.1 d9⟩

end Go.Proofs.Ytaoaihjiieandaa
