import Derived.Test.YtcfjfjfghejjiaaGreatJ12
import Derived.ProofKit
import Derived.OpenShut
import Derived.ChangeOld
import Derived.SizedLaws
import Derived.Below
/- Atoms, Tags. -/
namespace Go.Proofs.YtcfjfjfghejjiaaGreat.P
open Go.RowKit Go.Shelf

attribute [local go_sem] Oper.semAt_some

/-- Ints of the call's own. -/
def OwnI (w : World) (base : Nat) (v : Value) (zs : List Int) : Prop := w.ownsRow base 3 1 v zs.length (zs.map (Value.int .i64))
theorem OwnI.typ {w : World} {base : Nat} {v : Value} {zs : List Int} (h : OwnI w base v zs) {k : Nat} (hk : v.ownBlock = some k) : Typ 3 w k := by
  rcases h.2 with ⟨rfl, _⟩ | ⟨g, cap, cur, rfl, hb, hg, _⟩
  · simp [Value.ownBlock] at hk
  · simp [Value.ownBlock] at hk
    subst hk
    exact ⟨_, hg⟩
theorem OwnI.form {w : World} {base : Nat} {v : Value} {zs : List Int} (h : OwnI w base v zs) : ∃ ao cap, v = .slice ao zs.length cap := by
  rcases h.2 with ⟨rfl, h2⟩ | ⟨g, cap, cur, rfl, _⟩
  · exact ⟨none, 0, by rw [h2]⟩
  · exact ⟨_, cap, rfl⟩
theorem OwnI.rd {w : World} {base : Nat} {v : Value} {zs : List Int} (h : OwnI w base v zs) : Rd .i64 w v zs := Rd.of_own h
/-- What Atoms and Tags answer. -/
def AtR (zs : List Int) (w : World) (e : Ending) (w' : World) : Prop := ∃ v, e = .returned v ∧ OwnI w' w.heap.size v zs ∧ Below w.heap.size w w'
structure AtI (bx base : Nat) (v : Value) (zs : List Int) (W : World) : Prop where
  bxx : W.heap[bx]? = some (.cells #[v] 22 (0, 0))
  own : OwnI W base v zs
def atO (bx : Nat) (v : Value) (k : Nat) : Prop := k = bx ∨ v.ownBlock = some k
theorem AtI.same {bx base : Nat} {v : Value} {zs : List Int} {W W' : World} (h : AtI bx base v zs W) (hk : ∀ k, atO bx v k → W'.heap[k]? = W.heap[k]?) : AtI bx base v zs W' := by
  refine ⟨by rw [hk bx (.inl rfl)]; exact h.bxx, ?_⟩
  obtain ⟨h1, h2⟩ := h.own
  refine ⟨h1, ?_⟩
  rcases h2 with h2 | ⟨k, cap, cur, rfl, hb, hg, r⟩
  · exact .inl h2
  · exact .inr ⟨k, cap, cur, rfl, hb, by rw [hk k (.inr (by simp [Value.ownBlock]))]; exact hg, r⟩
theorem AtI.lives {bx base : Nat} {v : Value} {zs : List Int} {W : World} (h : AtI bx base v zs W) (k : Nat) (hk : atO bx v k) : k < W.heap.size := by
  rcases hk with rfl | hk
  · exact (Array.getElem?_eq_some_iff.1 h.bxx).1
  · exact (h.own.typ hk).lt
theorem AtI.push {bx base : Nat} {v v' : Value} {zs : List Int} {W W1 w' : World} {z : Int} (h : AtI bx base v zs W) (hb1 : Below W.heap.size W W1) (ho : OwnI w' base v' (zs ++ [z])) (hg : W1.grownBy w' v.ownBlock) (hk : v'.ownBlock = v.ownBlock ∨ v'.ownBlock = some W1.heap.size) :
    AtI bx base v' (zs ++ [z]) (w'.setCell ⟨bx, 0, none⟩ v') ∧ Kps (atO bx v) W (w'.setCell ⟨bx, 0, none⟩ v') ∧ Newer (atO bx) v v' W := by
  have hbl := h.lives bx (.inl rfl)
  have z1 := hb1.size
  have bne : ∀ k, v.ownBlock = some k → k ≠ bx := fun k e he => by subst he; exact absurd ((h.own.typ e).uniq ⟨_, h.bxx⟩) (by decide)
  have hbx' : w'.heap[bx]? = some (.cells #[v] 22 (0, 0)) := (hg.block bx (by omega) (fun e => bne bx e.symm rfl)).trans ((hb1.block bx hbl).trans h.bxx)
  obtain ⟨p1, p2⟩ := set1 hbx' 0 v'
  have vg : v'.ownBlock ≠ some bx := fun e => by
    rcases hk with hk | hk
    · rw [hk] at e; exact bne bx e rfl
    · rw [hk] at e; simp only [Option.some.injEq] at e; omega
  have kk : Kps (atO bx v) W1 w' := Kps.grown hg fun j e _ => .inr e
  refine ⟨⟨p1, World.ownsRow.kept ho p2 (.inr vg)⟩, ?_, ?_⟩
  · refine ((Kps.of_below (atO bx v) hb1).trans kk fun _ _ e => e).trans (Kps.grown p2 fun j e _ => ?_) fun _ _ e => e
    simp only [Option.some.injEq] at e
    exact .inl e.symm
  · rintro k (e | e)
    · exact .inl (.inl e)
    · rcases hk with hk | hk
      · rw [hk] at e; exact .inl (.inr e)
      · rw [hk] at e; simp only [Option.some.injEq] at e; exact .inr (by omega)
section
variable {P : Program} {W : World}
/-- append(out, n), the literal of one int being laid already. -/
theorem wp_append_int {op : Oper} {a : Act} {K : Act → World → Prop} {Q : Exit → Act → World → Prop} (s x : Operand) (t : TypeId) (ho : op.op = .call { callee := .builtin .append, args := #[s, x], argTypes := #[t, t] })
    (base : Nat) (e : TypeId) (he : e = 3) (hinf : (P.info? e).map (fun i => (i.zero, i.size, i.bytes)) = some (some (.int .i64 0), 1, 8)) (ht : P.underlying t = some (.slice e))
    (v : Value) (zs : List Int) (hs : a.eval s = v) (hown : OwnI W base v zs) (y : Int) (g : Nat) (hx : a.eval x = .slice (some ⟨g, 0, none⟩) 1 1) (hnew : W.cell? ⟨g, 0, none⟩ = some (.int .i64 y))
    (hbytes : zs.length + 1 ≤ 1099511627776) (hbase : base ≤ W.heap.size)
    (h : ∀ v' w', OwnI w' base v' (zs ++ [y]) → W.grownBy w' v.ownBlock → (v'.ownBlock = v.ownBlock ∨ v'.ownBlock = some W.heap.size) → K (a.put op.dst v') w') : op.wp P a W K Q := by
  obtain ⟨i0, hi, hz0, hz1, hz2⟩ := info_parts hinf
  subst he
  obtain ⟨v', w', hr, h2, h3, h4⟩ := run_append_blk (P := P) W base t op.type 3 i0 _ 1 8 ht hi hz0 hz1 hz2 rfl (by decide) v zs.length (zs.map (Value.int .i64)) hown ⟨g, 0, none⟩ 1 1 [.int .i64 y] rfl (fun j u hj => by
    cases j with
    | zero => simp only [List.getElem?_cons_zero, Option.some.injEq] at hj; subst hj; exact hnew
    | succ j => simp at hj) (fun u hu => by simp at hu; subst hu; rfl) (by unfold maxLen; omega) (by omega) hbase (by omega)
  unfold Oper.wp execOp
  simp only [ho, resolve, invoke, builtin, Sem.run_bind, Sem.run_pure, Result.andThen_ok, List.map_toArray, List.map_cons, List.map_nil, hs, hx, hr]
  refine h v' w' ?_ h3 h4
  unfold OwnI
  rw [List.length_append, List.map_append]
  exact h2
end

set_option maxRecDepth 100000 in
set_option maxHeartbeats 8000000 in
theorem Atoms_any (enc lim : Int) (L : List Int) (w : World) (t : Nat) (ps : List PG) (a b : Int) (h : Tx enc lim L w t ps) : Calls Tryz.prog 33 #[.pointer (some ⟨t, 0, none⟩), .int .i64 a, .int .i64 b] w fun e w' => AtR ((btw enc ps (clp (sh enc ps).length a b).1 (clp (sh enc ps).length a b).2).map Prod.fst) w e w' := by
  obtain ⟨i0, hi, hz0, hz1, hz2⟩ := info_parts Tryz.info_i64
  have CL := hidIt (clip_any enc lim L w t ps a b h)
  obtain ⟨hc1, hc2⟩ := clp_le (sh enc ps).length a b
  have hs := h.sum.2.2
  generalize (clp (sh enc ps).length a b).1 = f at *
  generalize (clp (sh enc ps).length a b).2 = tz at *
  have HT := hidIt h
  clear h
  obtain ⟨n, hn⟩ : ∃ n, n = tz - f := ⟨_, rfl⟩
  have hwn : IntKind.i64.wrap ((tz : Int) - (f : Int)) = (n : Nat) := by rw [IntKind.wrap_i64]; omega
  have HN := hidIt hn
  have hnl : n ≤ 65536 := by omega
  clear hn
  refine (callsIn_wide (n := 9)).1 ?_
  refine callsIn_of_wp_marks Tryz.func33 rfl trivial ?_ rfl
  simp only [Tryz.ntmps33, List.size_toArray, List.length_cons, List.length_nil, Nat.reduceAdd, Nat.reduceSub, Array.replicate_succ, Array.replicate_zero, List.push_toArray, List.append_toArray, List.nil_append, List.cons_append]
  refine wpIn_mono (Q := calm _) ?_ (fun _ _ _ h => calm_imp h)
  refine wpIn_wide.2 ?_
  go_upto_region 3 with (first
    | (go_at_call 63; refine CL.out.mono ?_; rintro e w1 ⟨rfl, hb1⟩; have HB1 := hidIt hb1; have HS1 := hidIt hb1.size; clear hb1; (try dsimp only))
    | (refine wpList_make_own w1 rfl _ _ 22 rfl w.heap.size 3 i0 (.int .i64 0) 1 Tryz.underlying22 hi hz0 hz1 .i64 .i64 _ n rfl rfl rfl (by rw [hz2]; omega) (by unfold maxLen; omega) HS1.out ?_; intro w2 hO hg; have HO := hidIt hO; have HG := hidIt hg; clear hO hg))
  obtain ⟨w3, hw3, k3, hb3⟩ : ∃ w3, w3 = w2.alloc (.cells #[.slice (some ⟨w1.heap.size, 0, none⟩) 0 n] 22) ∧ w3.heap[w2.heap.size]? = some (.cells #[.slice (some ⟨w1.heap.size, 0, none⟩) 0 n] 22 (0, 0)) ∧ Below w2.heap.size w2 w3 := ⟨_, rfl, heap_alloc_new _ _, ext_alloc (Below.refl _ _) _⟩
  rw [← hw3]
  clear hw3
  have HB2 := hidIt (Below.grown (Below.refl w1.heap.size w1) HG.out (Nat.le_refl _) (fun k e => by cases e))
  have HB3 := hidIt (ext_trans (ext_trans HB1.out HB2.out) hb3)
  have HO3 : Hid (OwnI w3 w.heap.size (.slice (some ⟨w1.heap.size, 0, none⟩) 0 n) []) := World.ownsRow.kept (row := none) HO.out ⟨hb3.os, hb3.tape, hb3.output, hb3.size, fun k hk _ => hb3.block k hk⟩ (by simp [Value.ownBlock])
  have HK3 := hidIt k3
  have BT := hidIt (between_any t f tz w3)
  have hz1' : w1.heap.size < w2.heap.size := by
    have := HO3.out.typ (k := w1.heap.size) (by simp [Value.ownBlock])
    have h2 := HO.out.2
    rcases h2 with ⟨e, _⟩ | ⟨g, cap, cur, e, _, hg, _⟩
    · cases e
    · simp only [Value.slice.injEq, Option.some.injEq, Addr.mk.injEq] at e
      rw [e.1.1]
      exact (Array.getElem?_eq_some_iff.1 hg).1
  have hz2' : w2.heap.size < w3.heap.size := (Array.getElem?_eq_some_iff.1 k3).1
  clear k3 hb3 HO HG
  go_upto_block 0 with (go_at_call 64; refine BT.out.mono ?_; rintro e w4 ⟨rfl, hw4⟩; have HW4 := hidIt hw4; clear hw4; (try dsimp only))
  have HB4 : Hid (Below w3.heap.size w3 w4) := by unfold Hid; rw [HW4.out]; exact ext_alloc (ext_alloc (ext_alloc (Below.refl _ _) _) _) _
  have hs4 : w4.heap.size = w3.heap.size + 3 := by rw [HW4.out]; simp
  have HK4 : Hid (w4.heap[w3.heap.size]? = some (.cells #[.pointer (some ⟨t, 0, none⟩)] 24 (0, 0)) ∧ w4.heap[w3.heap.size + 1]? = some (.cells #[.int .i64 f] 3 (0, 0)) ∧ w4.heap[w3.heap.size + 2]? = some (.cells #[.int .i64 tz] 3 (0, 0))) := by
    unfold Hid
    rw [HW4.out]
    refine ⟨?_, ?_, ?_⟩
    · exact (Below.heap_alloc _ _ _ (by simp; omega)).trans ((Below.heap_alloc _ _ _ (by simp)).trans (heap_alloc_new _ _))
    · have e : w3.heap.size + 1 = (w3.alloc (.cells #[.pointer (some ⟨t, 0, none⟩)] 24)).heap.size := by simp
      rw [e]
      exact (Below.heap_alloc _ _ _ (by simp)).trans (heap_alloc_new _ _)
    · have e : w3.heap.size + 2 = ((w3.alloc (.cells #[.pointer (some ⟨t, 0, none⟩)] 24)).alloc (.cells #[.int .i64 f] 3)).heap.size := by simp
      rw [e]
      exact heap_alloc_new _ _
  have HBw4 := hidIt (ext_trans HB3.out HB4.out)
  have zw := HS1.out
  have SQ := hidIt (between_stops 8 enc lim L t ps f tz hc1 hc2 w HT.out w4 HBw4.out w3.heap.size (w3.heap.size + 1) (w3.heap.size + 2) (by omega) (by omega) (by omega) HK4.out.1 HK4.out.2.1 HK4.out.2.2)
  clear BT HW4
  refine (wpIn_wide (n := 9)).1 ?_
  gi_wp2_with fail
  refine range_x (σ := Value) rfl (by omega) (gf := 99) (lb := #[.pointer (some ⟨w3.heap.size, 0, none⟩), .pointer (some ⟨w3.heap.size + 1, 0, none⟩), .pointer (some ⟨w3.heap.size + 2, 0, none⟩)]) rfl trivial (enters_of Tryz.func99 (by kernel_rfl) rfl) SQ.out (Kps.refl _ _) (fun _ => rfl)
    (atO w2.heap.size) (fun v pre W => AtI w2.heap.size w.heap.size v (pre.map Prod.fst) W ∧ w.heap.size ≤ W.heap.size) (fun _ _ _ _ => False) (.slice (some ⟨w1.heap.size, 0, none⟩) 0 n) ?rel (fun _ => False) (fun _ h => h.elim) (fun _ _ _ _ h hz hk => ⟨h.1.same (fun k ho => hk k (.inl ho)), Nat.le_trans h.2 hz⟩) (fun _ _ _ _ _ h _ _ => h) (fun _ _ _ h => h.1.lives) ?h0
    (fun q a' W => a' = { tmps := #[.pointer (some ⟨t, 0, none⟩), .int .i64 f, .int .i64 tz, undef, undef, undef, .slice none 0 0, .pointer (some ⟨w2.heap.size, 0, none⟩), .int .i64 q.1, .tuple #[.int .i64 f, .int .i64 tz], .pointer (some ⟨t, 0, none⟩), .int .i64 a, .int .i64 b, .tuple #[.int .i64 f, .int .i64 tz], .int .i64 f, .int .i64 tz, .int .i64 tz, .int .i64 f, .int .i64 n, .slice (some ⟨w1.heap.size, 0, none⟩) 0 n, .pointer (some ⟨t, 0, none⟩), .int .i64 f, .int .i64 tz, .func (.func 99) #[] #[.pointer (some ⟨w3.heap.size, 0, none⟩), .pointer (some ⟨w3.heap.size + 1, 0, none⟩), .pointer (some ⟨w3.heap.size + 2, 0, none⟩)], .int .i64 q.1, .int .i64 q.2, undef, undef, undef, undef, undef], defers := [] }) (fun _ _ _ _ h _ _ => h) ?assign ?body ?done ?stop
  case rel =>
    intro k hk
    have hng : atO w2.heap.size (.slice (some ⟨w1.heap.size, 0, none⟩) 0 n) k → k = w2.heap.size ∨ k = w1.heap.size := fun h => by
      rcases h with h | h
      · exact .inl h
      · simp [Value.ownBlock] at h; exact .inr h.symm
    rcases hk with hk | rfl | rfl | rfl
    · exact ⟨by omega, fun h => by have := hng h; omega⟩
    · exact ⟨by omega, fun h => by have := hng h; omega⟩
    · exact ⟨by omega, fun h => by have := hng h; omega⟩
    · exact ⟨by omega, fun h => by have := hng h; omega⟩
  case h0 =>
    refine ⟨⟨(HB4.out.block _ hz2').trans HK3.out, ?_⟩, HBw4.out.size⟩
    exact World.ownsRow.kept (row := none) HO3.out ⟨HB4.out.os, HB4.out.tape, HB4.out.output, HB4.out.size, fun k hk _ => HB4.out.block k hk⟩ (by simp [Value.ownBlock])
  case assign =>
    intro l q W K hz hK
    gi_wp2_with fail
    exact hK _ _ (Below.refl _ _) rfl
  case body =>
    rintro l v pre q a' W ⟨hI, hwW⟩ rfl hSp hzW
    obtain ⟨ao, capo, hvo⟩ := hI.own.form
    rw [List.length_map] at hvo
    subst hvo
    have HI := hidIt hI
    have cb : W.cell? ⟨w2.heap.size, 0, none⟩ = some (.slice ao pre.length capo) := by rw [cell_of_row W _ _ _ _ _ hI.bxx]; rfl
    have hbl := hI.lives _ (.inl rfl)
    have hpl : pre.length + 1 ≤ 1099511627776 := by
      have h1 := hSp.length_le
      rw [btw_len hc2] at h1
      simp at h1
      omega
    have HPL := hidIt (show (pre.map Prod.fst).length + 1 ≤ 1099511627776 by rw [List.length_map]; exact hpl)
    obtain ⟨z, hz⟩ : ∃ z, z = q.1 := ⟨_, rfl⟩
    have HZ := hidIt hz
    have NEW : Hid ((W.alloc (.cells #[.int .i64 z] 3)).cell? ⟨W.heap.size, 0, none⟩ = some (.int .i64 z)) := by unfold Hid; rw [cell_of_row _ _ _ _ _ _ (heap_alloc_new _ _)]; rfl
    have HOW : Hid (OwnI (W.alloc (.cells #[.int .i64 z] 3)) w.heap.size (.slice ao pre.length capo) (pre.map Prod.fst)) := World.ownsRow.kept (row := none) HI.out.own ⟨rfl, rfl, rfl, size_alloc_le _ _, fun k hk _ => Below.heap_alloc _ _ _ hk⟩ (by cases ao <;> simp [Value.ownBlock])
    have CGF : Hid (∀ w', (W.alloc (.cells #[.int .i64 z] 3)).grownBy w' (Value.ownBlock (.slice ao pre.length capo)) → w'.cell? ⟨w2.heap.size, 0, none⟩ = some (.slice ao pre.length capo) ∧ (∀ i, w'.frozen? ⟨w2.heap.size, i, none⟩ = false)) := fun w' hg => by
      have e : w'.heap[w2.heap.size]? = W.heap[w2.heap.size]? := (hg.block _ (by simp; omega) (fun e => absurd ((HI.out.own.typ e.symm).uniq ⟨_, HI.out.bxx⟩) (by decide))).trans (Below.heap_alloc _ _ _ hbl)
      exact ⟨by rw [cell_same e]; exact cb, fun i => by simp [World.frozen?, e, HI.out.bxx]⟩
    rw [← hz]
    clear hz hI hSp
    refine wpIn_block ?_
    gi_wp2_with (gi_at_builtin; refine wpListIn_plain rfl fun K hK => ?_; refine oper_in (fun c hc => by cases hc) (fun _ _ h => h) ?_; refine wp_append_int (.tmp 26) (.tmp 28) 22 rfl w.heap.size 3 rfl Tryz.info_i64 Tryz.underlying22 _ (pre.map Prod.fst) rfl HOW.out z W.heap.size rfl NEW.out HPL.out (by simp; omega) ?_; intro v' w9 hown' hg' hk'; obtain ⟨n', ao', cap', hv'⟩ : ∃ n' ao' cap', v' = .slice ao' n' cap' := (let ⟨a, b, c⟩ := hown'.form; ⟨_, a, b, c⟩); subst hv'; have PU := hidIt (HI.out.push (ext_alloc (Below.refl _ _) _) hown' hg' hk'); obtain ⟨cg9, cf9⟩ := CGF.out w9 hg'; refine hK _ _ ?_; clear hK hown' hg' hk' cb)
    refine ⟨_, ⟨?_, Nat.le_trans hwW PU.out.2.1.size⟩, PU.out.2.1, PU.out.2.2⟩
    rw [List.map_append, List.map_cons, List.map_nil, ← HZ.out]
    exact PU.out.1
  case done =>
    intro s xs W hk hnw hS ⟨hI, hwW⟩ hdf hno
    subst hS
    obtain ⟨ao, capo, hvo⟩ := hI.own.form
    rw [List.length_map] at hvo
    subst hvo
    have hob := hI.bxx
    have hoc : W.cell? ⟨w2.heap.size, 0, none⟩ = some (.slice ao (btw enc ps f tz).length capo) := by rw [cell_of_row W _ _ _ _ _ hob]; rfl
    gi_wp2
    go_wp2_with fail
    refine ⟨by simp, .inl ⟨_, _, rfl, run_takeDeferred hdf, ?_⟩⟩
    refine ⟨_, results_tmp rfl _ _ _, ?_⟩
    have zw4 := HBw4.out.size
    refine ⟨.slice ao (btw enc ps f tz).length capo, rfl, ?_, ?_⟩
    · refine World.ownsRow.kept hI.own (grownBy_putObj' _ _ _) (.inr (fun e => hno (.inr e)))
    · refine HBw4.out.trans (Kps.below (o := fun k => w.heap.size ≤ k) ?_ zw4 (fun k hk => hk))
      refine Kps.trans (hk.mono fun i _ hi => ?_) (Kps.put (o := fun k => w.heap.size ≤ k) _ zw4) (fun _ _ e => e)
      rcases hi with rfl | hi
      · omega
      · simp [Value.ownBlock] at hi; omega
  case stop => intro c s pre W _ _ _ h; exact h.elim

set_option maxRecDepth 100000 in
set_option maxHeartbeats 8000000 in
theorem Tags_any (enc lim : Int) (L : List Int) (w : World) (t : Nat) (ps : List PG) (a b : Int) (h : Tx enc lim L w t ps) : Calls Tryz.prog 58 #[.pointer (some ⟨t, 0, none⟩), .int .i64 a, .int .i64 b] w fun e w' => AtR ((btw enc ps (clp (sh enc ps).length a b).1 (clp (sh enc ps).length a b).2).map Prod.snd) w e w' := by
  obtain ⟨i0, hi, hz0, hz1, hz2⟩ := info_parts Tryz.info_i64
  have CL := hidIt (clip_any enc lim L w t ps a b h)
  obtain ⟨hc1, hc2⟩ := clp_le (sh enc ps).length a b
  have hs := h.sum.2.2
  generalize (clp (sh enc ps).length a b).1 = f at *
  generalize (clp (sh enc ps).length a b).2 = tz at *
  have HT := hidIt h
  clear h
  obtain ⟨n, hn⟩ : ∃ n, n = tz - f := ⟨_, rfl⟩
  have hwn : IntKind.i64.wrap ((tz : Int) - (f : Int)) = (n : Nat) := by rw [IntKind.wrap_i64]; omega
  have HN := hidIt hn
  have hnl : n ≤ 65536 := by omega
  clear hn
  refine (callsIn_wide (n := 9)).1 ?_
  refine callsIn_of_wp_marks Tryz.func58 rfl trivial ?_ rfl
  simp only [Tryz.ntmps58, List.size_toArray, List.length_cons, List.length_nil, Nat.reduceAdd, Nat.reduceSub, Array.replicate_succ, Array.replicate_zero, List.push_toArray, List.append_toArray, List.nil_append, List.cons_append]
  refine wpIn_mono (Q := calm _) ?_ (fun _ _ _ h => calm_imp h)
  refine wpIn_wide.2 ?_
  go_upto_region 3 with (first
    | (go_at_call 63; refine CL.out.mono ?_; rintro e w1 ⟨rfl, hb1⟩; have HB1 := hidIt hb1; have HS1 := hidIt hb1.size; clear hb1; (try dsimp only))
    | (refine wpList_make_own w1 rfl _ _ 22 rfl w.heap.size 3 i0 (.int .i64 0) 1 Tryz.underlying22 hi hz0 hz1 .i64 .i64 _ n rfl rfl rfl (by rw [hz2]; omega) (by unfold maxLen; omega) HS1.out ?_; intro w2 hO hg; have HO := hidIt hO; have HG := hidIt hg; clear hO hg))
  obtain ⟨w3, hw3, k3, hb3⟩ : ∃ w3, w3 = w2.alloc (.cells #[.slice (some ⟨w1.heap.size, 0, none⟩) 0 n] 22) ∧ w3.heap[w2.heap.size]? = some (.cells #[.slice (some ⟨w1.heap.size, 0, none⟩) 0 n] 22 (0, 0)) ∧ Below w2.heap.size w2 w3 := ⟨_, rfl, heap_alloc_new _ _, ext_alloc (Below.refl _ _) _⟩
  rw [← hw3]
  clear hw3
  have HB2 := hidIt (Below.grown (Below.refl w1.heap.size w1) HG.out (Nat.le_refl _) (fun k e => by cases e))
  have HB3 := hidIt (ext_trans (ext_trans HB1.out HB2.out) hb3)
  have HO3 : Hid (OwnI w3 w.heap.size (.slice (some ⟨w1.heap.size, 0, none⟩) 0 n) []) := World.ownsRow.kept (row := none) HO.out ⟨hb3.os, hb3.tape, hb3.output, hb3.size, fun k hk _ => hb3.block k hk⟩ (by simp [Value.ownBlock])
  have HK3 := hidIt k3
  have BT := hidIt (between_any t f tz w3)
  have hz1' : w1.heap.size < w2.heap.size := by
    have := HO3.out.typ (k := w1.heap.size) (by simp [Value.ownBlock])
    have h2 := HO.out.2
    rcases h2 with ⟨e, _⟩ | ⟨g, cap, cur, e, _, hg, _⟩
    · cases e
    · simp only [Value.slice.injEq, Option.some.injEq, Addr.mk.injEq] at e
      rw [e.1.1]
      exact (Array.getElem?_eq_some_iff.1 hg).1
  have hz2' : w2.heap.size < w3.heap.size := (Array.getElem?_eq_some_iff.1 k3).1
  clear k3 hb3 HO HG
  go_upto_block 0 with (go_at_call 64; refine BT.out.mono ?_; rintro e w4 ⟨rfl, hw4⟩; have HW4 := hidIt hw4; clear hw4; (try dsimp only))
  have HB4 : Hid (Below w3.heap.size w3 w4) := by unfold Hid; rw [HW4.out]; exact ext_alloc (ext_alloc (ext_alloc (Below.refl _ _) _) _) _
  have hs4 : w4.heap.size = w3.heap.size + 3 := by rw [HW4.out]; simp
  have HK4 : Hid (w4.heap[w3.heap.size]? = some (.cells #[.pointer (some ⟨t, 0, none⟩)] 24 (0, 0)) ∧ w4.heap[w3.heap.size + 1]? = some (.cells #[.int .i64 f] 3 (0, 0)) ∧ w4.heap[w3.heap.size + 2]? = some (.cells #[.int .i64 tz] 3 (0, 0))) := by
    unfold Hid
    rw [HW4.out]
    refine ⟨?_, ?_, ?_⟩
    · exact (Below.heap_alloc _ _ _ (by simp; omega)).trans ((Below.heap_alloc _ _ _ (by simp)).trans (heap_alloc_new _ _))
    · have e : w3.heap.size + 1 = (w3.alloc (.cells #[.pointer (some ⟨t, 0, none⟩)] 24)).heap.size := by simp
      rw [e]
      exact (Below.heap_alloc _ _ _ (by simp)).trans (heap_alloc_new _ _)
    · have e : w3.heap.size + 2 = ((w3.alloc (.cells #[.pointer (some ⟨t, 0, none⟩)] 24)).alloc (.cells #[.int .i64 f] 3)).heap.size := by simp
      rw [e]
      exact heap_alloc_new _ _
  have HBw4 := hidIt (ext_trans HB3.out HB4.out)
  have zw := HS1.out
  have SQ := hidIt (between_stops 8 enc lim L t ps f tz hc1 hc2 w HT.out w4 HBw4.out w3.heap.size (w3.heap.size + 1) (w3.heap.size + 2) (by omega) (by omega) (by omega) HK4.out.1 HK4.out.2.1 HK4.out.2.2)
  clear BT HW4
  refine (wpIn_wide (n := 9)).1 ?_
  gi_wp2_with fail
  refine range_x (σ := Value) rfl (by omega) (gf := 99) (lb := #[.pointer (some ⟨w3.heap.size, 0, none⟩), .pointer (some ⟨w3.heap.size + 1, 0, none⟩), .pointer (some ⟨w3.heap.size + 2, 0, none⟩)]) rfl trivial (enters_of Tryz.func99 (by kernel_rfl) rfl) SQ.out (Kps.refl _ _) (fun _ => rfl)
    (atO w2.heap.size) (fun v pre W => AtI w2.heap.size w.heap.size v (pre.map Prod.snd) W ∧ w.heap.size ≤ W.heap.size) (fun _ _ _ _ => False) (.slice (some ⟨w1.heap.size, 0, none⟩) 0 n) ?rel (fun _ => False) (fun _ h => h.elim) (fun _ _ _ _ h hz hk => ⟨h.1.same (fun k ho => hk k (.inl ho)), Nat.le_trans h.2 hz⟩) (fun _ _ _ _ _ h _ _ => h) (fun _ _ _ h => h.1.lives) ?h0
    (fun q a' W => a' = { tmps := #[.pointer (some ⟨t, 0, none⟩), .int .i64 f, .int .i64 tz, undef, undef, undef, .slice none 0 0, .pointer (some ⟨w2.heap.size, 0, none⟩), undef, .int .i64 q.2, .tuple #[.int .i64 f, .int .i64 tz], .pointer (some ⟨t, 0, none⟩), .int .i64 a, .int .i64 b, .tuple #[.int .i64 f, .int .i64 tz], .int .i64 f, .int .i64 tz, .int .i64 tz, .int .i64 f, .int .i64 n, .slice (some ⟨w1.heap.size, 0, none⟩) 0 n, .pointer (some ⟨t, 0, none⟩), .int .i64 f, .int .i64 tz, .func (.func 99) #[] #[.pointer (some ⟨w3.heap.size, 0, none⟩), .pointer (some ⟨w3.heap.size + 1, 0, none⟩), .pointer (some ⟨w3.heap.size + 2, 0, none⟩)], .int .i64 q.1, .int .i64 q.2, undef, undef, undef, undef, undef], defers := [] }) (fun _ _ _ _ h _ _ => h) ?assign ?body ?done ?stop
  case rel =>
    intro k hk
    have hng : atO w2.heap.size (.slice (some ⟨w1.heap.size, 0, none⟩) 0 n) k → k = w2.heap.size ∨ k = w1.heap.size := fun h => by
      rcases h with h | h
      · exact .inl h
      · simp [Value.ownBlock] at h; exact .inr h.symm
    rcases hk with hk | rfl | rfl | rfl
    · exact ⟨by omega, fun h => by have := hng h; omega⟩
    · exact ⟨by omega, fun h => by have := hng h; omega⟩
    · exact ⟨by omega, fun h => by have := hng h; omega⟩
    · exact ⟨by omega, fun h => by have := hng h; omega⟩
  case h0 =>
    refine ⟨⟨(HB4.out.block _ hz2').trans HK3.out, ?_⟩, HBw4.out.size⟩
    exact World.ownsRow.kept (row := none) HO3.out ⟨HB4.out.os, HB4.out.tape, HB4.out.output, HB4.out.size, fun k hk _ => HB4.out.block k hk⟩ (by simp [Value.ownBlock])
  case assign =>
    intro l q W K hz hK
    gi_wp2_with fail
    exact hK _ _ (Below.refl _ _) rfl
  case body =>
    rintro l v pre q a' W ⟨hI, hwW⟩ rfl hSp hzW
    obtain ⟨ao, capo, hvo⟩ := hI.own.form
    rw [List.length_map] at hvo
    subst hvo
    have HI := hidIt hI
    have cb : W.cell? ⟨w2.heap.size, 0, none⟩ = some (.slice ao pre.length capo) := by rw [cell_of_row W _ _ _ _ _ hI.bxx]; rfl
    have hbl := hI.lives _ (.inl rfl)
    have hpl : pre.length + 1 ≤ 1099511627776 := by
      have h1 := hSp.length_le
      rw [btw_len hc2] at h1
      simp at h1
      omega
    have HPL := hidIt (show (pre.map Prod.snd).length + 1 ≤ 1099511627776 by rw [List.length_map]; exact hpl)
    obtain ⟨z, hz⟩ : ∃ z, z = q.2 := ⟨_, rfl⟩
    have HZ := hidIt hz
    have NEW : Hid ((W.alloc (.cells #[.int .i64 z] 3)).cell? ⟨W.heap.size, 0, none⟩ = some (.int .i64 z)) := by unfold Hid; rw [cell_of_row _ _ _ _ _ _ (heap_alloc_new _ _)]; rfl
    have HOW : Hid (OwnI (W.alloc (.cells #[.int .i64 z] 3)) w.heap.size (.slice ao pre.length capo) (pre.map Prod.snd)) := World.ownsRow.kept (row := none) HI.out.own ⟨rfl, rfl, rfl, size_alloc_le _ _, fun k hk _ => Below.heap_alloc _ _ _ hk⟩ (by cases ao <;> simp [Value.ownBlock])
    have CGF : Hid (∀ w', (W.alloc (.cells #[.int .i64 z] 3)).grownBy w' (Value.ownBlock (.slice ao pre.length capo)) → w'.cell? ⟨w2.heap.size, 0, none⟩ = some (.slice ao pre.length capo) ∧ (∀ i, w'.frozen? ⟨w2.heap.size, i, none⟩ = false)) := fun w' hg => by
      have e : w'.heap[w2.heap.size]? = W.heap[w2.heap.size]? := (hg.block _ (by simp; omega) (fun e => absurd ((HI.out.own.typ e.symm).uniq ⟨_, HI.out.bxx⟩) (by decide))).trans (Below.heap_alloc _ _ _ hbl)
      exact ⟨by rw [cell_same e]; exact cb, fun i => by simp [World.frozen?, e, HI.out.bxx]⟩
    rw [← hz]
    clear hz hI hSp
    refine wpIn_block ?_
    gi_wp2_with (gi_at_builtin; refine wpListIn_plain rfl fun K hK => ?_; refine oper_in (fun c hc => by cases hc) (fun _ _ h => h) ?_; refine wp_append_int (.tmp 27) (.tmp 29) 22 rfl w.heap.size 3 rfl Tryz.info_i64 Tryz.underlying22 _ (pre.map Prod.snd) rfl HOW.out z W.heap.size rfl NEW.out HPL.out (by simp; omega) ?_; intro v' w9 hown' hg' hk'; obtain ⟨n', ao', cap', hv'⟩ : ∃ n' ao' cap', v' = .slice ao' n' cap' := (let ⟨a, b, c⟩ := hown'.form; ⟨_, a, b, c⟩); subst hv'; have PU := hidIt (HI.out.push (ext_alloc (Below.refl _ _) _) hown' hg' hk'); obtain ⟨cg9, cf9⟩ := CGF.out w9 hg'; refine hK _ _ ?_; clear hK hown' hg' hk' cb)
    refine ⟨_, ⟨?_, Nat.le_trans hwW PU.out.2.1.size⟩, PU.out.2.1, PU.out.2.2⟩
    rw [List.map_append, List.map_cons, List.map_nil, ← HZ.out]
    exact PU.out.1
  case done =>
    intro s xs W hk hnw hS ⟨hI, hwW⟩ hdf hno
    subst hS
    obtain ⟨ao, capo, hvo⟩ := hI.own.form
    rw [List.length_map] at hvo
    subst hvo
    have hob := hI.bxx
    have hoc : W.cell? ⟨w2.heap.size, 0, none⟩ = some (.slice ao (btw enc ps f tz).length capo) := by rw [cell_of_row W _ _ _ _ _ hob]; rfl
    gi_wp2
    go_wp2_with fail
    refine ⟨by simp, .inl ⟨_, _, rfl, run_takeDeferred hdf, ?_⟩⟩
    refine ⟨_, results_tmp rfl _ _ _, ?_⟩
    have zw4 := HBw4.out.size
    refine ⟨.slice ao (btw enc ps f tz).length capo, rfl, ?_, ?_⟩
    · refine World.ownsRow.kept hI.own (grownBy_putObj' _ _ _) (.inr (fun e => hno (.inr e)))
    · refine HBw4.out.trans (Kps.below (o := fun k => w.heap.size ≤ k) ?_ zw4 (fun k hk => hk))
      refine Kps.trans (hk.mono fun i _ hi => ?_) (Kps.put (o := fun k => w.heap.size ≤ k) _ zw4) (fun _ _ e => e)
      rcases hi with rfl | hi
      · omega
      · simp [Value.ownBlock] at hi; omega
  case stop => intro c s pre W _ _ _ h; exact h.elim
end Go.Proofs.YtcfjfjfghejjiaaGreat.P

/- What the laws of stage 5 look at: sameInts, sameBytes, see, opened. -/
namespace Go.Proofs.YtcfjfjfghejjiaaGreat.P
open Go.RowKit

set_option maxRecDepth 100000 in
/-- Two lists that read alike. -/
theorem sameInts_any (v1 v2 : Value) (zs : List Int) (w : World) (h1 : Rd .i64 w v1 zs) (h2 : Rd .i64 w v2 zs) :
    Calls Tryz.prog 22 #[v1, v2] w fun e w' => e = .returned (.bool true) ∧ Below w.heap.size w w' := by
  have hlen := h1.len
  obtain ⟨ao, cap, rfl, hl1, hc1, h1⟩ := h1
  obtain ⟨ao2, cap2, rfl, hl2, hc2, h2⟩ := h2
  by_cases hn : zs = []
  · subst hn
    clear h1 h2
    simp only [List.length_nil]
    go_enter Tryz.func22, Tryz.ntmps22
    go_wp2
    refine wp_loop_rounds 1 ?_
    rw [rounds_succ]
    go_wp2
    go_ret
    exact ⟨rfl, Below.refl _ _⟩
  · obtain ⟨b, off, rfl, hb, hcl⟩ := h1 hn
    obtain ⟨b2, off2, rfl, hb2, hcl2⟩ := h2 hn
    have hq : ((zs.length : Int) != (zs.length : Int)) = false := by simp
    clear h1 h2 hn
    go_enter Tryz.func22, Tryz.ntmps22
    go_wp2
    go_loopw [5] (fun i wr => ∃ k : Nat, k ≤ zs.length ∧ i = .int .i64 k ∧ Below w.heap.size w wr) (fun i _ => zs.length - (intOf i).toNat)
    case atStart => exact ⟨0, Nat.zero_le _, rfl, Below.refl _ _⟩
    case round =>
      obtain ⟨k, hk, rfl, hbw⟩ := hrel
      by_cases hlt : k < zs.length
      · have c1 : wr.cell? ⟨b, off + k, none⟩ = some (.int .i64 (zs[k]?.getD 0)) := (hbw.cell (p := ⟨b, off + k, none⟩) hb).trans (hcl _ hlt)
        have c2 : wr.cell? ⟨b2, off2 + k, none⟩ = some (.int .i64 (zs[k]?.getD 0)) := (hbw.cell (p := ⟨b2, off2 + k, none⟩) hb2).trans (hcl2 _ hlt)
        have hi1 : (k : Int) < (zs.length : Int) := by omega
        generalize zs[k]?.getD 0 = x at *
        clear hcl hcl2
        go_wp2
        go_quiet (fail)
        go_wp2
        go_roundw
        case rel => exact ⟨k + 1, by omega, by go_num, below_drewN hbw _⟩
        case measure => simp [intOf]; omega
      · clear hcl hcl2
        go_wp2
        go_ret
        exact ⟨rfl, hbw⟩



set_option maxRecDepth 100000 in
theorem sameBytes_eq (v1 v2 : Value) (zs : List Int) (w : World) (h1 : Rd .u8 w v1 zs) (h2 : Rd .u8 w v2 zs) :
    Calls Tryz.prog 23 #[v1, v2] w fun e w' => e = .returned (.bool true) ∧ Below w.heap.size w w' := by
  have hlen := h1.len
  obtain ⟨ao, cap, rfl, hl1, hc1, h1⟩ := h1
  obtain ⟨ao2, cap2, rfl, hl2, hc2, h2⟩ := h2
  by_cases hn : zs = []
  · subst hn
    clear h1 h2
    simp only [List.length_nil]
    go_enter Tryz.func23, Tryz.ntmps23
    go_wp2
    refine wp_loop_rounds 1 ?_
    rw [rounds_succ]
    go_wp2
    go_ret
    exact ⟨rfl, Below.refl _ _⟩
  · obtain ⟨b, off, rfl, hb, hcl⟩ := h1 hn
    obtain ⟨b2, off2, rfl, hb2, hcl2⟩ := h2 hn
    have hq : ((zs.length : Int) != (zs.length : Int)) = false := by simp
    clear h1 h2 hn
    go_enter Tryz.func23, Tryz.ntmps23
    go_wp2
    go_loopw [5] (fun i wr => ∃ k : Nat, k ≤ zs.length ∧ i = .int .i64 k ∧ Below w.heap.size w wr) (fun i _ => zs.length - (intOf i).toNat)
    case atStart => exact ⟨0, Nat.zero_le _, rfl, Below.refl _ _⟩
    case round =>
      obtain ⟨k, hk, rfl, hbw⟩ := hrel
      by_cases hlt : k < zs.length
      · have c1 : wr.cell? ⟨b, off + k, none⟩ = some (.int .u8 (zs[k]?.getD 0)) := (hbw.cell (p := ⟨b, off + k, none⟩) hb).trans (hcl _ hlt)
        have c2 : wr.cell? ⟨b2, off2 + k, none⟩ = some (.int .u8 (zs[k]?.getD 0)) := (hbw.cell (p := ⟨b2, off2 + k, none⟩) hb2).trans (hcl2 _ hlt)
        have hi1 : (k : Int) < (zs.length : Int) := by omega
        generalize zs[k]?.getD 0 = x at *
        clear hcl hcl2
        go_wp2
        go_quiet (fail)
        go_wp2
        go_roundw
        case rel => exact ⟨k + 1, by omega, by go_num, below_drewN hbw _⟩
        case measure => simp [intOf]; omega
      · clear hcl hcl2
        go_wp2
        go_ret
        exact ⟨rfl, hbw⟩



/-- What see answers of a text: its atoms, tags, bytes, in new blocks. -/
def SeR (enc : Int) (ps : List PG) (w : World) (e : Ending) (w' : World) : Prop := ∃ va vt vb, e = .returned (.agg #[va, vt, vb]) ∧ (OwnI w' w.heap.size va (asOf ps) ∧ OwnI w' w.heap.size vt ((sh enc ps).map Prod.snd) ∧ Rd .u8 w' vb (Cx.encB enc (asOf ps))) ∧ Below w.heap.size w w'

theorem clp_all (n : Nat) : clp n 0 n = (0, n) := by
  unfold clp
  split
  · have : n = 0 := by omega
    subst this; rfl
  · simp
theorem btw_all (enc : Int) (ps : List PG) : btw enc ps 0 (sh enc ps).length = sh enc ps := by unfold btw; rw [List.drop_zero, Nat.sub_zero, List.take_length]
theorem OwnI.ext {w w' : World} {base : Nat} {v : Value} {zs : List Int} (h : OwnI w base v zs) (hb : Below w.heap.size w w') : OwnI w' base v zs := World.ownsRow.kept (row := none) h ⟨hb.os, hb.tape, hb.output, hb.size, fun k hk _ => hb.block k hk⟩ (by cases v.ownBlock <;> simp)
theorem OwnI.kps {w w' : World} {base g : Nat} {v : Value} {zs : List Int} (h : OwnI w base v zs) (hk : Kps (fun k => k = g) w w') (hg : g < base) : OwnI w' base v zs := by
  obtain ⟨h1, h2⟩ := h
  refine ⟨h1, ?_⟩
  rcases h2 with h2 | ⟨k, cap, cur, hv, hb, hgg, r⟩
  · exact .inl h2
  · exact .inr ⟨k, cap, cur, hv, hb, (hk.same k (Array.getElem?_eq_some_iff.1 hgg).1 (fun e => by omega)).trans hgg, r⟩
theorem put3 {T : TypeId} {w : World} {g : Nat} {a0 a1 a2 : Value} (h : w.heap[g]? = some (.cells #[a0, a1, a2] T (0, 0))) (x0 x1 x2 : Value) :
    (((w.setCell ⟨g, 0, none⟩ x0).setCell ⟨g, 1, none⟩ x1).setCell ⟨g, 2, none⟩ x2).heap[g]? = some (.cells #[x0, x1, x2] T (0, 0)) ∧ Kps (fun k => k = g) w (((w.setCell ⟨g, 0, none⟩ x0).setCell ⟨g, 1, none⟩ x1).setCell ⟨g, 2, none⟩ x2) := by
  obtain ⟨p0, q0⟩ := set1 h 0 x0
  obtain ⟨p1, q1⟩ := set1 p0 1 x1
  obtain ⟨p2, q2⟩ := set1 p1 2 x2
  have k : ∀ {A B : World}, A.grownBy B (some g) → Kps (fun k => k = g) A B := fun h => Kps.grown h fun j e _ => (Option.some.inj e).symm
  exact ⟨p2, ((k q0).trans (k q1) fun _ _ e => e).trans (k q2) fun _ _ e => e⟩
theorem OwnI.mono {w : World} {base base' : Nat} {v : Value} {zs : List Int} (h : OwnI w base v zs) (hb : base' ≤ base) : OwnI w base' v zs := by
  obtain ⟨h1, h2⟩ := h
  refine ⟨h1, ?_⟩
  rcases h2 with h2 | ⟨g, cap, cur, hv, hg, r⟩
  · exact .inl h2
  · exact .inr ⟨g, cap, cur, hv, by omega, r⟩

set_option maxRecDepth 100000 in
set_option maxHeartbeats 4000000 in
theorem see_any (enc lim : Int) (L : List Int) (w : World) (t : Nat) (ps : List PG) (h : Tx enc lim L w t ps) : Calls Tryz.prog 21 #[.pointer (some ⟨t, 0, none⟩)] w fun e w' => SeR enc ps w e w' := by
  have LN : Hid (∀ w', Below w.heap.size w w' → Calls Tryz.prog 34 #[.pointer (some ⟨t, 0, none⟩)] w' fun e w'' => e = .returned (.int .i64 (sh enc ps).length) ∧ Below w'.heap.size w' w'') := fun w' hb => Len_any enc lim L w' t ps (h.ext hb)
  have AT : Hid (∀ w', Below w.heap.size w w' → Calls Tryz.prog 33 #[.pointer (some ⟨t, 0, none⟩), .int .i64 0, .int .i64 (sh enc ps).length] w' fun e w'' => AtR (asOf ps) w' e w'') := fun w' hb => by
    have := Atoms_any enc lim L w' t ps 0 (sh enc ps).length (h.ext hb)
    rwa [clp_all, btw_all, sh_fst] at this
  have TG : Hid (∀ w', Below w.heap.size w w' → Calls Tryz.prog 58 #[.pointer (some ⟨t, 0, none⟩), .int .i64 0, .int .i64 (sh enc ps).length] w' fun e w'' => AtR ((sh enc ps).map Prod.snd) w' e w'') := fun w' hb => by
    have := Tags_any enc lim L w' t ps 0 (sh enc ps).length (h.ext hb)
    rwa [clp_all, btw_all] at this
  have BY : Hid (∀ w', Below w.heap.size w w' → Calls Tryz.prog 31 #[.pointer (some ⟨t, 0, none⟩)] w' fun e w'' => ByR (Cx.encB enc (asOf ps)) w' e w'') := fun w' hb => Bytes_any enc lim L w' t ps (h.ext hb)
  have hbz : (Cx.encB enc (asOf ps)).length ≤ 65536 := h.sz
  generalize (sh enc ps).length = ll at *
  clear h
  obtain ⟨w0, hw0, k2, hb0⟩ : ∃ w0, w0 = w.alloc (.cells #[.slice none 0 0, .slice none 0 0, .slice none 0 0] 36) ∧ w0.heap[w.heap.size]? = some (.cells #[.slice none 0 0, .slice none 0 0, .slice none 0 0] 36 (0, 0)) ∧ Below w.heap.size w w0 := ⟨_, rfl, heap_alloc_new _ _, ext_alloc (Below.refl _ _) _⟩
  have HK2 := hidIt k2
  have HB0 := hidIt hb0
  have hlt : w.heap.size < w0.heap.size := (Array.getElem?_eq_some_iff.1 k2).1
  clear k2 hb0
  go_enter Tryz.func21, Tryz.ntmps21
  go_upto_region 1 with fail
  rw [← hw0]
  clear hw0
  go_upto_region 2 with (go_at_call 34; refine (LN.out w0 HB0.out).mono ?_; rintro e w1 ⟨rfl, hb1⟩; have HB1 := hidIt hb1; clear hb1; (try dsimp only))
  have HA1 := hidIt (AT.out w1 (ext_trans HB0.out HB1.out))
  go_wp2_with (first
    | (go_at_call 33; refine HA1.out.mono ?_; rintro e w2 ⟨va, rfl, ha, hb2⟩; obtain ⟨aa, ca, hva⟩ := ha.form; subst hva; have HVA := hidIt ha; have HB2 := hidIt (ext_trans HB1.out hb2); have HZ1 := hidIt (Nat.lt_of_lt_of_le hlt HB1.out.size); have HZ2 := hidIt (Nat.lt_of_lt_of_le hlt (ext_trans HB1.out hb2).size); have HT2 := hidIt (TG.out w2 (ext_trans HB0.out (ext_trans HB1.out hb2))); clear ha hb2; (try dsimp only))
    | (go_at_call 58; refine HT2.out.mono ?_; rintro e w3 ⟨vt, rfl, ht, hb3⟩; obtain ⟨at', ct, hvt⟩ := ht.form; rw [List.length_map] at hvt; subst hvt; have HVT := hidIt ht; have HVA3 := hidIt (HVA.out.ext hb3); have HB3 := hidIt (ext_trans HB2.out hb3); have HY3 := hidIt (BY.out w3 (ext_trans HB0.out (ext_trans HB2.out hb3))); clear ht hb3; (try dsimp only))
    | (go_at_call 31; refine HY3.out.mono ?_; rintro e w4 ⟨b, rfl, hr, hbb, hb4⟩; have HBB := hidIt (Nat.lt_of_lt_of_le hlt (Nat.le_trans HB3.out.size hbb)); have HVA4 := hidIt (HVA3.out.ext hb4); have HVT4 := hidIt (HVT.out.ext hb4); have HR4 := hidIt hr; have HB4 := hidIt (ext_trans HB3.out hb4); have hbl := (hb4.block _ (Nat.lt_of_lt_of_le hlt HB3.out.size) |>.trans ((HB3.out.block _ hlt).trans HK2.out)); have HBL := hidIt hbl; have c2 : w4.cell? ⟨w.heap.size, 0, none⟩ = some (.slice none 0 0) ∧ w4.cell? ⟨w.heap.size, 1, none⟩ = some (.slice none 0 0) ∧ w4.cell? ⟨w.heap.size, 2, none⟩ = some (.slice none 0 0) := (by refine ⟨?_, ?_, ?_⟩ <;> (rw [cell_of_row w4 _ _ _ _ _ hbl]; rfl)); have f2 : ∀ i, w4.frozen? ⟨w.heap.size, i, none⟩ = false := (fun i => by simp [World.frozen?, hbl]); clear hr hbb hb4 hbl; (try dsimp only)))
  obtain ⟨p1, p2⟩ := put3 HBL.out (.slice aa (asOf ps).length ca) (.slice at' (sh enc ps).length ct) (.slice (some ⟨b, 0, none⟩) (Cx.encB enc (asOf ps)).length (Cx.encB enc (asOf ps)).length)
  generalize hwz : World.setCell (World.setCell (World.setCell w4 _ _) _ _) _ _ = z at *
  have r0 : z.cell? ⟨w.heap.size, 0, none⟩ = some (.slice aa (asOf ps).length ca) ∧ z.cell? ⟨w.heap.size, 1, none⟩ = some (.slice at' (sh enc ps).length ct) ∧ z.cell? ⟨w.heap.size, 2, none⟩ = some (.slice (some ⟨b, 0, none⟩) (Cx.encB enc (asOf ps)).length (Cx.encB enc (asOf ps)).length) := by refine ⟨?_, ?_, ?_⟩ <;> (rw [cell_of_row z _ _ _ _ _ p1]; rfl)
  have F : Hid (SeR enc ps w (.returned (.agg #[.slice aa (asOf ps).length ca, .slice at' (sh enc ps).length ct, .slice (some ⟨b, 0, none⟩) (Cx.encB enc (asOf ps)).length (Cx.encB enc (asOf ps)).length])) z) := by
    refine ⟨_, _, _, rfl, ⟨(HVA4.out.kps p2 HZ1.out).mono (Nat.le_of_lt HZ1.out), (HVT4.out.kps p2 HZ2.out).mono (Nat.le_of_lt HZ2.out), ?_⟩, ?_⟩
    · exact (HR4.out.same (p2.same b HR4.out.lt (fun e => by have := HBB.out; omega))).rd _ (Nat.le_refl _) (by omega)
    · have h4 := ext_trans HB0.out HB4.out
      exact h4.trans (p2.below h4.size (fun k hk => Nat.le_of_eq hk.symm))
  exact bodyPost_ret (v := .agg #[.slice aa (asOf ps).length ca, .slice at' (sh enc ps).length ct, .slice (some ⟨b, 0, none⟩) (Cx.encB enc (asOf ps)).length (Cx.encB enc (asOf ps)).length]) (by simp [results, Tryz.results21, go_sem, r0]) rfl F.out
end Go.Proofs.YtcfjfjfghejjiaaGreat.P

/- opened, of nothing. -/
namespace Go.Proofs.YtcfjfjfghejjiaaGreat.P
open Go.RowKit

set_option maxRecDepth 100000 in
set_option maxHeartbeats 2000000 in
theorem opened_nil (enc : Int) (he : Cx.known enc = true) (w : World) : Calls Tryz.prog 17 #[.int .i64 enc, .slice none 0 0] w fun e w' => ∃ (t : Nat) (ps : List PG), e = .returned (.pointer (some ⟨t, 0, none⟩)) ∧ Hid (Tx enc 65536 [] w' t ps ∧ sh enc ps = [] ∧ w.heap.size ≤ t) ∧ Below w.heap.size w w' := by
  obtain ⟨i0, hi, hz0, hz1, hz2⟩ := info_parts Tryz.info_u8
  have hrd : Rd .u8 w (.slice none 0 0) [] := ⟨none, 0, rfl, by simp, by decide, fun h => absurd rfl h⟩
  have OP := hidIt (Open_good enc 65536 (.slice none 0 0) [] w hrd (fun z hz => by cases hz) (by unfold opE; rw [if_pos he]; rfl))
  have hnil : w.ownsRow 0 5 1 (.slice none 0 0) 0 [] := World.ownsRow_nil _ _ _ _
  go_enter Tryz.func17, Tryz.ntmps17
  go_wp2_with (first
    | (at_builtin; refine wpList_append_own_none rfl _ _ 32 rfl 0 5 i0 1 Tryz.underlying32 hi (.slice none 0 0) 0 [] rfl hnil rfl ?_)
    | (go_at_call 37; refine OP.out.mono ?_; rintro e w1 ⟨t, ps, rfl, hop, hb1⟩; have HOP := hidIt hop; have HB1 := hidIt hb1; clear hop hb1; (try dsimp only)))
  go_ret
  refine ⟨t, ps, rfl, ⟨HOP.out.1, ?_, HOP.out.2.2⟩, HB1.out⟩
  rw [HOP.out.2.1]
  rfl
end Go.Proofs.YtcfjfjfghejjiaaGreat.P

/- PieceMelts. -/
namespace Go.Proofs.YtcfjfjfghejjiaaGreat.P
open Go.RowKit

/-- Atoms that were put, each new. -/
def nw (l : List Int) : List (Int × Int) := l.map fun a => (a, -1)
theorem nw_len (l : List Int) : (nw l).length = l.length := by simp [nw]
theorem nw_fst (l : List Int) : (nw l).map Prod.fst = l := by simp [nw, List.map_map, Function.comp_def]
/-- The list with an atom put at a place. -/
def ins (l : List Int) (q : Nat) (x : Int) : List Int := l.take q ++ (x :: l.drop q)
theorem ins_len (l : List Int) (q : Nat) (x : Int) (h : q ≤ l.length) : (ins l q x).length = l.length + 1 := by simp [ins]; omega
theorem ml_ap (l : List Int) (q : Nat) (x : Int) : apE (nw l) 0 [((q : Int), (q : Int), [x])] = nw (ins l q x) := by
  simp [apE, nw, ins, List.map_take, List.map_drop]
theorem ml_ch (enc : Int) (l : List Int) (q : Nat) (x : Int) (hq : q ≤ l.length) (hl : l.length ≤ 8000) (hx : Cx.fits enc x = true) : chA enc 65536 (nw l) [((q : Int), (q : Int), [x])] = 0 ∧ chT enc 65536 (nw l) [((q : Int), (q : Int), [x])] = nw (ins l q x) := by
  have hp : puts [((q : Int), (q : Int), [x])] = [x] := by simp [puts]
  have hck : ckA enc 65536 (nw l).length [((q : Int), (q : Int), [x])] = 0 := by
    unfold ckA
    rw [if_neg (by simp), if_pos (by rw [rg_cons]; exact ⟨⟨Int.natCast_nonneg _, Int.le_refl _, by rw [nw_len]; show (q : Int) ≤ _; omega⟩, rfl⟩)]
    unfold cpA
    rw [hp, if_pos (by intro a ha; simp at ha; subst ha; exact hx), if_neg (by have := ln_le enc [x]; simp at this; omega)]
  have hA : chA enc 65536 (nw l) [((q : Int), (q : Int), [x])] = 0 := by
    unfold chA
    rw [if_pos hck, ml_ap, nw_fst, if_neg (by have := ln_le enc (ins l q x); rw [ins_len l q x hq] at this; omega)]
  exact ⟨hA, by unfold chT; rw [if_pos hA, ml_ap]⟩
structure MlI (enc : Int) (t : Nat) (w : World) (lv : Value) (l : List Int) (wr : World) : Prop where
  tx : ∃ ps, Tx enc 65536 [] wr t ps ∧ sh enc ps = nw l
  own : OwnI wr w.heap.size lv l
  nil : l = [] → lv = .slice none 0 0
  fit : ∀ a ∈ l, Cx.fits enc a = true
  bel : Below w.heap.size w wr
  tl : w.heap.size ≤ t

theorem MlI.ext {enc : Int} {t : Nat} {w : World} {lv : Value} {l : List Int} {wr w' : World} (h : MlI enc t w lv l wr) (hb : Below wr.heap.size wr w') : MlI enc t w lv l w' := by
  obtain ⟨ps, h1, h2⟩ := h.tx
  exact ⟨⟨ps, h1.ext hb, h2⟩, h.own.ext hb, h.nil, h.fit, ext_trans h.bel hb, h.tl⟩
/-- Behind a Change of the text: the list's own row is another block. -/
theorem OwnI.kpt {w w' : World} {base t : Nat} {v : Value} {zs : List Int} (h : OwnI w base v zs) (hk : Kps (fun k => k = t) w w') (ht : Typ 116 w t) : OwnI w' base v zs := by
  obtain ⟨h1, h2⟩ := id h
  refine ⟨h1, ?_⟩
  rcases h2 with h2 | ⟨k, cap, cur, hv, hb, hgg, r⟩
  · exact .inl h2
  · refine .inr ⟨k, cap, cur, hv, hb, (hk.same k (Array.getElem?_eq_some_iff.1 hgg).1 (fun e => ?_)).trans hgg, r⟩
    subst e
    exact absurd (Typ.uniq (T := 3) ⟨_, hgg⟩ ht) (by decide)
theorem Tx.typ {enc lim : Int} {L : List Int} {w : World} {t : Nat} {ps : List PG} (h : Tx enc lim L w t ps) : Typ 116 w t := by
  obtain ⟨_, _, h1, _⟩ := h.ex
  exact ⟨_, h1⟩

section
variable {P : Program} {W : World} {ops : Array Oper} {rest : List Oper} {o : Oper} {a : Act} {Q : Exit → Act → World → Prop}
/-- append(v, s...), of ints. -/
theorem wpl_ints (hgd : o.guard = none) (s x : Operand) (t : TypeId) (ho : o.op = .call { callee := .builtin .append, args := #[s, x], argTypes := #[t, t] })
    (base : Nat) (hinf : (P.info? 3).map (fun i => (i.zero, i.size, i.bytes)) = some (some (.int .i64 0), 1, 8)) (ht : P.underlying t = some (.slice 3))
    (v : Value) (zs : List Int) (hs : a.eval s = v) (hown : OwnI W base v zs) (ys : List Int) (ao : Option Addr) (m c : Nat) (hx : a.eval x = .slice ao m c) (hm : m = ys.length)
    (hys : (ao = none ∧ c = 0 ∧ ys = []) ∨ ∃ ad, ao = some ad ∧ ∀ j u, (ys.map (Value.int .i64))[j]? = some u → W.cell? (ad.add j) = some u) (hl : zs.length + ys.length ≤ 1099511627776) (hbase : base ≤ W.heap.size)
    (h : ∀ v' w', OwnI w' base v' (zs ++ ys) → Below base W w' → wpList P ops Q rest (a.put o.dst v') w') : wpList P ops Q (o :: rest) a W := by
  obtain ⟨i0, hi, hz0, hz1, hz2⟩ := info_parts hinf
  subst hm
  rcases hys with ⟨rfl, rfl, rfl⟩ | ⟨ad, rfl, hc⟩
  · refine wpList_append_own_none hgd s x t ho base 3 i0 1 ht hi v zs.length (zs.map (Value.int .i64)) hs hown hx ?_
    exact h v W (by rw [List.append_nil]; exact hown) (Below.refl _ _)
  · refine wpList_append_own W hgd s x t ho base 3 i0 (.int .i64 0) 1 8 ht hi hz0 hz1 hz2 rfl (by decide) v zs.length (zs.map (Value.int .i64)) hs hown ad ys.length c (ys.map (Value.int .i64)) hx (by simp) hc (fun u hu => by rw [List.mem_map] at hu; obtain ⟨_, _, rfl⟩ := hu; rfl) (by unfold maxLen; omega) (by omega) hbase ?_
    intro v' w' h1 h2 _
    refine h v' w' ?_ ((Below.refl _ _).grown h2 hbase (fun k hk => (World.ownsRow.lt hown k hk).1))
    unfold OwnI
    rw [List.length_append, List.map_append]
    exact h1
end
theorem Addr.add_zero_add (g q j : Nat) : ((⟨g, 0, none⟩ : Addr).add (q + j)) = (⟨g, q, none⟩ : Addr).add j := by
  unfold Addr.add
  split <;> split <;> simp <;> omega
theorem OwnI.row {w : World} {base : Nat} {v : Value} {zs : List Int} (h : OwnI w base v zs) (hn : zs ≠ []) : ∃ g cap, v = .slice (some ⟨g, 0, none⟩) zs.length cap ∧ g < w.heap.size ∧ zs.length ≤ cap ∧ cap ≤ 9223372036854775807 ∧ ∀ j u, (zs.map (Value.int .i64))[j]? = some u → w.cell? ((⟨g, 0, none⟩ : Addr).add j) = some u := by
  rcases h.2 with ⟨_, h2⟩ | ⟨g, cap, cur, hv, hb, hg, h3, h4, h5, h6⟩
  · exact absurd (List.length_eq_zero_iff.1 h2) hn
  · exact ⟨g, cap, hv, (Array.getElem?_eq_some_iff.1 hg).1, h3, by unfold maxLen at h4; exact h4, World.ownsRow.cells h (by rw [hv]; simp [Value.ownBlock])⟩

set_option maxRecDepth 100000 in
set_option maxHeartbeats 2000000 in
theorem Fits_any (enc a : Int) (w : World) : Calls Tryz.prog 18 #[.int .i64 enc, .int .i64 a] w fun e w' => e = .returned (.bool (Cx.fits enc a)) ∧ Below w.heap.size w w' := by
  have SZ := hidIt (Go.Proofs.YtcfjfjfghejjiaaGreat.Size_any enc a w)
  cases hf : Cx.fits enc a with
  | true =>
    have hs : 0 < Cx.size enc a := by rw [size_fit enc a hf]; have := (Cx.put_len enc a).1; omega
    go_enter Tryz.func18, Tryz.ntmps18
    go_wp2_with (go_at_call 53; refine SZ.out.mono ?_; rintro e w1 ⟨rfl, hb1⟩; have HB1 := hidIt hb1; clear hb1; (try dsimp only))
    go_ret
    exact ⟨rfl, HB1.out⟩
  | false =>
    have hs : ¬ 0 < Cx.size enc a := by unfold Cx.size; rw [hf]; simp
    go_enter Tryz.func18, Tryz.ntmps18
    go_wp2_with (go_at_call 53; refine SZ.out.mono ?_; rintro e w1 ⟨rfl, hb1⟩; have HB1 := hidIt hb1; clear hb1; (try dsimp only))
    go_ret
    exact ⟨rfl, HB1.out⟩

set_option maxRecDepth 100000 in
set_option maxHeartbeats 8000000 in
theorem melts_any (enc : Int) (va vp : Value) (az pz : List Int) (w : World) (hA : Rd .i64 w va az) (hP : Rd .i64 w vp pz) : Calls Tryz.prog 3 #[.int .i64 enc, va, vp] w fun e w' => e = .returned (.bool true) ∧ Below w.heap.size w w' := by
  have AB : Hid (∀ w', Calls Tryz.prog 16 #[] w' fun e w'' => e = .returned (.bool true) ∧ Below w'.heap.size w' w'') := fun w' => able_any w'
  obtain ⟨aa, ca, rfl, ha1, ha2, ha3⟩ := id hA
  obtain ⟨ap, cp, rfl, hp1, hp2, hp3⟩ := id hP
  have HA := hidIt hA
  have HP := hidIt hP
  clear ha3 hp3
  have ha9 : az.length ≤ 9223372036854775807 := hA.len
  have hp9 : pz.length ≤ 9223372036854775807 := hP.len
  clear hA hP
  by_cases hbad : enc < 1 ∨ 4 < enc ∨ 8000 < az.length
  · by_cases h1 : enc < 1
    · go_enter Tryz.func3, Tryz.ntmps3
      go_wp2_with (go_at_call 16; refine (AB.out w).mono ?_; rintro e w1 ⟨rfl, hb1⟩; have HB1 := hidIt hb1; clear hb1; (try dsimp only))
      go_ret
      exact ⟨rfl, HB1.out⟩
    by_cases h2 : 4 < enc
    · go_enter Tryz.func3, Tryz.ntmps3
      go_wp2_with (go_at_call 16; refine (AB.out w).mono ?_; rintro e w1 ⟨rfl, hb1⟩; have HB1 := hidIt hb1; clear hb1; (try dsimp only))
      go_ret
      exact ⟨rfl, HB1.out⟩
    have h3 : (8000 : Int) < (az.length : Int) := by omega
    clear hbad
    go_enter Tryz.func3, Tryz.ntmps3
    go_wp2_with (go_at_call 16; refine (AB.out w).mono ?_; rintro e w1 ⟨rfl, hb1⟩; have HB1 := hidIt hb1; clear hb1; (try dsimp only))
    go_ret
    exact ⟨rfl, HB1.out⟩
  have h1 : ¬ enc < 1 := by omega
  have h2 : ¬ 4 < enc := by omega
  have h3 : ¬ (8000 : Int) < (az.length : Int) := by omega
  have hal : az.length ≤ 8000 := by omega
  have HEN : Hid (Cx.En enc) := by unfold Hid Cx.En; omega
  have hkn : Cx.known enc = true := by rcases HEN.out with rfl | rfl | rfl | rfl <;> rfl
  have OP : Hid (∀ w', Calls Tryz.prog 17 #[.int .i64 enc, .slice none 0 0] w' fun e w'' => ∃ (t : Nat) (ps : List PG), e = .returned (.pointer (some ⟨t, 0, none⟩)) ∧ Hid (Tx enc 65536 [] w'' t ps ∧ sh enc ps = [] ∧ w'.heap.size ≤ t) ∧ Below w'.heap.size w' w'') := fun w' => opened_nil enc hkn w'
  clear hbad hkn
  go_enter Tryz.func3, Tryz.ntmps3
  go_upto_block 0 with (first
    | (go_at_call 16; refine (AB.out w).mono ?_; rintro e w1 ⟨rfl, hb1⟩; have HB1 := hidIt hb1; clear hb1; (try dsimp only))
    | (go_at_call 17; refine (OP.out w1).mono ?_; rintro e w2 ⟨t, ps, rfl, hop, hb2⟩; have HOP := hidIt hop.out; have HB2 := hidIt (ext_trans HB1.out hb2); clear hop hb2; (try dsimp only)))
  have HI0 : Hid (MlI enc t w (.slice none 0 0) [] w2) := ⟨⟨ps, HOP.out.1, HOP.out.2.1⟩, World.ownsRow_nil _ _ _ _, fun _ => rfl, fun a ha => (by cases ha), HB2.out, Nat.le_trans HB1.out.size HOP.out.2.2⟩
  clear HOP HB2 HB1 OP AB
  go_wp2_with fail
  go_loopg [8, 9] az.length (fun gk lv p wr => ∃ (i : Nat) (l : List Int) (ao : Option Addr) (cap : Nat), i + gk = az.length ∧ l.length ≤ i ∧ p = .int .i64 (i : Nat) ∧ lv = .slice ao l.length cap ∧ Hid (MlI enc t w (.slice ao l.length cap) l wr))
  case atStart => exact ⟨0, [], none, 0, by omega, by simp, rfl, rfl, HI0.out⟩
  case round =>
    obtain ⟨i, l, ao, cap, hi, hli, rfl, rfl, HI⟩ := hrel
    by_cases hia : i < az.length
    · have hia2 : (i : Int) < (az.length : Int) := by omega
      obtain ⟨aa', ca', q1, _, _, q5⟩ := HA.out
      simp only [Value.slice.injEq, true_and] at q1
      obtain ⟨rfl, rfl⟩ := q1
      obtain ⟨b, o, rfl, hbl, hcl⟩ := q5 (by intro e; subst e; simp at hia)
      have cxw := hcl i hia
      obtain ⟨x, hx⟩ : ∃ x, x = az[i]?.getD 0 := ⟨_, rfl⟩
      rw [← hx] at cxw
      have HCX : Hid (∀ w', Below w.heap.size w w' → w'.cell? ⟨b, o + i, none⟩ = some (.int .i64 x)) := fun w' hb => (hb.cell (p := ⟨b, o + i, none⟩) hbl).trans cxw
      have cx := HCX.out wr HI.out.bel
      clear cxw
      have FT := hidIt (Fits_any enc x wr)
      clear q5 hcl hx
      cases hf : Cx.fits enc x with
      | false =>
        rw [hf] at FT
        go_wp2_with (go_at_call 18; refine FT.out.mono ?_; clear cx; rintro e w3 ⟨rfl, hb3⟩; have HI3 := hidIt (HI.out.ext hb3); clear hb3; (try dsimp only))
        go_roundg (az.length - (i + 1))
        case rel => exact ⟨i + 1, l, ao, cap, by omega, by omega, by go_num, rfl, HI3.out⟩
        case measure => omega
      | true =>
        rw [hf] at FT
        have HF := hidIt hf
        clear hf
        go_upto_region 14 with (go_at_call 18; refine FT.out.mono ?_; clear cx; rintro e w3 ⟨rfl, hb3⟩; have HI3 := hidIt (HI.out.ext hb3); have HB3 := hidIt hb3; clear hb3; (try dsimp only))
        have HPC : Hid (∀ (p : Int), pz[i]? = some p → ∃ b2 o2, ap = some ⟨b2, o2, none⟩ ∧ w3.cell? ⟨b2, o2 + i, none⟩ = some (.int .i64 p)) := fun p hp => by
          obtain ⟨ap', cp', r1, _, _, r5⟩ := HP.out.ext HI3.out.bel
          simp only [Value.slice.injEq] at r1
          obtain ⟨rfl, _, _⟩ := r1
          obtain ⟨b2, o2, rfl, _, hcl2⟩ := r5 (by intro e; subst e; simp at hp)
          have := hcl2 i (List.getElem?_eq_some_iff.1 hp).1
          rw [hp, Option.getD_some] at this
          exact ⟨b2, o2, rfl, this⟩
        go_cut [68] from 49 to 67 (fun v wF => ∃ c : Bool, v = .bool c ∧ Hid (c = true → ∃ p, pz[i]? = some p ∧ 0 ≤ p ∧ p < (l.length : Int)) ∧ wF = w3)
        case first =>
          by_cases hip : i < pz.length
          · have hip2 : (i : Int) < (pz.length : Int) := by omega
            obtain ⟨p, hp⟩ : ∃ p, pz[i]? = some p := ⟨_, List.getElem?_eq_getElem hip⟩
            obtain ⟨b2, o2, rfl, c2⟩ := HPC.out p hp
            have HPP := hidIt hp
            clear hp
            by_cases hp0 : 0 ≤ p
            · by_cases hpl : p < (l.length : Int)
              · go_wp2_with fail
                go_meet
                case rel => exact ⟨true, rfl, fun _ => ⟨p, HPP.out, hp0, hpl⟩, rfl⟩
              · go_wp2_with fail
                go_meet
                case rel => exact ⟨false, rfl, (fun e => by cases e), rfl⟩
            · go_wp2_with fail
              go_meet
              case rel => exact ⟨false, rfl, (fun e => by cases e), rfl⟩
          · have hip2 : ¬ (i : Int) < (pz.length : Int) := by omega
            go_wp2_with fail
            go_meet
            case rel => exact ⟨false, rfl, (fun e => by cases e), rfl⟩
        obtain ⟨c, rfl, HCQ, hwc⟩ := hcut
        obtain rfl : w3 = wc := hwc.symm
        clear hwc
        go_upto_if 68 with fail
        go_cut [10] from 69 to 72 (fun v wF => ∃ q : Nat, v = .int .i64 (q : Nat) ∧ q ≤ l.length ∧ wF = w3)
        case first =>
          cases c with
          | true =>
            obtain ⟨p, hp, hp0, hpl⟩ := HCQ.out rfl
            have hip2 : (i : Int) < (pz.length : Int) := by have := (List.getElem?_eq_some_iff.1 hp).1; omega
            obtain ⟨b2, o2, rfl, c2⟩ := HPC.out p hp
            obtain ⟨q, rfl⟩ : ∃ q : Nat, p = q := ⟨p.toNat, by omega⟩
            clear hp HCQ
            go_wp2_with fail
            go_meet
            case rel => exact ⟨q, rfl, by omega, rfl⟩
          | false =>
            clear HCQ
            go_wp2_with fail
            go_meet
            case rel => exact ⟨l.length, rfl, Nat.le_refl _, rfl⟩
        obtain ⟨q, rfl, hql, hwc⟩ := hcut
        obtain rfl : w3 = wc := hwc.symm
        clear hwc HPC HCQ
        have cx := HCX.out w3 HI3.out.bel
        obtain ⟨W5, hW5⟩ : ∃ W5, W5 = (w3.alloc (.cells #[.int .i64 x] 3)).alloc (.cells #[.int .i64 (q : Nat), .int .i64 (q : Nat), .slice (some ⟨w3.heap.size, 0, none⟩) 1 1] 30) := ⟨_, rfl⟩
        have hb5 : Below w3.heap.size w3 W5 := by rw [hW5]; exact ext_alloc (ext_alloc (Below.refl _ _) _) _
        have HI5 := hidIt (HI3.out.ext hb5)
        have CH : Hid (Calls Tryz.prog 19 #[.pointer (some ⟨t, 0, none⟩), .slice (some ⟨w3.heap.size + 1, 0, none⟩) 1 1] W5 fun e w' => e = .returned (.int .i64 0) ∧ Hid (∃ ps', Tx enc 65536 [] w' t ps' ∧ sh enc ps' = nw (ins l q x) ∧ Kps (fun k => k = t) W5 w')) := by
          unfold Hid
          obtain ⟨ps1, k1, k2⟩ := HI5.out.tx
          have he := edr_lit1 (w3.alloc (.cells #[.int .i64 x] 3)) (q : Nat) (q : Nat) (.slice (some ⟨w3.heap.size, 0, none⟩) 1 1) [x] (rdi_lit1 w3 x)
          rw [World.size_alloc, ← hW5] at he
          refine (Change_any enc 65536 [] W5 t ps1 _ [((q : Int), (q : Int), [x])] k1 he ⟨by simp, by simp [puts]⟩).mono ?_
          rintro e w' ⟨rfl, ps', e1, e2, e3⟩
          obtain ⟨c1, c2⟩ := ml_ch enc l q x hql (by omega) HF.out
          rw [k2] at e2 ⊢
          exact ⟨by rw [c1], ps', e1, by rw [e2, c2], e3⟩
        have HB5 := hidIt (ext_trans HB3.out hb5)
        clear hb5
        go_upto_region 18 with (first
          | (go_at_call 19; rw [← hW5]; refine CH.out.mono ?_; clear cx; rintro e w6 ⟨rfl, hc⟩; have HX := hidIt hc.out; clear hc; (try dsimp only)))
        obtain ⟨ps6, t6, s6, k6⟩ := HX.out
        have HO6 := hidIt (HI5.out.own.kpt k6 (by obtain ⟨p5, t5, _⟩ := HI5.out.tx; exact t5.typ))
        have HB6 : Hid (Below w.heap.size w w6) := HI5.out.bel.trans (k6.below HI5.out.bel.size (fun k hk => by rw [hk]; exact HI5.out.tl))
        have HT6 := hidIt (And.intro t6 s6)
        have HFI : Hid (∀ y ∈ ins l q x, Cx.fits enc y = true) := fun y hy => by
          unfold ins at hy
          rcases List.mem_append.1 hy with h | h
          · exact HI5.out.fit y (List.mem_of_mem_take h)
          · rcases List.mem_cons.1 h with rfl | h
            · exact HF.out
            · exact HI5.out.fit y (List.mem_of_mem_drop h)
        have HFIN : Hid (∀ w9 v9, OwnI w9 w6.heap.size v9 (l.take q ++ [x] ++ l.drop q) → Below w6.heap.size w6 w9 → MlI enc t w v9 (ins l q x) w9) := fun w9 v9 ho hb => by
          have e : l.take q ++ [x] ++ l.drop q = ins l q x := by unfold ins; simp
          rw [e] at ho
          exact ⟨⟨ps6, HT6.out.1.ext hb, HT6.out.2⟩, ho.mono HB6.out.size, fun e => by have := congrArg List.length e; rw [ins_len l q x hql] at this; simp at this, HFI.out, ext_trans HB6.out hb, HI5.out.tl⟩
        have hll : l.length ≤ 8000 := by omega
        have NIL : Hid (OwnI w6 w6.heap.size (.slice none 0 0) []) := World.ownsRow_nil _ _ _ _
        have HIL := hidIt (ins_len l q x hql)
        have HNL := hidIt HI.out.nil
        clear t6 s6 k6 HX CH HI5 HI3 HI FT hW5
        by_cases hln : l = []
        · subst hln
          have e1 := HNL.out rfl
          simp only [Value.slice.injEq, List.length_nil, true_and] at e1
          obtain ⟨rfl, rfl⟩ := e1
          obtain rfl : q = 0 := by simpa using hql
          have cx6 := HCX.out w6 HB6.out
          go_upto_region 19 with (at_builtin; refine wpl_ints rfl _ _ 22 rfl w6.heap.size Tryz.info_i64 Tryz.underlying22 (.slice none 0 0) [] rfl NIL.out [] none 0 0 rfl rfl (.inl ⟨rfl, rfl, rfl⟩) (by decide) (Nat.le_refl _) ?_; intro v7 w7 ho7 hb7; rw [List.nil_append] at ho7; obtain ⟨a7, c7, hv7⟩ := ho7.form; rw [List.length_nil] at hv7; subst hv7; have HO7 := hidIt ho7; have HB7 := hidIt hb7; clear ho7 hb7 cx6)
          have cx7 := HCX.out w7 (ext_trans HB6.out HB7.out)
          have HO7a : Hid (OwnI (w7.alloc (.cells #[.int .i64 x] 3)) w6.heap.size (.slice a7 0 c7) []) := HO7.out.ext (ext_alloc (Below.refl _ _) _)
          have HNW : Hid (∀ j u, ([x].map (Value.int .i64))[j]? = some u → (w7.alloc (.cells #[.int .i64 x] 3)).cell? ((⟨w7.heap.size, 0, none⟩ : Addr).add j) = some u) := fun j u hj => by
            cases j with
            | zero =>
              simp only [List.map_cons, List.getElem?_cons_zero, Option.some.injEq] at hj
              subst hj
              rw [show ((⟨w7.heap.size, 0, none⟩ : Addr).add 0) = ⟨w7.heap.size, 0, none⟩ from rfl, cell_of_row _ _ _ _ _ _ (heap_alloc_new _ _)]
              rfl
            | succ j => simp at hj
          have HZ7 := hidIt (show w6.heap.size ≤ (w7.alloc (.cells #[.int .i64 x] 3)).heap.size from Nat.le_trans HB7.out.size (size_alloc_le _ _))
          go_upto_region 20 with (at_builtin; refine wpl_ints rfl _ _ 22 rfl w6.heap.size Tryz.info_i64 Tryz.underlying22 _ [] rfl HO7a.out [x] (some ⟨w7.heap.size, 0, none⟩) 1 1 rfl rfl (.inr ⟨_, rfl, HNW.out⟩) (by simp) HZ7.out ?_; intro v8 w8 ho8 hb8; rw [List.nil_append] at ho8; obtain ⟨a8, c8, hv8⟩ := ho8.form; rw [show [x].length = 1 from rfl] at hv8; subst hv8; have HO8 := hidIt ho8; have HB8 := hidIt (HB7.out.trans ((ext_alloc (Below.refl w7.heap.size w7) _).mono HB7.out.size |>.trans hb8)); clear ho8 hb8 cx7)
          go_wp2_with (at_builtin; refine wpl_ints rfl _ _ 22 rfl w6.heap.size Tryz.info_i64 Tryz.underlying22 _ [x] rfl HO8.out [] none 0 0 rfl rfl (.inl ⟨rfl, rfl, rfl⟩) (by simp) HB8.out.size ?_; intro v9 w9 ho9 hb9; obtain ⟨a9, c9, hv9⟩ := ho9.form; rw [show ([x] ++ ([] : List Int)).length = 1 from rfl] at hv9; subst hv9; have HO9 := hidIt ho9; have HB9 := hidIt (HB8.out.trans hb9); clear ho9 hb9)
          go_roundg (az.length - (i + 1))
          case rel => exact ⟨i + 1, ins [] 0 x, a9, c9, by omega, by rw [HIL.out]; simp, by go_num, rfl, HFIN.out w9 _ HO9.out HB9.out⟩
          case measure => omega
        · obtain ⟨g, cap', e1, hgl, hc1, hc2, hcells⟩ := HO6.out.row hln
          simp only [Value.slice.injEq, true_and] at e1
          obtain ⟨rfl, rfl⟩ := e1
          have HCL : Hid (∀ w', Below w6.heap.size w6 w' → ∀ j u, (l.map (Value.int .i64))[j]? = some u → w'.cell? ((⟨g, 0, none⟩ : Addr).add j) = some u) := fun w' hb j u hj => (hb.cell (p := (⟨g, 0, none⟩ : Addr).add j) (by unfold Addr.add; split <;> exact hgl)).trans (hcells j u hj)
          have hqc : q ≤ cap := by omega
          have hlp : 0 < l.length := List.length_pos_iff.2 hln
          have hcap0 : ¬ cap = 0 := by omega
          have hcap1 : ¬ 0 = cap := by omega
          have hqc2 : (q : Int) ≤ (cap : Int) := by omega
          have hq0 : (0 : Int) ≤ (q : Int) := by omega
          have cx6 := HCX.out w6 HB6.out
          clear hcells
          have HTK : Hid (∀ j u, ((l.take q).map (Value.int .i64))[j]? = some u → w6.cell? ((⟨g, 0, none⟩ : Addr).add j) = some u) := fun j u hj => HCL.out w6 (Below.refl _ _) j u (by
            rw [List.getElem?_map] at hj ⊢
            by_cases hjq : j < q
            · rwa [List.getElem?_take_of_lt hjq] at hj
            · rw [List.getElem?_eq_none (by rw [List.length_take]; omega)] at hj; cases hj)
          have HLK := hidIt (show q = (l.take q).length by rw [List.length_take]; omega)
          have HLK2 := hidIt (show ([] : List Int).length + (l.take q).length ≤ 1099511627776 by rw [List.length_take, List.length_nil]; omega)
          go_upto_region 19 with (at_builtin; refine wpl_ints rfl _ _ 22 rfl w6.heap.size Tryz.info_i64 Tryz.underlying22 (.slice none 0 0) [] rfl NIL.out (l.take q) (some ⟨g, 0, none⟩) q cap rfl HLK.out (.inr ⟨_, rfl, HTK.out⟩) HLK2.out (Nat.le_refl _) ?_; intro v7 w7 ho7 hb7; rw [List.nil_append] at ho7; obtain ⟨a7, c7, hv7⟩ := ho7.form; rw [← HLK.out] at hv7; subst hv7; have HO7 := hidIt ho7; have HB7 := hidIt hb7; clear ho7 hb7 cx6)
          have cx7 := HCX.out w7 (ext_trans HB6.out HB7.out)
          have HO7a : Hid (OwnI (w7.alloc (.cells #[.int .i64 x] 3)) w6.heap.size (.slice a7 q c7) (l.take q)) := HO7.out.ext (ext_alloc (Below.refl _ _) _)
          have HNW : Hid (∀ j u, ([x].map (Value.int .i64))[j]? = some u → (w7.alloc (.cells #[.int .i64 x] 3)).cell? ((⟨w7.heap.size, 0, none⟩ : Addr).add j) = some u) := fun j u hj => by
            cases j with
            | zero =>
              simp only [List.map_cons, List.getElem?_cons_zero, Option.some.injEq] at hj
              subst hj
              rw [show ((⟨w7.heap.size, 0, none⟩ : Addr).add 0) = ⟨w7.heap.size, 0, none⟩ from rfl, cell_of_row _ _ _ _ _ _ (heap_alloc_new _ _)]
              rfl
            | succ j => simp at hj
          have HLN := hidIt (show (l.take q).length + [x].length ≤ 1099511627776 by rw [List.length_take]; simp; omega)
          have HLK8 := hidIt (show (l.take q ++ [x]).length = q + 1 by rw [List.length_append, ← HLK.out]; rfl)
          have HZ7 := hidIt (show w6.heap.size ≤ (w7.alloc (.cells #[.int .i64 x] 3)).heap.size from Nat.le_trans HB7.out.size (size_alloc_le _ _))
          go_upto_region 20 with (at_builtin; refine wpl_ints rfl _ _ 22 rfl w6.heap.size Tryz.info_i64 Tryz.underlying22 _ (l.take q) rfl HO7a.out [x] (some ⟨w7.heap.size, 0, none⟩) 1 1 rfl rfl (.inr ⟨_, rfl, HNW.out⟩) HLN.out HZ7.out ?_; intro v8 w8 ho8 hb8; obtain ⟨a8, c8, hv8⟩ := ho8.form; rw [HLK8.out] at hv8; subst hv8; have HO8 := hidIt ho8; have HB8 := hidIt (HB7.out.trans ((ext_alloc (Below.refl w7.heap.size w7) _).mono HB7.out.size |>.trans hb8)); clear ho8 hb8 cx7)
          have HDR : Hid (∀ (ad : Addr), (q < l.length → ad = ⟨g, q, none⟩) → ∀ j u, ((l.drop q).map (Value.int .i64))[j]? = some u → w8.cell? (ad.add j) = some u) := fun ad had j u hj => by
            have hjl : j < (l.drop q).length := by have := (List.getElem?_eq_some_iff.1 hj).1; rwa [List.length_map] at this
            rw [List.length_drop] at hjl
            rw [had (by omega), ← Addr.add_zero_add g q j]
            refine HCL.out w8 HB8.out (q + j) u ?_
            rw [List.getElem?_map] at hj ⊢
            rwa [List.getElem?_drop] at hj
          have HLD := hidIt (show l.length - q = (l.drop q).length by rw [List.length_drop])
          have HLD2 := hidIt (show (l.take q ++ [x]).length + (l.drop q).length ≤ 1099511627776 by rw [HLK8.out, List.length_drop]; omega)
          have HL9 := hidIt (show (l.take q ++ [x] ++ l.drop q).length = l.length + 1 by rw [List.length_append, HLK8.out, List.length_drop]; omega)
          by_cases hcq : cap = q
          · subst hcq
            have hq1 : cap ≤ l.length := by omega
            have HLD0 := hidIt (show 0 = (l.drop cap).length by rw [List.length_drop]; omega)
            go_wp2_with (at_builtin; refine wpl_ints rfl _ _ 22 rfl w6.heap.size Tryz.info_i64 Tryz.underlying22 _ (l.take cap ++ [x]) rfl HO8.out (l.drop cap) (some ⟨g, 0, none⟩) 0 0 rfl HLD0.out (.inr ⟨_, rfl, HDR.out _ (fun h => absurd h (by omega))⟩) HLD2.out HB8.out.size ?_; intro v9 w9 ho9 hb9; obtain ⟨a9, c9, hv9⟩ := ho9.form; rw [HL9.out] at hv9; subst hv9; have HO9 := hidIt ho9; have HB9 := hidIt (HB8.out.trans hb9); clear ho9 hb9)
            go_roundg (az.length - (i + 1))
            case rel => exact ⟨i + 1, ins l cap x, a9, c9, by omega, by rw [HIL.out]; omega, by go_num, by rw [HIL.out], by rw [HIL.out]; exact HFIN.out w9 _ HO9.out HB9.out⟩
            case measure => omega
          · have hcq' : ¬ q = cap := fun e => hcq e.symm
            go_wp2_with (at_builtin; refine wpl_ints rfl _ _ 22 rfl w6.heap.size Tryz.info_i64 Tryz.underlying22 _ (l.take q ++ [x]) rfl HO8.out (l.drop q) (some ⟨g, q, none⟩) (l.length - q) (cap - q) rfl HLD.out (.inr ⟨⟨g, q, none⟩, rfl, HDR.out ⟨g, q, none⟩ (fun _ => rfl)⟩) HLD2.out HB8.out.size ?_; intro v9 w9 ho9 hb9; obtain ⟨a9, c9, hv9⟩ := ho9.form; rw [HL9.out] at hv9; subst hv9; have HO9 := hidIt ho9; have HB9 := hidIt (HB8.out.trans hb9); clear ho9 hb9)
            go_roundg (az.length - (i + 1))
            case rel => exact ⟨i + 1, ins l q x, a9, c9, by omega, by rw [HIL.out]; omega, by go_num, by rw [HIL.out], by rw [HIL.out]; exact HFIN.out w9 _ HO9.out HB9.out⟩
            case measure => omega
    · have hia2 : ¬ (i : Int) < (az.length : Int) := by omega
      obtain ⟨ps, htx, hsh⟩ := HI.out.tx
      have HTX := hidIt htx
      have HSH := hidIt hsh
      have eA : asOf ps = l := by rw [← sh_fst enc ps, hsh, nw_fst]
      have EN := hidIt (encode_fit enc HEN.out (.slice ao l.length cap) l wr HI.out.own.rd HI.out.fit (by omega))
      have HEA := hidIt eA
      clear hsh htx eA
      have hel : (Cx.encB enc l).length ≤ 65536 := by have := ln_le enc l; show ln enc l ≤ _; omega
      obtain ⟨N, hN⟩ : ∃ N, N = (Cx.encB enc l).length := ⟨_, rfl⟩
      have HN := hidIt hN
      have hNl : N ≤ 65536 := by rw [hN]; exact hel
      have hll : l.length ≤ 8000 := by omega
      clear hN hel
      have SE : Hid (∀ w4, Below wr.heap.size wr w4 → Calls Tryz.prog 21 #[.pointer (some ⟨t, 0, none⟩)] w4 fun e w5 => ∃ (sa : Option Addr) (ka : Nat) (st : Option Addr) (kt : Nat) (sb : Option Addr) (kb : Nat), e = .returned (.agg #[.slice sa l.length ka, .slice st l.length kt, .slice sb N kb]) ∧ Hid (Rd .i64 w5 (.slice sa l.length ka) l ∧ Rd .i64 w5 (.slice st l.length kt) (l.map fun _ => -1) ∧ Rd .u8 w5 (.slice sb N kb) (Cx.encB enc l)) ∧ Below w4.heap.size w4 w5) := fun w4 hb => by
        refine (see_any enc 65536 [] w4 t ps (HTX.out.ext hb)).mono ?_
        rintro e w5 ⟨va, vt, vb, rfl, ⟨h1, h2, h3⟩, hb5⟩
        have e2 : (sh enc ps).map Prod.snd = l.map fun _ => -1 := by rw [HSH.out]; simp [nw, List.map_map, Function.comp_def]
        rw [HEA.out] at h1 h3
        rw [e2] at h2
        obtain ⟨sa, ka, e3⟩ := h1.form
        obtain ⟨st, kt, e4⟩ := h2.form
        obtain ⟨sb, kb, e5, _⟩ := id h3
        rw [List.length_map] at e4
        rw [← HN.out] at e5
        subst e3 e4 e5
        exact ⟨sa, ka, st, kt, sb, kb, rfl, ⟨h1.rd, h2.rd, h3⟩, hb5⟩
      have ENC : Hid (Calls Tryz.prog 20 #[.int .i64 enc, .slice ao l.length cap] wr fun e w4 => ∃ (ab : Option Addr) (cb : Nat), e = .returned (.tuple #[.slice ab N cb, .int .i64 0, .int .i64 0]) ∧ Hid (Rd .u8 w4 (.slice ab N cb) (Cx.encB enc l)) ∧ Below wr.heap.size wr w4) := by
        refine EN.out.mono ?_
        rintro e w4 ⟨vb, rfl, hob, hb4⟩
        obtain ⟨ab, cb, e5, _⟩ := id (Rd.of_own hob)
        rw [← HN.out] at e5
        subst e5
        exact ⟨ab, cb, rfl, Rd.of_own hob, hb4⟩
      go_upto_region 23 with (first
        | (go_at_call 20; refine ENC.out.mono ?_; rintro e w4 ⟨ab, cb, rfl, HRB, hb4⟩; have SE4 := hidIt (SE.out w4 hb4); have HB4 := hidIt hb4; clear hb4; (try dsimp only))
        | (go_at_call 21; refine SE4.out.mono ?_; rintro e w5 ⟨sa, ka, st, kt, sb, kb, rfl, HRS, hb5⟩; have HB5 := hidIt (ext_trans HB4.out hb5); have HRB5 := hidIt (HRB.out.ext hb5); clear hb5; (try dsimp only)))
      obtain ⟨w6, hw6, k6, hb6⟩ : ∃ w6, w6 = w5.alloc (.cells #[.slice sa l.length ka, .slice st l.length kt, .slice sb N kb] 36) ∧ w6.heap[w5.heap.size]? = some (.cells #[.slice sa l.length ka, .slice st l.length kt, .slice sb N kb] 36 (0, 0)) ∧ Below w5.heap.size w5 w6 := ⟨_, rfl, heap_alloc_new _ _, ext_alloc (Below.refl _ _) _⟩
      rw [← hw6]
      clear hw6
      have hk6 := (Array.getElem?_eq_some_iff.1 k6).1
      have HC6 : Hid (∀ w', Below w6.heap.size w6 w' → w'.cell? ⟨w5.heap.size, 0, none⟩ = some (.slice sa l.length ka) ∧ w'.cell? ⟨w5.heap.size, 1, none⟩ = some (.slice st l.length kt) ∧ w'.cell? ⟨w5.heap.size, 2, none⟩ = some (.slice sb N kb)) := fun w' hb => by
        have e := (hb.block _ hk6).trans k6
        refine ⟨?_, ?_, ?_⟩ <;> (rw [cell_of_row w' _ _ _ _ _ e]; rfl)
      have HB6 := hidIt (ext_trans HB5.out hb6)
      have SI : Hid (∀ w', Below w6.heap.size w6 w' → Calls Tryz.prog 22 #[.slice sa l.length ka, .slice ao l.length cap] w' fun e w'' => e = .returned (.bool true) ∧ Below w'.heap.size w' w'') := fun w' hb => sameInts_any _ _ l w' (HRS.out.1.ext (ext_trans hb6 hb)) (HI.out.own.rd.ext (ext_trans HB6.out hb))
      have SB : Hid (∀ w', Below w6.heap.size w6 w' → Calls Tryz.prog 23 #[.slice sb N kb, .slice ab N cb] w' fun e w'' => e = .returned (.bool true) ∧ Below w'.heap.size w' w'') := fun w' hb => sameBytes_eq _ _ (Cx.encB enc l) w' (HRS.out.2.2.ext (ext_trans hb6 hb)) (HRB5.out.ext (ext_trans hb6 hb))
      have SZ : Hid (∀ w', Below w6.heap.size w6 w' → Calls Tryz.prog 24 #[.pointer (some ⟨t, 0, none⟩)] w' fun e w'' => e = .returned (.int .i64 (N : Nat)) ∧ Below w'.heap.size w' w'') := fun w' hb => by
        have h := tSize_any enc 65536 [] w' t ps (HTX.out.ext (ext_trans HB6.out hb))
        rw [HEA.out] at h
        rwa [show ln enc l = N from HN.out.symm] at h
      have HRT := hidIt (HRS.out.2.1.ext hb6)
      clear hb6
      obtain ⟨c0, c1, c2⟩ := HC6.out w6 (Below.refl _ _)
      go_upto_block 2 with (first
        | (go_at_call 22; refine (SI.out w6 (Below.refl _ _)).mono ?_; clear c0 c1 c2; rintro e w7 ⟨rfl, hb7⟩; have HB7 := hidIt hb7; obtain ⟨c0, c1, c2⟩ := HC6.out w7 hb7; clear hb7; (try dsimp only))
        | (go_at_call 23; refine (SB.out w7 HB7.out).mono ?_; clear c0 c1 c2; rintro e w8 ⟨rfl, hb8⟩; have HB8 := hidIt (ext_trans HB7.out hb8); obtain ⟨c0, c1, c2⟩ := HC6.out w8 HB8.out; clear hb8; (try dsimp only))
        | (go_at_call 24; refine (SZ.out w8 HB8.out).mono ?_; clear c0 c1 c2; rintro e w9 ⟨rfl, hb9⟩; have HB9 := hidIt (ext_trans HB8.out hb9); obtain ⟨c0, c1, c2⟩ := HC6.out w9 HB9.out; clear hb9; (try dsimp only)))
      have HRT9 := hidIt (HRT.out.ext HB9.out)
      go_wp2_with fail
      go_loopg [16] l.length (fun gk p wr2 => ∃ k : Nat, k + gk = l.length ∧ p = .int .i64 (k : Nat) ∧ wr2 = w9)
      case atStart => exact ⟨0, by omega, rfl, rfl⟩
      case round =>
        obtain ⟨k, hk, rfl, hwr⟩ := hrel
        rw [hwr]
        clear hwr
        by_cases hkl : k < l.length
        · have hkl2 : (k : Int) < (l.length : Int) := by omega
          obtain ⟨st', kt', q1, _, _, q5⟩ := HRT9.out
          simp only [Value.slice.injEq, List.length_map, true_and] at q1
          obtain ⟨rfl, rfl⟩ := q1
          obtain ⟨bt, ot, rfl, _, hct⟩ := q5 (by intro e; rw [List.map_eq_nil_iff] at e; subst e; simp at hkl)
          have ct := hct k (by rw [List.length_map]; exact hkl)
          rw [show (l.map fun _ => (-1 : Int))[k]?.getD 0 = -1 by simp [List.getElem?_map, List.getElem?_eq_getElem hkl]] at ct
          clear q5 hct
          go_wp2_with fail
          go_roundg (l.length - (k + 1))
          case rel => exact ⟨k + 1, by omega, by go_num, rfl⟩
          case measure => omega
        · have hkl2 : ¬ (k : Int) < (l.length : Int) := by omega
          go_wp2_with fail
          go_ret
          exact ⟨rfl, ext_trans HI.out.bel (ext_trans HB6.out HB9.out)⟩
end Go.Proofs.YtcfjfjfghejjiaaGreat.P

/- What the rows' proofs share: a slice of integers that came in. -/
namespace Go.Proofs.YtcfjfjfghejjiaaGreat
open Go.ChangeShapes Go.WideShapes Go.ChangeAt Go.RowKit

theorem ownK : ownKnob Tryz.prog.godebug = none := by kernel_rfl
theorem laidOutK : laidOutB Tryz.prog = true := by kernel_rfl
theorem bytesK_u8 : Tryz.prog.bytesOf 5 = 1 := by kernel_rfl
theorem bytesK_i64 : Tryz.prog.bytesOf 3 = 8 := by kernel_rfl

/-- A slice of integers that came in: it reads as a list; each number fits its kind; its datum has as many elements. -/
theorem rd_of {H : Type} {enc : TypeId × Value → H} {W : World} {t e : TypeId} {k : IntKind} {a0 : Option Addr} {len0 cap0 : Nat} {d : DataW H} {p : List MemPlace}
    (ht : Tryz.prog.underlying t = some (.slice e)) (he : Tryz.prog.underlying e = some (.int k)) (hc : Tryz.prog.cellsOf e = 1)
    (h : DataW.Trod enc Tryz.prog W 0 (fun _ => true) true t (.slice a0 len0 cap0) d p) :
    ∃ zs, Rd k W (.slice a0 len0 cap0) zs ∧ (∀ n ∈ zs, (Lit.int k n).wf = true) ∧ (zs = [] ∨ ∃ el sp, d = .slice el sp ∧ el.length = zs.length) := by
  obtain ⟨fuel, hf⟩ := h
  rcases open_ints ht he hc hf with ⟨hcs, _⟩ | ⟨x, l, c, zs, hcs, _, hl, hm, hz, hx, hcell, hwz⟩
  · simp [Value.cells] at hcs
    obtain ⟨rfl, rfl, rfl⟩ := hcs
    exact ⟨[], ⟨none, 0, rfl, Nat.le_refl _, by simp [maxLen], fun h => absurd rfl h⟩, by simp, .inl rfl⟩
  · simp [Value.cells] at hcs
    obtain ⟨rfl, rfl, rfl⟩ := hcs
    simp at hz
    have hlen : (zs.take len0).length = len0 := by rw [List.length_take]; omega
    refine ⟨zs.take len0, ⟨some x, cap0, by rw [hlen], by omega, hm, fun hn => ?_⟩, fun n hn => hwz n (List.mem_of_mem_take hn), .inr ⟨_, _, (Prod.mk.inj hx).1, by simp [lits]⟩⟩
    have hpos : 0 < len0 := by
      rcases Nat.eq_zero_or_pos len0 with h | h
      · subst h; simp at hn
      · exact h
    obtain ⟨b, off, spot⟩ := x
    have hc0 := hcell 0 (by omega)
    have hspot : spot = none := by simpa [Addr.add] using World.cell?_spot hc0
    subst hspot
    refine ⟨b, off, rfl, World.block_lt_of_cell? W _ (by simpa [Addr.add] using hc0), fun i hi => ?_⟩
    rw [hlen] at hi
    have := hcell i (by omega)
    rw [Addr.add_lit] at this
    rw [this, List.getElem?_take, if_pos hi]
    simp [List.getD]

theorem byt_of {zs : List Int} (h : ∀ n ∈ zs, (Lit.int .u8 n).wf = true) : Byt zs := by
  intro z hz
  have := bounds_u8 (h z hz)
  omega
end Go.Proofs.YtcfjfjfghejjiaaGreat

/- PieceMelts: the row. -/
namespace Go.Proofs.YtcfjfjfghejjiaaGreat
open Go.ChangeShapes Go.WideShapes Go.ChangeAt Go.RowKit

set_option maxRecDepth 100000 in
theorem pieceMelts_lifted (os : Os) (started : os.Started) (H : Type) (enc : TypeId × Value → H) :
    ReturnsInHanded {} Tryz.checked os 3 .any (Rows.pieceMeltsSpec.pre6 enc Tryz.prog Tryz.f3 Rows.pieceMeltsRow.domain false) (Rows.pieceMeltsSpec.post enc Tryz.prog Tryz.f3 false true false false) := by
  refine returnsInHanded_of_change_sized (C := Tryz.checked) ownK started (by kernel_rfl) Tryz.func3
    (ChangeSpec.witness6 (enc := enc) (C := Tryz.checked) false ⟨#[], #[.int .i64 0, .slice none 0 0, .slice none 0 0], []⟩ 8 (by kernel_rfl) (by kernel_rfl) (by kernel_rfl) (by kernel_rfl)) ?_
  intro W base args ds gs before hval0 hW hcnd hsz0 _
  have hval : ∀ (j : Nat) t v, Tryz.f3.params[j]? = some t → args[j]? = some v → Value.okWide Tryz.prog W .any base t v := hval0
  have hsz : (DataW.weightsEach Tryz.prog (Tryz.f3.params.toList ++ Rows.pieceMeltsSpec.plain.varTypes Tryz.prog) (ds ++ gs)).all (· ≤ reachBytes) = true := hsz0
  have hW' := hW
  obtain ⟨p, q, hA0, hV, rfl, hfz, hnd⟩ := hW
  have hA : DataW.TrodAll enc Tryz.prog W 0 (fun _ => true) true Tryz.f3.params.toList args.toList ds p := hA0
  rw [Tryz.params3] at hA hval hsz
  obtain ⟨v0, vs0, d0, ds0, p0, q0, hargs, rfl, rfl, h0, r0⟩ := trodAll_cons hA
  obtain ⟨v1, vs1, d1, ds1, p1, q1, rfl, rfl, rfl, h1, r1⟩ := trodAll_cons r0
  obtain ⟨v2, vs2, d2, ds2, p2, q2, rfl, rfl, rfl, h2, r2⟩ := trodAll_cons r1
  obtain ⟨rfl, rfl, rfl⟩ := trodAll_nil r2
  obtain rfl : args = #[v0, v1, v2] := by cases args; simp_all
  obtain ⟨rfl, rfl⟩ := trodVars_none hV
  obtain ⟨a0, rfl, rfl, rfl, w0⟩ := open_int Tryz.underlying3 (hval 0 3 v0 rfl rfl) h0
  obtain ⟨a1, len1, cap1, rfl⟩ := okWide_slice Tryz.underlying22 (hval 1 22 v1 rfl rfl)
  have k1 := h1
  have lt1 : ∀ x ∈ p1, x.block < W.heap.size := by obtain ⟨m, hm⟩ := k1; exact DataW.trod_lt m _ _ _ hm
  obtain ⟨z1, hr1, hw1, hd1⟩ := rd_of Tryz.underlying22 Tryz.underlying3 (by kernel_rfl) h1
  have hz1 : z1.length * 8 ≤ 140737488351232 := by
    rcases hd1 with rfl | ⟨el, sp, rfl, hel⟩
    · simp
    · have := sized_slice hsz (j := 1) (t := 22) (e := 3) rfl rfl Tryz.underlying22
      rw [bytesK_i64] at this
      simp only [reachBytes] at this
      omega
  obtain ⟨a2, len2, cap2, rfl⟩ := okWide_slice Tryz.underlying22 (hval 2 22 v2 rfl rfl)
  have k2 := h2
  have lt2 : ∀ x ∈ p2, x.block < W.heap.size := by obtain ⟨m, hm⟩ := k2; exact DataW.trod_lt m _ _ _ hm
  obtain ⟨z2, hr2, hw2, hd2⟩ := rd_of Tryz.underlying22 Tryz.underlying3 (by kernel_rfl) h2
  have hz2 : z2.length * 8 ≤ 140737488351232 := by
    rcases hd2 with rfl | ⟨el, sp, rfl, hel⟩
    · simp
    · have := sized_slice hsz (j := 2) (t := 22) (e := 3) rfl rfl Tryz.underlying22
      rw [bytesK_i64] at this
      simp only [reachBytes] at this
      omega
  clear hA0 hval0 hsz0
  refine (P.melts_any a0 _ _ z1 z2 W hr1 hr2).mono fun e W' ⟨he, bel⟩ => ?_
  subst he
  exact ⟨_, rfl, _, _, _, [], _, [], hW', trodAll_mk1 (shut_bool Tryz.underlying4 _), (trodAll_cons_mk (shut_int Tryz.underlying3 w0) (trodAll_cons_mk (Below.trod laidOutK (by kernel_rfl) (of_decide_eq_true (by kernel_rfl)) k1 bel lt1) (trodAll_cons_mk (Below.trod laidOutK (by kernel_rfl) (of_decide_eq_true (by kernel_rfl)) k2 bel lt2) trodAll_mk0))), rfl, bel.frame _, fun h => by cases h⟩

theorem pieceMelts_holds : Rows.PieceMeltsSaid :=
  OpenClaim.holds_of_wide 3 Tryz.f3 rfl rfl rfl rfl rfl rfl rfl ⟨rfl, rfl, rfl, rfl, rfl⟩ rfl rfl rfl rfl rfl (by kernel_rfl) Tryz.func3 (by kernel_rfl)
    (of_decide_eq_true (by kernel_rfl)) (by unfold Func.isWrapper; first | (rw [if_pos (by decide +kernel)]; kernel_rfl) | (rw [if_neg (by decide +kernel)]; exact ⟨rfl, rfl⟩))
    (fun os started H enc _ => pieceMelts_lifted os started H enc)
end Go.Proofs.YtcfjfjfghejjiaaGreat
