/- The law's sparing and faults: copies. -/
import Derived.Test.YtlcgagapkkdocaaDPlan2
namespace Go.Proofs.Ytlcgagapkkdocaa
open Go.RowKit

theorem own_leB {w : World} {base base' : Nat} {e : TypeId} {size n : Nat} {v : Value} {xs : List Value} (h : w.ownsRow base e size v n xs) (hb : base' ≤ base) : w.ownsRow base' e size v n xs := ⟨h.1, h.2.elim .inl (fun ⟨g, cap, cur, hv, hg, r⟩ => .inr ⟨g, cap, cur, hv, Nat.le_trans hb hg, r⟩)⟩
set_option maxRecDepth 100000 in
set_option maxHeartbeats 4000000 in
theorem sparing_any (v : Value) (l : List Int) (w : World) (h : RdS w v l) (hl : l.length * 8 ≤ 140737488351232) :
    Calls Try.prog 40 #[v] w fun e w' => ∃ v', e = .returned v' ∧ OwnI w' w.heap.size v' l ∧ Below w.heap.size w w' := by
  have HR := hidIt h
  obtain ⟨⟨ao, c0, rfl, _, _, _⟩, _⟩ := h
  have own0 : OwnI w w.heap.size (.slice none 0 0) [] := ⟨rfl, .inl ⟨rfl, rfl⟩⟩
  have HO := hidIt own0
  clear own0
  go_enter Try.func40, Try.ntmps40
  go_upto_region 2 with (at_builtin; first
    | (refine wpl_ints rfl _ _ 25 rfl w.heap.size Try.info_i64 Try.underlying25 (.slice none 0 0) [] rfl HO.out _ l rfl HR.out (by simp; omega) (Nat.le_refl _) ?_; intro v2 w2 own2 hb2; have O2 := hidIt own2; have B2 := hidIt hb2; clear own2 hb2 HO HR)
    | (refine wpl_ints rfl _ _ 25 rfl w.heap.size Try.info_i64 Try.underlying25 v2 ([] ++ l) rfl (O2.out.ext (ext_alloc (Below.refl _ _) _)) _ [-71, -71, -71, -71, -71, -71, -71, -71] rfl (OwnI.rds (base := 0) ⟨rfl, .inr ⟨w2.heap.size, 8, _, rfl, Nat.zero_le _, heap_alloc_new _ _, Nat.le_refl _, by decide, rfl, rfl⟩⟩) (by simp; omega) (Nat.le_trans B2.out.size (by simp)) ?_; intro v3 w3 own3 hb3; have O3 := hidIt own3; have B3 := hidIt (B2.out.trans (((Below.refl _ w2).alloc B2.out.size _).trans hb3)); clear own3 hb3 O2 B2))
  rcases O3.out.2 with ⟨_, h0⟩ | ⟨g, cap, cur, hv3, hg, hc, h1, h2, h3, h4⟩
  · simp at h0
  subst hv3
  have HL1 : ([] ++ l ++ [-71, -71, -71, -71, -71, -71, -71, -71]).length = l.length + 8 := by simp
  rw [HL1] at h1 h4 ⊢
  have hcur : cur.size = cap := by omega
  have htk : cur.toList.take l.length = l.map (Value.int .i64) := by
    have e := congrArg (List.take l.length) h4
    rw [List.take_take, List.map_append, List.map_append] at e
    simp at e
    exact e
  have hmx : cap ≤ 9223372036854775807 := by unfold maxLen at h2; exact h2
  have HC := hidIt hc
  have HT := hidIt htk
  clear O3 h4 h3 h2 hc htk HL1
  go_wp2_with fail
  go_loopw [4] (fun i wr => ∃ (j : Nat) (cu : Array Value), l.length ≤ j ∧ j ≤ cap ∧ i = .int .i64 j ∧ wr.heap[g]? = some (.cells cu 3 (0, 0)) ∧ cu.size = cap ∧ cu.toList.take l.length = l.map (Value.int .i64) ∧ Below w.heap.size w wr) (fun i _ => cap - (RowKit.intOf i).toNat)
  case atStart => exact ⟨l.length, cur, Nat.le_refl _, by omega, rfl, HC.out, hcur, HT.out, B3.out⟩
  case round =>
    clear HC HT
    obtain ⟨j, cu, hj1, hj2, rfl, hc, hcs, ht, hb⟩ := hrel
    by_cases hlt : j < cap
    · have hlt' : (j : Int) < (cap : Int) := by omega
      have ce : wr.cell? ⟨g, j, none⟩ = some (cu[j]'(by omega)) := by simp [World.cell?, hc]
      have fr : wr.frozen? ⟨g, j, none⟩ = false := frozen_of_row _ _ _ _ _ hc
      have FIN : Hid (∀ u : Value, (wr.setCell ⟨g, j, none⟩ u).heap[g]? = some (.cells (cu.setIfInBounds j u) 3 (0, 0)) ∧ (cu.setIfInBounds j u).size = cap ∧ (cu.setIfInBounds j u).toList.take l.length = l.map (Value.int .i64) ∧ Below w.heap.size w (wr.setCell ⟨g, j, none⟩ u)) := fun u => by
        obtain ⟨s1, _⟩ := set1 hc j u
        refine ⟨s1, by simpa using hcs, ?_, hb.setCell hg u⟩
        rw [Array.toList_setIfInBounds, List.take_set_of_le hj1]
        exact ht
      clear hc ht hb
      go_wp2_with fail
      go_roundw
      case rel => exact ⟨j + 1, _, by omega, by omega, by go_num, FIN.out _⟩
      case measure => simp [RowKit.intOf]; omega
    · have ejk : cap = j := by omega
      subst ejk
      have hge : ¬ (cap : Int) < (cap : Int) := by omega
      have hln : (l.length : Int) ≤ (cap : Int) := by omega
      have HF : Hid (OwnI wr w.heap.size (.slice (some ⟨g, 0, none⟩) l.length cap) l ∧ Below w.heap.size w wr) := ⟨⟨by simp, .inr ⟨g, cap, cu, rfl, hg, hc, by omega, by unfold maxLen; omega, by omega, by simpa using ht⟩⟩, hb⟩
      clear hc ht hb
      go_wp2_with fail
      go_ret
      exact ⟨_, rfl, HF.out⟩
/-- A fault's five cells. -/
def faC (x : Fa) : List Value := [.int .i64 x.st, .int .i64 x.kd, .int .i64 x.pt, .int .i64 x.cn, x.bv]
/-- A fault and its copy. -/
def FaA (a b : Fa) : Prop := a.st = b.st ∧ a.kd = b.kd ∧ a.pt = b.pt ∧ a.cn = b.cn ∧ a.bs = b.bs
/-- The copies of the first faults. -/
structure Fcp (w : World) (base : Nat) (v : Value) (fs L : List Fa) : Prop where
  row : w.ownsRow base 62 5 v L.length (L.flatMap faC)
  bs : ∀ a ∈ L, OwnI w base a.bv a.bs
  lk : ∀ (i : Nat) (a : Fa), L[i]? = some a → ∃ b, fs[i]? = some b ∧ FaA a b
theorem pl_as {a b : Fa} (h : FaA a b) (p : Int → Option Ft) : plAdd p a = plAdd p b := by
  obtain ⟨h1, h2, h3, h4, h5⟩ := h
  unfold plAdd Fa.ft
  rw [h1, h2, h3, h4, h5]
theorem plOf_as : ∀ {L fs : List Fa}, L.length = fs.length → (∀ (i : Nat) (a : Fa), L[i]? = some a → ∃ b, fs[i]? = some b ∧ FaA a b) → ∀ p, L.foldl plAdd p = fs.foldl plAdd p
  | [], [], _, _, _ => rfl
  | [], _ :: _, h, _, _ => by simp at h
  | _ :: _, [], h, _, _ => by simp at h
  | a :: L, b :: fs, h, ha, p => by
    obtain ⟨b', e, hab⟩ := ha 0 a rfl
    simp at e
    subst e
    rw [List.foldl_cons, List.foldl_cons, pl_as hab]
    exact plOf_as (by simpa using h) (fun i c hc => ha (i + 1) c (by simpa using hc)) _
theorem flat5 : ∀ {L : List Fa} {i : Nat} {a : Fa}, L[i]? = some a → ∀ j, j < 5 → (L.flatMap faC)[i * 5 + j]? = (faC a)[j]?
  | [], _, _, h, _, _ => by simp at h
  | q :: l, 0, p, h, i, hi => by
    simp at h
    subst h
    rw [List.flatMap_cons, List.getElem?_append_left (by simp [faC]; omega)]
    simp
  | q :: l, j + 1, p, h, i, hi => by
    rw [List.flatMap_cons, List.getElem?_append_right (by simp [faC]; omega)]
    rw [show (j + 1) * 5 + i - (faC q).length = j * 5 + i by simp [faC]; omega]
    exact flat5 (by simpa using h) i hi
/-- The copies, read; all of it is new memory. -/
theorem Fcp.read {w : World} {base : Nat} {v : Value} {fs L : List Fa} (h : Fcp w base v fs L) (hok : ∀ x ∈ fs, x.Ok) : RdF w v L ∧ ∀ F : Nat → Prop, (∀ k, base ≤ k → k < w.heap.size → F k) → InF F v L := by
  refine ⟨?_, fun F hF => ⟨fun g hg => hF g (own_ge h.row hg).1 (own_ge h.row hg).2, fun x hx g hg => hF g (own_ge (h.bs x hx) hg).1 (own_ge (h.bs x hx) hg).2⟩⟩
  have hok' : ∀ x ∈ L, x.Ok := fun x hx => by
    obtain ⟨i, hi⟩ := List.getElem?_of_mem hx
    obtain ⟨b, hb, e1, e2, e3, e4, e5⟩ := h.lk i x hi
    have o := hok b (List.mem_of_getElem? hb)
    exact ⟨by rw [e1]; exact o.st, by rw [e2]; exact o.kd, by rw [e3]; exact o.pt, by rw [e4]; exact o.cn, by rw [e5]; exact o.bs, by rw [e5]; exact o.len⟩
  rcases h.row.2 with ⟨rfl, h0⟩ | ⟨g, cap, cur, rfl, _, hc, h1, h2, h3, h4⟩
  · have := List.length_eq_zero_iff.1 h0
    subst this
    exact ⟨none, 0, rfl, Nat.le_refl _, by omega, hok', fun h => absurd rfl h⟩
  · refine ⟨_, cap, rfl, h1, by unfold maxLen at h2; exact h2, hok', fun _ => ⟨g, 0, rfl, (Array.getElem?_eq_some_iff.1 hc).1, fun i x hx => ?_⟩⟩
    have hcell : ∀ j, j < 5 → w.cell? ⟨g, 0 + i * 5 + j, none⟩ = (faC x)[j]? := fun j hj => by
      have e := flat5 hx j hj
      have hi := (List.getElem?_eq_some_iff.1 hx).1
      rw [← h4, List.getElem?_take, if_pos (by omega)] at e
      rw [Nat.zero_add]
      simpa [World.cell?, hc] using e
    exact ⟨hcell 0 (by omega), hcell 1 (by omega), hcell 2 (by omega), hcell 3 (by omega), hcell 4 (by omega), OwnI.rds (h.bs x (List.mem_of_getElem? hx))⟩
theorem info_fault : (Try.prog.info? 62).map (fun i => (i.zero, i.size, i.bytes)) = some (some (.agg #[.int .i64 0, .int .i64 0, .int .i64 0, .int .i64 0, .slice none 0 0]), 5, 56) := by kernel_rfl
/-- One copy more. -/
theorem Fcp.push {w w' : World} {base : Nat} {v v' : Value} {fs L : List Fa} {a b : Fa} (h : Fcp w base v fs L) (ha : OwnI w base a.bv a.bs) (hb : fs[L.length]? = some b) (hab : FaA a b) (ho : w'.ownsRow base 62 5 v' (L.length + 1) (L.flatMap faC ++ faC a)) (hg : w.grownBy w' v.ownBlock) : Fcp w' base v' fs (L ++ [a]) := by
  have keep : ∀ {u : Value} {zs : List Int}, OwnI w base u zs → OwnI w' base u zs := fun hu => by
    refine own_sameB hu (fun g hgg => ?_)
    have hlt := (own_ge hu hgg).2
    refine hg.block g hlt (fun e => ?_)
    obtain ⟨c1, e1⟩ := own_lt (own_le0 hu) hgg
    obtain ⟨c2, e2⟩ := own_lt (own_le0 h.row) e.symm
    rw [e1] at e2
    cases e2
  refine ⟨by simpa using ho, fun x hx => ?_, fun i x hx => ?_⟩
  · rcases List.mem_append.1 hx with hx | hx
    · exact keep (h.bs x hx)
    · simp at hx; subst hx; exact keep ha
  · by_cases hi : i < L.length
    · rw [List.getElem?_append_left hi] at hx
      exact h.lk i x hx
    · have hl := (List.getElem?_eq_some_iff.1 hx).1
      simp at hl
      have : i = L.length := by omega
      subst this
      simp at hx
      subst hx
      exact ⟨b, hb, hab⟩
theorem Fcp.ext {w w' : World} {base : Nat} {v : Value} {fs L : List Fa} (h : Fcp w base v fs L) (hb : Below w.heap.size w w') : Fcp w' base v fs L := ⟨own_ext h.row hb, fun a ha => own_ext (h.bs a ha) hb, h.lk⟩
set_option maxRecDepth 100000 in
set_option maxHeartbeats 4000000 in
theorem faults_any (v : Value) (fs : List Fa) (w : World) (h : RdF w v fs) (hfl : fs.length ≤ 4194304) :
    Calls Try.prog 12 #[v] w fun e w' => ∃ v' L, e = .returned v' ∧ L.length = fs.length ∧ Fcp w' w.heap.size v' fs L ∧ Below w.heap.size w w' := by
  have HV := hidIt h
  have HOK : Hid (∀ x ∈ fs, x.Ok) := by obtain ⟨_, _, _, _, _, h5, _⟩ := h; exact h5
  obtain ⟨ao, cap, rfl, hl1, hl2, _, _⟩ := h
  obtain ⟨i0, hi, hz0, hz1, hz2⟩ := info_parts info_fault
  go_enter Try.func12, Try.ntmps12
  go_wp2_with fail
  go_loopw [3, 4] (fun o i wr => ∃ (j : Nat) (L : List Fa), j ≤ fs.length ∧ L.length = j ∧ i = .int .i64 j ∧ Fcp wr w.heap.size o fs L ∧ Below w.heap.size w wr) (fun _ i _ => fs.length - (RowKit.intOf i).toNat)
  case atStart => exact ⟨0, [], Nat.zero_le _, rfl, rfl, ⟨⟨rfl, .inl ⟨rfl, rfl⟩⟩, by simp, by simp⟩, Below.refl _ _⟩
  case round =>
    obtain ⟨j, L, hj, hL, rfl, hf, hb⟩ := hrel
    have HF := hidIt hf
    have HB := hidIt hb
    obtain ⟨oa, on, oc, hov⟩ := form_own hf.row
    subst hov
    clear hf hb
    by_cases hlt : j < fs.length
    · have hlt' : (j : Int) < (fs.length : Int) := by omega
      obtain ⟨x, hx⟩ : ∃ x, fs[j]? = some x := ⟨_, List.getElem?_eq_getElem hlt⟩
      obtain ⟨ao', cap', hv', _, _, _, h6⟩ := HV.out.ext HB.out
      cases hv'
      obtain ⟨pb, po, ea, hpb, hcs⟩ := h6 (by intro e; rw [e] at hlt; simp at hlt)
      subst ea
      obtain ⟨c0, c1, c2, c3, c4, crd⟩ := hcs j x hx
      obtain ⟨ba, bc, hbv, _⟩ := crd.1
      rw [hbv] at c4 crd
      have hxl := (HOK.out x (List.mem_of_getElem? hx)).len
      have HXJ := hidIt hx
      clear hcs h6 hx
      go_upto_region 6 with fail
      generalize hw5 : World.alloc _ _ = w5
      have HB5 : Hid (Below wr.heap.size wr w5) := by unfold Hid; rw [← hw5]; exact ext_alloc (Below.refl _ _) _
      have HK5 : Hid (w5.heap[wr.heap.size]? = some (.cells #[.int .i64 x.st, .int .i64 x.kd, .int .i64 x.pt, .int .i64 x.cn, .slice ba x.bs.length bc] 62 (0, 0))) := by unfold Hid; rw [← hw5]; exact heap_alloc_new _ _
      clear hw5 c0 c1 c2 c3 c4
      obtain ⟨k0, k1, k2, k3, k4⟩ := cellsF HK5.out
      have SP := hidIt (sparing_any _ _ w5 (crd.ext HB5.out) hxl)
      clear crd
      go_upto_region 7 with (go_at_call 40; refine SP.out.mono ?_; rintro e w7 ⟨u, rfl, ho, hb7⟩; obtain ⟨ua, un, uc, rfl⟩ := form_own ho; have HO7 := hidIt ho; have HB7 := hidIt hb7; have e7 := (hb7.block wr.heap.size (Array.getElem?_eq_some_iff.1 HK5.out).1).trans HK5.out; have m4 := (cellsF e7).2.2.2.2; have f4 : w7.frozen? ⟨wr.heap.size, 4, none⟩ = false := frozen_of_row _ _ _ _ _ e7; have E7 := hidIt e7; clear ho hb7 e7)
      obtain ⟨s8, g8⟩ := set1 E7.out 4 (.slice ua un uc)
      have hne : wr.heap.size < w5.heap.size := (Array.getElem?_eq_some_iff.1 HK5.out).1
      have F8 : Hid (Fcp (w7.setCell ⟨wr.heap.size, 4, none⟩ (.slice ua un uc)) w.heap.size (.slice oa on oc) fs L ∧ OwnI (w7.setCell ⟨wr.heap.size, 4, none⟩ (.slice ua un uc)) w.heap.size (.slice ua un uc) x.bs ∧ Below w.heap.size w (w7.setCell ⟨wr.heap.size, 4, none⟩ (.slice ua un uc))) := by
        have b7 : Below wr.heap.size wr w7 := HB5.out.trans (HB7.out.mono HB5.out.size)
        have keep : ∀ i, i < w7.heap.size → i ≠ wr.heap.size → (w7.setCell ⟨wr.heap.size, 4, none⟩ (.slice ua un uc)).heap[i]? = w7.heap[i]? := fun i hi hn => g8.block i hi (by simpa using hn)
        have b8 : Below wr.heap.size wr (w7.setCell ⟨wr.heap.size, 4, none⟩ (.slice ua un uc)) := b7.setCell (Nat.le_refl _) _
        refine ⟨HF.out.ext b8, ?_, HB.out.trans (b8.mono HB.out.size)⟩
        refine own_sameB (own_leB HO7.out (Nat.le_trans HB.out.size HB5.out.size)) (fun g hg => ?_)
        have := own_ge HO7.out hg
        exact keep g this.2 (by omega)
      have hw8s : (w7.setCell ⟨wr.heap.size, 4, none⟩ (.slice ua un uc)).heap.size = w7.heap.size := by simp
      generalize hw8 : w7.setCell ⟨wr.heap.size, 4, none⟩ (.slice ua un uc) = w8 at *
      obtain ⟨r0, r1, r2, r3, r4⟩ := cellsF s8
      have hsz : w.heap.size ≤ w8.heap.size := F8.out.2.2.size
      have HN : Hid (∀ (i : Nat) (u : Value), (faC ⟨x.st, x.kd, x.pt, x.cn, .slice ua un uc, x.bs⟩)[i]? = some u → (w8.alloc (.cells #[.int .i64 x.st, .int .i64 x.kd, .int .i64 x.pt, .int .i64 x.cn, .slice ua un uc] 62)).cell? ((⟨w8.heap.size, 0, none⟩ : Addr).add i) = some u) := fun i u hu => by
        rw [Addr.add_lit, Nat.zero_add, op_cell (heap_alloc_new _ _) rfl i]
        simpa [faC] using hu
      have H1 : Hid (∀ u ∈ faC ⟨x.st, x.kd, x.pt, x.cn, .slice ua un uc, x.bs⟩, u.oneCell' = true) := fun u hu => by
        simp [faC] at hu
        rcases hu with rfl | rfl | rfl | rfl | rfl <;> rfl
      have HX3 : Hid (L.length + 1 ≤ maxLen) := by unfold Hid maxLen; omega
      have HX4 : Hid ((L.length + 1) * 56 ≤ 140737488355328) := by unfold Hid; omega
      have HX5 : Hid (w.heap.size ≤ (w8.alloc (.cells #[.int .i64 x.st, .int .i64 x.kd, .int .i64 x.pt, .int .i64 x.cn, .slice ua un uc] 62)).heap.size) := Nat.le_trans hsz (by simp)
      clear hw8 g8 k0 k1 k2 k3 k4 m4 f4 HK5 HB5 E7 HO7 HB7 SP hw8s hne s8
      go_wp2_with (at_builtin; refine wpList_append_own (w8.alloc (.cells #[.int .i64 x.st, .int .i64 x.kd, .int .i64 x.pt, .int .i64 x.cn, .slice ua un uc] 62)) rfl _ _ 24 rfl w.heap.size 62 i0 _ 5 56 Try.underlying24 hi hz0 hz1 hz2 rfl (by decide) (.slice oa on oc) L.length (L.flatMap faC) rfl (own_ext F8.out.1.row (ext_alloc (Below.refl _ _) _)) ⟨w8.heap.size, 0, none⟩ 1 1 (faC ⟨x.st, x.kd, x.pt, x.cn, .slice ua un uc, x.bs⟩) rfl rfl HN.out H1.out HX3.out HX4.out HX5.out ?_; intro v9 w9 ho9 hg9 _; have HO9 := hidIt ho9; have HG9 := hidIt hg9; clear ho9 hg9)
      go_roundw
      case rel =>
        have a8 : Below w8.heap.size w8 (w8.alloc (.cells #[.int .i64 x.st, .int .i64 x.kd, .int .i64 x.pt, .int .i64 x.cn, .slice ua un uc] 62)) := ext_alloc (Below.refl _ _) _
        refine ⟨j + 1, L ++ [⟨x.st, x.kd, x.pt, x.cn, .slice ua un uc, x.bs⟩], by omega, by simp [hL], by go_num, (F8.out.1.ext a8).push (a := ⟨x.st, x.kd, x.pt, x.cn, .slice ua un uc, x.bs⟩) (own_ext F8.out.2.1 a8) (b := x) (by rw [hL]; exact HXJ.out) ⟨rfl, rfl, rfl, rfl, rfl⟩ HO9.out HG9.out, ?_⟩
        have z1 := F8.out.2.2.trans (a8.mono F8.out.2.2.size)
        exact z1.grown HG9.out z1.size (fun k e => (own_ge (own_ext F8.out.1.row a8) e).1)
      case measure => simp [RowKit.intOf]; omega
    · have ejk : fs.length = j := by omega
      subst ejk
      have hge : ¬ (fs.length : Int) < (fs.length : Int) := by omega
      go_wp2_with fail
      go_ret
      exact ⟨_, rfl, L, hL, HF.out, HB.out⟩
end Go.Proofs.Ytlcgagapkkdocaa
