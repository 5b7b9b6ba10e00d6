/- The law's handed. -/
import Derived.Test.YtmldfjhfgaggpaaGWd
import Derived.Laws.CopyOwn
import Derived.OwnWalk
import Derived.Deep.CutRange
import Derived.Laws.Cover3
namespace Go.Proofs.Ytmldfjhfgaggpaa
open Go.RowKit
variable {F : Nat → Prop}

/-- A list that is handed in: its atoms, and marks behind them. -/
def mk (t : List Int) (j : Nat) : Int := if j < t.length then t[j]?.getD 0 else 771 + (j : Int)
def Lst (w : World) (lb : Nat) (t : List Int) : Prop := ∃ cur : Array Value, w.heap[lb]? = some (.cells cur 3 (0, 0)) ∧ t.length + 100 ≤ cur.size ∧ ∀ j, j < t.length + 100 → cur[j]? = some (.int .i64 (mk t j))
/-- What a slice of a text's lies in is older than B. -/
def Old (B : Nat) (v : Value) : Prop := ∀ g off n c, v = .slice (some ⟨g, off, none⟩) n c → g < B
theorem Old.off {B : Nat} {v : Value} (h : Old B v) {x : Nat} (hx : B ≤ x) : Off v x := fun g off n c e => by have := h g off n c e; omega
theorem RdS.old {w : World} {v : Value} {t : List Int} (h : RdS w v t) (hn : t ≠ []) : Old w.heap.size v := fun g off n c e => by
  obtain ⟨g', off', c', fv, fb, _⟩ := h.last hn
  rw [e] at fv
  cases fv
  exact fb
theorem RdS.low {w w' : World} {B : Nat} {v : Value} {t : List Int} (h : RdS w v t) (ho : t ≠ [] → Old B v) (hb : Below B w w') : RdS w' v t := by
  obtain ⟨⟨ao, cap, hv, h1, h2, h3⟩, hs⟩ := h
  refine ⟨⟨ao, cap, hv, h1, h2, fun hn => ?_⟩, hs⟩
  obtain ⟨b, off, rfl, hbl, hc⟩ := h3 hn
  refine ⟨b, off, rfl, Nat.lt_of_lt_of_le hbl hb.size, fun i hi => ?_⟩
  have e := hb.block b (ho hn b off t.length cap hv)
  rw [← hc i hi]
  unfold World.cell?
  simp only [e]
section
variable {P : Program} {W : World} {ops : Array Oper} {rest : List Oper} {o : Oper} {a : Act} {Q : Exit → Act → World → Prop}
/-- copy of ints into a row. -/
theorem wpl_copyI (hgd : o.guard = none) (d s : Operand) (T : TypeId) (ho : o.op = .call { callee := .builtin .copy, args := #[d, s], argTypes := #[T, T] })
    (hinf : (P.info? 3).map (·.size) = some 1) (ht : P.underlying T = some (.slice 3)) (g n c : Nat) (hd : a.eval d = .slice (some ⟨g, 0, none⟩) n c) (u : Value) (t : List Int) (hs : a.eval s = u) (hu : RdS W u t) (hn : t.length ≤ n)
    (cur : Array Value) (hg : W.heap[g]? = some (.cells cur 3 (0, 0))) (hz : t.length ≤ cur.size)
    (h : ∀ w' (cur' : Array Value), w'.heap[g]? = some (.cells cur' 3 (0, 0)) → cur'.size = cur.size → (∀ j, j < t.length → cur'[j]? = some (.int .i64 (t[j]?.getD 0))) → W.grownBy w' (some g) → wpList P ops Q rest (a.put o.dst (goInt t.length)) w') : wpList P ops Q (o :: rest) a W := by
  by_cases hne : t = []
  · subst hne
    obtain ⟨ao, c', rfl, _⟩ := hu.len
    refine wpList_copy_nothing hgd d s T T ho 3 ht hinf _ _ _ _ _ _ hd hs (by simp) ?_
    exact h W cur hg rfl (fun j hj => by simp at hj) ⟨rfl, rfl, rfl, Nat.le_refl _, fun _ _ _ => rfl⟩
  · obtain ⟨b, off, c', rfl, _, _, _, hc⟩ := hu.last hne
    refine wpList_copy_own hgd d s T T ho 3 ht hinf g 0 n c ⟨b, off, none⟩ t.length c' hd hs cur 3 hg (t.map (Value.int .i64)) (by rw [List.length_map]; exact (Nat.min_eq_left hn).symm) (fun j v hj => ?_) (by simpa using hz) (one_all _ _) ?_
    · rw [Addr.add_lit]
      have hjl : j < t.length := by have := (List.getElem?_eq_some_iff.1 hj).1; simpa using this
      rw [hc j hjl]
      rw [List.getElem?_map] at hj
      obtain ⟨x, hx, rfl⟩ := Option.map_eq_some_iff.1 hj
      rw [hx]
      rfl
    · rw [List.length_map]
      refine h _ _ (setRow_heap W g _ _ _ _ hg) ?_ (fun j hj => ?_) ⟨rfl, rfl, rfl, by simp [World.setRow], fun k _ hk => setRow_other W g k _ (by intro e; subst e; exact hk rfl)⟩
      · simp; omega
      · rw [List.getElem?_toArray, List.take_zero, List.nil_append, List.getElem?_append_left (by simpa using hj)]
        simp [hj]
end
theorem mk_low (t : List Int) {j : Nat} (h : j < t.length) : mk t j = t[j]?.getD 0 := by unfold mk; rw [if_pos h]
theorem mk_high (t : List Int) {j : Nat} (h : t.length ≤ j) : mk t j = 771 + (j : Int) := by unfold mk; rw [if_neg (by omega)]
theorem row_new {w : World} {base x n : Nat} {xs : List Value} (h : w.ownsRow base 3 1 (.slice (some ⟨x, 0, none⟩) n n) n xs) : ∃ cur : Array Value, w.heap[x]? = some (.cells cur 3 (0, 0)) ∧ cur.size = n := by
  rcases h.2 with ⟨h, _⟩ | ⟨g', cap, cur, h, _, hb, _, _, hs, _⟩
  · cases h
  · cases h; exact ⟨cur, hb, by omega⟩
theorem eql_nil (w : World) (a : Option Addr) (l c : Nat) : (binOp .eql 29 (.slice a l c) (.slice none 0 0)).run Try.prog w = .ok (.bool a.isNone) w := by
  unfold binOp
  simp [run_equal_slice_nil w 29 3 a l c Try.underlying29]
/-- What handed answers. -/
def HnR (F0 : Nat → Prop) (B N : Nat) (w : World) (g : Nat) (z : Ws) (v : Value) (t : List Int) (e : Ending) (w' : World) : Prop := ∃ lb pv F, e = .returned (.slice (some ⟨lb, 0, none⟩) (t.length + 100) (t.length + 100)) ∧ Wd B F N w' g z pv ∧ F lb ∧ B ≤ lb ∧ Lst w' lb t ∧ RdS w' v t ∧ Below B w w' ∧ Kps F0 w w'
set_option maxRecDepth 100000 in
set_option maxHeartbeats 4000000 in
theorem handed_any {B N : Nat} (w : World) (g : Nat) (z : Ws) (pv : Value) (v : Value) (t : List Int) (hW : Wd B F N w g z pv) (hB : B ≤ w.heap.size) (hv : RdS w v t) (ho : t ≠ [] → Old B v) (hl : t.length * 8 ≤ 140737488351232) :
    Calls Try.prog 61 #[.pointer (some ⟨g, 0, none⟩), v] w (HnR F B N w g z v t) := by
  obtain ⟨i0, hi, hz0, hz1, hz2⟩ := info_parts Try.info_i64
  obtain ⟨ao, c, rfl, _⟩ := hv.len
  obtain ⟨n, hn⟩ : ∃ n : Nat, n = t.length + 100 := ⟨_, rfl⟩
  have hwr : IntKind.i64.wrap ((t.length : Int) + 100) = (n : Int) := by rw [IntKind.wrap_i64]; omega
  have HN := hidIt hn
  have HL := hidIt hl
  have HWD := hidIt hW
  have HV := hidIt hv
  have HO := hidIt ho
  have HB := hidIt hB
  clear hn hl hW hv ho hB
  go_enter Try.func61, Try.ntmps61
  go_upto_if 14 with (at_make; refine wpList_make_full _ rfl _ _ 29 rfl w.heap.size 3 i0 (.int .i64 0) 1 Try.underlying29 hi hz0 hz1 _ _ _ _ n rfl rfl rfl rfl (by have := HN.out; have := HL.out; rw [hz2]; omega) (by have := HN.out; have := HL.out; unfold maxLen; omega) (Nat.le_refl _) ?_; intro w1 hrow1 hg1)
  have HB1 := hidIt (show Below w.heap.size w w1 from ⟨hg1.os, hg1.tape, hg1.output, hg1.size, fun k hk => hg1.block k hk (by simp)⟩)
  have HR1 : Hid (∃ cur : Array Value, w1.heap[w.heap.size]? = some (.cells cur 3 (0, 0)) ∧ n ≤ cur.size) := by
    rcases hrow1.2 with ⟨h, _⟩ | ⟨g', cap, cur, h, _, hb, _, _, hs, _⟩
    · cases h
    · cases h; exact ⟨cur, hb, by omega⟩
  clear hrow1 hg1
  have hcell := (HWD.out.ext HB1.out).cells
  obtain ⟨_, _, hp4, hfz⟩ := hcell
  have hq := fun w a l c => eql_nil w a l c
  have HBB := hidIt (show Below B w w1 from HB1.out.mono HB.out)
  go_cut [6] from 14 to 30 (fun v6 wF => ∃ lb : Nat, v6 = .slice (some ⟨lb, 0, none⟩) n n ∧ Hid (∃ pv' F', Wd B F' N wF g z pv' ∧ F' lb ∧ B ≤ lb ∧ (∃ cur : Array Value, wF.heap[lb]? = some (.cells cur 3 (0, 0)) ∧ n ≤ cur.size) ∧ RdS wF (.slice ao t.length c) t ∧ Below B w wF ∧ Kps F w wF ∧ (F lb ∨ w.heap.size ≤ lb)))
  case first =>
    by_cases h3 : (n : Int) ≤ 300
    · rcases HWD.out.pen with rfl | ⟨pb, cur, rfl, hfp, hBp, hc, hz⟩
      · go_wp2_with (at_make; refine wpList_make_full _ rfl _ _ 29 rfl w1.heap.size 3 i0 (.int .i64 0) 1 Try.underlying29 hi hz0 hz1 _ _ _ _ 300 rfl rfl rfl rfl (by rw [hz2]; omega) (by unfold maxLen; omega) (Nat.le_refl _) ?_; intro w2 hrow2 hg2; have HB2 := hidIt (show Below w1.heap.size w1 w2 from ⟨hg2.os, hg2.tape, hg2.output, hg2.size, fun k hk => hg2.block k hk (by simp)⟩); obtain ⟨cur2, hc2, hz2'⟩ := row_new hrow2; have HC2 := hidIt hc2; have HZ2 := hidIt hz2'; have HW2 := hidIt ((HWD.out.ext HB1.out).avoid HB2.out (x := w1.heap.size) (Nat.le_refl _) (Array.getElem?_eq_some_iff.1 hc2).1); clear hrow2 hg2 hc2 hz2' hp4 hfz; obtain ⟨_, _, hp4, hfz⟩ := HW2.out.cells)
        go_meet
        case rel =>
          have hp := HW2.out.penned (.inr rfl) (by have := HB.out; have := HB1.out.size; omega) HC2.out HZ2.out
          have hg4 : B ≤ g := HWD.out.lo.1
          refine ⟨_, rfl, _, _, hp.1, .inr rfl, by have := HB.out; have := HB1.out.size; omega, ⟨cur2, ?_, by have := HZ2.out; omega⟩, ?_, ?_, ?_, .inr HB1.out.size⟩
          · exact (hp.2.block _ (Array.getElem?_eq_some_iff.1 HC2.out).1 (by simp; exact cells_ne HC2.out HW2.out.blk (by decide))).trans HC2.out
          · exact ((HV.out.ext HB1.out).ext HB2.out).other hp.2 (fun hn => (HO.out hn).off hg4)
          · exact (HBB.out.trans (HB2.out.mono (by have := HB.out; have := HB1.out.size; omega))).grown hp.2 (by have := HB.out; have := HB1.out.size; have := HB2.out.size; omega) (fun k hk => by cases hk; exact hg4)
          · exact (Kps.of_below F (ext_trans HB1.out HB2.out)).trans (Kps.grown (o := F) hp.2 (fun k hk _ => by cases hk; exact HWD.out.fg)) (fun _ _ h => h)
      · go_wp2_with fail
        go_meet
        case rel => exact ⟨pb, rfl, _, F, (HWD.out.ext HB1.out), hfp, hBp, ⟨cur, (HB1.out.block pb (Array.getElem?_eq_some_iff.1 hc).1).trans hc, by omega⟩, HV.out.ext HB1.out, HBB.out, Kps.of_below F HB1.out, .inl hfp⟩
    · go_wp2_with fail
      go_meet
      case rel => exact ⟨w.heap.size, rfl, pv, _, HWD.out.avoid HB1.out (Nat.le_refl _) (by obtain ⟨cur, h, _⟩ := HR1.out; exact (Array.getElem?_eq_some_iff.1 h).1), .inr rfl, HB.out, HR1.out, HV.out.ext HB1.out, HBB.out, Kps.of_below F HB1.out, .inr (Nat.le_refl _)⟩
  obtain ⟨lb, rfl, hcut2⟩ := hcut
  obtain ⟨pv', F', hw', hf', hB', ⟨cur, hc, hz⟩, hr', hbl', hkp', hlw'⟩ := hcut2.out
  have HKP := hidIt hkp'
  have HLW := hidIt hlw'
  have hnb : (n : Int) ≤ 100000000000000000 := by have := HN.out; have := HL.out; omega
  have HNN := hidIt (show t.length ≤ n ∧ t.length + 100 = n by have := HN.out; omega)
  have HW3 := hidIt hw'
  have HF := hidIt hf'
  have HBL := hidIt hB'
  have HC := hidIt hc
  have HZ := hidIt hz
  have HR3 := hidIt hr'
  have HB3 := hidIt hbl'
  have hsz : Hid ((Try.prog.info? 3).map (·.size) = some 1) := by unfold Hid; rw [hi]; simp [hz1]
  clear hcut2 hp4 hfz hw' hf' hB' hc hz hr' hbl' hkp' hlw' HR1 HB1 HBB hq hi hz0 hz1 hz2
  go_wp2_with (refine wpl_copyI rfl _ _ 29 rfl hsz.out Try.underlying29 lb n n rfl _ t rfl HR3.out HNN.out.1 cur HC.out (by have := HZ.out; have := HNN.out; omega) ?_; intro w5 cur5 h5 hz5 hcp hg5; have H5 := hidIt h5; have HZ5 := hidIt hz5; have HCP := hidIt hcp; have HG5 := hidIt hg5; clear h5 hz5 hcp hg5)
  go_loopw [7] (fun i wr => ∃ j : Nat, t.length ≤ j ∧ j ≤ n ∧ i = .int .i64 j ∧ Hid (∃ cu : Array Value, wr.heap[lb]? = some (.cells cu 3 (0, 0)) ∧ cu.size = cur.size ∧ (∀ k, k < j → cu[k]? = some (.int .i64 (mk t k))) ∧ wc.grownBy wr (some lb))) (fun i _ => n - (RowKit.intOf i).toNat)
  case atStart => exact ⟨t.length, Nat.le_refl _, HNN.out.1, rfl, cur5, H5.out, HZ5.out, fun k hk => by rw [HCP.out k hk, mk_low t hk], HG5.out⟩
  case round =>
    obtain ⟨j, hj0, hj, rfl, hcu⟩ := hrel
    have HCU := hidIt hcu.out
    clear hcu
    by_cases hlt : (j : Int) < (n : Int)
    · obtain ⟨cu, k1, k2, k3, k4⟩ := HCU.out
      have hj2 : j < cu.size := by have := HZ.out; omega
      obtain ⟨x, hx⟩ : ∃ x, cu[j]? = some x := ⟨_, Array.getElem?_eq_getElem hj2⟩
      have c1 : wr.cell? ⟨lb, j, none⟩ = some x := (cellOf k1 j).trans hx
      have fr := frozOf k1 j
      have hw7 : IntKind.i64.wrap (771 + (j : Int)) = 771 + (j : Int) := by have := HNN.out; have := HL.out; rw [IntKind.wrap_i64]; omega
      have HS := hidIt (set1 k1 j (.int .i64 (771 + (j : Int))))
      have K1 := hidIt k1
      have K2 := hidIt k2
      have K3 := hidIt k3
      have K4 := hidIt k4
      have HX := hidIt hj2
      clear k1 k2 k3 k4 hx hj2 HCU
      go_wp2_with fail
      go_roundw
      case rel =>
        refine ⟨j + 1, by omega, by omega, by go_num, _, HS.out.1, by simp [K2.out], fun k hk => ?_, grown_trans K4.out HS.out.2⟩
        by_cases e : k = j
        · subst e
          rw [Array.getElem?_setIfInBounds_self_of_lt HX.out, mk_high t hj0]
        · rw [Array.getElem?_setIfInBounds_ne (by omega)]
          exact K3.out k (by omega)
      case measure => simp [RowKit.intOf]; omega
    · have hje : j = n := by omega
      subst hje
      go_wp2_with fail
      go_ret
      obtain ⟨cu, k1, k2, k3, k4⟩ := HCU.out
      have hn := HN.out
      refine ⟨lb, pv', F', by rw [← hn]; rfl, HW3.out.row HF.out HC.out k1 k2 k4, HF.out, HBL.out, ⟨cu, k1, by have := HZ.out; omega, fun k hk => k3 k (by omega)⟩, HR3.out.other k4 (fun hx => (HO.out hx).off HBL.out), ?_, ?_⟩
      · exact HB3.out.grown k4 (by have := HB.out; have := HB3.out.size; omega) (fun k hk => by cases hk; exact HBL.out)
      · refine HKP.out.trans (Kps.grown (o := fun k => k = lb) k4 (fun k hk _ => by cases hk; rfl)) (fun k hk e => ?_)
        subst e
        rcases HLW.out with h | h
        · exact h
        · omega
end Go.Proofs.Ytmldfjhfgaggpaa
