import Derived.Test.YtmldfjhfgaggpaaJ07
import Derived.Test.YtmldfjhfgaggpaaJ08
import Derived.Test.YtmldfjhfgaggpaaJ14
import Derived.Test.YtmldfjhfgaggpaaJ18
/- The law's back. -/
namespace Go.Proofs.Ytmldfjhfgaggpaa
open Go.RowKit
variable {F : Nat → Prop}

/-- The atoms of a list that was handed in are read. -/
theorem Lst.rds {w : World} {lb : Nat} {t : List Int} (h : Lst w lb t) (hl : t.length * 8 ≤ 140737488351232) : RdS w (.slice (some ⟨lb, 0, none⟩) t.length (t.length + 100)) t := by
  obtain ⟨cur, h1, h2, h3⟩ := h
  refine ⟨⟨some ⟨lb, 0, none⟩, t.length + 100, rfl, by omega, by unfold maxLen; omega, fun hn => ⟨lb, 0, rfl, (Array.getElem?_eq_some_iff.1 h1).1, fun i hi => ?_⟩⟩, .inr ⟨_, _, _, rfl⟩⟩
  rw [cellOf h1, Nat.zero_add, h3 i (by omega), mk_low t hi]
theorem Lst.ext {w w' : World} {lb : Nat} {t : List Int} (h : Lst w lb t) (e : w'.heap[lb]? = w.heap[lb]?) : Lst w' lb t := by
  obtain ⟨cur, h1, h2⟩ := h
  exact ⟨cur, e.trans h1, h2⟩
/-- What back leaves: the row, turned, as long as it was. -/
def BkR (w : World) (lb : Nat) (w' : World) : Prop := ∃ cs cs' : Array Value, w.heap[lb]? = some (.cells cs 3 (0, 0)) ∧ w'.heap[lb]? = some (.cells cs' 3 (0, 0)) ∧ cs'.size = cs.size ∧ w.grownBy w' (some lb)
set_option maxRecDepth 100000 in
set_option maxHeartbeats 4000000 in
theorem back_any (w : World) (lb : Nat) (v : Value) (t : List Int) (hL : Lst w lb t) (hv : RdS w v t) (hl : t.length * 8 ≤ 140737488351232) :
    Calls Try.prog 65 #[.slice (some ⟨lb, 0, none⟩) (t.length + 100) (t.length + 100), v] w fun e w' => e = .returned (.bool true) ∧ BkR w lb w' := by
  obtain ⟨ao, c, rfl, _⟩ := hv.len
  have SI := hidIt (sameInts_any _ _ t w (hL.rds hl).1 hv.1)
  obtain ⟨n, hn⟩ : ∃ n : Nat, n = t.length + 100 := ⟨_, rfl⟩
  have HN := hidIt hn
  have hnb : (n : Int) ≤ 100000000000000000 := by omega
  have hnl : (t.length : Int) ≤ (n : Int) := by omega
  rw [← hn] at SI ⊢
  obtain ⟨cur, k1, k2, k3⟩ := hL
  have K1 := hidIt k1
  have K2 := hidIt k2
  have K3 := hidIt k3
  clear hv hl hn k1 k2 k3
  go_enter Try.func65, Try.ntmps65
  go_wp2_with (go_at_call 26; refine SI.out.mono ?_; rintro e w2 ⟨rfl, hb2⟩; have HB2 := hidIt hb2; clear hb2; (try dsimp only))
  go_loopw [6, 7] (fun ok i wr => ok = .bool true ∧ ∃ j : Nat, j ≤ n ∧ i = .int .i64 j ∧ Hid (∃ cu : Array Value, wr.heap[lb]? = some (.cells cu 3 (0, 0)) ∧ cu.size = cur.size ∧ (∀ k, j ≤ k → k < n → cu[k]? = some (.int .i64 (mk t k))) ∧ w.grownBy wr (some lb))) (fun _ i _ => n - (RowKit.intOf i).toNat)
  case atStart => exact ⟨rfl, 0, Nat.zero_le _, rfl, cur, (HB2.out.block lb (Array.getElem?_eq_some_iff.1 K1.out).1).trans K1.out, rfl, fun k _ hk => K3.out k (by have := HN.out; omega), ⟨HB2.out.os, HB2.out.tape, HB2.out.output, HB2.out.size, fun k hk _ => HB2.out.block k hk⟩⟩
  case round =>
    obtain ⟨rfl, j, hj, rfl, hcu⟩ := hrel
    have HCU := hidIt hcu.out
    clear hcu
    by_cases hlt : (j : Int) < (n : Int)
    · obtain ⟨cu, k1, k2, k3, k4⟩ := HCU.out
      have c1 : wr.cell? ⟨lb, j, none⟩ = some (.int .i64 (mk t j)) := (cellOf k1 j).trans (k3 j (Nat.le_refl _) (by omega))
      have fr := frozOf k1 j
      have HS := hidIt (set1 k1 j (.int .i64 (-5)))
      have K2 := hidIt k2
      have K3 := hidIt k3
      have K4 := hidIt k4
      clear k1 k2 k3 k4 HCU
      by_cases hjl : (j : Int) < (t.length : Int)
      · skip
        go_wp2_with fail
        go_roundw
        case rel =>
          refine ⟨rfl, j + 1, by omega, by go_num, _, HS.out.1, by simp [K2.out], fun k hk hkn => ?_, grown_trans K4.out HS.out.2⟩
          rw [Array.getElem?_setIfInBounds_ne (by omega)]
          exact K3.out k (by omega) hkn
        case measure => simp [RowKit.intOf]; omega
      · have hw7 : IntKind.i64.wrap (771 + (j : Int)) = 771 + (j : Int) := by rw [IntKind.wrap_i64]; omega
        rw [mk_high t (by omega)] at c1
        go_wp2_with fail
        go_roundw
        case rel =>
          refine ⟨rfl, j + 1, by omega, by go_num, _, HS.out.1, by simp [K2.out], fun k hk hkn => ?_, grown_trans K4.out HS.out.2⟩
          rw [Array.getElem?_setIfInBounds_ne (by omega)]
          exact K3.out k (by omega) hkn
        case measure => simp [RowKit.intOf]; omega
    · go_wp2_with fail
      go_ret
      obtain ⟨cu, k1, k2, k3, k4⟩ := HCU.out
      exact ⟨rfl, cur, cu, K1.out, k1, k2, k4⟩
end Go.Proofs.Ytmldfjhfgaggpaa

/- The law's writes: what holds all through. -/
namespace Go.Proofs.Ytmldfjhfgaggpaa
open Go.RowKit
variable {F : Nat → Prop}

/-- A step's five cells. -/
def stc (x : Sv) (v : Value) : Array Value := #[.int .i64 x.k, .int .i64 x.who, .int .i64 x.n, .int .i64 x.s, v]
/-- What holds all through writes. -/
structure Wr (B : Nat) (F : Nat → Prop) (N : Nat) (w : World) (g : Nat) (z : Ws) (pv : Value) (sb : Nat) (x : Sv) (v : Value) (lb : Nat) : Prop where
  wd : Wd B F N w g z pv
  st : w.heap[sb]? = some (.cells (stc x v) 47 (0, 0))
  ls : Lst w lb x.t
  rd : RdS w v x.t
  ol : x.t ≠ [] → Old B v
  fl : F lb
  sz : B ≤ w.heap.size
section
variable {B N : Nat} {w w' : World} {g : Nat} {z : Ws} {pv : Value} {sb : Nat} {x : Sv} {v : Value} {lb : Nat}
theorem Wr.drew (h : Wr B F N w g z pv sb x v lb) : Wr B F N w.drew g z pv sb x v lb :=
  ⟨h.wd.ext (Below.refl _ _).drew, h.st, h.ls, h.rd.ext (Below.refl _ _).drew, h.ol, h.fl, h.sz⟩
theorem Wr.bank (h : Wr B F N w g z pv sb x v lb) {i : Nat} (hi : i < 2) {N' : Nat} (hN : N ≤ N') {s' : Bs} (hb : Bk F w' (z.b i) (z.bm i) N' s'.m s'.p) (k : Kb (z.b i) (z.bm i) w w') (hs : Good s') : Wr B F N' w' g { z with s := setN z.s i s' } pv sb x v lb ∧ Below B w w' := by
  obtain ⟨⟨cs, hbi⟩, es, cl, hmi⟩ := (h.wd.bk i hi).typ
  have hlo := h.wd.lo.2 i hi
  have hB := k.low (B := B) hlo.1 hlo.2.1 h.sz
  obtain ⟨cur, l1, l2⟩ := h.ls
  refine ⟨⟨h.wd.bank hi hN hb k hs, ?_, ?_, h.rd.low h.ol hB, h.ol, h.fl, Nat.le_trans h.sz hB.size⟩, hB⟩
  · exact (k.same sb (Array.getElem?_eq_some_iff.1 h.st).1 (fun e => by
      rcases e with e | e
      · exact cells_ne h.st hbi (by decide) e
      · exact map_ne h.st hmi e)).trans h.st
  · refine ⟨cur, (k.same lb (Array.getElem?_eq_some_iff.1 l1).1 (fun e => by
      rcases e with e | e
      · exact cells_ne l1 hbi (by decide) e
      · exact map_ne l1 hmi e)).trans l1, l2⟩
theorem Wr.ref (h : Wr B F N w g z pv sb x v lb) {i : Nat} (hi : i < 2) {d' : Bs} (hb : Rb F w' (z.q i) d') (k : Kq (z.q i) w w') (hs : Good d') : Wr B F N w' g { z with d := setN z.d i d' } pv sb x v lb ∧ Below B w w' := by
  obtain ⟨cs, hqi⟩ := (h.wd.rb i hi).typ
  have hB := k.low (B := B) (h.wd.lo.2 i hi).2.2 h.sz
  obtain ⟨cur, l1, l2⟩ := h.ls
  refine ⟨⟨h.wd.ref hi hb k hs, ?_, ?_, h.rd.low h.ol hB, h.ol, h.fl, Nat.le_trans h.sz hB.size⟩, hB⟩
  · exact (k.same sb (Array.getElem?_eq_some_iff.1 h.st).1 (fun e => cells_ne h.st hqi (by decide) e)).trans h.st
  · exact ⟨cur, (k.same lb (Array.getElem?_eq_some_iff.1 l1).1 (fun e => cells_ne l1 hqi (by decide) e)).trans l1, l2⟩
theorem Wr.cells (h : Wr B F N w g z pv sb x v lb) {i : Nat} (hi : i < 2) : w.cell? ⟨g, i, none⟩ = some (.pointer (some ⟨z.b i, 0, none⟩)) ∧ w.cell? ⟨g, 2 + i, none⟩ = some (.pointer (some ⟨z.q i, 0, none⟩)) ∧ w.cell? ⟨sb, 0, none⟩ = some (.int .i64 x.k) ∧ w.cell? ⟨sb, 2, none⟩ = some (.int .i64 x.n) ∧ w.cell? ⟨sb, 3, none⟩ = some (.int .i64 x.s) ∧ w.cell? ⟨sb, 4, none⟩ = some v := by
  have hc := h.wd.cells
  exact ⟨hc.1 i hi, hc.2.1 i hi, (cellOf h.st 0).trans rfl, (cellOf h.st 2).trans rfl, (cellOf h.st 3).trans rfl, (cellOf h.st 4).trans rfl⟩
/-- The list is the caller's again. -/
theorem Wr.back (h : Wr B F N w g z pv sb x v lb) (hB : B ≤ lb) (hr : BkR w lb w') : Wd B F N w' g z pv ∧ Below B w w' := by
  obtain ⟨cs, cs', h1, h2, h3, h4⟩ := hr
  exact ⟨h.wd.row h.fl h1 h2 h3 h4, (Below.refl B w).grown h4 h.sz (fun k hk => by cases hk; exact hB)⟩
end
/-- Program and document hold the same. -/
def Syn (z : Ws) : Prop := ∀ i, i < 2 → z.s i = z.d i
theorem Syn.put {z : Ws} (h : Syn z) (i : Nat) (s' : Bs) : Syn { z with s := setN z.s i s', d := setN z.d i s' } := by
  intro j hj
  dsimp only
  by_cases e : j = i
  · subst e; rw [setN_same, setN_same]
  · rw [setN_other _ _ e, setN_other _ _ e]; exact h j hj
/-- What a step leaves. -/
def StR (B N : Nat) (w : World) (g : Nat) (e : Ending) (w' : World) : Prop := e = .returned (.bool true) ∧ Hid (∃ F z pv, Wd B F N w' g z pv ∧ Syn z ∧ Below B w w')
end Go.Proofs.Ytmldfjhfgaggpaa

/- The law's writes. -/
namespace Go.Proofs.Ytmldfjhfgaggpaa
open Go.RowKit
variable {F : Nat → Prop}

set_option maxRecDepth 100000 in
set_option maxHeartbeats 8000000 in
theorem writes1_any {B N : Nat} (w : World) (g : Nat) (z : Ws) (pv : Value) (i : Nat) (x : Sv) (v : Value) (hW : Wd B F N w g z pv) (hS : Syn z) (hi : i < 2) (hB : B ≤ w.heap.size) (hx : x.Ok) (hk : x.k = 1) (hv : RdS w v x.t) (ho : x.t ≠ [] → Old B v) (hN : N < 9223372036854770000) :
    Calls Try.prog 48 #[.pointer (some ⟨g, 0, none⟩), .int .i64 i, .agg (stc x v)] w (StR B (N + 9) w g) := by
  obtain ⟨ao, c, rfl, _⟩ := hv.len
  obtain ⟨w1, hw1, k0, hb1⟩ : ∃ w1, w1 = w.alloc (.cells (stc x (.slice ao x.t.length c)) 47) ∧ w1.heap[w.heap.size]? = some (.cells (stc x (.slice ao x.t.length c)) 47 (0, 0)) ∧ Below w.heap.size w w1 := ⟨_, rfl, heap_alloc_new _ _, ext_alloc (Below.refl _ _) _⟩
  obtain ⟨m, hm⟩ : ∃ m : Nat, m = x.t.length + 100 := ⟨_, rfl⟩
  have hml : (x.t.length : Int) ≤ (m : Int) := by omega
  have hB1 : B ≤ w1.heap.size := Nat.le_trans hB hb1.size
  have HD := hidIt (handed_any w1 g z pv _ x.t (hW.ext hb1) hB1 (hv.ext hb1) ho hx.t)
  unfold HnR at HD
  rw [← hm] at HD
  obtain ⟨c0, _, _, c4⟩ := cells5 k0
  have HM := hidIt hm
  have HX := hidIt hx
  have HS := hidIt hS
  have HI := hidIt hi
  have hil : (i : Int) < 2 := by omega
  have HO := hidIt ho
  have HNN := hidIt hN
  have HB1 := hidIt hb1
  have HK0 := hidIt k0
  have HFS := hidIt (show ¬ F w.heap.size from fun h => absurd (hW.fl _ h) (by omega))
  have HST := hidIt (Array.getElem?_eq_some_iff.1 k0).1
  have HBB := hidIt hB
  have HBL := hidIt (show Below B w w1 from hb1.mono hB)
  have HT := hidIt hx.t
  clear hW hS hi hB hx hv ho hN hm k0 hb1 hB1
  rw [hk] at c0
  have HKK := hidIt hk
  clear hk
  go_enter Try.func48, Try.ntmps48
  go_upto_region 1 with fail
  rw [← hw1]
  clear hw1
  go_upto_region 2 with (go_at_call 61; refine HD.out.mono ?_; rintro e w2 ⟨lb, pv2, F2, rfl, hw2, hf2, hl2, hls2, hr2, hb2, hkp2⟩; have HB2 := hidIt (HBL.out.trans hb2); have HLB := hidIt hl2; have I2 := hidIt (show Wr B F2 N w2 g z pv2 w.heap.size x (.slice ao x.t.length c) lb from ⟨hw2, (hkp2.same _ HST.out HFS.out).trans HK0.out, hls2, hr2, HO.out, hf2, by have := hb2.size; have := HB1.out.size; have := HBB.out; omega⟩); clear hw2 hf2 hl2 hls2 hr2 hb2 hkp2; (try dsimp only))
  clear c0 c4
  obtain ⟨c1, _, c0, c2, c3, c4⟩ := I2.out.cells HI.out
  rw [HKK.out] at c0
  have hsl : ((x.t.length : Int) ≤ (m : Int)) := hml
  have PY : Hid (Calls Try.prog 14 #[.pointer (some ⟨z.b i, 0, none⟩), .int .i64 x.n, .agg #[.int .i64 x.s, .slice (some ⟨lb, 0, none⟩) x.t.length m]] w2.drew (OpR F2 w2.drew (z.b i) (z.bm i) (N + 9) (yankB (z.s i) x.n ⟨x.s, x.t⟩))) := Yank_any w2.drew (z.b i) (z.bm i) N (z.s i) x.n ⟨x.s, x.t⟩ _ (I2.out.drew.wd.bk i HI.out) (by have h := I2.out.drew.ls.rds HT.out; rw [← HM.out] at h; exact h) HX.out.n (by have := HNN.out; omega)
  go_upto_region 7 with fail
  go_region_held3 (fun w' => w'.cell? ⟨g, i, none⟩ = some (.pointer (some ⟨z.b i, 0, none⟩)) ∧ w'.cell? ⟨w.heap.size, 2, none⟩ = some (.int .i64 x.n) ∧ w'.cell? ⟨w.heap.size, 3, none⟩ = some (.int .i64 x.s)) (go_keep) (first | (go_at_call 14; refine PY.out.mono ?_; rintro e w3 ⟨rfl, hb3, hk3⟩; have J3 := hidIt (I2.out.drew.bank HI.out (Nat.le_add_right N 9) hb3 hk3 ((I2.out.wd.gs i HI.out).yank _ _)); clear hb3 hk3 c0 c1 c2 c3 c4; obtain ⟨c1, c5, c0, c2, c3, c4⟩ := J3.out.1.cells HI.out; rw [HKK.out] at c0; (try dsimp only)))
  have RY : Hid (Calls Try.prog 62 #[.pointer (some ⟨z.q i, 0, none⟩), .int .i64 x.n, .int .i64 x.s, .slice ao x.t.length c] w3.drew (TkR F2 w3.drew (z.q i) (yankB (z.s i) x.n ⟨x.s, x.t⟩))) := by
    unfold Hid
    rw [HS.out i HI.out]
    exact r_Yank_any w3.drew (z.q i) (z.d i) x.n x.s _ x.t (J3.out.1.drew.wd.rb i HI.out) (J3.out.1.wd.gd i HI.out) J3.out.1.drew.rd HT.out
  clear PY
  go_upto_region 8 with fail
  go_region_held3 (fun w' => w'.cell? ⟨g, 2 + i, none⟩ = some (.pointer (some ⟨z.q i, 0, none⟩)) ∧ w'.cell? ⟨w.heap.size, 2, none⟩ = some (.int .i64 x.n) ∧ w'.cell? ⟨w.heap.size, 3, none⟩ = some (.int .i64 x.s) ∧ w'.cell? ⟨w.heap.size, 4, none⟩ = some (.slice ao x.t.length c)) (go_keep) (first | (go_at_call 62; refine RY.out.mono ?_; rintro e w4 ⟨rfl, hb4, hk4⟩; have J4 := hidIt (J3.out.1.drew.ref HI.out hb4 hk4 ((I2.out.wd.gs i HI.out).yank _ _)); clear hb4 hk4 c0 c1 c2 c3 c4 c5; obtain ⟨c1, c5, c0, c2, c3, c4⟩ := J4.out.1.cells HI.out; rw [HKK.out] at c0; (try dsimp only)))
  have BA : Hid (Calls Try.prog 65 #[.slice (some ⟨lb, 0, none⟩) m m, .slice ao x.t.length c] w4 fun e w' => e = .returned (.bool true) ∧ BkR w4 lb w') := by
    have h := back_any w4 lb _ x.t J4.out.1.ls J4.out.1.rd HT.out
    rw [← HM.out] at h
    exact h
  clear RY
  generalize yankB (z.s i) x.n ⟨x.s, x.t⟩ = res at *
  go_wp2_with (go_at_call 65; refine BA.out.mono ?_; rintro e w5 ⟨rfl, hb5⟩; have K5 := hidIt (J4.out.1.back HLB.out hb5); clear hb5; (try dsimp only))
  go_ret
  refine ⟨rfl, _, _, _, K5.out.1, HS.out.put i res.2, ?_⟩
  exact (((HB2.out.trans (Below.refl B w2).drew).trans J3.out.2).trans (Below.refl B w3).drew).trans (J4.out.2.trans K5.out.2)
end Go.Proofs.Ytmldfjhfgaggpaa

/- The law's writes. -/
namespace Go.Proofs.Ytmldfjhfgaggpaa
open Go.RowKit
variable {F : Nat → Prop}

set_option maxRecDepth 100000 in
set_option maxHeartbeats 8000000 in
theorem writes2_any {B N : Nat} (w : World) (g : Nat) (z : Ws) (pv : Value) (i : Nat) (x : Sv) (v : Value) (hW : Wd B F N w g z pv) (hS : Syn z) (hi : i < 2) (hB : B ≤ w.heap.size) (hx : x.Ok) (hk : x.k = 2) (hv : RdS w v x.t) (ho : x.t ≠ [] → Old B v) (hN : N < 9223372036854770000) :
    Calls Try.prog 48 #[.pointer (some ⟨g, 0, none⟩), .int .i64 i, .agg (stc x v)] w (StR B (N + 9) w g) := by
  obtain ⟨ao, c, rfl, _⟩ := hv.len
  obtain ⟨w1, hw1, k0, hb1⟩ : ∃ w1, w1 = w.alloc (.cells (stc x (.slice ao x.t.length c)) 47) ∧ w1.heap[w.heap.size]? = some (.cells (stc x (.slice ao x.t.length c)) 47 (0, 0)) ∧ Below w.heap.size w w1 := ⟨_, rfl, heap_alloc_new _ _, ext_alloc (Below.refl _ _) _⟩
  obtain ⟨m, hm⟩ : ∃ m : Nat, m = x.t.length + 100 := ⟨_, rfl⟩
  have hml : (x.t.length : Int) ≤ (m : Int) := by omega
  have hB1 : B ≤ w1.heap.size := Nat.le_trans hB hb1.size
  have HD := hidIt (handed_any w1 g z pv _ x.t (hW.ext hb1) hB1 (hv.ext hb1) ho hx.t)
  unfold HnR at HD
  rw [← hm] at HD
  obtain ⟨c0, _, _, c4⟩ := cells5 k0
  have HM := hidIt hm
  have HX := hidIt hx
  have HS := hidIt hS
  have HI := hidIt hi
  have hil : (i : Int) < 2 := by omega
  have HO := hidIt ho
  have HNN := hidIt hN
  have HB1 := hidIt hb1
  have HK0 := hidIt k0
  have HFS := hidIt (show ¬ F w.heap.size from fun h => absurd (hW.fl _ h) (by omega))
  have HST := hidIt (Array.getElem?_eq_some_iff.1 k0).1
  have HBB := hidIt hB
  have HBL := hidIt (show Below B w w1 from hb1.mono hB)
  have HT := hidIt hx.t
  clear hW hS hi hB hx hv ho hN hm k0 hb1 hB1
  rw [hk] at c0
  have HKK := hidIt hk
  clear hk
  go_enter Try.func48, Try.ntmps48
  go_upto_region 1 with fail
  rw [← hw1]
  clear hw1
  go_upto_region 2 with (go_at_call 61; refine HD.out.mono ?_; rintro e w2 ⟨lb, pv2, F2, rfl, hw2, hf2, hl2, hls2, hr2, hb2, hkp2⟩; have HB2 := hidIt (HBL.out.trans hb2); have HLB := hidIt hl2; have I2 := hidIt (show Wr B F2 N w2 g z pv2 w.heap.size x (.slice ao x.t.length c) lb from ⟨hw2, (hkp2.same _ HST.out HFS.out).trans HK0.out, hls2, hr2, HO.out, hf2, by have := hb2.size; have := HB1.out.size; have := HBB.out; omega⟩); clear hw2 hf2 hl2 hls2 hr2 hb2 hkp2; (try dsimp only))
  clear c0 c4
  obtain ⟨c1, _, c0, c2, c3, c4⟩ := I2.out.cells HI.out
  rw [HKK.out] at c0
  have hsl : ((x.t.length : Int) ≤ (m : Int)) := hml
  have PY : Hid (Calls Try.prog 16 #[.pointer (some ⟨z.b i, 0, none⟩), .int .i64 x.n, .agg #[.int .i64 x.s, .slice (some ⟨lb, 0, none⟩) x.t.length m]] w2.drew (OpR F2 w2.drew (z.b i) (z.bm i) (N + 9) (deleteB (z.s i) x.n ⟨x.s, x.t⟩))) := Delete_any w2.drew (z.b i) (z.bm i) N (z.s i) x.n ⟨x.s, x.t⟩ _ (I2.out.drew.wd.bk i HI.out) (by have h := I2.out.drew.ls.rds HT.out; rw [← HM.out] at h; exact h) HX.out.n (by have := HNN.out; omega)
  go_upto_region 10 with fail
  go_region_held3 (fun w' => w'.cell? ⟨g, i, none⟩ = some (.pointer (some ⟨z.b i, 0, none⟩)) ∧ w'.cell? ⟨w.heap.size, 2, none⟩ = some (.int .i64 x.n) ∧ w'.cell? ⟨w.heap.size, 3, none⟩ = some (.int .i64 x.s)) (go_keep) (first | (go_at_call 16; refine PY.out.mono ?_; rintro e w3 ⟨rfl, hb3, hk3⟩; have J3 := hidIt (I2.out.drew.bank HI.out (Nat.le_add_right N 9) hb3 hk3 ((I2.out.wd.gs i HI.out).delete _ _)); clear hb3 hk3 c0 c1 c2 c3 c4; obtain ⟨c1, c5, c0, c2, c3, c4⟩ := J3.out.1.cells HI.out; rw [HKK.out] at c0; (try dsimp only)))
  have RY : Hid (Calls Try.prog 63 #[.pointer (some ⟨z.q i, 0, none⟩), .int .i64 x.n, .int .i64 x.s, .slice ao x.t.length c] w3.drew (TkR F2 w3.drew (z.q i) (deleteB (z.s i) x.n ⟨x.s, x.t⟩))) := by
    unfold Hid
    rw [HS.out i HI.out]
    exact r_Delete_any w3.drew (z.q i) (z.d i) x.n x.s _ x.t (J3.out.1.drew.wd.rb i HI.out) (J3.out.1.wd.gd i HI.out) J3.out.1.drew.rd HT.out
  clear PY
  go_upto_region 11 with fail
  go_region_held3 (fun w' => w'.cell? ⟨g, 2 + i, none⟩ = some (.pointer (some ⟨z.q i, 0, none⟩)) ∧ w'.cell? ⟨w.heap.size, 2, none⟩ = some (.int .i64 x.n) ∧ w'.cell? ⟨w.heap.size, 3, none⟩ = some (.int .i64 x.s) ∧ w'.cell? ⟨w.heap.size, 4, none⟩ = some (.slice ao x.t.length c)) (go_keep) (first | (go_at_call 63; refine RY.out.mono ?_; rintro e w4 ⟨rfl, hb4, hk4⟩; have J4 := hidIt (J3.out.1.drew.ref HI.out hb4 hk4 ((I2.out.wd.gs i HI.out).delete _ _)); clear hb4 hk4 c0 c1 c2 c3 c4 c5; obtain ⟨c1, c5, c0, c2, c3, c4⟩ := J4.out.1.cells HI.out; rw [HKK.out] at c0; (try dsimp only)))
  have BA : Hid (Calls Try.prog 65 #[.slice (some ⟨lb, 0, none⟩) m m, .slice ao x.t.length c] w4 fun e w' => e = .returned (.bool true) ∧ BkR w4 lb w') := by
    have h := back_any w4 lb _ x.t J4.out.1.ls J4.out.1.rd HT.out
    rw [← HM.out] at h
    exact h
  clear RY
  generalize deleteB (z.s i) x.n ⟨x.s, x.t⟩ = res at *
  go_wp2_with (go_at_call 65; refine BA.out.mono ?_; rintro e w5 ⟨rfl, hb5⟩; have K5 := hidIt (J4.out.1.back HLB.out hb5); clear hb5; (try dsimp only))
  go_ret
  refine ⟨rfl, _, _, _, K5.out.1, HS.out.put i res.2, ?_⟩
  exact (((HB2.out.trans (Below.refl B w2).drew).trans J3.out.2).trans (Below.refl B w3).drew).trans (J4.out.2.trans K5.out.2)
end Go.Proofs.Ytmldfjhfgaggpaa

/- The law's writes. -/
namespace Go.Proofs.Ytmldfjhfgaggpaa
open Go.RowKit
variable {F : Nat → Prop}

set_option maxRecDepth 100000 in
set_option maxHeartbeats 8000000 in
theorem writes3_any {B N : Nat} (w : World) (g : Nat) (z : Ws) (pv : Value) (i : Nat) (x : Sv) (v : Value) (hW : Wd B F N w g z pv) (hS : Syn z) (hi : i < 2) (hB : B ≤ w.heap.size) (hx : x.Ok) (hk : x.k = 3) (hv : RdS w v x.t) (ho : x.t ≠ [] → Old B v) (hN : N < 9223372036854770000) :
    Calls Try.prog 48 #[.pointer (some ⟨g, 0, none⟩), .int .i64 i, .agg (stc x v)] w (StR B (N + 9) w g) := by
  obtain ⟨ao, c, rfl, _⟩ := hv.len
  obtain ⟨w1, hw1, k0, hb1⟩ : ∃ w1, w1 = w.alloc (.cells (stc x (.slice ao x.t.length c)) 47) ∧ w1.heap[w.heap.size]? = some (.cells (stc x (.slice ao x.t.length c)) 47 (0, 0)) ∧ Below w.heap.size w w1 := ⟨_, rfl, heap_alloc_new _ _, ext_alloc (Below.refl _ _) _⟩
  obtain ⟨m, hm⟩ : ∃ m : Nat, m = x.t.length + 100 := ⟨_, rfl⟩
  have hml : (x.t.length : Int) ≤ (m : Int) := by omega
  have hB1 : B ≤ w1.heap.size := Nat.le_trans hB hb1.size
  have HD := hidIt (handed_any w1 g z pv _ x.t (hW.ext hb1) hB1 (hv.ext hb1) ho hx.t)
  unfold HnR at HD
  rw [← hm] at HD
  obtain ⟨c0, _, _, c4⟩ := cells5 k0
  have HM := hidIt hm
  have HX := hidIt hx
  have HS := hidIt hS
  have HI := hidIt hi
  have hil : (i : Int) < 2 := by omega
  have HO := hidIt ho
  have HNN := hidIt hN
  have HB1 := hidIt hb1
  have HK0 := hidIt k0
  have HFS := hidIt (show ¬ F w.heap.size from fun h => absurd (hW.fl _ h) (by omega))
  have HST := hidIt (Array.getElem?_eq_some_iff.1 k0).1
  have HBB := hidIt hB
  have HBL := hidIt (show Below B w w1 from hb1.mono hB)
  have HT := hidIt hx.t
  clear hW hS hi hB hx hv ho hN hm k0 hb1 hB1
  rw [hk] at c0
  have HKK := hidIt hk
  clear hk
  go_enter Try.func48, Try.ntmps48
  go_upto_region 1 with fail
  rw [← hw1]
  clear hw1
  go_upto_region 2 with (go_at_call 61; refine HD.out.mono ?_; rintro e w2 ⟨lb, pv2, F2, rfl, hw2, hf2, hl2, hls2, hr2, hb2, hkp2⟩; have HB2 := hidIt (HBL.out.trans hb2); have HLB := hidIt hl2; have I2 := hidIt (show Wr B F2 N w2 g z pv2 w.heap.size x (.slice ao x.t.length c) lb from ⟨hw2, (hkp2.same _ HST.out HFS.out).trans HK0.out, hls2, hr2, HO.out, hf2, by have := hb2.size; have := HB1.out.size; have := HBB.out; omega⟩); clear hw2 hf2 hl2 hls2 hr2 hb2 hkp2; (try dsimp only))
  clear c0 c4
  obtain ⟨c1, _, c0, c2, c3, c4⟩ := I2.out.cells HI.out
  rw [HKK.out] at c0
  have hsl : ((x.t.length : Int) ≤ (m : Int)) := hml
  have PY : Hid (Calls Try.prog 18 #[.pointer (some ⟨z.b i, 0, none⟩), .int .i64 x.n, .slice (some ⟨lb, 0, none⟩) x.t.length m] w2.drew (OpR F2 w2.drew (z.b i) (z.bm i) (N + 9) (setB (z.s i) x.n x.t))) := Set_any w2.drew (z.b i) (z.bm i) N (z.s i) x.n x.t _ (I2.out.drew.wd.bk i HI.out) (by have h := I2.out.drew.ls.rds HT.out; rw [← HM.out] at h; exact h) HX.out.n (by have := HNN.out; omega)
  go_upto_region 13 with fail
  go_region_held3 (fun w' => w'.cell? ⟨g, i, none⟩ = some (.pointer (some ⟨z.b i, 0, none⟩)) ∧ w'.cell? ⟨w.heap.size, 2, none⟩ = some (.int .i64 x.n) ∧ w'.cell? ⟨w.heap.size, 3, none⟩ = some (.int .i64 x.s)) (go_keep) (first | (go_at_call 18; refine PY.out.mono ?_; rintro e w3 ⟨rfl, hb3, hk3⟩; have J3 := hidIt (I2.out.drew.bank HI.out (Nat.le_add_right N 9) hb3 hk3 ((I2.out.wd.gs i HI.out).set _ _)); clear hb3 hk3 c0 c1 c2 c3 c4; obtain ⟨c1, c5, c0, c2, c3, c4⟩ := J3.out.1.cells HI.out; rw [HKK.out] at c0; (try dsimp only)))
  have RY : Hid (Calls Try.prog 64 #[.pointer (some ⟨z.q i, 0, none⟩), .int .i64 x.n, .slice ao x.t.length c] w3.drew (TkR F2 w3.drew (z.q i) (setB (z.s i) x.n x.t))) := by
    unfold Hid
    rw [HS.out i HI.out]
    exact r_Set_any w3.drew (z.q i) (z.d i) x.n _ x.t (J3.out.1.drew.wd.rb i HI.out) (J3.out.1.wd.gd i HI.out) J3.out.1.drew.rd HT.out
  clear PY
  go_upto_region 14 with fail
  go_region_held3 (fun w' => w'.cell? ⟨g, 2 + i, none⟩ = some (.pointer (some ⟨z.q i, 0, none⟩)) ∧ w'.cell? ⟨w.heap.size, 2, none⟩ = some (.int .i64 x.n) ∧ w'.cell? ⟨w.heap.size, 3, none⟩ = some (.int .i64 x.s) ∧ w'.cell? ⟨w.heap.size, 4, none⟩ = some (.slice ao x.t.length c)) (go_keep) (first | (go_at_call 64; refine RY.out.mono ?_; rintro e w4 ⟨rfl, hb4, hk4⟩; have J4 := hidIt (J3.out.1.drew.ref HI.out hb4 hk4 ((I2.out.wd.gs i HI.out).set _ _)); clear hb4 hk4 c0 c1 c2 c3 c4 c5; obtain ⟨c1, c5, c0, c2, c3, c4⟩ := J4.out.1.cells HI.out; rw [HKK.out] at c0; (try dsimp only)))
  have BA : Hid (Calls Try.prog 65 #[.slice (some ⟨lb, 0, none⟩) m m, .slice ao x.t.length c] w4 fun e w' => e = .returned (.bool true) ∧ BkR w4 lb w') := by
    have h := back_any w4 lb _ x.t J4.out.1.ls J4.out.1.rd HT.out
    rw [← HM.out] at h
    exact h
  clear RY
  generalize setB (z.s i) x.n x.t = res at *
  go_wp2_with (go_at_call 65; refine BA.out.mono ?_; rintro e w5 ⟨rfl, hb5⟩; have K5 := hidIt (J4.out.1.back HLB.out hb5); clear hb5; (try dsimp only))
  go_ret
  refine ⟨rfl, _, _, _, K5.out.1, HS.out.put i res.2, ?_⟩
  exact (((HB2.out.trans (Below.refl B w2).drew).trans J3.out.2).trans (Below.refl B w3).drew).trans (J4.out.2.trans K5.out.2)
end Go.Proofs.Ytmldfjhfgaggpaa

/- The law's get. -/
namespace Go.Proofs.Ytmldfjhfgaggpaa
open Go.RowKit
variable {F : Nat → Prop}

set_option maxRecDepth 100000 in
set_option maxHeartbeats 8000000 in
theorem get_any {B N : Nat} (w : World) (g : Nat) (z : Ws) (pv : Value) (i : Nat) (n : Int) (hW : Wd B F N w g z pv) (hS : Syn z) (hi : i < 2) (hn : In64 n) :
    Calls Try.prog 29 #[.pointer (some ⟨g, 0, none⟩), .int .i64 i, .int .i64 n] w fun e w' => e = .returned (.bool true) ∧ Below w.heap.size w w' := by
  have hil : (i : Int) < 2 := by omega
  have c1 := hW.cells.1 i hi
  have GE := hidIt (Get_any w (z.b i) (z.bm i) N (z.s i).m (z.s i).p n (hW.bk i hi) hn)
  have HW := hidIt hW
  have RG := hidIt (fun w' (hb : Below w.heap.size w w') => r_Get_any w' (z.q i) (z.d i) n ((hW.ext hb).rb i hi) (hW.gd i hi))
  rw [← hS i hi] at RG
  have HI := hidIt hi
  clear hW hS hi hn
  rcases hgb : getB (z.s i).m (z.s i).p n with ⟨er, _ | y⟩
  · rw [hgb] at GE RG
    clear hgb
    go_enter Try.func29, Try.ntmps29
    go_upto_region 2 with (go_at_call 20; refine GE.out.mono ?_; rintro e w2 ⟨he, hb2⟩; have he2 : e = .returned (.tuple #[.agg #[.int .i64 0, .slice none 0 0], .int .i64 er]) := he; clear he; subst he2; have HB2 := hidIt hb2; clear hb2; (try dsimp only))
    generalize hw3 : World.alloc _ _ = w3
    have HB3 : Hid (Below w2.heap.size w2 w3) := by unfold Hid; rw [← hw3]; exact ext_alloc (Below.refl _ _) _
    have HK3 : Hid (w3.heap[w2.heap.size]? = some (.cells #[.int .i64 0, .slice none 0 0] 31 (0, 0))) := by unfold Hid; rw [← hw3]; exact heap_alloc_new _ _
    clear hw3 c1
    have HB13 := hidIt (ext_trans HB2.out HB3.out)
    have c5 := (HW.out.ext HB13.out).cells.2.1 i HI.out
    go_upto_region 3 with (go_at_call 51; refine (RG.out w3 HB13.out).mono ?_; rintro e w4 ⟨he, hb4⟩; have he2 : e = .returned (.tuple #[.int .i64 0, .slice none 0 0, .int .i64 er]) := he; clear he; subst he2; have HB4 := hidIt hb4; clear hb4; (try dsimp only))
    obtain ⟨_, e0, e1, _⟩ := cells2 ((HB4.out.block _ (Array.getElem?_eq_some_iff.1 HK3.out).1).trans HK3.out)
    have SI := hidIt (sameInts_any _ _ [] w4 (rds_nil w4).1 (rds_nil w4).1)
    clear c5
    go_wp2_with (go_at_call 26; refine SI.out.mono ?_; rintro e w5 ⟨rfl, hb5⟩; have HB5 := hidIt hb5; clear hb5; (try dsimp only))
    go_ret
    exact ⟨rfl, ext_trans (ext_trans HB13.out HB4.out) HB5.out⟩
  · rw [hgb] at GE RG
    clear hgb
    go_enter Try.func29, Try.ntmps29
    go_upto_region 2 with (go_at_call 20; refine GE.out.mono ?_; rintro e w2 ⟨he, hb2⟩; obtain ⟨u, he2, hu⟩ : ∃ u, e = .returned (.tuple #[.agg #[.int .i64 y.k, u], .int .i64 er]) ∧ OwnI w2 w.heap.size u y.t := he; subst he2; obtain ⟨au, nu, cu, eu⟩ := hu.form; subst eu; have HU := hidIt hu; have HB2 := hidIt hb2; clear hb2 hu; (try dsimp only))
    generalize hw3 : World.alloc _ _ = w3
    have HB3 : Hid (Below w2.heap.size w2 w3) := by unfold Hid; rw [← hw3]; exact ext_alloc (Below.refl _ _) _
    have HK3 : Hid (w3.heap[w2.heap.size]? = some (.cells #[.int .i64 y.k, .slice au nu cu] 31 (0, 0))) := by unfold Hid; rw [← hw3]; exact heap_alloc_new _ _
    clear hw3 c1
    have HB13 := hidIt (ext_trans HB2.out HB3.out)
    have c5 := (HW.out.ext HB13.out).cells.2.1 i HI.out
    go_upto_region 3 with (go_at_call 51; refine (RG.out w3 HB13.out).mono ?_; rintro e w4 ⟨he, hb4⟩; obtain ⟨u2, he2, hu2⟩ : ∃ u, e = .returned (.tuple #[.int .i64 y.k, u, .int .i64 er]) ∧ RdS w4 u y.t := he; subst he2; obtain ⟨au2, cu2, eu2, _⟩ := hu2.len; subst eu2; have HU2 := hidIt hu2; have HB4 := hidIt hb4; clear hb4 hu2; (try dsimp only))
    obtain ⟨_, e0, e1, _⟩ := cells2 ((HB4.out.block _ (Array.getElem?_eq_some_iff.1 HK3.out).1).trans HK3.out)
    have SI := hidIt (sameInts_any _ _ y.t w4 ((HU.out.ext HB3.out).ext HB4.out).rds.1 HU2.out.1)
    clear c5
    go_wp2_with (go_at_call 26; refine SI.out.mono ?_; rintro e w5 ⟨rfl, hb5⟩; have HB5 := hidIt hb5; clear hb5; (try dsimp only))
    go_ret
    exact ⟨rfl, ext_trans (ext_trans HB13.out HB4.out) HB5.out⟩
end Go.Proofs.Ytmldfjhfgaggpaa

/- A bank is copied over the other one. -/
namespace Go.Proofs.Ytmldfjhfgaggpaa
open Go.RowKit
variable {F : Nat → Prop}

theorem i64_and1 (n : Int) : bits .and .i64 n 1 = n % 2 := by
  have h3 : (BitVec.ofInt 64 1).toNat = 2 ^ 1 - 1 := by decide
  have key : (BitVec.ofInt 64 n &&& BitVec.ofInt 64 1).toNat = (n % ((2 ^ 64 : Nat) : Int)).toNat % 2 ^ 1 := by
    rw [BitVec.toNat_and, BitVec.toNat_ofInt, h3, Nat.and_two_pow_sub_one_eq_mod]
  show IntKind.i64.wrap ((BitVec.ofInt 64 n &&& BitVec.ofInt 64 1).toNat : Nat) = n % 2
  rw [key, IntKind.wrap_i64]
  omega
section
variable {B N : Nat} {w w2 : World} {g : Nat} {z : Ws} {pv : Value}
/-- Only the world's own block has turned, in a cell that is a pointer. -/
theorem Wd.cell (h : Wd B F N w g z pv) {z' : Ws} {j : Nat} {v : Value} (hblk : (#[.pointer (some ⟨z.b 0, 0, none⟩), .pointer (some ⟨z.b 1, 0, none⟩), .pointer (some ⟨z.q 0, 0, none⟩), .pointer (some ⟨z.q 1, 0, none⟩), pv] : Array Value).setIfInBounds j v = #[.pointer (some ⟨z'.b 0, 0, none⟩), .pointer (some ⟨z'.b 1, 0, none⟩), .pointer (some ⟨z'.q 0, 0, none⟩), .pointer (some ⟨z'.q 1, 0, none⟩), pv])
    (hb : ∀ i, i < 2 → Bk F w (z'.b i) (z'.bm i) N (z'.s i).m (z'.s i).p) (hr : ∀ i, i < 2 → Rb F w (z'.q i) (z'.d i)) (hgs : ∀ i, i < 2 → Good (z'.s i)) (hgd : ∀ i, i < 2 → Good (z'.d i)) (nb : z'.b 0 ≠ z'.b 1) (nm : z'.bm 0 ≠ z'.bm 1) (nq : z'.q 0 ≠ z'.q 1) (lo : ∀ i, i < 2 → B ≤ z'.b i ∧ B ≤ z'.bm i ∧ B ≤ z'.q i) :
    Wd B F N (w.setCell ⟨g, j, none⟩ v) g z' pv ∧ w.grownBy (w.setCell ⟨g, j, none⟩ v) (some g) := by
  obtain ⟨e, gr⟩ := set1 h.blk j v
  rw [hblk] at e
  have hk : Kps (fun x => x = g) w (w.setCell ⟨g, j, none⟩ v) := Kps.grown gr (fun x e _ => by cases e; rfl)
  refine ⟨⟨e, h.fg, fun i hi => ?_, fun i hi => ?_, hgs, hgd, ?_, nb, nm, nq, h.lo.1, lo⟩, gr⟩
  · obtain ⟨⟨cs', hbj⟩, es', cl', hmj⟩ := (hb i hi).typ
    refine (hb i hi).kps hk (fun x hx hlt => ?_)
    subst hx
    exact ⟨(cells_ne hbj h.blk (by decide)).symm, map_ne h.blk hmj, .inr h.fg⟩
  · obtain ⟨cs', hq⟩ := (hr i hi).typ
    refine (hr i hi).kps hk (fun x hx hlt => ?_)
    subst hx
    exact ⟨(cells_ne hq h.blk (by decide)).symm, .inr h.fg⟩
  · rcases h.pen with hp | ⟨pb, cur, hp, hf', hB, hc, hz'⟩
    · exact .inl hp
    · exact .inr ⟨pb, cur, hp, hf', hB, (hk.same pb (Array.getElem?_eq_some_iff.1 hc).1 (fun e => cells_ne hc h.blk (by decide) e)).trans hc, hz'⟩
theorem two_all {p : Nat → Prop} {i j : Nat} (hi : i < 2) (hj : j < 2) (hij : j ≠ i) (h1 : p i) (h2 : p j) : ∀ k, k < 2 → p k := fun k hk => by
  by_cases e : k = i
  · exact e ▸ h1
  · exact (show k = j by omega) ▸ h2
theorem two_apart {f : Nat → Nat} {i j x : Nat} (hi : i < 2) (hj : j < 2) (hij : j ≠ i) (h : f i ≠ x) : setN f j x 0 ≠ setN f j x 1 := by
  match i, j, hi, hj with
  | 0, 0, _, _ => exact absurd rfl hij
  | 1, 1, _, _ => exact absurd rfl hij
  | 0, 1, _, _ => rw [setN_other _ _ (by omega), setN_same]; exact h
  | 1, 0, _, _ => rw [setN_same, setN_other _ _ (by omega)]; exact h.symm
/-- The program's bank i is copied to j. -/
theorem Wd.pcopy (h : Wd B F N w g z pv) (hB : B ≤ w.heap.size) {i j : Nat} (hi : i < 2) (hj : j < 2) (hij : j ≠ i) {b2 bm2 : Nat} (hb : Below w.heap.size w w2) (l1 : w.heap.size ≤ b2) (l2 : w.heap.size ≤ bm2) (l3 : b2 < w2.heap.size)
    (hc : ∀ F' : Nat → Prop, F' b2 → (∀ q, F' q → q < w2.heap.size ∧ (F q ∨ w.heap.size ≤ q)) → Bk F' w2 b2 bm2 N (z.s i).m (z.s i).p) :
    Wd B (fun k => F k ∨ k = b2) N (w2.setCell ⟨g, j, none⟩ (.pointer (some ⟨b2, 0, none⟩))) g { z with b := setN z.b j b2, bm := setN z.bm j bm2, s := setN z.s j (z.s i) } pv ∧ w2.grownBy (w2.setCell ⟨g, j, none⟩ (.pointer (some ⟨b2, 0, none⟩))) (some g) := by
  have h2 := h.avoid hb (x := b2) l1 l3
  have hbk := hc (fun k => F k ∨ k = b2) (.inr rfl) (fun q hq => by
    rcases hq with hq | rfl
    · exact ⟨Nat.lt_of_lt_of_le (h.fl q hq) hb.size, .inl hq⟩
    · exact ⟨l3, .inr l1⟩)
  have hlt := (h.bk i hi).lt
  refine h2.cell ?_ ?_ h2.rb ?_ h2.gd (two_apart hi hj hij (by omega)) (two_apart hi hj hij (by omega)) h2.nq ?_
  · match j, hj with
    | 0, _ => rfl
    | 1, _ => rfl
  · refine two_all hi hj hij ?_ ?_
    · dsimp only
      rw [setN_other _ _ (Ne.symm hij), setN_other _ _ (Ne.symm hij), setN_other _ _ (Ne.symm hij)]
      exact h2.bk i hi
    · dsimp only
      rw [setN_same, setN_same, setN_same]
      exact hbk
  · refine two_all hi hj hij ?_ ?_
    · dsimp only
      rw [setN_other _ _ (Ne.symm hij)]
      exact h.gs i hi
    · dsimp only
      rw [setN_same]
      exact h.gs i hi
  · refine two_all hi hj hij ?_ ?_
    · dsimp only
      rw [setN_other _ _ (Ne.symm hij), setN_other _ _ (Ne.symm hij)]
      exact h.lo.2 i hi
    · dsimp only
      rw [setN_same, setN_same]
      exact ⟨by omega, by omega, (h.lo.2 j hj).2.2⟩
/-- The document's bank i is copied to j. -/
theorem Wd.rcopy (h : Wd B F N w g z pv) (hB : B ≤ w.heap.size) {i j : Nat} (hi : i < 2) (hj : j < 2) (hij : j ≠ i) {q2 : Nat} (hb : Below w.heap.size w w2) (l1 : w.heap.size ≤ q2) (l3 : q2 < w2.heap.size)
    (hc : ∀ F' : Nat → Prop, F' q2 → (∀ q, F' q → q < w2.heap.size ∧ (F q ∨ w.heap.size ≤ q)) → Rb F' w2 q2 (z.d i)) :
    Wd B (fun k => F k ∨ k = q2) N (w2.setCell ⟨g, 2 + j, none⟩ (.pointer (some ⟨q2, 0, none⟩))) g { z with q := setN z.q j q2, d := setN z.d j (z.d i) } pv ∧ w2.grownBy (w2.setCell ⟨g, 2 + j, none⟩ (.pointer (some ⟨q2, 0, none⟩))) (some g) := by
  have h2 := h.avoid hb (x := q2) l1 l3
  have hrb := hc (fun k => F k ∨ k = q2) (.inr rfl) (fun q hq => by
    rcases hq with hq | rfl
    · exact ⟨Nat.lt_of_lt_of_le (h.fl q hq) hb.size, .inl hq⟩
    · exact ⟨l3, .inr l1⟩)
  have hlt := (h.rb i hi).lt
  refine h2.cell ?_ h2.bk ?_ h2.gs ?_ h2.nb h2.nm (two_apart hi hj hij (by omega)) ?_
  · match j, hj with
    | 0, _ => rfl
    | 1, _ => rfl
  · refine two_all hi hj hij ?_ ?_
    · dsimp only
      rw [setN_other _ _ (Ne.symm hij), setN_other _ _ (Ne.symm hij)]
      exact h2.rb i hi
    · dsimp only
      rw [setN_same, setN_same]
      exact hrb
  · refine two_all hi hj hij ?_ ?_
    · dsimp only
      rw [setN_other _ _ (Ne.symm hij)]
      exact h.gd i hi
    · dsimp only
      rw [setN_same]
      exact h.gd i hi
  · refine two_all hi hj hij ?_ ?_
    · dsimp only
      rw [setN_other _ _ (Ne.symm hij)]
      exact h.lo.2 i hi
    · dsimp only
      rw [setN_same]
      exact ⟨(h.lo.2 j hj).1, (h.lo.2 j hj).2.1, by omega⟩
end
end Go.Proofs.Ytmldfjhfgaggpaa
