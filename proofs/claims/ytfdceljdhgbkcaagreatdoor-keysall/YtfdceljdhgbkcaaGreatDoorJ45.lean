import Derived.Test.YtfdceljdhgbkcaaGreatDoorJ40
import Derived.Test.YtfdceljdhgbkcaaGreatDoorJ30
import Derived.Test.YtfdceljdhgbkcaaGreatDoorJ00
import Derived.ProofKit
import Derived.OpenShut
import Derived.ChangeOld
import Derived.SizedLaws
import Derived.Below
import Derived.Laws.Cover2
/- What the rows' proofs share: a slice of integers that came in. -/
namespace Go.Proofs.YtfdceljdhgbkcaaGreatDoor
open Go.ChangeShapes Go.WideShapes Go.ChangeAt Go.RowKit

theorem ownK : ownKnob Tryz.prog.godebug = none := by kernel_rfl
theorem laidOutK : laidOutB Tryz.prog = true := by kernel_rfl
theorem bytesK_i64 : Tryz.prog.bytesOf 3 = 8 := by kernel_rfl

/-- A slice of integers that came in: it reads as a list; each number fits its kind; its datum has as many elements. -/
theorem rd_of {H : Type} {enc : TypeId × Value → H} {W : World} {t e : TypeId} {k : IntKind} {a0 : Option Addr} {len0 cap0 : Nat} {d : DataW H} {p : List MemPlace}
    (ht : Tryz.prog.underlying t = some (.slice e)) (he : Tryz.prog.underlying e = some (.int k)) (hc : Tryz.prog.cellsOf e = 1)
    (h : DataW.Trod enc Tryz.prog W 0 (fun _ => true) true t (.slice a0 len0 cap0) d p) :
    ∃ zs, Rd k W (.slice a0 len0 cap0) zs ∧ (∀ n ∈ zs, (Lit.int k n).wf = true) ∧ (zs = [] ∨ ∃ el sp, d = .slice el sp ∧ el.length = zs.length) := by
  obtain ⟨fuel, hf⟩ := h
  rcases open_ints ht he hc hf with ⟨hcs, _⟩ | ⟨x, l, c, zs, hcs, _, hl, hm, hz, hx, hcell, hwz⟩
  · simp [Value.cells] at hcs
    obtain ⟨rfl, rfl, rfl⟩ := hcs
    exact ⟨[], ⟨none, 0, rfl, Nat.le_refl _, by simp [maxLen], fun h => absurd rfl h⟩, by simp, .inl rfl⟩
  · simp [Value.cells] at hcs
    obtain ⟨rfl, rfl, rfl⟩ := hcs
    simp at hz
    have hlen : (zs.take len0).length = len0 := by rw [List.length_take]; omega
    refine ⟨zs.take len0, ⟨some x, cap0, by rw [hlen], by omega, hm, fun hn => ?_⟩, fun n hn => hwz n (List.mem_of_mem_take hn), .inr ⟨_, _, (Prod.mk.inj hx).1, by simp [lits]⟩⟩
    have hpos : 0 < len0 := by
      rcases Nat.eq_zero_or_pos len0 with h | h
      · subst h; simp at hn
      · exact h
    obtain ⟨b, off, spot⟩ := x
    have hc0 := hcell 0 (by omega)
    have hspot : spot = none := by simpa [Addr.add] using World.cell?_spot hc0
    subst hspot
    refine ⟨b, off, rfl, World.block_lt_of_cell? W _ (by simpa [Addr.add] using hc0), fun i hi => ?_⟩
    rw [hlen] at hi
    have := hcell i (by omega)
    rw [Addr.add_lit] at this
    rw [this, List.getElem?_take, if_pos hi]
    simp [List.getD]

theorem sl_of {H : Type} {enc : TypeId × Value → H} {W : World} {a0 : Option Addr} {len0 cap0 : Nat} {d : DataW H} {p : List MemPlace} (h : DataW.Trod enc Tryz.prog W 0 (fun _ => true) true 38 (.slice a0 len0 cap0) d p) : Sl (.slice a0 len0 cap0) := by
  obtain ⟨fuel, hf⟩ := h
  rcases DataW.trod_slice Tryz.underlying38 hf with ⟨hcs, _⟩ | ⟨x, l, c, elems, rest, n, _, hcs, _⟩
  · simp [Value.cells] at hcs
    obtain ⟨rfl, rfl, rfl⟩ := hcs
    exact .inl rfl
  · simp [Value.cells] at hcs
    obtain ⟨rfl, rfl, rfl⟩ := hcs
    exact .inr ⟨_, _, _, rfl⟩
theorem in64_of {a : Int} (h : (Lit.int .i64 a).wf = true) : -9223372036854775808 ≤ a ∧ a ≤ 9223372036854775807 := by
  simp only [Lit.wf, Bool.and_eq_true, decide_eq_true_eq] at h
  have h1 : IntKind.i64.min = -9223372036854775808 := by decide
  have h2 : IntKind.i64.max = 9223372036854775807 := by decide
  rw [h1, h2] at h
  exact h

end Go.Proofs.YtfdceljdhgbkcaaGreatDoor

/- Scripts of steps that came in; the law's fits. -/
namespace Go.Proofs.YtfdceljdhgbkcaaGreatDoor
open Go.ChangeShapes Go.WideShapes Go.ChangeAt Go.RowKit
/-- A step of a script. -/
structure Ko where
  k : Int
  who : Int
  md : Int
  ky : Int
structure Ko.Ok (x : Ko) : Prop where
  k : In64 x.k
  who : In64 x.who
  md : In64 x.md
  ky : In64 x.ky
/-- What is read of its four cells. -/
structure KoC (w : World) (b o : Nat) (x : Ko) : Prop where
  c0 : w.cell? ⟨b, o, none⟩ = some (.int .i64 x.k)
  c1 : w.cell? ⟨b, o + 1, none⟩ = some (.int .i64 x.who)
  c2 : w.cell? ⟨b, o + 2, none⟩ = some (.int .i64 x.md)
  c3 : w.cell? ⟨b, o + 3, none⟩ = some (.int .i64 x.ky)
/-- The slice v holds the script xs. -/
def RdK (w : World) (v : Value) (xs : List Ko) : Prop := ∃ ao cap, v = .slice ao xs.length cap ∧ xs.length ≤ cap ∧ cap ≤ 9223372036854775807 ∧ xs.length ≤ 4398046511104 ∧ (∀ x ∈ xs, x.Ok) ∧ (xs ≠ [] → ∃ b off, ao = some ⟨b, off, none⟩ ∧ b < w.heap.size ∧ ∀ i x, xs[i]? = some x → KoC w b (off + i * 4) x)
theorem KoC.low {w w' : World} {n b o : Nat} {x : Ko} (h : KoC w b o x) (hl : b < n) (hb : Below n w w') : KoC w' b o x :=
  ⟨(hb.cell (p := ⟨b, _, none⟩) hl).trans h.c0, (hb.cell (p := ⟨b, _, none⟩) hl).trans h.c1, (hb.cell (p := ⟨b, _, none⟩) hl).trans h.c2, (hb.cell (p := ⟨b, _, none⟩) hl).trans h.c3⟩
theorem RdK.ext {w w' : World} {v : Value} {xs : List Ko} (h : RdK w v xs) (hb : Below w.heap.size w w') : RdK w' v xs := by
  obtain ⟨ao, cap, h1, h2, h3, h4, h5, h6⟩ := h
  refine ⟨ao, cap, h1, h2, h3, h4, h5, fun hn => ?_⟩
  obtain ⟨b, o, k1, k2, k3⟩ := h6 hn
  exact ⟨b, o, k1, Nat.lt_of_lt_of_le k2 hb.size, fun i x hx => (k3 i x hx).low k2 hb⟩
theorem bytesK_ko : Tryz.prog.bytesOf 30 = 32 := by kernel_rfl
theorem cKi : Tryz.prog.cellsOf 3 = 1 := by kernel_rfl
theorem cKo : Tryz.prog.cellsOf 30 = 4 := by kernel_rfl
abbrev koC (x : Ko) : List Value := [.int .i64 x.k, .int .i64 x.who, .int .i64 x.md, .int .i64 x.ky]
set_option maxRecDepth 100000 in
theorem ko_cells {H : Type} {enc : TypeId × Value → H} {w : World} {fuel : Nat} {cs : List Value} {x : DataW H × List MemPlace}
    (h : DataW.trod enc Tryz.prog w 0 (fun _ => true) true fuel 30 cs = some x) : ∃ o : Ko, cs = koC o ∧ o.Ok := by
  obtain ⟨xs, n, rfl, hx, hl, hxl, hall⟩ := DataW.trod_struct Tryz.underlying30 h
  match xs, hxl with
  | [x0, x1, x2, x3], _ =>
    obtain ⟨k0, e0, r0, w0⟩ := DataW.trod_int Tryz.underlying3 (hall 0 _ rfl)
    obtain ⟨k1, e1, r1, w1⟩ := DataW.trod_int Tryz.underlying3 (hall 1 _ rfl)
    obtain ⟨k2, e2, r2, w2⟩ := DataW.trod_int Tryz.underlying3 (hall 2 _ rfl)
    obtain ⟨k3, e3, r3, w3⟩ := DataW.trod_int Tryz.underlying3 (hall 3 _ rfl)
    have e0' : (cs.drop 0).take (Tryz.prog.cellsOf 3) = [.int .i64 k0] := e0
    have e1' : (cs.drop 1).take (Tryz.prog.cellsOf 3) = [.int .i64 k1] := e1
    have e2' : (cs.drop 2).take (Tryz.prog.cellsOf 3) = [.int .i64 k2] := e2
    have e3' : (cs.drop 3).take (Tryz.prog.cellsOf 3) = [.int .i64 k3] := e3
    rw [cKo] at hl
    rw [cKi] at e0' e1' e2' e3'
    match cs, hl with
    | [c0, c1, c2, c3], _ =>
      simp at e0' e1' e2' e3'
      subst e0'; subst e1'; subst e2'; subst e3'
      exact ⟨⟨k0, k1, k2, k3⟩, rfl, ⟨w0, w1, w2, w3⟩⟩
set_option maxRecDepth 100000 in
theorem script_of {H : Type} {enc : TypeId × Value → H} {W : World} {a0 : Option Addr} {len0 cap0 : Nat} {d : DataW H} {p : List MemPlace}
    (h : DataW.Trod enc Tryz.prog W 0 (fun _ => true) true 22 (.slice a0 len0 cap0) d p) (hw : ∀ n ∈ d.weights Tryz.prog 22, n ≤ reachBytes) :
    ∃ os, RdK W (.slice a0 len0 cap0) os := by
  obtain ⟨fuel, hf⟩ := h
  rcases DataW.trod_slice Tryz.underlying22 hf with ⟨hcs, _⟩ | ⟨x, l, c, elems, rest, n, _, hcs, hx, hb, hl, hm, hlen, hel, _, _⟩
  · simp [Value.cells] at hcs
    obtain ⟨rfl, rfl, rfl⟩ := hcs
    exact ⟨[], none, 0, rfl, Nat.le_refl _, by omega, by simp, (fun o ho => by cases ho), fun h => absurd rfl h⟩
  · simp [Value.cells] at hcs
    obtain ⟨rfl, rfl, rfl⟩ := hcs
    rw [cKo] at hel
    obtain ⟨rfl, _⟩ := Prod.mk.inj hx
    obtain ⟨b, off, spot⟩ := x
    have hbig : len0 ≤ 4398046511104 := by
      have := hw (((elems.map Prod.fst).length + (rest.map Prod.fst).length) * Tryz.prog.bytesOf 30) (by simp [DataW.weights, Tryz.underlying22])
      rw [bytesK_ko] at this
      simp only [reachBytes, List.length_map] at this
      omega
    have each : ∀ i, ∃ o : Ko, i < len0 → (∀ j v, (koC o)[j]? = some v → W.cell? (((⟨b, off, spot⟩ : Addr).add (i * 4)).add j) = some v) ∧ o.Ok := by
      intro i
      by_cases hi : i < len0
      · have hi' : i < elems.length := by omega
        have := hel i hi
        rw [List.getElem?_eq_getElem hi', Option.bind_eq_some_iff] at this
        obtain ⟨cs, hcs, hy⟩ := this
        obtain ⟨o, e, hr⟩ := ko_cells hy
        have hcell := (World.cells?_some hcs).2.2
        subst e
        refine ⟨o, fun _ => ⟨fun j v hj => (hcell j ?_).trans hj, hr⟩⟩
        have := (List.getElem?_eq_some_iff.1 hj).1
        simpa using this
      · exact ⟨⟨0, 0, 0, 0⟩, fun h => absurd h hi⟩
    obtain ⟨f, hf'⟩ := Classical.skolem.1 each
    have hlr : ((List.range len0).map f).length = len0 := by simp
    refine ⟨(List.range len0).map f, some ⟨b, off, spot⟩, cap0, by rw [hlr], by rw [hlr]; exact hl, by unfold maxLen at hm; exact hm, by rw [hlr]; exact hbig, fun o ho => ?_, fun hn => ?_⟩
    · rw [List.mem_map] at ho
      obtain ⟨i, hi, rfl⟩ := ho
      exact (hf' i (List.mem_range.1 hi)).2
    · have hpos : 0 < len0 := by rw [← hlr]; exact List.length_pos_iff.2 hn
      have h00 := (hf' 0 hpos).1 0 _ rfl
      have hs : spot = none := by simpa [Addr.add] using World.cell?_spot h00
      subst hs
      refine ⟨b, off, rfl, World.block_lt_of_cell? W _ (by simpa [Addr.add] using h00), fun i e hie => ?_⟩
      have hi : i < len0 := by have := (List.getElem?_eq_some_iff.1 hie).1; rwa [hlr] at this
      have e1 : e = f i := by rw [List.getElem?_map, List.getElem?_range hi] at hie; simpa using hie.symm
      subst e1
      obtain ⟨this, _⟩ := hf' i hi
      simp only [Addr.add_lit] at this
      exact ⟨this 0 _ rfl, this 1 _ rfl, this 2 _ rfl, this 3 _ rfl⟩
end Go.Proofs.YtfdceljdhgbkcaaGreatDoor

/- The law's played: a step of a pair. -/
namespace Go.Proofs.YtfdceljdhgbkcaaGreatDoor
open Go.RowKit
section
variable {o : Nat → Prop} {wB w w0 y z : World} {b d e0 e1 : Nat} {pv dv : Value} {p : Ps}
theorem PlR.wrap (hb0 : Below w.heap.size w w0) (h : PlR o wB w0 b pv p d e0 e1 dv y) (hb : Below y.heap.size y z) : PlR o wB w b pv p d e0 e1 dv z := by
  obtain ⟨pv', p', dv', k1, k2, k3, k4, k5⟩ := h
  have hs := hb0.size
  exact ⟨pv', p', dv', k1.ext hb, k2, ((Kps.of_below _ hb0).trans k3 (fun _ _ e => e)).trans (Kps.of_below _ hb) (fun _ _ e => e), fun k e => (k4 k e).imp id (fun e => by omega), fun k e => (k5 k e).imp id (fun e => by omega)⟩
theorem PlR.same (h : Pr o wB w b pv p d e0 e1 dv) (hb : Below w.heap.size w z) : PlR o wB w b pv p d e0 e1 dv z :=
  ⟨pv, p, dv, h.ext hb, by omega, Kps.of_below _ hb, fun _ e => .inl e, fun _ e => .inl e⟩
end
/-- A row of the call's own that is not empty. -/
theorem own_some {w : World} {B n c : Nat} {ao : Option Addr} {zs : List Int} (h : OwnI w B (.slice ao n c) zs) (hz : 0 < zs.length) : ∃ g, ao = some ⟨g, 0, none⟩ ∧ B ≤ g := by
  obtain ⟨h1, h2⟩ := h
  rcases h2 with ⟨_, h2⟩ | ⟨g', cap, cur, hv, hb, _⟩
  · rw [List.length_map] at h1
    simp at h2
    subst h2
    cases hz
  · injection hv with e1 e2 e3
    exact ⟨g', e1, hb⟩
theorem own_set {w : World} {B g n c : Nat} {zs : List Int} (h : OwnI w B (.slice (some ⟨g, 0, none⟩) n c) zs) (j : Nat) (hj : j < zs.length) (x : Int) : OwnI (w.setCell ⟨g, j, none⟩ (.int .i64 x)) B (.slice (some ⟨g, 0, none⟩) n c) (zs.set j x) ∧ w.grownBy (w.setCell ⟨g, j, none⟩ (.int .i64 x)) (some g) ∧ (∃ y, w.cell? ⟨g, j, none⟩ = some (.int .i64 y)) ∧ w.frozen? ⟨g, j, none⟩ = false := by
  obtain ⟨h1, h2⟩ := h
  rcases h2 with ⟨h2, _⟩ | ⟨g', cap, cur, hv, hb, hg, k1, k2, k3, k4⟩
  · cases h2
  · cases hv
    obtain ⟨e, gr⟩ := set1 hg j (.int .i64 x)
    rw [Nat.mul_one] at k4 k3
    have hcur : cur[j]? = some (.int .i64 (zs[j]?.getD 0)) := by
      have := congrArg (fun l => l[j]?) k4
      simp only [List.getElem?_take_of_lt hj, List.getElem?_map, Array.getElem?_toList] at this
      rw [this]
      simp [hj]
    refine ⟨⟨by simp, .inr ⟨g, c, _, by simp, hb, e, by simpa using k1, k2, by simpa using k3, ?_⟩⟩, gr, ⟨zs[j]?.getD 0, by simp [World.cell?, hg, hcur]⟩, by simp [World.frozen?, hg]⟩
    rw [Nat.mul_one, List.length_set, Array.toList_setIfInBounds, List.map_set, ← k4, List.take_set]
set_option maxRecDepth 100000 in
set_option maxHeartbeats 8000000 in
theorem played_any {o : Nat → Prop} {wB w : World} {b d e0 e1 : Nat} {pv dv : Value} {p : Ps} (h : Pr o wB w b pv p d e0 e1 dv) (hl : p.ks.length < 17592186044416) (kd who md ky : Int) (hx : In64 ky) :
    Calls Tryz.prog 8 #[.pointer (some ⟨b, 0, none⟩), .pointer (some ⟨d, 0, none⟩), .agg #[.int .i64 kd, .int .i64 who, .int .i64 md, .int .i64 ky]] w fun e w' => e = .returned (.bool true) ∧ PlR o wB w b pv p d e0 e1 dv w' := by
  obtain ⟨da, dc, rfl, _⟩ := h.ow.rds.len
  obtain ⟨w0, hw0⟩ : ∃ w0, w0 = w.alloc (.cells #[.int .i64 kd, .int .i64 who, .int .i64 md, .int .i64 ky] 30) := ⟨_, rfl⟩
  have HB0 : Hid (Below w.heap.size w w0) := by unfold Hid; rw [hw0]; exact ext_alloc (Below.refl _ _) _
  have H0 := hidIt (h.ext HB0.out)
  have HX0 : Hid (w0.heap[w.heap.size]? = some (.cells #[.int .i64 kd, .int .i64 who, .int .i64 md, .int .i64 ky] 30 (0, 0))) := by unfold Hid; rw [hw0]; exact heap_alloc_new _ _
  have HL := hidIt hl
  have HKY := hidIt hx
  clear h hl hx
  go_enter Tryz.func8, Tryz.ntmps8
  go_upto_region 1 with fail
  rw [← hw0]
  clear hw0
  generalize hwz : w.heap.size = gx at HX0 ⊢
  clear hwz
  by_cases k1 : kd = 1
  · subst k1
    obtain ⟨x0, x1, x2, x3, xf, xb⟩ := cells4p HX0.out
    have HFD := hidIt (feed_any H0.out.pm H0.out.ok HL.out md ky HKY.out)
    go_upto_region 4 with (go_at_call 9; refine HFD.out.mono ?_; rintro e y ⟨q, ⟨cr, cc, cv, cm, ca⟩, s, pw, hf, rfl, hp, hk, hn⟩; (try dsimp only); have HM := hidIt (H0.out.mid hp hk hn); have HD := hidIt (fdr_doc H0.out.di hf); have HQ := hidIt (hf.ok H0.out.ok HKY.out (Nat.lt_trans HL.out (by decide))); have HNE := hidIt (fdr_ne hf H0.out.ne); have HXY := hidIt ((hk.same _ xb (fun e => e.elim (fun e => by obtain ⟨cs, hcs⟩ := psr_typ H0.out.pm.1; rw [← e, HX0.out] at hcs; cases hcs) (fun e => own_ne H0.out.pm.2 HX0.out (by decide) e))).trans HX0.out); clear hf hp hk hn HFD)
    clear x0 x1 x2 x3 xf xb
    obtain ⟨y2, hy2⟩ : ∃ y2, y2 = y.alloc (.cells #[.int .i64 cr, .int .i64 cc, .int .i64 cv, .int .i64 cm, .int .i64 ca] 33) := ⟨_, rfl⟩
    rw [← hy2]
    have hb2 : Below y.heap.size y y2 := by rw [hy2]; exact ext_alloc (Below.refl _ _) _
    have HC2 : Hid (y2.heap[y.heap.size]? = some (.cells #[.int .i64 cr, .int .i64 cc, .int .i64 cv, .int .i64 cm, .int .i64 ca] 33 (0, 0))) := by unfold Hid; rw [hy2]; exact heap_alloc_new _ _
    have HM2 := hidIt (HM.out.ext hb2)
    have HX2 := hidIt ((hb2.block _ (Array.getElem?_eq_some_iff.1 HXY.out).1).trans HXY.out)
    obtain ⟨x0, x1, x2, x3, xf, xb⟩ := cells4p HX2.out
    clear hy2 hb2 HXY
    generalize y.heap.size = g2 at *
    have HFE := hidIt (r_Feed_any HM2.out.dr HM2.out.t0 HM2.out.t1 HM2.out.ow HL.out md ky)
    rw [HD.out.1] at HFE
    go_upto_region 5 with (go_at_call 10; refine HFE.out.mono ?_; rintro e z ⟨dw, rfl, hr, _, _, ho, hk, hn⟩; (try dsimp only); have HP := hidIt (HM2.out.fin H0.out HQ.out.1 HNE.out HD.out.2 HQ.out.2.2.1 (by rw [HQ.out.2.1]; exact hr) ho hk hn); have HCZ := hidIt ((hk.same _ (Array.getElem?_eq_some_iff.1 HC2.out).1 (fun e => by have h1 := HC2.out; rw [e, HM2.out.dr] at h1; cases h1)).trans HC2.out); clear hr ho hk hn HFE)
    clear x0 x1 x2 x3 xf xb
    obtain ⟨z2, hz2⟩ : ∃ z2, z2 = z.alloc (.cells #[.int .i64 cr, .int .i64 cc, .int .i64 cv, .int .i64 cm, .int .i64 ca] 33) := ⟨_, rfl⟩
    rw [← hz2]
    have hb3 : Below z.heap.size z z2 := by rw [hz2]; exact ext_alloc (Below.refl _ _) _
    have HC3 : Hid (z2.heap[z.heap.size]? = some (.cells #[.int .i64 cr, .int .i64 cc, .int .i64 cv, .int .i64 cm, .int .i64 ca] 33 (0, 0))) := by unfold Hid; rw [hz2]; exact heap_alloc_new _ _
    have HBZ := hidIt hb3
    have HCY := hidIt ((hb3.block _ (Array.getElem?_eq_some_iff.1 HCZ.out).1).trans HCZ.out)
    clear hz2 hb3 HCZ HC2
    generalize hgz : z.heap.size = g3 at HC3 ⊢
    clear hgz
    obtain ⟨_, a0, a1, a2, a3, a4, af⟩ := cells5 HC3.out
    obtain ⟨_, c0, c1, c2, c3, c4, cf⟩ := cells5 HCY.out
    go_wp2_with fail
    go_ret
    exact ⟨rfl, HP.out.wrap HB0.out HBZ.out⟩
  · have k1b : (kd == 1) = false := by simpa using k1
    by_cases k2 : kd = 2
    · subst k2
      obtain ⟨x0, x1, x2, x3, xf, xb⟩ := cells4p HX0.out
      have HPE := hidIt (Pending_any H0.out.pm (by have := HL.out; omega))
      go_upto_region 8 with (go_at_call 16; refine HPE.out.mono ?_; rintro e y ⟨v, rfl, ho, hb⟩; obtain ⟨va, vc, rfl, _⟩ := ho.rds.len; (try dsimp only); have HO := hidIt ho; have HB := hidIt hb; clear ho hb HPE)
      clear x0 x1 x2 x3 xf xb
      obtain ⟨d0, d1, d2, d3, df, db⟩ := cells4p (H0.out.ext HB.out).dr
      have HSI := hidIt (sameInts_any _ _ _ y HO.out.rds.1 (H0.out.ext HB.out).ow.rds.1)
      go_upto_region 9 with (go_at_call 12; refine HSI.out.mono ?_; rintro e y2 ⟨rfl, hb2⟩; (try dsimp only); have HB2 := hidIt hb2; clear hb2 HSI)
      clear d0 d1 d2 d3 df db
      have HBY : Hid (Below w0.heap.size w0 y2) := ext_trans HB.out HB2.out
      have HO2 := hidIt (HO.out.ext HB2.out)
      have hn9 : p.ks.length ≤ 9223372036854775807 := by have := HL.out; omega
      obtain ⟨n, HLP⟩ : ∃ n, Hid (n = p.ks.length) := ⟨_, hidIt rfl⟩
      rw [← HLP.out] at hn9 HO2 ⊢
      clear HO HB HB2
      go_upto_region 10 with fail
      go_loopw [13] (fun iv wr => ∃ (i : Nat) (zs : List Int), i ≤ n ∧ iv = .int .i64 i ∧ Hid (zs.length = n) ∧ Hid (OwnI wr w0.heap.size (.slice va n vc) zs) ∧ Hid (Below w0.heap.size w0 wr)) (fun iv _ => n - (RowKit.intOf iv).toNat)
      case atStart => exact ⟨0, p.ks, Nat.zero_le _, rfl, HLP.out.symm, HO2.out, HBY.out⟩
      case round =>
        obtain ⟨i, zs, hi, rfl, HZ, HOW, HBW⟩ := hrel
        by_cases hlt : i < n
        · have hiI : (i : Int) < (n : Int) := by omega
          obtain ⟨g, rfl, hg⟩ := own_some HOW.out (by rw [HZ.out]; omega)
          obtain ⟨HS, hgr, ⟨u, hu⟩, hfz⟩ : Hid _ ∧ _ := ⟨hidIt (own_set HOW.out i (by rw [HZ.out]; exact hlt) 120).1, (own_set HOW.out i (by rw [HZ.out]; exact hlt) 120).2⟩
          have HB3 := hidIt (HBW.out.trans ((Kps.grown (o := fun k => k = g) hgr (fun k e _ => (Option.some.inj e).symm)).below HBW.out.size (fun k e => by rw [e]; exact hg)))
          clear hgr hg
          go_wp2_with fail
          go_roundw
          case rel => exact ⟨i + 1, _, by omega, rfl, by unfold Hid; rw [List.length_set]; exact HZ.out, HS.out, HB3.out⟩
          case measure => simp [RowKit.intOf]; omega
        · have hiI : ¬ (i : Int) < (n : Int) := by omega
          go_wp2_with fail
          go_ret
          exact ⟨rfl, (PlR.same H0.out HBW.out).wrap HB0.out (Below.refl _ _)⟩
    · have k2b : (kd == 2) = false := by simpa using k2
      by_cases k3 : kd = 3
      · subst k3
        obtain ⟨x0, x1, x2, x3, xf, xb⟩ := cells4p HX0.out
        have HRS := hidIt (reset_any H0.out.pm.1)
        go_upto_region 16 with (go_at_call 17; refine HRS.out.mono ?_; rintro e y ⟨rfl, hp, hk⟩; (try dsimp only); have HM := hidIt (H0.out.mid (q := ps0 p.sl) ⟨hp, OwnI.nil _ _⟩ (hk.mono (fun _ _ e => .inl e)) (fun k e => by cases e)); clear hp hk HRS)
        clear x0 x1 x2 x3 xf xb
        have HRR := hidIt (r_Reset_any HM.out.dr)
        go_upto_region 17 with (go_at_call 18; refine HRR.out.mono ?_; rintro e z ⟨rfl, hr, hk⟩; (try dsimp only); have HP := hidIt (HM.out.fin H0.out (ps0_ok _) (fun h => by cases h) (DI.init _) (Nat.zero_le _) hr (OwnI.nil _ _) hk (fun k e => by cases e)); clear hr hk HRR)
        go_wp2_with fail
        go_ret
        exact ⟨rfl, HP.out.wrap HB0.out (Below.refl _ _)⟩
      · have k3b : (kd == 3) = false := by simpa using k3
        clear k1 k2 k3
        obtain ⟨x0, x1, x2, x3, xf, xb⟩ := cells4p HX0.out
        go_wp2_with fail
        go_ret
        exact ⟨rfl, (PlR.same H0.out (Below.refl _ _)).wrap HB0.out (Below.refl _ _)⟩
end Go.Proofs.YtfdceljdhgbkcaaGreatDoor

/- The law's fits. -/
namespace Go.Proofs.YtfdceljdhgbkcaaGreatDoor
open Go.RowKit
/-- A truth. -/
def IsB (v : Value) : Prop := ∃ r : Bool, v = .bool r
set_option maxRecDepth 100000 in
set_option maxHeartbeats 2000000 in
theorem fits_any {w : World} {v : Value} {xs : List Ko} (h : RdK w v xs) :
    Calls Tryz.prog 4 #[v] w fun e w' => ∃ v, e = .returned v ∧ IsB v ∧ Below w.heap.size w w' := by
  obtain ⟨ao, cap, rfl, h2, h3, h4, _, h6⟩ := h
  have HRD := hidIt h6
  clear h6
  go_enter Tryz.func4, Tryz.ntmps4
  go_wp2_with fail
  go_loopw [3, 4] (fun nv iv wr => ∃ (j t : Nat), j ≤ xs.length ∧ nv = .int .i64 t ∧ iv = .int .i64 j ∧ t ≤ j ∧ Hid (Below w.heap.size w wr)) (fun _ iv _ => xs.length - (RowKit.intOf iv).toNat)
  case atStart => exact ⟨0, 0, Nat.zero_le _, rfl, rfl, Nat.le_refl _, Below.refl _ _⟩
  case round =>
    obtain ⟨j, t, hj, rfl, rfl, htj, HBW⟩ := hrel
    by_cases hlt : j < xs.length
    · have hjI : (j : Int) < (xs.length : Int) := by omega
      obtain ⟨x, hx⟩ : ∃ x, xs[j]? = some x := ⟨_, List.getElem?_eq_getElem hlt⟩
      obtain ⟨b, off, rfl, hb, hc⟩ := HRD.out (by intro e; rw [e] at hlt; cases hlt)
      have c3 := ((hc j x hx).low hb HBW.out).c3
      generalize x.ky = ky at c3
      clear hc hx hb HRD
      by_cases k1 : 48 ≤ ky
      · by_cases k2 : ky ≤ 57
        · go_wp2_with fail
          go_roundw
          case rel => exact ⟨j + 1, t + 1, by omega, rfl, by go_num, by omega, HBW.out⟩
          case measure => simp [RowKit.intOf]; omega
        · by_cases k3 : ky = 34
          · omega
          · have k3b : (ky == 34) = false := by simpa using k3
            clear k3
            go_wp2_with fail
            go_roundw
            case rel => exact ⟨j + 1, t, by omega, rfl, by go_num, by omega, HBW.out⟩
            case measure => simp [RowKit.intOf]; omega
      · by_cases k3 : ky = 34
        · subst k3
          clear k1
          go_wp2_with fail
          go_roundw
          case rel => exact ⟨j + 1, t + 1, by omega, rfl, by go_num, by omega, HBW.out⟩
          case measure => simp [RowKit.intOf]; omega
        · have k3b : (ky == 34) = false := by simpa using k3
          clear k3
          go_wp2_with fail
          go_roundw
          case rel => exact ⟨j + 1, t, by omega, rfl, by go_num, by omega, HBW.out⟩
          case measure => simp [RowKit.intOf]; omega
    · have hjI : ¬ (j : Int) < (xs.length : Int) := by omega
      go_wp2_with fail
      go_ret
      exact ⟨_, rfl, ⟨_, rfl⟩, HBW.out⟩
end Go.Proofs.YtfdceljdhgbkcaaGreatDoor
