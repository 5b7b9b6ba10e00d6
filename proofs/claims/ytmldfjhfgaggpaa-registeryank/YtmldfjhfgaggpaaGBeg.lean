/- The law's begin. -/
import Derived.Test.YtmldfjhfgaggpaaGStep3
namespace Go.Proofs.Ytmldfjhfgaggpaa
open Go.RowKit
variable {F : Nat → Prop}

theorem Bk.refit {F' : Nat → Prop} {w : World} {b bm N : Nat} {p : Int} (h : Bk F w b bm N (fun _ => none) p) (h1 : F' b) (h2 : ∀ q, F' q → q < w.heap.size) : Bk F' w b bm N (fun _ => none) p := by
  obtain ⟨a1, a2, _, D, a4, a5⟩ := h
  exact ⟨a1, a2, ⟨h1, h2⟩, D, a4, fun k hk => a5 k hk⟩
theorem Rb.refit {F' : Nat → Prop} {w : World} {q : Nat} {p : Int} (h : Rb F w q ⟨(fun _ => none), p⟩) (h1 : F' q) (h2 : ∀ g, F' g → g < w.heap.size) : Rb F' w q ⟨(fun _ => none), p⟩ := by
  obtain ⟨arr, k1, k2, k3, _, k5⟩ := h
  refine ⟨arr, k1, k2, k3, ⟨h1, h2⟩, fun n hn => ?_⟩
  obtain ⟨c, u, a, b, c0, t, c1, _, c3, c4⟩ := k5 n hn
  have c5 : t = [] := c4
  exact ⟨c, u, a, b, c0, t, c1, fun h => absurd c5 h, c3, c5⟩
/-- An empty bank of the program; of the document. -/
def Eb (B : Nat) (w : World) (b bm : Nat) : Prop := Bk (F1 b) w b bm 0 (fun _ => none) 0 ∧ B ≤ b ∧ B ≤ bm
def Er (B : Nat) (w : World) (q : Nat) : Prop := Rb (F1 q) w q ⟨(fun _ => none), 0⟩ ∧ B ≤ q
section
variable {B : Nat} {w w' : World} {g : Nat} {cs : Array Value} {b bm q : Nat}
theorem Eb.ext (h : Eb B w b bm) (hb : Below w.heap.size w w') : Eb B w' b bm := ⟨h.1.ext hb, h.2⟩
theorem Er.ext (h : Er B w q) (hb : Below w.heap.size w w') : Er B w' q := ⟨h.1.ext hb, h.2⟩
theorem Eb.set (h : Eb B w b bm) (hg : w.heap[g]? = some (.cells cs 58 (0, 0))) (k : w.grownBy w' (some g)) : Eb B w' b bm := by
  obtain ⟨⟨cs', hb⟩, es, cl, hm⟩ := h.1.typ
  have h1 : Bk (fun x => x = b ∨ x = g) w b bm 0 (fun _ => none) 0 := h.1.refit (.inl rfl) (fun x hx => by
    rcases hx with rfl | rfl
    · exact h.1.lt.1
    · exact (Array.getElem?_eq_some_iff.1 hg).1)
  have h2 := h1.kps (Kps.grown (o := fun x => x = g) k (fun x e _ => by cases e; rfl)) (fun x hx _ => by
    subst hx
    exact ⟨cells_ne hg hb (by decide), map_ne hg hm, .inr (.inr rfl)⟩)
  exact ⟨h2.refit rfl (fun x hx => by subst hx; exact h2.lt.1), h.2⟩
theorem Er.set (h : Er B w q) (hg : w.heap[g]? = some (.cells cs 58 (0, 0))) (k : w.grownBy w' (some g)) : Er B w' q := by
  obtain ⟨cs', hq⟩ := h.1.typ
  have h1 : Rb (fun x => x = q ∨ x = g) w q ⟨(fun _ => none), 0⟩ := h.1.refit (.inl rfl) (fun x hx => by
    rcases hx with rfl | rfl
    · exact h.1.lt
    · exact (Array.getElem?_eq_some_iff.1 hg).1)
  have h2 := h1.kps (Kps.grown (o := fun x => x = g) k (fun x e _ => by cases e; rfl)) (fun x hx _ => by
    subst hx
    exact ⟨cells_ne hg hq (by decide), .inr (.inr rfl)⟩)
  exact ⟨h2.refit rfl (fun x hx => by subst hx; exact h2.lt), h.2⟩
end
theorem begun {B : Nat} {w : World} {g b0 b1 m0 m1 q0 q1 : Nat} (hg : w.heap[g]? = some (.cells #[.pointer (some ⟨b0, 0, none⟩), .pointer (some ⟨b1, 0, none⟩), .pointer (some ⟨q0, 0, none⟩), .pointer (some ⟨q1, 0, none⟩), .slice none 0 0] 58 (0, 0))) (hB : B ≤ g) (x0 : Eb B w b0 m0) (x1 : Eb B w b1 m1) (y0 : Er B w q0) (y1 : Er B w q1) (nb : b0 ≠ b1) (nm : m0 ≠ m1) (nq : q0 ≠ q1) :
    ∃ F z, Wd B F 0 w g z (.slice none 0 0) ∧ Syn z := by
  have hF : ∀ k, (k = g ∨ k = b0 ∨ k = b1 ∨ k = q0 ∨ k = q1) → k < w.heap.size := fun k hk => by
    rcases hk with rfl | rfl | rfl | rfl | rfl
    · exact (Array.getElem?_eq_some_iff.1 hg).1
    · exact x0.1.lt.1
    · exact x1.1.lt.1
    · exact y0.1.lt
    · exact y1.1.lt
  refine ⟨fun k => k = g ∨ k = b0 ∨ k = b1 ∨ k = q0 ∨ k = q1, ⟨fun i => if i = 0 then b0 else b1, fun i => if i = 0 then m0 else m1, fun i => if i = 0 then q0 else q1, fun _ => ⟨(fun _ => none), 0⟩, fun _ => ⟨(fun _ => none), 0⟩⟩, ⟨hg, .inl rfl, fun i hi => ?_, fun i hi => ?_, fun _ _ => Good.empty, fun _ _ => Good.empty, .inl rfl, nb, nm, nq, hB, fun i hi => ?_⟩, fun _ _ => rfl⟩
  · match i, hi with
    | 0, _ => exact x0.1.refit (.inr (.inl rfl)) hF
    | 1, _ => exact x1.1.refit (.inr (.inr (.inl rfl))) hF
  · match i, hi with
    | 0, _ => exact y0.1.refit (.inr (.inr (.inr (.inl rfl)))) hF
    | 1, _ => exact y1.1.refit (.inr (.inr (.inr (.inr rfl)))) hF
  · match i, hi with
    | 0, _ => exact ⟨x0.2.1, x0.2.2, y0.2⟩
    | 1, _ => exact ⟨x1.2.1, x1.2.2, y1.2⟩
set_option maxRecDepth 100000 in
set_option maxHeartbeats 2000000 in
theorem r_New_lt (w : World) : Calls Try.prog 47 #[] w fun e w' => e = .returned (.pointer (some ⟨w.heap.size, 0, none⟩)) ∧ Below w.heap.size w w' ∧ w.heap.size < w'.heap.size ∧ ∀ F : Nat → Prop, F w.heap.size → (∀ g, F g → g < w'.heap.size) → Rb F w' w.heap.size ⟨(fun _ => none), 0⟩ := by
  go_enter Try.func47, Try.ntmps47
  go_wp2_with fail
  go_ret
  exact ⟨rfl, ext_alloc (Below.refl _ _) _, by simp, fun F h1 h2 => Rb.zero (heap_alloc_new _ _) h1 h2⟩
theorem nms_none (n : Nat) : nms (fun _ => none) n = [] := by
  unfold nms
  simp
set_option maxRecDepth 100000 in
set_option maxHeartbeats 8000000 in
theorem begin_any {B : Nat} (w : World) (g : Nat) (hg : w.heap[g]? = some (.cells #[.pointer none, .pointer none, .pointer none, .pointer none, .slice none 0 0] 58 (0, 0))) (hB : B ≤ g) :
    Calls Try.prog 27 #[.pointer (some ⟨g, 0, none⟩)] w (StR B 0 w g) := by
  have HG0 := hidIt hg
  have HBG := hidIt hB
  have HB0 := hidIt (show B ≤ w.heap.size by have := (Array.getElem?_eq_some_iff.1 hg).1; omega)
  clear hg hB
  go_enter Try.func27, Try.ntmps27
  go_wp2_with fail
  go_loopw [3] (fun i wr => Hid ((i = .int .i64 0 ∧ wr = w) ∨ (i = .int .i64 1 ∧ ∃ b0 m0 q0, wr.heap[g]? = some (.cells #[.pointer (some ⟨b0, 0, none⟩), .pointer none, .pointer (some ⟨q0, 0, none⟩), .pointer none, .slice none 0 0] 58 (0, 0)) ∧ Eb B wr b0 m0 ∧ Er B wr q0 ∧ Below B w wr) ∨ (i = .int .i64 2 ∧ ∃ F z, Wd B F 0 wr g z (.slice none 0 0) ∧ Syn z ∧ Below B w wr))) (fun i _ => 2 - (RowKit.intOf i).toNat)
  case atStart => exact .inl ⟨rfl, rfl⟩
  case round =>
    rcases hrel with ⟨rfl, rfl⟩ | ⟨rfl, b0, m0, q0, hg1, hx1, hy1, hb1⟩ | ⟨rfl, F2, z2, hw2, hs2, hb2⟩
    · have HG := hidIt HG0.out
      have HBW := hidIt HB0.out
      have HLT := hidIt (Array.getElem?_eq_some_iff.1 HG.out).1
      have cg := fun k => cellOf HG.out k
      have fz := fun k => frozOf HG.out k
      have d0 : wr.cell? ⟨g, 0, none⟩ = some (.pointer none) := (cg 0).trans rfl
      have NW := hidIt (New_any wr.drew)
      go_upto_region 4 with fail
      go_cut [] from 8 to 13 (fun wF => Hid (∃ b m, wF.heap[g]? = some (.cells #[.pointer (some ⟨b, 0, none⟩), .pointer none, .pointer none, .pointer none, .slice none 0 0] 58 (0, 0)) ∧ Eb B wF b m ∧ wr.heap.size ≤ b ∧ wr.heap.size ≤ m ∧ Below B wr wF))
      case first =>
        go_region_with (go_at_call 31; refine NW.out.mono ?_; rintro e w2 ⟨b, m, rfl, hk2, l1, l2, hb2⟩; have HK2 := hidIt hk2; have L1 := hidIt l1; have L2 := hidIt l2; have HB2 := hidIt (ext_trans (Below.refl _ _).drew hb2); clear hk2 l1 l2 hb2 fz d0 cg NW; have hg2 := (HB2.out.block g HLT.out).trans HG.out; have cg := fun k => cellOf hg2 k; have fz := fun k => frozOf hg2 k; have d0 : w2.cell? ⟨g, 0, none⟩ = some (.pointer none) := (cg 0).trans rfl; have HG2 := hidIt hg2; clear hg2 cg; (try dsimp only))
        all_goals
          go_wp2_with fail
          go_meet
          case rel =>
            obtain ⟨e1, gr⟩ := set1 HG2.out 0 (.pointer (some ⟨b, 0, none⟩))
            have hx : Eb B w2 b m := ⟨HK2.out, Nat.le_trans HBW.out L1.out, Nat.le_trans HBW.out L2.out⟩
            exact ⟨b, m, e1, hx.set HG2.out gr, L1.out, L2.out, (HB2.out.mono HBW.out).grown gr (Nat.le_trans HBW.out HB2.out.size) (fun k hk => by cases hk; exact HBG.out)⟩
      obtain ⟨b0, m0, hg3, hx3, l1, l2, hb3⟩ := hcut
      have HG3 := hidIt hg3
      have X0' := hidIt hx3
      have L1 := hidIt l1
      have L2 := hidIt l2
      have HB3 := hidIt hb3
      have HBW3 := hidIt (show B ≤ wc.heap.size by have := hb3.size; have := HBW.out; omega)
      clear hg3 hx3 l1 l2 hb3 fz d0 cg NW
      have HLT3 := hidIt (Array.getElem?_eq_some_iff.1 HG3.out).1
      have cg := fun k => cellOf HG3.out k
      have fz := fun k => frozOf HG3.out k
      have d0 : wc.cell? ⟨g, 2, none⟩ = some (.pointer none) := (cg 2).trans rfl
      have NR := hidIt (r_New_lt wc.drew)
      go_upto_region 5 with fail
      go_cut [] from 14 to 19 (fun wF => Hid (∃ q, wF.heap[g]? = some (.cells #[.pointer (some ⟨b0, 0, none⟩), .pointer none, .pointer (some ⟨q, 0, none⟩), .pointer none, .slice none 0 0] 58 (0, 0)) ∧ Er B wF q ∧ wc.heap.size ≤ q ∧ Below B wc wF ∧ Eb B wF b0 m0))
      case first =>
        go_region_with (go_at_call 47; refine NR.out.mono ?_; rintro e w2 ⟨rfl, hb2, hl2, hr2⟩; have HR2 := hidIt hr2; have HSZ := hidIt hl2; clear hl2; have HB2 := hidIt (ext_trans (Below.refl _ _).drew hb2); clear hb2 hr2 fz d0 cg NR; have hg2 := (HB2.out.block g HLT3.out).trans HG3.out; have cg := fun k => cellOf hg2 k; have fz := fun k => frozOf hg2 k; have d0 : w2.cell? ⟨g, 2, none⟩ = some (.pointer none) := (cg 2).trans rfl; have HG2 := hidIt hg2; clear hg2 cg; (try dsimp only))
        all_goals
          go_wp2_with fail
          go_meet
          case rel =>
            obtain ⟨e1, gr⟩ := set1 HG2.out 2 (.pointer (some ⟨wc.heap.size, 0, none⟩))
            have hq : wc.heap.size < w2.heap.size := HSZ.out
            have hx : Er B w2 wc.heap.size := ⟨HR2.out (F1 wc.heap.size) rfl (fun k hk => by subst hk; exact hq), HBW3.out⟩
            exact ⟨_, e1, hx.set HG2.out gr, Nat.le_refl _, (HB2.out.mono HBW3.out).grown gr (Nat.le_trans HBW3.out HB2.out.size) (fun k hk => by cases hk; exact HBG.out), (X0'.out.ext HB2.out).set HG2.out gr⟩
      obtain ⟨q0, hg4, hy4, l3, hb4, hx4⟩ := hcut
      have HG4 := hidIt hg4
      have HY4 := hidIt hy4
      have HX4 := hidIt hx4
      have HL3 := hidIt l3
      have HB4 := hidIt hb4
      have NA := hidIt (Names_any wc b0 m0 0 (fun _ => none) 0 hx4.1 (fun k hk => by simp at hk))
      rw [nms_none] at NA
      have e0 : wc.cell? ⟨g, 0, none⟩ = some (.pointer (some ⟨b0, 0, none⟩)) := (cellOf hg4 0).trans rfl
      clear hg4 hy4 hx4 l3 hb4 fz d0 cg NR
      go_wp2_with (go_at_call 23; refine NA.out.mono ?_; rintro e w5 ⟨v5, rfl, ho5, hb5⟩; obtain ⟨a5, c5, e5, _⟩ := ho5.rds.len; subst e5; have HB5 := hidIt hb5; clear ho5 hb5 e0; simp only [List.length_nil])
      go_roundw
      case rel =>
        have hg5 := (HB5.out.block g (Array.getElem?_eq_some_iff.1 HG4.out).1).trans HG4.out
        have hsz : B ≤ wc.heap.size := by have := HB4.out.size; have := HBW3.out; omega
        have hbl := (HB3.out.trans HB4.out).trans (HB5.out.mono hsz)
        exact .inr (.inl ⟨by rfl, b0, m0, q0, hg5, HX4.out.ext HB5.out, HY4.out.ext HB5.out, hbl⟩)
      case measure => simp [RowKit.intOf]
    · have HG := hidIt hg1
      have HBW := hidIt (show B ≤ wr.heap.size by have := hb1.size; have := HB0.out; omega)
      have HLT := hidIt (Array.getElem?_eq_some_iff.1 HG.out).1
      have X0 := hidIt hx1
      have Y0 := hidIt hy1
      have HB1 := hidIt hb1
      clear hg1 hx1 hy1 hb1
      have cg := fun k => cellOf HG.out k
      have fz := fun k => frozOf HG.out k
      have d0 : wr.cell? ⟨g, 1, none⟩ = some (.pointer none) := (cg 1).trans rfl
      have NW := hidIt (New_any wr.drew)
      go_upto_region 4 with fail
      go_cut [] from 8 to 13 (fun wF => Hid (∃ b m, wF.heap[g]? = some (.cells #[.pointer (some ⟨b0, 0, none⟩), .pointer (some ⟨b, 0, none⟩), .pointer (some ⟨q0, 0, none⟩), .pointer none, .slice none 0 0] 58 (0, 0)) ∧ Eb B wF b m ∧ wr.heap.size ≤ b ∧ wr.heap.size ≤ m ∧ Below B wr wF ∧ Eb B wF b0 m0 ∧ Er B wF q0))
      case first =>
        go_region_with (go_at_call 31; refine NW.out.mono ?_; rintro e w2 ⟨b, m, rfl, hk2, l1, l2, hb2⟩; have HK2 := hidIt hk2; have L1 := hidIt l1; have L2 := hidIt l2; have HB2 := hidIt (ext_trans (Below.refl _ _).drew hb2); clear hk2 l1 l2 hb2 fz d0 cg NW; have hg2 := (HB2.out.block g HLT.out).trans HG.out; have cg := fun k => cellOf hg2 k; have fz := fun k => frozOf hg2 k; have d0 : w2.cell? ⟨g, 1, none⟩ = some (.pointer none) := (cg 1).trans rfl; have HG2 := hidIt hg2; clear hg2 cg; (try dsimp only))
        all_goals
          go_wp2_with fail
          go_meet
          case rel =>
            obtain ⟨e1, gr⟩ := set1 HG2.out 1 (.pointer (some ⟨b, 0, none⟩))
            have hx : Eb B w2 b m := ⟨HK2.out, Nat.le_trans HBW.out L1.out, Nat.le_trans HBW.out L2.out⟩
            exact ⟨b, m, e1, hx.set HG2.out gr, L1.out, L2.out, (HB2.out.mono HBW.out).grown gr (Nat.le_trans HBW.out HB2.out.size) (fun k hk => by cases hk; exact HBG.out), (X0.out.ext HB2.out).set HG2.out gr, (Y0.out.ext HB2.out).set HG2.out gr⟩
      obtain ⟨b1, m1, hg3, hx3, l1, l2, hb3, cX0, cY0⟩ := hcut
      have HG3 := hidIt hg3
      have X1' := hidIt hx3
      have L1 := hidIt l1
      have L2 := hidIt l2
      have HB3 := hidIt hb3
      have HBW3 := hidIt (show B ≤ wc.heap.size by have := hb3.size; have := HBW.out; omega)
      have X0c := hidIt cX0
      have Y0c := hidIt cY0
      clear hg3 hx3 l1 l2 hb3 fz d0 cg NW cX0 cY0
      have HLT3 := hidIt (Array.getElem?_eq_some_iff.1 HG3.out).1
      have cg := fun k => cellOf HG3.out k
      have fz := fun k => frozOf HG3.out k
      have d0 : wc.cell? ⟨g, 3, none⟩ = some (.pointer none) := (cg 3).trans rfl
      have NR := hidIt (r_New_lt wc.drew)
      go_upto_region 5 with fail
      go_cut [] from 14 to 19 (fun wF => Hid (∃ q, wF.heap[g]? = some (.cells #[.pointer (some ⟨b0, 0, none⟩), .pointer (some ⟨b1, 0, none⟩), .pointer (some ⟨q0, 0, none⟩), .pointer (some ⟨q, 0, none⟩), .slice none 0 0] 58 (0, 0)) ∧ Er B wF q ∧ wc.heap.size ≤ q ∧ Below B wc wF ∧ Eb B wF b1 m1 ∧ Eb B wF b0 m0 ∧ Er B wF q0))
      case first =>
        go_region_with (go_at_call 47; refine NR.out.mono ?_; rintro e w2 ⟨rfl, hb2, hl2, hr2⟩; have HR2 := hidIt hr2; have HSZ := hidIt hl2; clear hl2; have HB2 := hidIt (ext_trans (Below.refl _ _).drew hb2); clear hb2 hr2 fz d0 cg NR; have hg2 := (HB2.out.block g HLT3.out).trans HG3.out; have cg := fun k => cellOf hg2 k; have fz := fun k => frozOf hg2 k; have d0 : w2.cell? ⟨g, 3, none⟩ = some (.pointer none) := (cg 3).trans rfl; have HG2 := hidIt hg2; clear hg2 cg; (try dsimp only))
        all_goals
          go_wp2_with fail
          go_meet
          case rel =>
            obtain ⟨e1, gr⟩ := set1 HG2.out 3 (.pointer (some ⟨wc.heap.size, 0, none⟩))
            have hq : wc.heap.size < w2.heap.size := HSZ.out
            have hx : Er B w2 wc.heap.size := ⟨HR2.out (F1 wc.heap.size) rfl (fun k hk => by subst hk; exact hq), HBW3.out⟩
            exact ⟨_, e1, hx.set HG2.out gr, Nat.le_refl _, (HB2.out.mono HBW3.out).grown gr (Nat.le_trans HBW3.out HB2.out.size) (fun k hk => by cases hk; exact HBG.out), (X1'.out.ext HB2.out).set HG2.out gr, (X0c.out.ext HB2.out).set HG2.out gr, (Y0c.out.ext HB2.out).set HG2.out gr⟩
      obtain ⟨q1, hg4, hy4, l3, hb4, hx4, cX0, cY0⟩ := hcut
      have X0d := hidIt cX0
      have Y0d := hidIt cY0
      have HG4 := hidIt hg4
      have HY4 := hidIt hy4
      have HX4 := hidIt hx4
      have HL3 := hidIt l3
      have HB4 := hidIt hb4
      have NA := hidIt (Names_any wc b1 m1 0 (fun _ => none) 0 hx4.1 (fun k hk => by simp at hk))
      rw [nms_none] at NA
      have e0 : wc.cell? ⟨g, 1, none⟩ = some (.pointer (some ⟨b1, 0, none⟩)) := (cellOf hg4 1).trans rfl
      clear hg4 hy4 hx4 l3 hb4 fz d0 cg NR cX0 cY0
      go_wp2_with (go_at_call 23; refine NA.out.mono ?_; rintro e w5 ⟨v5, rfl, ho5, hb5⟩; obtain ⟨a5, c5, e5, _⟩ := ho5.rds.len; subst e5; have HB5 := hidIt hb5; clear ho5 hb5 e0; simp only [List.length_nil])
      go_roundw
      case rel =>
        have hg5 := (HB5.out.block g (Array.getElem?_eq_some_iff.1 HG4.out).1).trans HG4.out
        have hsz : B ≤ wc.heap.size := by have := HB4.out.size; have := HBW3.out; omega
        have hbl := (HB3.out.trans HB4.out).trans (HB5.out.mono hsz)
        obtain ⟨F2, z2, h1, h2⟩ := begun hg5 HBG.out (X0d.out.ext HB5.out) (HX4.out.ext HB5.out) (Y0d.out.ext HB5.out) (HY4.out.ext HB5.out) (by have := X0.out.1.lt; have := L1.out; omega) (by have := X0.out.1.lt; have := L2.out; omega) (by have := Y0.out.1.lt; have := HL3.out; have := HB3.out.size; omega)
        exact .inr (.inr ⟨by rfl, F2, z2, h1, h2, HB1.out.trans hbl⟩)
      case measure => simp [RowKit.intOf]
    · go_wp2_with fail
      go_ret
      exact ⟨rfl, F2, z2, _, hw2, hs2, hb2⟩
end Go.Proofs.Ytmldfjhfgaggpaa
