/- What the steps do: the closures of Append. -/
import Derived.Test.YtaoaihjiieandaaDDo3
namespace Go.Proofs.Ytaoaihjiieandaa
open Go.RowKit

/-- How many were written lies in its box. -/
def AppAx (F : Nat → Prop) (bc : Nat) (r : Rs) (w : World) : Prop := F bc ∧ ∃ k : Int, w.heap[bc]? = some (.cells #[.int .i64 k] 3 (0, 0)) ∧ (r.e ≠ 165 → k = (r.n : Int))
theorem RdU.kn {U : Prop} {F : Nat → Prop} {ob : Option Nat} {w w' : World} {v : Value} {zs : List Int} (h : RdU w v zs) (k : Kn U F ob w w') (hF : zs ≠ [] → ∀ g, v.ownBlock = some g → F g ∧ ob ≠ some g) : RdU w' v zs := by
  obtain ⟨⟨ao, cap, hv, h1, h2, h3⟩, hs⟩ := h
  refine ⟨⟨ao, cap, hv, h1, h2, fun hn => ?_⟩, hs⟩
  obtain ⟨b, off, ha, hl, hc⟩ := h3 hn
  have hg := hF hn b (by rw [hv, ha]; rfl)
  refine ⟨b, off, ha, Nat.lt_of_lt_of_le hl k.size, fun i hi => ?_⟩
  rw [← hc i hi]
  unfold World.cell?
  simp only [k.block hl hg.1 hg.2]
theorem RdU.take {w : World} {v : Value} {zs : List Int} (h : RdU w v zs) {k : Nat} (hk : k ≤ zs.length) : ∃ ao c, v = .slice ao zs.length c ∧ zs.length ≤ c ∧ c ≤ maxLen ∧ RdU w (.slice ao k c) (zs.take k) := by
  obtain ⟨⟨ao, cap, hv, h1, h2, h3⟩, hs⟩ := h
  have hl : (zs.take k).length = k := by simp; omega
  refine ⟨ao, cap, hv, h1, h2, ⟨ao, cap, by rw [hl], by omega, h2, fun hn => ?_⟩, ?_⟩
  · have hz : zs ≠ [] := fun e => hn (by rw [e]; simp)
    obtain ⟨b, off, ha, hl2, hc⟩ := h3 hz
    refine ⟨b, off, ha, hl2, fun i hi => ?_⟩
    rw [hl] at hi
    rw [hc i (by omega), List.getElem?_take, if_pos hi]
  · rcases hs with e | ⟨a, n, c, e⟩
    · rw [hv] at e
      injection e with e1 e2 e3
      have hk0 : k = 0 := by omega
      rw [hk0, e1, e3]
      exact .inl rfl
    · rw [hv] at e
      injection e with e1 e2 e3
      rw [e1]
      exact .inr ⟨_, _, _, rfl⟩
theorem usd_ge {fi : List Fi} {d : Dir} {p : Nm × Nat} (h : p ∈ d) : (fiAt fi p.2).bs.length ≤ usd fi d := by
  unfold usd
  induction d with
  | nil => simp at h
  | cons x r ih =>
    simp only [List.map_cons, List.sum_cons]
    rcases List.mem_cons.1 h with rfl | h
    · omega
    · have := ih h
      omega
theorem Dx.kps {F o : Nat → Prop} {N : Nat} {w w' : World} {d : Nat} {D : Dk} {ms ml : Nat} {mp : Option Nat} {va : Value} {fq : Nat → Nat} {fv : Nat → Value} (h : Dx F N w d D ms ml mp va fq fv) (k : Kps o w w') (ho : ∀ i, i < w.heap.size → o i → F i) : Dx F N w' d D ms ml mp va fq fv := by
  have hl := h.lt
  exact ⟨(k.same d hl (fun e => h.2.1.fd (ho d hl e))).trans h.1, h.2.1.move (fun i hi hn => ⟨k.same i hi (fun e => hn (ho i hi e)), hn⟩) hl (fun q hq => Nat.lt_of_lt_of_le (h.2.1.fw q hq) k.size), h.2.2⟩
def partK (D : Dk) (b : List Int) (most : Int) : Nat := clip most (min b.length D.room)

set_option maxRecDepth 100000 in
set_option maxHeartbeats 4000000 in
theorem ap1_any {F : Nat → Prop} {N : Nat} {w : World} {d : Nat} {D : Dk} {ms ml : Nat} {mp : Option Nat} {va : Value} {fq : Nat → Nat} {fv : Nat → Value} (h : Dx F N w d D ms ml mp va fq fv) (n : Nm) {i : Nat} (hi : i < D.fi.length) (most : Int) (vb : Value) (b : List Int) (hb : RdU w vb b) (hbl : b.length ≤ 1099511627776) (h256 : ∀ x ∈ b, 0 ≤ x ∧ x < 256) {bm bb bd bc : Nat} (hbm : w.cell? ⟨bm, 0, none⟩ = some (.int .i64 most)) (hbb : w.cell? ⟨bb, 0, none⟩ = some vb) (hbd : w.cell? ⟨bd, 0, none⟩ = some (pp d)) (c0 : Int) (hbc : w.heap[bc]? = some (.cells #[.int .i64 c0] 3 (0, 0))) (hF : F bc) (hFb : F bb) (hne : bb ≠ bc ∧ bd ≠ bc ∧ bm ≠ bc) (hvF : b ≠ [] → ∀ g, vb.ownBlock = some g → F g ∧ g ≠ bc) (hN : N + 1 ≤ 1099511627776) (hin : (n, i) ∈ D.se) :
    Calls Try.prog 54 #[.agg #[sv n, pp (fq i)], pp bm, pp bb, pp bd, pp bc] w fun e w' => e = .returned (.int .i64 0) ∧ Dsk F (N + 1) w' d (D.setF i (wrF (fiAt D.fi i) (b.take (partK D b most)))) ∧ Kn True F (some bc) w w' ∧ w'.heap[bc]? = some (.cells #[.int .i64 (partK D b most : Nat)] 3 (0, 0)) := by
  obtain ⟨w1, hw1, k1, hb1⟩ : ∃ w1, w1 = w.alloc (.cells #[sv n, pp (fq i)] 96) ∧ w1.heap[w.heap.size]? = some (.cells #[sv n, pp (fq i)] 96 (0, 0)) ∧ Below w.heap.size w w1 := ⟨_, rfl, heap_alloc_new _ _, ext_alloc (Below.refl _ _) _⟩
  have x1 := h.ext hb1
  have m1 := (hb1.cell (p := ⟨bm, 0, none⟩) (cell_lt hbm)).trans hbm
  have e1 := (hb1.cell (p := ⟨bb, 0, none⟩) (cell_lt hbb)).trans hbb
  have d1 := (hb1.cell (p := ⟨bd, 0, none⟩) (cell_lt hbd)).trans hbd
  have hbcl := (Array.getElem?_eq_some_iff.1 hbc).1
  have c1 := (hb1.block bc hbcl).trans hbc
  obtain ⟨va0, vc0, hv, hlc, hcm, _⟩ := hb.take (Nat.le_refl _)
  rw [hv] at e1
  have hk1l := (Array.getElem?_eq_some_iff.1 k1).1
  obtain ⟨kk, hkk⟩ : ∃ kk, kk = partK D b most := ⟨_, rfl⟩
  have hkb : kk ≤ b.length ∧ kk ≤ D.room := by rw [hkk]; unfold partK clip; omega
  have RM : Hid (Calls Try.prog 55 #[pp d] w1.drew fun e w2 => e = .returned (.int .i64 (D.room : Nat)) ∧ Below w1.heap.size w1 w2 ∧ w2.cell? ⟨bm, 0, none⟩ = some (.int .i64 most) ∧ w2.cell? ⟨bb, 0, none⟩ = some (.slice va0 b.length vc0) ∧ w2.cell? ⟨bd, 0, none⟩ = some (pp d) ∧ w2.cell? ⟨bc, 0, none⟩ = some (.int .i64 c0) ∧ w2.frozen? ⟨bc, 0, none⟩ = false) := by
    refine (room_any x1.drew.dsk).mono ?_
    rintro e w2 ⟨rfl, hb⟩
    have hb' := below_drew hb
    have c2 := (hb'.block bc (Nat.lt_of_lt_of_le hbcl hb1.size)).trans c1
    exact ⟨rfl, hb', (hb'.cell (p := ⟨bm, 0, none⟩) (cell_lt m1)).trans m1, (hb'.cell (p := ⟨bb, 0, none⟩) (cell_lt e1)).trans e1, (hb'.cell (p := ⟨bd, 0, none⟩) (cell_lt d1)).trans d1, by simp [World.cell?, c2], frozen_of_row _ _ _ _ _ c2⟩
  have hmin : min (b.length : Int) (D.room : Int) = ((min b.length D.room : Nat) : Int) := by omega
  have WI : Hid (∀ w, Calls Try.prog 43 #[.int .i64 most, .int .i64 ((min b.length D.room : Nat) : Int)] w fun e w' => e = .returned (.int .i64 (kk : Nat)) ∧ w = w') := fun w => by
    rw [hkk]
    exact within_any most (min b.length D.room) w
  have SK : Hid (∀ (y : World) (v : Value), (y.cell? ⟨bm, 0, none⟩ = some (.int .i64 most) ∧ y.cell? ⟨bb, 0, none⟩ = some (.slice va0 b.length vc0) ∧ y.cell? ⟨bd, 0, none⟩ = some (pp d)) → ((y.setCell ⟨bc, 0, none⟩ v).cell? ⟨bm, 0, none⟩ = some (.int .i64 most) ∧ (y.setCell ⟨bc, 0, none⟩ v).cell? ⟨bb, 0, none⟩ = some (.slice va0 b.length vc0) ∧ (y.setCell ⟨bc, 0, none⟩ v).cell? ⟨bd, 0, none⟩ = some (pp d))) := by
    rintro y v ⟨a, b, c⟩
    refine ⟨?_, ?_, ?_⟩
    · rw [cell_other hne.2.2]; exact a
    · rw [cell_other hne.1]; exact b
    · rw [cell_other hne.2.1]; exact c
  have PH : Hid (∀ w2 : World, Below w1.heap.size w1 w2 → ∃ w4, w2.setCell ⟨bc, 0, none⟩ (.int .i64 (kk : Int)) = w4 ∧ (w4.cell? ⟨w.heap.size, 1, none⟩ = some (pp (fq i)) ∧ w4.cell? ⟨bb, 0, none⟩ = some (.slice va0 b.length vc0) ∧ w4.cell? ⟨bc, 0, none⟩ = some (.int .i64 (kk : Int))) ∧ Calls Try.prog 56 #[pp (fq i), .slice va0 kk vc0] w4.drew fun e w5 => e = .returned (.tuple #[]) ∧ Dsk F (N + 1) w5 d (D.setF i (wrF (fiAt D.fi i) (b.take kk))) ∧ Kn True F (some bc) w w5 ∧ w5.heap[bc]? = some (.cells #[.int .i64 (kk : Int)] 3 (0, 0)) ∧ (w5.cell? ⟨w.heap.size, 1, none⟩ = some (pp (fq i)) ∧ w5.cell? ⟨bb, 0, none⟩ = some (.slice va0 b.length vc0) ∧ w5.cell? ⟨bc, 0, none⟩ = some (.int .i64 (kk : Int)))) := by
    intro w2 hb2
    have hb12 := ext_trans hb1 hb2
    have c2 := (hb2.block bc (Nat.lt_of_lt_of_le hbcl hb1.size)).trans c1
    obtain ⟨s4, g4⟩ := set1 c2 0 (.int .i64 (kk : Int))
    have kn4 : Kn True F (some bc) w (w2.setCell ⟨bc, 0, none⟩ (.int .i64 (kk : Int))) := Kn.below_trans hb12 (Kps.grown g4 (fun k e _ => .inr e))
    have x4 : Dx F N (w2.setCell ⟨bc, 0, none⟩ (.int .i64 (kk : Int))) d D ms ml mp va fq fv := (x1.ext hb2).kps (Kps.grown (o := fun k => k = bc) g4 (fun k e _ => by cases e; rfl)) (fun k _ e => by rw [e]; exact hF)
    have kbox := (g4.block w.heap.size (Nat.lt_of_lt_of_le hk1l hb2.size) (by simp; omega)).trans ((hb2.block w.heap.size hk1l).trans k1)
    have cbb : (w2.setCell ⟨bc, 0, none⟩ (.int .i64 (kk : Int))).cell? ⟨bb, 0, none⟩ = some (.slice va0 b.length vc0) := by rw [cell_other hne.1]; exact (hb2.cell (p := ⟨bb, 0, none⟩) (cell_lt e1)).trans e1
    generalize hw4 : w2.setCell ⟨bc, 0, none⟩ (.int .i64 (kk : Int)) = w4 at *
    refine ⟨w4, rfl, ⟨(cells2v kbox).2.1, cbb, by simp [World.cell?, s4]⟩, ?_⟩
    have hok := x4.fok hi
    have hsp := x4.2.2.1.sp
    have hN2 := x4.2.2.2
    have hrd : RdU w4.drew (.slice va0 kk vc0) (b.take kk) := by
      have r := (hb.kn kn4 (fun hn g hg => ⟨(hvF hn g hg).1, fun e => (hvF hn g hg).2 (by cases e; rfl)⟩)).ext (Below.refl _ w4).drew
      obtain ⟨ao, c, hv2, _, _, hr⟩ := r.take hkb.1
      rw [hv] at hv2
      cases hv2
      exact hr
    have hul : (fiAt D.fi i).bs.length ≤ usd D.fi D.se := usd_ge hin
    have hlen : (fiAt D.fi i).bs.length + kk ≤ D.sp := by
      have h1 := hkb.2
      unfold Dk.room at h1
      have := hok.2.1
      omega
    have htl : (b.take kk).length = kk := by simp; omega
    refine (write_any (x4.drew.fget hi) ⟨by omega, by omega⟩ _ _ hrd (by rw [htl]; omega)).mono ?_
    rintro e w5 ⟨rfl, v5, u5⟩
    have hwl : (wrF (fiAt D.fi i) (b.take kk)).bs.length ≤ D.sp ∧ (wrF (fiAt D.fi i) (b.take kk)).sy ≤ (wrF (fiAt D.fi i) (b.take kk)).bs.length ∧ (wrF (fiAt D.fi i) (b.take kk)).ct ≤ N + 1 ∧ ∀ x ∈ (wrF (fiAt D.fi i) (b.take kk)).bs, 0 ≤ x ∧ x < 256 := by
      unfold wrF
      split
      · exact ⟨hok.2.1, hok.1, by have := hok.2.2.1; omega, hok.2.2.2⟩
      · refine ⟨by simp only [List.length_append, htl]; exact hlen, by simp only [List.length_append]; have := hok.1; omega, by have := hok.2.2.1; simp only; omega, fun x hx => ?_⟩
        rcases List.mem_append.1 hx with hx | hx
        · exact hok.2.2.2 x hx
        · exact h256 x (List.mem_of_mem_take hx)
    have r := x4.drew.fileU (Nat.le_succ N) hN hi u5 hwl.2.1 hwl.1 hwl.2.2.1 hwl.2.2.2
    have hdr : Below w4.heap.size w4 w4.drew := (Below.refl _ w4).drew
    have kd5 : Kn True F none w4 w5 := Kn.below_trans hdr (Ku.kn r.2 none)
    have bc5 : w5.heap[bc]? = some (.cells #[.int .i64 (kk : Int)] 3 (0, 0)) := (kd5.block (Array.getElem?_eq_some_iff.1 s4).1 hF (by simp)).trans (by rw [s4]; rfl)
    have same5 : ∀ {k : Nat} {o : Obj}, w4.heap[k]? = some o → (∀ cs, o ≠ .cells cs 130 (0, 0)) → (∀ cs, o ≠ .cells cs 5 (0, 0)) → w5.heap[k]? = some o := fun {k o} e h1 h2 => by
      have := u5.2.1.same k (Array.getElem?_eq_some_iff.1 e).1 (fun e2 => e2.elim (fun e2 => ne_obj e (x4.fget hi).1 (h1 _) e2) (fun e2 => by
        obtain ⟨cur, hc⟩ := own_lt (x4.fget hi).2 e2.2
        exact ne_obj e hc (h2 cur) rfl))
      exact this.trans e
    refine ⟨rfl, r.1.dsk, kn4.trans (Ku.kn (Kn.ku kd5) _), bc5, ⟨(cells2v (same5 kbox (by simp) (by simp))).2.1, ?_, by simp [World.cell?, bc5]⟩⟩
    have hbF : w5.cell? ⟨bb, 0, none⟩ = w4.cell? ⟨bb, 0, none⟩ := by
      unfold World.cell?
      simp only [kd5.block (cell_lt cbb) hFb (by simp)]
    exact hbF.trans cbb
  subst hkk
  clear h hb1 k1 x1 hbm hbb hbd hbc c1 hb
  generalize hKK : partK D b most = kk at *
  go_enter Try.func54, Try.ntmps54
  go_upto_region 1 with fail
  rw [← hw1]
  clear hw1 hv
  refine wp_region_held_drew (S := fun w' => w'.cell? ⟨bm, 0, none⟩ = some (.int .i64 most) ∧ w'.cell? ⟨bb, 0, none⟩ = some (.slice va0 b.length vc0) ∧ w'.cell? ⟨bd, 0, none⟩ = some (pp d)) (by kernel_rfl) (by first | exact ⟨m1, e1, d1⟩ | (simp only [World.cell?_drew]; exact ⟨m1, e1, d1⟩)) (fun hHeld => ?_)
  refine wpAnyH_take (i := 0) (oi := _) (v := ?_) rfl (by kernel_rfl) (by kernel_rfl) (by kernel_rfl) (fun _ _ _ h => h) (Or.inl ⟨by rfl, ?_⟩) (by assumption) ?_
  rotate_left 1
  · intro wq hSw; (try dsimp only at hSw); go_simp; try (with_reducible rfl)
  try simp only [Act.put, List.getElem_toArray, List.getElem_cons_zero, List.setIfInBounds_toArray, List.set_cons_zero, List.set_cons_succ]
  refine wpAnyH_take (i := 1) (oi := _) (v := ?_) rfl (by kernel_rfl) (by kernel_rfl) (by kernel_rfl) (fun _ _ _ h => h) (Or.inl ⟨by rfl, ?_⟩) (by assumption) ?_
  rotate_left 1
  · intro wq hSw; (try dsimp only at hSw); go_simp; try (with_reducible rfl)
  try simp only [Act.put, List.getElem_toArray, List.getElem_cons_succ, List.getElem_cons_zero, List.setIfInBounds_toArray, List.set_cons_zero, List.set_cons_succ]
  refine wpAnyH_take (i := 2) (oi := _) (v := ?_) rfl (by kernel_rfl) (by kernel_rfl) (by kernel_rfl) (fun _ _ _ h => h) (Or.inl ⟨by rfl, ?_⟩) (by assumption) ?_
  rotate_left 1
  · intro wq hSw; (try dsimp only at hSw); go_simp; try (with_reducible rfl)
  try simp only [Act.put, List.getElem_toArray, List.getElem_cons_succ, List.getElem_cons_zero, List.setIfInBounds_toArray, List.set_cons_zero, List.set_cons_succ]
  refine wpAnyH_take (i := 3) (oi := _) (v := ?_) rfl (by kernel_rfl) (by kernel_rfl) (by kernel_rfl) (fun _ _ _ h => h) (Or.inl ⟨by rfl, ?_⟩) (by assumption) ?_
  rotate_left 1
  · intro wq hSw; (try dsimp only at hSw); go_simp; try (with_reducible rfl)
  try simp only [Act.put, List.getElem_toArray, List.getElem_cons_succ, List.getElem_cons_zero, List.setIfInBounds_toArray, List.set_cons_zero, List.set_cons_succ]
  refine wpAnyH_ready (rs := [4]) (by kernel_rfl) (by simp) ?_
  refine AllReadyH.cons (o := _) rfl (fun K hK => ?_) AllReadyH.nil
  go_simp
  refine RM.out.mono ?_; rintro e w2 ⟨rfl, hb2, y0, y1, y2, y3, y4⟩; have HB2 := hidIt hb2; clear hb2; try dsimp only
  refine hK.out _ _ ?_ (fun hHeld => ?_)
  · exact ⟨y0, y1, y2⟩
  clear hK K
  try simp only [Act.put, List.getElem_toArray, List.getElem_cons_succ, List.getElem_cons_zero, List.setIfInBounds_toArray, List.set_cons_zero, List.set_cons_succ]
  refine wpAnyH_take (i := 5) (oi := _) (v := ?_) rfl (by kernel_rfl) (by kernel_rfl) (by kernel_rfl) (fun _ _ _ h => h) (Or.inl ⟨by rfl, ?_⟩) (by assumption) ?_
  rotate_left 1
  · intro wq hSw; (try dsimp only at hSw); go_simp; try (with_reducible rfl)
  try simp only [Act.put, List.getElem_toArray, List.getElem_cons_succ, List.getElem_cons_zero, List.setIfInBounds_toArray, List.set_cons_zero, List.set_cons_succ]
  refine wpAnyH_ready (rs := [6]) (by kernel_rfl) (by simp) ?_
  refine AllReadyH.cons (o := _) rfl (fun K hK => ?_) AllReadyH.nil
  go_simp
  refine (WI.out _).mono ?_; rintro e w3 ⟨rfl, rfl⟩; try dsimp only
  refine hK.out _ _ ?_ (fun hHeld => ?_)
  · exact ⟨y0, y1, y2⟩
  clear hK K
  try simp only [Act.put, List.getElem_toArray, List.getElem_cons_succ, List.getElem_cons_zero, List.setIfInBounds_toArray, List.set_cons_zero, List.set_cons_succ]
  refine wpAnyH_ready (rs := [7]) (by kernel_rfl) (by simp) ?_
  refine AllReadyH.cons (o := _) rfl (fun K hK => ?_) AllReadyH.nil
  go_simp
  refine hK.out _ _ ?_ (fun hHeld => ?_)
  · exact SK.out _ _ ⟨y0, y1, y2⟩
  clear hK K
  try simp only [Act.put, List.getElem_toArray, List.getElem_cons_succ, List.getElem_cons_zero, List.setIfInBounds_toArray, List.set_cons_zero, List.set_cons_succ]
  refine wpAnyH_done (by kernel_rfl) ?_ _
  go_upto_region 2 with fail
  obtain ⟨w4, hw4, ⟨z1, z2, z3⟩, wr⟩ := PH.out _ HB2.out
  have WRT := hidIt wr
  have hkv : kk ≤ vc0 := Nat.le_trans hkb.1 hlc
  have hkl : kk ≤ b.length := hkb.1
  rw [hw4]
  clear wr y0 y1 y2 y3 y4 hw4
  refine wp_region_held_drew (S := fun w' => w'.cell? ⟨w.heap.size, 1, none⟩ = some (pp (fq i)) ∧ w'.cell? ⟨bb, 0, none⟩ = some (.slice va0 b.length vc0) ∧ w'.cell? ⟨bc, 0, none⟩ = some (.int .i64 (kk : Int))) (by kernel_rfl) (by first | exact ⟨z1, z2, z3⟩ | (simp only [World.cell?_drew]; exact ⟨z1, z2, z3⟩)) (fun hHeld => ?_)
  refine wpAnyH_take (i := 0) (oi := _) (v := ?_) rfl (by kernel_rfl) (by kernel_rfl) (by kernel_rfl) (fun _ _ _ h => h) (Or.inl ⟨by rfl, ?_⟩) (by assumption) ?_
  rotate_left 1
  · intro wq hSw; (try dsimp only at hSw); go_simp; try (with_reducible rfl)
  try simp only [Act.put, List.getElem_toArray, List.getElem_cons_zero, List.setIfInBounds_toArray, List.set_cons_zero, List.set_cons_succ]
  refine wpAnyH_take (i := 1) (oi := _) (v := ?_) rfl (by kernel_rfl) (by kernel_rfl) (by kernel_rfl) (fun _ _ _ h => h) (Or.inl ⟨by rfl, ?_⟩) (by assumption) ?_
  rotate_left 1
  · intro wq hSw; (try dsimp only at hSw); go_simp; try (with_reducible rfl)
  try simp only [Act.put, List.getElem_toArray, List.getElem_cons_succ, List.getElem_cons_zero, List.setIfInBounds_toArray, List.set_cons_zero, List.set_cons_succ]
  refine wpAnyH_take (i := 2) (oi := _) (v := ?_) rfl (by kernel_rfl) (by kernel_rfl) (by kernel_rfl) (fun _ _ _ h => h) (Or.inl ⟨by rfl, ?_⟩) (by assumption) ?_
  rotate_left 1
  · intro wq hSw; (try dsimp only at hSw); go_simp; try (with_reducible rfl)
  try simp only [Act.put, List.getElem_toArray, List.getElem_cons_succ, List.getElem_cons_zero, List.setIfInBounds_toArray, List.set_cons_zero, List.set_cons_succ]
  refine wpAnyH_take (i := 3) (oi := _) (v := ?_) rfl (by kernel_rfl) (by kernel_rfl) (by kernel_rfl) (fun _ _ _ h => h) (Or.inl ⟨by rfl, ?_⟩) (by assumption) ?_
  rotate_left 1
  · intro wq hSw; (try dsimp only at hSw); go_simp; try (with_reducible rfl)
  try simp only [Act.put, List.getElem_toArray, List.getElem_cons_succ, List.getElem_cons_zero, List.setIfInBounds_toArray, List.set_cons_zero, List.set_cons_succ]
  refine wpAnyH_take (i := 4) (oi := _) (v := ?_) rfl (by kernel_rfl) (by kernel_rfl) (by kernel_rfl) (fun _ _ _ h => h) (Or.inl ⟨by rfl, ?_⟩) (by assumption) ?_
  rotate_left 1
  · intro wq hSw; (try dsimp only at hSw); go_simp; try (with_reducible rfl)
  try simp only [Act.put, List.getElem_toArray, List.getElem_cons_succ, List.getElem_cons_zero, List.setIfInBounds_toArray, List.set_cons_zero, List.set_cons_succ]
  refine wpAnyH_ready (rs := [5]) (by kernel_rfl) (by simp) ?_
  refine AllReadyH.cons (o := _) rfl (fun K hK => ?_) AllReadyH.nil
  go_simp
  refine WRT.out.mono ?_; rintro e w5 ⟨rfl, hx5, hk5, ha5⟩; have HX5 := hidIt hx5; have HK5 := hidIt hk5; have HA5 := hidIt ha5; clear hx5 hk5; try dsimp only
  refine hK.out _ _ ?_ (fun hHeld => ?_)
  · exact ha5.2
  clear hK K
  try simp only [Act.put, List.getElem_toArray, List.getElem_cons_succ, List.getElem_cons_zero, List.setIfInBounds_toArray, List.set_cons_zero, List.set_cons_succ]
  refine wpAnyH_done (by kernel_rfl) ?_ _
  go_wp2_with fail
  go_ret
  exact ⟨rfl, HX5.out, HK5.out, HA5.out.1⟩


end Go.Proofs.Ytaoaihjiieandaa
