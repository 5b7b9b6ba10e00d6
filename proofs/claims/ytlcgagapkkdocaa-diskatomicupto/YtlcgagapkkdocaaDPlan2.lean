/- Plan. -/
import Derived.Test.YtlcgagapkkdocaaDPlan
import Derived.Test.YtlcgagapkkdocaaDLDo3
namespace Go.Proofs.Ytlcgagapkkdocaa
open Go.RowKit

theorem cellsF {w : World} {b : Nat} {T : TypeId} {v0 v1 v2 v3 v4 : Value} (h : w.heap[b]? = some (.cells #[v0, v1, v2, v3, v4] T (0, 0))) : w.cell? ⟨b, 0, none⟩ = some v0 ∧ w.cell? ⟨b, 1, none⟩ = some v1 ∧ w.cell? ⟨b, 2, none⟩ = some v2 ∧ w.cell? ⟨b, 3, none⟩ = some v3 ∧ w.cell? ⟨b, 4, none⟩ = some v4 := by
  refine ⟨?_, ?_, ?_, ?_, ?_⟩ <;> (rw [cell_of_row _ _ _ _ _ _ h]; rfl)
theorem own_le0 {w : World} {base : Nat} {e : TypeId} {size n : Nat} {v : Value} {xs : List Value} (h : w.ownsRow base e size v n xs) : w.ownsRow 0 e size v n xs := ⟨h.1, h.2.elim .inl (fun ⟨g, cap, cur, hv, _, r⟩ => .inr ⟨g, cap, cur, hv, Nat.zero_le _, r⟩)⟩
theorem rds_take {w : World} {ba : Option Addr} {bc : Nat} {zs : List Int} (h : RdS w (.slice ba zs.length bc) zs) (n : Nat) : RdS w (.slice ba (zs.take n).length bc) (zs.take n) := by
  obtain ⟨⟨ao, cap, e, h1, h2, h3⟩, h4⟩ := h
  cases e
  refine ⟨⟨ba, bc, rfl, by simp only [List.length_take]; omega, h2, fun hn => ?_⟩, ?_⟩
  · have hz : zs ≠ [] := fun e => hn (by rw [e]; simp)
    obtain ⟨b, off, e, h5, h6⟩ := h3 hz
    refine ⟨b, off, e, h5, fun i hi => ?_⟩
    have hi2 : i < zs.length ∧ i < n := by simp only [List.length_take] at hi; omega
    rw [h6 i hi2.1, List.getElem?_take, if_pos hi2.2]
  · rcases h4 with h4 | ⟨a, m, c, h4⟩
    · injection h4 with e1 e2 e3
      have : zs.take n = [] := by rw [List.length_eq_zero_iff.1 e2]; simp
      left; rw [this, e1, e3]; rfl
    · injection h4 with e1 e2 e3
      right; exact ⟨a, _, _, by rw [e1]⟩
set_option maxRecDepth 100000 in
set_option maxHeartbeats 8000000 in
theorem Plan_any {F : Nat → Prop} {M : Nat} {w : World} {d : Nat} {D : Dk} (h : Dsk F M w d D) (v : Value) (fs : List Fa) (hv : RdF w v fs) (hF : InF F v fs) (hN : M + fs.length ≤ 1099511627776) :
    Calls Try.prog 11 #[pp d, v] w fun e w' => e = .returned (.tuple #[]) ∧ Dsk F (M + fs.length) w' d (D.plan (plOf fs)) ∧ Kd F w w' := by
  obtain ⟨ms, ml, mp, va, fq, fv, h⟩ := h.open
  obtain ⟨c0, c1, c2, c3, c4, c5, c6, c7, fr⟩ := dC_cells h.1
  have fr6 := fr 6
  have fr5 := fr 5
  have hfw := hidIt h.2.1.fw
  obtain ⟨w1, w2, w3, hw1, hmk, hw3, e5, f5, x0, kd0⟩ := h.plan0
  obtain ⟨nb, hnb⟩ : ∃ nb, nb = w.heap.size := ⟨_, rfl⟩
  have HV := hidIt hv
  have HF := hidIt hF
  have HOK : Hid (∀ x ∈ fs, x.Ok) := by obtain ⟨_, _, _, _, _, h5, _⟩ := hv; exact h5
  obtain ⟨ao, cap, rfl, hl1, hl2, _, _⟩ := hv
  have X0 := hidIt x0
  have K0 := hidIt kd0
  clear h x0 kd0 hF c0 c1 c2 c3 c4 c7 fr
  go_enter Try.func11, Try.ntmps11
  go_upto_region 1 with fail
  try rw [hw1]
  go_upto_region 2 with fail
  try rw [hw3]
  rw [← hnb] at X0
  clear hw1 hw3 hmk e5 f5 c5 c6 fr5 fr6 hnb
  go_wp2_with fail
  go_loopw [18] (fun i wr => ∃ k : Nat, k ≤ fs.length ∧ i = .int .i64 k ∧ Dx F (M + k) wr d (D.plan (plOf (fs.take k))) ms ml (some nb) va fq fv ∧ Kd F w wr) (fun i _ => fs.length - (RowKit.intOf i).toNat)
  case atStart => exact ⟨0, Nat.zero_le _, rfl, X0.out, K0.out⟩
  case round =>
    clear X0 K0
    obtain ⟨k, hk, rfl, hx0, hkd⟩ := hrel
    have HX := hidIt hx0
    have HKD := hidIt hkd
    clear hx0 hkd
    by_cases hlt : k < fs.length
    · have hlt' : (k : Int) < (fs.length : Int) := by omega
      obtain ⟨x, hx⟩ : ∃ x, fs[k]? = some x := ⟨_, List.getElem?_eq_getElem hlt⟩
      obtain ⟨ao', cap', hv', _, _, _, h6⟩ := HV.out.kps HF.out (HKD.out.mono (fun _ _ e => e.1)) hfw.out
      cases hv'
      obtain ⟨pb, po, ea, hpb, hcs⟩ := h6 (by intro e; rw [e] at hlt; simp at hlt)
      subst ea
      obtain ⟨c0, c1, c2, c3, c4, crd⟩ := hcs k x hx
      obtain ⟨ba, bc, hbv, _⟩ := crd.1
      rw [hbv] at c4 crd
      have HXO := hidIt (HOK.out x (List.mem_of_getElem? hx))
      have HPT := hidIt (plOf_take hx)
      clear hcs h6 hx
      go_upto_region 5 with fail
      generalize hw5 : World.alloc _ _ = w5
      have HB5 : Hid (Below wr.heap.size wr w5) := by unfold Hid; rw [← hw5]; exact ext_alloc (Below.refl _ _) _
      have HK5 : Hid (w5.heap[wr.heap.size]? = some (.cells #[.int .i64 x.st, .int .i64 x.kd, .int .i64 x.pt, .int .i64 x.cn, .slice ba x.bs.length bc] 62 (0, 0))) := by unfold Hid; rw [← hw5]; exact heap_alloc_new _ _
      clear hw5 c0 c1 c2 c3 c4
      have HR := hidIt (crd.ext HB5.out)
      have X5 := hidIt (HX.out.ext HB5.out)
      clear crd
      obtain ⟨a1, a2, a3, a4, lx, ly, lz, lk⟩ := X5.out.2.1.hp.look2 HXO.out.st
      have HS : Hid (∀ w'', Below w5.heap.size w5 w'' → w''.cell? ⟨d, 5, none⟩ = some (.map (some nb)) ∧ w''.cell? ⟨wr.heap.size, 0, none⟩ = some (.int .i64 x.st) ∧ (Instr.lookup 86 (.map (some nb)) (.int .i64 x.st) true).run Try.prog w'' = .ok (.tuple #[.agg #[.int .i64 a1, .int .i64 a2, .int .i64 a3, .int .i64 a4, .slice lx ly lz], .bool (plOf (fs.take k) x.st).isSome]) w'') := fun w'' hb => by
        obtain ⟨es, cl, hm⟩ := X5.out.2.1.hp.heap
        have e1 := (hb.block wr.heap.size (Array.getElem?_eq_some_iff.1 HK5.out).1).trans HK5.out
        exact ⟨(dC_cells (X5.out.ext hb).1).2.2.2.2.2.1, (cellsF e1).1, lk w'' (hb.block nb (Array.getElem?_eq_some_iff.1 hm).1)⟩
      clear lk
      have ks := HS.out w5 (Below.refl _ _)
      refine wp_region_held_drew (S := fun w'' => w''.cell? ⟨d, 5, none⟩ = some (.map (some nb)) ∧ w''.cell? ⟨wr.heap.size, 0, none⟩ = some (.int .i64 x.st) ∧ (Instr.lookup 86 (.map (some nb)) (.int .i64 x.st) true).run Try.prog w'' = .ok (.tuple #[.agg #[.int .i64 a1, .int .i64 a2, .int .i64 a3, .int .i64 a4, .slice lx ly lz], .bool (plOf (fs.take k) x.st).isSome]) w'') (by kernel_rfl) (HS.out _ (Below.refl _ _).drew) (fun hHeld => ?_)
      refine wpAnyH_take (i := 0) (oi := _) (v := ?_) rfl (by kernel_rfl) (by kernel_rfl) (by kernel_rfl) (fun _ _ _ h => h) (Or.inl ⟨by rfl, ?_⟩) (by assumption) ?_
      rotate_left 1
      · intro wq hSw; (try dsimp only at hSw); go_simp; try (with_reducible rfl)
      try simp only [Act.put, List.getElem_toArray, List.getElem_cons_zero, List.setIfInBounds_toArray, List.set_cons_zero, List.set_cons_succ]
      refine wpAnyH_take (i := 1) (oi := _) (v := ?_) rfl (by kernel_rfl) (by kernel_rfl) (by kernel_rfl) (fun _ _ _ h => h) (Or.inl ⟨by rfl, ?_⟩) (by assumption) ?_
      rotate_left 1
      · intro wq hSw; (try dsimp only at hSw); go_simp; try (with_reducible rfl)
      try simp only [Act.put, List.getElem_toArray, List.getElem_cons_succ, List.getElem_cons_zero, List.setIfInBounds_toArray, List.set_cons_zero, List.set_cons_succ]
      refine wpAnyH_take (i := 2) (oi := _) (v := ?_) rfl (by kernel_rfl) (by kernel_rfl) (by kernel_rfl) (fun _ _ _ h => h) (Or.inl ⟨by rfl, ?_⟩) (by assumption) ?_
      rotate_left 1
      · intro wq hSw; (try dsimp only at hSw); go_simp; try (with_reducible rfl)
      try simp only [Act.put, List.getElem_toArray, List.getElem_cons_succ, List.getElem_cons_zero, List.setIfInBounds_toArray, List.set_cons_zero, List.set_cons_succ]
      refine wpAnyH_take (i := 3) (oi := _) (v := ?_) rfl (by kernel_rfl) (by kernel_rfl) (by kernel_rfl) (fun _ _ _ h => h) (Or.inl ⟨by rfl, ?_⟩) (by assumption) ?_
      rotate_left 1
      · intro wq hSw; (try dsimp only at hSw); go_simp; try (with_reducible rfl)
      try simp only [Act.put, List.getElem_toArray, List.getElem_cons_succ, List.getElem_cons_zero, List.setIfInBounds_toArray, List.set_cons_zero, List.set_cons_succ]
      refine wpAnyH_take (i := 4) (oi := _) (v := ?_) rfl (by kernel_rfl) (by kernel_rfl) (by kernel_rfl) (fun _ _ _ h => h) (Or.inl ⟨by rfl, ?_⟩) (by assumption) ?_
      rotate_left 1
      · intro wq hSw; (try dsimp only at hSw); go_simp; try (with_reducible rfl)
      try simp only [Act.put, List.getElem_toArray, List.getElem_cons_succ, List.getElem_cons_zero, List.setIfInBounds_toArray, List.set_cons_zero, List.set_cons_succ]
      refine wpAnyH_take (i := 5) (oi := _) (v := ?_) rfl (by kernel_rfl) (by kernel_rfl) (by kernel_rfl) (fun _ _ _ h => h) (Or.inl ⟨by rfl, ?_⟩) (by assumption) ?_
      rotate_left 1
      · intro wq hSw; (try dsimp only at hSw); go_simp; try (with_reducible rfl)
      try simp only [Act.put, List.getElem_toArray, List.getElem_cons_succ, List.getElem_cons_zero, List.setIfInBounds_toArray, List.set_cons_zero, List.set_cons_succ]
      refine wpAnyH_take (i := 6) (oi := _) (v := ?_) rfl (by kernel_rfl) (by kernel_rfl) (by kernel_rfl) (fun _ _ _ h => h) (Or.inl ⟨by rfl, ?_⟩) (by assumption) ?_
      rotate_left 1
      · intro wq hSw; (try dsimp only at hSw); go_simp; try (with_reducible rfl)
      try simp only [Act.put, List.getElem_toArray, List.getElem_cons_succ, List.getElem_cons_zero, List.setIfInBounds_toArray, List.set_cons_zero, List.set_cons_succ]
      refine wpAnyH_take (i := 7) (oi := _) (v := ?_) rfl (by kernel_rfl) (by kernel_rfl) (by kernel_rfl) (fun _ _ _ h => h) (Or.inl ⟨by rfl, ?_⟩) (by assumption) ?_
      rotate_left 1
      · intro wq hSw; (try dsimp only at hSw); go_simp; try (with_reducible rfl)
      try simp only [Act.put, List.getElem_toArray, List.getElem_cons_succ, List.getElem_cons_zero, List.setIfInBounds_toArray, List.set_cons_zero, List.set_cons_succ]
      refine wpAnyH_take (i := 8) (oi := _) (v := ?_) rfl (by kernel_rfl) (by kernel_rfl) (by kernel_rfl) (fun _ _ _ h => h) (Or.inl ⟨by rfl, ?_⟩) (by assumption) ?_
      rotate_left 1
      · intro wq hSw; (try dsimp only at hSw); go_simp; try (with_reducible rfl)
      try simp only [Act.put, List.getElem_toArray, List.getElem_cons_succ, List.getElem_cons_zero, List.setIfInBounds_toArray, List.set_cons_zero, List.set_cons_succ]
      refine wpAnyH_take (i := 9) (oi := _) (v := ?_) rfl (by kernel_rfl) (by kernel_rfl) (by kernel_rfl) (fun _ _ _ h => h) (Or.inl ⟨by rfl, ?_⟩) (by assumption) ?_
      rotate_left 1
      · intro wq hSw; (try dsimp only at hSw); go_simp; try (with_reducible rfl)
      try simp only [Act.put, List.getElem_toArray, List.getElem_cons_succ, List.getElem_cons_zero, List.setIfInBounds_toArray, List.set_cons_zero, List.set_cons_succ]
      refine wpAnyH_ready (rs := [10]) (by kernel_rfl) (by simp) ?_
      refine AllReadyH.cons (o := _) rfl (fun K hK => ?_) AllReadyH.nil
      go_simp
      refine hK.out _ _ ?_ (fun hHeld => ?_)
      · first | exact HS.out _ (Below.refl _ _) | exact HS.out _ (Below.refl _ _).drew | exact HS.out _ (ext_alloc (Below.refl _ _) _) | exact HS.out _ (ext_alloc (Below.refl _ _) _).drew | exact HS.out _ (ext_alloc (Below.refl _ _).drew _)
      clear hK K
      try simp only [Act.put, List.getElem_toArray, List.getElem_cons_succ, List.getElem_cons_zero, List.setIfInBounds_toArray, List.set_cons_zero, List.set_cons_succ]
      refine wpAnyH_ready (rs := [11]) (by kernel_rfl) (by simp) ?_
      refine AllReadyH.cons (o := _) rfl (fun K hK => ?_) AllReadyH.nil
      go_simp
      refine hK.out _ _ ?_ (fun hHeld => ?_)
      · first | exact HS.out _ (Below.refl _ _) | exact HS.out _ (Below.refl _ _).drew | exact HS.out _ (ext_alloc (Below.refl _ _) _) | exact HS.out _ (ext_alloc (Below.refl _ _) _).drew | exact HS.out _ (ext_alloc (Below.refl _ _).drew _)
      clear hK K
      try simp only [Act.put, List.getElem_toArray, List.getElem_cons_succ, List.getElem_cons_zero, List.setIfInBounds_toArray, List.set_cons_zero, List.set_cons_succ]
      refine wpAnyH_take (i := 12) (oi := _) (v := ?_) rfl (by kernel_rfl) (by kernel_rfl) (by kernel_rfl) (fun _ _ _ h => h) (Or.inl ⟨by rfl, ?_⟩) (by assumption) ?_
      rotate_left 1
      · intro wq hSw; (try dsimp only at hSw); go_simp; try (with_reducible rfl)
      try simp only [Act.put, List.getElem_toArray, List.getElem_cons_succ, List.getElem_cons_zero, List.setIfInBounds_toArray, List.set_cons_zero, List.set_cons_succ]
      refine wpAnyH_done (by kernel_rfl) ?_ _
      obtain ⟨w6, hw6, hb6⟩ : ∃ w6, (w5.alloc (.cells #[.int .i64 a1, .int .i64 a2, .int .i64 a3, .int .i64 a4, .slice lx ly lz] 62)).drew = w6 ∧ Below w5.heap.size w5 w6 := ⟨_, rfl, (ext_alloc (Below.refl _ _) _).drew⟩
      rw [hw6]
      have X6 := hidIt (X5.out.ext hb6)
      have k6 := (hb6.block wr.heap.size (Array.getElem?_eq_some_iff.1 HK5.out).1).trans HK5.out
      have HR6 := hidIt (HR.out.ext hb6)
      have HB6 : Hid (Below wr.heap.size wr w6) := HB5.out.trans (hb6.mono HB5.out.size)
      clear hw6 hb6 ks HS X5 HK5 HB5 HR hHeld
      obtain ⟨k0, k1, k2, k3, k4⟩ := cellsF k6
      have K6 := hidIt k6
      clear k6
      cases htk : (plOf (fs.take k) x.st).isSome with
      | true =>
        have F6 : Hid (Dx F (M + (k + 1)) w6 d (D.plan (plOf (fs.take (k + 1)))) ms ml (some nb) va fq fv ∧ Kd F w w6) := ⟨by rw [HPT.out]; unfold plAdd; rw [if_pos (.inl htk)]; exact X6.out.monoN (by omega) (by omega), HKD.out.trans (Kd.of HB6.out)⟩
        go_wp2_with fail
        go_roundw
        case rel => exact ⟨k + 1, by omega, by go_num, F6.out⟩
        case measure => simp [RowKit.intOf]; omega
      | false =>
        by_cases h1 : x.st < 1
        · skip
          have F6 : Hid (Dx F (M + (k + 1)) w6 d (D.plan (plOf (fs.take (k + 1)))) ms ml (some nb) va fq fv ∧ Kd F w w6) := ⟨by rw [HPT.out]; unfold plAdd; rw [if_pos (.inr (.inl h1))]; exact X6.out.monoN (by omega) (by omega), HKD.out.trans (Kd.of HB6.out)⟩
          go_wp2_with fail
          go_roundw
          case rel => exact ⟨k + 1, by omega, by go_num, F6.out⟩
          case measure => simp [RowKit.intOf]; omega
        by_cases h2 : x.kd < 1
        · skip
          have F6 : Hid (Dx F (M + (k + 1)) w6 d (D.plan (plOf (fs.take (k + 1)))) ms ml (some nb) va fq fv ∧ Kd F w w6) := ⟨by rw [HPT.out]; unfold plAdd; rw [if_pos (.inr (.inr (.inl h2)))]; exact X6.out.monoN (by omega) (by omega), HKD.out.trans (Kd.of HB6.out)⟩
          go_wp2_with fail
          go_roundw
          case rel => exact ⟨k + 1, by omega, by go_num, F6.out⟩
          case measure => simp [RowKit.intOf]; omega
        by_cases h3 : 5 < x.kd
        · skip
          have F6 : Hid (Dx F (M + (k + 1)) w6 d (D.plan (plOf (fs.take (k + 1)))) ms ml (some nb) va fq fv ∧ Kd F w w6) := ⟨by rw [HPT.out]; unfold plAdd; rw [if_pos (.inr (.inr (.inr h3)))]; exact X6.out.monoN (by omega) (by omega), HKD.out.trans (Kd.of HB6.out)⟩
          go_wp2_with fail
          go_roundw
          case rel => exact ⟨k + 1, by omega, by go_num, F6.out⟩
          case measure => simp [RowKit.intOf]; omega
        have hxb := HXO.out.len
        have HRT : Hid (RdS w6 (.slice ba (min (x.bs.length : Int) 16).toNat bc) (x.bs.take 16)) := by
          have := rds_take HR6.out 16
          rwa [show (x.bs.take 16).length = (min (x.bs.length : Int) 16).toNat by simp only [List.length_take]; omega] at this
        have CL := hidIt (cloneI_any _ _ w6 HRT.out (by simp only [List.length_take]; omega))
        have HCP : Hid (x.bs.length ≤ bc ∧ bc ≤ 9223372036854775807) := by obtain ⟨ao, c, e, g1, g2, _⟩ := HR6.out.1; cases e; exact ⟨g1, by unfold maxLen at g2; exact g2⟩
        have hcp := HCP.out
        go_upto_region 9 with (go_at_call 39; refine CL.out.mono ?_; rintro e w7 ⟨u, rfl, ho, hb⟩; obtain ⟨ua, un, uc, rfl⟩ := form_own ho; have HO7 := hidIt ho; have HB7 := hidIt hb; have e7 := (hb.block wr.heap.size (Array.getElem?_eq_some_iff.1 K6.out).1).trans K6.out; have m4 := (cellsF e7).2.2.2.2; have f4 : w7.frozen? ⟨wr.heap.size, 4, none⟩ = false := frozen_of_row _ _ _ _ _ e7; have E7 := hidIt e7; clear ho hb e7)
        obtain ⟨s8, g8⟩ := set1 E7.out 4 (.slice ua un uc)
        have hw8s : (w7.setCell ⟨wr.heap.size, 4, none⟩ (.slice ua un uc)).heap.size = w7.heap.size := by simp
        generalize hw8 : w7.setCell ⟨wr.heap.size, 4, none⟩ (.slice ua un uc) = w8 at *
        have hne : wr.heap.size < w6.heap.size := (Array.getElem?_eq_some_iff.1 K6.out).1
        have hdw := HX.out.lt
        have GB : Hid (∀ i, i < w7.heap.size → i ≠ wr.heap.size → w8.heap[i]? = w7.heap[i]?) := fun i hi hn => g8.block i hi (by simpa using hn)
        have KW8 : Hid (Below wr.heap.size wr w8) := HB6.out.trans ⟨by rw [g8.os]; exact HB7.out.os, by rw [g8.tape]; exact HB7.out.tape, by rw [g8.output]; exact HB7.out.output, Nat.le_trans HB7.out.size g8.size, fun i hi => (GB.out i (by have := HB7.out.size; omega) (by omega)).trans (HB7.out.block i (by omega))⟩
        have X8 := hidIt (HX.out.ext KW8.out).drew
        have O8 : Hid (OwnI w8.drew 0 (.slice ua un uc) (x.bs.take 16) ∧ ∀ g, (Value.slice ua un uc).ownBlock = some g → ¬ F g) := ⟨own_same (own_le0 HO7.out) (fun g hg => by
            have := own_ge HO7.out hg
            exact GB.out g this.2 (by omega)), fun g hg hq => by
            have := own_ge HO7.out hg
            have := HX.out.2.1.fw g hq
            omega⟩
        obtain ⟨w9, hrun, hp9, hg9⟩ := X8.out.2.1.hp.put HXO.out.st (by have := hN; omega) (f := x.ft) (u := .slice ua un uc) ⟨by show 1 ≤ x.kd; omega, by show x.kd ≤ 5; omega, HXO.out.pt, HXO.out.cn⟩ (fun z hz => HXO.out.bs z (List.mem_of_mem_take hz)) O8.out.1 O8.out.2
        have hrun' : (Instr.mapUpdate 86 (.map (some nb)) (.int .i64 x.st) (.agg #[.int .i64 x.st, .int .i64 x.kd, .int .i64 x.pt, .int .i64 x.cn, .slice ua un uc])).run Try.prog w8.drew = .ok () w9 := hrun
        obtain ⟨x9, kd9⟩ := X8.out.replan (M := M + (k + 1)) (by omega) (by omega) hg9 hp9
        have F9 : Hid (Dx F (M + (k + 1)) w9 d (D.plan (plOf (fs.take (k + 1)))) ms ml (some nb) va fq fv ∧ Kd F w w9) := ⟨by
          rw [HPT.out]
          unfold plAdd
          rw [if_neg (by intro e; rcases e with e | e | e | e <;> simp_all)]
          exact x9, (HKD.out.trans (Kd.of KW8.out.drew)).trans kd9⟩
        have ks8 : w8.cell? ⟨d, 5, none⟩ = some (.map (some nb)) ∧ w8.cell? ⟨wr.heap.size, 0, none⟩ = some (.int .i64 x.st) ∧ w8.cell? ⟨wr.heap.size, 1, none⟩ = some (.int .i64 x.kd) ∧ w8.cell? ⟨wr.heap.size, 2, none⟩ = some (.int .i64 x.pt) ∧ w8.cell? ⟨wr.heap.size, 3, none⟩ = some (.int .i64 x.cn) ∧ w8.cell? ⟨wr.heap.size, 4, none⟩ = some (.slice ua un uc) := ⟨(dC_cells X8.out.1).2.2.2.2.2.1, cellsF s8⟩
        have ks9 : w9.cell? ⟨d, 5, none⟩ = some (.map (some nb)) ∧ w9.cell? ⟨wr.heap.size, 0, none⟩ = some (.int .i64 x.st) ∧ w9.cell? ⟨wr.heap.size, 1, none⟩ = some (.int .i64 x.kd) ∧ w9.cell? ⟨wr.heap.size, 2, none⟩ = some (.int .i64 x.pt) ∧ w9.cell? ⟨wr.heap.size, 3, none⟩ = some (.int .i64 x.cn) ∧ w9.cell? ⟨wr.heap.size, 4, none⟩ = some (.slice ua un uc) := by
          obtain ⟨es, cl, hm⟩ := X8.out.2.1.hp.heap
          have e9 : w9.heap[wr.heap.size]? = w8.heap[wr.heap.size]? := hg9.block _ (Array.getElem?_eq_some_iff.1 s8).1 (by simpa using ne_obj s8 hm (by simp))
          exact ⟨(dC_cells x9.1).2.2.2.2.2.1, cellsF (e9.trans s8)⟩
        clear hw8 g8 GB X8 O8 hrun hp9 hg9 x9 kd9 HB7 HO7 E7 KW8 m4 f4 CL HRT HCP K6 HR6 X6 k0 k1 k2 k3 k4 s8
        refine wp_region_held_drew (S := fun w'' => w''.cell? ⟨d, 5, none⟩ = some (.map (some nb)) ∧ w''.cell? ⟨wr.heap.size, 0, none⟩ = some (.int .i64 x.st) ∧ w''.cell? ⟨wr.heap.size, 1, none⟩ = some (.int .i64 x.kd) ∧ w''.cell? ⟨wr.heap.size, 2, none⟩ = some (.int .i64 x.pt) ∧ w''.cell? ⟨wr.heap.size, 3, none⟩ = some (.int .i64 x.cn) ∧ w''.cell? ⟨wr.heap.size, 4, none⟩ = some (.slice ua un uc)) (by kernel_rfl) (ks8) (fun hHeld => ?_)
        refine wpAnyH_take (i := 0) (oi := _) (v := ?_) rfl (by kernel_rfl) (by kernel_rfl) (by kernel_rfl) (fun _ _ _ h => h) (Or.inl ⟨by rfl, ?_⟩) (by assumption) ?_
        rotate_left 1
        · intro wq hSw; (try dsimp only at hSw); go_simp; try (with_reducible rfl)
        try simp only [Act.put, List.getElem_toArray, List.getElem_cons_zero, List.setIfInBounds_toArray, List.set_cons_zero, List.set_cons_succ]
        refine wpAnyH_take (i := 1) (oi := _) (v := ?_) rfl (by kernel_rfl) (by kernel_rfl) (by kernel_rfl) (fun _ _ _ h => h) (Or.inl ⟨by rfl, ?_⟩) (by assumption) ?_
        rotate_left 1
        · intro wq hSw; (try dsimp only at hSw); go_simp; try (with_reducible rfl)
        try simp only [Act.put, List.getElem_toArray, List.getElem_cons_succ, List.getElem_cons_zero, List.setIfInBounds_toArray, List.set_cons_zero, List.set_cons_succ]
        refine wpAnyH_take (i := 2) (oi := _) (v := ?_) rfl (by kernel_rfl) (by kernel_rfl) (by kernel_rfl) (fun _ _ _ h => h) (Or.inl ⟨by rfl, ?_⟩) (by assumption) ?_
        rotate_left 1
        · intro wq hSw; (try dsimp only at hSw); go_simp; try (with_reducible rfl)
        try simp only [Act.put, List.getElem_toArray, List.getElem_cons_succ, List.getElem_cons_zero, List.setIfInBounds_toArray, List.set_cons_zero, List.set_cons_succ]
        refine wpAnyH_take (i := 3) (oi := _) (v := ?_) rfl (by kernel_rfl) (by kernel_rfl) (by kernel_rfl) (fun _ _ _ h => h) (Or.inl ⟨by rfl, ?_⟩) (by assumption) ?_
        rotate_left 1
        · intro wq hSw; (try dsimp only at hSw); go_simp; try (with_reducible rfl)
        try simp only [Act.put, List.getElem_toArray, List.getElem_cons_succ, List.getElem_cons_zero, List.setIfInBounds_toArray, List.set_cons_zero, List.set_cons_succ]
        refine wpAnyH_take (i := 4) (oi := _) (v := ?_) rfl (by kernel_rfl) (by kernel_rfl) (by kernel_rfl) (fun _ _ _ h => h) (Or.inl ⟨by rfl, ?_⟩) (by assumption) ?_
        rotate_left 1
        · intro wq hSw; (try dsimp only at hSw); go_simp; try (with_reducible rfl)
        try simp only [Act.put, List.getElem_toArray, List.getElem_cons_succ, List.getElem_cons_zero, List.setIfInBounds_toArray, List.set_cons_zero, List.set_cons_succ]
        refine wpAnyH_take (i := 5) (oi := _) (v := ?_) rfl (by kernel_rfl) (by kernel_rfl) (by kernel_rfl) (fun _ _ _ h => h) (Or.inl ⟨by rfl, ?_⟩) (by assumption) ?_
        rotate_left 1
        · intro wq hSw; (try dsimp only at hSw); go_simp; try (with_reducible rfl)
        try simp only [Act.put, List.getElem_toArray, List.getElem_cons_succ, List.getElem_cons_zero, List.setIfInBounds_toArray, List.set_cons_zero, List.set_cons_succ]
        refine wpAnyH_take (i := 6) (oi := _) (v := ?_) rfl (by kernel_rfl) (by kernel_rfl) (by kernel_rfl) (fun _ _ _ h => h) (Or.inl ⟨by rfl, ?_⟩) (by assumption) ?_
        rotate_left 1
        · intro wq hSw; (try dsimp only at hSw); go_simp; try (with_reducible rfl)
        try simp only [Act.put, List.getElem_toArray, List.getElem_cons_succ, List.getElem_cons_zero, List.setIfInBounds_toArray, List.set_cons_zero, List.set_cons_succ]
        refine wpAnyH_ready (rs := [7]) (by kernel_rfl) (by simp) ?_
        refine AllReadyH.cons (o := _) rfl (fun K hK => ?_) AllReadyH.nil
        go_simp
        refine hK.out _ _ ?_ (fun hHeld => ?_)
        · exact ks9
        clear hK K
        try simp only [Act.put, List.getElem_toArray, List.getElem_cons_succ, List.getElem_cons_zero, List.setIfInBounds_toArray, List.set_cons_zero, List.set_cons_succ]
        refine wpAnyH_done (by kernel_rfl) ?_ _
        go_wp2_with fail
        go_roundw
        case rel => exact ⟨k + 1, by omega, by go_num, F9.out⟩
        case measure => simp [RowKit.intOf]; omega

    · have ejk : fs.length = k := by omega
      subst ejk
      have hge : ¬ (fs.length : Int) < (fs.length : Int) := by omega
      have FE : Hid (Dsk F (M + fs.length) wr d (D.plan (plOf fs)) ∧ Kd F w wr) := ⟨by have := HX.out.dsk; rwa [List.take_length] at this, HKD.out⟩
      go_wp2_with fail
      refine bodyPost_end (results_none rfl _ _ _) rfl ⟨rfl, FE.out⟩
end Go.Proofs.Ytlcgagapkkdocaa
