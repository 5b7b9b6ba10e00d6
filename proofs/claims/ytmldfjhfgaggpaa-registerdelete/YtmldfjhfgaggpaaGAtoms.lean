/- register's atoms. -/
import Derived.Test.YtmldfjhfgaggpaaGAtm
import Derived.Deep.CutRange
namespace Go.Proofs.Ytmldfjhfgaggpaa
open Go.RowKit
variable {F : Nat → Prop}

/-- What holds ahead of a round: m atoms are still to come, the chain's texts end with them. -/
def AtI (F : Nat → Prop) (w wr : World) (lb N : Nat) (D : List Int) (m : Nat) (a : Option Addr) : Prop := m ≤ N ∧ Below lb w wr ∧ (∃ pre : List Value, pre.length = m ∧ wr.heap[lb]? = some (.cells (pre ++ (D.drop m).map (Value.int .i64)).toArray 3 (0, 0))) ∧ (0 < m → ∃ ps d, Chn F w ps (.pointer a) ∧ flt ps = d ++ D.take m)
theorem suf (x p d : List Int) (D : List Int) (m : Nat) (hm : m ≤ D.length) (h : x ++ p = d ++ D.take m) (hp : p.length ≤ m) : x = d ++ D.take (m - p.length) ∧ p = (D.take m).drop (m - p.length) := by
  have e : d ++ D.take m = (d ++ D.take (m - p.length)) ++ (D.take m).drop (m - p.length) := by
    rw [List.append_assoc]
    congr 1
    have := (List.take_append_drop (m - p.length) (D.take m)).symm
    rw [List.take_take, Nat.min_eq_left (by omega)] at this
    exact this
  rw [e] at h
  exact List.append_inj' h (by simp; omega)
theorem suf2 (x p d : List Int) (D : List Int) (m : Nat) (hm : m ≤ D.length) (h : x ++ p = d ++ D.take m) (hp : m ≤ p.length) : D.take m = p.drop (p.length - m) := by
  have e : x ++ p = (x ++ p.take (p.length - m)) ++ p.drop (p.length - m) := by rw [List.append_assoc, List.take_append_drop]
  rw [e] at h
  exact (List.append_inj' h (by simp; omega)).2.symm
theorem row_behind (pre : List Value) (p D : List Int) (m c fr d : Nat) (hpre : pre.length = m) (hm : m ≤ D.length) (hc : c = p.length - fr) (hd : d = m - c) (hcm : c ≤ m) (h : p.drop fr = (D.take m).drop d) : splice (pre ++ (D.drop m).map (Value.int .i64)) d ((p.drop fr).map (Value.int .i64)) = pre.take d ++ (D.drop d).map (Value.int .i64) := by
  have e : (D.drop d) = (D.take m).drop d ++ D.drop m := by
    have := congrArg (List.drop d) (List.take_append_drop m D).symm
    rw [List.drop_append_of_le_length (by simp; omega)] at this
    exact this
  unfold splice
  rw [List.take_append_of_le_length (by omega), List.length_map, List.length_drop, e, ← h, List.map_append]
  congr 2
  rw [List.drop_append, List.drop_eq_nil_of_le (by omega), List.nil_append, show d + (p.length - fr) - pre.length = 0 by omega, List.drop_zero]

set_option maxRecDepth 100000 in
set_option maxHeartbeats 4000000 in
theorem atoms_any (w : World) (a : Option Addr) (xs : List Int) (N : Nat) (hv : Hg F w (.pointer a) xs) (hN : N ≤ xs.length) (hx : xs.length ≤ 1000000) :
    Calls Try.prog 43 #[.pointer a, .int .i64 N] w fun e w' => ∃ v', e = .returned v' ∧ OwnI w' w.heap.size v' (xs.drop (xs.length - N)) ∧ Below w.heap.size w w' := by
  obtain ⟨i0, hi, hz0, hz1, hz2⟩ := info_parts Try.info_i64
  have HX := hidIt hx
  have HN := hidIt hN
  have HV := hidIt hv
  obtain ⟨D, hD⟩ : ∃ D, D = xs.drop (xs.length - N) := ⟨_, rfl⟩
  have HD := hidIt hD
  have HDL := hidIt (show D.length = N by rw [hD]; simp; omega)
  rw [← hD]
  clear hv hN hx hD
  go_enter Try.func43, Try.ntmps43
  go_upto_region 2 with (at_make; refine wpList_make_full _ rfl _ _ 29 rfl w.heap.size 3 i0 (.int .i64 0) 1 Try.underlying29 hi hz0 hz1 _ _ _ _ N rfl rfl rfl rfl (by have := HN.out; have := HX.out; rw [hz2]; omega) (by have := HN.out; have := HX.out; unfold maxLen; omega) (Nat.le_refl _) ?_; intro w1 hrow1 hg1)
  have HB1 := hidIt (show Below w.heap.size w w1 from ⟨hg1.os, hg1.tape, hg1.output, hg1.size, fun k hk => hg1.block k hk (by simp)⟩)
  have HR1 : Hid (∃ pre : List Value, pre.length = N ∧ w1.heap[w.heap.size]? = some (.cells (pre ++ (D.drop N).map (Value.int .i64)).toArray 3 (0, 0))) := by
    rcases hrow1.2 with ⟨h, _⟩ | ⟨g', cap, cur, h, _, hb, _, _, hs, _⟩
    · cases h
    · cases h
      refine ⟨cur.toList, by simp; omega, ?_⟩
      rw [List.drop_eq_nil_of_le (by rw [HDL.out]; exact Nat.le_refl _)]
      simpa using hb
  clear hrow1 hg1
  generalize hlb : w.heap.size = lb at *
  have HLBE := hidIt hlb
  go_loopw [1, 0] (fun i p wr => ∃ (m : Nat) (a' : Option Addr), i = .int .i64 m ∧ p = .pointer a' ∧ Hid (AtI F w wr lb N D m a')) (fun i _ _ => (RowKit.intOf i).toNat)
  case atStart =>
    obtain ⟨ps, h1, h2⟩ := HV.out
    refine ⟨N, a, rfl, rfl, hidIt ⟨Nat.le_refl _, HB1.out, HR1.out, fun _ => ⟨ps, xs.take (xs.length - N), h1, ?_⟩⟩⟩
    rw [h2, show D.take N = D from List.take_of_length_le (by rw [HDL.out]; exact Nat.le_refl _), HD.out, List.take_append_drop]
  case round =>
    obtain ⟨m, a', rfl, rfl, hI⟩ := hrel
    have HI := hidIt hI.out
    clear hI
    by_cases hm0 : (m : Int) > 0
    · obtain ⟨hmN, hbw, ⟨pre, hpre, hrow⟩, hch⟩ := HI.out
      obtain ⟨ps, d0, hchn, hfl⟩ := hch (by omega)
      obtain ⟨p, ps', rfl⟩ : ∃ p ps', ps = p :: ps' := by
        cases ps with
        | nil => have := congrArg List.length hfl; have := HDL.out; simp [flt] at *; omega
        | cons p ps' => exact ⟨p, ps', rfl⟩
      obtain ⟨g, ap, u, e1, hg, hfg, hu, ho, hpn, hrest⟩ := hchn
      simp only [Value.pointer.injEq] at e1
      subst e1
      obtain ⟨a0, rfl⟩ := Hg.form ⟨ps', hrest, rfl⟩
      obtain ⟨b, off, cc, rfl, hbl, hcap, hc63, hcell⟩ := hu.last hpn
      obtain ⟨hgl, g0, g1, _⟩ := cells2 hg
      have hpos := List.length_pos_iff.2 hpn
      have hfl2 : flt ps' ++ p = d0 ++ D.take m := hfl
      obtain ⟨fr, hfr⟩ : ∃ fr, fr = p.length - m := ⟨_, rfl⟩
      obtain ⟨c, hc⟩ : ∃ c, c = p.length - fr := ⟨_, rfl⟩
      obtain ⟨d, hd⟩ : ∃ d, d = m - c := ⟨_, rfl⟩
      have hsuf : p.drop fr = (D.take m).drop d ∧ (0 < d → flt ps' = d0 ++ D.take d) := by
        by_cases hle : p.length ≤ m
        · obtain ⟨s1, s2⟩ := suf _ _ _ _ _ (by rw [HDL.out]; exact hmN) hfl2 hle
          have e1 : fr = 0 := by omega
          have e2 : d = m - p.length := by omega
          rw [e1, e2, List.drop_zero]
          exact ⟨s2, fun _ => s1⟩
        · have s1 := suf2 _ _ _ _ _ (by rw [HDL.out]; exact hmN) hfl2 (by omega)
          have e2 : d = 0 := by omega
          rw [e2, List.drop_zero, s1, hfr]
          exact ⟨rfl, fun h => absurd h (by omega)⟩
      have HFIN : Hid (∀ w3 : World, w3.heap[lb]? = some (.cells (splice (pre ++ (D.drop m).map (Value.int .i64)) d ((p.drop fr).map (Value.int .i64))).toArray 3 (0, 0)) → Below lb w w3 → AtI F w w3 lb N D d a0) := fun w3 h3 hb3 => by
        rw [row_behind pre p D m c fr d hpre (by rw [HDL.out]; exact hmN) hc hd (by omega) hsuf.1] at h3
        exact ⟨by omega, hb3, ⟨pre.take d, by rw [List.length_take]; omega, h3⟩, fun h => ⟨ps', d0, hrest, hsuf.2 h⟩⟩
      obtain ⟨cs, hcs⟩ : ∃ cs, cs = (p.drop fr).map (Value.int .i64) := ⟨_, rfl⟩
      rw [← hcs] at HFIN
      have HLC := hidIt (show cs.length = c by rw [hcs]; simp; omega)
      have HONE := hidIt (show ∀ v ∈ cs, v.oneCell' = true by rw [hcs]; exact one_all _ _)
      have HFIT := hidIt (show d + cs.length ≤ (pre ++ (D.drop m).map (Value.int .i64)).length by have := HLC.out; have := HDL.out; simp; omega)
      have HSRC := hidIt (show ∀ j v, cs[j]? = some v → ∀ wq : World, Below lb w wq → wq.cell? (Addr.add ⟨b, off + fr, none⟩ j) = some v by
        intro j v hj wq hbq
        subst hcs
        have hjl : j < p.length - fr := by have := (List.getElem?_eq_some_iff.1 hj).1; simpa using this
        rw [Addr.add_lit]
        rw [List.getElem?_map] at hj
        obtain ⟨z, hz, rfl⟩ := Option.map_eq_some_iff.1 hj
        rw [List.getElem?_drop] at hz
        have := hcell (fr + j) (by omega)
        rw [hz] at this
        rw [Nat.add_assoc]
        exact (hbq.cell (p := ⟨b, off + (fr + j), none⟩) (by rw [← HLBE.out]; exact hbl)).trans this)
      have HROW := hidIt hrow
      have HBW := hidIt hbw
      have HLB := hidIt (show w.heap.size ≤ lb by rw [HLBE.out]; exact Nat.le_refl _)
      have HGL := hidIt (show g < lb by rw [← HLBE.out]; exact hgl)
      have HG0 : Hid (∀ wq : World, Below lb w wq → wq.cell? ⟨g, 0, none⟩ = some (.pointer a0) ∧ wq.cell? ⟨g, 1, none⟩ = some (.slice (some ⟨b, off, none⟩) p.length cc)) := fun wq hbq => ⟨(hbq.cell (p := ⟨g, 0, none⟩) HGL.out).trans g0, (hbq.cell (p := ⟨g, 1, none⟩) HGL.out).trans g1⟩
      have w1e : IntKind.i64.wrap ((p.length : Int) - (fr : Int)) = (c : Int) := by rw [IntKind.wrap_i64]; omega
      have w2e : IntKind.i64.wrap ((m : Int) - (c : Int)) = (d : Int) := by have := HDL.out; have := HN.out; have := HX.out; rw [IntKind.wrap_i64]; omega
      have w3e : IntKind.i64.wrap ((m : Int) - (cs.length : Int)) = (d : Int) := by rw [HLC.out]; exact w2e
      have hm6 : (m : Int) ≤ 1000000 := by have := HN.out; have := HX.out; omega
      have n1 : ¬ N = d := by omega
      have n2 : ¬ cc = fr := by omega
      have n3 : fr ≤ p.length := by omega
      have n4 : d ≤ N := by omega
      have n5 : d < m := by omega
      obtain ⟨ks0, ks⟩ := HG0.out wr HBW.out
      have HFR := hidIt hfr
      have HC6 := hidIt (show c = p.length - fr ∧ p.length - fr ≤ N - d by omega)
      clear HI hbw hpre hrow hch hfl hg hfg hu ho hpn hrest hbl hcell hgl g0 g1 hpos hfl2 hfr hc hd hsuf hcs
      generalize hgl : p.length = L at *
      go_upto_region 3 with fail
      go_cut [6] from 11 to 18 (fun v6 wF => Hid (v6 = .int .i64 (fr : Int)) ∧ Hid (wF = wr))
      case first =>
        have hw9 : IntKind.i64.wrap ((L : Int) - (m : Int)) = (L : Int) - (m : Int) := by rw [IntKind.wrap_i64]; omega
        clear n1 n2 n3 n4 n5 w1e w2e w3e
        go_wp2_with fail
        go_meet
        case rel =>
          exact ⟨by unfold Hid; congr 1; have := HFR.out; omega, rfl⟩
      obtain ⟨hv6, hwc⟩ := hcut
      have hv6 := hv6.out
      have hwc := hwc.out
      subst hv6 hwc
      go_upto_region 4 with fail
      refine wp_region_held_drew (S := fun w'' => w''.cell? ⟨g, 1, none⟩ = some (.slice (some ⟨b, off, none⟩) L cc)) (by kernel_rfl) (ks) (fun hHeld => ?_)
      refine wpAnyH_take (i := 0) (oi := _) (v := ?_) rfl (by kernel_rfl) (by kernel_rfl) (by kernel_rfl) (fun _ _ _ h => h) (Or.inl ⟨by rfl, ?_⟩) (by assumption) ?_
      rotate_left 1
      · intro wq hSw; (try dsimp only at hSw); go_simp; try (with_reducible rfl)
      try simp only [Act.put, List.getElem_toArray, List.getElem_cons_zero, List.setIfInBounds_toArray, List.set_cons_zero, List.set_cons_succ]
      refine wpAnyH_take (i := 1) (oi := _) (v := ?_) rfl (by kernel_rfl) (by kernel_rfl) (by kernel_rfl) (fun _ _ _ h => h) (Or.inl ⟨by rfl, ?_⟩) (by assumption) ?_
      rotate_left 1
      · intro wq hSw; (try dsimp only at hSw); go_simp; try (with_reducible rfl)
      try simp only [Act.put, List.getElem_toArray, List.getElem_cons_succ, List.getElem_cons_zero, List.setIfInBounds_toArray, List.set_cons_zero, List.set_cons_succ]
      refine wpAnyH_take (i := 2) (oi := _) (v := ?_) rfl (by kernel_rfl) (by kernel_rfl) (by kernel_rfl) (fun _ _ _ h => h) (Or.inl ⟨by rfl, ?_⟩) (by assumption) ?_
      rotate_left 1
      · intro wq hSw; (try dsimp only at hSw); go_simp; try (with_reducible rfl)
      try simp only [Act.put, List.getElem_toArray, List.getElem_cons_succ, List.getElem_cons_zero, List.setIfInBounds_toArray, List.set_cons_zero, List.set_cons_succ]
      refine wpAnyH_take (i := 3) (oi := _) (v := ?_) rfl (by kernel_rfl) (by kernel_rfl) (by kernel_rfl) (fun _ _ _ h => h) (Or.inl ⟨by rfl, ?_⟩) (by assumption) ?_
      rotate_left 1
      · intro wq hSw; (try dsimp only at hSw); go_simp; try (with_reducible rfl)
      try simp only [Act.put, List.getElem_toArray, List.getElem_cons_succ, List.getElem_cons_zero, List.setIfInBounds_toArray, List.set_cons_zero, List.set_cons_succ]
      refine wpAnyH_take (i := 4) (oi := _) (v := ?_) rfl (by kernel_rfl) (by kernel_rfl) (by kernel_rfl) (fun _ _ _ h => h) (Or.inl ⟨by rfl, ?_⟩) (by assumption) ?_
      rotate_left 1
      · intro wq hSw; (try dsimp only at hSw); go_simp; try (with_reducible rfl)
      try simp only [Act.put, List.getElem_toArray, List.getElem_cons_succ, List.getElem_cons_zero, List.setIfInBounds_toArray, List.set_cons_zero, List.set_cons_succ]
      refine wpAnyH_take (i := 5) (oi := _) (v := ?_) rfl (by kernel_rfl) (by kernel_rfl) (by kernel_rfl) (fun _ _ _ h => h) (Or.inl ⟨by rfl, ?_⟩) (by assumption) ?_
      rotate_left 1
      · intro wq hSw; (try dsimp only at hSw); go_simp; try (with_reducible rfl)
      try simp only [Act.put, List.getElem_toArray, List.getElem_cons_succ, List.getElem_cons_zero, List.setIfInBounds_toArray, List.set_cons_zero, List.set_cons_succ]
      refine wpAnyH_take (i := 6) (oi := _) (v := ?_) rfl (by kernel_rfl) (by kernel_rfl) (by kernel_rfl) (fun _ _ _ h => h) (Or.inl ⟨by rfl, ?_⟩) (by assumption) ?_
      rotate_left 1
      · intro wq hSw; (try dsimp only at hSw); go_simp; try (with_reducible rfl)
      try simp only [Act.put, List.getElem_toArray, List.getElem_cons_succ, List.getElem_cons_zero, List.setIfInBounds_toArray, List.set_cons_zero, List.set_cons_succ]
      refine wpAnyH_take (i := 7) (oi := _) (v := ?_) rfl (by kernel_rfl) (by kernel_rfl) (by kernel_rfl) (fun _ _ _ h => h) (Or.inl ⟨by rfl, ?_⟩) (by assumption) ?_
      rotate_left 1
      · intro wq hSw; (try dsimp only at hSw); go_simp; try (with_reducible rfl)
      try simp only [Act.put, List.getElem_toArray, List.getElem_cons_succ, List.getElem_cons_zero, List.setIfInBounds_toArray, List.set_cons_zero, List.set_cons_succ]
      refine wpAnyH_take (i := 8) (oi := _) (v := ?_) rfl (by kernel_rfl) (by kernel_rfl) (by kernel_rfl) (fun _ _ _ h => h) (Or.inl ⟨by rfl, ?_⟩) (by assumption) ?_
      rotate_left 1
      · intro wq hSw; (try dsimp only at hSw); go_simp; try (with_reducible rfl)
      try simp only [Act.put, List.getElem_toArray, List.getElem_cons_succ, List.getElem_cons_zero, List.setIfInBounds_toArray, List.set_cons_zero, List.set_cons_succ]
      refine wpAnyH_take (i := 9) (oi := _) (v := ?_) rfl (by kernel_rfl) (by kernel_rfl) (by kernel_rfl) (fun _ _ _ h => h) (Or.inl ⟨by rfl, ?_⟩) (by assumption) ?_
      rotate_left 1
      · intro wq hSw; (try dsimp only at hSw); go_simp; try (with_reducible rfl)
      try simp only [Act.put, List.getElem_toArray, List.getElem_cons_succ, List.getElem_cons_zero, List.setIfInBounds_toArray, List.set_cons_zero, List.set_cons_succ]
      refine wpAnyH_take (i := 10) (oi := _) (v := ?_) rfl (by kernel_rfl) (by kernel_rfl) (by kernel_rfl) (fun _ _ _ h => h) (Or.inl ⟨by rfl, ?_⟩) (by assumption) ?_
      rotate_left 1
      · intro wq hSw; (try dsimp only at hSw); go_simp; try (with_reducible rfl)
      try simp only [Act.put, List.getElem_toArray, List.getElem_cons_succ, List.getElem_cons_zero, List.setIfInBounds_toArray, List.set_cons_zero, List.set_cons_succ]
      refine wpAnyH_take (i := 11) (oi := _) (v := ?_) rfl (by kernel_rfl) (by kernel_rfl) (by kernel_rfl) (fun _ _ _ h => h) (Or.inl ⟨by rfl, ?_⟩) (by assumption) ?_
      rotate_left 1
      · intro wq hSw; (try dsimp only at hSw); go_simp; try (with_reducible rfl)
      try simp only [Act.put, List.getElem_toArray, List.getElem_cons_succ, List.getElem_cons_zero, List.setIfInBounds_toArray, List.set_cons_zero, List.set_cons_succ]
      refine wpAnyH_take (i := 12) (oi := _) (v := ?_) rfl (by kernel_rfl) (by kernel_rfl) (by kernel_rfl) (fun _ _ _ h => h) (Or.inl ⟨by rfl, ?_⟩) (by assumption) ?_
      rotate_left 1
      · intro wq hSw; (try dsimp only at hSw); go_simp; try (with_reducible rfl)
      try simp only [Act.put, List.getElem_toArray, List.getElem_cons_succ, List.getElem_cons_zero, List.setIfInBounds_toArray, List.set_cons_zero, List.set_cons_succ]
      refine wpAnyH_take (i := 13) (oi := _) (v := ?_) rfl (by kernel_rfl) (by kernel_rfl) (by kernel_rfl) (fun _ _ _ h => h) (Or.inl ⟨by rfl, ?_⟩) (by assumption) ?_
      rotate_left 1
      · intro wq hSw; (try dsimp only at hSw); go_simp; try (with_reducible rfl)
      try simp only [Act.put, List.getElem_toArray, List.getElem_cons_succ, List.getElem_cons_zero, List.setIfInBounds_toArray, List.set_cons_zero, List.set_cons_succ]
      refine wpAnyH_take (i := 14) (oi := _) (v := ?_) rfl (by kernel_rfl) (by kernel_rfl) (by kernel_rfl) (fun _ _ _ h => h) (Or.inl ⟨by rfl, ?_⟩) (by assumption) ?_
      rotate_left 1
      · intro wq hSw; (try dsimp only at hSw); go_simp; try (with_reducible rfl)
      try simp only [Act.put, List.getElem_toArray, List.getElem_cons_succ, List.getElem_cons_zero, List.setIfInBounds_toArray, List.set_cons_zero, List.set_cons_succ]
      refine wpAnyH_take (i := 15) (oi := _) (v := ?_) rfl (by kernel_rfl) (by kernel_rfl) (by kernel_rfl) (fun _ _ _ h => h) (Or.inl ⟨by rfl, ?_⟩) (by assumption) ?_
      rotate_left 1
      · intro wq hSw; (try dsimp only at hSw); go_simp; try (with_reducible rfl)
      try simp only [Act.put, List.getElem_toArray, List.getElem_cons_succ, List.getElem_cons_zero, List.setIfInBounds_toArray, List.set_cons_zero, List.set_cons_succ]
      refine wpAnyH_take (i := 16) (oi := _) (v := ?_) rfl (by kernel_rfl) (by kernel_rfl) (by kernel_rfl) (fun _ _ _ h => h) (Or.inl ⟨by rfl, ?_⟩) (by assumption) ?_
      rotate_left 1
      · intro wq hSw; (try dsimp only at hSw); go_simp; try (with_reducible rfl)
      try simp only [Act.put, List.getElem_toArray, List.getElem_cons_succ, List.getElem_cons_zero, List.setIfInBounds_toArray, List.set_cons_zero, List.set_cons_succ]
      refine wpAnyH_take (i := 17) (oi := _) (v := ?_) rfl (by kernel_rfl) (by kernel_rfl) (by kernel_rfl) (fun _ _ _ h => h) (Or.inl ⟨by rfl, ?_⟩) (by assumption) ?_
      rotate_left 1
      · intro wq hSw; (try dsimp only at hSw); go_simp; try (with_reducible rfl)
      try simp only [Act.put, List.getElem_toArray, List.getElem_cons_succ, List.getElem_cons_zero, List.setIfInBounds_toArray, List.set_cons_zero, List.set_cons_succ]
      refine wpAnyH_ready (rs := [18]) (by kernel_rfl) (by simp) ?_
      refine AllReadyH.cons (o := _) rfl (fun K hK => ?_) AllReadyH.nil
      refine step_copy_splice rfl (.tmp 30) (.tmp 36) 29 29 rfl 3 Try.underlying29 (by rw [hi]; simp [hz1]) _ _ _ _ _ _ (by rfl) (by rfl) lb d (pre ++ (D.drop m).map (Value.int .i64)) 3 HROW.out cs (show cs.length = Nat.min (L - fr) (N - d) by rw [HLC.out, HC6.out.1]; exact (Nat.min_eq_left HC6.out.2).symm) (fun _ => ⟨by rfl, ⟨b, off + fr, none⟩, rfl, fun j v hj => HSRC.out j v hj _ HBW.out.drew⟩) HFIT.out HONE.out lb w (HBW.out.drew) (Nat.le_refl _) ?_; intro w3 hE hb3; have HE3 := hidIt hE.out; have HB3 := hidIt hb3; clear hE hb3; obtain ⟨s0, s3⟩ := HG0.out w3 HB3.out; change K (Act.put _ (some 37) _) w3
      refine hK.out _ _ ?_ (fun hHeld => ?_)
      · exact s3
      clear hK K
      try simp only [Act.put, List.setIfInBounds_toArray, List.set_cons_zero, List.set_cons_succ]
      refine wpAnyH_take (i := 19) (oi := _) (v := ?_) rfl (by kernel_rfl) (by kernel_rfl) (by kernel_rfl) (fun _ _ _ h => h) (Or.inl ⟨by rfl, ?_⟩) (by assumption) ?_
      rotate_left 1
      · intro wq hSw; (try dsimp only at hSw); go_simp; try (with_reducible rfl)
      try simp only [Act.put, List.getElem_toArray, List.getElem_cons_succ, List.getElem_cons_zero, List.setIfInBounds_toArray, List.set_cons_zero, List.set_cons_succ]
      refine wpAnyH_take (i := 20) (oi := _) (v := ?_) rfl (by kernel_rfl) (by kernel_rfl) (by kernel_rfl) (fun _ _ _ h => h) (Or.inl ⟨by rfl, ?_⟩) (by assumption) ?_
      rotate_left 1
      · intro wq hSw; (try dsimp only at hSw); go_simp; try (with_reducible rfl)
      try simp only [Act.put, List.getElem_toArray, List.getElem_cons_succ, List.getElem_cons_zero, List.setIfInBounds_toArray, List.set_cons_zero, List.set_cons_succ]
      refine wpAnyH_done (by kernel_rfl) ?_ _
      go_wp2_with fail
      go_roundw
      case rel => exact ⟨d, a0, rfl, rfl, hidIt (HFIN.out _ HE3.out HB3.out)⟩
      case measure => simp [RowKit.intOf]; omega
    · have hm : m = 0 := by omega
      subst hm
      obtain ⟨_, hbw, ⟨pre, hpre, hrow⟩, _⟩ := HI.out
      obtain rfl : pre = [] := List.eq_nil_of_length_eq_zero hpre
      have HROW : Hid (wr.heap[lb]? = some (.cells (D.map (Value.int .i64)).toArray 3 (0, 0))) := by unfold Hid; simpa using hrow
      have HBW := hidIt hbw
      clear HI hbw hrow hpre
      go_wp2_with fail
      go_ret
      refine ⟨.slice (some ⟨lb, 0, none⟩) N N, rfl, ?_, HBW.out⟩
      have hN := HN.out
      have hX := HX.out
      have hL := HDL.out
      refine ⟨by rw [List.length_map, Nat.mul_one], .inr ⟨lb, N, (D.map (Value.int .i64)).toArray, by rw [hL], Nat.le_refl _, HROW.out, by omega, by unfold maxLen; omega, by simp; omega, ?_⟩⟩
      simp [List.take_of_length_le]
end Go.Proofs.Ytmldfjhfgaggpaa
