/- TreeGrows. -/
import Derived.Test.YtlnachbigchobaaHelp
namespace Go.Proofs.Ytlnachbigchobaa
open Go.RowKit

theorem Try.info_i64 : (Try.prog.info? 3).map (fun i => (i.zero, i.size, i.bytes)) = some (some (.int .i64 0), 1, 8) := by kernel_rfl
/-- The slice v reads as the numbers zs. -/
def Rd (k : IntKind) (w : World) (v : Value) (zs : List Int) : Prop :=
  ∃ ao cap, v = .slice ao zs.length cap ∧ zs.length ≤ cap ∧ cap ≤ maxLen ∧
    (zs ≠ [] → ∃ b off, ao = some ⟨b, off, none⟩ ∧ b < w.heap.size ∧ ∀ i, i < zs.length → w.cell? ⟨b, off + i, none⟩ = some (.int k (zs[i]?.getD 0)))

/-- At block g lies the tree variable. -/
def BlkT (w : World) (g : Nat) (u : Option Addr) : Prop := w.heap[g]? = some (.cells #[.pointer u] 39 (0, 0))
theorem BlkT.lt {w : World} {g : Nat} {u : Option Addr} (h : BlkT w g u) : g < w.heap.size := (Array.getElem?_eq_some_iff.1 h).1
theorem BlkT.ext {w w' : World} {g : Nat} {u : Option Addr} (h : BlkT w g u) (hb : Below w.heap.size w w') : BlkT w' g u := by unfold BlkT; rw [hb.block g h.lt]; exact h
theorem BlkT.cells {w : World} {g : Nat} {u : Option Addr} (h : BlkT w g u) : w.cell? ⟨g, 0, none⟩ = some (.pointer u) ∧ (∀ i, w.frozen? ⟨g, i, none⟩ = false) := by
  refine ⟨?_, ?_⟩
  · rw [cell_of_row w g 0 _ _ _ h]; rfl
  · intro i; unfold BlkT at h; simp [World.frozen?, h]
theorem BlkT.put {w : World} {g : Nat} {u : Option Addr} (h : BlkT w g u) (q : Option Addr) : BlkT (w.setCell ⟨g, 0, none⟩ (.pointer q)) g q ∧ w.grownBy (w.setCell ⟨g, 0, none⟩ (.pointer q)) (some g) := set1 h 0 (.pointer q)
theorem TT.put {w w' : World} {g : Nat} {u : Option Addr} {v : Value} {xs : List It} (h : TT w v xs) (hA : BlkT w g u) (hb : w.grownBy w' (some g)) : TT w' v xs := by
  obtain ⟨q, t, h1, h2, h3⟩ := h
  exact ⟨q, t, h1, h2.put hA (by decide) hb, h3⟩

set_option maxRecDepth 100000 in
set_option maxHeartbeats 4000000 in
theorem law_grows (v : Value) (zs : List Int) (how : Int) (w : World) (h : Rd .i64 w v zs) (hz : zs.length * 8 ≤ 140737488355328) :
    Calls Try.prog 5 #[v, .int .i64 how] w fun e w' => e = .returned (.bool true) ∧ Below w.heap.size w w' := by
  obtain ⟨ao, cap, rfl, hl, hm, hc⟩ := h
  unfold maxLen at hm
  generalize hr : Int.tmod how 3 = rr
  have hA0 : BlkT (w.alloc (.cells #[.pointer none] 39)) w.heap.size none := heap_alloc_new _ _
  go_enter Try.func5, Try.ntmps5
  go_wp2_with fail
  go_loopw [6] (fun i wr => ∃ (k : Nat) (u : Option Addr) (xs : List It), k ≤ zs.length + 1 ∧ i = .int .i64 k ∧ Hid (TT wr (.agg #[.pointer u]) xs ∧ xs.length = k ∧ wt xs = 2 * k) ∧ BlkT wr w.heap.size u ∧ Below w.heap.size w wr) (fun i _ => zs.length + 1 - (intOf i).toNat)
  case atStart => exact ⟨0, none, [], by omega, rfl, ⟨TT.nil _, rfl, rfl⟩, hA0, ext_alloc (Below.refl _ _) _⟩
  case round =>
    obtain ⟨k, u, xs, hk, rfl, HI, hA, hb⟩ := hrel
    obtain ⟨z0, zf⟩ := hA.cells
    have hsz := hA.lt
    by_cases hlt : k ≤ zs.length
    · have hle : (k : Int) ≤ (zs.length : Int) := by omega
      have HR : Hid (∀ a : Int, 0 ≤ a → a ≤ k → Calls Try.prog 26 #[.agg #[.pointer u], .int .i64 a, .int .i64 a, .slice (some ⟨wr.heap.size, 0, none⟩) 1 1] (wr.alloc (.cells #[.int .i64 k, .int .i64 1] 24)) fun e w' => ∃ u', e = .returned (.tuple #[.agg #[.pointer u'], .int .i64 0]) ∧ Hid (TT w' (.agg #[.pointer u']) (ins xs a (k, 1)) ∧ 0 ≤ a ∧ a ≤ k) ∧ Below wr.heap.size wr w') := fun a h0 h1 => by
        obtain ⟨t1, t2, t3⟩ := HI.out
        have e1 : Below wr.heap.size wr (wr.alloc (.cells #[.int .i64 k, .int .i64 1] 24)) := ext_alloc (Below.refl _ _) _
        exact (Replace_ins u xs a _ (k, 1) _ (t1.ext e1) (RdR.lit1 wr 24 (k, 1)) h0 (by omega) (by rw [t3]; simp [wt, Rs.meas]; omega)).mono fun _ _ ⟨u', k1, k2, k3⟩ => ⟨u', k1, ⟨k2.out, h0, h1⟩, ext_trans e1 k3⟩
      have W : Hid (∀ a : Int, (ins xs a (k, 1)).length = k + 1 ∧ wt (ins xs a (k, 1)) = 2 * (k + 1)) := fun a => by
        obtain ⟨t1, t2, t3⟩ := HI.out
        exact ⟨by rw [ins_len, t2], by rw [ins_wt, t3]; simp [wt, Rs.meas]; omega⟩
      have HAT : Hid (∀ a u' w', Hid (TT w' (.agg #[.pointer u']) (ins xs a (k, 1)) ∧ 0 ≤ a ∧ a ≤ k) → ∀ w2, Below w'.heap.size w' w2 → Calls Try.prog 27 #[.agg #[.pointer u'], .int .i64 a] w2 fun e w' => e = .returned (.tuple #[.agg #[.int .i64 k, .int .i64 1], .bool true]) ∧ Below w2.heap.size w2 w') := fun a u' w' ht w2 hb2 => by
        obtain ⟨t1, t2, t3⟩ := HI.out
        obtain ⟨s1, s2, s3⟩ := ht.out
        exact At_ins u' xs a (k, 1) w2 (s1.ext hb2) s2 (by omega) (by omega) (by rw [(W.out a).2]; omega)
      have HSI : Hid (∀ a u' w', Hid (TT w' (.agg #[.pointer u']) (ins xs a (k, 1)) ∧ 0 ≤ a ∧ a ≤ k) → ∀ w2, Below w'.heap.size w' w2 → Calls Try.prog 22 #[.agg #[.pointer u']] w2 fun e w' => e = .returned (.int .i64 ((k + 1 : Nat) : Int)) ∧ Below w2.heap.size w2 w') := fun a u' w' ht w2 hb2 => by
        have := Size_any u' _ w2 (ht.out.1.ext hb2)
        rw [(W.out a).1] at this
        exact this
      have HHE : Hid (∀ a u' w', Hid (TT w' (.agg #[.pointer u']) (ins xs a (k, 1)) ∧ 0 ≤ a ∧ a ≤ k) → ∀ w2, Below w'.heap.size w' w2 → Calls Try.prog 29 #[.agg #[.pointer u']] w2 fun e w' => ∃ m : Nat, e = .returned (.int .i64 m) ∧ Hid (m ≤ 3 * dig (k + 1) ∧ 1 ≤ m) ∧ Below w2.heap.size w2 w') := fun a u' w' ht w2 hb2 => by
        have := Height_any u' _ w2 (ht.out.1.ext hb2)
        rw [(W.out a).1] at this
        exact this.mono fun _ _ ⟨m, k1, k2, k3⟩ => ⟨m, k1, by have := k2.out; unfold Hid; omega, k3⟩
      have HDI : Hid (∀ w2, Calls Try.prog 30 #[.int .i64 ((k : Int) + 1)] w2 fun e w' => e = .returned (.int .i64 (dig (k + 1) : Nat)) ∧ w' = w2) := fun w2 => by
        have := Digits_any (k + 1) w2 (by omega)
        exact this
      have hdb := dig_bd (k + 1) (by omega)
      generalize dig (k + 1) = dg at *
      clear HI
      by_cases hm1 : rr = 1
      · go_wp2_with fail
        refine (HR.out _ (by omega) (by omega)).mono ?_
        rintro e w1 ⟨u', rfl, T1, hb1⟩
        have hA1 := hA.ext hb1
        obtain ⟨y0, yf⟩ := hA1.cells
        have hz1 : w.heap.size < w1.heap.size := hA1.lt
        have HB1 := hidIt hb1
        have HA1 := hidIt hA1
        clear hb1 hA1 z0 zf
        go_wp2_with (first
          | (go_at_call 27; refine (HAT.out _ _ _ T1 _ (ext_alloc (Below.refl _ _) _)).mono ?_; rintro e w2 ⟨rfl, hb2⟩; obtain ⟨hc2, hf2⟩ := bcell hb2; have HB2 : Hid (Below w1.heap.size w1 w2) := ext_trans (ext_alloc (Below.refl _ _) _) hb2; have hz2 : w1.heap.size < w2.heap.size := (by { have := hb2.size; simp at this; omega }); have hz2' : w.heap.size < w2.heap.size := (by omega); clear hb2)
          | (go_at_call 28; refine (num_any _ _).mono ?_; rintro e w' ⟨rfl, rfl⟩)
          | (go_at_call 22; refine (HSI.out _ _ _ T1 _ (ext_alloc HB2.out _)).mono ?_; rintro e w3 ⟨rfl, hb3⟩; obtain ⟨hc3, hf3⟩ := bcell hb3; have HB3 : Hid (Below w1.heap.size w1 w3) := ext_trans (ext_alloc HB2.out _) hb3; have hz3 : w2.heap.size < w3.heap.size := (by { have := hb3.size; simp at this; omega }); have hz3' : w.heap.size < w3.heap.size := (by omega); have hz3n : w1.heap.size < w3.heap.size := (by omega); clear hb3)
          | (go_at_call 29; refine (HHE.out _ _ _ T1 _ HB3.out).mono ?_; rintro e w4 ⟨m, rfl, HM, hb4⟩; obtain ⟨hc4, hf4⟩ := bcell hb4; have HB4 : Hid (Below w1.heap.size w1 w4) := ext_trans HB3.out hb4; have hz4 : w3.heap.size ≤ w4.heap.size := hb4.size; have hz4' : w.heap.size < w4.heap.size := (by omega); have hz4n : w1.heap.size < w4.heap.size := (by omega); obtain ⟨_, hm2⟩ := HM.out; have hm3 : ¬ (m : Int) < 1 := (by omega); have hm4 : decide ((m : Int) < 1) = false := (by simp; omega); clear hb4 HB3)
          | (go_at_call 29; refine (HHE.out _ _ _ T1 _ HB4.out).mono ?_; rintro e w5 ⟨m', rfl, HM', hb5⟩; obtain ⟨hc5, hf5⟩ := bcell hb5; have HB5 : Hid (Below w1.heap.size w1 w5) := ext_trans HB4.out hb5; have hz5 : w4.heap.size ≤ w5.heap.size := hb5.size; have hz5' : w.heap.size < w5.heap.size := (by omega); have hz5n : w1.heap.size < w5.heap.size := (by omega); obtain ⟨hm1', hm2'⟩ := HM'.out; have hm3' : ¬ 3 * (dg : Int) < (m' : Int) := (by omega); clear hb5)
          | (go_at_call 30; refine (HDI.out _).mono ?_; rintro e w' ⟨rfl, rfl⟩))
        go_roundw
        case rel =>
          have hA5 := HA1.out.ext HB5.out
          obtain ⟨p1, p2⟩ := hA5.put u'
          exact ⟨k + 1, u', ins xs _ (k, 1), by omega, by go_num, ⟨(T1.out.1.ext HB5.out).put hA5 p2, (W.out _).1, (W.out _).2⟩, p1, below_put (hb.trans ((ext_trans HB1.out HB5.out).mono (by omega))) (by omega) p2 (Nat.le_refl _)⟩
        case measure => simp [intOf]; omega
      by_cases hm2 : rr = 2
      · by_cases hkl : k < zs.length
        · obtain ⟨b, off, rfl, hbl, hc⟩ := hc (by intro h; subst h; simp at hkl)
          have c0 : wr.cell? ⟨b, off + k, none⟩ = some (.int .i64 (zs[k]?.getD 0)) := (hb.cell (p := ⟨b, off + k, none⟩) hbl).trans (hc k hkl)
          have hkl' : (k : Int) < (zs.length : Int) := by omega
          have HSL : Hid (∀ w', Calls Try.prog 25 #[.int .i64 (zs[k]?.getD 0), .int .i64 k] w' fun e w'' => ∃ q : Nat, e = .returned (.int .i64 q) ∧ q ≤ k ∧ w'' = w') := fun w' => slot_any _ k w' (by omega)
          generalize zs[k]?.getD 0 = zk at *
          clear hc
          go_wp2_with (go_at_call 25; refine (HSL.out _).mono ?_; rintro e w' ⟨q, rfl, hq, rfl⟩)
          refine (HR.out _ (by omega) (by omega)).mono ?_
          rintro e w1 ⟨u', rfl, T1, hb1⟩
          have hA1 := hA.ext hb1
          obtain ⟨y0, yf⟩ := hA1.cells
          have hz1 : w.heap.size < w1.heap.size := hA1.lt
          have HB1 := hidIt hb1
          have HA1 := hidIt hA1
          clear hb1 hA1 z0 zf
          go_wp2_with (first
            | (go_at_call 27; refine (HAT.out _ _ _ T1 _ (ext_alloc (Below.refl _ _) _)).mono ?_; rintro e w2 ⟨rfl, hb2⟩; obtain ⟨hc2, hf2⟩ := bcell hb2; have HB2 : Hid (Below w1.heap.size w1 w2) := ext_trans (ext_alloc (Below.refl _ _) _) hb2; have hz2 : w1.heap.size < w2.heap.size := (by { have := hb2.size; simp at this; omega }); have hz2' : w.heap.size < w2.heap.size := (by omega); clear hb2)
            | (go_at_call 28; refine (num_any _ _).mono ?_; rintro e w' ⟨rfl, rfl⟩)
            | (go_at_call 22; refine (HSI.out _ _ _ T1 _ (ext_alloc HB2.out _)).mono ?_; rintro e w3 ⟨rfl, hb3⟩; obtain ⟨hc3, hf3⟩ := bcell hb3; have HB3 : Hid (Below w1.heap.size w1 w3) := ext_trans (ext_alloc HB2.out _) hb3; have hz3 : w2.heap.size < w3.heap.size := (by { have := hb3.size; simp at this; omega }); have hz3' : w.heap.size < w3.heap.size := (by omega); have hz3n : w1.heap.size < w3.heap.size := (by omega); clear hb3)
            | (go_at_call 29; refine (HHE.out _ _ _ T1 _ HB3.out).mono ?_; rintro e w4 ⟨m, rfl, HM, hb4⟩; obtain ⟨hc4, hf4⟩ := bcell hb4; have HB4 : Hid (Below w1.heap.size w1 w4) := ext_trans HB3.out hb4; have hz4 : w3.heap.size ≤ w4.heap.size := hb4.size; have hz4' : w.heap.size < w4.heap.size := (by omega); have hz4n : w1.heap.size < w4.heap.size := (by omega); obtain ⟨_, hm2⟩ := HM.out; have hm3 : ¬ (m : Int) < 1 := (by omega); have hm4 : decide ((m : Int) < 1) = false := (by simp; omega); clear hb4 HB3)
            | (go_at_call 29; refine (HHE.out _ _ _ T1 _ HB4.out).mono ?_; rintro e w5 ⟨m', rfl, HM', hb5⟩; obtain ⟨hc5, hf5⟩ := bcell hb5; have HB5 : Hid (Below w1.heap.size w1 w5) := ext_trans HB4.out hb5; have hz5 : w4.heap.size ≤ w5.heap.size := hb5.size; have hz5' : w.heap.size < w5.heap.size := (by omega); have hz5n : w1.heap.size < w5.heap.size := (by omega); obtain ⟨hm1', hm2'⟩ := HM'.out; have hm3' : ¬ 3 * (dg : Int) < (m' : Int) := (by omega); clear hb5)
            | (go_at_call 30; refine (HDI.out _).mono ?_; rintro e w' ⟨rfl, rfl⟩))
          go_roundw
          case rel =>
            have hA5 := HA1.out.ext HB5.out
            obtain ⟨p1, p2⟩ := hA5.put u'
            exact ⟨k + 1, u', ins xs _ (k, 1), by omega, by go_num, ⟨(T1.out.1.ext HB5.out).put hA5 p2, (W.out _).1, (W.out _).2⟩, p1, below_put (hb.trans ((ext_trans HB1.out HB5.out).mono (by omega))) (by omega) p2 (Nat.le_refl _)⟩
          case measure => simp [intOf]; omega
        · have hkl' : ¬ (k : Int) < (zs.length : Int) := by omega
          go_wp2_with fail
          refine (HR.out _ (by omega) (by omega)).mono ?_
          rintro e w1 ⟨u', rfl, T1, hb1⟩
          have hA1 := hA.ext hb1
          obtain ⟨y0, yf⟩ := hA1.cells
          have hz1 : w.heap.size < w1.heap.size := hA1.lt
          have HB1 := hidIt hb1
          have HA1 := hidIt hA1
          clear hb1 hA1 z0 zf
          go_wp2_with (first
            | (go_at_call 27; refine (HAT.out _ _ _ T1 _ (ext_alloc (Below.refl _ _) _)).mono ?_; rintro e w2 ⟨rfl, hb2⟩; obtain ⟨hc2, hf2⟩ := bcell hb2; have HB2 : Hid (Below w1.heap.size w1 w2) := ext_trans (ext_alloc (Below.refl _ _) _) hb2; have hz2 : w1.heap.size < w2.heap.size := (by { have := hb2.size; simp at this; omega }); have hz2' : w.heap.size < w2.heap.size := (by omega); clear hb2)
            | (go_at_call 28; refine (num_any _ _).mono ?_; rintro e w' ⟨rfl, rfl⟩)
            | (go_at_call 22; refine (HSI.out _ _ _ T1 _ (ext_alloc HB2.out _)).mono ?_; rintro e w3 ⟨rfl, hb3⟩; obtain ⟨hc3, hf3⟩ := bcell hb3; have HB3 : Hid (Below w1.heap.size w1 w3) := ext_trans (ext_alloc HB2.out _) hb3; have hz3 : w2.heap.size < w3.heap.size := (by { have := hb3.size; simp at this; omega }); have hz3' : w.heap.size < w3.heap.size := (by omega); have hz3n : w1.heap.size < w3.heap.size := (by omega); clear hb3)
            | (go_at_call 29; refine (HHE.out _ _ _ T1 _ HB3.out).mono ?_; rintro e w4 ⟨m, rfl, HM, hb4⟩; obtain ⟨hc4, hf4⟩ := bcell hb4; have HB4 : Hid (Below w1.heap.size w1 w4) := ext_trans HB3.out hb4; have hz4 : w3.heap.size ≤ w4.heap.size := hb4.size; have hz4' : w.heap.size < w4.heap.size := (by omega); have hz4n : w1.heap.size < w4.heap.size := (by omega); obtain ⟨_, hm2⟩ := HM.out; have hm3 : ¬ (m : Int) < 1 := (by omega); have hm4 : decide ((m : Int) < 1) = false := (by simp; omega); clear hb4 HB3)
            | (go_at_call 29; refine (HHE.out _ _ _ T1 _ HB4.out).mono ?_; rintro e w5 ⟨m', rfl, HM', hb5⟩; obtain ⟨hc5, hf5⟩ := bcell hb5; have HB5 : Hid (Below w1.heap.size w1 w5) := ext_trans HB4.out hb5; have hz5 : w4.heap.size ≤ w5.heap.size := hb5.size; have hz5' : w.heap.size < w5.heap.size := (by omega); have hz5n : w1.heap.size < w5.heap.size := (by omega); obtain ⟨hm1', hm2'⟩ := HM'.out; have hm3' : ¬ 3 * (dg : Int) < (m' : Int) := (by omega); clear hb5)
            | (go_at_call 30; refine (HDI.out _).mono ?_; rintro e w' ⟨rfl, rfl⟩))
          go_roundw
          case rel =>
            have hA5 := HA1.out.ext HB5.out
            obtain ⟨p1, p2⟩ := hA5.put u'
            exact ⟨k + 1, u', ins xs _ (k, 1), by omega, by go_num, ⟨(T1.out.1.ext HB5.out).put hA5 p2, (W.out _).1, (W.out _).2⟩, p1, below_put (hb.trans ((ext_trans HB1.out HB5.out).mono (by omega))) (by omega) p2 (Nat.le_refl _)⟩
          case measure => simp [intOf]; omega
      · have hm2' : (rr == 2) = false := by simpa using hm2
        go_wp2_with fail
        refine (HR.out _ (by omega) (by omega)).mono ?_
        rintro e w1 ⟨u', rfl, T1, hb1⟩
        have hA1 := hA.ext hb1
        obtain ⟨y0, yf⟩ := hA1.cells
        have hz1 : w.heap.size < w1.heap.size := hA1.lt
        have HB1 := hidIt hb1
        have HA1 := hidIt hA1
        clear hb1 hA1 z0 zf
        go_wp2_with (first
          | (go_at_call 27; refine (HAT.out _ _ _ T1 _ (ext_alloc (Below.refl _ _) _)).mono ?_; rintro e w2 ⟨rfl, hb2⟩; obtain ⟨hc2, hf2⟩ := bcell hb2; have HB2 : Hid (Below w1.heap.size w1 w2) := ext_trans (ext_alloc (Below.refl _ _) _) hb2; have hz2 : w1.heap.size < w2.heap.size := (by { have := hb2.size; simp at this; omega }); have hz2' : w.heap.size < w2.heap.size := (by omega); clear hb2)
          | (go_at_call 28; refine (num_any _ _).mono ?_; rintro e w' ⟨rfl, rfl⟩)
          | (go_at_call 22; refine (HSI.out _ _ _ T1 _ (ext_alloc HB2.out _)).mono ?_; rintro e w3 ⟨rfl, hb3⟩; obtain ⟨hc3, hf3⟩ := bcell hb3; have HB3 : Hid (Below w1.heap.size w1 w3) := ext_trans (ext_alloc HB2.out _) hb3; have hz3 : w2.heap.size < w3.heap.size := (by { have := hb3.size; simp at this; omega }); have hz3' : w.heap.size < w3.heap.size := (by omega); have hz3n : w1.heap.size < w3.heap.size := (by omega); clear hb3)
          | (go_at_call 29; refine (HHE.out _ _ _ T1 _ HB3.out).mono ?_; rintro e w4 ⟨m, rfl, HM, hb4⟩; obtain ⟨hc4, hf4⟩ := bcell hb4; have HB4 : Hid (Below w1.heap.size w1 w4) := ext_trans HB3.out hb4; have hz4 : w3.heap.size ≤ w4.heap.size := hb4.size; have hz4' : w.heap.size < w4.heap.size := (by omega); have hz4n : w1.heap.size < w4.heap.size := (by omega); obtain ⟨_, hm2⟩ := HM.out; have hm3 : ¬ (m : Int) < 1 := (by omega); have hm4 : decide ((m : Int) < 1) = false := (by simp; omega); clear hb4 HB3)
          | (go_at_call 29; refine (HHE.out _ _ _ T1 _ HB4.out).mono ?_; rintro e w5 ⟨m', rfl, HM', hb5⟩; obtain ⟨hc5, hf5⟩ := bcell hb5; have HB5 : Hid (Below w1.heap.size w1 w5) := ext_trans HB4.out hb5; have hz5 : w4.heap.size ≤ w5.heap.size := hb5.size; have hz5' : w.heap.size < w5.heap.size := (by omega); have hz5n : w1.heap.size < w5.heap.size := (by omega); obtain ⟨hm1', hm2'⟩ := HM'.out; have hm3' : ¬ 3 * (dg : Int) < (m' : Int) := (by omega); clear hb5)
          | (go_at_call 30; refine (HDI.out _).mono ?_; rintro e w' ⟨rfl, rfl⟩))
        go_roundw
        case rel =>
          have hA5 := HA1.out.ext HB5.out
          obtain ⟨p1, p2⟩ := hA5.put u'
          exact ⟨k + 1, u', ins xs _ (k, 1), by omega, by go_num, ⟨(T1.out.1.ext HB5.out).put hA5 p2, (W.out _).1, (W.out _).2⟩, p1, below_put (hb.trans ((ext_trans HB1.out HB5.out).mono (by omega))) (by omega) p2 (Nat.le_refl _)⟩
        case measure => simp [intOf]; omega
    · have hke : k = zs.length + 1 := by omega
      subst hke
      have HSU : Hid (Calls Try.prog 21 #[.agg #[.pointer u]] wr fun e w' => ∃ s : Rs, Hid (s.l = zs.length + 1) ∧ e = .returned (.agg #[.int .i64 s.l, .int .i64 s.s, .int .i64 s.f, .int .i64 s.z]) ∧ Below wr.heap.size wr w') := by
        obtain ⟨t1, t2, t3⟩ := HI.out
        exact (Sum_any u xs wr t1).mono fun _ _ ⟨s, k1, k2, k3⟩ => ⟨s, by have := su_l xs; rw [← k1.out] at this; unfold Hid; omega, k2, k3⟩
      clear HI
      go_wp2_with (go_at_call 21; refine HSU.out.mono ?_; rintro e w1 ⟨s, HS, rfl, hb1⟩; have HB1 := hidIt hb1; clear hb1)
      go_ret
      exact ⟨ret_bool (by have := HS.out; simp; omega), ext_alloc (hb.trans (HB1.out.mono (by omega))) _⟩
end Go.Proofs.Ytlnachbigchobaa
