import Derived.Test.YtfdceljdhgbkcaaGreatDoorJ18
import Derived.Test.YtfdceljdhgbkcaaGreatDoorJ25
/- prefixed: a register and a count ahead of keys. -/
namespace Go.Proofs.YtfdceljdhgbkcaaGreatDoor
open Go.RowKit
/-- A list of the call's own, or nil. -/
def OptI (w : World) (base : Nat) (v : Value) : Option (List Int) → Prop
  | none => v = .slice none 0 0
  | some l => OwnI w base v l ∧ l ≠ []
theorem row3 {y : World} {a b c : Value} {xs ys zs : List Int} (T : TypeId) (ha : RdS y a xs) (hb : RdS y b ys) (hc : RdS y c zs) : Row (y.alloc (.cells #[a, b, c] T)) y.heap.size [(a, xs), (b, ys), (c, zs)] := by
  have e : Below y.heap.size y (y.alloc (.cells #[a, b, c] T)) := ext_alloc (Below.refl _ _) _
  refine ⟨by simp, fun i p hp => ?_⟩
  rw [cell_of_row _ _ i _ _ _ (heap_alloc_new _ _)]
  rcases i with _ | _ | _ | i
  · cases hp; exact ⟨rfl, ha.ext e⟩
  · cases hp; exact ⟨rfl, hb.ext e⟩
  · cases hp; exact ⟨rfl, hc.ext e⟩
  · simp at hp
theorem cat3 (a b c : Value) (xs ys zs : List Int) : cat [(a, xs), (b, ys), (c, zs)] = xs ++ ys ++ zs := by simp [cat]
/-- Three lists joined. -/
theorem concat3 {y : World} {a b c : Value} {xs ys zs : List Int} (T : TypeId) (ha : RdS y a xs) (hb : RdS y b ys) (hc : RdS y c zs) (hn : zs ≠ []) (hx : xs.length + ys.length + zs.length ≤ 1000) :
    Calls Tryz.prog 74 #[.slice (some ⟨y.heap.size, 0, none⟩) 3 3] (y.alloc (.cells #[a, b, c] T)) fun e w' => ∃ v, e = .returned v ∧ OptI w' y.heap.size v (some (xs ++ ys ++ zs)) ∧ Below y.heap.size y w' := by
  have hl : (cat [(a, xs), (b, ys), (c, zs)]).length = xs.length + ys.length + zs.length := by rw [cat3]; simp only [List.length_append]
  have hz : 0 < zs.length := List.length_pos_iff.2 hn
  refine (concat_any y.heap.size [(a, xs), (b, ys), (c, zs)] _ (row3 T ha hb hc) (by simp) (by omega) (by omega)).mono ?_
  rintro e w' ⟨v, rfl, ho, hb2⟩
  rw [cat3] at ho
  exact ⟨v, rfl, ⟨ho.le (by simp), by simp [hn]⟩, (ext_alloc (Below.refl _ _) _ : Below y.heap.size y _).trans (hb2.mono (by simp))⟩
set_option maxRecDepth 100000 in
set_option maxHeartbeats 4000000 in
theorem prefixed_any (v : Value) (ks : List Int) (reg cnt : Int) (w : World) (hv : RdS w v ks) (hk : ks ≠ []) (hl : ks.length ≤ 100) (hc : 0 ≤ cnt) (hc2 : cnt ≤ 9999) (hT : Tb w) :
    Calls Tryz.prog 53 #[v, .int .i64 reg, .int .i64 cnt] w fun e w' => ∃ u, e = .returned u ∧ OptI w' w.heap.size u (pfx ks reg cnt) ∧ Below w.heap.size w w' := by
  obtain ⟨ao, cu, rfl, _⟩ := hv.len
  have h0l : 0 < ks.length := List.length_pos_iff.2 hk
  obtain ⟨b, o, rfl, c0⟩ := rd_at hv h0l
  obtain ⟨k0, hk0⟩ : ∃ k0, ks[0]?.getD 0 = k0 := ⟨_, rfl⟩
  rw [hk0, Nat.add_zero] at c0
  have HPE := hidIt (show pfx ks reg cnt = if cnt = 0 ∨ ks.headD 0 ≠ 48 then some (nmK reg ++ nbK cnt ++ ks) else if reg = 0 then none else some (nbK cnt ++ nmK reg ++ ks) from rfl)
  rw [show ks.headD 0 = k0 by rw [← hk0]; cases ks <;> rfl] at HPE
  clear hk0
  have HV := hidIt hv
  have HK := hidIt hk
  have hbw : b < w.heap.size := by
    have := World.block_lt_of_cell? w _ c0
    simpa using this
  have HTb := hidIt hT
  clear hv hk hT
  by_cases hr : reg = 0
  · by_cases hn : cnt = 0
    · skip
      have hrb : (reg == 0) = true := by simpa using hr
      have HNM : Hid (nmK reg = []) := by unfold Hid nmK; rw [if_pos hr]
      have HNB : Hid (nbK cnt = []) := by unfold Hid nbK; rw [if_neg (by omega)]
      rw [HNM.out, HNB.out] at HPE
      generalize pfx ks reg cnt = PX at HPE ⊢
      obtain ⟨w1, hw1⟩ : ∃ w1, w1 = w := ⟨_, rfl⟩
      have HB1 : Hid (Below w.heap.size w w1) := by unfold Hid; rw [hw1]; exact Below.refl _ _
      have HN1 : Hid (RdS w1 (.slice none 0 0) []) := (OwnI.nil w1 0).rds
      have c1 : w1.cell? ⟨b, o, none⟩ = some (.int .i64 k0) := (HB1.out.cell (p := ⟨b, o, none⟩) hbw).trans c0
      go_enter Tryz.func53, Tryz.ntmps53
      go_upto_region 4 with fail
      rw [← hw1]
      clear hw1 c0
      have HB2 : Hid (Below w.heap.size w w1) := HB1.out
      have HN2 := HN1
      have HD2 : Hid (RdS w1 (.slice none 0 0) []) := (OwnI.nil w1 0).rds
      have HV2 := hidIt (HV.out.ext HB1.out)
      have hcb : (cnt == 0) = true := by simpa using hn
      have hcg : ¬ cnt > 0 := by omega
      go_upto_region 6 with fail
      have HLL : Hid (ks.length ≤ 100) := hl
      have HCC := hidIt (concat3 38 HN2.out HD2.out HV2.out HK.out (by have := HLL.out; simp; omega))
      rw [if_pos (.inl hn)] at HPE
      go_wp2_with (go_at_call 74; refine HCC.out.mono ?_; rintro e w9 ⟨u, rfl, ho9, hb9⟩; (try dsimp only); have HO9 := hidIt ho9; have HB9 := hidIt (HB2.out.trans (hb9.mono HB2.out.size)); clear ho9 hb9)
      try rw [Exit.noGoto_ret]
      go_ret
      refine ⟨_, rfl, ?_, HB9.out⟩
      rw [HPE.out]
      exact ⟨HO9.out.1.le HB2.out.size, HO9.out.2⟩
    · skip
      have hrb : (reg == 0) = true := by simpa using hr
      have HNM : Hid (nmK reg = []) := by unfold Hid nmK; rw [if_pos hr]
      have HNB : Hid (nbK cnt = dg 20 cnt.toNat) := by unfold Hid nbK; rw [if_pos (by omega)]
      rw [HNM.out, HNB.out] at HPE
      generalize pfx ks reg cnt = PX at HPE ⊢
      obtain ⟨w1, hw1⟩ : ∃ w1, w1 = w := ⟨_, rfl⟩
      have HB1 : Hid (Below w.heap.size w w1) := by unfold Hid; rw [hw1]; exact Below.refl _ _
      have HN1 : Hid (RdS w1 (.slice none 0 0) []) := (OwnI.nil w1 0).rds
      have c1 : w1.cell? ⟨b, o, none⟩ = some (.int .i64 k0) := (HB1.out.cell (p := ⟨b, o, none⟩) hbw).trans c0
      go_enter Tryz.func53, Tryz.ntmps53
      go_upto_region 4 with fail
      rw [← hw1]
      clear hw1 c0
      obtain ⟨n, hnn⟩ : ∃ n : Nat, cnt = (n : Int) := ⟨cnt.toNat, by omega⟩
      subst hnn
      rw [show ((n : Int)).toNat = n by omega] at HPE HNB
      have HDG := hidIt (digits_any n (by omega) (by omega) w1 (HTb.out.ext HB1.out))
      have HDL := hidIt (dg_len 20 n)
      generalize dg 20 n = dz at *
      have hcb : ((n : Int) == 0) = false := by simpa using hn
      have hcg : (n : Int) > 0 := by omega
      go_upto_region 6 with (go_at_call 75; refine HDG.out.mono ?_; rintro e w2 ⟨dv, rfl, ho2, hb2⟩; obtain ⟨da, dc, rfl, _⟩ := ho2.rds.len; (try dsimp only); have HB2 := hidIt (ext_trans HB1.out hb2); have HN2 := hidIt (HN1.out.ext hb2); have HD2 := hidIt ho2.rds; have HV2 := hidIt (HV.out.ext (ext_trans HB1.out hb2)); have c2 := (hb2.cell (p := ⟨b, o, none⟩) (Nat.lt_of_lt_of_le hbw HB1.out.size)).trans c1; clear ho2 hb2 c1)
      have HLL : Hid (ks.length ≤ 100) := hl
      by_cases h48 : k0 = 48
      · have h48b : (k0 == 48) = true := by simpa using h48
        rw [if_neg (fun h => h.elim (fun h => hn h) (fun h => h h48))] at HPE
        rw [if_pos hr] at HPE
        go_wp2_with fail
        try rw [Exit.noGoto_ret]
        go_ret
        refine ⟨_, rfl, ?_, HB2.out⟩
        rw [HPE.out]
        rfl
      · have h48b : (k0 == 48) = false := by simpa using h48
        have HCC := hidIt (concat3 38 HN2.out HD2.out HV2.out HK.out (by have := HLL.out; have := HDL.out; simp; omega))
        rw [if_pos (.inr h48)] at HPE
        go_wp2_with (go_at_call 74; refine HCC.out.mono ?_; rintro e w9 ⟨u, rfl, ho9, hb9⟩; (try dsimp only); have HO9 := hidIt ho9; have HB9 := hidIt (HB2.out.trans (hb9.mono HB2.out.size)); clear ho9 hb9)
        try rw [Exit.noGoto_ret]
        go_ret
        refine ⟨_, rfl, ?_, HB9.out⟩
        rw [HPE.out]
        exact ⟨HO9.out.1.le HB2.out.size, HO9.out.2⟩
  · by_cases hn : cnt = 0
    · skip
      have hrb : (reg == 0) = false := by simpa using hr
      have HNM : Hid (nmK reg = [34, reg]) := by unfold Hid nmK; rw [if_neg hr]
      have HNB : Hid (nbK cnt = []) := by unfold Hid nbK; rw [if_neg (by omega)]
      rw [HNM.out, HNB.out] at HPE
      generalize pfx ks reg cnt = PX at HPE ⊢
      obtain ⟨w1, hw1⟩ : ∃ w1, w1 = w.alloc (.cells #[.int .i64 34, .int .i64 reg] 3) := ⟨_, rfl⟩
      have HB1 : Hid (Below w.heap.size w w1) := by unfold Hid; rw [hw1]; exact ext_alloc (Below.refl _ _) _
      have HN1 : Hid (RdS w1 (.slice (some ⟨w.heap.size, 0, none⟩) 2 2) [34, reg]) := by unfold Hid; rw [hw1]; exact (own_lit2 w 34 reg 0 (Nat.zero_le _)).rds
      have c1 : w1.cell? ⟨b, o, none⟩ = some (.int .i64 k0) := (HB1.out.cell (p := ⟨b, o, none⟩) hbw).trans c0
      go_enter Tryz.func53, Tryz.ntmps53
      go_upto_region 4 with fail
      rw [← hw1]
      clear hw1 c0
      have HB2 : Hid (Below w.heap.size w w1) := HB1.out
      have HN2 := HN1
      have HD2 : Hid (RdS w1 (.slice none 0 0) []) := (OwnI.nil w1 0).rds
      have HV2 := hidIt (HV.out.ext HB1.out)
      have hcb : (cnt == 0) = true := by simpa using hn
      have hcg : ¬ cnt > 0 := by omega
      go_upto_region 6 with fail
      have HLL : Hid (ks.length ≤ 100) := hl
      have HCC := hidIt (concat3 38 HN2.out HD2.out HV2.out HK.out (by have := HLL.out; simp; omega))
      rw [if_pos (.inl hn)] at HPE
      go_wp2_with (go_at_call 74; refine HCC.out.mono ?_; rintro e w9 ⟨u, rfl, ho9, hb9⟩; (try dsimp only); have HO9 := hidIt ho9; have HB9 := hidIt (HB2.out.trans (hb9.mono HB2.out.size)); clear ho9 hb9)
      try rw [Exit.noGoto_ret]
      go_ret
      refine ⟨_, rfl, ?_, HB9.out⟩
      rw [HPE.out]
      exact ⟨HO9.out.1.le HB2.out.size, HO9.out.2⟩
    · skip
      have hrb : (reg == 0) = false := by simpa using hr
      have HNM : Hid (nmK reg = [34, reg]) := by unfold Hid nmK; rw [if_neg hr]
      have HNB : Hid (nbK cnt = dg 20 cnt.toNat) := by unfold Hid nbK; rw [if_pos (by omega)]
      rw [HNM.out, HNB.out] at HPE
      generalize pfx ks reg cnt = PX at HPE ⊢
      obtain ⟨w1, hw1⟩ : ∃ w1, w1 = w.alloc (.cells #[.int .i64 34, .int .i64 reg] 3) := ⟨_, rfl⟩
      have HB1 : Hid (Below w.heap.size w w1) := by unfold Hid; rw [hw1]; exact ext_alloc (Below.refl _ _) _
      have HN1 : Hid (RdS w1 (.slice (some ⟨w.heap.size, 0, none⟩) 2 2) [34, reg]) := by unfold Hid; rw [hw1]; exact (own_lit2 w 34 reg 0 (Nat.zero_le _)).rds
      have c1 : w1.cell? ⟨b, o, none⟩ = some (.int .i64 k0) := (HB1.out.cell (p := ⟨b, o, none⟩) hbw).trans c0
      go_enter Tryz.func53, Tryz.ntmps53
      go_upto_region 4 with fail
      rw [← hw1]
      clear hw1 c0
      obtain ⟨n, hnn⟩ : ∃ n : Nat, cnt = (n : Int) := ⟨cnt.toNat, by omega⟩
      subst hnn
      rw [show ((n : Int)).toNat = n by omega] at HPE HNB
      have HDG := hidIt (digits_any n (by omega) (by omega) w1 (HTb.out.ext HB1.out))
      have HDL := hidIt (dg_len 20 n)
      generalize dg 20 n = dz at *
      have hcb : ((n : Int) == 0) = false := by simpa using hn
      have hcg : (n : Int) > 0 := by omega
      go_upto_region 6 with (go_at_call 75; refine HDG.out.mono ?_; rintro e w2 ⟨dv, rfl, ho2, hb2⟩; obtain ⟨da, dc, rfl, _⟩ := ho2.rds.len; (try dsimp only); have HB2 := hidIt (ext_trans HB1.out hb2); have HN2 := hidIt (HN1.out.ext hb2); have HD2 := hidIt ho2.rds; have HV2 := hidIt (HV.out.ext (ext_trans HB1.out hb2)); have c2 := (hb2.cell (p := ⟨b, o, none⟩) (Nat.lt_of_lt_of_le hbw HB1.out.size)).trans c1; clear ho2 hb2 c1)
      have HLL : Hid (ks.length ≤ 100) := hl
      by_cases h48 : k0 = 48
      · have h48b : (k0 == 48) = true := by simpa using h48
        rw [if_neg (fun h => h.elim (fun h => hn h) (fun h => h h48))] at HPE
        have HCC := hidIt (concat3 38 HD2.out HN2.out HV2.out HK.out (by have := HLL.out; have := HDL.out; simp; omega))
        rw [if_neg hr] at HPE
        go_wp2_with (go_at_call 74; refine HCC.out.mono ?_; rintro e w9 ⟨u, rfl, ho9, hb9⟩; (try dsimp only); have HO9 := hidIt ho9; have HB9 := hidIt (HB2.out.trans (hb9.mono HB2.out.size)); clear ho9 hb9)
        try rw [Exit.noGoto_ret]
        go_ret
        refine ⟨_, rfl, ?_, HB9.out⟩
        rw [HPE.out]
        exact ⟨HO9.out.1.le HB2.out.size, HO9.out.2⟩
      · have h48b : (k0 == 48) = false := by simpa using h48
        have HCC := hidIt (concat3 38 HN2.out HD2.out HV2.out HK.out (by have := HLL.out; have := HDL.out; simp; omega))
        rw [if_pos (.inr h48)] at HPE
        go_wp2_with (go_at_call 74; refine HCC.out.mono ?_; rintro e w9 ⟨u, rfl, ho9, hb9⟩; (try dsimp only); have HO9 := hidIt ho9; have HB9 := hidIt (HB2.out.trans (hb9.mono HB2.out.size)); clear ho9 hb9)
        try rw [Exit.noGoto_ret]
        go_ret
        refine ⟨_, rfl, ?_, HB9.out⟩
        rw [HPE.out]
        exact ⟨HO9.out.1.le HB2.out.size, HO9.out.2⟩
end Go.Proofs.YtfdceljdhgbkcaaGreatDoor
