import Derived.Test.YtfdceljdhgbkcaaGreatDoorJ35
import Derived.Test.YtfdceljdhgbkcaaGreatDoorJ34
import Derived.Deep.CutBlock
/- The document's table in memory; row. -/
namespace Go.Proofs.YtfdceljdhgbkcaaGreatDoor
open Go.RowKit
/-- The tails: a row of rows. -/
structure TlM (w : World) (tv : Value) (os : List DRw) : Prop where
  ex : ∃ ta tc, tv = .slice ta os.length tc ∧ os.length ≤ tc ∧ tc ≤ 9223372036854775807 ∧ ∀ i o, os[i]? = some o → ∃ g u zs, ta = some ⟨g, 0, none⟩ ∧ (∃ cur, w.heap[g]? = some (.cells cur 66 (0, 0))) ∧ w.cell? ⟨g, i, none⟩ = some u ∧ OwnD w 0 u zs ∧ zs.map Prod.fst = dTls o
/-- The document's table of a kind of mode. -/
structure TbM (w : World) (b : Nat) (sl : Bool) : Prop where
  ex : ∃ rv ov tv xs os, w.heap[b]? = some (.cells #[rv, ov, tv] 69 (0, 0)) ∧ OwnD w 0 rv xs ∧ xs.map Prod.fst = dRws sl ∧ OwnD w 0 ov os ∧ os.map Prod.fst = dOpl sl ∧ TlM w tv (dOpl sl)
theorem TlM.ext {w w' : World} {tv : Value} {os : List DRw} (h : TlM w tv os) (hb : Below w.heap.size w w') : TlM w' tv os := by
  obtain ⟨ta, tc, h1, h2, h3, h4⟩ := h.ex
  refine ⟨ta, tc, h1, h2, h3, fun i o hi => ?_⟩
  obtain ⟨g, u, zs, k1, ⟨cur, k0⟩, k2, k3, k4⟩ := h4 i o hi
  exact ⟨g, u, zs, k1, ⟨cur, (hb.block _ (Array.getElem?_eq_some_iff.1 k0).1).trans k0⟩, (hb.cell (p := ⟨g, i, none⟩) (cell_lt k2)).trans k2, k3.ext hb, k4⟩
theorem TbM.ext {w w' : World} {b : Nat} {sl : Bool} (h : TbM w b sl) (hb : Below w.heap.size w w') : TbM w' b sl := by
  obtain ⟨rv, ov, tv, xs, os, h1, h2, h3, h4, h5, h6⟩ := h.ex
  exact ⟨rv, ov, tv, xs, os, (hb.block _ (Array.getElem?_eq_some_iff.1 h1).1).trans h1, h2.ext hb, h3, h4.ext hb, h5, h6.ext hb⟩
theorem cells3 {w : World} {b : Nat} {T : TypeId} {v0 v1 v2 : Value} (h : w.heap[b]? = some (.cells #[v0, v1, v2] T (0, 0))) : w.cell? ⟨b, 0, none⟩ = some v0 ∧ w.cell? ⟨b, 1, none⟩ = some v1 ∧ w.cell? ⟨b, 2, none⟩ = some v2 ∧ b < w.heap.size := by
  refine ⟨?_, ?_, ?_, (Array.getElem?_eq_some_iff.1 h).1⟩ <;> simp [World.cell?, h]
theorem RdS.restE {w : World} {b off c : Nat} {zs : List Int} (h : RdS w (.slice (some ⟨b, off, none⟩) zs.length c) zs) {k : Nat} (hk : k ≤ zs.length) : RdS w (.slice (some ⟨b, off + k, none⟩) (zs.length - k) (c - k)) (zs.drop k) := by
  by_cases e : k = zs.length
  · subst e
    obtain ⟨⟨ao', cap', e, g1, g2, _⟩, _⟩ := h
    injection e with e1 e2 e3
    exact ⟨⟨_, c - zs.length, by rw [List.length_drop], by rw [List.length_drop]; omega, by omega, fun hn => absurd (List.drop_length) hn⟩, .inr ⟨_, _, _, rfl⟩⟩
  · exact h.rest k (by omega)
/-- A rest of what is read, as the program makes it: at the end of the room the address stays. -/
theorem RdS.restI {w : World} {b off c : Nat} {zs : List Int} (h : RdS w (.slice (some ⟨b, off, none⟩) zs.length c) zs) {k : Nat} (hk : k ≤ zs.length) : RdS w (.slice (if c = k then some ⟨b, off, none⟩ else some ⟨b, off + k, none⟩) (zs.length - k) (c - k)) (zs.drop k) := by
  split
  · rename_i e
    have h2 := h.restE hk
    obtain ⟨⟨ao', cap', e0, g1, g2, _⟩, _⟩ := h2
    obtain ⟨⟨ao2, cap2, e9, g9, _⟩, _⟩ := h
    injection e9 with _ _ e9
    have hz : zs.drop k = [] := List.drop_of_length_le (by omega)
    have hl : zs.length - k = 0 := by omega
    refine ⟨⟨_, c - k, by rw [hz, hl]; rfl, by rw [hz]; simp, by omega, fun hn => absurd hz hn⟩, .inr ⟨_, _, _, rfl⟩⟩
  · exact h.restE hk
theorem if_some {b x y : Nat} {p : Prop} [Decidable p] : ∃ z, (if p then some (⟨b, x, none⟩ : Addr) else some ⟨b, y, none⟩) = some ⟨b, z, none⟩ := by
  split
  · exact ⟨_, rfl⟩
  · exact ⟨_, rfl⟩
theorem rows_ks : (∀ r ∈ dRws true, r.ks.length ≤ 100) ∧ (∀ r ∈ dRws false, r.ks.length ≤ 100) ∧ (∀ o ∈ dOps, o.ks.length ≤ 2 ∧ 1 ≤ o.ks.length) := by decide
theorem tls_ks : dOps.all (fun o => (dTls o).all fun r => decide (r.ks.length ≤ 100)) = true := by kernel_rfl
theorem rows_len : (dRws true).length ≤ 1000 ∧ (dRws false).length ≤ 1000 ∧ dOps.all (fun o => decide ((dTls o).length ≤ 1000)) = true := by decide
theorem dTms_rng {c n : Int} (hc : 0 ≤ c ∧ c ≤ 9999) (hn : 0 ≤ n ∧ n ≤ 9999) : 0 ≤ dTms c n ∧ dTms c n ≤ 9999 := by
  unfold dTms
  have := Int.mul_nonneg hc.1 hn.1
  split <;> omega
/-- among, of a table's rows. -/
theorem among_of {w : World} {lv kv : Value} {xs : List (DRw × Value)} {L : List DRw} {ks : List Int} (reg cnt : Int) (hx : OwnD w 0 lv xs) (hm : xs.map Prod.fst = L) (hk : RdS w kv ks) (h1 : ∀ r ∈ L, r.ks.length ≤ 100) (hl : L.length ≤ 1000) :
    Calls Tryz.prog 65 #[lv, kv, .int .i64 reg, .int .i64 cnt] w fun e w' => e = .returned (.tuple #[cmV (dAmg reg cnt ks 2 L).1, .int .i64 (dAmg reg cnt ks 2 L).2]) ∧ Below w.heap.size w w' := by
  subst hm
  exact r_among_any 0 lv kv xs ks reg cnt w hx hk (fun x hx => h1 x.1 (List.mem_map.2 ⟨x, hx, rfl⟩)) (by rwa [List.length_map] at hl)
/-- While the digits behind an operator are read: q of them make n. -/
def RelI (R : List Int) (q : Nat) (n : Int) : Prop := (q = 0 ∧ n = 0) ∨ (0 < q ∧ R.headD 0 ≠ 48 ∧ dNum 0 R = dNum n (R.drop q))
theorem RelI.step {R : List Int} {q : Nat} {n : Int} (h : RelI R q n) (hq : q < R.length) (hd : 48 ≤ R[q]?.getD 0 ∧ R[q]?.getD 0 ≤ 57) (h48 : q = 0 → R.headD 0 ≠ 48) : RelI R (q + 1) (min 9999 (10 * n + R[q]?.getD 0 - 48)) := by
  have e := drop_at hq
  rcases h with ⟨rfl, rfl⟩ | ⟨h1, h2, h3⟩
  · refine .inr ⟨by omega, h48 rfl, ?_⟩
    rw [List.drop_zero] at e
    conv => lhs; rw [e]
    exact dNum_cons hd
  · refine .inr ⟨by omega, h2, ?_⟩
    rw [h3, e]
    exact dNum_cons hd
theorem beh_exit {R : List Int} {q : Nat} {n : Int} (h : RelI R q n) (hx : q = R.length ∨ (q < R.length ∧ dDig (R[q]?.getD 0) = false) ∨ (q = 0 ∧ R.headD 0 = 48)) : dBeh R = (n, R.drop q) := by
  have hR0 : R[0]?.getD 0 = R.headD 0 := by cases R <;> rfl
  unfold dBeh
  rcases h with ⟨rfl, rfl⟩ | ⟨h1, h2, h3⟩
  · rw [List.drop_zero]
    by_cases h48 : R.headD 0 = 48
    · rw [if_pos h48]
    · rw [if_neg h48]
      rcases hx with hx | ⟨_, hx⟩ | ⟨_, hx⟩
      · have : R = [] := List.length_eq_zero_iff.1 hx.symm
        subst this
        rfl
      · rw [hR0] at hx
        exact dNum_stop (fun e => by rw [(dDig_iff _).2 e] at hx; cases hx)
      · exact absurd hx h48
  · rw [if_neg h2, h3]
    rcases hx with hx | ⟨hq, hx⟩ | ⟨hx, _⟩
    · rw [List.drop_of_length_le (by omega)]
      rfl
    · rw [drop_at hq, dNum, if_neg (by rw [hx]; decide)]
    · omega
set_option maxRecDepth 100000 in
set_option maxHeartbeats 16000000 in
theorem r_row_any {b : Nat} {sl : Bool} (kv : Value) (l : List Int) (reg cnt : Int) (w : World) (hT : TbM w b sl) (hk : RdS w kv l) (hl0 : l ≠ []) (hll : l.length ≤ 1152921504606846976) (hc : 0 ≤ cnt ∧ cnt ≤ 9999) :
    Calls Tryz.prog 48 #[.pointer (some ⟨b, 0, none⟩), kv, .int .i64 reg, .int .i64 cnt] w fun e w' => e = .returned (.tuple #[cmV (dRow sl l reg cnt).1, .int .i64 (dRow sl l reg cnt).2]) ∧ Below w.heap.size w w' := by
  have hX : (if (dAmg reg cnt l 2 (dRws sl)).2 = 1 then dAmg reg cnt l 2 (dRws sl) else dOpr reg cnt l (dAmg reg cnt l 2 (dRws sl)).2 (dOpl sl)) = dRow sl l reg cnt := rfl
  generalize dRow sl l reg cnt = X at hX ⊢
  obtain ⟨la, lc, rfl, _⟩ := hk.len
  have hcap : l.length ≤ lc := by
    obtain ⟨⟨ao', cap', e, g1, _⟩, _⟩ := hk
    injection e with _ e2 e3
    omega
  obtain ⟨lb, lo, rfl, _⟩ := rd_at hk (List.length_pos_iff.2 hl0)
  obtain ⟨rv, ov, tv, xs, os, t1, t2, t3, t4, t5, t6⟩ := hT.ex
  obtain ⟨ra, rn, rc, rfl⟩ := t2.form
  obtain ⟨oa, on, oc, rfl⟩ := t4.form
  obtain ⟨ta, tc, rfl, t7, t8, t9⟩ := t6.ex
  have hol : os.length = (dOpl sl).length := by rw [← t5, List.length_map]
  obtain ⟨hon, hoc⟩ : on = (dOpl sl).length ∧ (dOpl sl).length ≤ oc := by
    obtain ⟨⟨ao', cap', e, r1, _⟩, _⟩ := t4.rd
    injection e with e1 e2 e3
    exact ⟨by omega, by omega⟩
  subst hon
  have hO8 : (dOpl sl).length ≤ 8 := by cases sl <;> decide
  have HK1 : Hid (∀ r ∈ dRws sl, r.ks.length ≤ 100) := by cases sl; exact rows_ks.2.1; exact rows_ks.1
  have HK2 : Hid ((dRws sl).length ≤ 1000) := by cases sl; exact rows_len.2.1; exact rows_len.1
  have HOM : Hid (∀ o ∈ dOpl sl, o ∈ dOps) := by
    cases sl
    · exact fun o h => h
    · exact fun o h => by cases h
  have HW : Hid (∀ y, Below w.heap.size w y → (y.cell? ⟨b, 0, none⟩ = some (.slice ra rn rc) ∧ y.cell? ⟨b, 1, none⟩ = some (.slice oa (dOpl sl).length oc) ∧ y.cell? ⟨b, 2, none⟩ = some (.slice ta (dOpl sl).length tc) ∧ b < y.heap.size) ∧ OwnD y 0 (.slice ra rn rc) xs ∧ OwnD y 0 (.slice oa (dOpl sl).length oc) os ∧ RdS y (.slice (some ⟨lb, lo, none⟩) l.length lc) l ∧ TlM y (.slice ta (dOpl sl).length tc) (dOpl sl)) := fun y hy =>
    ⟨cells3 ((hy.block _ (Array.getElem?_eq_some_iff.1 t1).1).trans t1), t2.ext hy, t4.ext hy, hk.ext hy, t6.ext hy⟩
  have HTT : Hid (∀ y, TlM y (.slice ta (dOpl sl).length tc) (dOpl sl) → ∀ p o, (dOpl sl)[p]? = some o → ∃ g u zs, ta = some ⟨g, 0, none⟩ ∧ y.cell? ⟨g, p, none⟩ = some u ∧ OwnD y 0 u zs ∧ zs.map Prod.fst = dTls o) := fun y hy p o ho => by
    obtain ⟨ta', tc', e, _, _, h⟩ := hy.ex
    injection e with e1 e2 e3
    subst e1
    obtain ⟨g, u, zs, q1, _, q2⟩ := h p o ho
    exact ⟨g, u, zs, q1, q2⟩
  have HT3 := hidIt t3
  have HT5 := hidIt t5
  have HOL := hidIt hol
  have HX := hidIt hX
  have HC := hidIt hc
  obtain ⟨w0, hw0⟩ : ∃ w0, w0 = w.alloc (.cells #[.int .i64 0, .int .i64 0, .int .i64 0, .int .i64 0, .int .i64 0] 33) := ⟨_, rfl⟩
  have HB0 : Hid (Below w.heap.size w w0) := by unfold Hid; rw [hw0]; exact ext_alloc (Below.refl _ _) _
  have HR0 : Hid (w0.heap[w.heap.size]? = some (.cells #[.int .i64 0, .int .i64 0, .int .i64 0, .int .i64 0, .int .i64 0] 33 (0, 0))) := by unfold Hid; rw [hw0]; exact heap_alloc_new _ _
  clear hX hT t1 t2 t3 t4 t5 t6 t9 hol hc hk
  go_enter Tryz.func48, Tryz.ntmps48
  go_upto_region 1 with fail
  rw [← hw0]
  clear hw0
  obtain ⟨⟨c0, c1, c2, cb⟩, HO1, HO2, HO3, HO4⟩ := HW.out w0 HB0.out
  have HAM := hidIt (among_of reg cnt HO1 HT3.out HO3 HK1.out HK2.out)
  clear HO1 HO2 HO3 HO4
  generalize dAmg reg cnt l 2 (dRws sl) = x1 at HX HAM
  obtain ⟨⟨z0, z1, z2, z3, z4⟩, s1⟩ := x1
  go_upto_region 2 with (go_at_call 65; refine HAM.out.mono ?_; rintro e y ⟨rfl, hb⟩; (try dsimp only); have HBY := hidIt hb; clear hb HAM)
  obtain ⟨w1, hw1⟩ : ∃ w1, w1 = y.alloc (.cells #[.int .i64 z0, .int .i64 z1, .int .i64 z2, .int .i64 z3, .int .i64 z4] 33) := ⟨_, rfl⟩
  rw [← hw1]
  have HB1 : Hid (Below w0.heap.size w0 w1) := by unfold Hid; rw [hw1]; exact ext_alloc HBY.out _
  have HC1 : Hid (w1.heap[y.heap.size]? = some (.cells #[.int .i64 z0, .int .i64 z1, .int .i64 z2, .int .i64 z3, .int .i64 z4] 33 (0, 0))) := by unfold Hid; rw [hw1]; exact heap_alloc_new _ _
  have HR1 := hidIt ((HB1.out.block _ (Array.getElem?_eq_some_iff.1 HR0.out).1).trans HR0.out)
  have HBW1 : Hid (Below w.heap.size w w1) := ext_trans HB0.out HB1.out
  clear hw1 c0 c1 c2 cb HR0 HB1 HBY HB0
  generalize y.heap.size = gc at HC1 ⊢
  dsimp only at HX
  by_cases hs1 : s1 = 1
  · subst hs1
    rw [if_pos rfl] at HX
    obtain ⟨_, f0, f1, f2, f3, f4, ff⟩ := cells5 HC1.out
    obtain ⟨_, r0, r1, r2, r3, r4, rf⟩ := cells5 HR1.out
    have HP := hidIt (put5 HR1.out (.int .i64 z0) (.int .i64 z1) (.int .i64 z2) (.int .i64 z3) (.int .i64 z4))
    go_wp2_with fail
    refine bodyPost_ret (v := .tuple #[.agg #[.int .i64 z0, .int .i64 z1, .int .i64 z2, .int .i64 z3, .int .i64 z4], .int .i64 1]) (by simp [results, Tryz.results48, go_sem, r0, r1, r2, r3, r4]) rfl ⟨by rw [← HX.out], ?_⟩
    exact below_put HBW1.out HBW1.out.size HP.out.2 (Nat.le_refl _)
  · have hs1b : (s1 == 1) = false := by simpa using hs1
    rw [if_neg hs1] at HX
    clear hs1
    go_upto_region 5 with fail
    go_loopw [11, 12] (fun sv iv wr => ∃ (p : Nat) (s : Int), p ≤ (dOpl sl).length ∧ iv = .int .i64 p ∧ sv = .int .i64 s ∧ Hid (dOpr reg cnt l s ((dOpl sl).drop p) = X) ∧ Hid (Below w1.heap.size w1 wr)) (fun _ iv _ => (dOpl sl).length - (RowKit.intOf iv).toNat)
    case atStart => exact ⟨0, s1, Nat.zero_le _, rfl, rfl, by rw [List.drop_zero]; exact HX.out, Below.refl _ _⟩
    case round =>
      obtain ⟨p, s, hp, rfl, rfl, HD, HBO⟩ := hrel
      have HBN : Hid (Below w.heap.size w wr) := ext_trans HBW1.out HBO.out
      obtain ⟨⟨c0, c1, c2, cb⟩, HO1, HO2, HO3, HO4⟩ := HW.out wr HBN.out
      by_cases hlt : p < (dOpl sl).length
      · have hltI : (p : Int) < ((dOpl sl).length : Int) := by omega
        obtain ⟨hq9, hq8, g, rfl, x, hx, hxk, d0, d1, d2, d3, d4⟩ := HO2.at (p := p) (by have := HOL.out; omega)
        clear hq9 hq8
        have hop : (dOpl sl)[p]? = some x.1 := by rw [← HT5.out, List.getElem?_map, hx]; rfl
        have HOX := hidIt (HOM.out x.1 (List.mem_of_getElem? hop))
        have HKO := hidIt (rows_ks.2.2 x.1 HOX.out)
        have HNX : Hid ((dOpl sl).drop p = x.1 :: (dOpl sl).drop (p + 1)) := by
          obtain ⟨h1, h2⟩ := List.getElem?_eq_some_iff.1 hop
          unfold Hid
          rw [List.drop_eq_getElem_cons h1, h2]
        rw [HNX.out, dOpr] at HD
        have HTO := hidIt (fun y hy => HTT.out y hy p x.1 hop)
        obtain ⟨o, xv⟩ := x
        dsimp only at *
        obtain ⟨xa, xc, rfl, _⟩ := hxk.1.len
        have HXK := hidIt hxk.1
        have HKR := hidIt HO3
        clear HO1 HO2 HO3 HO4 hx hxk hop d1 d2 d3 d4
        go_upto_region 10 with (first | (go_at_call 66; refine (r_begins_any _ _ l o.ks _ HKR.out HXK.out).mono ?_; rintro e w6 ⟨rfl, hb6⟩; (try dsimp only); have HB6 := hidIt hb6; have HKR6 := hidIt (HKR.out.ext hb6); have HXK6 := hidIt (HXK.out.ext hb6); clear hb6 HKR HXK) | (go_at_call 66; refine (r_begins_any _ _ o.ks l _ HXK6.out HKR6.out).mono ?_; rintro e w7 ⟨rfl, hb7⟩; (try dsimp only); have HB7 := hidIt (ext_trans HB6.out hb7); have HKR := hidIt (HKR6.out.ext hb7); clear hb7 HKR6 HXK6 HB6))
        clear c0 c1 c2 cb d0
        have HBO7 : Hid (Below w1.heap.size w1 w7) := ext_trans HBO.out HB7.out
        have HBN7 : Hid (Below w.heap.size w w7) := ext_trans HBN.out HB7.out
        by_cases hwh : o.ks.isPrefixOf l = true
        · skip
          rw [hwh]
          rw [if_pos hwh] at HD
          have hol : o.ks.length ≤ l.length := (pre_iff.1 hwh).length_le
          have holI : (o.ks.length : Int) ≤ (l.length : Int) := by omega
          clear hwh
          go_upto_region 14 with fail
          have HRS := hidIt (HKR.out.restI hol)
          obtain ⟨lo2, hlo2⟩ := if_some (b := lb) (x := lo) (y := lo + o.ks.length) (p := lc = o.ks.length)
          rw [hlo2] at HRS ⊢
          clear hlo2
          have HRL : Hid ((l.drop o.ks.length).length = l.length - o.ks.length) := List.length_drop
          generalize l.drop o.ks.length = R at HD HRS HRL
          rw [← HRL.out] at HRS ⊢
          generalize lc - o.ks.length = lc2 at HRS ⊢
          have hRl : R.length ≤ 1152921504606846976 := by have := HRL.out; omega
          have hcp2 : R.length ≤ lc2 := by
            obtain ⟨⟨ao', cap', e, g1, _⟩, _⟩ := HRS.out
            injection e with _ e2 e3
            omega
          clear HRL hol holI HKR
          go_upto_block 2 with fail
          go_cut [17, 18] from 70 to 101 (fun nv kv wF => ∃ (q : Nat) (n : Int), nv = .int .i64 n ∧ kv = .int .i64 q ∧ q ≤ R.length ∧ 0 ≤ n ∧ n ≤ 9999 ∧ Hid (dBeh R = (n, R.drop q)) ∧ Hid (Below w7.heap.size w7 wF))
          case first =>
            go_wp2_with fail
            go_loopg [17, 18] R.length (fun gk nv kv wq => ∃ (q : Nat) (n : Int), q + gk = R.length ∧ nv = .int .i64 n ∧ kv = .int .i64 q ∧ 0 ≤ n ∧ n ≤ 9999 ∧ Hid (RelI R q n) ∧ Hid (Below w7.heap.size w7 wq))
            case atStart => exact ⟨0, 0, by omega, rfl, rfl, Int.le_refl _, by omega, .inl ⟨rfl, rfl⟩, Below.refl _ _⟩
            case round =>
              obtain ⟨q, n, hgk, rfl, rfl, hn0, hn9, HI, HBQ⟩ := hrel
              have hq : q ≤ R.length := by omega
              by_cases hql : q < R.length
              · have hqI : (q : Int) < (R.length : Int) := by omega
                obtain ⟨b', o', e', cq⟩ := rd_at (HRS.out.ext HBQ.out) hql
                cases e'
                have HDQ := hidIt (fun y => r_isDigit_any (R[q]?.getD 0) y)
                by_cases hdq : dDig (R[q]?.getD 0) = true
                · have hr := (dDig_iff _).1 hdq
                  rw [hdq] at HDQ
                  by_cases hq0 : q = 0
                  · subst hq0
                    have hR0 : R[0]?.getD 0 = R.headD 0 := by cases R <;> rfl
                    rw [hR0] at cq hr HDQ
                    rw [Nat.add_zero] at cq
                    have hqI0 : (0 : Int) < (R.length : Int) := hqI
                    clear hqI
                    by_cases h48 : R.headD 0 = 48
                    · have HEX := hidIt (beh_exit HI.out (.inr (.inr ⟨rfl, h48⟩)))
                      rw [h48] at cq HDQ
                      clear hdq hr h48
                      go_wp2_with (go_at_call 46; refine (HDQ.out _).mono ?_; rintro e y ⟨rfl, rfl⟩; (try dsimp only))
                      go_meet
                      case rel => exact ⟨0, n, rfl, rfl, hq, hn0, hn9, HEX.out, HBQ.out⟩
                    · have h48b : (R.headD 0 != 48) = true := by simpa using h48
                      have HI2 : Hid (RelI R 1 (min 9999 (10 * n + R.headD 0 - 48))) := by have h9 := RelI.step HI.out hql (by rw [hR0]; exact hr) (fun _ => h48); rw [hR0] at h9; exact h9
                      generalize R.headD 0 = z at cq hr HDQ HI2 h48b
                      obtain ⟨n2, hn2⟩ : ∃ n2, min 9999 (10 * n + z - 48) = n2 := ⟨_, rfl⟩
                      have HN2 : Hid (0 ≤ n2 ∧ n2 ≤ 9999) := by unfold Hid; omega
                      rw [hn2] at HI2
                      clear hdq h48
                      go_wp2_with (go_at_call 46; refine (HDQ.out _).mono ?_; rintro e y ⟨rfl, rfl⟩; (try dsimp only))
                      go_roundg (R.length - 1)
                      case measure => omega
                      case rel => exact ⟨1, n2, by omega, rfl, rfl, HN2.out.1, HN2.out.2, HI2.out, HBQ.out⟩
                  · have hqp : (q : Int) > 0 := by omega
                    have HI2 : Hid (RelI R (q + 1) (min 9999 (10 * n + R[q]?.getD 0 - 48))) := RelI.step HI.out hql hr (fun e => absurd e hq0)
                    generalize R[q]?.getD 0 = z at cq hr HDQ HI2
                    obtain ⟨n2, hn2⟩ : ∃ n2, min 9999 (10 * n + z - 48) = n2 := ⟨_, rfl⟩
                    have HN2 : Hid (0 ≤ n2 ∧ n2 ≤ 9999) := by unfold Hid; omega
                    rw [hn2] at HI2
                    clear hdq
                    go_wp2_with (go_at_call 46; refine (HDQ.out _).mono ?_; rintro e y ⟨rfl, rfl⟩; (try dsimp only))
                    go_roundg (R.length - (q + 1))
                    case measure => omega
                    case rel => exact ⟨q + 1, n2, by omega, rfl, by go_num, HN2.out.1, HN2.out.2, HI2.out, HBQ.out⟩
                · have hdf : dDig (R[q]?.getD 0) = false := Bool.eq_false_iff.2 hdq
                  have HEX := hidIt (beh_exit HI.out (.inr (.inl ⟨hql, hdf⟩)))
                  rw [hdf] at HDQ
                  generalize R[q]?.getD 0 = z at cq HDQ
                  clear hdq hdf
                  go_wp2_with (go_at_call 46; refine (HDQ.out _).mono ?_; rintro e y ⟨rfl, rfl⟩; (try dsimp only))
                  go_meet
                  case rel => exact ⟨q, n, rfl, rfl, hq, hn0, hn9, HEX.out, HBQ.out⟩
              · have hqI : ¬ (q : Int) < (R.length : Int) := by omega
                have HEX := hidIt (beh_exit HI.out (.inl (by omega)))
                go_wp2_with fail
                go_meet
                case rel => exact ⟨q, n, rfl, rfl, hq, hn0, hn9, HEX.out, HBQ.out⟩
          case rest =>
            obtain ⟨q, n, rfl, rfl, hq, hn0, hn9, HBE, HBC⟩ := hcut
            replace HRS := hidIt (HRS.out.ext HBC.out)
            have HRW := hidIt (((ext_trans HBO7.out HBC.out).block _ (Array.getElem?_eq_some_iff.1 HR1.out).1).trans HR1.out)
            replace HBO : Hid (Below w1.heap.size w1 wc) := ext_trans HBO7.out HBC.out
            replace HBN : Hid (Below w.heap.size w wc) := ext_trans HBN7.out HBC.out
            clear HB7 HBO7 HBN7 HBC
            by_cases hq0 : q = 0
            · subst hq0
              have HX7 : Hid (dAmg reg (if (dBeh R).2.length < R.length then dTms cnt (dBeh R).1 else cnt) (dBeh R).2 2 (dTls o) = dAmg reg cnt R 2 (dTls o)) := by unfold Hid; rw [HBE.out]; simp
              rw [HX7.out] at HD
              clear HX7 HBE
              generalize hx8 : dAmg reg cnt R 2 (dTls o) = x8 at HD
              obtain ⟨⟨d0, d1, d2, d3, d4⟩, s9⟩ := x8
              have HX8 := hidIt hx8
              have HX9 : Hid ((if s9 = 1 then ((⟨d0, d1, d2, d3, d4⟩ : Cm), s9) else dOpr reg cnt l (if s9 = 0 then 0 else s) ((dOpl sl).drop (p + 1))) = X) := HD.out
              clear hx8 HD
              obtain ⟨⟨c0, c1, c2, cb⟩, _, _, _, HO4⟩ := HW.out wc HBN.out
              obtain ⟨tg, u, zs, rfl, hu, HUZ, HUM⟩ := HTO.out wc HO4
              obtain ⟨ua, un, uc, rfl⟩ := HUZ.form
              have HSS : Hid (∀ W, Below wc.heap.size wc W → W.cell? ⟨b, 2, none⟩ = some (.slice (some ⟨tg, 0, none⟩) (dOpl sl).length tc) ∧ W.cell? ⟨tg, p, none⟩ = some (.slice ua un uc)) := fun W hW => ⟨(hW.cell (p := ⟨b, 2, none⟩) cb).trans c2, (hW.cell (p := ⟨tg, p, none⟩) (cell_lt hu)).trans hu⟩
              have HUZ := hidIt HUZ
              have HUM := hidIt HUM
              have HU1 : Hid (∀ r ∈ dTls o, r.ks.length ≤ 100) := fun r hr => by have h := List.all_eq_true.1 tls_ks o HOX.out; have := List.all_eq_true.1 h r hr; simpa using this
              have HU2 : Hid ((dTls o).length ≤ 1000) := by have h := List.all_eq_true.1 rows_len.2.2 o HOX.out; unfold Hid; simpa using h
              have HR9 := HRS
              go_upto_region 22 with fail
              clear c0 c1 c2 cb hu HO4
              refine wp_region_held_drew (S := fun w' => w'.cell? ⟨b, 2, none⟩ = some (.slice (some ⟨tg, 0, none⟩) (dOpl sl).length tc) ∧ w'.cell? ⟨tg, p, none⟩ = some (.slice ua un uc)) (by kernel_rfl) (by first | exact HSS.out _ (Below.refl _ _) | exact HSS.out _ (Below.refl _ _).drew) (fun hHeld => ?_)
              refine wpAnyH_take (i := 0) (oi := _) (v := ?_) rfl (by kernel_rfl) (by kernel_rfl) (by kernel_rfl) (fun _ _ _ h => h) (Or.inl ⟨by rfl, ?_⟩) (by assumption) ?_
              rotate_left 1
              · intro wq hSw; (try dsimp only at hSw); go_simp; try (with_reducible rfl)
              try simp only [Act.put, List.getElem_toArray, List.getElem_cons_zero, List.setIfInBounds_toArray, List.set_cons_zero, List.set_cons_succ]
              refine wpAnyH_take (i := 1) (oi := _) (v := ?_) rfl (by kernel_rfl) (by kernel_rfl) (by kernel_rfl) (fun _ _ _ h => h) (Or.inl ⟨by rfl, ?_⟩) (by assumption) ?_
              rotate_left 1
              · intro wq hSw; (try dsimp only at hSw); go_simp; try (with_reducible rfl)
              try simp only [Act.put, List.getElem_toArray, List.getElem_cons_succ, List.getElem_cons_zero, List.setIfInBounds_toArray, List.set_cons_zero, List.set_cons_succ]
              refine wpAnyH_take (i := 2) (oi := _) (v := ?_) rfl (by kernel_rfl) (by kernel_rfl) (by kernel_rfl) (fun _ _ _ h => h) (Or.inl ⟨by rfl, ?_⟩) (by assumption) ?_
              rotate_left 1
              · intro wq hSw; (try dsimp only at hSw); go_simp; try (with_reducible rfl)
              try simp only [Act.put, List.getElem_toArray, List.getElem_cons_succ, List.getElem_cons_zero, List.setIfInBounds_toArray, List.set_cons_zero, List.set_cons_succ]
              refine wpAnyH_take (i := 3) (oi := _) (v := ?_) rfl (by kernel_rfl) (by kernel_rfl) (by kernel_rfl) (fun _ _ _ h => h) (Or.inl ⟨by rfl, ?_⟩) (by assumption) ?_
              rotate_left 1
              · intro wq hSw; (try dsimp only at hSw); go_simp; try (with_reducible rfl)
              try simp only [Act.put, List.getElem_toArray, List.getElem_cons_succ, List.getElem_cons_zero, List.setIfInBounds_toArray, List.set_cons_zero, List.set_cons_succ]
              refine wpAnyH_take (i := 4) (oi := _) (v := ?_) rfl (by kernel_rfl) (by kernel_rfl) (by kernel_rfl) (fun _ _ _ h => h) (Or.inl ⟨by rfl, ?_⟩) (by assumption) ?_
              rotate_left 1
              · intro wq hSw; (try dsimp only at hSw); go_simp; try (with_reducible rfl)
              try simp only [Act.put, List.getElem_toArray, List.getElem_cons_succ, List.getElem_cons_zero, List.setIfInBounds_toArray, List.set_cons_zero, List.set_cons_succ]
              refine wpAnyH_take (i := 5) (oi := _) (v := ?_) rfl (by kernel_rfl) (by kernel_rfl) (by kernel_rfl) (fun _ _ _ h => h) (Or.inl ⟨by rfl, ?_⟩) (by assumption) ?_
              rotate_left 1
              · intro wq hSw; (try dsimp only at hSw); go_simp; try (with_reducible rfl)
              try simp only [Act.put, List.getElem_toArray, List.getElem_cons_succ, List.getElem_cons_zero, List.setIfInBounds_toArray, List.set_cons_zero, List.set_cons_succ]
              refine wpAnyH_take (i := 6) (oi := _) (v := ?_) rfl (by kernel_rfl) (by kernel_rfl) (by kernel_rfl) (fun _ _ _ h => h) (Or.inl ⟨by rfl, ?_⟩) (by assumption) ?_
              rotate_left 1
              · intro wq hSw; (try dsimp only at hSw); go_simp; try (with_reducible rfl)
              try simp only [Act.put, List.getElem_toArray, List.getElem_cons_succ, List.getElem_cons_zero, List.setIfInBounds_toArray, List.set_cons_zero, List.set_cons_succ]
              refine wpAnyH_take (i := 7) (oi := _) (v := ?_) rfl (by kernel_rfl) (by kernel_rfl) (by kernel_rfl) (fun _ _ _ h => h) (Or.inl ⟨by rfl, ?_⟩) (by assumption) ?_
              rotate_left 1
              · intro wq hSw; (try dsimp only at hSw); go_simp; try (with_reducible rfl)
              try simp only [Act.put, List.getElem_toArray, List.getElem_cons_succ, List.getElem_cons_zero, List.setIfInBounds_toArray, List.set_cons_zero, List.set_cons_succ]
              refine wpAnyH_take (i := 8) (oi := _) (v := ?_) rfl (by kernel_rfl) (by kernel_rfl) (by kernel_rfl) (fun _ _ _ h => h) (Or.inl ⟨by rfl, ?_⟩) (by assumption) ?_
              rotate_left 1
              · intro wq hSw; (try dsimp only at hSw); go_simp; try (with_reducible rfl)
              try simp only [Act.put, List.getElem_toArray, List.getElem_cons_succ, List.getElem_cons_zero, List.setIfInBounds_toArray, List.set_cons_zero, List.set_cons_succ]
              refine wpAnyH_take (i := 9) (oi := _) (v := ?_) rfl (by kernel_rfl) (by kernel_rfl) (by kernel_rfl) (fun _ _ _ h => h) (Or.inl ⟨by rfl, ?_⟩) (by assumption) ?_
              rotate_left 1
              · intro wq hSw; (try dsimp only at hSw); go_simp; try (with_reducible rfl)
              try simp only [Act.put, List.getElem_toArray, List.getElem_cons_succ, List.getElem_cons_zero, List.setIfInBounds_toArray, List.set_cons_zero, List.set_cons_succ]
              refine wpAnyH_take (i := 10) (oi := _) (v := ?_) rfl (by kernel_rfl) (by kernel_rfl) (by kernel_rfl) (fun _ _ _ h => h) (Or.inl ⟨by rfl, ?_⟩) (by assumption) ?_
              rotate_left 1
              · intro wq hSw; (try dsimp only at hSw); go_simp; try (with_reducible rfl)
              try simp only [Act.put, List.getElem_toArray, List.getElem_cons_succ, List.getElem_cons_zero, List.setIfInBounds_toArray, List.set_cons_zero, List.set_cons_succ]
              refine wpAnyH_take (i := 11) (oi := _) (v := ?_) rfl (by kernel_rfl) (by kernel_rfl) (by kernel_rfl) (fun _ _ _ h => h) (Or.inl ⟨by rfl, ?_⟩) (by assumption) ?_
              rotate_left 1
              · intro wq hSw; (try dsimp only at hSw); go_simp; try (with_reducible rfl)
              try simp only [Act.put, List.getElem_toArray, List.getElem_cons_succ, List.getElem_cons_zero, List.setIfInBounds_toArray, List.set_cons_zero, List.set_cons_succ]
              refine wpAnyH_ready (rs := [12, 16]) (by kernel_rfl) (by simp) ?_
              refine (AllReadyH.cons (o := _) rfl (fun K hK => ?_) (AllReadyH.cons (o := _) rfl (fun K hK => ?_) AllReadyH.nil))
              · skip
                go_simp
                (first | refine (among_of reg cnt (HUZ.out.ext (Below.refl _ _)) HUM.out (HR9.out.ext (Below.refl _ _)) HU1.out HU2.out).mono ?_ | refine (among_of reg cnt (HUZ.out.ext (Below.refl _ _).drew) HUM.out (HR9.out.ext (Below.refl _ _).drew) HU1.out HU2.out).mono ?_); rintro e y9 ⟨rfl, hb9⟩; (try dsimp only); have HB9 : Hid (Below wc.heap.size wc y9) := (by first | exact ext_trans (Below.refl _ _) hb9 | exact ext_trans (Below.refl _ _).drew hb9); clear hb9; rw [HX8.out]; (try dsimp only)
                refine hK.out _ _ ?_ (fun hHeld => ?_)
                · exact HSS.out _ HB9.out
                clear hK K
                try simp only [Act.put, List.getElem_toArray, List.getElem_cons_succ, List.getElem_cons_zero, List.setIfInBounds_toArray, List.set_cons_zero, List.set_cons_succ]
                refine wpAnyH_take (i := 13) (oi := _) (v := ?_) rfl (by kernel_rfl) (by kernel_rfl) (by kernel_rfl) (fun _ _ _ h => h) (Or.inl ⟨by rfl, ?_⟩) (by assumption) ?_
                rotate_left 1
                · intro wq hSw; (try dsimp only at hSw); go_simp; try (with_reducible rfl)
                try simp only [Act.put, List.getElem_toArray, List.getElem_cons_succ, List.getElem_cons_zero, List.setIfInBounds_toArray, List.set_cons_zero, List.set_cons_succ]
                refine wpAnyH_take (i := 14) (oi := _) (v := ?_) rfl (by kernel_rfl) (by kernel_rfl) (by kernel_rfl) (fun _ _ _ h => h) (Or.inl ⟨by rfl, ?_⟩) (by assumption) ?_
                rotate_left 1
                · intro wq hSw; (try dsimp only at hSw); go_simp; try (with_reducible rfl)
                try simp only [Act.put, List.getElem_toArray, List.getElem_cons_succ, List.getElem_cons_zero, List.setIfInBounds_toArray, List.set_cons_zero, List.set_cons_succ]
                refine wpAnyH_take (i := 15) (oi := _) (v := ?_) rfl (by kernel_rfl) (by kernel_rfl) (by kernel_rfl) (fun _ _ _ h => h) (Or.inl ⟨by rfl, ?_⟩) (by assumption) ?_
                rotate_left 1
                · intro wq hSw; (try dsimp only at hSw); go_simp; try (with_reducible rfl)
                try simp only [Act.put, List.getElem_toArray, List.getElem_cons_succ, List.getElem_cons_zero, List.setIfInBounds_toArray, List.set_cons_zero, List.set_cons_succ]
                refine wpAnyH_ready (rs := [16]) (by kernel_rfl) (by simp) ?_
                refine AllReadyH.cons (o := _) rfl (fun K hK => ?_) AllReadyH.nil
                go_simp
                refine hK.out _ _ ?_ (fun hHeld => ?_)
                · exact HSS.out _ (ext_alloc HB9.out _)
                clear hK K
                try simp only [Act.put, List.getElem_toArray, List.getElem_cons_succ, List.getElem_cons_zero, List.setIfInBounds_toArray, List.set_cons_zero, List.set_cons_succ]
                refine wpAnyH_ready (rs := [17]) (by kernel_rfl) (by simp) ?_
                refine AllReadyH.cons (o := _) rfl (fun K hK => ?_) AllReadyH.nil
                go_simp
                refine hK.out _ _ ?_ (fun hHeld => ?_)
                · exact HSS.out _ (ext_alloc HB9.out _)
                clear hK K
                try simp only [Act.put, List.getElem_toArray, List.getElem_cons_succ, List.getElem_cons_zero, List.setIfInBounds_toArray, List.set_cons_zero, List.set_cons_succ]
                refine wpAnyH_take (i := 18) (oi := _) (v := ?_) rfl (by kernel_rfl) (by kernel_rfl) (by kernel_rfl) (fun _ _ _ h => h) (Or.inl ⟨by rfl, ?_⟩) (by assumption) ?_
                rotate_left 1
                · intro wq hSw; (try dsimp only at hSw); go_simp; try (with_reducible rfl)
                try simp only [Act.put, List.getElem_toArray, List.getElem_cons_succ, List.getElem_cons_zero, List.setIfInBounds_toArray, List.set_cons_zero, List.set_cons_succ]
                refine wpAnyH_done (by kernel_rfl) ?_ _
                have HC5 : Hid ((y9.alloc (.cells #[.int .i64 d0, .int .i64 d1, .int .i64 d2, .int .i64 d3, .int .i64 d4] 33)).heap[y9.heap.size]? = some (.cells #[.int .i64 d0, .int .i64 d1, .int .i64 d2, .int .i64 d3, .int .i64 d4] 33 (0, 0))) := heap_alloc_new _ _
                have HB5 : Hid (Below wc.heap.size wc (y9.alloc (.cells #[.int .i64 d0, .int .i64 d1, .int .i64 d2, .int .i64 d3, .int .i64 d4] 33))) := ext_alloc HB9.out _
                clear HB9
                go_upto_region 23 with fail
                generalize (y9.alloc (.cells #[.int .i64 d0, .int .i64 d1, .int .i64 d2, .int .i64 d3, .int .i64 d4] 33)) = w5 at HC5 HB5 ⊢
                generalize y9.heap.size = g5 at HC5 ⊢
                obtain ⟨_, f0, f1, f2, f3, f4, ff⟩ := cells5 HC5.out
                by_cases h1 : s9 = 1
                · subst h1
                  rw [if_pos rfl] at HX9
                  have HRZ := hidIt ((HB5.out.block _ (Array.getElem?_eq_some_iff.1 HRW.out).1).trans HRW.out)
                  obtain ⟨_, r0, r1, r2, r3, r4, rf⟩ := cells5 HRZ.out
                  have HP := hidIt (put5 HRZ.out (.int .i64 d0) (.int .i64 d1) (.int .i64 d2) (.int .i64 d3) (.int .i64 d4))
                  go_wp2_with fail
                  refine bodyPost_ret (v := .tuple #[.agg #[.int .i64 d0, .int .i64 d1, .int .i64 d2, .int .i64 d3, .int .i64 d4], .int .i64 1]) (by simp [results, Tryz.results48, go_sem, r0, r1, r2, r3, r4]) rfl ⟨by rw [← HX9.out], ?_⟩
                  exact below_put (ext_trans HBN.out HB5.out) (Nat.le_trans HBN.out.size HB5.out.size) HP.out.2 (Nat.le_refl _)
                · have h1b : (s9 == 1) = false := by simpa using h1
                  rw [if_neg h1] at HX9
                  by_cases h0 : s9 = 0
                  · subst h0
                    rw [if_pos rfl] at HX9
                    go_wp2_with fail
                    go_roundw
                    case rel => exact ⟨p + 1, 0, by omega, by go_num, rfl, HX9.out, ext_trans HBO.out HB5.out⟩
                    case measure => simp [RowKit.intOf]; omega
                  · have h0b : (s9 == 0) = false := by simpa using h0
                    rw [if_neg h0] at HX9
                    clear h1 h0
                    go_wp2_with fail
                    go_roundw
                    case rel => exact ⟨p + 1, s, by omega, by go_num, rfl, HX9.out, ext_trans HBO.out HB5.out⟩
                    case measure => simp [RowKit.intOf]; omega
              · skip
                go_simp
                refine hK.out _ _ ?_ (fun hHeld => ?_)
                · first | exact HSS.out _ (ext_alloc (Below.refl _ _) _) | exact HSS.out _ (ext_alloc (Below.refl _ _).drew _) | exact HSS.out _ (ext_alloc (Below.refl _ _) _).drew
                clear hK K
                try simp only [Act.put, List.getElem_toArray, List.getElem_cons_succ, List.getElem_cons_zero, List.setIfInBounds_toArray, List.set_cons_zero, List.set_cons_succ]
                refine wpAnyH_ready (rs := [12]) (by kernel_rfl) (by simp) ?_
                refine AllReadyH.cons (o := _) rfl (fun K hK => ?_) AllReadyH.nil
                go_simp
                (first | refine (among_of reg cnt (HUZ.out.ext (ext_alloc (Below.refl _ _) _)) HUM.out (HR9.out.ext (ext_alloc (Below.refl _ _) _)) HU1.out HU2.out).mono ?_ | refine (among_of reg cnt (HUZ.out.ext (ext_alloc (Below.refl _ _).drew _)) HUM.out (HR9.out.ext (ext_alloc (Below.refl _ _).drew _)) HU1.out HU2.out).mono ?_ | refine (among_of reg cnt (HUZ.out.ext (ext_alloc (Below.refl _ _) _).drew) HUM.out (HR9.out.ext (ext_alloc (Below.refl _ _) _).drew) HU1.out HU2.out).mono ?_); rintro e y9 ⟨rfl, hb9⟩; (try dsimp only); have HB9 : Hid (Below wc.heap.size wc y9) := (by first | exact ext_trans (ext_alloc (Below.refl _ _) _) hb9 | exact ext_trans (ext_alloc (Below.refl _ _).drew _) hb9 | exact ext_trans (ext_alloc (Below.refl _ _) _).drew hb9); have HZ9 : Hid (y9.heap[wc.heap.size]? = some (.cells #[.int .i64 0, .int .i64 0, .int .i64 0, .int .i64 0, .int .i64 0] 33 (0, 0))) := (hb9.block _ (by simp)).trans (heap_alloc_new _ _); obtain ⟨_, f0, f1, f2, f3, f4, ff⟩ := cells5 HZ9.out; clear hb9; rw [HX8.out]; (try dsimp only)
                refine hK.out _ _ ?_ (fun hHeld => ?_)
                · exact HSS.out _ HB9.out
                clear hK K
                try simp only [Act.put, List.getElem_toArray, List.getElem_cons_succ, List.getElem_cons_zero, List.setIfInBounds_toArray, List.set_cons_zero, List.set_cons_succ]
                refine wpAnyH_take (i := 13) (oi := _) (v := ?_) rfl (by kernel_rfl) (by kernel_rfl) (by kernel_rfl) (fun _ _ _ h => h) (Or.inl ⟨by rfl, ?_⟩) (by assumption) ?_
                rotate_left 1
                · intro wq hSw; (try dsimp only at hSw); go_simp; try (with_reducible rfl)
                try simp only [Act.put, List.getElem_toArray, List.getElem_cons_succ, List.getElem_cons_zero, List.setIfInBounds_toArray, List.set_cons_zero, List.set_cons_succ]
                refine wpAnyH_take (i := 14) (oi := _) (v := ?_) rfl (by kernel_rfl) (by kernel_rfl) (by kernel_rfl) (fun _ _ _ h => h) (Or.inl ⟨by rfl, ?_⟩) (by assumption) ?_
                rotate_left 1
                · intro wq hSw; (try dsimp only at hSw); go_simp; try (with_reducible rfl)
                try simp only [Act.put, List.getElem_toArray, List.getElem_cons_succ, List.getElem_cons_zero, List.setIfInBounds_toArray, List.set_cons_zero, List.set_cons_succ]
                refine wpAnyH_take (i := 15) (oi := _) (v := ?_) rfl (by kernel_rfl) (by kernel_rfl) (by kernel_rfl) (fun _ _ _ h => h) (Or.inl ⟨by rfl, ?_⟩) (by assumption) ?_
                rotate_left 1
                · intro wq hSw; (try dsimp only at hSw); go_simp; try (with_reducible rfl)
                try simp only [Act.put, List.getElem_toArray, List.getElem_cons_succ, List.getElem_cons_zero, List.setIfInBounds_toArray, List.set_cons_zero, List.set_cons_succ]
                refine wpAnyH_ready (rs := [17]) (by kernel_rfl) (by simp) ?_
                refine AllReadyH.cons (o := _) rfl (fun K hK => ?_) AllReadyH.nil
                go_simp
                refine hK.out _ _ ?_ (fun hHeld => ?_)
                · exact HSS.out _ (below_put HB9.out HB9.out.size (put5 HZ9.out (.int .i64 d0) (.int .i64 d1) (.int .i64 d2) (.int .i64 d3) (.int .i64 d4)).2 (Nat.le_refl _))
                clear hK K
                try simp only [Act.put, List.getElem_toArray, List.getElem_cons_succ, List.getElem_cons_zero, List.setIfInBounds_toArray, List.set_cons_zero, List.set_cons_succ]
                refine wpAnyH_take (i := 18) (oi := _) (v := ?_) rfl (by kernel_rfl) (by kernel_rfl) (by kernel_rfl) (fun _ _ _ h => h) (Or.inl ⟨by rfl, ?_⟩) (by assumption) ?_
                rotate_left 1
                · intro wq hSw; (try dsimp only at hSw); go_simp; try (with_reducible rfl)
                try simp only [Act.put, List.getElem_toArray, List.getElem_cons_succ, List.getElem_cons_zero, List.setIfInBounds_toArray, List.set_cons_zero, List.set_cons_succ]
                refine wpAnyH_done (by kernel_rfl) ?_ _
                have HC5 := hidIt (put5 HZ9.out (.int .i64 d0) (.int .i64 d1) (.int .i64 d2) (.int .i64 d3) (.int .i64 d4)).1
                have HB5 := hidIt (below_put HB9.out HB9.out.size (put5 HZ9.out (.int .i64 d0) (.int .i64 d1) (.int .i64 d2) (.int .i64 d3) (.int .i64 d4)).2 (Nat.le_refl _))
                clear HB9 HZ9 f0 f1 f2 f3 f4 ff
                go_upto_region 23 with fail
                generalize (((((y9.setCell ⟨wc.heap.size, 0, none⟩ (.int .i64 d0)).setCell ⟨wc.heap.size, 1, none⟩ (.int .i64 d1)).setCell ⟨wc.heap.size, 2, none⟩ (.int .i64 d2)).setCell ⟨wc.heap.size, 3, none⟩ (.int .i64 d3)).setCell ⟨wc.heap.size, 4, none⟩ (.int .i64 d4)) = w5 at HC5 HB5 ⊢
                generalize wc.heap.size = g5 at HC5 ⊢
                obtain ⟨_, f0, f1, f2, f3, f4, ff⟩ := cells5 HC5.out
                by_cases h1 : s9 = 1
                · subst h1
                  rw [if_pos rfl] at HX9
                  have HRZ := hidIt ((HB5.out.block _ (Array.getElem?_eq_some_iff.1 HRW.out).1).trans HRW.out)
                  obtain ⟨_, r0, r1, r2, r3, r4, rf⟩ := cells5 HRZ.out
                  have HP := hidIt (put5 HRZ.out (.int .i64 d0) (.int .i64 d1) (.int .i64 d2) (.int .i64 d3) (.int .i64 d4))
                  go_wp2_with fail
                  refine bodyPost_ret (v := .tuple #[.agg #[.int .i64 d0, .int .i64 d1, .int .i64 d2, .int .i64 d3, .int .i64 d4], .int .i64 1]) (by simp [results, Tryz.results48, go_sem, r0, r1, r2, r3, r4]) rfl ⟨by rw [← HX9.out], ?_⟩
                  exact below_put (ext_trans HBN.out HB5.out) (Nat.le_trans HBN.out.size HB5.out.size) HP.out.2 (Nat.le_refl _)
                · have h1b : (s9 == 1) = false := by simpa using h1
                  rw [if_neg h1] at HX9
                  by_cases h0 : s9 = 0
                  · subst h0
                    rw [if_pos rfl] at HX9
                    go_wp2_with fail
                    go_roundw
                    case rel => exact ⟨p + 1, 0, by omega, by go_num, rfl, HX9.out, ext_trans HBO.out HB5.out⟩
                    case measure => simp [RowKit.intOf]; omega
                  · have h0b : (s9 == 0) = false := by simpa using h0
                    rw [if_neg h0] at HX9
                    clear h1 h0
                    go_wp2_with fail
                    go_roundw
                    case rel => exact ⟨p + 1, s, by omega, by go_num, rfl, HX9.out, ext_trans HBO.out HB5.out⟩
                    case measure => simp [RowKit.intOf]; omega
            · skip
              have HX7 : Hid (dAmg reg (if (dBeh R).2.length < R.length then dTms cnt (dBeh R).1 else cnt) (dBeh R).2 2 (dTls o) = dAmg reg (dTms cnt n) (R.drop q) 2 (dTls o)) := by unfold Hid; rw [HBE.out]; simp only [List.length_drop]; rw [if_pos (by omega)]
              have HTI := hidIt (fun y => r_times_any cnt n y HC.out ⟨hn0, hn9⟩)
              generalize dTms cnt n = fl at HX7 HTI
              have hqI : (q : Int) > 0 := by omega
              rw [HX7.out] at HD
              clear HX7 HBE
              generalize hx8 : dAmg reg fl (R.drop q) 2 (dTls o) = x8 at HD
              obtain ⟨⟨d0, d1, d2, d3, d4⟩, s9⟩ := x8
              have HX8 := hidIt hx8
              have HX9 : Hid ((if s9 = 1 then ((⟨d0, d1, d2, d3, d4⟩ : Cm), s9) else dOpr reg cnt l (if s9 = 0 then 0 else s) ((dOpl sl).drop (p + 1))) = X) := HD.out
              clear hx8 HD
              obtain ⟨⟨c0, c1, c2, cb⟩, _, _, _, HO4⟩ := HW.out wc HBN.out
              obtain ⟨tg, u, zs, rfl, hu, HUZ, HUM⟩ := HTO.out wc HO4
              obtain ⟨ua, un, uc, rfl⟩ := HUZ.form
              have HSS : Hid (∀ W, Below wc.heap.size wc W → W.cell? ⟨b, 2, none⟩ = some (.slice (some ⟨tg, 0, none⟩) (dOpl sl).length tc) ∧ W.cell? ⟨tg, p, none⟩ = some (.slice ua un uc)) := fun W hW => ⟨(hW.cell (p := ⟨b, 2, none⟩) cb).trans c2, (hW.cell (p := ⟨tg, p, none⟩) (cell_lt hu)).trans hu⟩
              have HUZ := hidIt HUZ
              have HUM := hidIt HUM
              have HU1 : Hid (∀ r ∈ dTls o, r.ks.length ≤ 100) := fun r hr => by have h := List.all_eq_true.1 tls_ks o HOX.out; have := List.all_eq_true.1 h r hr; simpa using this
              have HU2 : Hid ((dTls o).length ≤ 1000) := by have h := List.all_eq_true.1 rows_len.2.2 o HOX.out; unfold Hid; simpa using h
              have HR9 := hidIt (HRS.out.restI (k := q) (by omega))
              obtain ⟨lo3, hlo3⟩ := if_some (b := lb) (x := lo2) (y := lo2 + q) (p := lc2 = q)
              rw [hlo3] at HR9
              go_upto_region 22 with (go_at_call 64; refine (HTI.out _).mono ?_; rintro e y ⟨rfl, hy⟩; rw [hy]; clear hy; (try dsimp only))
              clear c0 c1 c2 cb hu HO4
              refine wp_region_held_drew (S := fun w' => w'.cell? ⟨b, 2, none⟩ = some (.slice (some ⟨tg, 0, none⟩) (dOpl sl).length tc) ∧ w'.cell? ⟨tg, p, none⟩ = some (.slice ua un uc)) (by kernel_rfl) (by first | exact HSS.out _ (Below.refl _ _) | exact HSS.out _ (Below.refl _ _).drew) (fun hHeld => ?_)
              refine wpAnyH_take (i := 0) (oi := _) (v := ?_) rfl (by kernel_rfl) (by kernel_rfl) (by kernel_rfl) (fun _ _ _ h => h) (Or.inl ⟨by rfl, ?_⟩) (by assumption) ?_
              rotate_left 1
              · intro wq hSw; (try dsimp only at hSw); go_simp; try (with_reducible rfl)
              try simp only [Act.put, List.getElem_toArray, List.getElem_cons_zero, List.setIfInBounds_toArray, List.set_cons_zero, List.set_cons_succ]
              refine wpAnyH_take (i := 1) (oi := _) (v := ?_) rfl (by kernel_rfl) (by kernel_rfl) (by kernel_rfl) (fun _ _ _ h => h) (Or.inl ⟨by rfl, ?_⟩) (by assumption) ?_
              rotate_left 1
              · intro wq hSw; (try dsimp only at hSw); go_simp; try (with_reducible rfl)
              try simp only [Act.put, List.getElem_toArray, List.getElem_cons_succ, List.getElem_cons_zero, List.setIfInBounds_toArray, List.set_cons_zero, List.set_cons_succ]
              refine wpAnyH_take (i := 2) (oi := _) (v := ?_) rfl (by kernel_rfl) (by kernel_rfl) (by kernel_rfl) (fun _ _ _ h => h) (Or.inl ⟨by rfl, ?_⟩) (by assumption) ?_
              rotate_left 1
              · intro wq hSw; (try dsimp only at hSw); go_simp; try (with_reducible rfl)
              try simp only [Act.put, List.getElem_toArray, List.getElem_cons_succ, List.getElem_cons_zero, List.setIfInBounds_toArray, List.set_cons_zero, List.set_cons_succ]
              refine wpAnyH_take (i := 3) (oi := _) (v := ?_) rfl (by kernel_rfl) (by kernel_rfl) (by kernel_rfl) (fun _ _ _ h => h) (Or.inl ⟨by rfl, ?_⟩) (by assumption) ?_
              rotate_left 1
              · intro wq hSw; (try dsimp only at hSw); go_simp; try (with_reducible rfl)
              try simp only [Act.put, List.getElem_toArray, List.getElem_cons_succ, List.getElem_cons_zero, List.setIfInBounds_toArray, List.set_cons_zero, List.set_cons_succ]
              refine wpAnyH_take (i := 4) (oi := _) (v := ?_) rfl (by kernel_rfl) (by kernel_rfl) (by kernel_rfl) (fun _ _ _ h => h) (Or.inl ⟨by rfl, ?_⟩) (by assumption) ?_
              rotate_left 1
              · intro wq hSw; (try dsimp only at hSw); go_simp; try (with_reducible rfl)
              try simp only [Act.put, List.getElem_toArray, List.getElem_cons_succ, List.getElem_cons_zero, List.setIfInBounds_toArray, List.set_cons_zero, List.set_cons_succ]
              refine wpAnyH_take (i := 5) (oi := _) (v := ?_) rfl (by kernel_rfl) (by kernel_rfl) (by kernel_rfl) (fun _ _ _ h => h) (Or.inl ⟨by rfl, ?_⟩) (by assumption) ?_
              rotate_left 1
              · intro wq hSw; (try dsimp only at hSw); go_simp; try (with_reducible rfl)
              try simp only [Act.put, List.getElem_toArray, List.getElem_cons_succ, List.getElem_cons_zero, List.setIfInBounds_toArray, List.set_cons_zero, List.set_cons_succ]
              refine wpAnyH_take (i := 6) (oi := _) (v := ?_) rfl (by kernel_rfl) (by kernel_rfl) (by kernel_rfl) (fun _ _ _ h => h) (Or.inl ⟨by rfl, ?_⟩) (by assumption) ?_
              rotate_left 1
              · intro wq hSw; (try dsimp only at hSw); go_simp; try (with_reducible rfl)
              try simp only [Act.put, List.getElem_toArray, List.getElem_cons_succ, List.getElem_cons_zero, List.setIfInBounds_toArray, List.set_cons_zero, List.set_cons_succ]
              refine wpAnyH_take (i := 7) (oi := _) (v := ?_) rfl (by kernel_rfl) (by kernel_rfl) (by kernel_rfl) (fun _ _ _ h => h) (Or.inl ⟨by rfl, ?_⟩) (by assumption) ?_
              rotate_left 1
              · intro wq hSw; (try dsimp only at hSw); go_simp; try (with_reducible rfl)
              try simp only [Act.put, List.getElem_toArray, List.getElem_cons_succ, List.getElem_cons_zero, List.setIfInBounds_toArray, List.set_cons_zero, List.set_cons_succ]
              refine wpAnyH_take (i := 8) (oi := _) (v := ?_) rfl (by kernel_rfl) (by kernel_rfl) (by kernel_rfl) (fun _ _ _ h => h) (Or.inl ⟨by rfl, ?_⟩) (by assumption) ?_
              rotate_left 1
              · intro wq hSw; (try dsimp only at hSw); go_simp; try (with_reducible rfl)
              try simp only [Act.put, List.getElem_toArray, List.getElem_cons_succ, List.getElem_cons_zero, List.setIfInBounds_toArray, List.set_cons_zero, List.set_cons_succ]
              refine wpAnyH_take (i := 9) (oi := _) (v := ?_) rfl (by kernel_rfl) (by kernel_rfl) (by kernel_rfl) (fun _ _ _ h => h) (Or.inl ⟨by rfl, ?_⟩) (by assumption) ?_
              rotate_left 1
              · intro wq hSw; (try dsimp only at hSw); go_simp; try (with_reducible rfl)
              try simp only [Act.put, List.getElem_toArray, List.getElem_cons_succ, List.getElem_cons_zero, List.setIfInBounds_toArray, List.set_cons_zero, List.set_cons_succ]
              refine wpAnyH_take (i := 10) (oi := _) (v := ?_) rfl (by kernel_rfl) (by kernel_rfl) (by kernel_rfl) (fun _ _ _ h => h) (Or.inl ⟨by rfl, ?_⟩) (by assumption) ?_
              rotate_left 1
              · intro wq hSw; (try dsimp only at hSw); go_simp; try (with_reducible rfl)
              try simp only [Act.put, List.getElem_toArray, List.getElem_cons_succ, List.getElem_cons_zero, List.setIfInBounds_toArray, List.set_cons_zero, List.set_cons_succ]
              refine wpAnyH_take (i := 11) (oi := _) (v := ?_) rfl (by kernel_rfl) (by kernel_rfl) (by kernel_rfl) (fun _ _ _ h => h) (Or.inl ⟨by rfl, ?_⟩) (by assumption) ?_
              rotate_left 1
              · intro wq hSw; (try dsimp only at hSw); go_simp; try (with_reducible rfl)
              try simp only [Act.put, List.getElem_toArray, List.getElem_cons_succ, List.getElem_cons_zero, List.setIfInBounds_toArray, List.set_cons_zero, List.set_cons_succ]
              refine wpAnyH_ready (rs := [12, 16]) (by kernel_rfl) (by simp) ?_
              refine (AllReadyH.cons (o := _) rfl (fun K hK => ?_) (AllReadyH.cons (o := _) rfl (fun K hK => ?_) AllReadyH.nil))
              · skip
                go_simp
                (first | refine (among_of reg fl (HUZ.out.ext (Below.refl _ _)) HUM.out (HR9.out.ext (Below.refl _ _)) HU1.out HU2.out).mono ?_ | refine (among_of reg fl (HUZ.out.ext (Below.refl _ _).drew) HUM.out (HR9.out.ext (Below.refl _ _).drew) HU1.out HU2.out).mono ?_); rintro e y9 ⟨rfl, hb9⟩; (try dsimp only); have HB9 : Hid (Below wc.heap.size wc y9) := (by first | exact ext_trans (Below.refl _ _) hb9 | exact ext_trans (Below.refl _ _).drew hb9); clear hb9; rw [HX8.out]; (try dsimp only)
                refine hK.out _ _ ?_ (fun hHeld => ?_)
                · exact HSS.out _ HB9.out
                clear hK K
                try simp only [Act.put, List.getElem_toArray, List.getElem_cons_succ, List.getElem_cons_zero, List.setIfInBounds_toArray, List.set_cons_zero, List.set_cons_succ]
                refine wpAnyH_take (i := 13) (oi := _) (v := ?_) rfl (by kernel_rfl) (by kernel_rfl) (by kernel_rfl) (fun _ _ _ h => h) (Or.inl ⟨by rfl, ?_⟩) (by assumption) ?_
                rotate_left 1
                · intro wq hSw; (try dsimp only at hSw); go_simp; try (with_reducible rfl)
                try simp only [Act.put, List.getElem_toArray, List.getElem_cons_succ, List.getElem_cons_zero, List.setIfInBounds_toArray, List.set_cons_zero, List.set_cons_succ]
                refine wpAnyH_take (i := 14) (oi := _) (v := ?_) rfl (by kernel_rfl) (by kernel_rfl) (by kernel_rfl) (fun _ _ _ h => h) (Or.inl ⟨by rfl, ?_⟩) (by assumption) ?_
                rotate_left 1
                · intro wq hSw; (try dsimp only at hSw); go_simp; try (with_reducible rfl)
                try simp only [Act.put, List.getElem_toArray, List.getElem_cons_succ, List.getElem_cons_zero, List.setIfInBounds_toArray, List.set_cons_zero, List.set_cons_succ]
                refine wpAnyH_take (i := 15) (oi := _) (v := ?_) rfl (by kernel_rfl) (by kernel_rfl) (by kernel_rfl) (fun _ _ _ h => h) (Or.inl ⟨by rfl, ?_⟩) (by assumption) ?_
                rotate_left 1
                · intro wq hSw; (try dsimp only at hSw); go_simp; try (with_reducible rfl)
                try simp only [Act.put, List.getElem_toArray, List.getElem_cons_succ, List.getElem_cons_zero, List.setIfInBounds_toArray, List.set_cons_zero, List.set_cons_succ]
                refine wpAnyH_ready (rs := [16]) (by kernel_rfl) (by simp) ?_
                refine AllReadyH.cons (o := _) rfl (fun K hK => ?_) AllReadyH.nil
                go_simp
                refine hK.out _ _ ?_ (fun hHeld => ?_)
                · exact HSS.out _ (ext_alloc HB9.out _)
                clear hK K
                try simp only [Act.put, List.getElem_toArray, List.getElem_cons_succ, List.getElem_cons_zero, List.setIfInBounds_toArray, List.set_cons_zero, List.set_cons_succ]
                refine wpAnyH_ready (rs := [17]) (by kernel_rfl) (by simp) ?_
                refine AllReadyH.cons (o := _) rfl (fun K hK => ?_) AllReadyH.nil
                go_simp
                refine hK.out _ _ ?_ (fun hHeld => ?_)
                · exact HSS.out _ (ext_alloc HB9.out _)
                clear hK K
                try simp only [Act.put, List.getElem_toArray, List.getElem_cons_succ, List.getElem_cons_zero, List.setIfInBounds_toArray, List.set_cons_zero, List.set_cons_succ]
                refine wpAnyH_take (i := 18) (oi := _) (v := ?_) rfl (by kernel_rfl) (by kernel_rfl) (by kernel_rfl) (fun _ _ _ h => h) (Or.inl ⟨by rfl, ?_⟩) (by assumption) ?_
                rotate_left 1
                · intro wq hSw; (try dsimp only at hSw); go_simp; try (with_reducible rfl)
                try simp only [Act.put, List.getElem_toArray, List.getElem_cons_succ, List.getElem_cons_zero, List.setIfInBounds_toArray, List.set_cons_zero, List.set_cons_succ]
                refine wpAnyH_done (by kernel_rfl) ?_ _
                have HC5 : Hid ((y9.alloc (.cells #[.int .i64 d0, .int .i64 d1, .int .i64 d2, .int .i64 d3, .int .i64 d4] 33)).heap[y9.heap.size]? = some (.cells #[.int .i64 d0, .int .i64 d1, .int .i64 d2, .int .i64 d3, .int .i64 d4] 33 (0, 0))) := heap_alloc_new _ _
                have HB5 : Hid (Below wc.heap.size wc (y9.alloc (.cells #[.int .i64 d0, .int .i64 d1, .int .i64 d2, .int .i64 d3, .int .i64 d4] 33))) := ext_alloc HB9.out _
                clear HB9
                go_upto_region 23 with fail
                generalize (y9.alloc (.cells #[.int .i64 d0, .int .i64 d1, .int .i64 d2, .int .i64 d3, .int .i64 d4] 33)) = w5 at HC5 HB5 ⊢
                generalize y9.heap.size = g5 at HC5 ⊢
                obtain ⟨_, f0, f1, f2, f3, f4, ff⟩ := cells5 HC5.out
                by_cases h1 : s9 = 1
                · subst h1
                  rw [if_pos rfl] at HX9
                  have HRZ := hidIt ((HB5.out.block _ (Array.getElem?_eq_some_iff.1 HRW.out).1).trans HRW.out)
                  obtain ⟨_, r0, r1, r2, r3, r4, rf⟩ := cells5 HRZ.out
                  have HP := hidIt (put5 HRZ.out (.int .i64 d0) (.int .i64 d1) (.int .i64 d2) (.int .i64 d3) (.int .i64 d4))
                  go_wp2_with fail
                  refine bodyPost_ret (v := .tuple #[.agg #[.int .i64 d0, .int .i64 d1, .int .i64 d2, .int .i64 d3, .int .i64 d4], .int .i64 1]) (by simp [results, Tryz.results48, go_sem, r0, r1, r2, r3, r4]) rfl ⟨by rw [← HX9.out], ?_⟩
                  exact below_put (ext_trans HBN.out HB5.out) (Nat.le_trans HBN.out.size HB5.out.size) HP.out.2 (Nat.le_refl _)
                · have h1b : (s9 == 1) = false := by simpa using h1
                  rw [if_neg h1] at HX9
                  by_cases h0 : s9 = 0
                  · subst h0
                    rw [if_pos rfl] at HX9
                    go_wp2_with fail
                    go_roundw
                    case rel => exact ⟨p + 1, 0, by omega, by go_num, rfl, HX9.out, ext_trans HBO.out HB5.out⟩
                    case measure => simp [RowKit.intOf]; omega
                  · have h0b : (s9 == 0) = false := by simpa using h0
                    rw [if_neg h0] at HX9
                    clear h1 h0
                    go_wp2_with fail
                    go_roundw
                    case rel => exact ⟨p + 1, s, by omega, by go_num, rfl, HX9.out, ext_trans HBO.out HB5.out⟩
                    case measure => simp [RowKit.intOf]; omega
              · skip
                go_simp
                refine hK.out _ _ ?_ (fun hHeld => ?_)
                · first | exact HSS.out _ (ext_alloc (Below.refl _ _) _) | exact HSS.out _ (ext_alloc (Below.refl _ _).drew _) | exact HSS.out _ (ext_alloc (Below.refl _ _) _).drew
                clear hK K
                try simp only [Act.put, List.getElem_toArray, List.getElem_cons_succ, List.getElem_cons_zero, List.setIfInBounds_toArray, List.set_cons_zero, List.set_cons_succ]
                refine wpAnyH_ready (rs := [12]) (by kernel_rfl) (by simp) ?_
                refine AllReadyH.cons (o := _) rfl (fun K hK => ?_) AllReadyH.nil
                go_simp
                (first | refine (among_of reg fl (HUZ.out.ext (ext_alloc (Below.refl _ _) _)) HUM.out (HR9.out.ext (ext_alloc (Below.refl _ _) _)) HU1.out HU2.out).mono ?_ | refine (among_of reg fl (HUZ.out.ext (ext_alloc (Below.refl _ _).drew _)) HUM.out (HR9.out.ext (ext_alloc (Below.refl _ _).drew _)) HU1.out HU2.out).mono ?_ | refine (among_of reg fl (HUZ.out.ext (ext_alloc (Below.refl _ _) _).drew) HUM.out (HR9.out.ext (ext_alloc (Below.refl _ _) _).drew) HU1.out HU2.out).mono ?_); rintro e y9 ⟨rfl, hb9⟩; (try dsimp only); have HB9 : Hid (Below wc.heap.size wc y9) := (by first | exact ext_trans (ext_alloc (Below.refl _ _) _) hb9 | exact ext_trans (ext_alloc (Below.refl _ _).drew _) hb9 | exact ext_trans (ext_alloc (Below.refl _ _) _).drew hb9); have HZ9 : Hid (y9.heap[wc.heap.size]? = some (.cells #[.int .i64 0, .int .i64 0, .int .i64 0, .int .i64 0, .int .i64 0] 33 (0, 0))) := (hb9.block _ (by simp)).trans (heap_alloc_new _ _); obtain ⟨_, f0, f1, f2, f3, f4, ff⟩ := cells5 HZ9.out; clear hb9; rw [HX8.out]; (try dsimp only)
                refine hK.out _ _ ?_ (fun hHeld => ?_)
                · exact HSS.out _ HB9.out
                clear hK K
                try simp only [Act.put, List.getElem_toArray, List.getElem_cons_succ, List.getElem_cons_zero, List.setIfInBounds_toArray, List.set_cons_zero, List.set_cons_succ]
                refine wpAnyH_take (i := 13) (oi := _) (v := ?_) rfl (by kernel_rfl) (by kernel_rfl) (by kernel_rfl) (fun _ _ _ h => h) (Or.inl ⟨by rfl, ?_⟩) (by assumption) ?_
                rotate_left 1
                · intro wq hSw; (try dsimp only at hSw); go_simp; try (with_reducible rfl)
                try simp only [Act.put, List.getElem_toArray, List.getElem_cons_succ, List.getElem_cons_zero, List.setIfInBounds_toArray, List.set_cons_zero, List.set_cons_succ]
                refine wpAnyH_take (i := 14) (oi := _) (v := ?_) rfl (by kernel_rfl) (by kernel_rfl) (by kernel_rfl) (fun _ _ _ h => h) (Or.inl ⟨by rfl, ?_⟩) (by assumption) ?_
                rotate_left 1
                · intro wq hSw; (try dsimp only at hSw); go_simp; try (with_reducible rfl)
                try simp only [Act.put, List.getElem_toArray, List.getElem_cons_succ, List.getElem_cons_zero, List.setIfInBounds_toArray, List.set_cons_zero, List.set_cons_succ]
                refine wpAnyH_take (i := 15) (oi := _) (v := ?_) rfl (by kernel_rfl) (by kernel_rfl) (by kernel_rfl) (fun _ _ _ h => h) (Or.inl ⟨by rfl, ?_⟩) (by assumption) ?_
                rotate_left 1
                · intro wq hSw; (try dsimp only at hSw); go_simp; try (with_reducible rfl)
                try simp only [Act.put, List.getElem_toArray, List.getElem_cons_succ, List.getElem_cons_zero, List.setIfInBounds_toArray, List.set_cons_zero, List.set_cons_succ]
                refine wpAnyH_ready (rs := [17]) (by kernel_rfl) (by simp) ?_
                refine AllReadyH.cons (o := _) rfl (fun K hK => ?_) AllReadyH.nil
                go_simp
                refine hK.out _ _ ?_ (fun hHeld => ?_)
                · exact HSS.out _ (below_put HB9.out HB9.out.size (put5 HZ9.out (.int .i64 d0) (.int .i64 d1) (.int .i64 d2) (.int .i64 d3) (.int .i64 d4)).2 (Nat.le_refl _))
                clear hK K
                try simp only [Act.put, List.getElem_toArray, List.getElem_cons_succ, List.getElem_cons_zero, List.setIfInBounds_toArray, List.set_cons_zero, List.set_cons_succ]
                refine wpAnyH_take (i := 18) (oi := _) (v := ?_) rfl (by kernel_rfl) (by kernel_rfl) (by kernel_rfl) (fun _ _ _ h => h) (Or.inl ⟨by rfl, ?_⟩) (by assumption) ?_
                rotate_left 1
                · intro wq hSw; (try dsimp only at hSw); go_simp; try (with_reducible rfl)
                try simp only [Act.put, List.getElem_toArray, List.getElem_cons_succ, List.getElem_cons_zero, List.setIfInBounds_toArray, List.set_cons_zero, List.set_cons_succ]
                refine wpAnyH_done (by kernel_rfl) ?_ _
                have HC5 := hidIt (put5 HZ9.out (.int .i64 d0) (.int .i64 d1) (.int .i64 d2) (.int .i64 d3) (.int .i64 d4)).1
                have HB5 := hidIt (below_put HB9.out HB9.out.size (put5 HZ9.out (.int .i64 d0) (.int .i64 d1) (.int .i64 d2) (.int .i64 d3) (.int .i64 d4)).2 (Nat.le_refl _))
                clear HB9 HZ9 f0 f1 f2 f3 f4 ff
                go_upto_region 23 with fail
                generalize (((((y9.setCell ⟨wc.heap.size, 0, none⟩ (.int .i64 d0)).setCell ⟨wc.heap.size, 1, none⟩ (.int .i64 d1)).setCell ⟨wc.heap.size, 2, none⟩ (.int .i64 d2)).setCell ⟨wc.heap.size, 3, none⟩ (.int .i64 d3)).setCell ⟨wc.heap.size, 4, none⟩ (.int .i64 d4)) = w5 at HC5 HB5 ⊢
                generalize wc.heap.size = g5 at HC5 ⊢
                obtain ⟨_, f0, f1, f2, f3, f4, ff⟩ := cells5 HC5.out
                by_cases h1 : s9 = 1
                · subst h1
                  rw [if_pos rfl] at HX9
                  have HRZ := hidIt ((HB5.out.block _ (Array.getElem?_eq_some_iff.1 HRW.out).1).trans HRW.out)
                  obtain ⟨_, r0, r1, r2, r3, r4, rf⟩ := cells5 HRZ.out
                  have HP := hidIt (put5 HRZ.out (.int .i64 d0) (.int .i64 d1) (.int .i64 d2) (.int .i64 d3) (.int .i64 d4))
                  go_wp2_with fail
                  refine bodyPost_ret (v := .tuple #[.agg #[.int .i64 d0, .int .i64 d1, .int .i64 d2, .int .i64 d3, .int .i64 d4], .int .i64 1]) (by simp [results, Tryz.results48, go_sem, r0, r1, r2, r3, r4]) rfl ⟨by rw [← HX9.out], ?_⟩
                  exact below_put (ext_trans HBN.out HB5.out) (Nat.le_trans HBN.out.size HB5.out.size) HP.out.2 (Nat.le_refl _)
                · have h1b : (s9 == 1) = false := by simpa using h1
                  rw [if_neg h1] at HX9
                  by_cases h0 : s9 = 0
                  · subst h0
                    rw [if_pos rfl] at HX9
                    go_wp2_with fail
                    go_roundw
                    case rel => exact ⟨p + 1, 0, by omega, by go_num, rfl, HX9.out, ext_trans HBO.out HB5.out⟩
                    case measure => simp [RowKit.intOf]; omega
                  · have h0b : (s9 == 0) = false := by simpa using h0
                    rw [if_neg h0] at HX9
                    clear h1 h0
                    go_wp2_with fail
                    go_roundw
                    case rel => exact ⟨p + 1, s, by omega, by go_num, rfl, HX9.out, ext_trans HBO.out HB5.out⟩
                    case measure => simp [RowKit.intOf]; omega
        · have hwf : o.ks.isPrefixOf l = false := Bool.eq_false_iff.2 hwh
          rw [hwf]
          rw [if_neg hwh] at HD
          by_cases hpa : l.isPrefixOf o.ks = true
          · rw [hpa]
            rw [if_pos hpa] at HD
            clear hwh hwf hpa
            go_wp2_with fail
            go_roundw
            case rel => exact ⟨p + 1, 0, by omega, by go_num, rfl, HD.out, HBO7.out⟩
            case measure => simp [RowKit.intOf]; omega
          · have hpf : l.isPrefixOf o.ks = false := Bool.eq_false_iff.2 hpa
            rw [hpf]
            rw [if_neg hpa] at HD
            clear hwh hwf hpa hpf
            go_wp2_with fail
            go_roundw
            case rel => exact ⟨p + 1, s, by omega, by go_num, rfl, HD.out, HBO7.out⟩
            case measure => simp [RowKit.intOf]; omega
      · obtain rfl : p = (dOpl sl).length := by omega
        have hge : ¬ ((dOpl sl).length : Int) < ((dOpl sl).length : Int) := by omega
        have HDX : Hid (X = (cmZ, s)) := by
          have := HD.out
          rw [List.drop_of_length_le (Nat.le_refl _), dOpr] at this
          exact this.symm
        have HRZ := hidIt ((HBO.out.block _ (Array.getElem?_eq_some_iff.1 HR1.out).1).trans HR1.out)
        obtain ⟨_, r0, r1, r2, r3, r4, rf⟩ := cells5 HRZ.out
        have HP := hidIt (put5 HRZ.out (.int .i64 0) (.int .i64 0) (.int .i64 0) (.int .i64 0) (.int .i64 0))
        clear HO1 HO2 HO3 HO4
        go_wp2_with fail
        refine bodyPost_ret (v := .tuple #[.agg #[.int .i64 0, .int .i64 0, .int .i64 0, .int .i64 0, .int .i64 0], .int .i64 s]) (by simp [results, Tryz.results48, go_sem, r0, r1, r2, r3, r4]) rfl ⟨by rw [HDX.out]; rfl, ?_⟩
        exact below_put HBN.out HBN.out.size HP.out.2 (Nat.le_refl _)
end Go.Proofs.YtfdceljdhgbkcaaGreatDoor
