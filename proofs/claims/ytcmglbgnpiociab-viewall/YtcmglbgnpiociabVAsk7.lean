/- One ask of Cell. -/
import Derived.Test.YtcmglbgnpiociabVMk
namespace Go.Proofs.Ytcmglbgnpiociab
open Go.RowKit

/-- The list as it is in a turn. -/
def Vw.tn (t : Nat) (zs : List Int) (m : Nat) : Int := if t = 1 then Cl.at zs (zs.length - 1 - m) else if t = 2 then (if Cl.at zs m = 19968 then 97 else 19968) else Cl.at zs m
def Vw.tl (t : Nat) (zs : List Int) : List Int := (List.range zs.length).map (Vw.tn t zs)
theorem Vw.tl_len (t : Nat) (zs : List Int) : (Vw.tl t zs).length = zs.length := by unfold Vw.tl; rw [List.length_map, List.length_range]
theorem Vw.tl_at (t : Nat) (zs : List Int) (m : Nat) (h : m < zs.length) : (Vw.tl t zs)[m]? = some (Vw.tn t zs m) := by unfold Vw.tl; rw [List.getElem?_map, List.getElem?_range h]; rfl
/-- What lies there between two turns, and while a turn is written. -/
def St (w1 : World) (gw N n : Nat) (W : World) : Prop := ∃ cu : Array Value, W.heap[gw]? = some (.cells cu 3 (0, 0)) ∧ cu.size = N ∧ (∀ k, n ≤ k → k < N → cu[k]? = some (.int .i64 (771 + (k : Int)))) ∧ Below w1.heap.size w1 W
structure L3 (w1 : World) (gw gn N : Nat) (zs : List Int) (T : Nat → Int) (k : Nat) (W : World) (cu an : Array Value) : Prop where
  cw : W.heap[gw]? = some (.cells cu 3 (0, 0))
  sz : cu.size = N
  mrk : ∀ m, zs.length ≤ m → m < N → cu[m]? = some (.int .i64 (771 + (m : Int)))
  lo : ∀ m, m < k → cu[m]? = some (.int .i64 (T m))
  cn : 0 < zs.length → W.heap[gn]? = some (.cells an 3 (0, 0)) ∧ zs.length ≤ an.size ∧ (∀ m, m < k → an[m]? = some (.int .i64 (T m))) ∧ (∀ m, k ≤ m → m < zs.length → an[m]? = some (.int .i64 (Cl.at zs m)))
  be : Below w1.heap.size w1 W
theorem L3.st {w1 : World} {gw gn N : Nat} {zs : List Int} {T : Nat → Int} {k : Nat} {W : World} {cu an : Array Value} (h : L3 w1 gw gn N zs T k W cu an) : St w1 gw N zs.length W := ⟨cu, h.cw, h.sz, h.mrk, h.be⟩
theorem own_row {w : World} {base : Nat} {v : Value} {zs : List Int} (h : Own w base v zs) : ∃ no nc gn an, v = .slice no zs.length nc ∧ zs.length ≤ nc ∧ nc ≤ 9223372036854775807 ∧ base ≤ gn ∧ (0 < zs.length → no = some ⟨gn, 0, none⟩ ∧ w.heap[gn]? = some (.cells an 3 (0, 0)) ∧ zs.length ≤ an.size ∧ ∀ m, m < zs.length → an[m]? = some (.int .i64 (Cl.at zs m))) := by
  rcases h.2 with ⟨rfl, hn⟩ | ⟨g, cap, cur, rfl, hb, hg, hn, hc, hs, ht⟩
  · exact ⟨none, 0, base, #[], by rw [hn], by omega, by omega, Nat.le_refl _, fun h => by omega⟩
  · refine ⟨_, cap, g, cur, rfl, hn, by unfold maxLen at hc; exact hc, hb, fun _ => ⟨rfl, hg, by omega, fun m hm => ?_⟩⟩
    simp only [Nat.mul_one] at ht
    have : (cur.toList.take zs.length)[m]? = some (Value.int .i64 (zs[m]?.getD 0)) := by rw [ht]; simp [hm]
    rw [List.getElem?_take, if_pos hm] at this
    simpa [Cl.at] using this

theorem rd_row {W : World} {g n c : Nat} {an : Array Value} {o : Option Addr} {xs : List Int} (hl : xs.length = n) (hc : n ≤ c) (hm : c ≤ 9223372036854775807) (h : 0 < n → o = some ⟨g, 0, none⟩ ∧ W.heap[g]? = some (.cells an 3 (0, 0)) ∧ ∀ m, m < n → an[m]? = some (.int .i64 (xs[m]?.getD 0))) : Rd .i64 W (.slice o n c) xs := by
  refine ⟨o, c, by rw [hl], by omega, by unfold maxLen; exact hm, fun hne => ?_⟩
  have h0 : 0 < n := by rw [← hl]; exact List.length_pos_iff.2 hne
  obtain ⟨h1, h2, h3⟩ := h h0
  refine ⟨g, 0, h1, (Array.getElem?_eq_some_iff.1 h2).1, fun i hi => ?_⟩
  rw [Nat.zero_add, cellOf h2 i]
  exact h3 i (by omega)
theorem St.ext {w1 : World} {gw N n : Nat} {W W' : World} (h : St w1 gw N n W) (hb : Below W.heap.size W W') : St w1 gw N n W' := by
  obtain ⟨cu, h1, h2, h3, h4⟩ := h
  exact ⟨cu, (hb.block gw (Array.getElem?_eq_some_iff.1 h1).1).trans h1, h2, h3, ext_trans h4 hb⟩

/-- One place further: now written (or as it was), then the other. -/
theorem L3.step {w1 : World} {gw gn N : Nat} {zs : List Int} {T : Nat → Int} {k : Nat} {W W' : World} {cu an an' : Array Value} (h : L3 w1 gw gn N zs T k W cu an) (hk : k < zs.length) (hN : zs.length ≤ N) (hgw : w1.heap.size ≤ gw) (hgn : w1.heap.size ≤ gn) (hne : gn ≠ gw)
    (h' : W'.heap[gn]? = some (.cells an' 3 (0, 0))) (hz' : an'.size = an.size) (hy : an'[k]? = some (.int .i64 (T k))) (ho : ∀ m, m ≠ k → an'[m]? = an[m]?) (hg : W.grownBy W' (some gn)) :
    L3 w1 gw gn N zs T (k + 1) (W'.setCell ⟨gw, k, none⟩ (.int .i64 (T k))) (cu.setIfInBounds k (.int .i64 (T k))) an' := by
  have hlw : gw < W.heap.size := (Array.getElem?_eq_some_iff.1 h.cw).1
  have hln : gn < W'.heap.size := (Array.getElem?_eq_some_iff.1 h').1
  have cw' : W'.heap[gw]? = some (.cells cu 3 (0, 0)) := (hg.block gw hlw (fun e => hne (Option.some.inj e).symm)).trans h.cw
  obtain ⟨s1, s2⟩ := P.set1 cw' k (.int .i64 (T k))
  obtain ⟨_, c2, c3, c4⟩ := h.cn (by omega)
  have hsz := h.sz
  refine ⟨s1, by simp [hsz], fun m h1 h2 => ?_, fun m h1 => ?_, fun _ => ⟨(s2.block gn hln (fun e => hne (Option.some.inj e))).trans h', by omega, fun m h1 => ?_, fun m h1 h2 => ?_⟩, ?_⟩
  · rw [Array.getElem?_setIfInBounds_ne (by omega)]; exact h.mrk m h1 h2
  · by_cases e : m = k
    · subst e; rw [Array.getElem?_setIfInBounds_self_of_lt (by omega)]
    · rw [Array.getElem?_setIfInBounds_ne (by omega)]; exact h.lo m (by omega)
  · by_cases e : m = k
    · subst e; exact hy
    · rw [ho m e]; exact c3 m (by omega)
  · rw [ho m (by omega)]; exact c4 m (by omega) h2
  · have b1 : Below w1.heap.size w1 W' := h.be.grown hg h.be.size (fun k hk => by cases hk; exact hgn)
    exact b1.grown s2 b1.size (fun k hk => by cases hk; exact hgw)

set_option maxRecDepth 100000 in
set_option maxHeartbeats 8000000 in
theorem ask7 (q : Ak) (w : World) (hk : q.k = 7) (hok : q.Ok w) : Calls Try.prog 8 #[.agg q.cs] w fun e w' => e = .returned (.bool true) ∧ Below w.heap.size w w' := by
  obtain ⟨i0, hi, hz0, hz1, hz2⟩ := info_parts Try.info_i64
  obtain ⟨k, a, b, c, d, x, v, zs⟩ := q
  obtain rfl : k = 7 := hk
  have HR0 : Hid (RdS w v zs) := ⟨hok.rd, hok.sl⟩
  have hl : zs.length * 8 ≤ 140737488351232 := hok.ln
  obtain ⟨ao, cap, rfl, _⟩ : ∃ ao cap, v = .slice ao zs.length cap ∧ True := by obtain ⟨ao, cap, hv, _⟩ := hok.rd; exact ⟨ao, cap, hv, trivial⟩
  clear hok
  obtain ⟨N, hN⟩ : ∃ N : Nat, N = zs.length + 100 := ⟨_, rfl⟩
  have hwr : IntKind.i64.wrap ((zs.length : Int) + 100) = (N : Int) := by rw [IntKind.wrap_i64]; omega
  have HN := hidIt hN
  have HL := hidIt hl
  have hsz : Hid ((Try.prog.info? 3).map (·.size) = some 1) := by unfold Hid; rw [hi]; simp [hz1]
  clear hN
  unfold Ak.cs
  go_enter Try.func8, Try.ntmps8
  go_wp2_with fail
  obtain ⟨w1, hw1, hbx, hb1⟩ : ∃ w1, w1 = w.alloc (.cells #[.int .i64 7, .int .i64 a, .int .i64 b, .int .i64 c, .int .i64 d, .float .f64 x, .slice ao zs.length cap] 29) ∧ w1.heap[w.heap.size]? = some (.cells #[.int .i64 7, .int .i64 a, .int .i64 b, .int .i64 c, .int .i64 d, .float .f64 x, .slice ao zs.length cap] 29 (0, 0)) ∧ Below w.heap.size w w1 := ⟨_, rfl, P.heap_alloc_new _ _, ext_alloc (Below.refl _ _) _⟩
  rw [← hw1]
  clear hw1
  have HB1 := hidIt hb1
  have HBX : Hid (∀ w', Below w1.heap.size w1 w' → w'.cell? ⟨w.heap.size, 0, none⟩ = some (.int .i64 7) ∧ w'.cell? ⟨w.heap.size, 1, none⟩ = some (.int .i64 a) ∧ w'.cell? ⟨w.heap.size, 6, none⟩ = some (.slice ao zs.length cap)) := fun w' hb => by
    have e := (hb.block w.heap.size (Array.getElem?_eq_some_iff.1 hbx).1).trans hbx
    refine ⟨?_, ?_, ?_⟩ <;> (rw [cell_of_row w' _ _ _ _ _ e]; rfl)
  have HR := hidIt (HR0.out.ext hb1)
  clear hbx hb1 HR0
  obtain ⟨w2, hrun, hrow, hg2⟩ := run_make_full (P := Try.prog) w1 w1.heap.size 27 3 i0 (.int .i64 0) 1 Try.underlying27 hi hz0 hz1 .i64 .i64 N (by have := HN.out; rw [hz2]; omega) (by have := HN.out; unfold maxLen; omega) (Nat.le_refl _)
  have HB2 := hidIt (show Below w1.heap.size w1 w2 from ⟨hg2.os, hg2.tape, hg2.output, hg2.size, fun k hk => hg2.block k hk (by simp)⟩)
  obtain ⟨cur, hcur, hcz⟩ := row_new hrow
  have HCUR := hidIt hcur
  have HCZ := hidIt hcz
  obtain ⟨b0, b1, b6⟩ := HBX.out w2 HB2.out
  clear hrow hg2 hcur hcz hi hz0 hz1 hz2
  obtain ⟨gw, hgw⟩ : ∃ gw, gw = w1.heap.size := ⟨_, rfl⟩
  rw [← hgw] at hrun HCUR
  have HGW := hidIt hgw
  clear hgw
  rw [hrun]
  clear hrun
  have HR2 := hidIt (HR.out.ext HB2.out)
  go_wp2_with (refine wpl_copyI rfl _ _ 27 rfl hsz.out Try.underlying27 gw N N rfl _ zs rfl HR2.out (by have := HN.out; omega) cur HCUR.out (by have := HN.out; have := HCZ.out; omega) ?_; intro w3 cur3 h3 hz3 _ hg3; have H3 := hidIt h3; have HZ3 := hidIt hz3; have HG3 := hidIt hg3; clear h3 hz3 hg3 b0 b1 b6)
  have HB3 : Hid (Below w1.heap.size w1 w3) := by
    unfold Hid
    exact HB2.out.grown HG3.out HB2.out.size (fun k hk => by cases hk; rw [HGW.out]; exact Nat.le_refl _)
  have hN8 : (N : Int) ≤ 100000000000000000 := by have := HN.out; omega
  have hnN : (zs.length : Int) ≤ (N : Int) := by have := HN.out; omega
  go_loopw [5] (fun i wr => ∃ j : Nat, zs.length ≤ j ∧ j ≤ N ∧ i = .int .i64 j ∧ Hid (∃ cu : Array Value, wr.heap[gw]? = some (.cells cu 3 (0, 0)) ∧ cu.size = N ∧ (∀ k, zs.length ≤ k → k < j → cu[k]? = some (.int .i64 (771 + (k : Int)))) ∧ Below w1.heap.size w1 wr)) (fun i _ => N - (intOf i).toNat)
  case atStart => exact ⟨zs.length, Nat.le_refl _, by omega, rfl, cur3, H3.out, HZ3.out.trans HCZ.out, fun k h1 h2 => by omega, HB3.out⟩
  case round =>
    obtain ⟨j, hj0, hj, rfl, hcu⟩ := hrel
    have HCU := hidIt hcu.out
    clear hcu
    by_cases hlt : (j : Int) < (N : Int)
    · obtain ⟨cu, k1, k2, k3, k4⟩ := HCU.out
      have hj2 : j < cu.size := by omega
      obtain ⟨y, hy⟩ : ∃ y, cu[j]? = some y := ⟨_, Array.getElem?_eq_getElem hj2⟩
      have c1 : wr.cell? ⟨gw, j, none⟩ = some y := (cellOf k1 j).trans hy
      have fr := frozOf k1 j
      have hw7 : IntKind.i64.wrap (771 + (j : Int)) = 771 + (j : Int) := by rw [IntKind.wrap_i64]; omega
      have HS := hidIt (P.set1 k1 j (.int .i64 (771 + (j : Int))))
      have K2 := hidIt k2
      have K3 := hidIt k3
      have K4 := hidIt k4
      have HX := hidIt hj2
      clear k1 k2 k3 k4 hy hj2 HCU
      go_wp2_with fail
      go_roundw
      case rel =>
        refine ⟨j + 1, by omega, by omega, by go_num, _, HS.out.1, by simp [K2.out], fun k h1 h2 => ?_, ?_⟩
        · by_cases e : k = j
          · subst e
            rw [Array.getElem?_setIfInBounds_self_of_lt HX.out]
          · rw [Array.getElem?_setIfInBounds_ne (by omega)]
            exact K3.out k h1 (by omega)
        · exact K4.out.grown HS.out.2 K4.out.size (fun k hk => by cases hk; rw [HGW.out]; exact Nat.le_refl _)
      case measure => simp [intOf]; omega
    · obtain ⟨cu, k1, k2, k3, k4⟩ := HCU.out
      have HST : Hid (St w1 gw N zs.length wr) := ⟨cu, k1, k2, fun k h1 h2 => k3 k h1 (by omega), k4⟩
      clear HCU k1 k2 k3 k4 H3 HZ3 HG3 HCUR HCZ HB2 HR2 HB3
      go_wp2_with fail
      go_loopw [6] (fun i wr => ∃ t : Nat, t ≤ 3 ∧ i = .int .i64 t ∧ Hid (St w1 gw N zs.length wr)) (fun i _ => 3 - (intOf i).toNat)
      case atStart => exact ⟨0, by omega, rfl, HST.out⟩
      case round =>
        obtain ⟨t, ht, rfl, HS⟩ := hrel
        by_cases ht3 : t < 3
        · obtain ⟨cw, v1, v2, v3, v4⟩ := HS.out
          obtain ⟨b0, b1, b6⟩ := HBX.out _ v4
          have HRW := hidIt (HR.out.ext v4)
          have HV := hidIt v4
          have ht3' : (t : Int) < 3 := by omega
          clear v1 v2 v3 v4
          go_wp2_with (at_builtin; refine wpl_ints rfl _ _ 27 rfl (World.heap _).size Try.info_i64 Try.underlying27 (.slice none 0 0) [] rfl ⟨rfl, .inl ⟨rfl, rfl⟩⟩ (.slice ao zs.length cap) zs rfl HRW.out (by simp; omega) (Nat.le_refl _) ?_; intro nv w5 hnv hb5; have HNV := hidIt hnv; have HB5 := hidIt hb5; clear hnv hb5 b0 b1 b6)
          rw [List.nil_append] at HNV
          obtain ⟨no, nc, gn, an0, rfl, hnc, hncm, hgn, hnn⟩ := own_row HNV.out
          have hgwl : gw < wr.heap.size := by obtain ⟨_, h, _⟩ := HS.out; exact (Array.getElem?_eq_some_iff.1 h).1
          have hne : gn ≠ gw := by omega
          obtain ⟨cw2, v1, v2, v3, v4⟩ := HS.out
          have HLT : Hid (∀ T, L3 w1 gw gn N zs T 0 w5 cw2 an0) := fun T => ⟨(HB5.out.block gw hgwl).trans v1, v2, v3, fun m h => by omega, fun h => ⟨(hnn h).2.1, (hnn h).2.2.1, fun m h => by omega, fun m _ h2 => (hnn h).2.2.2 m h2⟩, ext_trans v4 HB5.out⟩
          have HNO : Hid (0 < zs.length → no = some ⟨gn, 0, none⟩) := fun h => (hnn h).1
          clear v1 v2 v3 v4 hnn HNV
          by_cases hz0 : zs.length = 0
          · have HZ0 := hidIt hz0
            clear hz0
            go_loopg [8] zs.length (fun gi i wq => ∃ k cu an, k ≤ zs.length ∧ gi = zs.length - k ∧ i = .int .i64 (k : Nat) ∧ Hid (L3 w1 gw gn N zs (Vw.tn t zs) k wq cu an))
            case atStart => exact ⟨0, cw2, an0, by omega, rfl, rfl, HLT.out _⟩
            case round =>
              obtain ⟨k, cu, an, hkn0, hgi, rfl, L⟩ := hrel
              have HGI := hidIt hgi
              clear hgi
              generalize wr = wq at *
              by_cases hkn : k < zs.length
              · exact absurd HZ0.out (by omega)
              · have hke : k = zs.length := by omega
                subst hke
                have hNn : zs.length ≤ N := by have := HN.out; omega
                have RW : Hid (Rd .i64 wq (.slice (some ⟨gw, 0, none⟩) zs.length N) (Vw.tl t zs)) := rd_row (an := cu) (Vw.tl_len _ _) hNn (by omega) (fun _ => ⟨rfl, L.out.cw, fun m hm => by rw [Vw.tl_at t zs m hm]; exact L.out.lo m hm⟩)
                have RN : Hid (Rd .i64 wq (.slice (no) zs.length nc) (Vw.tl t zs)) := rd_row (g := gn) (an := an) (Vw.tl_len _ _) hnc hncm (fun h0 => ⟨HNO.out h0, (L.out.cn h0).1, fun m hm => by rw [Vw.tl_at t zs m hm]; exact (L.out.cn h0).2.2.1 m hm⟩)
                have hlt8 : (Vw.tl t zs).length * 8 ≤ 140737488351232 := by rw [Vw.tl_len]; exact HL.out
                have CC : Hid (∀ w', Below wq.heap.size wq w' → Calls Try.prog 11 #[.slice (some ⟨gw, 0, none⟩) zs.length N, .int .i64 a] w' fun e w'' => e = .returned (.int .i64 (Vw.cell (Vw.tl t zs) a : Nat)) ∧ Below w'.heap.size w' w'') := fun w' hb => P.Cell_any _ _ a w' (RW.out.ext hb) (by omega)
                have CR : Hid (∀ w', Below wq.heap.size wq w' → Calls Try.prog 12 #[.slice (no) zs.length nc, .int .i64 a] w' fun e w'' => e = .returned (.int .i64 (Vw.cell (Vw.tl t zs) a : Nat)) ∧ Below w'.heap.size w' w'') := fun w' hb => r_Cell_any _ _ a w' (RN.out.ext hb) hlt8
                generalize Vw.cell (Vw.tl t zs) a = ans at *
                have HBX2 : Hid (∀ w', Below wq.heap.size wq w' → w'.cell? ⟨w.heap.size, 0, none⟩ = some (.int .i64 7) ∧ w'.cell? ⟨w.heap.size, 1, none⟩ = some (.int .i64 a)) := fun w' hb => ⟨(HBX.out w' (ext_trans L.out.be hb)).1, (HBX.out w' (ext_trans L.out.be hb)).2.1⟩
                obtain ⟨b0, b1⟩ := HBX2.out wq (Below.refl _ _)
                have hnN2 : (zs.length : Int) ≤ (N : Int) := by omega
                have hn00 : (0 : Int) ≤ (zs.length : Int) := by omega
                have hknn : ¬ (zs.length : Int) < (zs.length : Int) := by omega
                clear RW RN hkn hlt8
                go_wp2_with fail
                go_region_held3 (fun w' => w'.cell? ⟨w.heap.size, 1, none⟩ = some (.int .i64 a)) (go_keep) (first | (go_at_call 11; refine (CC.out _ (by repeat (first | exact Below.refl _ _ | apply Below.drew))).mono ?_; rintro e w7 ⟨rfl, hb7⟩; have HB7 : Hid (Below wq.heap.size wq w7) := ext_trans (by repeat (first | exact Below.refl _ _ | apply Below.drew)) hb7; obtain ⟨_, b1⟩ := HBX2.out w7 HB7.out; clear hb7))
                all_goals
                  clear b0
                  obtain ⟨b0, b1⟩ := HBX2.out w7 HB7.out
                  go_wp2_with (go_at_call 12; refine (CR.out _ HB7.out).mono ?_; rintro e w8 ⟨rfl, hb8⟩; have HB8 := hidIt (ext_trans HB7.out hb8); clear hb8)
                  go_loopg [11] zs.length (fun gi i wz => ∃ m : Nat, m ≤ zs.length ∧ gi = zs.length - m ∧ i = .int .i64 m ∧ Hid (Below wq.heap.size wq wz))
                  case atStart => exact ⟨0, by omega, rfl, rfl, HB8.out⟩
                  case round =>
                    obtain ⟨m, hm, hgm, rfl, HBZ⟩ := hrel
                    have HGM := hidIt hgm
                    clear hgm
                    generalize wr = wz at *
                    by_cases hmn : m < zs.length
                    · exact absurd HZ0.out (by omega)
                    · have hmn' : ¬ (m : Int) < (zs.length : Int) := by omega
                      have HSX := hidIt (L.out.st.ext HBZ.out)
                      clear b0 b1 hmn
                      go_wp2_with fail
                      go_roundw
                      case rel => exact ⟨t + 1, by omega, by go_num, HSX.out⟩
                      case measure => first | (simp [intOf]; done) | (simp [intOf]; omega)
          obtain rfl := HNO.out (by omega)
          have HB6 := hidIt HB5.out
          rcases (show t = 0 ∨ t = 1 ∨ t = 2 by omega) with rfl | rfl | rfl
          · go_loopg [8] zs.length (fun gi i wq => ∃ k cu an, k ≤ zs.length ∧ gi = zs.length - k ∧ i = .int .i64 (k : Nat) ∧ Hid (L3 w1 gw gn N zs (Vw.tn 0 zs) k wq cu an))
            case atStart => exact ⟨0, cw2, an0, by omega, rfl, rfl, HLT.out _⟩
            case round =>
              obtain ⟨k, cu, an, hkn0, hgi, rfl, L⟩ := hrel
              have HGI := hidIt hgi
              clear hgi
              generalize wr = wq at *
              by_cases hkn : k < zs.length
              · obtain ⟨c1, c2, c3, c4⟩ := L.out.cn (by omega)
                have hy0 := c4 k (Nat.le_refl _) hkn
                have cg : wq.cell? ⟨gn, k, none⟩ = some (.int .i64 (Cl.at zs k)) := (cellOf c1 k).trans hy0
                have fg := frozOf c1 k
                have fw := frozOf L.out.cw k
                obtain ⟨y0, hyw⟩ : ∃ y, cu[k]? = some y := ⟨_, Array.getElem?_eq_getElem (by rw [L.out.sz]; have := HN.out; omega)⟩
                have cwk : wq.cell? ⟨gw, k, none⟩ = some y0 := (cellOf L.out.cw k).trans hyw
                obtain ⟨b0, b1, b6⟩ := HBX.out wq L.out.be
                have hk' : (k : Int) < (zs.length : Int) := by omega
                have hk0 : (0 : Int) ≤ (k : Int) := by omega
                have hkN : (k : Int) < (N : Int) := by have := HN.out; omega
                have hnc' : (zs.length : Int) ≤ (nc : Int) := by omega
                have HST := hidIt (L.out.step hkn (by have := HN.out; omega) (by rw [HGW.out]; exact Nat.le_refl _) (Nat.le_trans HV.out.size hgn) hne (W' := wq) (an' := an) c1 rfl hy0 (fun _ _ => rfl) ⟨rfl, rfl, rfl, Nat.le_refl _, fun _ _ _ => rfl⟩)
                rw [show Vw.tn 0 zs k = Cl.at zs k from rfl] at HST
                clear c1 c2 c3 c4 hy0 hyw
                generalize Cl.at zs k = y at *
                go_wp2_with fail
                go_roundg (zs.length - (k + 1))
                case measure => have := HGI.out; omega
                exact ⟨k + 1, _, _, by omega, rfl, by go_num, HST.out⟩
              · have hke : k = zs.length := by omega
                subst hke
                have hNn : zs.length ≤ N := by have := HN.out; omega
                have RW : Hid (Rd .i64 wq (.slice (some ⟨gw, 0, none⟩) zs.length N) (Vw.tl 0 zs)) := rd_row (an := cu) (Vw.tl_len _ _) hNn (by omega) (fun _ => ⟨rfl, L.out.cw, fun m hm => by rw [Vw.tl_at 0 zs m hm]; exact L.out.lo m hm⟩)
                have RN : Hid (Rd .i64 wq (.slice (some ⟨gn, 0, none⟩) zs.length nc) (Vw.tl 0 zs)) := rd_row (g := gn) (an := an) (Vw.tl_len _ _) hnc hncm (fun h0 => ⟨rfl, (L.out.cn h0).1, fun m hm => by rw [Vw.tl_at 0 zs m hm]; exact (L.out.cn h0).2.2.1 m hm⟩)
                have hlt8 : (Vw.tl 0 zs).length * 8 ≤ 140737488351232 := by rw [Vw.tl_len]; exact HL.out
                have CC : Hid (∀ w', Below wq.heap.size wq w' → Calls Try.prog 11 #[.slice (some ⟨gw, 0, none⟩) zs.length N, .int .i64 a] w' fun e w'' => e = .returned (.int .i64 (Vw.cell (Vw.tl 0 zs) a : Nat)) ∧ Below w'.heap.size w' w'') := fun w' hb => P.Cell_any _ _ a w' (RW.out.ext hb) (by omega)
                have CR : Hid (∀ w', Below wq.heap.size wq w' → Calls Try.prog 12 #[.slice (some ⟨gn, 0, none⟩) zs.length nc, .int .i64 a] w' fun e w'' => e = .returned (.int .i64 (Vw.cell (Vw.tl 0 zs) a : Nat)) ∧ Below w'.heap.size w' w'') := fun w' hb => r_Cell_any _ _ a w' (RN.out.ext hb) hlt8
                generalize Vw.cell (Vw.tl 0 zs) a = ans at *
                have HBX2 : Hid (∀ w', Below wq.heap.size wq w' → w'.cell? ⟨w.heap.size, 0, none⟩ = some (.int .i64 7) ∧ w'.cell? ⟨w.heap.size, 1, none⟩ = some (.int .i64 a)) := fun w' hb => ⟨(HBX.out w' (ext_trans L.out.be hb)).1, (HBX.out w' (ext_trans L.out.be hb)).2.1⟩
                obtain ⟨b0, b1⟩ := HBX2.out wq (Below.refl _ _)
                have hnN2 : (zs.length : Int) ≤ (N : Int) := by omega
                have hn00 : (0 : Int) ≤ (zs.length : Int) := by omega
                have hknn : ¬ (zs.length : Int) < (zs.length : Int) := by omega
                clear RW RN hkn hlt8
                go_wp2_with fail
                go_region_held3 (fun w' => w'.cell? ⟨w.heap.size, 1, none⟩ = some (.int .i64 a)) (go_keep) (first | (go_at_call 11; refine (CC.out _ (by repeat (first | exact Below.refl _ _ | apply Below.drew))).mono ?_; rintro e w7 ⟨rfl, hb7⟩; have HB7 : Hid (Below wq.heap.size wq w7) := ext_trans (by repeat (first | exact Below.refl _ _ | apply Below.drew)) hb7; obtain ⟨_, b1⟩ := HBX2.out w7 HB7.out; clear hb7))
                all_goals
                  clear b0
                  obtain ⟨b0, b1⟩ := HBX2.out w7 HB7.out
                  go_wp2_with (go_at_call 12; refine (CR.out _ HB7.out).mono ?_; rintro e w8 ⟨rfl, hb8⟩; have HB8 := hidIt (ext_trans HB7.out hb8); clear hb8)
                  go_loopg [11] zs.length (fun gi i wz => ∃ m : Nat, m ≤ zs.length ∧ gi = zs.length - m ∧ i = .int .i64 m ∧ Hid (Below wq.heap.size wq wz))
                  case atStart => exact ⟨0, by omega, rfl, rfl, HB8.out⟩
                  case round =>
                    obtain ⟨m, hm, hgm, rfl, HBZ⟩ := hrel
                    have HGM := hidIt hgm
                    clear hgm
                    generalize wr = wz at *
                    by_cases hmn : m < zs.length
                    · have x1 := (HBZ.out.cell (p := ⟨gw, m, none⟩) (Array.getElem?_eq_some_iff.1 L.out.cw).1).trans ((cellOf L.out.cw m).trans (L.out.lo m (by omega)))
                      have x2 := (HBZ.out.cell (p := ⟨gn, m, none⟩) (Array.getElem?_eq_some_iff.1 (L.out.cn (by omega)).1).1).trans ((cellOf (L.out.cn (by omega)).1 m).trans ((L.out.cn (by omega)).2.2.1 m (by omega)))
                      have m1 : (m : Int) < (zs.length : Int) := by omega
                      have m2 : (m : Int) < (N : Int) := by omega
                      have m0 : (0 : Int) ≤ (m : Int) := by omega
                      have LL := L
                      clear L b0 b1 CC CR HBX2
                      generalize Vw.tn 0 zs m = y at x1 x2
                      go_wp2_with fail
                      go_region_held3 (fun w' => w'.cell? ⟨gw, m, none⟩ = some (.int .i64 y) ∧ w'.cell? ⟨gn, m, none⟩ = some (.int .i64 y)) (go_keep) (fail)
                      all_goals
                        have HBY := hidIt HBZ.out.drew
                        clear x1 x2
                        generalize World.drew wz = wy at *
                        go_wp2_with fail
                        go_roundg (zs.length - (m + 1))
                        case measure => have := HGM.out; omega
                        exact ⟨m + 1, by omega, rfl, by go_num, HBY.out⟩
                    · have hmn' : ¬ (m : Int) < (zs.length : Int) := by omega
                      have HSX := hidIt (L.out.st.ext HBZ.out)
                      clear b0 b1 hmn
                      go_wp2_with fail
                      go_roundw
                      case rel => exact ⟨0 + 1, by omega, by go_num, HSX.out⟩
                      case measure => first | (simp [intOf]; done) | (simp [intOf]; omega)
          · go_loopg [8] zs.length (fun gi i wq => ∃ k cu an, k ≤ zs.length ∧ gi = zs.length - k ∧ i = .int .i64 (k : Nat) ∧ Hid (L3 w1 gw gn N zs (Vw.tn 1 zs) k wq cu an))
            case atStart => exact ⟨0, cw2, an0, by omega, rfl, rfl, HLT.out _⟩
            case round =>
              obtain ⟨k, cu, an, hkn0, hgi, rfl, L⟩ := hrel
              have HGI := hidIt hgi
              clear hgi
              generalize wr = wq at *
              by_cases hkn : k < zs.length
              · obtain ⟨c1, c2, c3, c4⟩ := L.out.cn (by omega)
                have hy0 := c4 k (Nat.le_refl _) hkn
                have cg : wq.cell? ⟨gn, k, none⟩ = some (.int .i64 (Cl.at zs k)) := (cellOf c1 k).trans hy0
                have fg := frozOf c1 k
                have fw := frozOf L.out.cw k
                obtain ⟨y0, hyw⟩ : ∃ y, cu[k]? = some y := ⟨_, Array.getElem?_eq_getElem (by rw [L.out.sz]; have := HN.out; omega)⟩
                have cwk : wq.cell? ⟨gw, k, none⟩ = some y0 := (cellOf L.out.cw k).trans hyw
                obtain ⟨b0, b1, b6⟩ := HBX.out wq L.out.be
                have hk' : (k : Int) < (zs.length : Int) := by omega
                have hk0 : (0 : Int) ≤ (k : Int) := by omega
                have hkN : (k : Int) < (N : Int) := by have := HN.out; omega
                have hnc' : (zs.length : Int) ≤ (nc : Int) := by omega
                obtain ⟨lb, lo, lcp, hlv, hl1, hl2, hlb, hlc⟩ := (HR.out.ext L.out.be).1.at (by omega)
                simp only [Value.slice.injEq, true_and] at hlv
                obtain ⟨rfl, rfl⟩ := hlv
                have cl := hlc (zs.length - 1 - k) (by omega)
                have hyT : Cl.at zs (zs.length - 1 - k) = Vw.tn 1 zs k := rfl
                have wn1 : IntKind.i64.wrap ((zs.length : Int) - 1) = (zs.length : Int) - 1 := by rw [IntKind.wrap_i64]; omega
                have wn2 : IntKind.i64.wrap ((zs.length : Int) - 1 - (k : Int)) = ((zs.length - 1 - k : Nat) : Int) := by rw [IntKind.wrap_i64]; omega
                have hm0 : (0 : Int) ≤ ((zs.length - 1 - k : Nat) : Int) := by omega
                have hm1 : ((zs.length - 1 - k : Nat) : Int) < (zs.length : Int) := by omega
                obtain ⟨s1, s2⟩ := P.set1 c1 k (.int .i64 (Cl.at zs (zs.length - 1 - k)))
                have hgnl : gn < wq.heap.size := (Array.getElem?_eq_some_iff.1 c1).1
                have ak : (an.setIfInBounds k (.int .i64 (Cl.at zs (zs.length - 1 - k))))[k]? = some (.int .i64 (Cl.at zs (zs.length - 1 - k))) := Array.getElem?_setIfInBounds_self_of_lt (by omega)
                have HST := hidIt (L.out.step hkn (by have := HN.out; omega) (by rw [HGW.out]; exact Nat.le_refl _) (Nat.le_trans HV.out.size hgn) hne s1 (by simp) (by rw [ak]; exact congrArg (fun z => some (Value.int .i64 z)) hyT) (fun m hm => Array.getElem?_setIfInBounds_ne (by omega)) s2)
                rw [show Vw.tn 1 zs k = Cl.at zs (zs.length - 1 - k) from hyT.symm] at HST
                have cg' : (wq.setCell ⟨gn, k, none⟩ (.int .i64 (Cl.at zs (zs.length - 1 - k)))).cell? ⟨gn, k, none⟩ = some (.int .i64 (Cl.at zs (zs.length - 1 - k))) := (cellOf s1 k).trans ak
                have hw' : (wq.setCell ⟨gn, k, none⟩ (.int .i64 (Cl.at zs (zs.length - 1 - k)))).heap[gw]? = some (.cells cu 3 (0, 0)) := (s2.block gw (Array.getElem?_eq_some_iff.1 L.out.cw).1 (fun e => hne (Option.some.inj e).symm)).trans L.out.cw
                have cw' : (wq.setCell ⟨gn, k, none⟩ (.int .i64 (Cl.at zs (zs.length - 1 - k)))).cell? ⟨gw, k, none⟩ = some y0 := (cellOf hw' k).trans hyw
                have fw' : (wq.setCell ⟨gn, k, none⟩ (.int .i64 (Cl.at zs (zs.length - 1 - k)))).frozen? ⟨gw, k, none⟩ = false := frozOf hw' k
                clear c1 c2 c3 c4 hy0 hyw s1 s2 ak hw' hlc hyT
                generalize zs.length - 1 - k = mm at *
                generalize Cl.at zs mm = y at *
                generalize Cl.at zs k = yk at *
                go_wp2_with fail
                go_roundg (zs.length - (k + 1))
                case measure => have := HGI.out; omega
                exact ⟨k + 1, _, _, by omega, rfl, by go_num, HST.out⟩
              · have hke : k = zs.length := by omega
                subst hke
                have hNn : zs.length ≤ N := by have := HN.out; omega
                have RW : Hid (Rd .i64 wq (.slice (some ⟨gw, 0, none⟩) zs.length N) (Vw.tl 1 zs)) := rd_row (an := cu) (Vw.tl_len _ _) hNn (by omega) (fun _ => ⟨rfl, L.out.cw, fun m hm => by rw [Vw.tl_at 1 zs m hm]; exact L.out.lo m hm⟩)
                have RN : Hid (Rd .i64 wq (.slice (some ⟨gn, 0, none⟩) zs.length nc) (Vw.tl 1 zs)) := rd_row (g := gn) (an := an) (Vw.tl_len _ _) hnc hncm (fun h0 => ⟨rfl, (L.out.cn h0).1, fun m hm => by rw [Vw.tl_at 1 zs m hm]; exact (L.out.cn h0).2.2.1 m hm⟩)
                have hlt8 : (Vw.tl 1 zs).length * 8 ≤ 140737488351232 := by rw [Vw.tl_len]; exact HL.out
                have CC : Hid (∀ w', Below wq.heap.size wq w' → Calls Try.prog 11 #[.slice (some ⟨gw, 0, none⟩) zs.length N, .int .i64 a] w' fun e w'' => e = .returned (.int .i64 (Vw.cell (Vw.tl 1 zs) a : Nat)) ∧ Below w'.heap.size w' w'') := fun w' hb => P.Cell_any _ _ a w' (RW.out.ext hb) (by omega)
                have CR : Hid (∀ w', Below wq.heap.size wq w' → Calls Try.prog 12 #[.slice (some ⟨gn, 0, none⟩) zs.length nc, .int .i64 a] w' fun e w'' => e = .returned (.int .i64 (Vw.cell (Vw.tl 1 zs) a : Nat)) ∧ Below w'.heap.size w' w'') := fun w' hb => r_Cell_any _ _ a w' (RN.out.ext hb) hlt8
                generalize Vw.cell (Vw.tl 1 zs) a = ans at *
                have HBX2 : Hid (∀ w', Below wq.heap.size wq w' → w'.cell? ⟨w.heap.size, 0, none⟩ = some (.int .i64 7) ∧ w'.cell? ⟨w.heap.size, 1, none⟩ = some (.int .i64 a)) := fun w' hb => ⟨(HBX.out w' (ext_trans L.out.be hb)).1, (HBX.out w' (ext_trans L.out.be hb)).2.1⟩
                obtain ⟨b0, b1⟩ := HBX2.out wq (Below.refl _ _)
                have hnN2 : (zs.length : Int) ≤ (N : Int) := by omega
                have hn00 : (0 : Int) ≤ (zs.length : Int) := by omega
                have hknn : ¬ (zs.length : Int) < (zs.length : Int) := by omega
                clear RW RN hkn hlt8
                go_wp2_with fail
                go_region_held3 (fun w' => w'.cell? ⟨w.heap.size, 1, none⟩ = some (.int .i64 a)) (go_keep) (first | (go_at_call 11; refine (CC.out _ (by repeat (first | exact Below.refl _ _ | apply Below.drew))).mono ?_; rintro e w7 ⟨rfl, hb7⟩; have HB7 : Hid (Below wq.heap.size wq w7) := ext_trans (by repeat (first | exact Below.refl _ _ | apply Below.drew)) hb7; obtain ⟨_, b1⟩ := HBX2.out w7 HB7.out; clear hb7))
                all_goals
                  clear b0
                  obtain ⟨b0, b1⟩ := HBX2.out w7 HB7.out
                  go_wp2_with (go_at_call 12; refine (CR.out _ HB7.out).mono ?_; rintro e w8 ⟨rfl, hb8⟩; have HB8 := hidIt (ext_trans HB7.out hb8); clear hb8)
                  go_loopg [11] zs.length (fun gi i wz => ∃ m : Nat, m ≤ zs.length ∧ gi = zs.length - m ∧ i = .int .i64 m ∧ Hid (Below wq.heap.size wq wz))
                  case atStart => exact ⟨0, by omega, rfl, rfl, HB8.out⟩
                  case round =>
                    obtain ⟨m, hm, hgm, rfl, HBZ⟩ := hrel
                    have HGM := hidIt hgm
                    clear hgm
                    generalize wr = wz at *
                    by_cases hmn : m < zs.length
                    · have x1 := (HBZ.out.cell (p := ⟨gw, m, none⟩) (Array.getElem?_eq_some_iff.1 L.out.cw).1).trans ((cellOf L.out.cw m).trans (L.out.lo m (by omega)))
                      have x2 := (HBZ.out.cell (p := ⟨gn, m, none⟩) (Array.getElem?_eq_some_iff.1 (L.out.cn (by omega)).1).1).trans ((cellOf (L.out.cn (by omega)).1 m).trans ((L.out.cn (by omega)).2.2.1 m (by omega)))
                      have m1 : (m : Int) < (zs.length : Int) := by omega
                      have m2 : (m : Int) < (N : Int) := by omega
                      have m0 : (0 : Int) ≤ (m : Int) := by omega
                      have LL := L
                      clear L b0 b1 CC CR HBX2
                      generalize Vw.tn 1 zs m = y at x1 x2
                      go_wp2_with fail
                      go_region_held3 (fun w' => w'.cell? ⟨gw, m, none⟩ = some (.int .i64 y) ∧ w'.cell? ⟨gn, m, none⟩ = some (.int .i64 y)) (go_keep) (fail)
                      all_goals
                        have HBY := hidIt HBZ.out.drew
                        clear x1 x2
                        generalize World.drew wz = wy at *
                        go_wp2_with fail
                        go_roundg (zs.length - (m + 1))
                        case measure => have := HGM.out; omega
                        exact ⟨m + 1, by omega, rfl, by go_num, HBY.out⟩
                    · have hmn' : ¬ (m : Int) < (zs.length : Int) := by omega
                      have HSX := hidIt (L.out.st.ext HBZ.out)
                      clear b0 b1 hmn
                      go_wp2_with fail
                      go_roundw
                      case rel => exact ⟨1 + 1, by omega, by go_num, HSX.out⟩
                      case measure => first | (simp [intOf]; done) | (simp [intOf]; omega)
          · go_loopg [8] zs.length (fun gi i wq => ∃ k cu an, k ≤ zs.length ∧ gi = zs.length - k ∧ i = .int .i64 (k : Nat) ∧ Hid (L3 w1 gw gn N zs (Vw.tn 2 zs) k wq cu an))
            case atStart => exact ⟨0, cw2, an0, by omega, rfl, rfl, HLT.out _⟩
            case round =>
              obtain ⟨k, cu, an, hkn0, hgi, rfl, L⟩ := hrel
              have HGI := hidIt hgi
              clear hgi
              generalize wr = wq at *
              by_cases hkn : k < zs.length
              · obtain ⟨c1, c2, c3, c4⟩ := L.out.cn (by omega)
                have hy0 := c4 k (Nat.le_refl _) hkn
                have cg : wq.cell? ⟨gn, k, none⟩ = some (.int .i64 (Cl.at zs k)) := (cellOf c1 k).trans hy0
                have fg := frozOf c1 k
                have fw := frozOf L.out.cw k
                obtain ⟨y0, hyw⟩ : ∃ y, cu[k]? = some y := ⟨_, Array.getElem?_eq_getElem (by rw [L.out.sz]; have := HN.out; omega)⟩
                have cwk : wq.cell? ⟨gw, k, none⟩ = some y0 := (cellOf L.out.cw k).trans hyw
                obtain ⟨b0, b1, b6⟩ := HBX.out wq L.out.be
                have hk' : (k : Int) < (zs.length : Int) := by omega
                have hk0 : (0 : Int) ≤ (k : Int) := by omega
                have hkN : (k : Int) < (N : Int) := by have := HN.out; omega
                have hnc' : (zs.length : Int) ≤ (nc : Int) := by omega
                by_cases h4 : Cl.at zs k = 19968
                · have hyT : (97 : Int) = Vw.tn 2 zs k := by unfold Vw.tn; rw [if_neg (by omega), if_pos rfl, if_pos h4]
                  have b4 : (Cl.at zs k != 19968) = false := by simp [h4]
                  obtain ⟨s1, s2⟩ := P.set1 c1 k (.int .i64 (97))
                  have hgnl : gn < wq.heap.size := (Array.getElem?_eq_some_iff.1 c1).1
                  have ak : (an.setIfInBounds k (.int .i64 (97)))[k]? = some (.int .i64 (97)) := Array.getElem?_setIfInBounds_self_of_lt (by omega)
                  have HST := hidIt (L.out.step hkn (by have := HN.out; omega) (by rw [HGW.out]; exact Nat.le_refl _) (Nat.le_trans HV.out.size hgn) hne s1 (by simp) (by rw [ak]; exact congrArg (fun z => some (Value.int .i64 z)) hyT) (fun m hm => Array.getElem?_setIfInBounds_ne (by omega)) s2)
                  rw [show Vw.tn 2 zs k = 97 from hyT.symm] at HST
                  have cg' : (wq.setCell ⟨gn, k, none⟩ (.int .i64 (97))).cell? ⟨gn, k, none⟩ = some (.int .i64 (97)) := (cellOf s1 k).trans ak
                  have hw' : (wq.setCell ⟨gn, k, none⟩ (.int .i64 (97))).heap[gw]? = some (.cells cu 3 (0, 0)) := (s2.block gw (Array.getElem?_eq_some_iff.1 L.out.cw).1 (fun e => hne (Option.some.inj e).symm)).trans L.out.cw
                  have cw' : (wq.setCell ⟨gn, k, none⟩ (.int .i64 (97))).cell? ⟨gw, k, none⟩ = some y0 := (cellOf hw' k).trans hyw
                  have fw' : (wq.setCell ⟨gn, k, none⟩ (.int .i64 (97))).frozen? ⟨gw, k, none⟩ = false := frozOf hw' k
                  clear c1 c2 c3 c4 hy0 hyw s1 s2 ak hw' hyT h4
                  generalize Cl.at zs k = yk at *
                  go_wp2_with fail
                  go_roundg (zs.length - (k + 1))
                  case measure => have := HGI.out; omega
                  exact ⟨k + 1, _, _, by omega, rfl, by go_num, HST.out⟩
                · have hyT : (19968 : Int) = Vw.tn 2 zs k := by unfold Vw.tn; rw [if_neg (by omega), if_pos rfl, if_neg h4]
                  have b4 : (Cl.at zs k != 19968) = true := by simp [h4]
                  obtain ⟨s1, s2⟩ := P.set1 c1 k (.int .i64 (19968))
                  have hgnl : gn < wq.heap.size := (Array.getElem?_eq_some_iff.1 c1).1
                  have ak : (an.setIfInBounds k (.int .i64 (19968)))[k]? = some (.int .i64 (19968)) := Array.getElem?_setIfInBounds_self_of_lt (by omega)
                  have HST := hidIt (L.out.step hkn (by have := HN.out; omega) (by rw [HGW.out]; exact Nat.le_refl _) (Nat.le_trans HV.out.size hgn) hne s1 (by simp) (by rw [ak]; exact congrArg (fun z => some (Value.int .i64 z)) hyT) (fun m hm => Array.getElem?_setIfInBounds_ne (by omega)) s2)
                  rw [show Vw.tn 2 zs k = 19968 from hyT.symm] at HST
                  have cg' : (wq.setCell ⟨gn, k, none⟩ (.int .i64 (19968))).cell? ⟨gn, k, none⟩ = some (.int .i64 (19968)) := (cellOf s1 k).trans ak
                  have hw' : (wq.setCell ⟨gn, k, none⟩ (.int .i64 (19968))).heap[gw]? = some (.cells cu 3 (0, 0)) := (s2.block gw (Array.getElem?_eq_some_iff.1 L.out.cw).1 (fun e => hne (Option.some.inj e).symm)).trans L.out.cw
                  have cw' : (wq.setCell ⟨gn, k, none⟩ (.int .i64 (19968))).cell? ⟨gw, k, none⟩ = some y0 := (cellOf hw' k).trans hyw
                  have fw' : (wq.setCell ⟨gn, k, none⟩ (.int .i64 (19968))).frozen? ⟨gw, k, none⟩ = false := frozOf hw' k
                  clear c1 c2 c3 c4 hy0 hyw s1 s2 ak hw' hyT h4
                  generalize Cl.at zs k = yk at *
                  go_wp2_with fail
                  go_roundg (zs.length - (k + 1))
                  case measure => have := HGI.out; omega
                  exact ⟨k + 1, _, _, by omega, rfl, by go_num, HST.out⟩
              · have hke : k = zs.length := by omega
                subst hke
                have hNn : zs.length ≤ N := by have := HN.out; omega
                have RW : Hid (Rd .i64 wq (.slice (some ⟨gw, 0, none⟩) zs.length N) (Vw.tl 2 zs)) := rd_row (an := cu) (Vw.tl_len _ _) hNn (by omega) (fun _ => ⟨rfl, L.out.cw, fun m hm => by rw [Vw.tl_at 2 zs m hm]; exact L.out.lo m hm⟩)
                have RN : Hid (Rd .i64 wq (.slice (some ⟨gn, 0, none⟩) zs.length nc) (Vw.tl 2 zs)) := rd_row (g := gn) (an := an) (Vw.tl_len _ _) hnc hncm (fun h0 => ⟨rfl, (L.out.cn h0).1, fun m hm => by rw [Vw.tl_at 2 zs m hm]; exact (L.out.cn h0).2.2.1 m hm⟩)
                have hlt8 : (Vw.tl 2 zs).length * 8 ≤ 140737488351232 := by rw [Vw.tl_len]; exact HL.out
                have CC : Hid (∀ w', Below wq.heap.size wq w' → Calls Try.prog 11 #[.slice (some ⟨gw, 0, none⟩) zs.length N, .int .i64 a] w' fun e w'' => e = .returned (.int .i64 (Vw.cell (Vw.tl 2 zs) a : Nat)) ∧ Below w'.heap.size w' w'') := fun w' hb => P.Cell_any _ _ a w' (RW.out.ext hb) (by omega)
                have CR : Hid (∀ w', Below wq.heap.size wq w' → Calls Try.prog 12 #[.slice (some ⟨gn, 0, none⟩) zs.length nc, .int .i64 a] w' fun e w'' => e = .returned (.int .i64 (Vw.cell (Vw.tl 2 zs) a : Nat)) ∧ Below w'.heap.size w' w'') := fun w' hb => r_Cell_any _ _ a w' (RN.out.ext hb) hlt8
                generalize Vw.cell (Vw.tl 2 zs) a = ans at *
                have HBX2 : Hid (∀ w', Below wq.heap.size wq w' → w'.cell? ⟨w.heap.size, 0, none⟩ = some (.int .i64 7) ∧ w'.cell? ⟨w.heap.size, 1, none⟩ = some (.int .i64 a)) := fun w' hb => ⟨(HBX.out w' (ext_trans L.out.be hb)).1, (HBX.out w' (ext_trans L.out.be hb)).2.1⟩
                obtain ⟨b0, b1⟩ := HBX2.out wq (Below.refl _ _)
                have hnN2 : (zs.length : Int) ≤ (N : Int) := by omega
                have hn00 : (0 : Int) ≤ (zs.length : Int) := by omega
                have hknn : ¬ (zs.length : Int) < (zs.length : Int) := by omega
                clear RW RN hkn hlt8
                go_wp2_with fail
                go_region_held3 (fun w' => w'.cell? ⟨w.heap.size, 1, none⟩ = some (.int .i64 a)) (go_keep) (first | (go_at_call 11; refine (CC.out _ (by repeat (first | exact Below.refl _ _ | apply Below.drew))).mono ?_; rintro e w7 ⟨rfl, hb7⟩; have HB7 : Hid (Below wq.heap.size wq w7) := ext_trans (by repeat (first | exact Below.refl _ _ | apply Below.drew)) hb7; obtain ⟨_, b1⟩ := HBX2.out w7 HB7.out; clear hb7))
                all_goals
                  clear b0
                  obtain ⟨b0, b1⟩ := HBX2.out w7 HB7.out
                  go_wp2_with (go_at_call 12; refine (CR.out _ HB7.out).mono ?_; rintro e w8 ⟨rfl, hb8⟩; have HB8 := hidIt (ext_trans HB7.out hb8); clear hb8)
                  go_loopg [11] zs.length (fun gi i wz => ∃ m : Nat, m ≤ zs.length ∧ gi = zs.length - m ∧ i = .int .i64 m ∧ Hid (Below wq.heap.size wq wz))
                  case atStart => exact ⟨0, by omega, rfl, rfl, HB8.out⟩
                  case round =>
                    obtain ⟨m, hm, hgm, rfl, HBZ⟩ := hrel
                    have HGM := hidIt hgm
                    clear hgm
                    generalize wr = wz at *
                    by_cases hmn : m < zs.length
                    · have x1 := (HBZ.out.cell (p := ⟨gw, m, none⟩) (Array.getElem?_eq_some_iff.1 L.out.cw).1).trans ((cellOf L.out.cw m).trans (L.out.lo m (by omega)))
                      have x2 := (HBZ.out.cell (p := ⟨gn, m, none⟩) (Array.getElem?_eq_some_iff.1 (L.out.cn (by omega)).1).1).trans ((cellOf (L.out.cn (by omega)).1 m).trans ((L.out.cn (by omega)).2.2.1 m (by omega)))
                      have m1 : (m : Int) < (zs.length : Int) := by omega
                      have m2 : (m : Int) < (N : Int) := by omega
                      have m0 : (0 : Int) ≤ (m : Int) := by omega
                      have LL := L
                      clear L b0 b1 CC CR HBX2
                      generalize Vw.tn 2 zs m = y at x1 x2
                      go_wp2_with fail
                      go_region_held3 (fun w' => w'.cell? ⟨gw, m, none⟩ = some (.int .i64 y) ∧ w'.cell? ⟨gn, m, none⟩ = some (.int .i64 y)) (go_keep) (fail)
                      all_goals
                        have HBY := hidIt HBZ.out.drew
                        clear x1 x2
                        generalize World.drew wz = wy at *
                        go_wp2_with fail
                        go_roundg (zs.length - (m + 1))
                        case measure => have := HGM.out; omega
                        exact ⟨m + 1, by omega, rfl, by go_num, HBY.out⟩
                    · have hmn' : ¬ (m : Int) < (zs.length : Int) := by omega
                      have HSX := hidIt (L.out.st.ext HBZ.out)
                      clear b0 b1 hmn
                      go_wp2_with fail
                      go_roundw
                      case rel => exact ⟨2 + 1, by omega, by go_num, HSX.out⟩
                      case measure => first | (simp [intOf]; done) | (simp [intOf]; omega)
        · have ht33 : ¬ (t : Int) < 3 := by omega
          obtain ⟨cu2, k1, k2, k3, k4⟩ := HS.out
          have K1 := hidIt k1
          have K3 := hidIt k3
          have K4 := hidIt k4
          clear k1 k2 k3 k4 HS ht3
          go_wp2_with fail
          go_loopg [12] (N - zs.length) (fun gi i wz => ∃ m : Nat, zs.length ≤ m ∧ m ≤ N ∧ gi = N - m ∧ i = .int .i64 m ∧ Hid (wz.heap[gw]? = some (.cells cu2 3 (0, 0)) ∧ Below w1.heap.size w1 wz))
          case atStart => exact ⟨zs.length, Nat.le_refl _, by omega, rfl, rfl, K1.out, K4.out⟩
          case round =>
            obtain ⟨m, hm0, hm, hgm, rfl, HW⟩ := hrel
            have HGM := hidIt hgm
            clear hgm K1 K4
            generalize wr = wz at *
            by_cases hmn : (m : Int) < (N : Int)
            · have x1 := (cellOf HW.out.1 m).trans (K3.out m hm0 (by omega))
              have hw7 : IntKind.i64.wrap (771 + (m : Int)) = 771 + (m : Int) := by rw [IntKind.wrap_i64]; omega
              have m0 : (0 : Int) ≤ (m : Int) := by omega
              go_wp2_with fail
              go_roundg (N - (m + 1))
              case measure => have := HGM.out; omega
              exact ⟨m + 1, by omega, by omega, rfl, by go_num, HW.out⟩
            · go_wp2_with fail
              go_ret
              exact ⟨rfl, ext_trans HB1.out HW.out.2⟩
end Go.Proofs.Ytcmglbgnpiociab
