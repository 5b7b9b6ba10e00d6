/- The document's Cell and At. -/
import Derived.Test.YtcmglbgnpiociabVCls
namespace Go.Proofs.Ytcmglbgnpiociab
open Go.RowKit

theorem own_cells {w : World} {base : Nat} {v : Value} {zs : List Int} (h : Own w base v zs) (h0 : 0 < zs.length) : ∃ g o c, v = .slice (some ⟨g, o, none⟩) zs.length c ∧ c ≤ 9223372036854775807 ∧ g < w.heap.size ∧ ∀ i x, zs[i]? = some x → w.cell? ⟨g, o + i, none⟩ = some (.int .i64 x) := by
  obtain ⟨g, o, c, hv, _, hc, hg, hcc⟩ := h.rd.at h0
  refine ⟨g, o, c, hv, hc, hg, fun i x hx => ?_⟩
  have hil := (List.getElem?_eq_some_iff.1 hx).1
  rw [hcc i hil]
  unfold Cl.at
  rw [hx]
  rfl
theorem Vw.bs_last (zs : List Int) (j p : Nat) (hp : (Cl.bs zs)[j]? = some p) (hj : j + 1 = (Cl.bs zs).length) : p = zs.length := by
  have h1 := Cl.bs_at zs zs.length (Nat.le_refl _) (Cl.isB_end zs)
  have h2 := Cl.bs_len zs
  rw [show Cl.cnt zs zs.length = j by omega, hp] at h1
  exact Option.some.inj h1

set_option maxRecDepth 100000 in
set_option maxHeartbeats 2000000 in
theorem r_Cell_any (v : Value) (zs : List Int) (a : Int) (w : World) (hr : Rd .i64 w v zs) (hz : zs.length * 8 ≤ 140737488351232) : Calls Try.prog 12 #[v, .int .i64 a] w fun e w' => e = .returned (.int .i64 (Vw.cell zs a : Nat)) ∧ Below w.heap.size w w' := by
  have CL := hidIt (Cells_any v zs w hr hz)
  obtain ⟨ao, cap, rfl⟩ : ∃ ao cap, v = .slice ao zs.length cap := by obtain ⟨ao, cap, hv, _⟩ := hr; exact ⟨ao, cap, hv⟩
  clear hr
  go_enter Try.func12, Try.ntmps12
  go_wp2_with fail
  refine CL.out.mono ?_
  rintro e w3 ⟨bv, cv, rfl, hbo, hco, hb3⟩
  have hbl : (Cl.bi zs).length = (Cl.bs zs).length := by unfold Cl.bi; rw [List.length_map]
  have hb1 : 1 ≤ (Cl.bs zs).length := by have := (List.getElem?_eq_some_iff.1 (Cl.bs_zero zs)).1; omega
  have hbz := Cl.bi_le zs
  obtain ⟨bg, bf, bc, rfl, hbc, hbg, hbb⟩ := own_cells hbo (by omega)
  obtain ⟨cg, cf, cc, rfl, hcc, hcg, hcv⟩ := own_cells hco (by rw [Vw.ci_len]; omega)
  rw [hbl] at hbz
  have HBB : Hid (∀ i p, (Cl.bs zs)[i]? = some p → w3.cell? ⟨bg, bf + i, none⟩ = some (.int .i64 (p : Nat)) ∧ w3.cell? ⟨cg, cf + i, none⟩ = some (.int .i64 (Vw.cell zs (p : Int) : Nat))) := fun i p hp =>
    ⟨hbb i _ (by rw [Cl.bi_get, hp]; rfl), hcv i _ (by unfold Vw.ci; rw [List.getElem?_map, hp]; rfl)⟩
  have HB3 := hidIt hb3
  rw [Vw.ci_len, hbl]
  obtain ⟨nb, hnb⟩ : ∃ nb, nb = (Cl.bs zs).length := ⟨_, rfl⟩
  rw [← hnb] at hb1 hbz ⊢
  have HNB := hidIt hnb
  clear hnb hbb hcv hbo hco hb3 hbl CL
  go_wp2_with fail
  go_loopw [7, 8] (fun c i wr => ∃ j x : Nat, j ≤ nb ∧ i = .int .i64 j ∧ c = .int .i64 x ∧ Hid (wr = w3) ∧ Hid ((j = 0 ∧ x = 0) ∨ ∃ p, (Cl.bs zs)[j - 1]? = some p ∧ 0 < j ∧ x = Vw.cell zs (min a (p : Int)))) (fun _ i _ => nb - (intOf i).toNat)
  case atStart => exact ⟨0, 0, by omega, rfl, rfl, rfl, .inl ⟨rfl, rfl⟩⟩
  case round =>
    obtain ⟨j, x, hj, rfl, rfl, hw, HX⟩ := hrel
    obtain rfl : w3 = wr := hw.out.symm
    clear hw
    have wj : IntKind.i64.wrap ((j : Int) + 1) = (j : Int) + 1 := by rw [IntKind.wrap_i64]; omega
    by_cases hlt : j < nb
    · obtain ⟨p, hp⟩ : ∃ p, (Cl.bs zs)[j]? = some p := ⟨_, List.getElem?_eq_getElem (by rw [← HNB.out]; omega)⟩
      obtain ⟨k1, k2⟩ := HBB.out j p hp
      have j0 : (0 : Int) ≤ (j : Int) := by omega
      have j1 : (j : Int) < (nb : Int) := by omega
      have HP := hidIt hp
      by_cases hpa : (p : Int) ≤ a
      · have HN : Hid (Vw.cell zs (p : Int) = Vw.cell zs (min a (p : Int))) := by unfold Hid; congr 1; omega
        generalize Vw.cell zs (p : Int) = y at *
        clear hp
        go_wp2_with fail
        go_roundw
        case rel => exact ⟨j + 1, y, by omega, by go_num, rfl, (by first | exact rfl | exact True.intro), .inr ⟨p, HP.out, by omega, HN.out⟩⟩
        case measure => simp [intOf]; omega
      · have HN : Hid (x = Vw.cell zs (min a (p : Int))) := by
          unfold Hid
          rw [show min a (p : Int) = a by omega]
          rcases HX.out with ⟨h0, hx0⟩ | ⟨q, hq, hj0, hxq⟩
          · subst h0
            rw [Cl.bs_zero] at hp
            cases hp
            rw [hx0, Vw.cell_neg zs a (by omega)]
          · rw [hxq]
            have hq1 : j - 1 + 1 = j := by omega
            obtain ⟨hql, hqn, _⟩ := Cl.bs_next zs (j - 1) q hq (by rw [← HNB.out]; omega)
            rw [hq1, hp] at hqn
            cases hqn
            obtain ⟨c, pre, hd⟩ := Vw.dec_at zs _ _ hq
            by_cases hqa : (q : Int) ≤ a
            · rw [show min a (q : Int) = (q : Int) by omega, hd.own, hd.cell a hqa (fun _ => by omega)]
            · rw [show min a (q : Int) = a by omega]
        have hpa' : a < (p : Int) := by omega
        generalize Vw.cell zs (p : Int) = y at *
        clear hp hpa
        go_wp2_with fail
        go_roundw
        case rel => exact ⟨j + 1, x, by omega, by go_num, rfl, (by first | exact rfl | exact True.intro), .inr ⟨p, HP.out, by omega, HN.out⟩⟩
        case measure => simp [intOf]; omega
    · have HN : Hid (x = Vw.cell zs a) := by
        unfold Hid
        rcases HX.out with ⟨h0, _⟩ | ⟨q, hq, hj0, hxq⟩
        · omega
        · have hql := Vw.bs_last zs (j - 1) q hq (by rw [← HNB.out]; omega)
          obtain ⟨c, pre, hd⟩ := Vw.dec_at zs _ _ hq
          rw [hxq]
          by_cases hqa : (q : Int) ≤ a
          · rw [show min a (q : Int) = (q : Int) by omega, hd.own, hd.cell a hqa (fun h => by omega)]
          · rw [show min a (q : Int) = a by omega]
      have j1 : ¬ (j : Int) < (nb : Int) := by omega
      go_wp2_with fail
      go_ret
      exact ⟨ret_int (by rw [HN.out]), HB3.out⟩

set_option maxRecDepth 100000 in
set_option maxHeartbeats 2000000 in
theorem r_At_any (v : Value) (zs : List Int) (a : Int) (w : World) (hr : Rd .i64 w v zs) (hz : zs.length * 8 ≤ 140737488351232) : Calls Try.prog 14 #[v, .int .i64 a] w fun e w' => e = .returned (.int .i64 (Vw.at zs a : Nat)) ∧ Below w.heap.size w w' := by
  have CL := hidIt (Cells_any v zs w hr hz)
  obtain ⟨ao, cap, rfl⟩ : ∃ ao cap, v = .slice ao zs.length cap := by obtain ⟨ao, cap, hv, _⟩ := hr; exact ⟨ao, cap, hv⟩
  clear hr
  by_cases ha : a < 0
  · have HQ := hidIt (Vw.at_neg zs a ha)
    clear CL
    go_enter Try.func14, Try.ntmps14
    go_wp2_with fail
    go_ret
    exact ⟨ret_int (by rw [HQ.out]; rfl), Below.refl _ _⟩
  obtain ⟨k, rfl⟩ : ∃ k : Nat, a = (k : Int) := ⟨a.toNat, by omega⟩
  go_enter Try.func14, Try.ntmps14
  go_wp2_with fail
  refine CL.out.mono ?_
  rintro e w3 ⟨bv, cv, rfl, hbo, hco, hb3⟩
  have hbl : (Cl.bi zs).length = (Cl.bs zs).length := by unfold Cl.bi; rw [List.length_map]
  have hb1 : 1 ≤ (Cl.bs zs).length := by have := (List.getElem?_eq_some_iff.1 (Cl.bs_zero zs)).1; omega
  have hbz := Cl.bi_le zs
  obtain ⟨bg, bf, bc, rfl, hbc, hbg, hbb⟩ := own_cells hbo (by omega)
  obtain ⟨cg, cf, cc, rfl, hcc, hcg, hcv⟩ := own_cells hco (by rw [Vw.ci_len]; omega)
  rw [hbl] at hbz
  have HBB : Hid (∀ i p, (Cl.bs zs)[i]? = some p → w3.cell? ⟨bg, bf + i, none⟩ = some (.int .i64 (p : Nat)) ∧ w3.cell? ⟨cg, cf + i, none⟩ = some (.int .i64 (Vw.cell zs (p : Int) : Nat))) := fun i p hp =>
    ⟨hbb i _ (by rw [Cl.bi_get, hp]; rfl), hcv i _ (by unfold Vw.ci; rw [List.getElem?_map, hp]; rfl)⟩
  have HB3 := hidIt hb3
  rw [Vw.ci_len, hbl]
  obtain ⟨nb, hnb⟩ : ∃ nb, nb = (Cl.bs zs).length := ⟨_, rfl⟩
  rw [← hnb] at hb1 hbz ⊢
  have HNB := hidIt hnb
  clear hnb hbb hcv hbo hco hb3 hbl CL
  go_wp2_with fail
  go_loopw [7] (fun i wr => ∃ j p : Nat, j + 1 ≤ nb ∧ i = .int .i64 j ∧ Hid (wr = w3) ∧ Hid ((Cl.bs zs)[j]? = some p ∧ Vw.cell zs (p : Int) ≤ k)) (fun i _ => nb - (intOf i).toNat)
  case atStart => exact ⟨0, 0, by omega, rfl, rfl, Cl.bs_zero zs, by rw [(Vw.dec_zero zs).own]; omega⟩
  case round =>
    obtain ⟨j, p, hj, rfl, hw, HX⟩ := hrel
    obtain rfl : w3 = wr := hw.out.symm
    clear hw
    have wj : IntKind.i64.wrap ((j : Int) + 1) = (j : Int) + 1 := by rw [IntKind.wrap_i64]; omega
    obtain ⟨c, pre, hd⟩ := Vw.dec_at zs _ _ HX.out.1
    have hck := HX.out.2
    have hco := hd.own
    by_cases hlt : j + 1 < nb
    · obtain ⟨hpl, hpn, _⟩ := Cl.bs_next zs j p HX.out.1 (by rw [← HNB.out]; omega)
      obtain ⟨k1, k2⟩ := HBB.out j p HX.out.1
      obtain ⟨k3, k4⟩ := HBB.out (j + 1) _ hpn
      have hno := (hd.next hpl).own
      obtain ⟨E, hE⟩ : ∃ E, E = Cl.up zs (p + 1) := ⟨_, rfl⟩
      obtain ⟨D, hD⟩ : ∃ D, D = Vw.wd (Vw.clu zs p) c := ⟨_, rfl⟩
      rw [← hE] at k3 k4 hno hpn
      rw [← hD] at hno
      rw [hno] at k4
      rw [hco] at k2 hck
      have j0 : (0 : Int) ≤ (j : Int) := by omega
      have j1 : (j : Int) + 1 < (nb : Int) := by omega
      have j2 : (j : Int) < (nb : Int) := by omega
      have j3 : (0 : Int) ≤ (j : Int) + 1 := by omega
      have j4 : ((j : Int) + 1).toNat = j + 1 := by omega
      have c1 : (c : Int) ≤ (k : Int) := by omega
      have HPN := hidIt hpn
      have HNO := hidIt hno
      by_cases hin : k < c + D
      · have HQ := hidIt (hd.at hpl k hck (by rw [← hD]; exact hin))
        have c2 : (k : Int) < ((c + D : Nat) : Int) := by omega
        clear hd hpn hno hco hE hD hck hin
        go_wp2_with fail
        go_ret
        exact ⟨ret_int (by rw [HQ.out]), HB3.out⟩
      · have c2 : ¬ (k : Int) < ((c + D : Nat) : Int) := by omega
        have HNK : Hid (Vw.cell zs (E : Int) ≤ k) := by unfold Hid; rw [HNO.out]; omega
        clear hd hpn hno hco hE hD hck hin
        go_wp2_with fail
        go_roundw
        case rel => exact ⟨j + 1, E, by omega, by go_num, (by first | exact rfl | exact True.intro), HPN.out, HNK.out⟩
        case measure => simp [intOf]; omega
    · have hpe := Vw.bs_last zs j p HX.out.1 (by rw [← HNB.out]; omega)
      have HQ : Hid (Vw.at zs (k : Int) = zs.length) := by
        subst hpe
        exact hd.end k (by rw [← hco]; exact hck)
      have j1 : ¬ (j : Int) + 1 < (nb : Int) := by omega
      clear hd hco hck hpe
      go_wp2_with fail
      go_ret
      exact ⟨ret_int (by rw [HQ.out]), HB3.out⟩
end Go.Proofs.Ytcmglbgnpiociab
