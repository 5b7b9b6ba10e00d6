/- ClusterKept: the walk. -/
import Derived.Test.YtahjjpleceppaaaKept4
import Derived.Deep.RegionHeld3
namespace Go.Proofs.Ytahjjpleceppaaa
open Go.RowKit

theorem Try.info_sl : (Try.prog.info? 22).map (fun i => (i.zero, i.size, i.bytes)) = some (some (.slice none 0 0), 1, 24) := by kernel_rfl
theorem Try.info_held : (Try.prog.info? 39).map (fun i => (i.zero, i.size, i.bytes)) = some (some (.agg #[.slice none 0 0, .slice none 0 0, .int .i64 0]), 3, 56) := by kernel_rfl
theorem one_sl (a : Option Addr) (n c : Nat) : ∀ u ∈ [Value.slice a n c], u.oneCell' = true := by intro u hu; simp at hu; subst hu; rfl
theorem Rd.pre {w : World} {b n cap : Nat} {zs ys : List Int} (h : Rd .i64 w (.slice (some ⟨b, 0, none⟩) n cap) (zs ++ ys)) : Rd .i64 w (.slice (some ⟨b, 0, none⟩) zs.length cap) zs := by
  obtain ⟨ao, cap', hv, h1, h2, h3⟩ := h
  simp only [Value.slice.injEq] at hv
  obtain ⟨rfl, _, rfl⟩ := hv
  rw [List.length_append] at h1
  refine ⟨_, cap, rfl, by omega, h2, fun hn => ?_⟩
  obtain ⟨b', off, ha, hlt, hc⟩ := h3 (by simp [hn])
  refine ⟨b', off, ha, hlt, fun i hi => ?_⟩
  rw [hc i (by rw [List.length_append]; omega), List.getElem?_append_left hi]

theorem own_at {w : World} {base : Nat} {e : TypeId} {v : Value} {n : Nat} {xs : List Value} (h : w.ownsRow base e 1 v n xs) (hn : 0 < n) : ∃ g cap, v = .slice (some ⟨g, 0, none⟩) n cap ∧ base ≤ g ∧ g < w.heap.size ∧ n ≤ cap ∧ cap ≤ 9223372036854775807 := by
  obtain ⟨h1, h2⟩ := h
  rcases h2 with ⟨hv, h0⟩ | ⟨g', cap', cur, hv, hb, hg, hn, hc, hs, ht⟩
  · omega
  · exact ⟨g', cap', hv, hb, (Array.getElem?_eq_some_iff.1 hg).1, hn, hc⟩
theorem held_form {w : World} {base : Nat} {e : TypeId} {size : Nat} {v : Value} {n : Nat} {xs : List Value} (h : w.ownsRow base e size v n xs) : ∃ ao cap, v = .slice ao n cap := by
  obtain ⟨h1, h2⟩ := h
  rcases h2 with ⟨hv, h0⟩ | ⟨g', cap', cur, hv, hb, hg, hn, hc, hs, ht⟩
  · exact ⟨none, 0, by rw [hv, h0]⟩
  · exact ⟨_, cap', hv⟩
theorem more_ok {w : World} {base g cap : Nat} {mk : Int} {more : Value} (h : MoreOk w base g cap mk more) (hA : AR w g cap mk) (hc : cap ≤ maxLen) : AllM w more mk ∧ ∀ b, more.ownBlock = some b → b = g ∨ (base ≤ b ∧ b < w.heap.size) := by
  rcases h with ⟨n, rfl, hn⟩ | ⟨n, h⟩
  · refine ⟨⟨_, hA.rd hn hn hc, fun x hx => (List.mem_replicate.1 hx).2⟩, fun b e => ?_⟩
    simp [Value.ownBlock] at e
    exact .inl e.symm
  · refine ⟨⟨List.replicate n mk, Rd.of_own (base := base) (e := 3) (n := n) (by simpa using h), fun x hx => (List.mem_replicate.1 hx).2⟩, fun b e => .inr (h.lt b e)⟩
theorem cells3_new (w : World) (a b c : Value) (e : TypeId) : ∀ j u, [a, b, c][j]? = some u → (w.alloc (.cells #[a, b, c] e)).cell? ((⟨w.heap.size, 0, none⟩ : Addr).add j) = some u := by
  intro j u hu
  rcases j with _ | _ | _ | j
  · simp at hu; subst hu; simp [Addr.add]
  · simp at hu; subst hu; simp [Addr.add]
  · simp at hu; subst hu; simp [Addr.add]
  · simp at hu
/-- What holds ahead of each list. -/
def Cl.KL (w wr : World) (vH vQ : Value) (k : Nat) (zss : List (List Int)) : Prop :=
  ∃ hs qs ρ, KI w wr vH vQ hs qs ρ 0 ∧ hs.length = k ∧ qs.length = 2 * k ∧ ∀ j, j < k → ∃ u v, qs[2 * j]? = some (u, Cl.bi (zss[j]?.getD [])) ∧ qs[2 * j + 1]? = some (v, Cl.bi (zss[j]?.getD []))

set_option maxRecDepth 100000 in
set_option maxHeartbeats 8000000 in
theorem law_kept (v0 : Value) (zss : List (List Int)) (at' : Int) (w : World) (h0 : RdL w v0 zss) (hz : ∀ i, i < zss.length → (zss[i]?.getD []).length * 8 ≤ 140737488351232) :
    Calls Try.prog 11 #[v0, .int .i64 at'] w fun e w' => e = .returned (.bool true) ∧ Below w.heap.size w w' := by
  obtain ⟨a0, c0, rfl, hl0, hm0, hc0⟩ := h0
  have hm0' : c0 ≤ 9223372036854775807 := hm0
  have HL : Hid (0 < zss.length → ∃ b off, a0 = some ⟨b, off, none⟩ ∧ b < w.heap.size ∧ ∀ i, i < zss.length → ∃ ai ci, w.cell? ⟨b, off + i, none⟩ = some (.slice ai (zss[i]?.getD []).length ci) ∧ Rd .i64 w (.slice ai (zss[i]?.getD []).length ci) (zss[i]?.getD [])) := hc0
  have HZ : Hid (∀ i, i < zss.length → (zss[i]?.getD []).length * 8 ≤ 140737488351232) := hz
  obtain ⟨i0, hi, hz0, hz1, hz2⟩ := info_parts Try.info_i64
  obtain ⟨iS, hiS, hzS0, hzS1, hzS2⟩ := info_parts Try.info_sl
  obtain ⟨iH, hiH, hzH0, hzH1, hzH2⟩ := info_parts Try.info_held
  clear hc0 hm0 hz
  go_enter Try.func11, Try.ntmps11
  go_wp2_with fail
  refine (Breaks_any _ [] _ (Rd.nil _ _) (by simp)).mono ?_
  rintro e wa ⟨ua, rfl, hoa, hba⟩
  obtain ⟨da, ea, rfl⟩ := hoa.rd.form
  rw [show (Cl.bi []).length = 1 from by rw [Cl.bi_len, show ([] : List Int).length = 0 from rfl, Cl.cnt_zero]]
  have HI0 : Hid (Cl.KL w wa (.slice none 0 0) (.slice none 0 0) 0 zss) := ⟨[], [], fun _ => 0, ⟨hba, ⟨World.ownsRow_nil _ _ _ _, by simp⟩, World.ownsRow_nil _ _ _ _, by simp, by simp [Value.ownBlock], by simp [Value.ownBlock], by simp, by simp⟩, rfl, rfl, fun j hj => by omega⟩
  clear hoa hba
  go_wp2_with fail
  go_loopw [5, 6, 7] (fun vH vQ i wr => ∃ k : Nat, k ≤ zss.length ∧ k ≤ 60 ∧ i = .int .i64 k ∧ Hid (Cl.KL w wr vH vQ k zss)) (fun _ _ i _ => 60 - (intOf i).toNat)
  case atStart => exact ⟨0, Nat.zero_le _, by omega, rfl, HI0.out⟩
  case round =>
    obtain ⟨k, hk, hk60, rfl, HKL⟩ := hrel
    clear HI0
    obtain ⟨w0, hw0⟩ : ∃ x, x = wr := ⟨_, rfl⟩
    subst hw0
    obtain ⟨hs, qs, ρ, hKI, hhl, hql, hqs⟩ := HKL.out
    have HKI : Hid (KI w w0 u5 u6 hs qs ρ 0) := hKI
    have HQS : Hid (∀ j, j < k → ∃ u v, qs[2 * j]? = some (u, Cl.bi (zss[j]?.getD [])) ∧ qs[2 * j + 1]? = some (v, Cl.bi (zss[j]?.getD []))) := hqs
    have HHL : Hid (hs.length = k) := hhl
    have HQL : Hid (qs.length = 2 * k) := hql
    clear HKL hqs
    by_cases hlt : k < zss.length ∧ k < 60
    · obtain ⟨hlt1, hlt2⟩ := hlt
      have hd1 : decide ((k : Int) < (zss.length : Int)) = true := by simp; omega
      have hd2 : decide ((k : Int) < 60) = true := by simp; omega
      obtain ⟨b, off, rfl, hbl, hall⟩ := HL.out (by omega)
      obtain ⟨ai, ci, hcz, hrz⟩ := hall k hlt1
      have hzb := HZ.out k hlt1
      generalize hzz : zss[k]?.getD [] = z at *
      have HZZ : Hid (zss[k]?.getD [] = z) := hzz
      have HCL : Hid (∀ w', Below w.heap.size w w' → w'.cell? ⟨b, off + k, none⟩ = some (.slice ai z.length ci)) := fun w' hw => (hw.cell (p := ⟨b, off + k, none⟩) hbl).trans hcz
      have HRZ : Hid (∀ w', Below w.heap.size w w' → Rd .i64 w' (.slice ai z.length ci) z) := fun w' hw => hrz.ext hw
      have mz := Cl.bi_le z
      have mzp : 0 < (Cl.bi z).length := by rw [Cl.bi_len]; omega
      have hcl0 := HCL.out w0 hKI.below
      have hsz0 : w.heap.size ≤ w0.heap.size := hKI.below.size
      have hrowQ := hKI.quiet
      rw [hql] at hrowQ
      clear hall hcz hrz hKI hzz HZ
      have CPY : Hid (∀ w', Below w.heap.size w w' → Calls Try.prog 17 #[.slice ai z.length ci] w' fun e w'' => ∃ v', e = .returned v' ∧ Own w'' w'.heap.size v' z ∧ Below w'.heap.size w' w'') := fun w' hw => copied_any _ z w' (HRZ.out w' hw) (by omega)
      have B0 : Hid (Below w.heap.size w w0) := HKI.out.below
      go_wp2_with (first | (go_at_call 17; refine (CPY.out _ B0.out).mono ?_; rintro e w1 ⟨u1, rfl, ho1, hb1⟩; have R1 : Hid (Rd .i64 w1 u1 z ∧ Below w0.heap.size w0 w1) := ⟨ho1.rd, hb1⟩; clear ho1 hb1 B0) | (go_at_call 16; refine (Breaks_any _ z _ R1.out.1 (by omega)).mono ?_; rintro e w2 ⟨u2, rfl, ho2, hb2⟩; obtain ⟨d2, e2, rfl⟩ := ho2.rd.form; have R2 : Hid (Own w2 w0.heap.size (.slice d2 (Cl.bi z).length e2) (Cl.bi z) ∧ Below w0.heap.size w0 w2) := ⟨ho2.le R1.out.2.size, ext_trans R1.out.2 hb2⟩; have hrowQ2 := own_ext hrowQ R2.out.2; have hsz2 : w0.heap.size ≤ w2.heap.size := R2.out.2.size; clear ho2 hb2 hrowQ R1) | (at_builtin; refine wpList_append_blk _ rfl _ _ 29 rfl w.heap.size 22 iS (.slice none 0 0) 1 24 Try.underlying29 hiS hzS0 hzS1 hzS2 rfl (by decide) _ _ _ rfl (hrowQ2.alloc _) ⟨w2.heap.size, 0, none⟩ 1 1 [.slice d2 (Cl.bi z).length e2] rfl rfl (cell_one_new _ _ _) (one_sl _ _ _) (by unfold maxLen; omega) (by omega) (by simp; omega) (by decide) ?_; intro vQ1 w3 hoQ1 hgQ1 hxQ1; have A1 : Hid (∃ ρ', KI w w3 u5 vQ1 hs (qs ++ [(.slice d2 (Cl.bi z).length e2, Cl.bi z)]) ρ' 0) := HKI.out.addQuiet R2.out.2 R2.out.1 mzp (by rw [HQL.out]; exact hoQ1) hgQ1 hxQ1; have B3 : Hid (Below w.heap.size w w3) := A1.out.choose_spec.below; have hcl3 := HCL.out w3 B3.out; have hsz3 : w.heap.size ≤ w3.heap.size := B3.out.size; clear hgQ1 hxQ1 hrowQ2 R2) | (go_at_call 17; refine (CPY.out _ B3.out).mono ?_; rintro e w4 ⟨u4, rfl, ho4, hb4⟩; have R4 : Hid (Rd .i64 w4 u4 z ∧ Below w3.heap.size w3 w4) := ⟨ho4.rd, hb4⟩; clear ho4 hb4 B3) | (go_at_call 16; refine (Breaks_any _ z _ R4.out.1 (by omega)).mono ?_; rintro e w5 ⟨u5', rfl, ho5, hb5⟩; obtain ⟨d5, e5, rfl⟩ := ho5.rd.form; have R5 : Hid (Own w5 w3.heap.size (.slice d5 (Cl.bi z).length e5) (Cl.bi z) ∧ Below w3.heap.size w3 w5) := ⟨ho5.le R4.out.2.size, ext_trans R4.out.2 hb5⟩; have hrowQ5 := own_ext hoQ1 R5.out.2; have hsz5 : w3.heap.size ≤ w5.heap.size := R5.out.2.size; clear ho5 hb5 hoQ1 R4) | (at_builtin; refine wpList_append_blk _ rfl _ _ 29 rfl w.heap.size 22 iS (.slice none 0 0) 1 24 Try.underlying29 hiS hzS0 hzS1 hzS2 rfl (by decide) _ _ _ rfl (hrowQ5.alloc _) ⟨w5.heap.size, 0, none⟩ 1 1 [.slice d5 (Cl.bi z).length e5] rfl rfl (cell_one_new _ _ _) (one_sl _ _ _) (by unfold maxLen; omega) (by omega) (by simp; omega) (by decide) ?_; intro vQ2 w6 hoQ2 hgQ2 hxQ2; have A2 : Hid (∃ ρ', KI w w6 u5 vQ2 hs (qs ++ [(.slice d2 (Cl.bi z).length e2, Cl.bi z)] ++ [(.slice d5 (Cl.bi z).length e5, Cl.bi z)]) ρ' 0) := A1.out.choose_spec.addQuiet R5.out.2 R5.out.1 mzp (by rw [List.length_append, HQL.out, List.map_append]; exact hoQ2) hgQ2 hxQ2; have B6 : Hid (Below w.heap.size w w6) := A2.out.choose_spec.below; have hcl6 := HCL.out w6 B6.out; have hsz6 : w.heap.size ≤ w6.heap.size := B6.out.size; obtain ⟨gQ, eQ, hvQ, hQb, hQl, hQ1, hQ2⟩ := own_at hoQ2 (by omega); subst hvQ; clear hgQ2 hxQ2 hrowQ5 R5) | (go_at_call 33; refine (lent_any _ z _ _ (HRZ.out _ B6.out) (by omega) (by omega) (by omega)).mono ?_; rintro e w7 ⟨u7', rfl, ho7, hb7⟩; obtain ⟨gw, cw, hvw, hgw, hgwl, hcw1, hcw2⟩ := ho7.at (by rw [List.length_append, Cl.marks_len]; omega); rw [List.length_append, Cl.marks_len] at hvw hcw1; subst hvw; have R7 : Hid (Own w7 w6.heap.size (.slice (some ⟨gw, 0, none⟩) (z.length + 120) cw) (z ++ Cl.marks (7001 + (k : Int)) 120) ∧ Below w6.heap.size w6 w7) := ⟨ho7, hb7⟩; have hcl7 := HCL.out w7 (ext_trans B6.out hb7); clear ho7 hb7 B6) | (go_at_call 16; refine (Breaks_any _ z _ R7.out.1.rd.pre (by omega)).mono ?_; rintro e w8 ⟨u8', rfl, ho8, hb8⟩; obtain ⟨gb, cb, hvb, hgb, hgbl, hcb1, hcb2⟩ := ho8.at mzp; subst hvb; have R8 : Hid (Own w8 w7.heap.size (.slice (some ⟨gb, 0, none⟩) (Cl.bi z).length cb) (Cl.bi z) ∧ Below w7.heap.size w7 w8) := ⟨ho8, hb8⟩; have hs78 : w7.heap.size ≤ w8.heap.size := hb8.size; clear ho8 hb8) | (go_at_call 18; refine (ends_any _ _ _ _ R8.out.1.rd (Cl.bi_rise _)).mono ?_; rintro e w9 ⟨rfl, hb9⟩; have R9 : Hid (Below w8.heap.size w8 w9) := hb9; clear hb9) | fail)
      have hs89 : w8.heap.size ≤ w9.heap.size := R9.out.size
      have hs67 : w6.heap.size ≤ w7.heap.size := R7.out.2.size
      refine (hold_any _ (Cl.bi z) (1000000 + (k : Int)) w7.heap.size _ (R8.out.1.ext R9.out) mzp (by omega)).mono ?_
      rintro e w10 ⟨g', cap', more, hv', hBg, rfl, hAR, hcm, hMO, hgr⟩
      simp only [Value.slice.injEq, Option.some.injEq, Addr.mk.injEq, and_true, true_and] at hv'
      obtain ⟨rfl, rfl⟩ := hv'
      obtain ⟨mM, mB⟩ := more_ok hMO hAR hcm
      obtain ⟨dm, nm, em, hmf⟩ := mM.form
      subst hmf
      have rM : AllM w10 (.slice (some ⟨gb, 0, none⟩) cb cb) (1000000 + (k : Int)) := ⟨_, hAR.rd (Nat.le_refl _) (Nat.le_refl _) hcm, fun x hx => (List.mem_replicate.1 hx).2⟩
      have B69 : Below w6.heap.size w6 w9 := ext_trans R7.out.2 (ext_trans R8.out.2 R9.out)
      have B610 : Below w6.heap.size w6 w10 := ⟨hgr.os.trans B69.os, hgr.tape.trans B69.tape, hgr.output.trans B69.output, Nat.le_trans B69.size hgr.size, fun x hx => (hgr.block x (Nat.lt_of_lt_of_le hx B69.size) (by simp; omega)).trans (B69.block x hx)⟩
      have hs910 : w9.heap.size ≤ w10.heap.size := hgr.size
      obtain ⟨ρ2, hK2⟩ := A2.out
      have HK2 : Hid (KI w w6 u5 (.slice (some ⟨gQ, 0, none⟩) (2 * k + 1 + 1) eQ) hs (qs ++ [(.slice d2 (Cl.bi z).length e2, Cl.bi z)] ++ [(.slice d5 (Cl.bi z).length e5, Cl.bi z)]) ρ2 0) := hK2
      have hrowH := own_ext hK2.held.1 B610
      rw [HHL.out] at hrowH
      have HW10 : Hid (Own w10 w6.heap.size (.slice (some ⟨gw, 0, none⟩) (z.length + 120) cw) (z ++ Cl.marks (7001 + (k : Int)) 120)) := row_keep ((R7.out.1.ext R8.out.2).ext R9.out) hgr (fun x e => by simp [Value.ownBlock] at e; simp; omega)
      have HUB : Hid (∀ x, Value.ownBlock u5 = some x → x < w6.heap.size) := fun x e => (hK2.held.1.lt x e).2
      have HMM : Hid (AllM w10 (.slice (some ⟨gb, 0, none⟩) cb cb) (1000000 + (k : Int)) ∧ AllM w10 (.slice dm nm em) (1000000 + (k : Int)) ∧ Below w6.heap.size w6 w10 ∧ ∀ x, Value.ownBlock (.slice dm nm em) = some x → x = gb ∨ (w9.heap.size ≤ x ∧ x < w10.heap.size)) := ⟨rM, mM, B610, mB⟩
      clear hgr hAR hMO rM mM mB B69 B610 hK2 A2 A1 R8 R9 R7 hcm
      go_wp2_with (at_builtin; refine wpList_append_blk _ rfl _ _ 37 rfl w.heap.size 39 iH (.agg #[.slice none 0 0, .slice none 0 0, .int .i64 0]) 3 56 Try.underlying37 hiH hzH0 hzH1 hzH2 rfl (by decide) _ _ _ rfl (hrowH.alloc _) ⟨w10.heap.size, 0, none⟩ 1 1 [.slice (some ⟨gb, 0, none⟩) cb cb, .slice dm nm em, .int .i64 (1000000 + (k : Int))] rfl rfl (cells3_new _ _ _ _ _) (by intro u hu; simp at hu; rcases hu with rfl | rfl | rfl <;> rfl) (by unfold maxLen; omega) (by omega) (by simp; omega) (by decide) ?_; intro vH1 w11 hoH1 hgH1 hxH1; have A3 : Hid (∃ ρ', KI w w11 vH1 (.slice (some ⟨gQ, 0, none⟩) (2 * k + 1 + 1) eQ) (hs ++ [(.slice (some ⟨gb, 0, none⟩) cb cb, .slice dm nm em, 1000000 + (k : Int))]) (qs ++ [(.slice d2 (Cl.bi z).length e2, Cl.bi z)] ++ [(.slice d5 (Cl.bi z).length e5, Cl.bi z)]) ρ' 0 ∧ ∀ g, some gw = some g → ρ' g = 3) := HK2.out.addHeld (Nat.le_refl _) (grown_of_below HMM.out.2.2.1) (fun _ e => by cases e) HMM.out.1 HMM.out.2.1 (fun x e => by { simp [Value.ownBlock] at e; subst e; exact ⟨by omega, .inl (by omega), by simp; omega⟩ }) (fun x e => by { rcases HMM.out.2.2.2 x e with h | h; exact ⟨by omega, .inl (by omega), by simp; omega⟩; exact ⟨by omega, .inl (by omega), by simp; omega⟩ }) (fun x e => by { simp at e; omega }) (by rw [HHL.out]; exact hoH1) hgH1 hxH1; have W11 : Hid (Own w11 w6.heap.size (.slice (some ⟨gw, 0, none⟩) (z.length + 120) cw) (z ++ Cl.marks (7001 + (k : Int)) 120)) := row_keep (HW10.out.alloc _) hgH1 (fun x e e2 => by { have := HUB.out x e2.symm; simp [Value.ownBlock] at e; omega }); obtain ⟨dH, eH, hvH⟩ := held_form hoH1; subst hvH; clear hgH1 hxH1 hrowH HW10 hoH1)
      obtain ⟨ρ3, hK3, hρ3⟩ := A3.out
      have HK3 : Hid (KI w w11 (.slice dH (k + 1) eH) (.slice (some ⟨gQ, 0, none⟩) (2 * k + 1 + 1) eQ) (hs ++ [(.slice (some ⟨gb, 0, none⟩) cb cb, .slice dm nm em, 1000000 + (k : Int))]) (qs ++ [(.slice d2 (Cl.bi z).length e2, Cl.bi z)] ++ [(.slice d5 (Cl.bi z).length e5, Cl.bi z)]) ρ3 0) := hK3
      have HR3 : Hid (ρ3 gw = 3) := hρ3 gw rfl
      have hqc : w11.cell? ⟨gQ, 2 * k, none⟩ = some (.slice d2 (Cl.bi z).length e2) := by
        have hq := hK3.quiet
        rw [show (qs ++ [(Value.slice d2 (Cl.bi z).length e2, Cl.bi z)] ++ [(Value.slice d5 (Cl.bi z).length e5, Cl.bi z)]).length = 2 * k + 1 + 1 from by simp [HQL.out]] at hq
        rw [hq.cellAt (2 * k) (by omega)]
        have : (qs.map (·.1)).length = 2 * k := by rw [List.length_map, HQL.out]
        simp only [List.map_append, List.map_cons, List.map_nil]
        rw [List.append_assoc, List.getElem?_append_right (by omega), this, Nat.sub_self]
        rfl
      have GIV : Hid (∀ w', Below w11.heap.size w11 w' → Rd .i64 w' (.slice (some ⟨gw, 0, none⟩) z.length cw) z) := fun w' hw => (W11.out.rd.ext hw).pre
      have B11 : Hid (Below w.heap.size w w11) := hK3.below
      have hQl11 : gQ < w11.heap.size := (hK3.quiet.lt gQ rfl).2
      have HCQ : Hid (∀ w', Below w11.heap.size w11 w' → w'.cell? ⟨gQ, 2 * k, none⟩ = some (.slice d2 (Cl.bi z).length e2)) := fun w' hw => (hw.cell (p := ⟨gQ, 2 * k, none⟩) hQl11).trans hqc
      have J1 : Hid (∀ w', Below w11.heap.size w11 w' → Calls Try.prog 29 #[.slice (some ⟨gw, 0, none⟩) z.length cw, .int .i64 at'] w' fun e w'' => e = .returned (.int .i64 (Cl.next z at')) ∧ Below w11.heap.size w11 w'') := fun w' hw => (Next_any _ z at' w' (GIV.out w' hw)).mono fun _ _ ⟨e1, e2⟩ => ⟨e1, ext_trans hw e2⟩
      have J2 : Hid (∀ w', Below w11.heap.size w11 w' → Calls Try.prog 30 #[.slice (some ⟨gw, 0, none⟩) z.length cw, .int .i64 at'] w' fun e w'' => e = .returned (.int .i64 (Cl.prev z at')) ∧ Below w11.heap.size w11 w'') := fun w' hw => (Prev_any _ z at' w' (GIV.out w' hw)).mono fun _ _ ⟨e1, e2⟩ => ⟨e1, ext_trans hw e2⟩
      have J3 : Hid (∀ w', Below w11.heap.size w11 w' → Calls Try.prog 24 #[.slice (some ⟨gw, 0, none⟩) z.length cw, .int .i64 at'] w' fun e w'' => e = .returned (.int .i64 (Cl.col z at')) ∧ Below w11.heap.size w11 w'') := fun w' hw => (Column_any _ z at' w' (GIV.out w' hw)).mono fun _ _ ⟨e1, e2⟩ => ⟨e1, ext_trans hw e2⟩
      have J4 : Hid (∀ w', Below w11.heap.size w11 w' → Calls Try.prog 25 #[.slice (some ⟨gw, 0, none⟩) z.length cw, .int .i64 at'] w' fun e w'' => e = .returned (.int .i64 (Cl.ofs z at')) ∧ Below w11.heap.size w11 w'') := fun w' hw => (Offset_any _ z at' w' (GIV.out w' hw)).mono fun _ _ ⟨e1, e2⟩ => ⟨e1, ext_trans hw e2⟩
      have J5 : Hid (∀ w', Below w11.heap.size w11 w' → Calls Try.prog 22 #[.slice (some ⟨gw, 0, none⟩) z.length cw] w' fun e w'' => e = .returned (.int .i64 (((Cl.bi z).length : Int) - 1)) ∧ Below w11.heap.size w11 w'') := fun w' hw => by
        have := Count_any _ z w' (GIV.out w' hw)
        rw [show ((Cl.cnt z z.length : Nat) : Int) = ((Cl.bi z).length : Int) - 1 from by rw [Cl.bi_len]; omega] at this
        exact this.mono fun _ _ ⟨e1, e2⟩ => ⟨e1, ext_trans hw e2⟩
      have J6 : Hid (∀ w', Below w11.heap.size w11 w' → Calls Try.prog 26 #[.slice (some ⟨gw, 0, none⟩) z.length cw, .int .i64 at'] w' fun e w'' => e = .returned (.int .i64 (Cl.snap z at')) ∧ Below w11.heap.size w11 w'') := fun w' hw => (Snap_any _ z at' w' (GIV.out w' hw)).mono fun _ _ ⟨e1, e2⟩ => ⟨e1, ext_trans hw e2⟩
      have J7 : Hid (∀ w', Below w11.heap.size w11 w' → Calls Try.prog 23 #[.slice (some ⟨gw, 0, none⟩) z.length cw, .int .i64 (Cl.snap z at')] w' fun e w'' => e = .returned (.bool true) ∧ Below w11.heap.size w11 w'') := fun w' hw => by
        have := IsBreak_any _ z (Cl.snap z at') w' (GIV.out w' hw)
        rw [Cl.isBi_nat z _ (Cl.snap_spec z at').1, (Cl.snap_spec z at').2.1] at this
        exact this.mono fun _ _ ⟨e1, e2⟩ => ⟨e1, ext_trans hw e2⟩
      have JS : Hid (∀ w', Below w11.heap.size w11 w' → Calls Try.prog 35 #[.slice dH (k + 1) eH] w' fun e w'' => e = .returned (.bool true) ∧ Below w11.heap.size w11 w'') := fun w' hw => (stands_any _ _ _ w' (HK3.out.ext hw).held).mono fun _ _ ⟨e1, e2⟩ => ⟨e1, ext_trans hw e2⟩
      have q1 : (((Cl.bi z).length : Int) - 1 != ((Cl.bi z).length : Int) - 1) = false := by simp
      obtain ⟨kk, hkk⟩ : ∃ x, x = 2 * k := ⟨_, rfl⟩
      have hwk : IntKind.i64.wrap (2 * (k : Int)) = (kk : Int) := by rw [IntKind.wrap_i64]; omega
      have hk1 : (0 : Int) ≤ (kk : Int) := by omega
      obtain ⟨mQ, hmQ⟩ : ∃ x, x = 2 * k + 1 + 1 := ⟨_, rfl⟩
      have hk2 : (kk : Int) < (mQ : Int) := by omega
      have hwl : IntKind.i64.wrap (((Cl.bi z).length : Int) - 1) = ((Cl.bi z).length : Int) - 1 := by rw [IntKind.wrap_i64]; omega
      rw [← hkk] at hqc HCQ
      have HMQ : Hid (mQ = 2 * k + 1 + 1) := hmQ
      have hQ1' : mQ ≤ eQ := by omega
      clear hkk hK3 hρ3 A3
      rw [← hmQ]
      clear hmQ hQ1
      go_wp2_with (first | (go_at_call 29; refine (J1.out _ (Below.refl _ _)).mono ?_; rintro e w12 ⟨rfl, hb12⟩; have B12 : Hid (Below w11.heap.size w11 w12) := hb12; clear hb12 J1) | (go_at_call 30; refine (J2.out _ B12.out).mono ?_; rintro e w13 ⟨rfl, hb13⟩; have B13 : Hid (Below w11.heap.size w11 w13) := hb13; clear hb13 J2) | (go_at_call 24; refine (J3.out _ B13.out).mono ?_; rintro e w14 ⟨rfl, hb14⟩; have B14 : Hid (Below w11.heap.size w11 w14) := hb14; clear hb14 J3) | (go_at_call 25; refine (J4.out _ B14.out).mono ?_; rintro e w15 ⟨rfl, hb15⟩; have B15 : Hid (Below w11.heap.size w11 w15) := hb15; have hqc := HCQ.out w15 B15.out; clear hb15 J4))
      go_region_held3 (fun w' => w'.cell? ⟨gQ, kk, none⟩ = some (.slice d2 (Cl.bi z).length e2)) (go_keep) (first | (go_at_call 22; refine (J5.out _ (by repeat (first | exact B15.out | apply Below.drew))).mono ?_; rintro e w16 ⟨rfl, hb16⟩; have B16 : Hid (Below w11.heap.size w11 w16) := hb16; have hqc := HCQ.out w16 B16.out; clear hb16) | (go_at_call 26; refine (J6.out _ (by repeat (first | exact B16.out | apply Below.drew))).mono ?_; rintro e w17 ⟨rfl, hb17⟩; have B17 : Hid (Below w11.heap.size w11 w17) := hb17; have hqc := HCQ.out w17 B17.out; clear hb17) | (go_at_call 23; refine (J7.out _ (by repeat (first | exact B17.out | apply Below.drew))).mono ?_; rintro e w18 ⟨rfl, hb18⟩; have B18 : Hid (Below w11.heap.size w11 w18) := hb18; have hqc := HCQ.out w18 B18.out; clear hb18))
      have hcl18 := HCL.out w18 (ext_trans B11.out B18.out)
      go_wp2_with (first | (go_at_call 33; refine (lent_any _ z _ _ (HRZ.out _ (ext_trans B11.out B18.out)) (by omega) (by omega) (by omega)).mono ?_; rintro e w19 ⟨u19, rfl, ho19, hb19⟩; have R19 : Hid (Rd .i64 w19 u19 (z ++ Cl.marks (7001 + (k : Int)) 120) ∧ Below w11.heap.size w11 w19) := ⟨ho19.rd, ext_trans B18.out hb19⟩; clear ho19 hb19) | (go_at_call 19; refine (same_any _ _ _ _ _ (W11.out.rd.ext R19.out.2) R19.out.1 rfl).mono ?_; rintro e w20 ⟨rfl, hb20⟩; have B20 : Hid (Below w11.heap.size w11 w20) := ext_trans R19.out.2 hb20; clear hb20) | (go_at_call 35; refine (JS.out _ B20.out).mono ?_; rintro e w21 ⟨rfl, hb21⟩; have B21 : Hid (Below w11.heap.size w11 w21) := hb21; clear hb21))
      have hL0 : ((z ++ Cl.marks (7001 + (k : Int)) 120).map (Value.int .i64)).length = z.length + 120 := by rw [List.length_map, List.length_append, Cl.marks_len]
      have W21 : Hid (w21.ownsRow w6.heap.size 3 1 (.slice (some ⟨gw, 0, none⟩) (z.length + 120) cw) (z.length + 120) ((z ++ Cl.marks (7001 + (k : Int)) 120).map (Value.int .i64))) := by
        have := W11.out.ext B21.out
        unfold Own at this
        rwa [List.length_append, Cl.marks_len] at this
      generalize hL0' : (z ++ Cl.marks (7001 + (k : Int)) 120).map (Value.int .i64) = L0 at *
      have HL0 : Hid (L0.length = z.length + 120) := hL0
      clear hL0 hL0' hqc hwk hwl
      obtain ⟨n1, hn1⟩ : ∃ x, x = z.length + 120 := ⟨_, rfl⟩
      have HN1 : Hid (n1 = z.length + 120) := hn1
      have hn1b : n1 ≤ 9223372036854775807 := by omega
      rw [← hn1] at W21 HL0 ⊢
      go_loopw [15] (fun i wq => ∃ j : Nat, j ≤ n1 ∧ i = .int .i64 j ∧ Hid (wq.ownsRow w6.heap.size 3 1 (.slice (some ⟨gw, 0, none⟩) n1 cw) n1 (List.replicate j (.int .i64 769) ++ L0.drop j)) ∧ Hid (w21.grownBy wq (some gw))) (fun i _ => n1 - (intOf i).toNat)
      case atStart => exact ⟨0, Nat.zero_le _, rfl, W21.out, World.grownBy.refl _ _⟩
      case round =>
        obtain ⟨j, hj, rfl, HO, HG⟩ := hrel
        by_cases hjt : j < n1
        · have hfz := HO.out.frozenAt j
          obtain ⟨uc, hcx⟩ : ∃ u, wr.cell? ⟨gw, j, none⟩ = some u := by
            rw [HO.out.cellAt j (by omega)]
            exact ⟨_, List.getElem?_eq_getElem (by rw [List.length_append, List.length_replicate, List.length_drop, HL0.out]; omega)⟩
          have hst := (HO.out.stored j (.int .i64 769)).1
          rw [rep_step L0 j n1 _ HL0.out hjt] at hst
          have HST : Hid ((wr.setCell ⟨gw, j, none⟩ (.int .i64 769)).ownsRow w6.heap.size 3 1 (.slice (some ⟨gw, 0, none⟩) n1 cw) n1 (List.replicate (j + 1) (.int .i64 769) ++ L0.drop (j + 1))) := hst
          clear hst HO hn1
          go_wp2_with fail
          go_roundw
          case rel => exact ⟨j + 1, by omega, by go_num, HST.out, grown_set HG.out _⟩
          case measure => simp [intOf]; omega
        · have hje : ¬ j < n1 := hjt
          have HF : Hid (wr.ownsRow w6.heap.size 3 1 (.slice (some ⟨gw, 0, none⟩) n1 cw) n1 (List.replicate n1 (.int .i64 769))) := by
            have := HO.out
            rw [show j = n1 from by omega, List.drop_eq_nil_of_le (by rw [HL0.out]; omega), List.append_nil] at this
            exact this
          have HKF : Hid (KI w wr (.slice dH (k + 1) eH) (.slice (some ⟨gQ, 0, none⟩) (2 * k + 1 + 1) eQ) (hs ++ [(.slice (some ⟨gb, 0, none⟩) cb cb, .slice dm nm em, 1000000 + (k : Int))]) (qs ++ [(.slice d2 (Cl.bi z).length e2, Cl.bi z)] ++ [(.slice d5 (Cl.bi z).length e5, Cl.bi z)]) ρ3 0) := (HK3.out.ext B21.out).other HG.out (fun x e => by simp at e; subst e; exact ⟨.inr HR3.out, by omega⟩)
          have HGV : Hid (Rd .i64 wr (.slice (some ⟨gw, 0, none⟩) z.length cw) (Cl.acc z.length)) := by
            have h1 : Rd .i64 wr (.slice (some ⟨gw, 0, none⟩) n1 cw) (Cl.acc z.length ++ Cl.acc 120) := by
              refine Rd.of_own (base := w6.heap.size) (e := 3) (n := n1) ?_
              have e : (Cl.acc z.length ++ Cl.acc 120).map (Value.int .i64) = List.replicate n1 (.int .i64 769) := by
                unfold Cl.acc; rw [HN1.out, List.map_append, List.map_replicate, List.map_replicate, List.replicate_append_replicate]
              rw [e]; exact HF.out
            have := h1.pre
            rwa [Cl.acc_len] at this
          clear HO HF HG W21 hn1
          go_wp2_with (first | (go_at_call 35; refine (stands_any _ _ _ _ HKF.out.held).mono ?_; rintro e w23 ⟨rfl, hb23⟩; have B23 : Hid (Below wr.heap.size wr w23) := hb23; clear hb23) | (go_at_call 36; refine (oneCluster_any _ z.length _ (HGV.out.ext B23.out) (by omega)).mono ?_; rintro e w24 ⟨rfl, hb24⟩; have B24 : Hid (Below wr.heap.size wr w24) := ext_trans B23.out hb24; clear hb24))
          have HEND : Hid (Cl.KL w w24 (.slice dH (k + 1) eH) (.slice (some ⟨gQ, 0, none⟩) mQ eQ) (k + 1) zss) := by
            refine ⟨_, _, ρ3, by rw [HMQ.out]; exact HKF.out.ext B24.out, by simp [HHL.out], by simp [HQL.out]; omega, fun j hj => ?_⟩
            rcases Nat.lt_or_ge j k with h | h
            · obtain ⟨u, v, h1, h2⟩ := HQS.out j h
              have hq := HQL.out
              exact ⟨u, v, by rw [List.append_assoc, List.getElem?_append_left (by omega)]; exact h1, by rw [List.append_assoc, List.getElem?_append_left (by omega)]; exact h2⟩
            · obtain rfl : j = k := by omega
              have hq := HQL.out
              rw [HZZ.out]
              refine ⟨.slice d2 (Cl.bi z).length e2, .slice d5 (Cl.bi z).length e5, ?_, ?_⟩
              · rw [List.append_assoc, List.getElem?_append_right (by omega), show 2 * j - qs.length = 0 from by omega]; rfl
              · rw [List.append_assoc, List.getElem?_append_right (by omega), show 2 * j + 1 - qs.length = 1 from by omega]; rfl
          go_roundw
          case rel => exact ⟨k + 1, by omega, by omega, by go_num, HEND.out⟩
          case measure => simp [intOf]; omega
    · obtain ⟨dq, eq, hvq⟩ := own_form HKI.out.quiet
      rw [HQL.out] at hvq
      subst hvq
      have HRQ : Hid (w0.ownsRow w.heap.size 22 1 (.slice dq (2 * k) eq) (2 * k) (qs.map (·.1))) := by
        have := HKI.out.quiet; rwa [HQL.out] at this
      obtain ⟨dh, eh, hvh⟩ := held_form HKI.out.held.1
      rw [HHL.out] at hvh
      subst hvh
      clear hhl hql
      by_cases hk1 : k < zss.length
      · have hd1 : decide ((k : Int) < (zss.length : Int)) = true := by simp; omega
        have hd2 : ¬ (k : Int) < 60 := by omega
        have hd3 : decide ((k : Int) < 60) = false := by simp; omega
        clear hlt
        go_wp2_with fail
        go_loopw [16] (fun i wq => ∃ (x j : Nat), Hid (x = 2 * j) ∧ j ≤ k ∧ x ≤ 2 * k ∧ i = .int .i64 x ∧ Hid (Below w0.heap.size w0 wq)) (fun i _ => 2 * k - (intOf i).toNat)
        case atStart => exact ⟨0, 0, rfl, Nat.zero_le _, Nat.zero_le _, rfl, Below.refl _ _⟩
        case round =>
          obtain ⟨x, j, HXJ, hjk, hxk, rfl, HB⟩ := hrel
          by_cases hjt : j < k
          · obtain ⟨uu, vv, hq1, hq2⟩ := HQS.out j hjt
            have hxj := HXJ.out
            obtain ⟨o1, _⟩ := HKI.out.each _ _ (Nat.zero_le _) hq1
            obtain ⟨o2, _⟩ := HKI.out.each _ _ (Nat.zero_le _) hq2
            obtain ⟨b, off, rfl, hbl, hall⟩ := HL.out (by omega)
            obtain ⟨ai, ci, hcz, _⟩ := hall j (by omega)
            generalize zss[j]?.getD [] = z at *
            obtain ⟨du, eu, hfu⟩ := o1.rd.form
            obtain ⟨dv, ev, hfv⟩ := o2.rd.form
            simp only at hfu hfv o1 o2
            subst hfu; subst hfv
            obtain ⟨gq, cq, hvq, _, hgq, hcq1, hcq2⟩ := own_at HRQ.out (by omega)
            simp only [Value.slice.injEq] at hvq
            obtain ⟨rfl, _, rfl⟩ := hvq
            have E1 : Hid (∀ w', Below w0.heap.size w0 w' → w'.cell? ⟨gq, x, none⟩ = some (.slice du (Cl.bi z).length eu) ∧ w'.cell? ⟨gq, x + 1, none⟩ = some (.slice dv (Cl.bi z).length ev) ∧ w'.cell? ⟨b, off + j, none⟩ = some (.slice ai z.length ci) ∧ Rd .i64 w' (.slice du (Cl.bi z).length eu) (Cl.bi z) ∧ Rd .i64 w' (.slice dv (Cl.bi z).length ev) (Cl.bi z)) := fun w' hw => by
              refine ⟨(hw.cell (p := ⟨gq, x, none⟩) hgq).trans ?_, (hw.cell (p := ⟨gq, x + 1, none⟩) hgq).trans ?_, (hw.cell (p := ⟨b, off + j, none⟩) (Nat.lt_of_lt_of_le hbl HKI.out.below.size)).trans ((HKI.out.below.cell (p := ⟨b, off + j, none⟩) hbl).trans hcz), o1.rd.ext hw, o2.rd.ext hw⟩
              · rw [HRQ.out.cellAt x (by omega), List.getElem?_map, hxj, hq1]; rfl
              · rw [HRQ.out.cellAt (x + 1) (by omega), List.getElem?_map, hxj, hq2]; rfl
            obtain ⟨x1, hx1⟩ : ∃ y, y = x + 1 := ⟨_, rfl⟩
            have HX1 : Hid (x1 = x + 1) := hx1
            obtain ⟨c1, c2, c3, c4, c5⟩ := E1.out wr HB.out
            rw [← hx1] at c2
            have E2 : Hid (∀ w', Below w0.heap.size w0 w' → w'.cell? ⟨gq, x, none⟩ = some (.slice du (Cl.bi z).length eu) ∧ w'.cell? ⟨gq, x1, none⟩ = some (.slice dv (Cl.bi z).length ev) ∧ w'.cell? ⟨b, off + j, none⟩ = some (.slice ai z.length ci)) := fun w' hw => by
              obtain ⟨a1, a2, a3, _⟩ := E1.out w' hw
              exact ⟨a1, by rw [hx1]; exact a2, a3⟩
            have t1 : (0 : Int) ≤ (x : Int) := by omega
            have t2 : (x : Int) < ((2 * k : Nat) : Int) := by omega
            have t3 : (0 : Int) ≤ (x1 : Int) := by omega
            have t4 : (x1 : Int) < ((2 * k : Nat) : Int) := by omega
            have t5 : (0 : Int) ≤ (j : Int) := by omega
            have t6 : (j : Int) < (zss.length : Int) := by omega
            have t7 : IntKind.i64.wrap ((x : Int) + 1) = (x1 : Int) := by rw [IntKind.wrap_i64]; omega
            have t8 : IntKind.i64.wrap ((x : Int).tdiv 2) = (j : Int) := by rw [hxj, Int.tdiv_eq_ediv_of_nonneg (by omega), IntKind.wrap_i64]; omega
            have t9 : x + 1 < 2 * k := by omega
            obtain ⟨mK, hmK⟩ : ∃ y, y = 2 * k := ⟨_, rfl⟩
            have HMK : Hid (mK = 2 * k) := hmK
            have hcq1' : mK ≤ eq := by omega
            have hdv : Int.tdiv (x : Int) 2 = (j : Int) := by rw [Int.tdiv_eq_ediv_of_nonneg (by omega)]; omega
            have hdv' : (x : Int) / 2 = (j : Int) := by omega
            have hdv3 : x / 2 = j := by omega
            have hdv4 : IntKind.i64.wrap (j : Int) = (j : Int) := by rw [IntKind.wrap_i64]; omega
            have u3' : j < zss.length := by omega
            rw [← hmK] at t2 t4 t9 ⊢
            clear hmK hcq1 t8
            clear hall hcz hq1 hq2 o1 o2 c4 c5 hx1 hxj
            go_wp2_with fail
            go_region_held3 (fun w' => w'.cell? ⟨gq, x, none⟩ = some (.slice du (Cl.bi z).length eu) ∧ w'.cell? ⟨gq, x1, none⟩ = some (.slice dv (Cl.bi z).length ev) ∧ w'.cell? ⟨b, off + j, none⟩ = some (.slice ai z.length ci)) (go_keep) (first | (go_at_call 18; refine (ends_any _ _ _ _ (E1.out _ (by repeat (first | exact HB.out | apply Below.drew))).2.2.2.1 (Cl.bi_rise z)).mono ?_; rintro e we ⟨rfl, hbe⟩; have BE : Hid (Below w0.heap.size w0 we) := ext_trans (by repeat (first | exact HB.out | apply Below.drew)) hbe; have c1 := (E2.out we BE.out).1; have c2 := (E2.out we BE.out).2.1; have c3 := (E2.out we BE.out).2.2; clear hbe) | (go_at_call 19; refine (same_any _ _ _ _ _ (E1.out _ (by repeat (first | exact BE.out | apply Below.drew))).2.2.2.1 (E1.out _ (by repeat (first | exact BE.out | apply Below.drew))).2.2.2.2 rfl).mono ?_; rintro e wf ⟨rfl, hbf⟩; have BF : Hid (Below w0.heap.size w0 wf) := ext_trans (by repeat (first | exact BE.out | apply Below.drew)) hbf; have c1 := (E2.out wf BF.out).1; have c2 := (E2.out wf BF.out).2.1; have c3 := (E2.out wf BF.out).2.2; clear hbf))
            go_wp2_with fail
            go_roundw
            case rel => have h1 := HXJ.out; exact ⟨x + 2, j + 1, by unfold Hid; omega, by omega, by omega, by go_num, BF.out⟩
            case measure => have h1 := HXJ.out; simp [intOf]; omega
          · have hxe : ¬ x + 1 < 2 * k := by have := HXJ.out; omega
            obtain ⟨wb, hwb⟩ : ∃ y, y = wr := ⟨_, rfl⟩
            subst hwb
            have HKb : Hid (KI w wb (.slice dh k eh) (.slice dq (2 * k) eq) hs qs ρ 0) := HKI.out.ext HB.out
            have HLB : Hid (∀ (i : Nat) (q : Qt), qs[i]? = some q → q.2.length * 8 ≤ 140737488351232 + 8) := fun i q hq => by
              have hi' : i < qs.length := by
                rcases Nat.lt_or_ge i qs.length with h | h
                · exact h
                · rw [List.getElem?_eq_none h] at hq; cases hq
              have hl := HQL.out
              obtain ⟨u, v, h1, h2⟩ := HQS.out (i / 2) (by omega)
              have hzz := HZ.out (i / 2) (by omega)
              have hbl := Cl.bi_le (zss[i / 2]?.getD [])
              rcases Nat.mod_two_eq_zero_or_one i with hm | hm
              · rw [show 2 * (i / 2) = i from by omega, hq] at h1
                rw [Option.some.inj h1]; simp only; omega
              · rw [show 2 * (i / 2) + 1 = i from by omega, hq] at h2
                rw [Option.some.inj h2]; simp only; omega
            clear HB HXJ hjt
            go_wp2_with fail
            go_loopw [5, 17] (fun vH i wq => ∃ (j : Nat) (hs' : List Hd) (ρ' : Nat → Nat), j ≤ 2 * k ∧ i = .int .i64 j ∧ Hid (KI w wq vH (.slice dq (2 * k) eq) hs' qs ρ' j) ∧ Hid (hs'.length = k + j)) (fun _ i _ => 2 * k - (intOf i).toNat)
            case atStart => exact ⟨0, hs, ρ, Nat.zero_le _, rfl, HKb.out, HHL.out⟩
            case round =>
              obtain ⟨j, hs', ρ', hj, rfl, HK, HH⟩ := hrel
              clear HKb
              by_cases hjt : j < 2 * k
              · obtain ⟨gq, cq, hvq, _, _, hcq1, hcq2⟩ := own_at HRQ.out (by omega)
                simp only [Value.slice.injEq] at hvq
                obtain ⟨rfl, _, rfl⟩ := hvq
                obtain ⟨q, hq⟩ : ∃ q, qs[j]? = some q := ⟨_, List.getElem?_eq_getElem (by have := HQL.out; omega)⟩
                obtain ⟨ow, hL⟩ := HK.out.each j q (Nat.le_refl _) hq
                have hlb := HLB.out j q hq
                obtain ⟨uq, Lq⟩ := q
                simp only at ow hL hlb
                obtain ⟨gu, cu, hfu, hgu, hgul, hcu1, hcu2⟩ := ow.at hL
                subst hfu
                have hcell : wr.cell? ⟨gq, j, none⟩ = some (.slice (some ⟨gu, 0, none⟩) Lq.length cu) := by
                  have hr := HK.out.quiet
                  rw [HQL.out] at hr
                  rw [hr.cellAt j (by omega), List.getElem?_map, hq]; rfl
                have hρu : ρ' gu = 4 + j := HK.out.rq j _ (Nat.le_refl _) hq gu rfl
                have HOW : Hid (Own wr w.heap.size (.slice (some ⟨gu, 0, none⟩) Lq.length cu) Lq ∧ ρ' gu = 4 + j) := ⟨ow, hρu⟩
                have hsw : w.heap.size ≤ wr.heap.size := HK.out.below.size
                have hhb : hs'.length = k + j := HH.out
                have hrowH := HK.out.held.1
                rw [hhb] at hrowH
                have HROWH : Hid (wr.ownsRow w.heap.size 39 3 u5 (k + j) (Hd.flat hs')) := hrowH
                clear ow hq hρu hrowH hhb
                go_wp2_with (first | (go_at_call 34; refine (hold_any _ Lq _ w.heap.size _ HOW.out.1 hL (by omega)).mono ?_; rintro e wx ⟨g', cap', more, hv', hBg, rfl, hAR, hcm, hMO, hgr⟩; simp only [Value.slice.injEq, Option.some.injEq, Addr.mk.injEq, and_true, true_and] at hv'; obtain ⟨rfl, rfl⟩ := hv'; obtain ⟨dm, nm, em, hmf⟩ := (more_ok hMO hAR hcm).1.form; subst hmf; have hgx : wr.heap.size ≤ wx.heap.size := hgr.size; have HMM : Hid (AllM wx (.slice (some ⟨gu, 0, none⟩) cu cu) (2000000 + (j : Int)) ∧ AllM wx (.slice dm nm em) (2000000 + (j : Int)) ∧ wr.grownBy wx (some gu) ∧ (∀ x, Value.ownBlock (.slice dm nm em) = some x → x = gu ∨ (wr.heap.size ≤ x ∧ x < wx.heap.size))) := ⟨⟨_, hAR.rd (Nat.le_refl _) (Nat.le_refl _) hcm, fun x hx => (List.mem_replicate.1 hx).2⟩, (more_ok hMO hAR hcm).1, hgr, (more_ok hMO hAR hcm).2⟩; have hrowX := row_keep HROWH.out hgr (fun x e e2 => by { have h0 := HK.out.rH x e; have h1 := HOW.out.2; simp at e2; subst e2; omega }); clear hAR hMO hgr hcm HROWH) | (at_builtin; refine wpList_append_blk _ rfl _ _ 37 rfl w.heap.size 39 iH (.agg #[.slice none 0 0, .slice none 0 0, .int .i64 0]) 3 56 Try.underlying37 hiH hzH0 hzH1 hzH2 rfl (by decide) _ _ _ rfl (hrowX.alloc _) ⟨wx.heap.size, 0, none⟩ 1 1 [.slice (some ⟨gu, 0, none⟩) cu cu, .slice dm nm em, .int .i64 (2000000 + (j : Int))] rfl rfl (cells3_new _ _ _ _ _) (by intro u hu; simp at hu; rcases hu with rfl | rfl | rfl <;> rfl) (by unfold maxLen; omega) (by omega) (by simp; omega) (by decide) ?_; intro vH1 wy hoH1 hgH1 hxH1; have A3 : Hid (∃ ρ2, KI w wy vH1 (.slice (some ⟨gq, 0, none⟩) (2 * k) eq) (hs' ++ [(.slice (some ⟨gu, 0, none⟩) cu cu, .slice dm nm em, 2000000 + (j : Int))]) qs ρ2 (j + 1) ∧ ∀ g, (none : Option Nat) = some g → ρ2 g = 3) := HK.out.addHeld (Nat.le_succ _) HMM.out.2.2.1 (fun x e => by { simp at e; subst e; exact ⟨hgu, .inr ⟨j, by omega, HOW.out.2⟩⟩ }) HMM.out.1 HMM.out.2.1 (fun x e => by { simp [Value.ownBlock] at e; subst e; exact ⟨by omega, .inr rfl, by simp⟩ }) (fun x e => by { rcases HMM.out.2.2.2 x e with h | h; exact ⟨by omega, .inr (by rw [h]), by simp⟩; exact ⟨by omega, .inl (by omega), by simp⟩ }) (fun x e => by cases e) (by rw [HH.out]; exact hoH1) hgH1 hxH1; clear hgH1 hxH1 hrowX hoH1))
                go_roundw
                case rel =>
                  obtain ⟨ρ2, hK2, _⟩ := A3.out
                  exact ⟨j + 1, _, ρ2, by omega, by go_num, hK2, by unfold Hid; rw [List.length_append, HH.out]; simp; omega⟩
                case measure => simp [intOf]; omega
              · have hje : ¬ j < 2 * k := hjt
                obtain ⟨dz, ez, hvz⟩ := held_form HK.out.held.1
                subst hvz
                clear HRQ
                go_wp2_with fail
                refine (stands_any _ _ _ _ HK.out.held).mono ?_
                rintro e wz ⟨rfl, hbz⟩
                have BZ : Hid (Below w.heap.size w wz) := ext_trans HK.out.below hbz
                clear hbz
                go_wp2_with fail
                go_ret
                exact ⟨rfl, BZ.out⟩
      · have hd1 : decide (k < zss.length) = false := by simp; omega
        clear hlt
        go_wp2_with fail
        go_loopw [16] (fun i wq => ∃ (x j : Nat), Hid (x = 2 * j) ∧ j ≤ k ∧ x ≤ 2 * k ∧ i = .int .i64 x ∧ Hid (Below w0.heap.size w0 wq)) (fun i _ => 2 * k - (intOf i).toNat)
        case atStart => exact ⟨0, 0, rfl, Nat.zero_le _, Nat.zero_le _, rfl, Below.refl _ _⟩
        case round =>
          obtain ⟨x, j, HXJ, hjk, hxk, rfl, HB⟩ := hrel
          by_cases hjt : j < k
          · obtain ⟨uu, vv, hq1, hq2⟩ := HQS.out j hjt
            have hxj := HXJ.out
            obtain ⟨o1, _⟩ := HKI.out.each _ _ (Nat.zero_le _) hq1
            obtain ⟨o2, _⟩ := HKI.out.each _ _ (Nat.zero_le _) hq2
            obtain ⟨b, off, rfl, hbl, hall⟩ := HL.out (by omega)
            obtain ⟨ai, ci, hcz, _⟩ := hall j (by omega)
            generalize zss[j]?.getD [] = z at *
            obtain ⟨du, eu, hfu⟩ := o1.rd.form
            obtain ⟨dv, ev, hfv⟩ := o2.rd.form
            simp only at hfu hfv o1 o2
            subst hfu; subst hfv
            obtain ⟨gq, cq, hvq, _, hgq, hcq1, hcq2⟩ := own_at HRQ.out (by omega)
            simp only [Value.slice.injEq] at hvq
            obtain ⟨rfl, _, rfl⟩ := hvq
            have E1 : Hid (∀ w', Below w0.heap.size w0 w' → w'.cell? ⟨gq, x, none⟩ = some (.slice du (Cl.bi z).length eu) ∧ w'.cell? ⟨gq, x + 1, none⟩ = some (.slice dv (Cl.bi z).length ev) ∧ w'.cell? ⟨b, off + j, none⟩ = some (.slice ai z.length ci) ∧ Rd .i64 w' (.slice du (Cl.bi z).length eu) (Cl.bi z) ∧ Rd .i64 w' (.slice dv (Cl.bi z).length ev) (Cl.bi z)) := fun w' hw => by
              refine ⟨(hw.cell (p := ⟨gq, x, none⟩) hgq).trans ?_, (hw.cell (p := ⟨gq, x + 1, none⟩) hgq).trans ?_, (hw.cell (p := ⟨b, off + j, none⟩) (Nat.lt_of_lt_of_le hbl HKI.out.below.size)).trans ((HKI.out.below.cell (p := ⟨b, off + j, none⟩) hbl).trans hcz), o1.rd.ext hw, o2.rd.ext hw⟩
              · rw [HRQ.out.cellAt x (by omega), List.getElem?_map, hxj, hq1]; rfl
              · rw [HRQ.out.cellAt (x + 1) (by omega), List.getElem?_map, hxj, hq2]; rfl
            obtain ⟨x1, hx1⟩ : ∃ y, y = x + 1 := ⟨_, rfl⟩
            have HX1 : Hid (x1 = x + 1) := hx1
            obtain ⟨c1, c2, c3, c4, c5⟩ := E1.out wr HB.out
            rw [← hx1] at c2
            have E2 : Hid (∀ w', Below w0.heap.size w0 w' → w'.cell? ⟨gq, x, none⟩ = some (.slice du (Cl.bi z).length eu) ∧ w'.cell? ⟨gq, x1, none⟩ = some (.slice dv (Cl.bi z).length ev) ∧ w'.cell? ⟨b, off + j, none⟩ = some (.slice ai z.length ci)) := fun w' hw => by
              obtain ⟨a1, a2, a3, _⟩ := E1.out w' hw
              exact ⟨a1, by rw [hx1]; exact a2, a3⟩
            have t1 : (0 : Int) ≤ (x : Int) := by omega
            have t2 : (x : Int) < ((2 * k : Nat) : Int) := by omega
            have t3 : (0 : Int) ≤ (x1 : Int) := by omega
            have t4 : (x1 : Int) < ((2 * k : Nat) : Int) := by omega
            have t5 : (0 : Int) ≤ (j : Int) := by omega
            have t6 : (j : Int) < (zss.length : Int) := by omega
            have t7 : IntKind.i64.wrap ((x : Int) + 1) = (x1 : Int) := by rw [IntKind.wrap_i64]; omega
            have t8 : IntKind.i64.wrap ((x : Int).tdiv 2) = (j : Int) := by rw [hxj, Int.tdiv_eq_ediv_of_nonneg (by omega), IntKind.wrap_i64]; omega
            have t9 : x + 1 < 2 * k := by omega
            obtain ⟨mK, hmK⟩ : ∃ y, y = 2 * k := ⟨_, rfl⟩
            have HMK : Hid (mK = 2 * k) := hmK
            have hcq1' : mK ≤ eq := by omega
            have hdv : Int.tdiv (x : Int) 2 = (j : Int) := by rw [Int.tdiv_eq_ediv_of_nonneg (by omega)]; omega
            have hdv' : (x : Int) / 2 = (j : Int) := by omega
            have hdv3 : x / 2 = j := by omega
            have hdv4 : IntKind.i64.wrap (j : Int) = (j : Int) := by rw [IntKind.wrap_i64]; omega
            have u3' : j < zss.length := by omega
            rw [← hmK] at t2 t4 t9 ⊢
            clear hmK hcq1 t8
            clear hall hcz hq1 hq2 o1 o2 c4 c5 hx1 hxj
            go_wp2_with fail
            go_region_held3 (fun w' => w'.cell? ⟨gq, x, none⟩ = some (.slice du (Cl.bi z).length eu) ∧ w'.cell? ⟨gq, x1, none⟩ = some (.slice dv (Cl.bi z).length ev) ∧ w'.cell? ⟨b, off + j, none⟩ = some (.slice ai z.length ci)) (go_keep) (first | (go_at_call 18; refine (ends_any _ _ _ _ (E1.out _ (by repeat (first | exact HB.out | apply Below.drew))).2.2.2.1 (Cl.bi_rise z)).mono ?_; rintro e we ⟨rfl, hbe⟩; have BE : Hid (Below w0.heap.size w0 we) := ext_trans (by repeat (first | exact HB.out | apply Below.drew)) hbe; have c1 := (E2.out we BE.out).1; have c2 := (E2.out we BE.out).2.1; have c3 := (E2.out we BE.out).2.2; clear hbe) | (go_at_call 19; refine (same_any _ _ _ _ _ (E1.out _ (by repeat (first | exact BE.out | apply Below.drew))).2.2.2.1 (E1.out _ (by repeat (first | exact BE.out | apply Below.drew))).2.2.2.2 rfl).mono ?_; rintro e wf ⟨rfl, hbf⟩; have BF : Hid (Below w0.heap.size w0 wf) := ext_trans (by repeat (first | exact BE.out | apply Below.drew)) hbf; have c1 := (E2.out wf BF.out).1; have c2 := (E2.out wf BF.out).2.1; have c3 := (E2.out wf BF.out).2.2; clear hbf))
            go_wp2_with fail
            go_roundw
            case rel => have h1 := HXJ.out; exact ⟨x + 2, j + 1, by unfold Hid; omega, by omega, by omega, by go_num, BF.out⟩
            case measure => have h1 := HXJ.out; simp [intOf]; omega
          · have hxe : ¬ x + 1 < 2 * k := by have := HXJ.out; omega
            obtain ⟨wb, hwb⟩ : ∃ y, y = wr := ⟨_, rfl⟩
            subst hwb
            have HKb : Hid (KI w wb (.slice dh k eh) (.slice dq (2 * k) eq) hs qs ρ 0) := HKI.out.ext HB.out
            have HLB : Hid (∀ (i : Nat) (q : Qt), qs[i]? = some q → q.2.length * 8 ≤ 140737488351232 + 8) := fun i q hq => by
              have hi' : i < qs.length := by
                rcases Nat.lt_or_ge i qs.length with h | h
                · exact h
                · rw [List.getElem?_eq_none h] at hq; cases hq
              have hl := HQL.out
              obtain ⟨u, v, h1, h2⟩ := HQS.out (i / 2) (by omega)
              have hzz := HZ.out (i / 2) (by omega)
              have hbl := Cl.bi_le (zss[i / 2]?.getD [])
              rcases Nat.mod_two_eq_zero_or_one i with hm | hm
              · rw [show 2 * (i / 2) = i from by omega, hq] at h1
                rw [Option.some.inj h1]; simp only; omega
              · rw [show 2 * (i / 2) + 1 = i from by omega, hq] at h2
                rw [Option.some.inj h2]; simp only; omega
            clear HB HXJ hjt
            go_wp2_with fail
            go_loopw [5, 17] (fun vH i wq => ∃ (j : Nat) (hs' : List Hd) (ρ' : Nat → Nat), j ≤ 2 * k ∧ i = .int .i64 j ∧ Hid (KI w wq vH (.slice dq (2 * k) eq) hs' qs ρ' j) ∧ Hid (hs'.length = k + j)) (fun _ i _ => 2 * k - (intOf i).toNat)
            case atStart => exact ⟨0, hs, ρ, Nat.zero_le _, rfl, HKb.out, HHL.out⟩
            case round =>
              obtain ⟨j, hs', ρ', hj, rfl, HK, HH⟩ := hrel
              clear HKb
              by_cases hjt : j < 2 * k
              · obtain ⟨gq, cq, hvq, _, _, hcq1, hcq2⟩ := own_at HRQ.out (by omega)
                simp only [Value.slice.injEq] at hvq
                obtain ⟨rfl, _, rfl⟩ := hvq
                obtain ⟨q, hq⟩ : ∃ q, qs[j]? = some q := ⟨_, List.getElem?_eq_getElem (by have := HQL.out; omega)⟩
                obtain ⟨ow, hL⟩ := HK.out.each j q (Nat.le_refl _) hq
                have hlb := HLB.out j q hq
                obtain ⟨uq, Lq⟩ := q
                simp only at ow hL hlb
                obtain ⟨gu, cu, hfu, hgu, hgul, hcu1, hcu2⟩ := ow.at hL
                subst hfu
                have hcell : wr.cell? ⟨gq, j, none⟩ = some (.slice (some ⟨gu, 0, none⟩) Lq.length cu) := by
                  have hr := HK.out.quiet
                  rw [HQL.out] at hr
                  rw [hr.cellAt j (by omega), List.getElem?_map, hq]; rfl
                have hρu : ρ' gu = 4 + j := HK.out.rq j _ (Nat.le_refl _) hq gu rfl
                have HOW : Hid (Own wr w.heap.size (.slice (some ⟨gu, 0, none⟩) Lq.length cu) Lq ∧ ρ' gu = 4 + j) := ⟨ow, hρu⟩
                have hsw : w.heap.size ≤ wr.heap.size := HK.out.below.size
                have hhb : hs'.length = k + j := HH.out
                have hrowH := HK.out.held.1
                rw [hhb] at hrowH
                have HROWH : Hid (wr.ownsRow w.heap.size 39 3 u5 (k + j) (Hd.flat hs')) := hrowH
                clear ow hq hρu hrowH hhb
                go_wp2_with (first | (go_at_call 34; refine (hold_any _ Lq _ w.heap.size _ HOW.out.1 hL (by omega)).mono ?_; rintro e wx ⟨g', cap', more, hv', hBg, rfl, hAR, hcm, hMO, hgr⟩; simp only [Value.slice.injEq, Option.some.injEq, Addr.mk.injEq, and_true, true_and] at hv'; obtain ⟨rfl, rfl⟩ := hv'; obtain ⟨dm, nm, em, hmf⟩ := (more_ok hMO hAR hcm).1.form; subst hmf; have hgx : wr.heap.size ≤ wx.heap.size := hgr.size; have HMM : Hid (AllM wx (.slice (some ⟨gu, 0, none⟩) cu cu) (2000000 + (j : Int)) ∧ AllM wx (.slice dm nm em) (2000000 + (j : Int)) ∧ wr.grownBy wx (some gu) ∧ (∀ x, Value.ownBlock (.slice dm nm em) = some x → x = gu ∨ (wr.heap.size ≤ x ∧ x < wx.heap.size))) := ⟨⟨_, hAR.rd (Nat.le_refl _) (Nat.le_refl _) hcm, fun x hx => (List.mem_replicate.1 hx).2⟩, (more_ok hMO hAR hcm).1, hgr, (more_ok hMO hAR hcm).2⟩; have hrowX := row_keep HROWH.out hgr (fun x e e2 => by { have h0 := HK.out.rH x e; have h1 := HOW.out.2; simp at e2; subst e2; omega }); clear hAR hMO hgr hcm HROWH) | (at_builtin; refine wpList_append_blk _ rfl _ _ 37 rfl w.heap.size 39 iH (.agg #[.slice none 0 0, .slice none 0 0, .int .i64 0]) 3 56 Try.underlying37 hiH hzH0 hzH1 hzH2 rfl (by decide) _ _ _ rfl (hrowX.alloc _) ⟨wx.heap.size, 0, none⟩ 1 1 [.slice (some ⟨gu, 0, none⟩) cu cu, .slice dm nm em, .int .i64 (2000000 + (j : Int))] rfl rfl (cells3_new _ _ _ _ _) (by intro u hu; simp at hu; rcases hu with rfl | rfl | rfl <;> rfl) (by unfold maxLen; omega) (by omega) (by simp; omega) (by decide) ?_; intro vH1 wy hoH1 hgH1 hxH1; have A3 : Hid (∃ ρ2, KI w wy vH1 (.slice (some ⟨gq, 0, none⟩) (2 * k) eq) (hs' ++ [(.slice (some ⟨gu, 0, none⟩) cu cu, .slice dm nm em, 2000000 + (j : Int))]) qs ρ2 (j + 1) ∧ ∀ g, (none : Option Nat) = some g → ρ2 g = 3) := HK.out.addHeld (Nat.le_succ _) HMM.out.2.2.1 (fun x e => by { simp at e; subst e; exact ⟨hgu, .inr ⟨j, by omega, HOW.out.2⟩⟩ }) HMM.out.1 HMM.out.2.1 (fun x e => by { simp [Value.ownBlock] at e; subst e; exact ⟨by omega, .inr rfl, by simp⟩ }) (fun x e => by { rcases HMM.out.2.2.2 x e with h | h; exact ⟨by omega, .inr (by rw [h]), by simp⟩; exact ⟨by omega, .inl (by omega), by simp⟩ }) (fun x e => by cases e) (by rw [HH.out]; exact hoH1) hgH1 hxH1; clear hgH1 hxH1 hrowX hoH1))
                go_roundw
                case rel =>
                  obtain ⟨ρ2, hK2, _⟩ := A3.out
                  exact ⟨j + 1, _, ρ2, by omega, by go_num, hK2, by unfold Hid; rw [List.length_append, HH.out]; simp; omega⟩
                case measure => simp [intOf]; omega
              · have hje : ¬ j < 2 * k := hjt
                obtain ⟨dz, ez, hvz⟩ := held_form HK.out.held.1
                subst hvz
                clear HRQ
                go_wp2_with fail
                refine (stands_any _ _ _ _ HK.out.held).mono ?_
                rintro e wz ⟨rfl, hbz⟩
                have BZ : Hid (Below w.heap.size w wz) := ext_trans HK.out.below hbz
                clear hbz
                go_wp2_with fail
                go_ret
                exact ⟨rfl, BZ.out⟩
end Go.Proofs.Ytahjjpleceppaaa
