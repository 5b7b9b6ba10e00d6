/- pass, Count, Column, Offset. -/
import Derived.Test.YtahjjpleceppaaaCalls
namespace Go.Proofs.Ytahjjpleceppaaa
open Go.RowKit

/-- Where pass stops: at the boundary a, with the number of it. -/
def Cl.stop (zs : List Int) (last most : Int) (a : Nat) : Prop :=
  a ≤ zs.length ∧ Cl.isB zs a = true ∧ (a = 0 ∨ (a : Int) ≤ last) ∧ (Cl.cnt zs a = 0 ∨ (Cl.cnt zs a : Int) ≤ most) ∧ (a = zs.length ∨ most ≤ (Cl.cnt zs a : Int) ∨ (a < zs.length ∧ last < (Cl.up zs (a + 1) : Int)))

set_option maxRecDepth 100000 in
set_option maxHeartbeats 2000000 in
theorem pass_any (v : Value) (zs : List Int) (last most : Int) (w : World) (hr : Rd .i64 w v zs) :
    Calls Try.prog 45 #[v, .int .i64 last, .int .i64 most] w fun e w' => ∃ a : Nat, e = .returned (.tuple #[.int .i64 (Cl.cnt zs a), .int .i64 a]) ∧ Cl.stop zs last most a ∧ Below w.heap.size w w' := by
  have HR : Hid (Rd .i64 w v zs) := hr
  have hlen := hr.len
  obtain ⟨ao, cap, rfl, hl, hm, _⟩ := id hr
  unfold maxLen at hm
  clear hr
  go_enter Try.func45, Try.ntmps45
  go_wp2_with fail
  go_step3
  go_wp2_with fail
  go_step3
  go_wp2_with fail
  go_loopg [6, 7] zs.length (fun g c i wr => ∃ a : Nat, a + g = zs.length ∧ c = .int .i64 (Cl.cnt zs a) ∧ i = .int .i64 a ∧ Hid (Cl.isB zs a = true) ∧ Hid (a = 0 ∨ (a : Int) ≤ last) ∧ Hid (Cl.cnt zs a = 0 ∨ (Cl.cnt zs a : Int) ≤ most) ∧ Below w.heap.size w wr)
  case atStart => exact ⟨0, by omega, by rw [Cl.cnt_zero]; rfl, rfl, Cl.isB_zero zs, .inl rfl, .inl (Cl.cnt_zero zs), Below.refl _ _⟩
  case round =>
    obtain ⟨a, hag, rfl, rfl, HB, HL, HM, hbw⟩ := hrel
    have HBW : Hid (Below w.heap.size w wr) := hbw
    have hcl := Cl.cnt_le zs a
    by_cases hlt : a < zs.length
    · by_cases hmo : (Cl.cnt zs a : Int) < most
      · obtain ⟨b, off, cp, hv, _, _, hbl, hcell⟩ := HR.out.at (by omega)
        simp only [Value.slice.injEq] at hv
        obtain ⟨rfl, _, rfl⟩ := hv
        have HD : Hid (Rd .i64 w (.slice (some ⟨b, off + a, none⟩) (zs.length - a) (cap - a)) (zs.drop a)) := HR.out.drop a hlt
        have HC : Hid (∀ i, i < zs.length → w.cell? ⟨b, off + i, none⟩ = some (.int .i64 (Cl.at zs i))) := hcell
        have hc0 : wr.cell? ⟨b, off + a, none⟩ = some (.int .i64 (Cl.at zs a)) := (hbw.cell (p := ⟨b, off + a, none⟩) hbl).trans (hcell a hlt)
        have C0 : Hid (∀ w, Calls Try.prog 47 #[.int .i64 (Cl.at zs a)] w fun e w' => e = .returned (.int .i64 (Gx.cls (Cl.at zs a))) ∧ Below w.heap.size w w') := Class_any _
        have hca : ¬ cap = a := by omega
        have hd1 : decide ((Cl.cnt zs a : Int) < most) = true := by simp [hmo]
        have HU : Hid (Cl.cnt zs (Cl.up zs (a + 1)) = Cl.cnt zs a + 1) := Cl.cnt_up zs a hlt
        clear hcell hbw
        have HCN0 : Hid (Cl.cnt zs a = Cl.cnt zs a) := rfl
        generalize hcn : Cl.cnt zs a = c at *
        have HCN : Hid (Cl.cnt zs a = c) := hcn
        clear hcn HCN0
        go_wp2_with (go_at_call 47; refine (C0.out _).mono ?_; rintro e w1 ⟨rfl, hb1⟩)
        have HB1 : Hid (Below w.heap.size w w1) := ext_trans HBW.out hb1
        have hdl : (zs.drop a).length = zs.length - a := List.length_drop ..
        have HUD : Hid (a + Cl.up (zs.drop a) 1 = Cl.up zs (a + 1)) := Cl.up_drop zs a HB.out hlt
        have HAT : Hid (Gx.cls (Cl.at zs a) = Gx.cls (Cl.at (zs.drop a) 0)) := by unfold Hid; rw [Cl.at_drop, Nat.add_zero]
        clear hb1 hc0 C0 HBW
        generalize hzd : zs.drop a = zd at *
        have HZD : Hid (zs.drop a = zd) := hzd
        clear hzd
        go_loopg [6, 7, 9, 10] (zs.length - a - 1) (fun g c' i' l i wr => ∃ k : Nat, k + g = zs.length - a ∧ 0 < k ∧ c' = .int .i64 c ∧ i' = .int .i64 a ∧ l = .int .i64 (Gx.cls (Cl.at zd (k - 1))) ∧ i = .int .i64 k ∧ Hid (Cl.up zd 1 = Cl.up zd k) ∧ Below w.heap.size w wr)
        case atStart => exact ⟨1, by omega, by omega, rfl, rfl, by rw [HAT.out], rfl, rfl, HB1.out⟩
        case round =>
          obtain ⟨k, hkg, hk0, rfl, rfl, rfl, rfl, HK, hbw⟩ := hrel
          have HBW : Hid (Below w.heap.size w wr) := hbw
          have hdk : k ≤ zs.length - a := by omega
          by_cases hla : last < (a : Int) + (k : Int)
          · have HS : Hid (last < (Cl.up zs (a + 1) : Int)) := by
              unfold Hid
              have := Cl.up_spec zd _ k rfl hk0 (by omega)
              rw [← HUD.out, HK.out]
              omega
            go_wp2_with fail
            rw [Exit.noGoto_ret]
            go_ret2
            exact ⟨a, by rw [HCN.out]; rfl, ⟨by omega, HB.out, HL.out, by rw [HCN.out]; exact HM.out, .inr (.inr ⟨hlt, HS.out⟩)⟩, HBW.out⟩
          · have hla' : ¬ last < (a : Int) + (k : Int) := hla
            by_cases hke : k < zs.length - a
            · have hcm : wr.cell? ⟨b, off + a + k, none⟩ = some (.int .i64 (Cl.at zd k)) := by
                have := (hbw.cell (p := ⟨b, off + (a + k), none⟩) hbl).trans (HC.out (a + k) (by omega))
                rw [← HZD.out, Cl.at_drop, Nat.add_assoc]; exact this
              have CX : Hid (∀ w, Calls Try.prog 47 #[.int .i64 (Cl.at zd k)] w fun e w' => e = .returned (.int .i64 (Gx.cls (Cl.at zd k))) ∧ Below w.heap.size w w') := Class_any _
              have CJ : Hid (∀ w', Below w.heap.size w w' → Calls Try.prog 46 #[.slice (some ⟨b, off + a, none⟩) (zs.length - a) (cap - a), .int .i64 k, .int .i64 (Gx.cls (Cl.at zd (k - 1))), .int .i64 (Gx.cls (Cl.at zd k))] w' fun e w'' => e = .returned (.bool (Cl.jn zd k)) ∧ Below w'.heap.size w' w'') := fun w' hb => joined_any _ zd k w' (HD.out.ext hb) hk0 (by omega)
              obtain ⟨cr, hcr⟩ : ∃ c, c = Gx.cls (Cl.at zd k) := ⟨_, rfl⟩
              have HCR : Hid (cr = Gx.cls (Cl.at zd (k + 1 - 1))) := hcr
              rw [← hcr] at CX CJ
              clear hcr hbw
              generalize Gx.cls (Cl.at zd (k - 1)) = cl at *
              generalize Cl.at zd k = x at *
              cases hj : Cl.jn zd k with
              | true =>
                rw [hj] at CJ
                have HU' : Hid (Cl.up zd 1 = Cl.up zd (k + 1)) := HK.out.trans (Cl.up_no zd k (by omega) hj)
                go_wp2_with (first | (go_at_call 47; refine (CX.out _).mono ?_; rintro e w2 ⟨rfl, hb2⟩) | (go_at_call 46; refine (CJ.out _ (ext_trans HBW.out hb2)).mono ?_; rintro e w3 ⟨rfl, hb3⟩))
                go_roundg (zs.length - a - (k + 1))
                case measure => omega
                case rel => exact ⟨k + 1, by omega, by omega, rfl, rfl, by rw [HCR.out], by go_num, HU'.out, ext_trans HBW.out (ext_trans hb2 hb3)⟩
              | false =>
                rw [hj] at CJ
                have HU' : Hid (Cl.up zs (a + 1) = a + k) := by unfold Hid; rw [← HUD.out, HK.out, Cl.up_yes zd k (by omega) hj]
                have HU2 : Hid (Cl.isB zs (a + k) = true) := by unfold Hid; rw [← HU'.out]; exact (Cl.up_spec zs _ (a + 1) rfl (by omega) (by omega)).2.2.1
                have HU3 : Hid (Cl.cnt zs (a + k) = c + 1) := by unfold Hid; rw [← HU'.out]; exact HU.out
                go_wp2_with (first | (go_at_call 47; refine (CX.out _).mono ?_; rintro e w2 ⟨rfl, hb2⟩) | (go_at_call 46; refine (CJ.out _ (ext_trans HBW.out hb2)).mono ?_; rintro e w3 ⟨rfl, hb3⟩))
                go_roundg (zs.length - (a + k))
                case measure => omega
                case rel => exact ⟨a + k, by omega, by rw [HU3.out]; go_num, by go_num, HU2.out, .inr (by omega), .inr (by rw [HU3.out]; omega), ext_trans HBW.out (ext_trans hb2 hb3)⟩
            · have HU' : Hid (Cl.up zs (a + 1) = a + k) := by unfold Hid; rw [← HUD.out, HK.out, Cl.up_end zd k (by omega)]; omega
              have HU2 : Hid (Cl.isB zs (a + k) = true) := by unfold Hid; rw [← HU'.out]; exact (Cl.up_spec zs _ (a + 1) rfl (by omega) (by omega)).2.2.1
              have HU3 : Hid (Cl.cnt zs (a + k) = c + 1) := by unfold Hid; rw [← HU'.out]; exact HU.out
              go_wp2_with fail
              go_roundg (zs.length - (a + k))
              case measure => omega
              case rel => exact ⟨a + k, by omega, by rw [HU3.out]; go_num, by go_num, HU2.out, .inr (by omega), .inr (by rw [HU3.out]; omega), HBW.out⟩
      · have hd1 : decide ((Cl.cnt zs a : Int) < most) = false := by simp; omega
        go_wp2_with fail
        try rw [Exit.noGoto_ret]
        go_ret2
        exact ⟨a, rfl, ⟨by omega, HB.out, HL.out, HM.out, .inr (.inl (by omega))⟩, HBW.out⟩
    · go_wp2_with fail
      try rw [Exit.noGoto_ret]
      go_ret2
      exact ⟨a, rfl, ⟨by omega, HB.out, HL.out, HM.out, .inl (by omega)⟩, HBW.out⟩

def Cl.col (zs : List Int) (a : Int) : Nat := Cl.cnt zs (min zs.length a.toNat)
def Cl.ofs (zs : List Int) (c : Int) : Nat := if c < 0 then 0 else (Cl.bs zs)[c.toNat]?.getD zs.length

theorem Cl.cnt_pos (zs : List Int) (k : Nat) (h0 : 0 < k) (h : Cl.isB zs k = true) : 0 < Cl.cnt zs k := by
  have h1 := Cl.cnt_len zs k
  rw [Cl.bl_yes zs k h] at h1
  have h2 := Cl.bl_pos zs (k - 1)
  rw [show k - 1 + 1 = k from by omega] at h2
  simp at h1
  omega
theorem Cl.stop_count (zs : List Int) (a : Nat) (h : Cl.stop zs zs.length zs.length a) : a = zs.length := by
  obtain ⟨h1, h2, h3, h4, h5 | h5 | ⟨h5, h6⟩⟩ := h
  · exact h5
  · have := Cl.cnt_le zs a; omega
  · have := Cl.up_spec zs _ (a + 1) rfl (by omega) (by omega); omega
theorem Cl.stop_col (zs : List Int) (at' : Int) (a : Nat) (h : Cl.stop zs at' zs.length a) : Cl.cnt zs a = Cl.col zs at' := by
  unfold Cl.col
  obtain ⟨h1, h2, h3, h4, h5⟩ := h
  have h6 : a = zs.length ∨ (a < zs.length ∧ at' < (Cl.up zs (a + 1) : Int)) := by
    rcases h5 with h5 | h5 | h5
    · exact .inl h5
    · have := Cl.cnt_le zs a; exact .inl (by omega)
    · exact .inr h5
  rcases h6 with h6 | ⟨h6, h7⟩
  · rw [show min zs.length at'.toNat = a from by omega]
  · obtain ⟨u1, u2, u3, u4⟩ := Cl.up_spec zs _ (a + 1) rfl (by omega) (by omega)
    rw [show min zs.length at'.toNat = max a at'.toNat from by omega]
    exact (Cl.cnt_gap zs a (max a at'.toNat) (by omega) (fun j j1 j2 => u4 j (by omega) (by omega))).symm
theorem Cl.stop_ofs (zs : List Int) (c : Int) (a : Nat) (h : Cl.stop zs zs.length c a) : a = Cl.ofs zs c := by
  obtain ⟨h1, h2, h3, h4, h5⟩ := h
  have hb := Cl.bs_at zs a h1 h2
  have hz : Cl.cnt zs a = 0 → a = 0 := fun h => by
    rcases Nat.eq_zero_or_pos a with h' | h'
    · exact h'
    · have := Cl.cnt_pos zs a h' h2; omega
  have hl := Cl.bs_len zs
  unfold Cl.ofs
  have h6 : a = zs.length ∨ c ≤ (Cl.cnt zs a : Int) := by
    rcases h5 with h5 | h5 | ⟨h5, h6⟩
    · exact .inl h5
    · exact .inr h5
    · have := Cl.up_spec zs _ (a + 1) rfl (by omega) (by omega); omega
  by_cases hc : c < 0
  · rw [if_pos hc]
    exact hz (by omega)
  · rw [if_neg hc]
    by_cases he : c = (Cl.cnt zs a : Int)
    · rw [he, Int.toNat_natCast, hb]; rfl
    · have hg : (Cl.cnt zs a : Int) < c := by
        rcases h4 with h4 | h4
        · omega
        · omega
      have ha : a = zs.length := by omega
      rw [List.getElem?_eq_none (by rw [hl, ← ha]; omega)]
      exact ha

set_option maxRecDepth 100000 in
theorem Count_any (v : Value) (zs : List Int) (w : World) (hr : Rd .i64 w v zs) :
    Calls Try.prog 22 #[v] w fun e w' => e = .returned (.int .i64 (Cl.cnt zs zs.length)) ∧ Below w.heap.size w w' := by
  have HR : Hid (Rd .i64 w v zs) := hr
  obtain ⟨ao, cap, rfl, _⟩ := hr
  go_enter Try.func22, Try.ntmps22
  go_wp2_with (go_at_call 45; refine (pass_any _ zs _ _ _ HR.out).mono ?_; rintro e w1 ⟨a, rfl, hs, hb1⟩; have HS : Hid (a = zs.length) := Cl.stop_count zs a hs; clear hs)
  go_ret
  exact ⟨ret_int (by rw [HS.out]), hb1⟩
set_option maxRecDepth 100000 in
theorem Column_any (v : Value) (zs : List Int) (a : Int) (w : World) (hr : Rd .i64 w v zs) :
    Calls Try.prog 24 #[v, .int .i64 a] w fun e w' => e = .returned (.int .i64 (Cl.col zs a)) ∧ Below w.heap.size w w' := by
  have HR : Hid (Rd .i64 w v zs) := hr
  obtain ⟨ao, cap, rfl, _⟩ := hr
  go_enter Try.func24, Try.ntmps24
  go_wp2_with (go_at_call 45; refine (pass_any _ zs _ _ _ HR.out).mono ?_; rintro e w1 ⟨k, rfl, hs, hb1⟩; have HS : Hid (Cl.cnt zs k = Cl.col zs a) := Cl.stop_col zs a k hs; clear hs)
  go_ret
  exact ⟨ret_int (by rw [HS.out]), hb1⟩
set_option maxRecDepth 100000 in
theorem Offset_any (v : Value) (zs : List Int) (c : Int) (w : World) (hr : Rd .i64 w v zs) :
    Calls Try.prog 25 #[v, .int .i64 c] w fun e w' => e = .returned (.int .i64 (Cl.ofs zs c)) ∧ Below w.heap.size w w' := by
  have HR : Hid (Rd .i64 w v zs) := hr
  obtain ⟨ao, cap, rfl, _⟩ := hr
  go_enter Try.func25, Try.ntmps25
  go_wp2_with (go_at_call 45; refine (pass_any _ zs _ _ _ HR.out).mono ?_; rintro e w1 ⟨k, rfl, hs, hb1⟩; have HS : Hid (k = Cl.ofs zs c) := Cl.stop_ofs zs c k hs; clear hs)
  go_ret
  exact ⟨ret_int (by rw [← HS.out]), hb1⟩
end Go.Proofs.Ytahjjpleceppaaa
