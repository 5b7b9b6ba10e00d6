/- listed. -/
import Derived.Test.YtlnachbigchobaaNested2
import Derived.Test.YtlnachbigchobaaPlays
namespace Go.Proofs.Ytlnachbigchobaa
open Go.RowKit

theorem nf_eq (a b : Nat) (w : World) : (binOp BinOp.eql 130 (.func (.func 94) #[] #[.pointer (some ⟨a, 0, none⟩), .pointer (some ⟨b, 0, none⟩)]) .nilFunc).run Try.prog w = .ok (.bool false) w := by kernel_rfl

set_option maxRecDepth 100000 in
set_option maxHeartbeats 8000000 in
theorem listed_any : Listed := by
  intro u v xs n kk w hn hT hR hx
  obtain ⟨m, hm⟩ : ∃ m : Nat, (m : Int) = max n 0 := ⟨(max n 0).toNat, by omega⟩
  obtain ⟨k, hk⟩ : ∃ k : Nat, (k : Int) = max 1 kk := ⟨(max 1 kk).toNat, by omega⟩
  have hm2 : (m : Int) = max 0 n := by omega
  have hk1 : 1 ≤ k := by omega
  obtain ⟨w0, hw0⟩ : ∃ w0, w0 = w.alloc (.cells #[.pointer u] 39) := ⟨_, rfl⟩
  have hb0 : Below w.heap.size w w0 := by rw [hw0]; exact ext_alloc (Below.refl _ _) _
  have IT := hidIt (Items_any u n m w0 hm)
  obtain ⟨W, hW⟩ : ∃ W : Nat, W = ((xs.drop m).take k).length := ⟨_, rfl⟩
  have hWW : W = min (xs.length - m) k := by rw [hW, List.length_take, List.length_drop]; omega
  have HW := hidIt hW
  have HWW := hidIt hWW
  have HM := hidIt hm
  have HM2 := hidIt hm2
  have HK := hidIt hk
  have HT0 := hidIt (hT.ext hb0)
  have HR0 := hidIt (hR.ext hb0)
  have HB0 := hidIt hb0
  have HR := hidIt hR
  obtain ⟨ao, cap, rfl⟩ : ∃ ao cap, v = .slice ao xs.length cap := by obtain ⟨ao, cap, e, _⟩ := hR; exact ⟨ao, cap, e⟩
  have hcl : xs.length ≤ cap ∧ cap ≤ 9223372036854775807 := by obtain ⟨_, _, e1, e2, e3, _⟩ := hR; cases e1; exact ⟨e2, e3⟩
  clear hT hR hb0 hW hWW hm hm2 hk
  go_enter Try.func80, Try.ntmps80
  go_wp2_with fail
  rw [← hw0]
  clear hw0
  refine IT.out.mono ?_
  rintro e w1 ⟨a, b, rfl, HI1, hb1⟩
  have HB1 := hidIt hb1
  have HT1 := hidIt (HT0.out.ext hb1)
  have hnf := nf_eq a b w1
  clear hb1 IT
  go_upto_region 6 with fail
  have ek : (if 1 < kk then kk else 1) = (k : Int) := by have := HK.out; split <;> omega
  have em : (if 0 < n then n else 0) = (m : Int) := by have := HM.out; split <;> omega
  rw [ek, em]
  clear ek em
  have hmb : (m : Int) ≤ 9223372036854775807 := by have := HM.out; omega
  have HCI : Hid (∀ w', Below w1.heap.size w1 w' → IterAt w' (.func (.func 94) #[] #[.pointer (some ⟨a, 0, none⟩), .pointer (some ⟨b, 0, none⟩)]) u m ∧ TT w' (.agg #[.pointer u]) xs ∧ RdR w' (.slice ao xs.length cap) xs ∧ Below w.heap.size w w') := fun w' hb => ⟨HI1.out.ext hb, HT1.out.ext hb, HR.out.ext (ext_trans (ext_trans HB0.out HB1.out) hb), ext_trans (ext_trans HB0.out HB1.out) hb⟩
  obtain ⟨G, hG⟩ : ∃ G, G = (xs.drop m).take k := ⟨_, rfl⟩
  have HGG := hidIt hG
  have HGW : Hid (G.length = W) := by unfold Hid; rw [HW.out, hG]
  clear hG
  have T2 : Hid (∀ w', Below w1.heap.size w1 w' → Calls Try.prog 88 #[.func (.func 94) #[] #[.pointer (some ⟨a, 0, none⟩), .pointer (some ⟨b, 0, none⟩)], .int .i64 (k : Nat)] w' fun e w'' => ∃ ao cap, e = .returned (.tuple #[.slice ao W cap, .bool true]) ∧ Hid (OwnR w'' w'.heap.size 24 (.slice ao G.length cap) G) ∧ Below w1.heap.size w1 w'' ∧ Below w'.heap.size w' w'') := fun w' hb => by
    have := take_any w' _ u m xs k (HCI.out w' hb).1 (HCI.out w' hb).2.1 hx hk1
    rw [← HGG.out] at this
    exact this.mono fun _ _ ⟨ao, cap, e1, e2, e3⟩ => ⟨ao, cap, by rw [← HGW.out]; exact e1, e2, ext_trans hb e3, e3⟩
  by_cases hml : m < xs.length
  · have hml' : (m : Int) < (xs.length : Int) := by omega
    have hW1 : 1 ≤ W := by have := HWW.out; omega
    have hO1 : ((xs.drop m).take 1).length = 1 := by rw [List.length_take, List.length_drop]; omega
    have T1 : Hid (Calls Try.prog 88 #[.func (.func 94) #[] #[.pointer (some ⟨a, 0, none⟩), .pointer (some ⟨b, 0, none⟩)], .int .i64 1] w1 fun e w'' => ∃ ao cap, e = .returned (.tuple #[.slice ao 1 cap, .bool true]) ∧ Hid (OwnR w'' w1.heap.size 24 (.slice ao 1 cap) ((xs.drop m).take 1)) ∧ Below w1.heap.size w1 w'') := by
      have := take_any w1 _ u m xs 1 HI1.out HT1.out hx (Nat.le_refl _)
      rw [hO1] at this
      exact this
    go_upto_region 9 with fail
    have ew : (if (k : Int) < (xs.length : Int) - (m : Int) then (k : Int) else (xs.length : Int) - (m : Int)) = (W : Int) := by have := HWW.out; split <;> omega
    rw [ew]
    clear ew
    go_upto_region 10 with (go_at_call 88; refine T1.out.mono ?_; rintro e w2 ⟨ao1, cap1, rfl, HO1, hb2⟩; have HB2 := hidIt hb2; clear hb2)
    go_upto_region 11 with (go_at_call 88; refine (T2.out w2 HB2.out).mono ?_; rintro e w3 ⟨ao2, cap2, rfl, HO2, hb3, hx3⟩; have HB3 := hidIt hb3; have HX3 := hidIt hx3; clear hb3 hx3)
    obtain ⟨g1, c1, hv1⟩ := HO1.out.form_pos (by rw [hO1]; omega)
    simp only [Value.slice.injEq] at hv1
    obtain ⟨rfl, hz1, rfl⟩ := hv1
    clear hz1
    obtain ⟨g2, c2, hv2⟩ := HO2.out.form_pos (by rw [HGW.out]; omega)
    simp only [Value.slice.injEq] at hv2
    obtain ⟨rfl, hz2, rfl⟩ := hv2
    clear hz2
    have HA1 : Hid (OwnR w3 w1.heap.size 24 (.slice (some ⟨g1, 0, none⟩) 1 cap1) ((xs.drop m).take 1)) := HO1.out.ext HX3.out
    have HA2 : Hid (∀ w', Below w3.heap.size w3 w' → (∀ j, j < W → ∃ z, xs[m + j]?.getD (0, 0) = z ∧ w'.cell? ⟨g2, j * 2, none⟩ = some (.int .i64 z.1) ∧ w'.cell? ⟨g2, j * 2 + 1, none⟩ = some (.int .i64 z.2)) ∧ (w'.cell? ⟨g1, 0, none⟩ = some (.int .i64 (xs[m]?.getD (0, 0)).1) ∧ w'.cell? ⟨g1, 1, none⟩ = some (.int .i64 (xs[m]?.getD (0, 0)).2)) ∧ RdR w' (.slice (some ⟨g2, 0, none⟩) W cap2) G) := fun w' hb => by
      have o1 := HA1.out.ext hb
      have o2 := HO2.out.ext hb
      refine ⟨fun j hj => ⟨_, rfl, ?_⟩, ?_, ?_⟩
      · have := OwnR.cellAt o2 rfl j (by rw [HGW.out]; exact hj)
        rw [HGG.out, List.getElem?_take, if_pos (by have := HWW.out; omega), List.getElem?_drop] at this
        exact this
      · have := OwnR.cellAt o1 hO1 0 (by omega)
        rw [List.getElem?_take, if_pos (by omega), List.getElem?_drop] at this
        simpa using this
      · have := o2.rd
        rw [HGW.out] at this
        exact this
    have hc2 : W ≤ cap2 ∧ cap2 ≤ 9223372036854775807 := by obtain ⟨_, _, e1, e2, e3, _⟩ := HO2.out.rd; simp only [Value.slice.injEq] at e1; rw [HGW.out] at e2; rw [e1.2.2]; exact ⟨e2, e3⟩
    have hW1' : ¬ (W : Int) < 1 := by omega
    have hWz : ¬ (W : Int) = 0 := by omega
    have hWx : W ≤ 4194304 := by have := HWW.out; omega
    clear T1 T2 HO1 HO2 HA1 hO1 hnf
    go_wp2_with fail
    go_loopw [16] (fun i wr => ∃ j : Nat, j ≤ W ∧ i = .int .i64 j ∧ Hid (Below w3.heap.size w3 wr)) (fun i _ => W - (intOf i).toNat)
    case atStart => exact ⟨0, Nat.zero_le _, rfl, Below.refl _ _⟩
    case round =>
      obtain ⟨j, hj, rfl, HBR⟩ := hrel
      by_cases hlt : j < W
      · have hlt' : (j : Int) < (W : Int) := by omega
        obtain ⟨p1, ⟨p2, p3⟩, _⟩ := HA2.out wr HBR.out
        obtain ⟨z, hz, v0, v1⟩ := p1 j hlt
        obtain ⟨z0, hz0, f0, f1⟩ := p1 0 (by omega)
        rw [Nat.add_zero] at hz0
        rw [hz0] at p2 p3
        obtain ⟨q, hq⟩ : ∃ q : Nat, q = m + j := ⟨_, rfl⟩
        have hqx : q < xs.length := by have := HWW.out; omega
        obtain ⟨bl, ol, cl', e0, _, _, hbl, hcc⟩ := (HCI.out wr (ext_trans HB3.out HBR.out)).2.2.1.at (by omega)
        simp only [Value.slice.injEq] at e0
        obtain ⟨rfl, he0, rfl⟩ := e0
        clear he0
        obtain ⟨y0, y1⟩ := hcc q hqx
        rw [← hq] at hz
        rw [hz] at y0 y1
        have hwq : IntKind.i64.wrap ((m : Int) + (j : Int)) = (q : Int) := by rw [IntKind.wrap_i64]; omega
        have hq1 : (q : Int) < (xs.length : Int) := by omega
        have hq0 : (0 : Int) ≤ (q : Int) := by omega
        have HQ := hidIt hq
        have HY : Hid (∀ w', Below wr.heap.size wr w' → (w'.cell? ⟨g2, j * 2, none⟩ = some (.int .i64 z.1) ∧ w'.cell? ⟨g2, j * 2 + 1, none⟩ = some (.int .i64 z.2) ∧ w'.cell? ⟨bl, ol + q * 2, none⟩ = some (.int .i64 z.1) ∧ w'.cell? ⟨bl, ol + q * 2 + 1, none⟩ = some (.int .i64 z.2)) ∧ (w'.cell? ⟨g1, 0, none⟩ = some (.int .i64 z0.1) ∧ w'.cell? ⟨g1, 1, none⟩ = some (.int .i64 z0.2)) ∧ w'.cell? ⟨g2, 0, none⟩ = some (.int .i64 z0.1) ∧ w'.cell? ⟨g2, 1, none⟩ = some (.int .i64 z0.2)) := fun w' hb => by
          obtain ⟨p1', ⟨p2', p3'⟩, _⟩ := HA2.out w' (ext_trans HBR.out hb)
          obtain ⟨z', hz', v0', v1'⟩ := p1' j hlt
          obtain ⟨z0', hz0', f0', f1'⟩ := p1' 0 (by omega)
          rw [Nat.add_zero] at hz0'
          rw [← HQ.out, hz] at hz'
          subst hz'
          rw [hz0] at hz0' p2' p3'
          subst hz0'
          exact ⟨⟨v0', v1', (hb.cell (p := ⟨bl, ol + q * 2, none⟩) hbl).trans y0, (hb.cell (p := ⟨bl, ol + q * 2 + 1, none⟩) hbl).trans y1⟩, ⟨p2', p3'⟩, by simpa using f0', by simpa using f1'⟩
        clear hq hcc p1 f0 f1 p2 p3 hz hz0
        go_upto_region 16 with fail
        go_region_held3 (fun w' => w'.cell? ⟨g2, j * 2, none⟩ = some (.int .i64 z.1) ∧ w'.cell? ⟨g2, j * 2 + 1, none⟩ = some (.int .i64 z.2) ∧ w'.cell? ⟨bl, ol + q * 2, none⟩ = some (.int .i64 z.1) ∧ w'.cell? ⟨bl, ol + q * 2 + 1, none⟩ = some (.int .i64 z.2)) (go_keep) (
          (go_at_call 75; refine (sameRun_any z _).mono ?_; rintro e w4 ⟨rfl, hb4⟩; have HB4 : Hid (Below wr.heap.size wr w4) := ext_trans (by repeat (first | exact Below.refl _ _ | apply Below.drew)) hb4; clear hb4 v0 v1 y0 y1; obtain ⟨⟨v0, v1, y0, y1⟩, ⟨o0, o1⟩, f0, f1⟩ := HY.out w4 HB4.out))
        all_goals
          have HB5 := hidIt (ext_trans HBR.out HB4.out)
          by_cases hj0 : j = 0
          · subst hj0
            go_wp2_with fail
            go_quiet (fail)
            go_wp2_with fail
            go_roundw
            case rel => exact ⟨1, by omega, by go_num, below_drewN HB5.out _⟩
            case measure => simp [intOf]; omega
          · have hj1 : ¬ (j : Int) = 0 := by omega
            have hj2 : ((j : Int) == 0) = false := by simpa using hj1
            go_wp2_with fail
            go_quiet (fail)
            go_wp2_with fail
            go_roundw
            case rel => exact ⟨j + 1, by omega, by go_num, below_drewN HB5.out _⟩
            case measure => simp [intOf]; omega
      · obtain rfl : W = j := by omega
        have hge : ¬ (W : Int) < (W : Int) := by omega
        have NE : Hid (∀ (st : Nat) w', Below w3.heap.size w3 w' → Calls Try.prog 89 #[.func (.func 94) #[] #[.pointer (some ⟨a, 0, none⟩), .pointer (some ⟨b, 0, none⟩)], .slice (some ⟨g2, 0, none⟩) W cap2, .int .i64 (st : Nat)] w' fun e w'' => e = .returned (.bool true) ∧ Below w3.heap.size w3 w'') := fun st w' hb => by
          obtain ⟨i1, i2, _, _⟩ := HCI.out w' (ext_trans HB3.out hb)
          have := nested_any w' a b u m xs (some ⟨g2, 0, none⟩) cap2 G st i1 i2 hx (by have := (HA2.out w' hb).2.2; rw [HGW.out]; exact this) (by rw [HGW.out, HWW.out, HGG.out]; by_cases h : k ≤ xs.length - m; rw [Nat.min_eq_right h]; rw [Nat.min_eq_left (by omega), List.take_of_length_le (by rw [List.length_drop]; exact Nat.le_refl _), List.take_of_length_le (by rw [List.length_drop]; omega)]) (by rw [HGW.out]; exact hW1)
          rw [HGW.out] at this
          exact this.mono fun _ _ ⟨e1, e2⟩ => ⟨e1, ext_trans hb e2⟩
        have N0 : Hid (∀ w', Below w3.heap.size w3 w' → Calls Try.prog 89 #[.func (.func 94) #[] #[.pointer (some ⟨a, 0, none⟩), .pointer (some ⟨b, 0, none⟩)], .slice (some ⟨g2, 0, none⟩) W cap2, .int .i64 0] w' fun e w'' => e = .returned (.bool true) ∧ Below w3.heap.size w3 w'') := fun w' hb => by
          have := NE.out 0 w' hb
          rw [show (((0 : Nat) : Int)) = 0 from rfl] at this
          exact this
        obtain ⟨h2, hh2⟩ : ∃ h2 : Nat, h2 = W / 2 := ⟨_, rfl⟩
        obtain ⟨l2, hl2⟩ : ∃ l2 : Nat, l2 = W - 1 := ⟨_, rfl⟩
        have hb2 : h2 ≤ 4194304 := by omega
        have hb3 : l2 ≤ 4194304 := by omega
        have hd1 : (W : Int) / 2 = (h2 : Int) := by omega
        have hd2 : Int.tdiv (W : Int) 2 = (h2 : Int) := by rw [Int.tdiv_eq_ediv_of_nonneg (by omega)]; omega
        have hd3 : (W : Int) - 1 = (l2 : Int) := by omega
        have hWz2 : ((W : Int) == 0) = false := by simpa using hWz
        have HF := hidIt (fun w' (hb : Below w3.heap.size w3 w') => (HCI.out w' (ext_trans HB3.out hb)).2.2.2)
        clear hh2 hl2 HA2 HCI hW1 hWx hml hml' hmb hc2
        go_wp2_with fail
        refine (N0.out wr HBR.out).mono ?_
        rintro e w4 ⟨rfl, hb4⟩
        have HB4 := hidIt hb4
        clear hb4
        go_wp2_with fail
        refine (NE.out h2 w4 HB4.out).mono ?_
        rintro e w5 ⟨rfl, hb5⟩
        have HB5 := hidIt hb5
        clear hb5
        go_wp2_with fail
        refine (NE.out l2 w5 HB5.out).mono ?_
        rintro e w6 ⟨rfl, hb6⟩
        have HB6 := hidIt hb6
        clear hb6
        go_wp2_with fail
        go_ret
        exact ⟨rfl, HF.out w6 HB6.out⟩
  · have hml' : ¬ (m : Int) < (xs.length : Int) := by omega
    have hO1 : ((xs.drop m).take 1).length = 0 := by rw [List.length_take, List.length_drop]; omega
    have T1 : Hid (Calls Try.prog 88 #[.func (.func 94) #[] #[.pointer (some ⟨a, 0, none⟩), .pointer (some ⟨b, 0, none⟩)], .int .i64 1] w1 fun e w'' => ∃ ao cap, e = .returned (.tuple #[.slice ao 0 cap, .bool true]) ∧ Below w1.heap.size w1 w'') := by
      have := take_any w1 _ u m xs 1 HI1.out HT1.out hx (Nat.le_refl _)
      rw [hO1] at this
      exact this.mono fun _ _ ⟨ao, cap, e1, e2, e3⟩ => ⟨ao, cap, e1, e3⟩
    obtain rfl : W = 0 := by have := HWW.out; omega
    have HF := hidIt (fun w' (hb : Below w1.heap.size w1 w') => (HCI.out w' hb).2.2.2)
    clear hO1 HCI
    go_upto_region 10 with (go_at_call 88; refine T1.out.mono ?_; rintro e w2 ⟨ao1, cap1, rfl, hb2⟩; have HB2 := hidIt hb2; clear hb2)
    go_upto_region 11 with (go_at_call 88; refine (T2.out w2 HB2.out).mono ?_; rintro e w3 ⟨ao2, cap2, rfl, HO2, hb3, hx3⟩; have HB3 := hidIt hb3; clear hb3 hx3 HO2)
    clear T1 T2 hnf
    go_wp2_with fail
    refine wp_loop_rounds 1 ?_
    rw [rounds_succ]
    go_wp2_with fail
    go_ret
    exact ⟨rfl, HF.out w3 HB3.out⟩
end Go.Proofs.Ytlnachbigchobaa
