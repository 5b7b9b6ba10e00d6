/- Put. -/
import Derived.Test.YtaoaihjiieandaaDPub
namespace Go.Proofs.Ytaoaihjiieandaa
open Go.RowKit

set_option maxRecDepth 100000 in
set_option maxHeartbeats 2000000 in
theorem putRefused_any {F : Nat → Prop} {M : Nat} {w : World} {d : Nat} {D : Dk} (h : Dsk F M w d D) (n : Nm) (hn : n.length ≤ 9223372036854775807) (k : Nat) (hk : k ≤ 1099511627776) :
    Calls Try.prog 34 #[pp d, sv n, .int .i64 (k : Int)] w fun e w' => e = .returned (.int .i64 (putE n k D)) ∧ Below w.heap.size w w' := by
  obtain ⟨ms, ml, mp, va, fq, fv, hx⟩ := h.open
  obtain ⟨c0, c1, c2, c3, c4, c5, c6, c7, fr⟩ := dC_cells hx.1
  have hsp := hx.2.2.1.sp
  have hus := hx.2.2.1.usd
  cases hdn : D.dn with
  | true =>
    have E : Hid (putE n k D = 165) := by unfold Hid putE; rw [if_pos hdn]
    rw [hdn] at c7
    rw [E.out]
    clear h hx c0 c1 c2 c3 c4 c5 c6 fr
    go_enter Try.func34, Try.ntmps34
    go_wp2_with fail
    go_ret
    exact ⟨rfl, Below.refl _ _⟩
  | false =>
    rw [hdn] at c7
    have FN := hidIt (find_any n hn w hx.2.1.hs)
    have HX := hidIt hx
    have US : Hid (∀ w', Below w.heap.size w w' → Calls Try.prog 73 #[.map (some ms)] w' fun e w'' => e = .returned (.int .i64 (usd D.fi D.se : Nat)) ∧ Below w.heap.size w w'' ∧ w''.cell? ⟨d, 0, none⟩ = some (.int .i64 (D.sp : Int)) ∧ w''.cell? ⟨d, 2, none⟩ = some (.map (some ms))) := fun w' hb => by
      have x' := hx.ext hb
      refine (used_any x'.2.1.hs (fun p hp => x'.fget (x'.2.2.1.seen.ok p hp).2) x'.2.2.1.seen.ne (by omega)).mono ?_
      rintro e w2 ⟨rfl, hb2⟩
      have hb3 := ext_trans hb hb2
      exact ⟨rfl, hb3, (hb3.cell (p := ⟨d, 0, none⟩) (cell_lt c0)).trans c0, (hb3.cell (p := ⟨d, 2, none⟩) (cell_lt c2)).trans c2⟩
    have IF : Hid (∀ w', Below w.heap.size w w' → Calls Try.prog 72 #[pp d] w' fun e w'' => e = .returned (.bool D.full) ∧ w' = w'') := fun w' hb => isFull_any (hx.ext hb).dsk
    have EP : Hid (putE n k D = if okN n = true then (match Dir.get n D.se with | none => if D.full = true ∨ D.sp < usd D.fi D.se + k then 161 else 0 | some i => if D.sp < usd D.fi D.se - (fiAt D.fi i).bs.length + k then 161 else 0) else 164) := by unfold Hid putE; rw [if_neg (by rw [hdn]; decide)]; rfl
    by_cases hok : okN n = true
    · cases hg : Dir.get n D.se with
      | none =>
        have hz : fndE D.se n = 162 := by unfold fndE; rw [if_pos hok, hg]
        rw [hdV_bad (by rw [hz]; decide), hz] at FN
        have E : Hid (putE n k D = if D.full = true ∨ D.sp < usd D.fi D.se + k then 161 else 0) := by have := EP.out; rw [if_pos hok, hg] at this; exact this
        clear h hx c1 c3 c4 c5 c6 fr EP
        cases hfl : D.full with
        | true =>
          rw [E.out, if_pos (.inl hfl)]
          rw [hfl] at IF
          go_enter Try.func34, Try.ntmps34
          go_wp2_with (first | (go_at_call 71; refine FN.out.mono ?_; rintro e w2 ⟨rfl, hb2⟩; have HB2 := hidIt hb2; have c2d := (hb2.cell (p := ⟨d, 2, none⟩) (cell_lt c2)).trans c2; have c0d := (hb2.cell (p := ⟨d, 0, none⟩) (cell_lt c0)).trans c0; clear hb2) | (go_at_call 72; refine (IF.out _ (ext_alloc HB2.out _)).mono ?_; rintro e w3 ⟨rfl, rfl⟩))
          go_ret
          exact ⟨rfl, ext_alloc HB2.out _⟩
        | false =>
          rw [hfl] at IF
          have E2 : putE n k D = if D.sp < usd D.fi D.se + k then 161 else 0 := by have := E.out; rw [hfl] at this; simpa using this
          have e1 : IntKind.i64.wrap (((usd D.fi D.se : Nat) : Int) + (k : Int)) = ((usd D.fi D.se + k : Nat) : Int) := by rw [IntKind.wrap_i64] <;> omega
          clear E
          by_cases hb : D.sp < usd D.fi D.se + k
          · have hbI : (D.sp : Int) < ((usd D.fi D.se + k : Nat) : Int) := by omega
            rw [E2, if_pos hb]
            clear E2 hb
            generalize usd D.fi D.se + k = T at *
            go_enter Try.func34, Try.ntmps34
            go_upto_region 10 with (first | (go_at_call 71; refine FN.out.mono ?_; rintro e w2 ⟨rfl, hb2⟩; have HB2 := hidIt hb2; have c2d := (hb2.cell (p := ⟨d, 2, none⟩) (cell_lt c2)).trans c2; have c0d := (hb2.cell (p := ⟨d, 0, none⟩) (cell_lt c0)).trans c0; clear hb2) | (go_at_call 72; refine (IF.out _ (ext_alloc HB2.out _)).mono ?_; rintro e w3 ⟨rfl, rfl⟩))
            have HBX := hidIt (ext_alloc HB2.out (.cells #[.string ⟨#[]⟩, .pointer none] 96))
            go_region_held3 (fun w' => w'.cell? ⟨d, 0, none⟩ = some (.int .i64 (D.sp : Int)) ∧ w'.cell? ⟨d, 2, none⟩ = some (.map (some ms))) (first | exact ⟨k0, k2⟩ | go_keep) (
              (go_at_call 73; refine (US.out _ (HBX.out.trans (Below.refl _ _).drew)).mono ?_; rintro e w4 ⟨rfl, hb4, k0, k2⟩; have HB4 := hidIt hb4; clear hb4))
            all_goals
              go_wp2_with fail
              go_ret
              exact ⟨rfl, HB4.out⟩
          · have hbI : ¬ (D.sp : Int) < ((usd D.fi D.se + k : Nat) : Int) := by omega
            rw [E2, if_neg hb]
            clear E2 hb
            generalize usd D.fi D.se + k = T at *
            go_enter Try.func34, Try.ntmps34
            go_upto_region 10 with (first | (go_at_call 71; refine FN.out.mono ?_; rintro e w2 ⟨rfl, hb2⟩; have HB2 := hidIt hb2; have c2d := (hb2.cell (p := ⟨d, 2, none⟩) (cell_lt c2)).trans c2; have c0d := (hb2.cell (p := ⟨d, 0, none⟩) (cell_lt c0)).trans c0; clear hb2) | (go_at_call 72; refine (IF.out _ (ext_alloc HB2.out _)).mono ?_; rintro e w3 ⟨rfl, rfl⟩))
            have HBX := hidIt (ext_alloc HB2.out (.cells #[.string ⟨#[]⟩, .pointer none] 96))
            go_region_held3 (fun w' => w'.cell? ⟨d, 0, none⟩ = some (.int .i64 (D.sp : Int)) ∧ w'.cell? ⟨d, 2, none⟩ = some (.map (some ms))) (first | exact ⟨k0, k2⟩ | go_keep) (
              (go_at_call 73; refine (US.out _ (HBX.out.trans (Below.refl _ _).drew)).mono ?_; rintro e w4 ⟨rfl, hb4, k0, k2⟩; have HB4 := hidIt hb4; clear hb4))
            all_goals
              go_wp2_with fail
              go_ret
              exact ⟨rfl, HB4.out⟩
      | some i =>
        have hz : fndE D.se n = 0 := by unfold fndE; rw [if_pos hok, hg]
        rw [hdV_ok hz hg, hz] at FN
        have hi := (hx.2.2.1.seen.ok _ (get_mem hg)).2
        have hul : (fiAt D.fi i).bs.length ≤ usd D.fi D.se := usd_ge (get_mem hg)
        have hfc := (hx.fget hi).cells.2.1
        obtain ⟨fa, fc, hfv, hfl⟩ := (hx.fget hi).slice
        rw [hfv] at hfc
        have E2 : putE n k D = if D.sp < usd D.fi D.se - (fiAt D.fi i).bs.length + k then 161 else 0 := by have := EP.out; rw [if_pos hok, hg] at this; exact this
        generalize hL : (fiAt D.fi i).bs.length = L at *
        obtain ⟨K', hK⟩ : ∃ K' : Int, K' = (k : Int) - (L : Int) := ⟨_, rfl⟩
        have e0 : IntKind.i64.wrap ((k : Int) - (L : Int)) = K' := by rw [IntKind.wrap_i64] <;> omega
        have e1 : IntKind.i64.wrap (((usd D.fi D.se : Nat) : Int) + K') = ((usd D.fi D.se - L + k : Nat) : Int) := by rw [IntKind.wrap_i64] <;> omega
        clear h hx c1 c3 c4 c5 c6 fr EP IF hK hL hg
        by_cases hb : D.sp < usd D.fi D.se - L + k
        · have hbI : (D.sp : Int) < ((usd D.fi D.se - L + k : Nat) : Int) := by omega
          rw [E2, if_pos hb]
          clear E2 hb hul
          generalize usd D.fi D.se - L + k = T at *
          go_enter Try.func34, Try.ntmps34
          go_upto_region 10 with (go_at_call 71; refine FN.out.mono ?_; rintro e w2 ⟨rfl, hb2⟩; have HB2 := hidIt hb2; have c2d := (hb2.cell (p := ⟨d, 2, none⟩) (cell_lt c2)).trans c2; have c0d := (hb2.cell (p := ⟨d, 0, none⟩) (cell_lt c0)).trans c0; have cfd := (hb2.cell (p := ⟨fq i, 1, none⟩) (cell_lt hfc)).trans hfc; have cfa := ((ext_alloc (Below.refl _ w2) (.cells #[sv n, pp (fq i)] 96)).cell (p := ⟨fq i, 1, none⟩) (cell_lt cfd)).trans cfd; clear hb2)
          have HBX := hidIt (ext_alloc HB2.out (.cells #[sv n, pp (fq i)] 96))
          go_region_held3 (fun w' => w'.cell? ⟨d, 0, none⟩ = some (.int .i64 (D.sp : Int)) ∧ w'.cell? ⟨d, 2, none⟩ = some (.map (some ms))) (first | exact ⟨k0, k2⟩ | go_keep) (
              (go_at_call 73; refine (US.out _ (HBX.out.trans (Below.refl _ _).drew)).mono ?_; rintro e w4 ⟨rfl, hb4, k0, k2⟩; have HB4 := hidIt hb4; clear hb4))
          all_goals
            go_wp2_with fail
            go_ret
            exact ⟨rfl, HB4.out⟩
        · have hbI : ¬ (D.sp : Int) < ((usd D.fi D.se - L + k : Nat) : Int) := by omega
          rw [E2, if_neg hb]
          clear E2 hb hul
          generalize usd D.fi D.se - L + k = T at *
          go_enter Try.func34, Try.ntmps34
          go_upto_region 10 with (go_at_call 71; refine FN.out.mono ?_; rintro e w2 ⟨rfl, hb2⟩; have HB2 := hidIt hb2; have c2d := (hb2.cell (p := ⟨d, 2, none⟩) (cell_lt c2)).trans c2; have c0d := (hb2.cell (p := ⟨d, 0, none⟩) (cell_lt c0)).trans c0; have cfd := (hb2.cell (p := ⟨fq i, 1, none⟩) (cell_lt hfc)).trans hfc; have cfa := ((ext_alloc (Below.refl _ w2) (.cells #[sv n, pp (fq i)] 96)).cell (p := ⟨fq i, 1, none⟩) (cell_lt cfd)).trans cfd; clear hb2)
          have HBX := hidIt (ext_alloc HB2.out (.cells #[sv n, pp (fq i)] 96))
          go_region_held3 (fun w' => w'.cell? ⟨d, 0, none⟩ = some (.int .i64 (D.sp : Int)) ∧ w'.cell? ⟨d, 2, none⟩ = some (.map (some ms))) (first | exact ⟨k0, k2⟩ | go_keep) (
              (go_at_call 73; refine (US.out _ (HBX.out.trans (Below.refl _ _).drew)).mono ?_; rintro e w4 ⟨rfl, hb4, k0, k2⟩; have HB4 := hidIt hb4; clear hb4))
          all_goals
            go_wp2_with fail
            go_ret
            exact ⟨rfl, HB4.out⟩
    · have hz : fndE D.se n = 164 := by unfold fndE; rw [if_neg hok]
      rw [hdV_bad (by rw [hz]; decide), hz] at FN
      have E : Hid (putE n k D = 164) := by have := EP.out; rw [if_neg hok] at this; exact this
      rw [E.out]
      clear h hx c1 c3 c4 c5 c6 fr EP
      go_enter Try.func34, Try.ntmps34
      go_wp2_with (first | (go_at_call 71; refine FN.out.mono ?_; rintro e w2 ⟨rfl, hb2⟩; have HB2 := hidIt hb2; have c2d := (hb2.cell (p := ⟨d, 2, none⟩) (cell_lt c2)).trans c2; have c0d := (hb2.cell (p := ⟨d, 0, none⟩) (cell_lt c0)).trans c0; clear hb2))
      go_ret
      exact ⟨rfl, ext_alloc HB2.out _⟩
end Go.Proofs.Ytaoaihjiieandaa
