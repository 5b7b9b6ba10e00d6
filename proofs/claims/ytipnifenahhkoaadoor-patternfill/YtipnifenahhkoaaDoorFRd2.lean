/- skip, hexDigit, hex, sign. -/
import Derived.Test.YtipnifenahhkoaaDoorFRdr
namespace Go.Proofs.YtipnifenahhkoaaDoor
open Go.RowKit

set_option maxRecDepth 100000 in
theorem skip_any {w : World} {b : Nat} {sa : Option Addr} {sc : Nat} {rep : List Int} {p : Nat} {la : Option Addr} {lc : Nat} {line mt : List Int} (h : Fl w b sa sc rep p la lc line mt) (ha : Apt b sa la) (g : Nat) (s : Int) (hg : w.cell? ⟨g, 0, none⟩ = some (.int .i64 s)) :
    Calls Tryd.prog 25 #[.pointer (some ⟨b, 0, none⟩), .slice (some ⟨g, 0, none⟩) 1 1] w fun e w' => e = .returned (.bool (isN rep p s)) ∧ MvR w b sa sc rep (if isN rep p s = true then p + 1 else p) la lc line mt w' := by
  have HI := hidIt (is_any h g s hg)
  have HF := hidIt h
  have HA := hidIt ha
  have hpb : p ≤ 256 := by have := h.rl2; have := h.pl; omega
  cases hn : isN rep p s with
  | false =>
    rw [hn] at HI
    clear h ha hg hn
    go_enter Tryd.func25, Tryd.ntmps25
    go_wp2_with (go_at_call 35; refine HI.out.mono ?_; rintro e w1 ⟨rfl, hb1⟩; (try dsimp only); have HB1 := hidIt hb1; clear hb1)
    go_ret
    exact ⟨rfl, HF.out.ext HB1.out, grown_of HB1.out _⟩
  | true =>
    have hp : p < rep.length := by
      unfold isN at hn
      simp only [Bool.and_eq_true, decide_eq_true_eq] at hn
      exact hn.1
    rw [hn] at HI
    have HP := hidIt hp
    clear h ha hg hn hp
    go_enter Tryd.func25, Tryd.ntmps25
    go_upto_region 3 with (go_at_call 35; refine HI.out.mono ?_; rintro e w1 ⟨rfl, hb1⟩; (try dsimp only); have HB1 := hidIt hb1; clear hb1)
    have F1 := hidIt (HF.out.ext HB1.out)
    obtain ⟨_, c1, _, fz⟩ := F1.out.cells
    have MV := hidIt (F1.out.move HA.out (p + 1) (by have := HP.out; omega))
    have s1 : IntKind.i64.wrap ((p : Int) + 1) = ((p + 1 : Nat) : Int) := by rw [IntKind.wrap_i64]; omega
    go_wp2_with fail
    go_ret
    have e1 : ((p : Int) + 1) = ((p + 1 : Nat) : Int) := by omega
    first | (rw [e1]; exact ⟨rfl, MV.out.1, grown_trans (grown_of HB1.out _) MV.out.2⟩) | exact ⟨rfl, MV.out.1, grown_trans (grown_of HB1.out _) MV.out.2⟩
theorem isDigit_any (c : Int) (w : World) : Calls Tryd.prog 39 #[.int .i64 c] w fun e w' => e = .returned (.bool (isD c)) ∧ w' = w := by
  rcases (show c < 48 ∨ (48 ≤ c ∧ c ≤ 57) ∨ 57 < c from by omega) with h | ⟨h, h'⟩ | h
  all_goals
    go_enter Tryd.func39, Tryd.ntmps39
    go_wp2
    go_ret
    refine ⟨ret_bool ?_, rfl⟩
    unfold isD
    simp
    try omega
theorem isLetter_any (c : Int) (w : World) : Calls Tryd.prog 37 #[.int .i64 c] w fun e w' => e = .returned (.bool (isL c)) ∧ w' = w := by
  rcases (show c < 65 ∨ (65 ≤ c ∧ c ≤ 90) ∨ (90 < c ∧ c < 97) ∨ (97 ≤ c ∧ c ≤ 122) ∨ 122 < c from by omega) with h | ⟨h, h'⟩ | ⟨h, h'⟩ | ⟨h, h'⟩ | h
  all_goals
    go_enter Tryd.func37, Tryd.ntmps37
    go_wp2
    go_ret
    refine ⟨ret_bool ?_, rfl⟩
    unfold isL
    first | (simp; done) | (simp; omega) | (rw [Bool.eq_iff_iff]; simp only [Bool.or_eq_true, Bool.and_eq_true, decide_eq_true_eq]; omega)
set_option maxRecDepth 100000 in
theorem hexDigit_any (c : Int) (hc : -9223372036854775808 ≤ c ∧ c ≤ 9223372036854775807) (w : World) : Calls Tryd.prog 49 #[.int .i64 c] w fun e w' => e = .returned (.tuple #[.int .i64 ((hexD c).getD 0), .bool (hexD c).isSome]) ∧ w' = w := by
  have HD : Hid (∀ w', Calls Tryd.prog 39 #[.int .i64 c] w' fun e w'' => e = .returned (.bool (isD c)) ∧ w'' = w') := fun w' => isDigit_any c w'
  rcases (show c < 48 ∨ (48 ≤ c ∧ c ≤ 57) ∨ (57 < c ∧ c < 65) ∨ (65 ≤ c ∧ c ≤ 70) ∨ (70 < c ∧ c < 97) ∨ (97 ≤ c ∧ c ≤ 102) ∨ 102 < c from by omega) with h | ⟨h, h'⟩ | ⟨h, h'⟩ | ⟨h, h'⟩ | ⟨h, h'⟩ | ⟨h, h'⟩ | h
  all_goals
    have hD : isD c = decide (48 ≤ c ∧ c ≤ 57) := by unfold isD; simp
    first
      | (have e0 : isD c = true := by rw [hD]; simp; omega)
      | (have e0 : isD c = false := by rw [hD]; simp; omega)
    rw [e0] at HD
    clear hD e0
    go_enter Tryd.func49, Tryd.ntmps49
    go_wp2_with (go_at_call 39; refine (HD.out _).mono ?_; rintro e w1 ⟨rfl, h9⟩; obtain rfl := h9.symm; (try dsimp only))
    go_ret2
    refine ⟨?_, rfl⟩
    unfold hexD
    repeat' split
    all_goals first | omega | skip
    all_goals simp
    all_goals try omega
theorem hexD_bd {c a : Int} (h : hexD c = some a) : 0 ≤ a ∧ a ≤ 15 := by
  unfold hexD at h
  split at h
  · cases h; omega
  split at h
  · cases h; omega
  split at h
  · cases h; omega
  · cases h
/-- Every int is one of 64 bits. -/
def In64 (zs : List Int) : Prop := ∀ i : Nat, -9223372036854775808 ≤ zs[i]?.getD 0 ∧ zs[i]?.getD 0 ≤ 9223372036854775807
/-- What hex leaves: the number, or the panic. -/
def HxR (w : World) (b : Nat) (sa : Option Addr) (sc : Nat) (rep : List Int) (p : Nat) (la : Option Addr) (lc : Nat) (line mt : List Int) (e : Ending) (w' : World) : Prop :=
  match hx2 rep p with
  | none => e = .panicked gvP ∧ w.grownBy w' (some b)
  | some v => e = .returned (.int .i64 v) ∧ MvR w b sa sc rep (p + 2) la lc line mt w'
set_option maxRecDepth 100000 in
set_option maxHeartbeats 4000000 in
theorem hex_any {w : World} {b : Nat} {sa : Option Addr} {sc : Nat} {rep : List Int} {p : Nat} {la : Option Addr} {lc : Nat} {line mt : List Int} (h : Fl w b sa sc rep p la lc line mt) (ha : Apt b sa la) (hi : In64 rep) :
    Calls Tryd.prog 47 #[.pointer (some ⟨b, 0, none⟩), .int .i64 2] w fun e w' => HxR w b sa sc rep p la lc line mt e w' := by
  have HF := hidIt h
  have HA := hidIt ha
  have HI := hidIt hi
  have hpb : p ≤ 256 := by have := h.rl2; have := h.pl; omega
  have HPL : Hid (p ≤ rep.length) := h.pl
  clear h ha hi
  have HR : Hid (∀ e w', (match hx2 rep p with | none => e = .panicked gvP ∧ w.grownBy w' (some b) | some v => e = .returned (.int .i64 v) ∧ MvR w b sa sc rep (p + 2) la lc line mt w') → HxR w b sa sc rep p la lc line mt e w') := fun e w' h => h
  by_cases hp : rep.length ≤ p
  · have h0 : hx2 rep p = none := by unfold hx2; rw [if_pos hp]
    rw [h0] at HR
    have HLK := hidIt (look_no HF.out (by have := HPL.out; omega))
    clear hp h0
    go_enter Tryd.func47, Tryd.ntmps47
    go_wp2_with fail
    refine wp_loop_rounds 1 ?_
    rw [rounds_succ]
    go_wp2_with (go_at_call 36; refine HLK.out.mono ?_; rintro e w1 ⟨rfl, hb1⟩; (try dsimp only); have HB1 := hidIt hb1; clear hb1)
    exact ⟨rfl, HR.out _ _ ⟨rfl, grown_of HB1.out _⟩⟩
  · have HLK := hidIt (look_ok HF.out (by omega))
    have hx0 := HI.out p
    cases hd : hexD (rep[p]?.getD 0) with
    | none =>
      have h0 : hx2 rep p = none := by unfold hx2; rw [if_neg hp, hd]
      rw [h0] at HR
      have HHD : Hid (∀ y, Calls Tryd.prog 49 #[.int .i64 (rep[p]?.getD 0)] y fun e w' => e = .returned (.tuple #[.int .i64 0, .bool false]) ∧ w' = y) := fun y => by
        have := hexDigit_any _ hx0 y
        rw [hd] at this
        exact this
      generalize rep[p]?.getD 0 = x at *
      clear hp h0 hd
      go_enter Tryd.func47, Tryd.ntmps47
      go_wp2_with fail
      refine wp_loop_rounds 1 ?_
      rw [rounds_succ]
      go_wp2_with (first | (go_at_call 36; refine HLK.out.mono ?_; rintro e w1 ⟨rfl, hb1⟩; (try dsimp only); have HB1 := hidIt hb1; clear hb1) | (go_at_call 49; refine (HHD.out _).mono ?_; rintro e w2 ⟨rfl, h9⟩; obtain rfl := h9.symm; (try dsimp only)) | (go_at_call 45; refine (giveUp_any _ _).mono ?_; rintro e w3 ⟨rfl, h9⟩; obtain rfl := h9.symm; (try dsimp only)))
      exact ⟨rfl, HR.out _ _ ⟨rfl, grown_of HB1.out _⟩⟩
    | some a =>
      have HHD : Hid (∀ y, Calls Tryd.prog 49 #[.int .i64 (rep[p]?.getD 0)] y fun e w' => e = .returned (.tuple #[.int .i64 a, .bool true]) ∧ w' = y) := fun y => by
        have := hexDigit_any _ hx0 y
        rw [hd] at this
        exact this
      obtain ⟨a0, a15⟩ := hexD_bd hd
      have HMV : Hid (∀ y, Below w.heap.size w y → Fl (y.setCell ⟨b, 1, none⟩ (.int .i64 ((p + 1 : Nat) : Int))) b sa sc rep (p + 1) la lc line mt ∧ w.grownBy (y.setCell ⟨b, 1, none⟩ (.int .i64 ((p + 1 : Nat) : Int))) (some b)) := fun y hb => by
        have m := (HF.out.ext hb).move HA.out (p + 1) (by omega)
        exact ⟨m.1, grown_trans (grown_of hb _) m.2⟩
      have HH2 : Hid (hx2 rep p = if rep.length ≤ p + 1 then none else match hexD (rep[p + 1]?.getD 0) with | none => none | some b => some (a * 16 + b)) := by unfold Hid hx2; rw [if_neg hp, hd]; rfl
      have hx1 := HI.out (p + 1)
      generalize rep[p]?.getD 0 = x at *
      clear hp hd
      go_enter Tryd.func47, Tryd.ntmps47
      go_wp2_with fail
      refine wp_loop_rounds 3 ?_
      rw [rounds_succ]
      go_upto_region 9 with (first | (go_at_call 36; refine HLK.out.mono ?_; rintro e w1 ⟨rfl, hb1⟩; (try dsimp only); have HB1 := hidIt hb1; clear hb1) | (go_at_call 49; refine (HHD.out _).mono ?_; rintro e w2 ⟨rfl, h9⟩; obtain rfl := h9.symm; (try dsimp only)))
      obtain ⟨_, c1, _, fz⟩ := (HF.out.ext HB1.out).cells
      have s1 : IntKind.i64.wrap ((p : Int) + 1) = ((p + 1 : Nat) : Int) := by rw [IntKind.wrap_i64]; omega
      have MV := hidIt (HMV.out w1 HB1.out)
      go_wp2_with fail
      have ep : ((p : Int) + 1) = ((p + 1 : Nat) : Int) := by omega
      try rw [ep]
      generalize w1.setCell ⟨b, 1, none⟩ (.int .i64 ((p + 1 : Nat) : Int)) = y2 at *
      clear c1 fz HMV HLK HHD s1 ep
      rw [rounds_succ]
      by_cases hq : rep.length ≤ p + 1
      · have HL2 := hidIt (look_no MV.out.1 (by have := MV.out.1.pl; omega))
        have h0 : hx2 rep p = none := by rw [HH2.out, if_pos hq]
        rw [h0] at HR
        clear hq h0 HH2
        go_wp2_with (go_at_call 36; refine HL2.out.mono ?_; rintro e w5 ⟨rfl, hb5⟩; (try dsimp only); have HB5 := hidIt hb5; clear hb5)
        exact ⟨rfl, HR.out _ _ ⟨rfl, grown_trans MV.out.2 (grown_of HB5.out _)⟩⟩
      · have HL2 := hidIt (look_ok MV.out.1 (by omega))
        cases hd : hexD (rep[p + 1]?.getD 0) with
        | none =>
          have h0 : hx2 rep p = none := by rw [HH2.out, if_neg hq, hd]
          rw [h0] at HR
          have HD2 : Hid (∀ y, Calls Tryd.prog 49 #[.int .i64 (rep[p + 1]?.getD 0)] y fun e w' => e = .returned (.tuple #[.int .i64 0, .bool false]) ∧ w' = y) := fun y => by
            have := hexDigit_any _ hx1 y
            rw [hd] at this
            exact this
          generalize rep[p + 1]?.getD 0 = x1 at *
          clear hq h0 HH2 hd
          go_wp2_with (first | (go_at_call 36; refine HL2.out.mono ?_; rintro e w5 ⟨rfl, hb5⟩; (try dsimp only); have HB5 := hidIt hb5; clear hb5) | (go_at_call 49; refine (HD2.out _).mono ?_; rintro e w6 ⟨rfl, h9⟩; obtain rfl := h9.symm; (try dsimp only)) | (go_at_call 45; refine (giveUp_any _ _).mono ?_; rintro e w7 ⟨rfl, h9⟩; obtain rfl := h9.symm; (try dsimp only)))
          exact ⟨rfl, HR.out _ _ ⟨rfl, grown_trans MV.out.2 (grown_of HB5.out _)⟩⟩
        | some c =>
          have h0 : hx2 rep p = some (a * 16 + c) := by rw [HH2.out, if_neg hq, hd]
          rw [h0] at HR
          have HD2 : Hid (∀ y, Calls Tryd.prog 49 #[.int .i64 (rep[p + 1]?.getD 0)] y fun e w' => e = .returned (.tuple #[.int .i64 c, .bool true]) ∧ w' = y) := fun y => by
            have := hexDigit_any _ hx1 y
            rw [hd] at this
            exact this
          obtain ⟨b0, b15⟩ := hexD_bd hd
          have HQ : Hid (p + 2 ≤ rep.length) := by unfold Hid; omega
          generalize rep[p + 1]?.getD 0 = x1 at *
          clear hq h0 HH2 hd
          go_upto_region 9 with (first | (go_at_call 36; refine HL2.out.mono ?_; rintro e w5 ⟨rfl, hb5⟩; (try dsimp only); have HB5 := hidIt hb5; clear hb5) | (go_at_call 49; refine (HD2.out _).mono ?_; rintro e w6 ⟨rfl, h9⟩; obtain rfl := h9.symm; (try dsimp only)))
          obtain ⟨_, c1, _, fz⟩ := (MV.out.1.ext HB5.out).cells
          have s1 : IntKind.i64.wrap (((p + 1 : Nat) : Int) + 1) = ((p + 2 : Nat) : Int) := by rw [IntKind.wrap_i64]; omega
          have M2 := hidIt ((MV.out.1.ext HB5.out).move HA.out (p + 2) HQ.out)
          go_wp2_with fail
          rw [rounds_succ]
          go_wp2_with fail
          go_ret
          have e2 : (((p + 1 : Nat) : Int) + 1) = ((p + 2 : Nat) : Int) := by omega
          have e3 : ((p : Int) + 1 + 1) = ((p + 2 : Nat) : Int) := by omega
          first
            | exact HR.out _ _ ⟨rfl, M2.out.1, grown_trans MV.out.2 (grown_trans (grown_of HB5.out _) M2.out.2)⟩
            | (rw [e2]; exact HR.out _ _ ⟨rfl, M2.out.1, grown_trans MV.out.2 (grown_trans (grown_of HB5.out _) M2.out.2)⟩)
            | (rw [e3]; exact HR.out _ _ ⟨rfl, M2.out.1, grown_trans MV.out.2 (grown_trans (grown_of HB5.out _) M2.out.2)⟩)
end Go.Proofs.YtipnifenahhkoaaDoor
