/- The document's filler: taken. -/
import Derived.Test.YtipnifenahhkoaaDoorFEsc
namespace Go.Proofs.YtipnifenahhkoaaDoor
open Go.RowKit

theorem giv_app (once stay : Int) (a b : List Int) : giv once stay (a ++ b) = giv once stay a ++ giv (onc once a) stay b := by
  cases a with
  | nil => simp [giv, onc]
  | cons x r =>
    have e : onc once (x :: r) = 0 := by simp [onc]
    rw [e]
    cases b with
    | nil => simp [giv]
    | cons y s => simp [giv]
theorem onc_app (once : Int) (a b : List Int) : onc once (a ++ b) = onc (onc once a) b := by
  cases a with
  | nil => simp [onc]
  | cons x r => cases b <;> simp [onc]
/-- What taken leaves: some first ones of what the match tells, all of them or too many. -/
def TkR (lo g : Nat) (w : World) (out : List Int) (once stay : Int) (T : List Int) (e : Ending) (w' : World) : Prop :=
  e = .returned (.tuple #[]) ∧ ∃ k, k ≤ T.length ∧ Df lo w' g (out ++ giv once stay (T.take k)) (onc once (T.take k)) stay ∧ (k = T.length ∨ 140000 < out.length + k) ∧ out.length + k ≤ max out.length 140001 ∧ Below lo w w'
/-- What lies between two places, within the line. -/
def btw (line : List Int) (f t : Int) : List Int := (line.take (min t (line.length : Int)).toNat).drop (max f 0).toNat
theorem btw_len (line : List Int) (f t : Int) : (btw line f t).length = (min t (line.length : Int)).toNat - (max f 0).toNat := by
  unfold btw
  rw [List.length_drop, List.length_take]
  omega
theorem btw_at (line : List Int) (f t : Int) (k : Nat) (h : k < (btw line f t).length) : (btw line f t).take (k + 1) = (btw line f t).take k ++ [line[(max f 0).toNat + k]?.getD 0] := by
  have hl := btw_len line f t
  rw [List.take_add_one]
  congr 1
  unfold btw
  rw [List.getElem?_drop, List.getElem?_take, if_pos (by omega), List.getElem?_eq_getElem (by omega)]
  rfl
set_option maxRecDepth 100000 in
set_option maxHeartbeats 8000000 in
theorem rtaken_any {lo g : Nat} {w : World} {out : List Int} {once stay : Int} (lv : Value) (line : List Int) (f t : Int) (h : Df lo w g out once stay) (hl : out.length ≤ 500000) (hr : ∀ w', Below lo w w' → Rd .i64 w' lv line) :
    Calls Tryd.prog 19 #[.pointer (some ⟨g, 0, none⟩), lv, .int .i64 f, .int .i64 t] w fun e w' => TkR lo g w out once stay (btw line f t) e w' := by
  obtain ⟨la, lc, rfl, _⟩ := id (hr w (Below.refl _ _))
  have HR := hidIt hr
  have HD := hidIt h
  have HL := hidIt hl
  clear h hl hr
  have HTL := hidIt (btw_len line f t)
  have HTA := hidIt (btw_at line f t)
  obtain ⟨T, hT⟩ : ∃ T, T = btw line f t := ⟨_, rfl⟩
  rw [← hT] at HTL HTA ⊢
  clear hT
  obtain ⟨F, hF⟩ : ∃ F, F = (max f 0).toNat := ⟨_, rfl⟩
  rw [← hF] at HTL HTA
  have HF := hidIt hF
  clear hF
  have HFIN : Hid (∀ (k : Nat) (w' : World), k ≤ T.length → Df lo w' g (out ++ giv once stay (T.take k)) (onc once (T.take k)) stay → (k = T.length ∨ 140000 < out.length + k) → out.length + k ≤ max out.length 140001 → Below lo w w' → TkR lo g w out once stay T (.returned (.tuple #[])) w') := fun k w' h1 h2 h3 h4 h5 => ⟨rfl, k, h1, h2, h3, h4, h5⟩
  rcases (show f < 0 ∨ f = 0 ∨ 0 < f from by omega) with hf | rfl | hf
  all_goals
    go_enter Tryd.func19, Tryd.ntmps19
    go_wp2_with fail
    go_loopw [8] (fun i wr => ∃ (k j : Nat), i = .int .i64 (j : Int) ∧ Hid (j = F + k) ∧ k ≤ T.length ∧ Hid (Df lo wr g (out ++ giv once stay (T.take k)) (onc once (T.take k)) stay) ∧ Hid (out.length + k ≤ max out.length 140001) ∧ Hid (Below lo w wr)) (fun i _ => (F + T.length) - (intOf i).toNat)
    case atStart =>
      refine ⟨0, F, ?_, rfl, Nat.zero_le _, ?_, ?_, Below.refl _ _⟩
      · have := HF.out; congr 1; omega
      · unfold Hid; simpa [giv, onc] using HD.out
      · unfold Hid; omega
    case round =>
      obtain ⟨k, j, rfl, HJ, hk, HDK, HLK, HBK⟩ := hrel
      have hjk := HJ.out
      clear HD
      obtain ⟨v, hq, _, how⟩ := HDK.out
      obtain ⟨oa, oc, rfl⟩ := form_own how
      have c0 := (cells3 hq).1
      have hln : (out ++ giv once stay (T.take k)).length = out.length + k := by rw [List.length_append, giv_len, List.length_take]; omega
      obtain ⟨n, hn⟩ : ∃ n, n = out.length + k := ⟨_, rfl⟩
      rw [hln, ← hn] at c0
      have hl0 := HL.out
      clear how hq
      have hTL := HTL.out
      have hFF := HF.out
      by_cases hkl : k < T.length
      · have hd1 : decide ((j : Int) < t) = true := by simp; omega
        have hd2 : decide ((j : Int) < (line.length : Int)) = true := by simp; omega
        by_cases ho : out.length + k ≤ 140000
        · have hd3 : decide ((n : Int) ≤ 140000) = true := by simp; omega
          obtain ⟨la', lc', hv', _, hcp, hcl⟩ := HR.out wr HBK.out
          obtain ⟨lb, lo', rfl, _, hcc⟩ := hcl (List.length_pos_iff.1 (by omega))
          cases hv'
          have hcj := hcc j (by omega)
          have HTK := hidIt (HTA.out k hkl)
          rw [← hjk] at HTK
          have G := hidIt (rgive_any (line[j]?.getD 0) HDK.out (by rw [hln]; omega))
          generalize line[j]?.getD 0 = x at *
          have hji : (j : Int) < (line.length : Int) := by omega
          have hj1 : IntKind.i64.wrap ((j : Int) + 1) = ((j + 1 : Nat) : Int) := by rw [IntKind.wrap_i64]; have := hcp; unfold maxLen at this; omega
          clear hcl hcc hTL hFF hjk hn
          go_wp2_with (go_at_call 16; refine G.out.mono ?_; rintro e w1 ⟨rfl, D1, B1⟩; (try dsimp only); have HD1 := hidIt D1; have HB1 := hidIt B1; clear D1 B1)
          have hj2 := HJ.out
          refine ⟨⟨k + 1, j + 1, by go_num, (by unfold Hid; omega), by omega, ?_, ?_, HBK.out.trans HB1.out⟩, ?_⟩
          · have := HD1.out
            rw [List.append_assoc, ← giv_app, ← HTK.out] at this
            have e : onc once (T.take (k + 1)) = 0 := by rw [HTK.out, onc_app]; simp [onc]
            unfold Hid
            rw [e]
            exact this
          · unfold Hid; omega
          · simp only [intOf]; omega
        · have hd3 : decide ((n : Int) ≤ 140000) = false := by simp; omega
          go_wp2_with fail
          refine bodyPost_ret (results_none rfl _ _ _) rfl ?_
          exact HFIN.out k wr hk HDK.out (.inr (by omega)) HLK.out HBK.out
      · obtain rfl : k = T.length := by omega
        by_cases ht : (j : Int) < t
        · have hd1 : decide ((j : Int) < t) = true := by simp; omega
          have hd2 : decide ((j : Int) < (line.length : Int)) = false := by simp; omega
          go_wp2_with fail
          refine bodyPost_ret (results_none rfl _ _ _) rfl ?_
          exact HFIN.out T.length wr hk HDK.out (.inl rfl) HLK.out HBK.out
        · have hd1 : decide ((j : Int) < t) = false := by simp; omega
          go_wp2_with fail
          refine bodyPost_ret (results_none rfl _ _ _) rfl ?_
          exact HFIN.out T.length wr hk HDK.out (.inl rfl) HLK.out HBK.out
end Go.Proofs.YtipnifenahhkoaaDoor
