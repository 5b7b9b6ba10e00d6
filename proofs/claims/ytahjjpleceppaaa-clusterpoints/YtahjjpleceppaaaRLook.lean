/- The document's looks back. -/
import Derived.Test.YtahjjpleceppaaaRules
import Derived.Test.YtahjjpleceppaaaRefCls2
namespace Go.Proofs.Ytahjjpleceppaaa
open Go.RowKit

theorem rHangul_any (l r : Int) (w : World) : Calls Try.prog 50 #[.int .i64 l, .int .i64 r] w fun e w' => e = .returned (.bool (Cl.hg l r)) ∧ w' = w := by
  go_enter Try.func50, Try.ntmps50
  go_wp2
  all_goals
    go_ret
    exact ⟨ret_bool (by simp_all [Cl.hg, Cl.hd]), rfl⟩

set_option maxRecDepth 100000 in
theorem rConjunct3_any (v : Value) (zs : List Int) (k : Nat) (w : World) (hr : Rd .i64 w v zs) (h0 : 0 < k) (hk : k < zs.length) :
    Calls Try.prog 51 #[v, .int .i64 k] w fun e w' => e = .returned (.bool (Gx.cnj (Cl.at zs k) == 1 && Cl.cj (Cl.rv zs k) == 2)) ∧ w' = w := by
  have hlen := hr.len
  obtain ⟨b, off, cap, rfl, hl, hm, hb, hc⟩ := hr.at (by omega)
  have hck := hc k hk
  have CC : Hid (∀ x w, Calls Try.prog 69 #[.int .i64 x] w fun e w' => e = .returned (.int .i64 (Gx.cnj x)) ∧ w' = w) := rConjunct_any
  have HT : Hid ((Cl.cj (Cl.rv zs k) == 2) = Cl.T false (Cl.cj (Cl.rv zs k))) := (Cl.T_two _ (Cl.cj_le _)).symm
  generalize Cl.at zs k = y at *
  have CK := CC.out y
  generalize hny : Gx.cnj y = ny at *
  have HC : Hid (∀ i, i < zs.length → w.cell? ⟨b, off + i, none⟩ = some (.int .i64 (Cl.at zs i))) := hc
  clear hc hny
  have CK' : Hid (∀ w, Calls Try.prog 69 #[.int .i64 y] w fun e w' => e = .returned (.int .i64 ny) ∧ w' = w) := CK
  clear CK hr
  by_cases hy : ny = 1
  · subst hy
    have HT2 : Hid (((1 : Int) == 1 && Cl.cj (Cl.rv zs k) == 2) = Cl.T false (Cl.cj (Cl.rv zs k))) := by unfold Hid; rw [HT.out]; rfl
    rw [HT2.out]
    clear HT HT2
    go_enter Try.func51, Try.ntmps51
    go_wp2_with (go_at_call 69; refine (CK'.out _).mono ?_; rintro e w' ⟨rfl, rfl⟩)
    clear hck
    go_loop [5, 6] (fun l i => ∃ (m n : Nat), m + n ≤ k ∧ i = .int .i64 ((m : Int) - 1) ∧ l = .int .i64 n ∧ Hid (Cl.T false (Cl.cj (Cl.rv zs k)) = Cl.T (decide (0 < n)) (Cl.cj (Cl.rv zs m)))) (fun _ i => (intOf i + 1).toNat)
    case atStart => exact ⟨k, 0, Nat.le_refl _, by go_num, rfl, rfl⟩
    case round =>
      obtain ⟨m, n, hmk, rfl, rfl, HI⟩ := hrel
      cases m with
      | zero =>
        have HF : Hid (Cl.T false (Cl.cj (Cl.rv zs k)) = false) := by unfold Hid; rw [HI.out]; rfl
        go_wp2
        go_ret
        exact ⟨ret_bool HF.out.symm, rfl⟩
      | succ m =>
        have hcm := HC.out m (by omega)
        rw [Cl.rv_succ zs m (by omega), Cl.cj_cons] at HI
        have CX := CC.out (Cl.at zs m)
        generalize Cl.at zs m = x at *
        generalize Gx.cnj x = nx at *
        have CX' : Hid (∀ w, Calls Try.prog 69 #[.int .i64 x] w fun e w' => e = .returned (.int .i64 nx) ∧ w' = w) := CX
        clear CX CK' CC
        have hmi : ((m + 1 : Nat) : Int) - 1 = (m : Int) := by omega
        rw [hmi]
        by_cases n3 : nx = 3
        · subst n3
          go_wp2_with (go_at_call 69; refine (CX'.out _).mono ?_; rintro e w' ⟨rfl, rfl⟩)
          go_round
          case rel => exact ⟨m, n + 1, by omega, by go_num, by go_num, by rw [HI.out]; exact (Cl.T_link _ _).trans (by simp)⟩
          case measure => simp [intOf]
        by_cases n2 : nx = 2
        · subst n2
          go_wp2_with (go_at_call 69; refine (CX'.out _).mono ?_; rintro e w' ⟨rfl, rfl⟩)
          go_round
          case rel => exact ⟨m, n, by omega, by go_num, by go_num, by rw [HI.out]; exact Cl.T_ext _ _⟩
          case measure => simp [intOf]
        by_cases n1 : nx = 1
        · subst n1
          have HF : Hid (Cl.T false (Cl.cj (Cl.rv zs k)) = decide (0 < n)) := HI.out.trans (Cl.T_con _ _)
          by_cases hn : 0 < n
          · have hd : decide ((0 : Int) < (n : Int)) = true := by simp; omega
            go_wp2_with (go_at_call 69; refine (CX'.out _).mono ?_; rintro e w' ⟨rfl, rfl⟩)
            go_ret
            exact ⟨ret_bool (by rw [HF.out]; simp [hn]), rfl⟩
          · have hd : decide ((0 : Int) < (n : Int)) = false := by simp; omega
            go_wp2_with (go_at_call 69; refine (CX'.out _).mono ?_; rintro e w' ⟨rfl, rfl⟩)
            go_ret
            exact ⟨ret_bool (by rw [HF.out]; simp [hn]), rfl⟩
        · have HF : Hid (Cl.T false (Cl.cj (Cl.rv zs k)) = false) := HI.out.trans (Cl.T_no _ _ _ n1 n2 n3)
          have b1 : (nx == 1) = false := by simp [n1]
          have b2 : (nx != 2) = true := by simp [n2]
          have b3 : (nx == 3) = false := by simp [n3]
          have b4 : (nx != 3) = true := by simp [n3]
          by_cases hn : 0 < n
          · have hd : decide ((0 : Int) < (n : Int)) = true := by simp; omega
            go_wp2_with (go_at_call 69; refine (CX'.out _).mono ?_; rintro e w' ⟨rfl, rfl⟩)
            go_ret
            exact ⟨ret_bool HF.out.symm, rfl⟩
          · have hd : decide ((0 : Int) < (n : Int)) = false := by simp; omega
            go_wp2_with (go_at_call 69; refine (CX'.out _).mono ?_; rintro e w' ⟨rfl, rfl⟩)
            go_ret
            exact ⟨ret_bool HF.out.symm, rfl⟩
  · have b1 : (ny == 1) = false := by simp [hy]
    have b2 : (ny != 1) = true := by simp [hy]
    rw [b1, Bool.false_and]
    go_enter Try.func51, Try.ntmps51
    go_wp2_with (go_at_call 69; refine (CK'.out _).mono ?_; rintro e w' ⟨rfl, rfl⟩)
    go_ret
    exact ⟨rfl, rfl⟩

set_option maxRecDepth 100000 in
theorem rJoined3_any (v : Value) (zs : List Int) (k : Nat) (w : World) (hr : Rd .i64 w v zs) (h0 : 0 < k) (hk : k < zs.length) :
    Calls Try.prog 52 #[v, .int .i64 k] w fun e w' => e = .returned (.bool (Gx.cls (Cl.at zs k) == 14 && (Gx.cls (Cl.at zs (k - 1)) == 5 && Cl.pi (Cl.rv zs (k - 1)) == 1))) ∧ w' = w := by
  have hlen := hr.len
  obtain ⟨b, off, cap, rfl, hl, hm, hb, hc⟩ := hr.at (by omega)
  have hck := hc k hk
  have hck1 := hc (k - 1) (by omega)
  have CC : Hid (∀ x w, Calls Try.prog 49 #[.int .i64 x] w fun e w' => e = .returned (.int .i64 (Gx.cls x)) ∧ w' = w) := rClass_any
  have HC : Hid (∀ i, i < zs.length → w.cell? ⟨b, off + i, none⟩ = some (.int .i64 (Cl.at zs i))) := hc
  have g1 : (0 : Int) ≤ (k : Int) - 1 := by omega
  have g2 : (k : Int) - 1 < (zs.length : Int) := by omega
  have CK := CC.out (Cl.at zs k)
  have CL := CC.out (Cl.at zs (k - 1))
  generalize hy1 : Gx.cls (Cl.at zs k) = cy at *
  generalize hx1 : Gx.cls (Cl.at zs (k - 1)) = cx at *
  clear hy1 hx1
  generalize hy2 : Cl.at zs k = y at *
  generalize hx2 : Cl.at zs (k - 1) = x at *
  clear hy2 hx2
  have CK' : Hid (∀ w, Calls Try.prog 49 #[.int .i64 y] w fun e w' => e = .returned (.int .i64 cy) ∧ w' = w) := CK
  have CL' : Hid (∀ w, Calls Try.prog 49 #[.int .i64 x] w fun e w' => e = .returned (.int .i64 cx) ∧ w' = w) := CL
  clear hc CK CL hr
  by_cases hy : cy = 14
  · subst hy
    by_cases hx : cx = 5
    · subst hx
      rw [show ((14 : Int) == 14 && ((5 : Int) == 5 && Cl.pi (Cl.rv zs (k - 1)) == 1)) = (Cl.pi (Cl.rv zs (k - 1)) == 1) from rfl]
      go_enter Try.func52, Try.ntmps52
      go_wp2_with (first | (go_at_call_of 49 (Value.int IntKind.i64 y); refine (CK'.out _).mono ?_; rintro e w' ⟨rfl, rfl⟩) | (go_at_call_of 49 (Value.int IntKind.i64 x); refine (CL'.out _).mono ?_; rintro e w' ⟨rfl, rfl⟩))
      clear hck hck1
      go_loop [5] (fun i => ∃ (m : Nat), m < k ∧ i = .int .i64 ((m : Int) - 1) ∧ Hid ((Cl.pi (Cl.rv zs (k - 1)) == 1) = (Cl.pi (Cl.rv zs m) == 1))) (fun i => (intOf i + 1).toNat)
      case atStart => exact ⟨k - 1, by omega, by go_num, rfl⟩
      case round =>
        obtain ⟨m, hmk, rfl, HI⟩ := hrel
        cases m with
        | zero =>
          have HF : Hid ((Cl.pi (Cl.rv zs (k - 1)) == 1) = false) := by unfold Hid; rw [HI.out]; rfl
          go_wp2
          go_ret
          exact ⟨ret_bool HF.out.symm, rfl⟩
        | succ m =>
          have hcm := HC.out m (by omega)
          rw [Cl.rv_succ zs m (by omega), Cl.pi_cons] at HI
          have CX := CC.out (Cl.at zs m)
          generalize Cl.at zs m = z at *
          generalize Gx.cls z = nx at *
          have CX' : Hid (∀ w, Calls Try.prog 49 #[.int .i64 z] w fun e w' => e = .returned (.int .i64 nx) ∧ w' = w) := CX
          clear CX CC
          have hmi : ((m + 1 : Nat) : Int) - 1 = (m : Int) := by omega
          rw [hmi]
          by_cases n4 : nx = 4
          · subst n4
            go_wp2_with (go_at_call 49; refine (CX'.out _).mono ?_; rintro e w' ⟨rfl, rfl⟩)
            go_round
            case rel => exact ⟨m, by omega, by go_num, by rw [HI.out]; exact Cl.piF_4 _⟩
            case measure => simp [intOf]
          have b1 : (nx != 4) = true := by simp [n4]
          by_cases n14 : nx = 14
          · subst n14
            have HF : Hid ((Cl.pi (Cl.rv zs (k - 1)) == 1) = true) := HI.out.trans rfl
            go_wp2_with (go_at_call 49; refine (CX'.out _).mono ?_; rintro e w' ⟨rfl, rfl⟩)
            go_ret
            exact ⟨ret_bool HF.out.symm, rfl⟩
          · have HF : Hid ((Cl.pi (Cl.rv zs (k - 1)) == 1) = false) := HI.out.trans (Cl.piF_no _ _ n4 n14)
            have b2 : (nx == 14) = false := by simp [n14]
            go_wp2_with (go_at_call 49; refine (CX'.out _).mono ?_; rintro e w' ⟨rfl, rfl⟩)
            go_ret
            exact ⟨ret_bool HF.out.symm, rfl⟩
    · have b1 : (cx == 5) = false := by simp [hx]
      have b2 : (cx != 5) = true := by simp [hx]
      rw [b1, Bool.false_and, Bool.and_false]
      go_enter Try.func52, Try.ntmps52
      go_wp2_with (first | (go_at_call_of 49 (Value.int IntKind.i64 y); refine (CK'.out _).mono ?_; rintro e w' ⟨rfl, rfl⟩) | (go_at_call_of 49 (Value.int IntKind.i64 x); refine (CL'.out _).mono ?_; rintro e w' ⟨rfl, rfl⟩))
      go_ret
      exact ⟨rfl, rfl⟩
  · have b1 : (cy == 14) = false := by simp [hy]
    have b2 : (cy != 14) = true := by simp [hy]
    rw [b1, Bool.false_and]
    go_enter Try.func52, Try.ntmps52
    go_wp2_with (go_at_call 49; refine (CK'.out _).mono ?_; rintro e w' ⟨rfl, rfl⟩)
    go_ret
    exact ⟨rfl, rfl⟩

set_option maxRecDepth 100000 in
theorem rFlag_any (v : Value) (zs : List Int) (k : Nat) (w : World) (hr : Rd .i64 w v zs) (h0 : 0 < k) (hk : k < zs.length) :
    Calls Try.prog 53 #[v, .int .i64 k] w fun e w' => e = .returned (.bool (Gx.cls (Cl.at zs k) == 6 && Cl.fl (Cl.rv zs k) % 2 == 1)) ∧ w' = w := by
  have hlen := hr.len
  obtain ⟨b, off, cap, rfl, hl, hm, hb, hc⟩ := hr.at (by omega)
  have hck := hc k hk
  have CC : Hid (∀ x w, Calls Try.prog 49 #[.int .i64 x] w fun e w' => e = .returned (.int .i64 (Gx.cls x)) ∧ w' = w) := rClass_any
  have HC : Hid (∀ i, i < zs.length → w.cell? ⟨b, off + i, none⟩ = some (.int .i64 (Cl.at zs i))) := hc
  have CK := CC.out (Cl.at zs k)
  generalize hy1 : Gx.cls (Cl.at zs k) = cy at *
  clear hy1
  generalize hy2 : Cl.at zs k = y at *
  clear hy2
  have CK' : Hid (∀ w, Calls Try.prog 49 #[.int .i64 y] w fun e w' => e = .returned (.int .i64 cy) ∧ w' = w) := CK
  clear hc CK hr
  by_cases hy : cy = 6
  · subst hy
    rw [show ((6 : Int) == 6 && Cl.fl (Cl.rv zs k) % 2 == 1) = (Cl.fl (Cl.rv zs k) % 2 == 1) from rfl]
    go_enter Try.func53, Try.ntmps53
    go_wp2_with (go_at_call 49; refine (CK'.out _).mono ?_; rintro e w' ⟨rfl, rfl⟩)
    clear hck
    go_loop [5, 6] (fun r i => ∃ (m c : Nat), m + c ≤ k ∧ r = .int .i64 (c : Int) ∧ i = .int .i64 ((m : Int) - 1) ∧ Hid (Cl.fl (Cl.rv zs k) = c + Cl.fl (Cl.rv zs m))) (fun _ i => (intOf i + 1).toNat)
    case atStart => exact ⟨k, 0, by omega, rfl, by go_num, by unfold Hid; omega⟩
    case round =>
      obtain ⟨m, c, hmk, rfl, rfl, HI⟩ := hrel
      cases m with
      | zero =>
        have HF : Hid (Cl.fl (Cl.rv zs k) = c) := by unfold Hid; rw [HI.out, Cl.rv_zero, Cl.fl_nil]; rfl
        go_wp2
        go_ret
        refine ⟨ret_bool ?_, rfl⟩
        rw [HF.out, Bool.eq_iff_iff]; simp; omega
      | succ m =>
        have hcm := HC.out m (by omega)
        rw [Cl.rv_succ zs m (by omega), Cl.fl_cons] at HI
        have CX := CC.out (Cl.at zs m)
        generalize Cl.at zs m = x at *
        generalize Gx.cls x = nx at *
        have CX' : Hid (∀ w, Calls Try.prog 49 #[.int .i64 x] w fun e w' => e = .returned (.int .i64 nx) ∧ w' = w) := CX
        clear CX CC
        have hmi : ((m + 1 : Nat) : Int) - 1 = (m : Int) := by omega
        rw [hmi]
        by_cases n6 : nx = 6
        · subst n6
          have HI' : Hid (Cl.fl (Cl.rv zs k) = (c + 1) + Cl.fl (Cl.rv zs m)) := by unfold Hid; rw [HI.out]; unfold Cl.flF; rw [if_pos rfl]; omega
          go_wp2_with (go_at_call 49; refine (CX'.out _).mono ?_; rintro e w' ⟨rfl, rfl⟩)
          go_round
          case rel => exact ⟨m, c + 1, by omega, by go_num, by go_num, HI'.out⟩
          case measure => simp [intOf]
        · have b6 : (nx != 6) = true := by simp [n6]
          have HF : Hid (Cl.fl (Cl.rv zs k) = c) := by unfold Hid; rw [HI.out]; unfold Cl.flF; rw [if_neg n6]; omega
          go_wp2_with (go_at_call 49; refine (CX'.out _).mono ?_; rintro e w' ⟨rfl, rfl⟩)
          go_ret
          refine ⟨ret_bool ?_, rfl⟩
          rw [HF.out, Bool.eq_iff_iff]; simp; omega
  · have b1 : (cy == 6) = false := by simp [hy]
    have b2 : (cy != 6) = true := by simp [hy]
    rw [b1, Bool.false_and]
    go_enter Try.func53, Try.ntmps53
    go_wp2_with (go_at_call 49; refine (CK'.out _).mono ?_; rintro e w' ⟨rfl, rfl⟩)
    go_ret
    exact ⟨rfl, rfl⟩
end Go.Proofs.Ytahjjpleceppaaa
