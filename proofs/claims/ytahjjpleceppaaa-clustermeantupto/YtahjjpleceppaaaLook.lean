/- The looks back, and the rules. -/
import Derived.Test.YtahjjpleceppaaaMem
import Derived.WalkMore
import Derived.Deep.LoopGhost
namespace Go.Proofs.Ytahjjpleceppaaa
open Go.RowKit

/-- What a look back along a conjunct's row answers, by the state. -/
def Cl.T (b : Bool) (s : Nat) : Bool := if s = 0 then false else if s = 1 then b else true
theorem Cl.cjF_le (n : Int) (s : Nat) (h : s ≤ 2) : Cl.cjF n s ≤ 2 := by
  unfold Cl.cjF
  repeat' split
  all_goals omega
theorem Cl.cj_le (p : List Int) : Cl.cj p ≤ 2 := by
  induction p with
  | nil => exact Nat.zero_le _
  | cons x t ih => rw [Cl.cj_cons]; exact Cl.cjF_le _ _ ih
theorem Cl.T_two (s : Nat) (h : s ≤ 2) : Cl.T false s = (s == 2) := by
  unfold Cl.T
  rw [Bool.eq_iff_iff]
  repeat' split
  all_goals (simp; try omega)
theorem Cl.T_link (b : Bool) (s : Nat) : Cl.T b (Cl.cjF 3 s) = Cl.T true s := by
  unfold Cl.T Cl.cjF
  rcases s with _ | _ | s <;> simp
theorem Cl.T_ext (b : Bool) (s : Nat) : Cl.T b (Cl.cjF 2 s) = Cl.T b s := rfl
theorem Cl.T_con (b : Bool) (s : Nat) : Cl.T b (Cl.cjF 1 s) = b := rfl
theorem Cl.T_no (b : Bool) (n : Int) (s : Nat) (h1 : n ≠ 1) (h2 : n ≠ 2) (h3 : n ≠ 3) : Cl.T b (Cl.cjF n s) = false := by
  simp [Cl.T, Cl.cjF, h1, h2, h3]

set_option maxRecDepth 100000 in
theorem inConjunct_any (v : Value) (zs : List Int) (k : Nat) (w : World) (hr : Rd .i64 w v zs) (h0 : 0 < k) (hk : k < zs.length) :
    Calls Try.prog 59 #[v, .int .i64 k] w fun e w' => e = .returned (.bool (Gx.cnj (Cl.at zs k) == 1 && Cl.cj (Cl.rv zs k) == 2)) ∧ Below w.heap.size w w' := by
  obtain ⟨b, off, cap, rfl, hl, hm, hb, hc⟩ := hr.at (by omega)
  have hck := hc k hk
  have CC : Hid (∀ x w, Calls Try.prog 70 #[.int .i64 x] w fun e w' => e = .returned (.int .i64 (Gx.cnj x)) ∧ Below w.heap.size w w') := Conjunct_any
  have HT : Hid ((Cl.cj (Cl.rv zs k) == 2) = Cl.T false (Cl.cj (Cl.rv zs k))) := (Cl.T_two _ (Cl.cj_le _)).symm
  generalize Cl.at zs k = y at *
  have CK := CC.out y
  generalize hny : Gx.cnj y = ny at *
  have HC : Hid (∀ i, i < zs.length → w.cell? ⟨b, off + i, none⟩ = some (.int .i64 (Cl.at zs i))) := hc
  clear hc hny
  have CK' : Hid (∀ w, Calls Try.prog 70 #[.int .i64 y] w fun e w' => e = .returned (.int .i64 ny) ∧ Below w.heap.size w w') := CK
  clear CK hr
  by_cases hy : ny = 1
  · subst hy
    have HT2 : Hid (((1 : Int) == 1 && Cl.cj (Cl.rv zs k) == 2) = Cl.T false (Cl.cj (Cl.rv zs k))) := by unfold Hid; rw [HT.out]; rfl
    rw [HT2.out]
    clear HT HT2
    go_enter Try.func59, Try.ntmps59
    go_wp2_with fail
    go_step3
    go_wp2_with (go_at_call 70; refine (CK'.out _).mono ?_; rintro e w1 ⟨rfl, hb1⟩)
    have HB1 : Hid (Below w.heap.size w w1) := hb1
    clear hb1 hck
    go_step3
    go_wp2_with fail
    go_loopw [5, 6] (fun l i wr => ∃ (m : Nat) (bl : Bool), m ≤ k ∧ i = .int .i64 ((m : Int) - 1) ∧ l = .bool bl ∧ Hid (Cl.T false (Cl.cj (Cl.rv zs k)) = Cl.T bl (Cl.cj (Cl.rv zs m))) ∧ Below w.heap.size w wr) (fun _ i _ => (intOf i + 1).toNat)
    case atStart => exact ⟨k, false, Nat.le_refl _, by go_num, rfl, rfl, HB1.out⟩
    case round =>
      obtain ⟨m, bl, hmk, rfl, rfl, HI, hbw⟩ := hrel
      cases m with
      | zero =>
        have HF : Hid (Cl.T false (Cl.cj (Cl.rv zs k)) = false) := by unfold Hid; rw [HI.out]; rfl
        go_wp2
        try rw [Exit.noGoto_ret]
        go_ret
        exact ⟨ret_bool HF.out.symm, hbw⟩
      | succ m =>
        have hcm : wr.cell? ⟨b, off + m, none⟩ = some (.int .i64 (Cl.at zs m)) := (hbw.cell (p := ⟨b, off + m, none⟩) hb).trans (HC.out m (by omega))
        rw [Cl.rv_succ zs m (by omega), Cl.cj_cons] at HI
        have CX := CC.out (Cl.at zs m)
        generalize Cl.at zs m = x at *
        generalize Gx.cnj x = nx at *
        have CX' : Hid (∀ w, Calls Try.prog 70 #[.int .i64 x] w fun e w' => e = .returned (.int .i64 nx) ∧ Below w.heap.size w w') := CX
        have HBW : Hid (Below w.heap.size w wr) := hbw
        clear CX hbw CK' CC
        have hmi : ((m + 1 : Nat) : Int) - 1 = (m : Int) := by omega
        rw [hmi]
        by_cases n3 : nx = 3
        · subst n3
          go_wp2_with (go_at_call 70; refine (CX'.out _).mono ?_; rintro e w2 ⟨rfl, hb2⟩)
          go_roundw
          case rel => exact ⟨m, true, by omega, by go_num, rfl, by rw [HI.out]; exact Cl.T_link _ _, ext_trans HBW.out hb2⟩
          case measure => simp [intOf]
        by_cases n2 : nx = 2
        · subst n2
          go_wp2_with (go_at_call 70; refine (CX'.out _).mono ?_; rintro e w2 ⟨rfl, hb2⟩)
          go_roundw
          case rel => exact ⟨m, bl, by omega, by go_num, rfl, by rw [HI.out]; exact Cl.T_ext _ _, ext_trans HBW.out hb2⟩
          case measure => simp [intOf]
        by_cases n1 : nx = 1
        · subst n1
          have HF : Hid (Cl.T false (Cl.cj (Cl.rv zs k)) = bl) := HI.out.trans (Cl.T_con _ _)
          go_wp2_with (go_at_call 70; refine (CX'.out _).mono ?_; rintro e w2 ⟨rfl, hb2⟩)
          try rw [Exit.noGoto_ret]
          go_ret
          exact ⟨ret_bool HF.out.symm, ext_trans HBW.out hb2⟩
        · have HF : Hid (Cl.T false (Cl.cj (Cl.rv zs k)) = false) := HI.out.trans (Cl.T_no _ _ _ n1 n2 n3)
          have b1 : (nx == 1) = false := by simp [n1]
          have b2 : (nx == 2) = false := by simp [n2]
          have b3 : (nx == 3) = false := by simp [n3]
          go_wp2_with (go_at_call 70; refine (CX'.out _).mono ?_; rintro e w2 ⟨rfl, hb2⟩)
          try rw [Exit.noGoto_ret]
          go_ret
          exact ⟨ret_bool HF.out.symm, ext_trans HBW.out hb2⟩
  · have b1 : (ny == 1) = false := by simp [hy]
    have b2 : (ny != 1) = true := by simp [hy]
    rw [b1, Bool.false_and]
    go_enter Try.func59, Try.ntmps59
    go_wp2_with fail
    go_step3
    go_wp2_with (go_at_call 70; refine (CK'.out _).mono ?_; rintro e w1 ⟨rfl, hb1⟩)
    rw [Exit.noGoto_ret]
    go_ret
    exact ⟨rfl, hb1⟩

theorem Cl.piF_4 (s : Nat) : (Cl.piF 4 s == 1) = (s == 1) := by
  unfold Cl.piF; rw [Bool.eq_iff_iff]; simp
theorem Cl.piF_no (c : Int) (s : Nat) (h1 : c ≠ 4) (h2 : c ≠ 14) : (Cl.piF c s == 1) = false := by
  unfold Cl.piF; rw [if_neg h2, if_neg h1]; repeat' split
  all_goals rfl

set_option maxRecDepth 100000 in
theorem inPicture_any (v : Value) (zs : List Int) (k : Nat) (w : World) (hr : Rd .i64 w v zs) (h0 : 0 < k) (hk : k < zs.length) :
    Calls Try.prog 60 #[v, .int .i64 k] w fun e w' => e = .returned (.bool (Cl.pi (Cl.rv zs (k - 1)) == 1)) ∧ Below w.heap.size w w' := by
  obtain ⟨b, off, cap, rfl, hl, hm, hb, hc⟩ := hr.at (by omega)
  have CC : Hid (∀ x w, Calls Try.prog 47 #[.int .i64 x] w fun e w' => e = .returned (.int .i64 (Gx.cls x)) ∧ Below w.heap.size w w') := Class_any
  have HC : Hid (∀ i, i < zs.length → w.cell? ⟨b, off + i, none⟩ = some (.int .i64 (Cl.at zs i))) := hc
  clear hc hr
  go_enter Try.func60, Try.ntmps60
  go_wp2_with fail
  go_step3
  go_wp2_with fail
  go_step3
  go_wp2_with fail
  go_loopw [5] (fun i wr => ∃ (m : Nat), m < k ∧ i = .int .i64 ((m : Int) - 1) ∧ Hid ((Cl.pi (Cl.rv zs (k - 1)) == 1) = (Cl.pi (Cl.rv zs m) == 1)) ∧ Below w.heap.size w wr) (fun i _ => (intOf i + 1).toNat)
  case atStart => exact ⟨k - 1, by omega, by go_num, rfl, Below.refl _ _⟩
  case round =>
    obtain ⟨m, hmk, rfl, HI, hbw⟩ := hrel
    cases m with
    | zero =>
      have HF : Hid ((Cl.pi (Cl.rv zs (k - 1)) == 1) = false) := by unfold Hid; rw [HI.out]; rfl
      go_wp2
      try rw [Exit.noGoto_ret]
      go_ret
      exact ⟨ret_bool HF.out.symm, hbw⟩
    | succ m =>
      have hcm : wr.cell? ⟨b, off + m, none⟩ = some (.int .i64 (Cl.at zs m)) := (hbw.cell (p := ⟨b, off + m, none⟩) hb).trans (HC.out m (by omega))
      rw [Cl.rv_succ zs m (by omega), Cl.pi_cons] at HI
      have CX := CC.out (Cl.at zs m)
      generalize Cl.at zs m = x at *
      generalize Gx.cls x = nx at *
      have CX' : Hid (∀ w, Calls Try.prog 47 #[.int .i64 x] w fun e w' => e = .returned (.int .i64 nx) ∧ Below w.heap.size w w') := CX
      have HBW : Hid (Below w.heap.size w wr) := hbw
      clear CX hbw CC
      have hmi : ((m + 1 : Nat) : Int) - 1 = (m : Int) := by omega
      rw [hmi]
      by_cases n4 : nx = 4
      · subst n4
        go_wp2_with (go_at_call 47; refine (CX'.out _).mono ?_; rintro e w2 ⟨rfl, hb2⟩)
        go_roundw
        case rel => exact ⟨m, by omega, by go_num, by rw [HI.out]; exact Cl.piF_4 _, ext_trans HBW.out hb2⟩
        case measure => simp [intOf]
      by_cases n14 : nx = 14
      · subst n14
        have HF : Hid ((Cl.pi (Cl.rv zs (k - 1)) == 1) = true) := HI.out.trans rfl
        go_wp2_with (go_at_call 47; refine (CX'.out _).mono ?_; rintro e w2 ⟨rfl, hb2⟩)
        try rw [Exit.noGoto_ret]
        go_ret
        exact ⟨ret_bool HF.out.symm, ext_trans HBW.out hb2⟩
      · have HF : Hid ((Cl.pi (Cl.rv zs (k - 1)) == 1) = false) := HI.out.trans (Cl.piF_no _ _ n4 n14)
        have b1 : (nx == 4) = false := by simp [n4]
        have b2 : (nx == 14) = false := by simp [n14]
        go_wp2_with (go_at_call 47; refine (CX'.out _).mono ?_; rintro e w2 ⟨rfl, hb2⟩)
        try rw [Exit.noGoto_ret]
        go_ret
        exact ⟨ret_bool HF.out.symm, ext_trans HBW.out hb2⟩

set_option maxRecDepth 100000 in
theorem inFlag_any (v : Value) (zs : List Int) (k : Nat) (w : World) (hr : Rd .i64 w v zs) (h0 : 0 < k) (hk : k < zs.length) :
    Calls Try.prog 61 #[v, .int .i64 k] w fun e w' => e = .returned (.bool ((Cl.fl (Cl.rv zs (k - 1)) + 1) % 2 == 1)) ∧ Below w.heap.size w w' := by
  obtain ⟨b, off, cap, rfl, hl, hm, hb, hc⟩ := hr.at (by omega)
  have CC : Hid (∀ x w, Calls Try.prog 47 #[.int .i64 x] w fun e w' => e = .returned (.int .i64 (Gx.cls x)) ∧ Below w.heap.size w w') := Class_any
  have HC : Hid (∀ i, i < zs.length → w.cell? ⟨b, off + i, none⟩ = some (.int .i64 (Cl.at zs i))) := hc
  clear hc hr
  go_enter Try.func61, Try.ntmps61
  go_wp2_with fail
  go_loopw [5, 6] (fun r i wr => ∃ (m c : Nat), m + c < k ∧ r = .int .i64 (1 + (c : Int)) ∧ i = .int .i64 ((m : Int) - 1) ∧ Hid (Cl.fl (Cl.rv zs (k - 1)) = c + Cl.fl (Cl.rv zs m)) ∧ Below w.heap.size w wr) (fun _ i _ => (intOf i + 1).toNat)
  case atStart => exact ⟨k - 1, 0, by omega, rfl, by go_num, by unfold Hid; omega, Below.refl _ _⟩
  case round =>
    obtain ⟨m, c, hmk, rfl, rfl, HI, hbw⟩ := hrel
    cases m with
    | zero =>
      have HF : Hid ((Cl.fl (Cl.rv zs (k - 1)) + 1) % 2 = (1 + c) % 2) := by unfold Hid; rw [HI.out, Cl.rv_zero, Cl.fl_nil]; omega
      have hdz : decide ((0 : Int) ≤ ((0 : Nat) : Int) - 1) = false := by decide
      go_wp2
      go_ret
      refine ⟨ret_bool ?_, hbw⟩
      rw [HF.out, Bool.eq_iff_iff]; simp; omega
    | succ m =>
      have hcm : wr.cell? ⟨b, off + m, none⟩ = some (.int .i64 (Cl.at zs m)) := (hbw.cell (p := ⟨b, off + m, none⟩) hb).trans (HC.out m (by omega))
      rw [Cl.rv_succ zs m (by omega), Cl.fl_cons] at HI
      have CX := CC.out (Cl.at zs m)
      generalize Cl.at zs m = x at *
      generalize Gx.cls x = nx at *
      have CX' : Hid (∀ w, Calls Try.prog 47 #[.int .i64 x] w fun e w' => e = .returned (.int .i64 nx) ∧ Below w.heap.size w w') := CX
      have HBW : Hid (Below w.heap.size w wr) := hbw
      clear CX hbw CC
      have hmi : ((m + 1 : Nat) : Int) - 1 = (m : Int) := by omega
      rw [hmi]
      by_cases n6 : nx = 6
      · subst n6
        have HI' : Hid (Cl.fl (Cl.rv zs (k - 1)) = (c + 1) + Cl.fl (Cl.rv zs m)) := by unfold Hid; rw [HI.out]; unfold Cl.flF; rw [if_pos rfl]; omega
        go_wp2_with (go_at_call 47; refine (CX'.out _).mono ?_; rintro e w2 ⟨rfl, hb2⟩)
        go_roundw
        case rel => exact ⟨m, c + 1, by omega, by go_num, by go_num, HI'.out, ext_trans HBW.out hb2⟩
        case measure => simp [intOf]
      · have b6 : (nx == 6) = false := by simp [n6]
        have HF : Hid ((Cl.fl (Cl.rv zs (k - 1)) + 1) % 2 = (1 + c) % 2) := by unfold Hid; rw [HI.out]; unfold Cl.flF; rw [if_neg n6]; omega
        go_wp2_with (go_at_call 47; refine (CX'.out _).mono ?_; rintro e w2 ⟨rfl, hb2⟩)
        go_ret
        refine ⟨ret_bool ?_, ext_trans HBW.out hb2⟩
        rw [HF.out, Bool.eq_iff_iff]; simp; omega

theorem isAlone_any (c : Int) (w : World) : Calls Try.prog 56 #[.int .i64 c] w fun e w' => e = .returned (.bool (Cl.alone c)) ∧ w' = w := by
  go_enter Try.func56, Try.ntmps56
  go_wp2
  all_goals
    go_ret
    exact ⟨ret_bool (by simp_all [Cl.alone]), rfl⟩
theorem isHead_any (c : Int) (w : World) : Calls Try.prog 57 #[.int .i64 c] w fun e w' => e = .returned (.bool (Cl.hd c)) ∧ w' = w := by
  go_enter Try.func57, Try.ntmps57
  go_wp2
  all_goals
    go_ret
    exact ⟨ret_bool (by simp_all [Cl.hd]), rfl⟩
theorem isMark_any (c : Int) (w : World) : Calls Try.prog 58 #[.int .i64 c] w fun e w' => e = .returned (.bool (c == 4 || c == 5)) ∧ w' = w := by
  go_enter Try.func58, Try.ntmps58
  go_wp2
  all_goals
    go_ret
    exact ⟨ret_bool (by simp_all), rfl⟩
end Go.Proofs.Ytahjjpleceppaaa
