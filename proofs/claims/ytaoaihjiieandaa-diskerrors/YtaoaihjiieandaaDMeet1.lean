/- A step meets its fault (make, app). -/
import Derived.Test.YtaoaihjiieandaaDMeet
namespace Go.Proofs.Ytaoaihjiieandaa
open Go.RowKit

set_option maxRecDepth 100000 in
set_option maxHeartbeats 4000000 in
theorem meet_make {U : Prop} {F : Nat → Prop} {ob : Option Nat} {w0 : World} {d : Nat} {bd bn : Nat} {op : Dk → Rs} {Ax : Rs → World → Prop} (CR : CrashOk) (DO : DoOk U F ob w0 d 76 #[pp bd, pp bn] op Ax) (AX : AxOk F ob w0 Ax) (M : Nat) (w : World) (D : Dk) (h : Dsk F M w d D) (hM : M + 2 ≤ 1099511627776) (hk : Kd F w0 w) (on sn : ByteArray) (o : Option Ft) (fv : Value) (hf : FtV F w o fv) :
    Calls Try.prog 82 #[pp d, .agg #[.string on, .string sn, .func (.func 76) #[] #[pp bd, pp bn], .nilFunc], fv] w fun e w' => e = .returned (.int .i64 (meet op none D o).e) ∧ Dsk F (M + 2) w' d (meet op none D o).d ∧ Kn U F ob w w' ∧ Ax (meet op none D o) w' := by
  cases o with
  | none =>
    cases hf
    obtain ⟨w1, hw1, k1, k2, hb1⟩ : ∃ w1, w1 = (w.alloc (.cells #[.string on, .string sn, .func (.func 76) #[] #[pp bd, pp bn], .nilFunc] 110)).alloc (.cells #[.int .i64 0, .int .i64 0, .int .i64 0, .int .i64 0, .slice none 0 0] 62) ∧ w1.heap[w.heap.size]? = some (.cells #[.string on, .string sn, .func (.func 76) #[] #[pp bd, pp bn], .nilFunc] 110 (0, 0)) ∧ w1.heap[w.heap.size + 1]? = some (.cells #[.int .i64 0, .int .i64 0, .int .i64 0, .int .i64 0, .slice none 0 0] 62 (0, 0)) ∧ Below w.heap.size w w1 :=
      ⟨_, rfl, (heap_alloc_old _ _ (by simp)).trans (heap_alloc_new _ _), by have := heap_alloc_new (w.alloc (.cells #[.string on, .string sn, .func (.func 76) #[] #[pp bd, pp bn], .nilFunc] 110)) (.cells #[.int .i64 0, .int .i64 0, .int .i64 0, .int .i64 0, .slice none 0 0] 62); simpa using this, ext_alloc (ext_alloc (Below.refl _ _) _) _⟩
    have x1 := h.ext hb1
    have kd1 : Kd F w0 w1 := hk.trans (Kd.of hb1)
    obtain ⟨s0, s1, s2, s3⟩ := cells4 k1
    obtain ⟨f0, f1, f2, f3, f4⟩ := cells5 k2
    have DX := hidIt (DO M w1 D x1 hM kd1)
    have HB := hidIt hb1
    show Calls _ _ _ _ fun e w' => e = .returned (.int .i64 (op D).e) ∧ Dsk F (M + 2) w' d (op D).d ∧ Kn U F ob w w' ∧ Ax (op D) w'
    generalize op D = RS at *
    clear h x1 kd1 k1 k2 hb1 hk
    go_enter Try.func82, Try.ntmps82
    go_upto_region 1 with fail
    rw [← hw1]
    clear hw1
    go_wp2_with (go_at_call 76; refine DX.out.mono ?_; rintro e w2 ⟨rfl, hd, hk2, ha⟩; have HD := hidIt hd; have HK := hidIt hk2; have HA := hidIt ha; clear hd hk2 ha)
    go_ret
    exact ⟨rfl, HD.out, Kn.below_trans HB.out HK.out, HA.out⟩
  | some f =>
    obtain ⟨st, u, rfl, ⟨hk1, hk5, hpt, hnm⟩, hbs, hu, huF⟩ := hf
    obtain ⟨ua, un, uc, rfl⟩ := form_own hu
    obtain ⟨w1, hw1, k1, k2, hb1⟩ : ∃ w1, w1 = (w.alloc (.cells #[.string on, .string sn, .func (.func 76) #[] #[pp bd, pp bn], .nilFunc] 110)).alloc (.cells #[.int .i64 st, .int .i64 f.kd, .int .i64 f.pt, .int .i64 f.cut.nm, .slice ua un uc] 62) ∧ w1.heap[w.heap.size]? = some (.cells #[.string on, .string sn, .func (.func 76) #[] #[pp bd, pp bn], .nilFunc] 110 (0, 0)) ∧ w1.heap[w.heap.size + 1]? = some (.cells #[.int .i64 st, .int .i64 f.kd, .int .i64 f.pt, .int .i64 f.cut.nm, .slice ua un uc] 62 (0, 0)) ∧ Below w.heap.size w w1 :=
      ⟨_, rfl, (heap_alloc_old _ _ (by simp)).trans (heap_alloc_new _ _), by have := heap_alloc_new (w.alloc (.cells #[.string on, .string sn, .func (.func 76) #[] #[pp bd, pp bn], .nilFunc] 110)) (.cells #[.int .i64 st, .int .i64 f.kd, .int .i64 f.pt, .int .i64 f.cut.nm, .slice ua un uc] 62); simpa using this, ext_alloc (ext_alloc (Below.refl _ _) _) _⟩
    have x1 := h.ext hb1
    have kd1 : Kd F w0 w1 := hk.trans (Kd.of hb1)
    obtain ⟨s0, s1, s2, s3⟩ := cells4 k1
    obtain ⟨f0, f1, f2, f3, f4⟩ := cells5 k2
    have HB := hidIt hb1
    have DX := hidIt (DO M w1 D x1 hM kd1)
    have u1 := hu.ext0 hb1
    by_cases e1 : f.kd = 1
    · have E : Hid (meet op none D (some f) = .err D 160) := by unfold Hid meet; dsimp only; rw [if_pos e1]
      have FIN := hidIt (x1.monoN (Nat.le_add_right M 2) hM)
      have AF := hidIt (AX.zero D 160 w1 kd1)
      rw [e1] at f1 hw1 k2
      clear h kd1 k1 k2 hb1 hk hk1 hk5
      rw [E.out, e1]
      clear E e1
      go_enter Try.func82, Try.ntmps82
      go_upto_region 1 with fail
      rw [← hw1]
      clear hw1
      go_wp2_with (fail)
      go_ret
      exact ⟨rfl, FIN.out, Kn.of HB.out, AF.out⟩
    by_cases e2 : f.kd = 2
    · have E : Hid (meet op none D (some f) = .err D 160) := by unfold Hid meet; dsimp only; rw [if_neg e1, if_pos e2]
      have nf : (binOp .eql 108 .nilFunc .nilFunc).run Try.prog w1 = .ok (.bool true) w1 := by kernel_rfl
      have FIN := hidIt (x1.monoN (Nat.le_add_right M 2) hM)
      have AF := hidIt (AX.zero D 160 w1 kd1)
      rw [e2] at f1 hw1 k2
      clear h kd1 k1 k2 hb1 hk hk1 hk5
      rw [E.out, e2]
      clear E e2
      go_enter Try.func82, Try.ntmps82
      go_upto_region 1 with fail
      rw [← hw1]
      clear hw1
      go_wp2_with (fail)
      go_ret
      exact ⟨rfl, FIN.out, Kn.of HB.out, AF.out⟩
    by_cases e3 : f.kd = 3
    · have E : Hid (meet op none D (some f) = bel (op D)) := by unfold Hid meet; dsimp only; rw [if_neg e1, if_neg e2, if_pos e3]
      have AB := hidIt AX.bel
      generalize op D = RS at *
      rw [e3] at f1 hw1 k2
      clear h kd1 k1 k2 hb1 hk hk1 hk5
      rw [E.out, e3]
      clear E e3
      go_enter Try.func82, Try.ntmps82
      go_upto_region 1 with fail
      rw [← hw1]
      clear hw1
      go_wp2_with (first
        | (go_at_call 76; refine DX.out.mono ?_; rintro e w2 ⟨rfl, hd, hk2, ha⟩; have HD := hidIt hd; have HK := hidIt hk2; have HA := hidIt ha; clear hd hk2 ha)
        | (go_at_call 97; refine (belied_bl _ _).mono ?_; rintro e w3 ⟨rfl, rfl⟩))
      go_ret
      exact ⟨ret_int (bel_e _), by rw [bel_d]; exact HD.out, Kn.below_trans HB.out HK.out, AB.out _ _ HA.out⟩
    by_cases e4 : f.kd = 4
    · have E : Hid (meet op none D (some f) = .err (D.crash f.cut) 165) := by unfold Hid meet; dsimp only; rw [if_neg e1, if_neg e2, if_neg e3, if_pos e4]
      have CX := hidIt (CR F M w1 d D f.cut _ x1 (OwnI.rds u1) (OwnI.uok u1) hbs hnm)
      have AF := hidIt (fun w2 (k : Kd F w1 w2) => AX.down _ (D.crash f.cut) w1 w2 (AX.zero D 160 w1 kd1) k)
      rw [e4] at f1 hw1 k2
      clear h kd1 k1 k2 hb1 hk hk1 hk5
      rw [E.out, e4]
      clear E e4
      go_enter Try.func82, Try.ntmps82
      go_upto_region 1 with fail
      rw [← hw1]
      clear hw1
      go_wp2_with (go_at_call 14; refine CX.out.mono ?_; rintro e w2 ⟨rfl, hd, hk2⟩; have HD := hidIt hd; have HK := hidIt hk2; clear hd hk2)
      go_ret
      exact ⟨rfl, HD.out.monoN (Nat.le_add_right M 2) hM, Kn.below_trans HB.out (HK.out.kn _), AF.out _ HK.out⟩
    by_cases e5 : f.kd = 5
    · have E : Hid (meet op none D (some f) = .err ((op D).d.crash f.cut) 165) := by unfold Hid meet; dsimp only; rw [if_neg e1, if_neg e2, if_neg e3, if_neg e4]
      have CX : Hid (∀ w2, Dsk F (M + 2) w2 d (op D).d → Kn U F ob w1 w2 → Calls Try.prog 14 #[pp d, .agg #[.int .i64 f.cut.nm, .slice ua un uc]] w2 fun e w' => e = .returned (.tuple #[]) ∧ Dsk F (M + 2) w' d ((op D).d.crash f.cut) ∧ Kd F w2 w') := fun w2 h2 k2 => by
        have u2 := u1.kn k2 huF AX.ob
        exact CR F (M + 2) w2 d _ f.cut _ h2 (OwnI.rds u2) (OwnI.uok u2) hbs hnm
      have KX : Hid (∀ w2, Kn U F ob w1 w2 → w2.heap[w.heap.size + 1]? = w1.heap[w.heap.size + 1]?) := fun w2 k9 => k9.keep k2 (by decide) (fun e => by have := x1.fw _ (AX.ob _ e); have := h.fw _ (AX.ob _ e); omega)
      have AF := hidIt AX.down
      generalize op D = RS at *
      have K2 := hidIt k2
      rw [e5] at f1 hw1 k2
      clear h kd1 k1 k2 hb1 hk hk1 hk5
      rw [E.out, e5]
      clear E e5
      go_enter Try.func82, Try.ntmps82
      go_upto_region 1 with fail
      rw [← hw1]
      clear hw1
      go_wp2_with (first
        | (go_at_call 76; refine DX.out.mono ?_; rintro e w2 ⟨rfl, hd, hk2, ha⟩; obtain ⟨_, _, _, g3, g4⟩ := cells5 ((KX.out _ hk2).trans K2.out); have HD := hidIt hd; have HK := hidIt hk2; have HA := hidIt ha; clear hd hk2 ha)
        | (go_at_call 14; refine (CX.out _ HD.out HK.out).mono ?_; rintro e w3 ⟨rfl, hd3, hk3⟩; have HD3 := hidIt hd3; have HK3 := hidIt hk3; clear hd3 hk3))
      go_ret
      exact ⟨rfl, HD3.out, Kn.below_trans HB.out (HK.out.trans (HK3.out.kn _)), AF.out _ _ _ _ HA.out HK3.out⟩
    omega

set_option maxRecDepth 100000 in
set_option maxHeartbeats 4000000 in
theorem meet_app {U : Prop} {F : Nat → Prop} {ob : Option Nat} {w0 : World} {d : Nat} {bb bc bd bn bp : Nat} {op : Dk → Rs} {Ax : Rs → World → Prop} (CR : CrashOk) (DO : DoOk U F ob w0 d 57 #[pp bp, pp bb, pp bc] op Ax) (AX : AxOk F ob w0 Ax) (part : Int → Dk → Rs) (PA : ∀ M w1 D1 most, Dsk F M w1 d D1 → M + 2 ≤ 1099511627776 → Kd F w0 w1 → Calls Try.prog 53 #[.int .i64 most, pp bd, pp bn, pp bb, pp bc] w1 fun e w' => e = .returned (.int .i64 (part most D1).e) ∧ Dsk F (M + 2) w' d (part most D1).d ∧ Kn U F ob w1 w' ∧ Ax (part most D1) w') (M : Nat) (w : World) (D : Dk) (h : Dsk F M w d D) (hM : M + 2 ≤ 1099511627776) (hk : Kd F w0 w) (on sn : ByteArray) (o : Option Ft) (fv : Value) (hf : FtV F w o fv) :
    Calls Try.prog 82 #[pp d, .agg #[.string on, .string sn, .func (.func 57) #[] #[pp bp, pp bb, pp bc], .func (.func 53) #[] #[pp bd, pp bn, pp bb, pp bc]], fv] w fun e w' => e = .returned (.int .i64 (meet op (some part) D o).e) ∧ Dsk F (M + 2) w' d (meet op (some part) D o).d ∧ Kn U F ob w w' ∧ Ax (meet op (some part) D o) w' := by
  cases o with
  | none =>
    cases hf
    obtain ⟨w1, hw1, k1, k2, hb1⟩ : ∃ w1, w1 = (w.alloc (.cells #[.string on, .string sn, .func (.func 57) #[] #[pp bp, pp bb, pp bc], .func (.func 53) #[] #[pp bd, pp bn, pp bb, pp bc]] 110)).alloc (.cells #[.int .i64 0, .int .i64 0, .int .i64 0, .int .i64 0, .slice none 0 0] 62) ∧ w1.heap[w.heap.size]? = some (.cells #[.string on, .string sn, .func (.func 57) #[] #[pp bp, pp bb, pp bc], .func (.func 53) #[] #[pp bd, pp bn, pp bb, pp bc]] 110 (0, 0)) ∧ w1.heap[w.heap.size + 1]? = some (.cells #[.int .i64 0, .int .i64 0, .int .i64 0, .int .i64 0, .slice none 0 0] 62 (0, 0)) ∧ Below w.heap.size w w1 :=
      ⟨_, rfl, (heap_alloc_old _ _ (by simp)).trans (heap_alloc_new _ _), by have := heap_alloc_new (w.alloc (.cells #[.string on, .string sn, .func (.func 57) #[] #[pp bp, pp bb, pp bc], .func (.func 53) #[] #[pp bd, pp bn, pp bb, pp bc]] 110)) (.cells #[.int .i64 0, .int .i64 0, .int .i64 0, .int .i64 0, .slice none 0 0] 62); simpa using this, ext_alloc (ext_alloc (Below.refl _ _) _) _⟩
    have x1 := h.ext hb1
    have kd1 : Kd F w0 w1 := hk.trans (Kd.of hb1)
    obtain ⟨s0, s1, s2, s3⟩ := cells4 k1
    obtain ⟨f0, f1, f2, f3, f4⟩ := cells5 k2
    have DX := hidIt (DO M w1 D x1 hM kd1)
    have HB := hidIt hb1
    show Calls _ _ _ _ fun e w' => e = .returned (.int .i64 (op D).e) ∧ Dsk F (M + 2) w' d (op D).d ∧ Kn U F ob w w' ∧ Ax (op D) w'
    generalize op D = RS at *
    clear h x1 kd1 k1 k2 hb1 hk
    go_enter Try.func82, Try.ntmps82
    go_upto_region 1 with fail
    rw [← hw1]
    clear hw1
    go_wp2_with (go_at_call 57; refine DX.out.mono ?_; rintro e w2 ⟨rfl, hd, hk2, ha⟩; have HD := hidIt hd; have HK := hidIt hk2; have HA := hidIt ha; clear hd hk2 ha)
    go_ret
    exact ⟨rfl, HD.out, Kn.below_trans HB.out HK.out, HA.out⟩
  | some f =>
    obtain ⟨st, u, rfl, ⟨hk1, hk5, hpt, hnm⟩, hbs, hu, huF⟩ := hf
    obtain ⟨ua, un, uc, rfl⟩ := form_own hu
    obtain ⟨w1, hw1, k1, k2, hb1⟩ : ∃ w1, w1 = (w.alloc (.cells #[.string on, .string sn, .func (.func 57) #[] #[pp bp, pp bb, pp bc], .func (.func 53) #[] #[pp bd, pp bn, pp bb, pp bc]] 110)).alloc (.cells #[.int .i64 st, .int .i64 f.kd, .int .i64 f.pt, .int .i64 f.cut.nm, .slice ua un uc] 62) ∧ w1.heap[w.heap.size]? = some (.cells #[.string on, .string sn, .func (.func 57) #[] #[pp bp, pp bb, pp bc], .func (.func 53) #[] #[pp bd, pp bn, pp bb, pp bc]] 110 (0, 0)) ∧ w1.heap[w.heap.size + 1]? = some (.cells #[.int .i64 st, .int .i64 f.kd, .int .i64 f.pt, .int .i64 f.cut.nm, .slice ua un uc] 62 (0, 0)) ∧ Below w.heap.size w w1 :=
      ⟨_, rfl, (heap_alloc_old _ _ (by simp)).trans (heap_alloc_new _ _), by have := heap_alloc_new (w.alloc (.cells #[.string on, .string sn, .func (.func 57) #[] #[pp bp, pp bb, pp bc], .func (.func 53) #[] #[pp bd, pp bn, pp bb, pp bc]] 110)) (.cells #[.int .i64 st, .int .i64 f.kd, .int .i64 f.pt, .int .i64 f.cut.nm, .slice ua un uc] 62); simpa using this, ext_alloc (ext_alloc (Below.refl _ _) _) _⟩
    have x1 := h.ext hb1
    have kd1 : Kd F w0 w1 := hk.trans (Kd.of hb1)
    obtain ⟨s0, s1, s2, s3⟩ := cells4 k1
    obtain ⟨f0, f1, f2, f3, f4⟩ := cells5 k2
    have HB := hidIt hb1
    have DX := hidIt (DO M w1 D x1 hM kd1)
    have u1 := hu.ext0 hb1
    by_cases e1 : f.kd = 1
    · have E : Hid (meet op (some part) D (some f) = .err D 160) := by unfold Hid meet; dsimp only; rw [if_pos e1]
      have FIN := hidIt (x1.monoN (Nat.le_add_right M 2) hM)
      have AF := hidIt (AX.zero D 160 w1 kd1)
      rw [e1] at f1 hw1 k2
      clear h kd1 k1 k2 hb1 hk hk1 hk5
      rw [E.out, e1]
      clear E e1
      go_enter Try.func82, Try.ntmps82
      go_upto_region 1 with fail
      rw [← hw1]
      clear hw1
      go_wp2_with (fail)
      go_ret
      exact ⟨rfl, FIN.out, Kn.of HB.out, AF.out⟩
    by_cases e2 : f.kd = 2
    · have E : Hid (meet op (some part) D (some f) = bel (part f.pt D)) := by unfold Hid meet; dsimp only; rw [if_neg e1, if_pos e2]
      have PX := hidIt (PA M w1 D f.pt x1 hM kd1)
      have AB := hidIt AX.bel
      have nf : (binOp .eql 108 (.func (.func 53) #[] #[pp bd, pp bn, pp bb, pp bc]) .nilFunc).run Try.prog w1 = .ok (.bool false) w1 := by kernel_rfl
      generalize part f.pt D = RS at *
      rw [e2] at f1 hw1 k2
      clear h kd1 k1 k2 hb1 hk hk1 hk5
      rw [E.out, e2]
      clear E e2
      go_enter Try.func82, Try.ntmps82
      go_upto_region 1 with fail
      rw [← hw1]
      clear hw1
      go_wp2_with (first
        | (go_at_call 53; refine PX.out.mono ?_; rintro e w2 ⟨rfl, hd, hk2, ha⟩; have HD := hidIt hd; have HK := hidIt hk2; have HA := hidIt ha; clear hd hk2 ha)
        | (go_at_call 97; refine (belied_bl _ _).mono ?_; rintro e w3 ⟨rfl, rfl⟩))
      go_ret
      exact ⟨ret_int (bel_e _), by rw [bel_d]; exact HD.out, Kn.below_trans HB.out HK.out, AB.out _ _ HA.out⟩
    by_cases e3 : f.kd = 3
    · have E : Hid (meet op (some part) D (some f) = bel (op D)) := by unfold Hid meet; dsimp only; rw [if_neg e1, if_neg e2, if_pos e3]
      have AB := hidIt AX.bel
      generalize op D = RS at *
      rw [e3] at f1 hw1 k2
      clear h kd1 k1 k2 hb1 hk hk1 hk5
      rw [E.out, e3]
      clear E e3
      go_enter Try.func82, Try.ntmps82
      go_upto_region 1 with fail
      rw [← hw1]
      clear hw1
      go_wp2_with (first
        | (go_at_call 57; refine DX.out.mono ?_; rintro e w2 ⟨rfl, hd, hk2, ha⟩; have HD := hidIt hd; have HK := hidIt hk2; have HA := hidIt ha; clear hd hk2 ha)
        | (go_at_call 97; refine (belied_bl _ _).mono ?_; rintro e w3 ⟨rfl, rfl⟩))
      go_ret
      exact ⟨ret_int (bel_e _), by rw [bel_d]; exact HD.out, Kn.below_trans HB.out HK.out, AB.out _ _ HA.out⟩
    by_cases e4 : f.kd = 4
    · have E : Hid (meet op (some part) D (some f) = .err (D.crash f.cut) 165) := by unfold Hid meet; dsimp only; rw [if_neg e1, if_neg e2, if_neg e3, if_pos e4]
      have CX := hidIt (CR F M w1 d D f.cut _ x1 (OwnI.rds u1) (OwnI.uok u1) hbs hnm)
      have AF := hidIt (fun w2 (k : Kd F w1 w2) => AX.down _ (D.crash f.cut) w1 w2 (AX.zero D 160 w1 kd1) k)
      rw [e4] at f1 hw1 k2
      clear h kd1 k1 k2 hb1 hk hk1 hk5
      rw [E.out, e4]
      clear E e4
      go_enter Try.func82, Try.ntmps82
      go_upto_region 1 with fail
      rw [← hw1]
      clear hw1
      go_wp2_with (go_at_call 14; refine CX.out.mono ?_; rintro e w2 ⟨rfl, hd, hk2⟩; have HD := hidIt hd; have HK := hidIt hk2; clear hd hk2)
      go_ret
      exact ⟨rfl, HD.out.monoN (Nat.le_add_right M 2) hM, Kn.below_trans HB.out (HK.out.kn _), AF.out _ HK.out⟩
    by_cases e5 : f.kd = 5
    · have E : Hid (meet op (some part) D (some f) = .err ((op D).d.crash f.cut) 165) := by unfold Hid meet; dsimp only; rw [if_neg e1, if_neg e2, if_neg e3, if_neg e4]
      have CX : Hid (∀ w2, Dsk F (M + 2) w2 d (op D).d → Kn U F ob w1 w2 → Calls Try.prog 14 #[pp d, .agg #[.int .i64 f.cut.nm, .slice ua un uc]] w2 fun e w' => e = .returned (.tuple #[]) ∧ Dsk F (M + 2) w' d ((op D).d.crash f.cut) ∧ Kd F w2 w') := fun w2 h2 k2 => by
        have u2 := u1.kn k2 huF AX.ob
        exact CR F (M + 2) w2 d _ f.cut _ h2 (OwnI.rds u2) (OwnI.uok u2) hbs hnm
      have KX : Hid (∀ w2, Kn U F ob w1 w2 → w2.heap[w.heap.size + 1]? = w1.heap[w.heap.size + 1]?) := fun w2 k9 => k9.keep k2 (by decide) (fun e => by have := x1.fw _ (AX.ob _ e); have := h.fw _ (AX.ob _ e); omega)
      have AF := hidIt AX.down
      generalize op D = RS at *
      have K2 := hidIt k2
      rw [e5] at f1 hw1 k2
      clear h kd1 k1 k2 hb1 hk hk1 hk5
      rw [E.out, e5]
      clear E e5
      go_enter Try.func82, Try.ntmps82
      go_upto_region 1 with fail
      rw [← hw1]
      clear hw1
      go_wp2_with (first
        | (go_at_call 57; refine DX.out.mono ?_; rintro e w2 ⟨rfl, hd, hk2, ha⟩; obtain ⟨_, _, _, g3, g4⟩ := cells5 ((KX.out _ hk2).trans K2.out); have HD := hidIt hd; have HK := hidIt hk2; have HA := hidIt ha; clear hd hk2 ha)
        | (go_at_call 14; refine (CX.out _ HD.out HK.out).mono ?_; rintro e w3 ⟨rfl, hd3, hk3⟩; have HD3 := hidIt hd3; have HK3 := hidIt hk3; clear hd3 hk3))
      go_ret
      exact ⟨rfl, HD3.out, Kn.below_trans HB.out (HK.out.trans (HK3.out.kn _)), AF.out _ _ _ _ HA.out HK3.out⟩
    omega
end Go.Proofs.Ytaoaihjiieandaa
