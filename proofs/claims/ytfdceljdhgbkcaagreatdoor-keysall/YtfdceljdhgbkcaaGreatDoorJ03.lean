import Derived.Test.YtfdceljdhgbkcaaGreatDoorJ02
/- What the pending keys have told: the methods of reading. -/
namespace Go.Proofs.YtfdceljdhgbkcaaGreatDoor
open Go.RowKit
structure Rdg where
  k : Int
  r : Int
  c : Int
  n : Int
  o : Int
/-- A parser's block: three tries, whether the keys came in a selection, the pending keys, what they have told. -/
def PB (w : World) (b : Nat) (m0 s0 m1 s1 m2 s2 sl pv : Value) (t : Rdg) : Prop := w.heap[b]? = some (.cells #[m0, s0, m1, s1, m2, s2, sl, pv, .int .i64 t.k, .int .i64 t.r, .int .i64 t.c, .int .i64 t.n, .int .i64 t.o] 52 (0, 0))
structure Rdg.Ok (t : Rdg) : Prop where
  k0 : 0 ≤ t.k
  k1 : t.k ≤ 4611686018427387904
  c0 : 0 ≤ t.c
  c1 : t.c ≤ 9999
  n0 : 0 ≤ t.n
  n1 : t.n ≤ 9999
def gow (t : Rdg) (x : Int) : Bool := decide (49 ≤ x) && decide (x ≤ 57) || (x == 48 && decide (t.n > 0))
def addD (t : Rdg) (x : Int) : Rdg := { t with n := min (t.n * 10 + x - 48) 9999, k := t.k + 1 }
def endN (t : Rdg) : Rdg := { t with c := if t.n > 0 then min (max t.c 1 * t.n) 9999 else t.c, n := 0 }
def addR (t : Rdg) (x : Int) : Rdg := { endN t with r := x, k := t.k + 2 }
def addO (t : Rdg) (v n : Int) : Rdg := { endN t with o := v, k := t.k + n }
theorem Rdg.Ok.endN {t : Rdg} (h : t.Ok) : (endN t).Ok := by
  obtain ⟨k0, k1, c0, c1, n0, n1⟩ := h
  refine ⟨k0, k1, ?_, ?_, by show (0 : Int) ≤ 0; omega, by show (0 : Int) ≤ 9999; omega⟩
  · show 0 ≤ (if t.n > 0 then min (max t.c 1 * t.n) 9999 else t.c)
    split
    · have : 0 ≤ max t.c 1 * t.n := Int.mul_nonneg (by omega) (by omega)
      omega
    · exact c0
  · show (if t.n > 0 then min (max t.c 1 * t.n) 9999 else t.c) ≤ 9999
    split
    · omega
    · exact c1
section
variable {w : World} {b : Nat} {m0 s0 m1 s1 m2 s2 sl pv : Value} {t : Rdg}
theorem PB.lt (h : PB w b m0 s0 m1 s1 m2 s2 sl pv t) : b < w.heap.size := (Array.getElem?_eq_some_iff.1 h).1
theorem PB.ext {w' : World} (h : PB w b m0 s0 m1 s1 m2 s2 sl pv t) (hb : Below w.heap.size w w') : PB w' b m0 s0 m1 s1 m2 s2 sl pv t := (hb.block _ h.lt).trans h
theorem PB.drew (h : PB w b m0 s0 m1 s1 m2 s2 sl pv t) : PB w.drew b m0 s0 m1 s1 m2 s2 sl pv t := h
theorem PB.setK (h : PB w b m0 s0 m1 s1 m2 s2 sl pv t) (x : Int) : PB (w.setCell ⟨b, 8, none⟩ (.int .i64 x)) b m0 s0 m1 s1 m2 s2 sl pv { t with k := x } ∧ Kps (fun k => k = b) w (w.setCell ⟨b, 8, none⟩ (.int .i64 x)) := by
  obtain ⟨h1, g1⟩ := set1 h 8 (.int .i64 x)
  exact ⟨h1, Kps.grown g1 (fun k e _ => by cases e; rfl)⟩
theorem PB.setR (h : PB w b m0 s0 m1 s1 m2 s2 sl pv t) (x : Int) : PB (w.setCell ⟨b, 9, none⟩ (.int .i64 x)) b m0 s0 m1 s1 m2 s2 sl pv { t with r := x } ∧ Kps (fun k => k = b) w (w.setCell ⟨b, 9, none⟩ (.int .i64 x)) := by
  obtain ⟨h1, g1⟩ := set1 h 9 (.int .i64 x)
  exact ⟨h1, Kps.grown g1 (fun k e _ => by cases e; rfl)⟩
theorem PB.setC (h : PB w b m0 s0 m1 s1 m2 s2 sl pv t) (x : Int) : PB (w.setCell ⟨b, 10, none⟩ (.int .i64 x)) b m0 s0 m1 s1 m2 s2 sl pv { t with c := x } ∧ Kps (fun k => k = b) w (w.setCell ⟨b, 10, none⟩ (.int .i64 x)) := by
  obtain ⟨h1, g1⟩ := set1 h 10 (.int .i64 x)
  exact ⟨h1, Kps.grown g1 (fun k e _ => by cases e; rfl)⟩
theorem PB.setN (h : PB w b m0 s0 m1 s1 m2 s2 sl pv t) (x : Int) : PB (w.setCell ⟨b, 11, none⟩ (.int .i64 x)) b m0 s0 m1 s1 m2 s2 sl pv { t with n := x } ∧ Kps (fun k => k = b) w (w.setCell ⟨b, 11, none⟩ (.int .i64 x)) := by
  obtain ⟨h1, g1⟩ := set1 h 11 (.int .i64 x)
  exact ⟨h1, Kps.grown g1 (fun k e _ => by cases e; rfl)⟩
theorem PB.setO (h : PB w b m0 s0 m1 s1 m2 s2 sl pv t) (x : Int) : PB (w.setCell ⟨b, 12, none⟩ (.int .i64 x)) b m0 s0 m1 s1 m2 s2 sl pv { t with o := x } ∧ Kps (fun k => k = b) w (w.setCell ⟨b, 12, none⟩ (.int .i64 x)) := by
  obtain ⟨h1, g1⟩ := set1 h 12 (.int .i64 x)
  exact ⟨h1, Kps.grown g1 (fun k e _ => by cases e; rfl)⟩
end
set_option maxRecDepth 100000 in
theorem gow_any {w : World} {b : Nat} {m0 s0 m1 s1 m2 s2 sl pv : Value} {t : Rdg} (h : PB w b m0 s0 m1 s1 m2 s2 sl pv t) (ht : t.Ok) (x : Int) :
    Calls Tryz.prog 38 #[.pointer (some ⟨b, 8, none⟩), .int .i64 x] w fun e w' => e = .returned (.bool (gow t x)) ∧ w = w' := by
  obtain ⟨_, z0, z1, z2, z3, z4, z5, z6, z7, c8, c9, c10, c11, c12, cf⟩ := cells13 h
  have hn := ht.n0
  generalize hR : gow t x = R
  have HR := hidIt hR
  clear hR ht h z0 z1 z2 z3 z4 z5 z6 z7
  by_cases h1 : 49 ≤ x
  · by_cases h2 : x ≤ 57
    · go_enter Tryz.func38, Tryz.ntmps38
      go_wp2
      go_ret
      exact ⟨ret_bool (by rw [← HR.out]; simp [gow, h1, h2]), rfl⟩
    · have h3 : (x == 48) = false := by simpa using (show ¬ x = 48 by omega)
      go_enter Tryz.func38, Tryz.ntmps38
      go_wp2
      go_ret
      exact ⟨ret_bool (by rw [← HR.out]; simp [gow, h2]; omega), rfl⟩
  · by_cases h3 : x = 48
    · have h3b : (x == 48) = true := by simpa using h3
      have HX := hidIt h3
      clear h3
      by_cases h4 : t.n > 0
      · go_enter Tryz.func38, Tryz.ntmps38
        go_wp2
        go_ret
        exact ⟨ret_bool (by rw [← HR.out]; simp [gow, HX.out]; omega), rfl⟩
      · go_enter Tryz.func38, Tryz.ntmps38
        go_wp2
        go_ret
        exact ⟨ret_bool (by rw [← HR.out]; simp [gow, HX.out]; omega), rfl⟩
    · have h3b : (x == 48) = false := by simpa using h3
      go_enter Tryz.func38, Tryz.ntmps38
      go_wp2
      go_ret
      exact ⟨ret_bool (by rw [← HR.out]; simp [gow, h3]; omega), rfl⟩
set_option maxRecDepth 100000 in
theorem addD_any {w : World} {b : Nat} {m0 s0 m1 s1 m2 s2 sl pv : Value} {t : Rdg} (h : PB w b m0 s0 m1 s1 m2 s2 sl pv t) (ht : t.Ok) (x : Int) (hx0 : 48 ≤ x) (hx1 : x ≤ 57) :
    Calls Tryz.prog 39 #[.pointer (some ⟨b, 8, none⟩), .int .i64 x] w fun e w' => e = .returned (.tuple #[]) ∧ PB w' b m0 s0 m1 s1 m2 s2 sl pv (addD t x) ∧ Kps (fun k => k = b) w w' := by
  obtain ⟨_, z0, z1, z2, z3, z4, z5, z6, z7, c8, c9, c10, c11, c12, cf⟩ := cells13 h
  obtain ⟨k0, k1, c0, c1, n0, n1⟩ := ht
  obtain ⟨y, hy⟩ : ∃ y, min (t.n * 10 + x - 48) 9999 = y := ⟨_, rfl⟩
  obtain ⟨p1, q1⟩ := PB.setN h y
  obtain ⟨p2, q2⟩ := PB.setK p1 (t.k + 1)
  have HP := hidIt p2
  have HQ := hidIt (Kps.trans q1 q2 (fun _ _ e => e))
  obtain ⟨w1, hw1⟩ : ∃ w1, w1 = w.setCell ⟨b, 11, none⟩ (.int .i64 y) := ⟨_, rfl⟩
  obtain ⟨_, _, _, _, _, _, _, _, _, d8, _, _, _, _, df⟩ := cells13 p1
  have HW1 := hidIt hw1
  rw [← hw1] at d8 df HP HQ
  have HY := hidIt hy
  have hyw : wrap64 (wrap64 (wrap64 (t.n * 10) + x) - 48) = t.n * 10 + x - 48 := by unfold wrap64; omega
  clear h p1 q1 p2 q2 hw1
  go_enter Tryz.func39, Tryz.ntmps39
  go_upto_region 1 with fail
  rw [← HW1.out]
  clear HW1 c8 c9 c10 c11 c12 cf
  go_wp2
  refine bodyPost_end (results_none rfl _ _ _) rfl ⟨rfl, ?_, HQ.out⟩
  have e : addD t x = { t with n := y, k := t.k + 1 } := by unfold addD; rw [HY.out]
  rw [e]
  exact HP.out
set_option maxRecDepth 100000 in
theorem endN_any {w : World} {b : Nat} {m0 s0 m1 s1 m2 s2 sl pv : Value} {t : Rdg} (h : PB w b m0 s0 m1 s1 m2 s2 sl pv t) (ht : t.Ok) :
    Calls Tryz.prog 59 #[.pointer (some ⟨b, 8, none⟩)] w fun e w' => e = .returned (.tuple #[]) ∧ PB w' b m0 s0 m1 s1 m2 s2 sl pv (endN t) ∧ Kps (fun k => k = b) w w' := by
  obtain ⟨_, z0, z1, z2, z3, z4, z5, z6, z7, c8, c9, c10, c11, c12, cf⟩ := cells13 h
  obtain ⟨k0, k1, c0, c1, n0, n1⟩ := ht
  by_cases hn : t.n > 0
  · obtain ⟨z, hz⟩ : ∃ z, max t.c 1 * t.n = z := ⟨_, rfl⟩
    have hz0 : 0 ≤ z := by rw [← hz]; exact Int.mul_nonneg (by omega) (by omega)
    have hz1 : z ≤ 99980001 := by
      rw [← hz]
      have h1 : max t.c 1 ≤ 9999 := by omega
      have h2 : max t.c 1 * t.n ≤ 9999 * 9999 := Int.mul_le_mul h1 n1 n0 (by omega)
      omega
    obtain ⟨y, hy⟩ : ∃ y, min z 9999 = y := ⟨_, rfl⟩
    obtain ⟨p1, q1⟩ := PB.setC h y
    obtain ⟨p2, q2⟩ := PB.setN p1 0
    have HP := hidIt p2
    have HQ := hidIt (Kps.trans q1 q2 (fun _ _ e => e))
    obtain ⟨_, _, _, _, _, _, _, _, _, d8, d9, d10, d11, d12, df⟩ := cells13 p1
    obtain ⟨w1, hw1⟩ : ∃ w1, w1 = w.setCell ⟨b, 10, none⟩ (.int .i64 y) := ⟨_, rfl⟩
    have HW1 := hidIt hw1
    rw [← hw1] at d8 d9 d10 d11 d12 df HP HQ
    have HE : Hid (endN t = { t with c := y, n := 0 }) := by unfold Hid endN; rw [if_pos hn, hz, hy]
    obtain ⟨mx, hmx⟩ : ∃ mx, max t.c 1 = mx := ⟨_, rfl⟩
    have hz' : mx * t.n = z := by rw [← hmx]; exact hz
    clear h p1 q1 p2 q2 hw1 hz
    go_enter Tryz.func59, Tryz.ntmps59
    go_upto_region 1 with fail
    go_region
    go_upto_region 2 with fail
    rw [← HW1.out]
    clear HW1 c8 c9 c10 c11 c12 cf
    go_wp2
    refine bodyPost_end (results_none rfl _ _ _) rfl ⟨rfl, ?_, ⟨HQ.out.os, HQ.out.tape, HQ.out.output, HQ.out.size, HQ.out.same⟩⟩
    rw [HE.out]
    exact HP.out
  · obtain ⟨p1, q1⟩ := PB.setN h 0
    have HP := hidIt p1
    have HQ := hidIt q1
    have HE : Hid (endN t = { t with n := 0 }) := by unfold Hid endN; rw [if_neg hn]
    clear h p1 q1
    go_enter Tryz.func59, Tryz.ntmps59
    go_wp2
    refine bodyPost_end (results_none rfl _ _ _) rfl ⟨rfl, ?_, HQ.out⟩
    rw [HE.out]
    exact HP.out
set_option maxRecDepth 100000 in
theorem addR_any {w : World} {b : Nat} {m0 s0 m1 s1 m2 s2 sl pv : Value} {t : Rdg} (h : PB w b m0 s0 m1 s1 m2 s2 sl pv t) (ht : t.Ok) (x : Int) :
    Calls Tryz.prog 40 #[.pointer (some ⟨b, 8, none⟩), .int .i64 x] w fun e w' => e = .returned (.tuple #[]) ∧ PB w' b m0 s0 m1 s1 m2 s2 sl pv (addR t x) ∧ Kps (fun k => k = b) w w' := by
  have HE := hidIt (endN_any h ht)
  have hk0 := ht.k0
  have hk1 := ht.k1
  have hke : (endN t).k = t.k := rfl
  have HF : Hid (∀ w1, PB w1 b m0 s0 m1 s1 m2 s2 sl pv (endN t) → PB ((w1.setCell ⟨b, 9, none⟩ (.int .i64 x)).setCell ⟨b, 8, none⟩ (.int .i64 (t.k + 2))) b m0 s0 m1 s1 m2 s2 sl pv (addR t x) ∧ Kps (fun k => k = b) w1 ((w1.setCell ⟨b, 9, none⟩ (.int .i64 x)).setCell ⟨b, 8, none⟩ (.int .i64 (t.k + 2))) ∧ PB (w1.setCell ⟨b, 9, none⟩ (.int .i64 x)) b m0 s0 m1 s1 m2 s2 sl pv { endN t with r := x }) := fun w1 hp => by
    obtain ⟨p1, q1⟩ := PB.setR hp x
    obtain ⟨p2, q2⟩ := PB.setK p1 (t.k + 2)
    exact ⟨p2, Kps.trans q1 q2 (fun _ _ e => e), p1⟩
  clear h ht
  go_enter Tryz.func40, Tryz.ntmps40
  go_upto_region 1 with (go_at_call 59; refine HE.out.mono ?_; rintro e y1 ⟨rfl, hp1, hq1⟩; (try dsimp only); have HP1 := hidIt hp1; have HQ1 := hidIt hq1; clear hp1 hq1)
  obtain ⟨f1, f2, f3⟩ := HF.out y1 HP1.out
  have H1 := hidIt f1
  have H2 := hidIt f2
  obtain ⟨_, _, _, _, _, _, _, _, _, c8, c9, c10, c11, c12, cf⟩ := cells13 HP1.out
  obtain ⟨_, _, _, _, _, _, _, _, _, d8, _, _, _, _, df⟩ := cells13 f3
  rw [show ({ endN t with r := x } : Rdg).k = t.k from rfl] at d8
  rw [hke] at c8
  obtain ⟨y2, hy2⟩ : ∃ y2, y2 = y1.setCell ⟨b, 9, none⟩ (.int .i64 x) := ⟨_, rfl⟩
  have HY2 := hidIt hy2
  rw [← hy2] at d8 df H1 H2
  clear f1 f2 f3 hy2 hke
  go_upto_region 2 with fail
  rw [← HY2.out]
  clear HY2 c8 c9 c10 c11 c12 cf
  go_wp2
  exact bodyPost_end (results_none rfl _ _ _) rfl ⟨rfl, H1.out, Kps.trans HQ1.out H2.out (fun _ _ e => e)⟩
set_option maxRecDepth 100000 in
theorem addO_any {w : World} {b : Nat} {m0 s0 m1 s1 m2 s2 sl pv : Value} {t : Rdg} (h : PB w b m0 s0 m1 s1 m2 s2 sl pv t) (ht : t.Ok) (v n : Int) (hn0 : 0 ≤ n) (hn1 : n ≤ 1152921504606846976) :
    Calls Tryz.prog 43 #[.pointer (some ⟨b, 8, none⟩), .int .i64 v, .int .i64 n] w fun e w' => e = .returned (.tuple #[]) ∧ PB w' b m0 s0 m1 s1 m2 s2 sl pv (addO t v n) ∧ Kps (fun k => k = b) w w' := by
  have HE := hidIt (endN_any h ht)
  have hk0 := ht.k0
  have hk1 := ht.k1
  have hke : (endN t).k = t.k := rfl
  have HF : Hid (∀ w1, PB w1 b m0 s0 m1 s1 m2 s2 sl pv (endN t) → PB ((w1.setCell ⟨b, 12, none⟩ (.int .i64 v)).setCell ⟨b, 8, none⟩ (.int .i64 (t.k + n))) b m0 s0 m1 s1 m2 s2 sl pv (addO t v n) ∧ Kps (fun k => k = b) w1 ((w1.setCell ⟨b, 12, none⟩ (.int .i64 v)).setCell ⟨b, 8, none⟩ (.int .i64 (t.k + n))) ∧ PB (w1.setCell ⟨b, 12, none⟩ (.int .i64 v)) b m0 s0 m1 s1 m2 s2 sl pv { endN t with o := v }) := fun w1 hp => by
    obtain ⟨p1, q1⟩ := PB.setO hp v
    obtain ⟨p2, q2⟩ := PB.setK p1 (t.k + n)
    exact ⟨p2, Kps.trans q1 q2 (fun _ _ e => e), p1⟩
  clear h ht
  go_enter Tryz.func43, Tryz.ntmps43
  go_upto_region 1 with (go_at_call 59; refine HE.out.mono ?_; rintro e y1 ⟨rfl, hp1, hq1⟩; (try dsimp only); have HP1 := hidIt hp1; have HQ1 := hidIt hq1; clear hp1 hq1)
  obtain ⟨f1, f2, f3⟩ := HF.out y1 HP1.out
  have H1 := hidIt f1
  have H2 := hidIt f2
  obtain ⟨_, _, _, _, _, _, _, _, _, c8, c9, c10, c11, c12, cf⟩ := cells13 HP1.out
  obtain ⟨_, _, _, _, _, _, _, _, _, d8, _, _, _, _, df⟩ := cells13 f3
  rw [show ({ endN t with o := v } : Rdg).k = t.k from rfl] at d8
  rw [hke] at c8
  obtain ⟨y2, hy2⟩ : ∃ y2, y2 = y1.setCell ⟨b, 12, none⟩ (.int .i64 v) := ⟨_, rfl⟩
  have HY2 := hidIt hy2
  rw [← hy2] at d8 df H1 H2
  clear f1 f2 f3 hy2 hke
  go_upto_region 2 with fail
  rw [← HY2.out]
  clear HY2 c8 c9 c10 c11 c12 cf
  go_wp2
  exact bodyPost_end (results_none rfl _ _ _) rfl ⟨rfl, H1.out, Kps.trans HQ1.out H2.out (fun _ _ e => e)⟩
end Go.Proofs.YtfdceljdhgbkcaaGreatDoor
