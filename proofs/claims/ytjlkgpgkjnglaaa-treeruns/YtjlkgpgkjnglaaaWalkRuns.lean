/- TreeRuns. -/
import Derived.Test.YtjlkgpgkjnglaaaRef3
import Derived.Deep.CutRange
namespace Go.Proofs.Ytjlkgpgkjnglaaa
open Go.RowKit

theorem OwnR.grow {w wr w' : World} {e : TypeId} {v : Value} {xs : List It} (hb : Below w.heap.size w wr) (hown : OwnR wr w.heap.size e v xs) (hg : wr.grownBy w' v.ownBlock) : Below w.heap.size w w' := OwnR.below hb hown hg
theorem grown_none {w w' : World} (hg : w.grownBy w' (Value.slice none 0 0).ownBlock) : Below w.heap.size w w' := ⟨hg.os, hg.tape, hg.output, hg.size, fun j hj => hg.block j hj (by simp [Value.ownBlock])⟩
theorem OwnR.form {w : World} {base : Nat} {e : TypeId} {v : Value} {xs : List It} (h : OwnR w base e v xs) : ∃ ao cap, v = .slice ao xs.length cap := by
  obtain ⟨ao, cap, hv, _⟩ := h.rd
  exact ⟨ao, cap, hv⟩
/-- append onto a row whose things lie above the base: what lies below it stays. -/
theorem grow_blk {T : TypeId} {w w' : World} {base g : Nat} {e : TypeId} {v : Value} {xs : List It} {s : Rs} (h : Blk T w g s) (hown : OwnR w base e v xs) (hg : w.grownBy w' v.ownBlock) (hlt : g < base) : Blk T w' g s := by
  unfold Blk
  rw [hg.block g h.lt (by intro e; have := (World.ownsRow.lt hown g e.symm).1; omega)]
  exact h
theorem below_own {B : Nat} {w wr w' : World} {base : Nat} {e : TypeId} {v : Value} {xs : List It} (hb : Below B w wr) (hB : B ≤ wr.heap.size) (hown : OwnR wr base e v xs) (hg : wr.grownBy w' v.ownBlock) (h : B ≤ base) : Below B w w' :=
  hb.grown hg hB (fun k hk => Nat.le_trans h (World.ownsRow.lt hown k hk).1)
theorem Blk.new_drew (T : TypeId) (w : World) (s : Rs) : Blk T ((w.alloc (.cells #[.int .i64 s.l, .int .i64 s.s, .int .i64 s.f, .int .i64 s.z] T)).drew) w.heap.size s := heap_alloc_new _ _
theorem add_mono_key (a b : List It) (k : Int) : Rs.key (rA.su a) k ≤ Rs.key (rA.su (a ++ b)) k := by
  rw [Alg.su_app]
  exact rA.mono _ _ k (rA.ok a) (rA.ok b)

set_option maxRecDepth 100000 in
set_option maxHeartbeats 4000000 in
theorem law_runs (v0 : Value) (a : List It) (v1 : Value) (b : List It) (v2 : Value) (c : List It) (w : World) (h0 : RdR w v0 a) (h1 : RdR w v1 b) (h2 : RdR w v2 c) (_hz : 0 ≤ 0) :
    Calls Try.prog 3 #[v0, v1, v2] w fun e w' => e = .returned (.bool true) ∧ Below w.heap.size w w' := by
  have K1 : Hid (∀ w', Below w.heap.size w w' → RdR w' v0 a) := fun w' h => h0.ext h
  have K2 : Hid (∀ w', Below w.heap.size w w' → RdR w' v1 b) := fun w' h => h1.ext h
  have K3 : Hid (∀ w', Below w.heap.size w w' → RdR w' v2 c) := fun w' h => h2.ext h
  obtain ⟨ao0, cap0, rfl, _⟩ := h0
  obtain ⟨ao1, cap1, rfl, _⟩ := h1
  obtain ⟨ao2, cap2, rfl, _⟩ := h2
  by_cases g0 : 1099511627776 < a.length
  · have g0' : (1099511627776 : Int) < (a.length : Int) := by omega
    go_enter Try.func3, Try.ntmps3
    go_wp2_with fail
    go_ret
    exact ⟨rfl, Below.refl _ _⟩
  have g0' : ¬ (1099511627776 : Int) < (a.length : Int) := by omega
  have g0b : decide ((1099511627776 : Int) < (a.length : Int)) = false := by simp; omega
  by_cases g1 : 1099511627776 < b.length
  · have g1' : (1099511627776 : Int) < (b.length : Int) := by omega
    go_enter Try.func3, Try.ntmps3
    go_wp2_with fail
    go_ret
    exact ⟨rfl, Below.refl _ _⟩
  have g1' : ¬ (1099511627776 : Int) < (b.length : Int) := by omega
  have g1b : decide ((1099511627776 : Int) < (b.length : Int)) = false := by simp; omega
  by_cases g2 : 1099511627776 < c.length
  · have g2' : (1099511627776 : Int) < (c.length : Int) := by omega
    go_enter Try.func3, Try.ntmps3
    go_wp2_with fail
    go_ret
    exact ⟨rfl, Below.refl _ _⟩
  have g2' : ¬ (1099511627776 : Int) < (c.length : Int) := by omega
  have g2b : decide ((1099511627776 : Int) < (c.length : Int)) = false := by simp; omega
  have wa := wt_le a
  have wb := wt_le b
  have wc' := wt_le c
  have WT : Hid (wt (a ++ b ++ c ++ [(3, 2)]) ≤ 4611686018427387904 ∧ wt a ≤ 4611686018427387904 ∧ wt b ≤ 4611686018427387904 ∧ wt (c ++ [(3, 2)]) ≤ 4611686018427387904 ∧ wt (a ++ b) ≤ 4611686018427387904 ∧ wt (b ++ (c ++ [(3, 2)])) ≤ 4611686018427387904 ∧ wt (a ++ b ++ (c ++ [(3, 2)])) ≤ 4611686018427387904) := by
    have e : wt [((3 : Int), (2 : Int))] = 3 := by decide
    simp only [Hid, wt_app, e]
    omega
  have LN : Hid (a.length ≤ 1099511627776 ∧ b.length ≤ 1099511627776 ∧ c.length ≤ 1099511627776) := by unfold Hid; omega
  have AA : Hid (∀ w', Below w.heap.size w w' → Calls Try.prog 13 #[.slice ao0 a.length cap0] w' fun e w'' => ∃ s, Hid (s = rA.su a) ∧ e = .returned (.agg #[.int .i64 s.l, .int .i64 s.s, .int .i64 s.f, .int .i64 s.z]) ∧ Below w'.heap.size w' w'') := fun w' h => added_any _ a w' (K1.out w' h) WT.out.2.1
  have AB : Hid (∀ w', Below w.heap.size w w' → Calls Try.prog 13 #[.slice ao1 b.length cap1] w' fun e w'' => ∃ s, Hid (s = rA.su b) ∧ e = .returned (.agg #[.int .i64 s.l, .int .i64 s.s, .int .i64 s.f, .int .i64 s.z]) ∧ Below w'.heap.size w' w'') := fun w' h => added_any _ b w' (K2.out w' h) WT.out.2.2.1
  obtain ⟨al, hal⟩ : ∃ al, al = a ++ b ++ c ++ [((3 : Int), (2 : Int))] := ⟨_, rfl⟩
  obtain ⟨cz, hcz⟩ : ∃ cz, cz = c ++ [((3 : Int), (2 : Int))] := ⟨_, rfl⟩
  have HAL := hidIt hal
  have HCZ := hidIt hcz
  have HLL : Hid (al.length ≤ 4398046511104) := by have := LN.out; unfold Hid; rw [hal]; simp only [List.length_append, List.length_cons, List.length_nil]; omega
  rw [← hal, ← hcz] at WT
  clear wa wb wc' g0 g1 g2 hal hcz
  go_enter Try.func3, Try.ntmps3
  go_upto_region 5 with (first
    | (at_builtin; refine wpList_append_runs rfl _ _ 22 rfl w.heap.size 24 Try.info_run Try.underlying22 _ [] rfl (OwnR.nil _ _ _) _ a rfl (K1.out _ (Below.refl _ _)) (by have := LN.out; simp only [List.length_nil]; omega) (Nat.le_refl _) ?_; clear K1; intro o1 w1 hO hg; have HB1 := hidIt (grown_none hg); rw [List.nil_append] at hO; have HO1 := hidIt hO; clear hO hg)
    | (at_builtin; refine wpList_append_runs rfl _ _ 22 rfl w.heap.size 24 Try.info_run Try.underlying22 _ a rfl HO1.out _ b rfl (K2.out _ HB1.out) (by have := LN.out; omega) HB1.out.size ?_; clear K2; intro o2 w2 hO hg; have HB2 := hidIt (OwnR.below HB1.out HO1.out hg); have HO2 := hidIt hO; clear hO hg)
    | (at_builtin; refine wpList_append_runs rfl _ _ 22 rfl w.heap.size 24 Try.info_run Try.underlying22 _ (a ++ b) rfl HO2.out _ c rfl (K3.out _ HB2.out) (by have := LN.out; simp only [List.length_append]; omega) HB2.out.size ?_; intro o3 w3 hO hg; have HB3 := hidIt (OwnR.below HB2.out HO2.out hg); have HO3 := hidIt hO; clear hO hg HO2))
  go_upto_region 6 with (at_builtin; refine wpList_append_runs rfl _ _ 22 rfl w.heap.size 24 Try.info_run Try.underlying22 _ (a ++ b ++ c) rfl (HO3.out.ext (ext_alloc (Below.refl _ _) _)) _ [(3, 2)] rfl (RdR.lit1 w3 24 (3, 2)) (by have := LN.out; simp only [List.length_append, List.length_cons, List.length_nil]; omega) (by have := HB3.out.size; simp; omega) ?_; intro o4 w4 hO hg; rw [← HAL.out] at hO; have HB4 := hidIt (OwnR.below (ext_alloc HB3.out _) (HO3.out.ext (ext_alloc (Below.refl _ _) _)) hg); have HO4 := hidIt hO; obtain ⟨ao4, cap4, rfl⟩ := hO.form; clear hO hg HO3)
  go_upto_region 7 with (go_at_call 13; refine (AA.out _ HB4.out).mono ?_; clear AA; rintro e w5 ⟨x, HX, rfl, hb⟩; have HB5 := hidIt hb; clear hb)
  go_upto_region 8 with (go_at_call 13; refine (AB.out _ (ext_alloc (ext_trans HB4.out HB5.out) _)).mono ?_; clear AB; rintro e w6 ⟨y, HY, rfl, hb⟩; have HB6 := hidIt hb; clear hb)
  go_upto_region 9 with (first
    | (at_builtin; refine wpList_append_runs rfl _ _ 22 rfl (w6.heap.size + 1) 24 Try.info_run Try.underlying22 _ [] rfl (OwnR.nil _ _ _) _ c rfl (K3.out _ (ext_alloc (ext_trans (ext_alloc (ext_trans HB4.out HB5.out) _) HB6.out) _)) (by have := LN.out; simp only [List.length_nil]; omega) (by simp) ?_; clear K3; intro o7 w7 hO hg; have HB7 := hidIt (grown_none hg); rw [List.nil_append] at hO; have HO7 := hidIt hO; clear hO hg)
    | (at_builtin; refine wpList_append_runs rfl _ _ 22 rfl (w6.heap.size + 1) 24 Try.info_run Try.underlying22 _ c rfl (HO7.out.ext (ext_alloc (Below.refl _ _) _)) _ [(3, 2)] rfl (RdR.lit1 w7 24 (3, 2)) (by have := LN.out; simp only [List.length_cons, List.length_nil]; omega) (by have := HB7.out.size; simp at this; simp; omega) ?_; intro o8 w8 hO hg; rw [← HCZ.out] at hO; have HG8 := hidIt hg; have HO8 := hidIt hO; obtain ⟨ao8, cap8, rfl⟩ := hO.form; clear hO hg)
    | (go_at_call 13; refine (added_any _ cz _ HO8.out.rd WT.out.2.2.2.1).mono ?_; rintro e w9 ⟨z, HZ, rfl, hb⟩; have HB9 := hidIt hb; clear hb))
  have P6 : Below w4.heap.size w4 w6 := ext_trans (ext_alloc HB5.out _) HB6.out
  have P7 : Below w4.heap.size w4 w7 := ext_trans (ext_alloc P6 _) HB7.out
  have s5 := HB5.out.size
  have s6 := HB6.out.size
  have s7 := HB7.out.size
  rw [World.size_alloc] at s6 s7
  have hown7 := HO7.out.ext (ext_alloc (Below.refl _ w7) (.cells #[.int .i64 3, .int .i64 2] 24))
  have P8 : Below w4.heap.size w4 w8 := below_own (ext_alloc P7 _) (by rw [World.size_alloc]; have := P7.size; omega) hown7 HG8.out (by have := P6.size; omega)
  have PZ : Below w4.heap.size w4 (w9.alloc (.cells #[.int .i64 z.l, .int .i64 z.s, .int .i64 z.f, .int .i64 z.z] 26)) := ext_alloc (ext_trans P8 HB9.out) _
  have X6 : Blk 26 w6 w5.heap.size x := (Blk.new _ w5 x).ext HB6.out
  have X7 := ((X6.ext (ext_alloc (Below.refl _ _) _)).ext HB7.out).ext (ext_alloc (Below.refl _ w7) (.cells #[.int .i64 3, .int .i64 2] 24))
  have Y7 := ((Blk.new 26 w6 y).ext HB7.out).ext (ext_alloc (Below.refl _ w7) (.cells #[.int .i64 3, .int .i64 2] 24))
  have XZ := ((grow_blk X7 hown7 HG8.out (by omega)).ext HB9.out).ext (ext_alloc (Below.refl _ w9) (.cells #[.int .i64 z.l, .int .i64 z.s, .int .i64 z.f, .int .i64 z.z] 26))
  have YZ := ((grow_blk Y7 hown7 HG8.out (by omega)).ext HB9.out).ext (ext_alloc (Below.refl _ w9) (.cells #[.int .i64 z.l, .int .i64 z.s, .int .i64 z.f, .int .i64 z.z] 26))
  have ZZ := Blk.new 26 w9 z
  generalize w5.heap.size = bx at *
  generalize w6.heap.size = by' at *
  generalize w9.heap.size = bz at *
  obtain ⟨WZ, hWZ⟩ : ∃ WZ, WZ = w9.alloc (.cells #[.int .i64 z.l, .int .i64 z.s, .int .i64 z.f, .int .i64 z.z] 26) := ⟨_, rfl⟩
  rw [← hWZ] at PZ XZ YZ ZZ ⊢
  have HAZ := hidIt (HO4.out.rd.ext PZ)
  have HBZ := hidIt (ext_trans HB4.out PZ)
  have HXB := hidIt XZ
  have HYB := hidIt YZ
  have HZB := hidIt ZZ
  clear P6 P7 P8 PZ s5 s6 s7 hown7 X6 X7 Y7 XZ YZ ZZ hWZ HG8 HO7 HO8 HB9 HB7 HB6 HB5 HB3 HB2 HB1 HO1 HO4 HB4
  have HC : Hid (∀ w', Below WZ.heap.size WZ w' → w'.cell? ⟨bx, 0, none⟩ = some (.int .i64 x.l) ∧ w'.cell? ⟨bx, 1, none⟩ = some (.int .i64 x.s) ∧ w'.cell? ⟨bx, 2, none⟩ = some (.int .i64 x.f) ∧ w'.cell? ⟨bx, 3, none⟩ = some (.int .i64 x.z) ∧ w'.cell? ⟨by', 0, none⟩ = some (.int .i64 y.l) ∧ w'.cell? ⟨by', 1, none⟩ = some (.int .i64 y.s) ∧ w'.cell? ⟨by', 2, none⟩ = some (.int .i64 y.f) ∧ w'.cell? ⟨by', 3, none⟩ = some (.int .i64 y.z) ∧ w'.cell? ⟨bz, 0, none⟩ = some (.int .i64 z.l) ∧ w'.cell? ⟨bz, 1, none⟩ = some (.int .i64 z.s) ∧ w'.cell? ⟨bz, 2, none⟩ = some (.int .i64 z.f) ∧ w'.cell? ⟨bz, 3, none⟩ = some (.int .i64 z.z)) := fun w' h => by
    obtain ⟨a0, a1, a2, a3, _⟩ := (HXB.out.ext h).cells
    obtain ⟨b0, b1, b2, b3, _⟩ := (HYB.out.ext h).cells
    obtain ⟨c0, c1, c2, c3, _⟩ := (HZB.out.ext h).cells
    exact ⟨a0, a1, a2, a3, b0, b1, b2, b3, c0, c1, c2, c3⟩
  have HR : Hid (a ++ b ++ cz = al ∧ a ++ (b ++ cz) = al) := by have h1 := HAL.out; have h2 := HCZ.out; unfold Hid; rw [h1, h2]; simp
  have F1 : Hid (∀ w', Below WZ.heap.size WZ w' → Calls Try.prog 14 #[.agg #[.int .i64 x.l, .int .i64 x.s, .int .i64 x.f, .int .i64 x.z], .agg #[.int .i64 y.l, .int .i64 y.s, .int .i64 y.f, .int .i64 y.z]] w' fun e w'' => ∃ q, Hid (q = rA.su (a ++ b)) ∧ e = .returned (.agg #[.int .i64 q.l, .int .i64 q.s, .int .i64 q.f, .int .i64 q.z]) ∧ Below w'.heap.size w' w'') := fun w' _ => add_su a b x y w' HX HY WT.out.2.2.2.2.1
  have F2 : Hid (∀ q w', Hid (q = rA.su (a ++ b)) → Below WZ.heap.size WZ w' → Calls Try.prog 14 #[.agg #[.int .i64 q.l, .int .i64 q.s, .int .i64 q.f, .int .i64 q.z], .agg #[.int .i64 z.l, .int .i64 z.s, .int .i64 z.f, .int .i64 z.z]] w' fun e w'' => ∃ q, Hid (q = rA.su al) ∧ e = .returned (.agg #[.int .i64 q.l, .int .i64 q.s, .int .i64 q.f, .int .i64 q.z]) ∧ Below w'.heap.size w' w'') := fun q w' hq _ => by have := add_su (a ++ b) cz q z w' hq HZ WT.out.2.2.2.2.2.2; rw [HR.out.1] at this; exact this
  have G1 : Hid (∀ w', Calls Try.prog 14 #[.agg #[.int .i64 y.l, .int .i64 y.s, .int .i64 y.f, .int .i64 y.z], .agg #[.int .i64 z.l, .int .i64 z.s, .int .i64 z.f, .int .i64 z.z]] w' fun e w'' => ∃ q, Hid (q = rA.su (b ++ cz)) ∧ e = .returned (.agg #[.int .i64 q.l, .int .i64 q.s, .int .i64 q.f, .int .i64 q.z]) ∧ Below w'.heap.size w' w'') := fun w' => add_su b cz y z w' HY HZ WT.out.2.2.2.2.2.1
  have G2 : Hid (∀ q w', Hid (q = rA.su (b ++ cz)) → Calls Try.prog 14 #[.agg #[.int .i64 x.l, .int .i64 x.s, .int .i64 x.f, .int .i64 x.z], .agg #[.int .i64 q.l, .int .i64 q.s, .int .i64 q.f, .int .i64 q.z]] w' fun e w'' => ∃ q, Hid (q = rA.su al) ∧ e = .returned (.agg #[.int .i64 q.l, .int .i64 q.s, .int .i64 q.f, .int .i64 q.z]) ∧ Below w'.heap.size w' w'') := fun q w' hq => by have := add_su a (b ++ cz) x q w' HX hq (by rw [HR.out.2]; exact WT.out.1); rw [HR.out.2] at this; exact this
  go_cut [11] from 49 to 53 (fun p wF => ∃ tb : Nat, p = .pointer (some ⟨tb, 0, none⟩) ∧ Hid (∃ q, q = rA.su al ∧ Blk 26 wF tb q ∧ Below WZ.heap.size WZ wF))
  case first =>
    obtain ⟨x0, x1, x2, x3, y0, y1, y2, y3, z0, z1, z2, z3⟩ := HC.out WZ (Below.refl _ _)
    go_region_held3 (fun w' => w'.cell? ⟨bx, 0, none⟩ = some (.int .i64 x.l) ∧ w'.cell? ⟨bx, 1, none⟩ = some (.int .i64 x.s) ∧ w'.cell? ⟨bx, 2, none⟩ = some (.int .i64 x.f) ∧ w'.cell? ⟨bx, 3, none⟩ = some (.int .i64 x.z) ∧ w'.cell? ⟨by', 0, none⟩ = some (.int .i64 y.l) ∧ w'.cell? ⟨by', 1, none⟩ = some (.int .i64 y.s) ∧ w'.cell? ⟨by', 2, none⟩ = some (.int .i64 y.f) ∧ w'.cell? ⟨by', 3, none⟩ = some (.int .i64 y.z) ∧ w'.cell? ⟨bz, 0, none⟩ = some (.int .i64 z.l) ∧ w'.cell? ⟨bz, 1, none⟩ = some (.int .i64 z.s) ∧ w'.cell? ⟨bz, 2, none⟩ = some (.int .i64 z.f) ∧ w'.cell? ⟨bz, 3, none⟩ = some (.int .i64 z.z)) (first | exact HC.out _ (by repeat (first | exact HB2.out | exact HB1.out | exact Below.refl _ _ | apply Below.drew | refine ext_alloc ?_ _ | refine Below.setCell ?_ (by first | exact Nat.le_refl _ | exact HB1.out.size) _)) | go_keep) (first
      | (go_at_call_of 14 y; refine (F1.out _ (by repeat (first | exact HB2.out | exact HB1.out | exact Below.refl _ _ | apply Below.drew | refine ext_alloc ?_ _ | refine Below.setCell ?_ (by first | exact Nat.le_refl _ | exact HB1.out.size) _))).mono ?_; clear x0 x1 x2 x3 y0 y1 y2 y3 z0 z1 z2 z3; rintro e w1 ⟨q1, HQ1, rfl, hb1⟩; have HW1 := hidIt hb1; (first | (have hzC : WZ.heap.size < w1.heap.size := (by have := hb1.size; simp at this; omega); have HT := hidIt ((Blk.new_drew 26 WZ Rs.zero).ext HW1.out); obtain ⟨t0, t1, t2, t3, tf⟩ := HT.out.cells) | skip); have HB1 : Hid (Below WZ.heap.size WZ w1) := ext_trans (by repeat (first | exact HB2.out | exact HB1.out | exact Below.refl _ _ | apply Below.drew | refine ext_alloc ?_ _ | refine Below.setCell ?_ (by first | exact Nat.le_refl _ | exact HB1.out.size) _)) hb1; obtain ⟨x0, x1, x2, x3, y0, y1, y2, y3, z0, z1, z2, z3⟩ := HC.out w1 HB1.out; clear hb1)
      | (go_at_call_of 14 q1; refine (F2.out _ _ HQ1 (by repeat (first | exact HB2.out | exact HB1.out | exact Below.refl _ _ | apply Below.drew | refine ext_alloc ?_ _ | refine Below.setCell ?_ (by first | exact Nat.le_refl _ | exact HB1.out.size) _))).mono ?_; clear x0 x1 x2 x3 y0 y1 y2 y3 z0 z1 z2 z3; rintro e w2 ⟨q2, HQ2, rfl, hb2⟩; have HW2 := hidIt hb2; (first | (have HT2 := hidIt (HT.out.ext HW2.out); clear t0 t1 t2 t3 tf; obtain ⟨t0, t1, t2, t3, tf⟩ := HT2.out.cells) | (have hzB : w1.heap.size < w2.heap.size := (by have := hb2.size; simp at this; omega); have HT2 := hidIt ((Blk.new 26 w1 Rs.zero).ext HW2.out); obtain ⟨t0, t1, t2, t3, tf⟩ := HT2.out.cells) | skip); have HB2 : Hid (Below WZ.heap.size WZ w2) := ext_trans (by repeat (first | exact HB2.out | exact HB1.out | exact Below.refl _ _ | apply Below.drew | refine ext_alloc ?_ _ | refine Below.setCell ?_ (by first | exact Nat.le_refl _ | exact HB1.out.size) _)) hb2; obtain ⟨x0, x1, x2, x3, y0, y1, y2, y3, z0, z1, z2, z3⟩ := HC.out w2 HB2.out; clear hb2))
    all_goals
      go_wp2_with fail
      go_meet
      case rel =>
        first
          | (obtain ⟨p1, p2⟩ := HT2.out.put q2; exact ⟨_, rfl, q2, HQ2.out, p1, below_put HB2.out HB2.out.size p2 (by first | exact Nat.le_refl _ | exact HB1.out.size)⟩)
          | exact ⟨_, rfl, q2, HQ2.out, Blk.new _ w2 _, ext_alloc HB2.out _⟩
  obtain ⟨tb, rfl, HQ⟩ := hcut
  have HQL := hidIt HQ.out
  obtain ⟨ql, hql, hBL, hbL⟩ := HQ.out
  have HLS := hidIt hql
  have HLB := hidIt hBL
  have HLW := hidIt hbL
  generalize hWL : wc = WL at *
  generalize tb = bl at *
  clear hWL HQ HQL hql hBL hbL
  have HC2 : Hid (∀ w', Below WL.heap.size WL w' → w'.cell? ⟨bx, 0, none⟩ = some (.int .i64 x.l) ∧ w'.cell? ⟨bx, 1, none⟩ = some (.int .i64 x.s) ∧ w'.cell? ⟨bx, 2, none⟩ = some (.int .i64 x.f) ∧ w'.cell? ⟨bx, 3, none⟩ = some (.int .i64 x.z) ∧ w'.cell? ⟨by', 0, none⟩ = some (.int .i64 y.l) ∧ w'.cell? ⟨by', 1, none⟩ = some (.int .i64 y.s) ∧ w'.cell? ⟨by', 2, none⟩ = some (.int .i64 y.f) ∧ w'.cell? ⟨by', 3, none⟩ = some (.int .i64 y.z) ∧ w'.cell? ⟨bz, 0, none⟩ = some (.int .i64 z.l) ∧ w'.cell? ⟨bz, 1, none⟩ = some (.int .i64 z.s) ∧ w'.cell? ⟨bz, 2, none⟩ = some (.int .i64 z.f) ∧ w'.cell? ⟨bz, 3, none⟩ = some (.int .i64 z.z)) := fun w' h => HC.out w' (ext_trans HLW.out h)
  go_upto_region 10 with fail
  go_cut [12] from 54 to 58 (fun p wF => ∃ tb : Nat, p = .pointer (some ⟨tb, 0, none⟩) ∧ Hid (∃ q, q = rA.su al ∧ Blk 26 wF tb q ∧ Below WL.heap.size WL wF))
  case first =>
    obtain ⟨x0, x1, x2, x3, y0, y1, y2, y3, z0, z1, z2, z3⟩ := HC2.out WL (Below.refl _ _)
    go_region_held3 (fun w' => w'.cell? ⟨bx, 0, none⟩ = some (.int .i64 x.l) ∧ w'.cell? ⟨bx, 1, none⟩ = some (.int .i64 x.s) ∧ w'.cell? ⟨bx, 2, none⟩ = some (.int .i64 x.f) ∧ w'.cell? ⟨bx, 3, none⟩ = some (.int .i64 x.z) ∧ w'.cell? ⟨by', 0, none⟩ = some (.int .i64 y.l) ∧ w'.cell? ⟨by', 1, none⟩ = some (.int .i64 y.s) ∧ w'.cell? ⟨by', 2, none⟩ = some (.int .i64 y.f) ∧ w'.cell? ⟨by', 3, none⟩ = some (.int .i64 y.z) ∧ w'.cell? ⟨bz, 0, none⟩ = some (.int .i64 z.l) ∧ w'.cell? ⟨bz, 1, none⟩ = some (.int .i64 z.s) ∧ w'.cell? ⟨bz, 2, none⟩ = some (.int .i64 z.f) ∧ w'.cell? ⟨bz, 3, none⟩ = some (.int .i64 z.z)) (first | exact HC2.out _ (by repeat (first | exact HB2.out | exact HB1.out | exact Below.refl _ _ | apply Below.drew | refine ext_alloc ?_ _ | refine Below.setCell ?_ (by first | exact Nat.le_refl _ | exact HB1.out.size) _)) | go_keep) (first
      | (go_at_call_of 14 z; refine ((fun (h : Below WL.heap.size WL _) => G1.out _) (by repeat (first | exact HB2.out | exact HB1.out | exact Below.refl _ _ | apply Below.drew | refine ext_alloc ?_ _ | refine Below.setCell ?_ (by first | exact Nat.le_refl _ | exact HB1.out.size) _))).mono ?_; clear x0 x1 x2 x3 y0 y1 y2 y3 z0 z1 z2 z3; rintro e w1 ⟨q1, HQ1, rfl, hb1⟩; have HW1 := hidIt hb1; (first | (have hzC : WL.heap.size < w1.heap.size := (by have := hb1.size; simp at this; omega); have HT := hidIt ((Blk.new_drew 26 WL Rs.zero).ext HW1.out); obtain ⟨t0, t1, t2, t3, tf⟩ := HT.out.cells) | skip); have HB1 : Hid (Below WL.heap.size WL w1) := ext_trans (by repeat (first | exact HB2.out | exact HB1.out | exact Below.refl _ _ | apply Below.drew | refine ext_alloc ?_ _ | refine Below.setCell ?_ (by first | exact Nat.le_refl _ | exact HB1.out.size) _)) hb1; obtain ⟨x0, x1, x2, x3, y0, y1, y2, y3, z0, z1, z2, z3⟩ := HC2.out w1 HB1.out; clear hb1)
      | (go_at_call_of 14 q1; refine ((fun (h : Below WL.heap.size WL _) => G2.out _ _ HQ1) (by repeat (first | exact HB2.out | exact HB1.out | exact Below.refl _ _ | apply Below.drew | refine ext_alloc ?_ _ | refine Below.setCell ?_ (by first | exact Nat.le_refl _ | exact HB1.out.size) _))).mono ?_; clear x0 x1 x2 x3 y0 y1 y2 y3 z0 z1 z2 z3; rintro e w2 ⟨q2, HQ2, rfl, hb2⟩; have HW2 := hidIt hb2; (first | (have HT2 := hidIt (HT.out.ext HW2.out); clear t0 t1 t2 t3 tf; obtain ⟨t0, t1, t2, t3, tf⟩ := HT2.out.cells) | (have hzB : w1.heap.size < w2.heap.size := (by have := hb2.size; simp at this; omega); have HT2 := hidIt ((Blk.new 26 w1 Rs.zero).ext HW2.out); obtain ⟨t0, t1, t2, t3, tf⟩ := HT2.out.cells) | skip); have HB2 : Hid (Below WL.heap.size WL w2) := ext_trans (by repeat (first | exact HB2.out | exact HB1.out | exact Below.refl _ _ | apply Below.drew | refine ext_alloc ?_ _ | refine Below.setCell ?_ (by first | exact Nat.le_refl _ | exact HB1.out.size) _)) hb2; obtain ⟨x0, x1, x2, x3, y0, y1, y2, y3, z0, z1, z2, z3⟩ := HC2.out w2 HB2.out; clear hb2))
    all_goals
      go_wp2_with fail
      go_meet
      case rel =>
        first
          | (obtain ⟨p1, p2⟩ := HT2.out.put q2; exact ⟨_, rfl, q2, HQ2.out, p1, below_put HB2.out HB2.out.size p2 (by first | exact Nat.le_refl _ | exact HB1.out.size)⟩)
          | exact ⟨_, rfl, q2, HQ2.out, Blk.new _ w2 _, ext_alloc HB2.out _⟩
  obtain ⟨tb, rfl, HQ⟩ := hcut
  obtain ⟨qr, hqr, hBR, hbR⟩ := HQ.out
  have HRS := hidIt hqr
  have HRB := hidIt hBR
  have HRW := hidIt hbR
  generalize hWR : wc = WR at *
  generalize tb = br at *
  clear hWR HQ hqr hBR hbR HC HC2 F1 F2 G1 G2
  have PW := hidIt (ext_trans HLW.out HRW.out)
  have PLN : Hid (Calls Try.prog 16 #[.slice ao4 al.length cap4] WR fun e w' => ∃ v', e = .returned v' ∧ OwnR w' WR.heap.size 76 v' al ∧ Below WR.heap.size WR w') := plain_any _ al WR (HAZ.out.ext PW.out) (by have := HLL.out; omega)
  go_upto_region 12 with (first
    | (go_at_call 16; refine PLN.out.mono ?_; rintro e w1 ⟨o, rfl, hO, hb⟩; have HP := hidIt hb; have HOO := hidIt hO; obtain ⟨aop, capp, rfl⟩ := hO.form; clear hO hb)
    | (go_at_call 15; refine (rUpto_any _ al _ _ HOO.out.rd WT.out.1).mono ?_; rintro e w2 ⟨qw, HQW, rfl, hb⟩; have HU := hidIt hb; clear hb))
  have PU := hidIt (ext_trans HP.out HU.out)
  have EW : Hid (qw = rA.su al) := by have := HQW.out; rw [show ((al.length : Int)).toNat = al.length by omega, List.take_length] at this; exact this
  have HWB := hidIt (Blk.new 29 w2 qw)
  obtain ⟨WW, hWW⟩ : ∃ WW, WW = w2.alloc (.cells #[.int .i64 qw.l, .int .i64 qw.s, .int .i64 qw.f, .int .i64 qw.z] 29) := ⟨_, rfl⟩
  have QW := hidIt (ext_alloc PU.out (.cells #[.int .i64 qw.l, .int .i64 qw.s, .int .i64 qw.f, .int .i64 qw.z] 29))
  rw [← hWW] at HWB QW ⊢
  generalize w2.heap.size = bw at *
  have KEY : Hid (∀ k, Rs.key x k ≤ Rs.key (rA.su al) k) := fun k => by
    have := add_mono_key a (b ++ cz) k
    rw [HR.out.2, ← HX.out] at this
    exact this
  have HXW := hidIt (((HXB.out.ext HLW.out).ext HRW.out).ext QW.out)
  have HLF := hidIt ((HLB.out.ext HRW.out).ext QW.out)
  have HRF := hidIt (HRB.out.ext QW.out)
  have FIN := hidIt (ext_trans HBZ.out (ext_trans PW.out QW.out))
  have e1 := HLS.out.symm
  have e2 := HRS.out.symm
  have e3 := EW.out.symm
  generalize rA.su al = sA at *
  subst e1 e2 e3
  clear HQW EW HLS HRS hWW PU QW HP HU HOO PLN PW HRW HLW HRB HLB HAZ HXB HYB HZB HBZ HX HY HZ HAL HCZ WT LN HLL HR
  have HC : Hid (∀ w', Below WW.heap.size WW w' → w'.cell? ⟨bl, 0, none⟩ = some (.int .i64 sA.l) ∧ w'.cell? ⟨bl, 1, none⟩ = some (.int .i64 sA.s) ∧ w'.cell? ⟨bl, 2, none⟩ = some (.int .i64 sA.f) ∧ w'.cell? ⟨bl, 3, none⟩ = some (.int .i64 sA.z) ∧ w'.cell? ⟨br, 0, none⟩ = some (.int .i64 sA.l) ∧ w'.cell? ⟨br, 1, none⟩ = some (.int .i64 sA.s) ∧ w'.cell? ⟨br, 2, none⟩ = some (.int .i64 sA.f) ∧ w'.cell? ⟨br, 3, none⟩ = some (.int .i64 sA.z) ∧ w'.cell? ⟨bw, 0, none⟩ = some (.int .i64 sA.l) ∧ w'.cell? ⟨bw, 1, none⟩ = some (.int .i64 sA.s) ∧ w'.cell? ⟨bw, 2, none⟩ = some (.int .i64 sA.f) ∧ w'.cell? ⟨bw, 3, none⟩ = some (.int .i64 sA.z) ∧ w'.cell? ⟨bx, 0, none⟩ = some (.int .i64 x.l) ∧ w'.cell? ⟨bx, 1, none⟩ = some (.int .i64 x.s) ∧ w'.cell? ⟨bx, 2, none⟩ = some (.int .i64 x.f) ∧ w'.cell? ⟨bx, 3, none⟩ = some (.int .i64 x.z)) := fun w' h => by
    obtain ⟨a0, a1, a2, a3, _⟩ := (HLF.out.ext h).cells
    obtain ⟨b0, b1, b2, b3, _⟩ := (HRF.out.ext h).cells
    obtain ⟨c0, c1, c2, c3, _⟩ := (HWB.out.ext h).cells
    obtain ⟨d0, d1, d2, d3, _⟩ := (HXW.out.ext h).cells
    exact ⟨a0, a1, a2, a3, b0, b1, b2, b3, c0, c1, c2, c3, d0, d1, d2, d3⟩
  obtain ⟨l0, l1, l2, l3, r0, r1, r2, r3, q0, q1, q2, q3, x0, x1, x2, x3⟩ := HC.out WW (Below.refl _ _)
  clear HWB HXW HLF HRF
  have SR : Hid (∀ w', Below WW.heap.size WW w' → Calls Try.prog 17 #[.agg #[.int .i64 sA.l, .int .i64 sA.s, .int .i64 sA.f, .int .i64 sA.z], .agg #[.int .i64 sA.l, .int .i64 sA.s, .int .i64 sA.f, .int .i64 sA.z]] w' fun e w'' => e = .returned (.bool true) ∧ Below WW.heap.size WW w'') := fun w' h => (sameRuns_any sA sA w' rfl).mono fun _ _ ⟨k1, k2⟩ => ⟨k1, ext_trans h k2⟩
  have HB0 : Hid (Below WW.heap.size WW WW) := Below.refl _ _
  go_upto_region 14 with (first
    | (go_at_call 17; refine (SR.out _ HB0.out).mono ?_; clear HB0 l0 l1 l2 l3 r0 r1 r2 r3 q0 q1 q2 q3 x0 x1 x2 x3; rintro e w1 ⟨rfl, hb⟩; have HB1 := hidIt hb; obtain ⟨l0, l1, l2, l3, r0, r1, r2, r3, q0, q1, q2, q3, x0, x1, x2, x3⟩ := HC.out w1 hb; clear hb)
    | (go_at_call 17; refine (SR.out _ HB1.out).mono ?_; clear l0 l1 l2 l3 r0 r1 r2 r3 q0 q1 q2 q3 x0 x1 x2 x3; rintro e w2 ⟨rfl, hb⟩; have HB2 := hidIt hb; obtain ⟨l0, l1, l2, l3, r0, r1, r2, r3, q0, q1, q2, q3, x0, x1, x2, x3⟩ := HC.out w2 hb; clear hb))
  clear l0 l1 l2 l3 r0 r1 r2 r3 q0 q1 q2 q3 x0 x1 x2 x3
  go_wp2_with fail
  go_loopw [14] (fun i wr => ∃ k : Int, i = .int .i64 k ∧ -2 ≤ k ∧ k ≤ 4 ∧ Hid (Below WW.heap.size WW wr)) (fun i _ => (4 - intOf i).toNat)
  case atStart => exact ⟨-2, rfl, by omega, by omega, HB2.out⟩
  case round =>
    obtain ⟨k, rfl, hk1, hk2, HBR⟩ := hrel
    by_cases hk3 : k ≤ 3
    · obtain ⟨l0, l1, l2, l3, r0, r1, r2, r3, q0, q1, q2, q3, x0, x1, x2, x3⟩ := HC.out wr HBR.out
      have KL : Hid (∀ w', Below WW.heap.size WW w' → Calls Try.prog 18 #[.agg #[.int .i64 sA.l, .int .i64 sA.s, .int .i64 sA.f, .int .i64 sA.z], .int .i64 k] w' fun e w'' => e = .returned (.int .i64 (Rs.key sA k)) ∧ Below WW.heap.size WW w'') := fun w' h => (Key_any sA k w').mono fun _ _ ⟨k1, k2⟩ => ⟨k1, ext_trans h k2⟩
      have KX : Hid (∀ w', Below WW.heap.size WW w' → Calls Try.prog 18 #[.agg #[.int .i64 x.l, .int .i64 x.s, .int .i64 x.f, .int .i64 x.z], .int .i64 k] w' fun e w'' => e = .returned (.int .i64 (Rs.key x k)) ∧ Below WW.heap.size WW w'') := fun w' h => (Key_any x k w').mono fun _ _ ⟨k1, k2⟩ => ⟨k1, ext_trans h k2⟩
      have KR : Hid (∀ w', Below WW.heap.size WW w' → Calls Try.prog 19 #[.agg #[.int .i64 sA.l, .int .i64 sA.s, .int .i64 sA.f, .int .i64 sA.z], .int .i64 k] w' fun e w'' => e = .returned (.int .i64 (Rs.key sA k)) ∧ Below WW.heap.size WW w'') := fun w' h => (rKey_any sA k w').mono fun _ _ ⟨k1, k2⟩ => ⟨k1, ext_trans h k2⟩
      have hky := KEY.out k
      generalize Rs.key sA k = ka at *
      generalize Rs.key x k = kx at *
      have hky' : ¬ ka < kx := by omega
      have hkd : decide (ka < kx) = false := by simp; omega
      clear r0 r1 r2 r3
      have HC3 : Hid (∀ w', Below WW.heap.size WW w' → w'.cell? ⟨bl, 0, none⟩ = some (.int .i64 sA.l) ∧ w'.cell? ⟨bl, 1, none⟩ = some (.int .i64 sA.s) ∧ w'.cell? ⟨bl, 2, none⟩ = some (.int .i64 sA.f) ∧ w'.cell? ⟨bl, 3, none⟩ = some (.int .i64 sA.z) ∧ w'.cell? ⟨bw, 0, none⟩ = some (.int .i64 sA.l) ∧ w'.cell? ⟨bw, 1, none⟩ = some (.int .i64 sA.s) ∧ w'.cell? ⟨bw, 2, none⟩ = some (.int .i64 sA.f) ∧ w'.cell? ⟨bw, 3, none⟩ = some (.int .i64 sA.z) ∧ w'.cell? ⟨bx, 0, none⟩ = some (.int .i64 x.l) ∧ w'.cell? ⟨bx, 1, none⟩ = some (.int .i64 x.s) ∧ w'.cell? ⟨bx, 2, none⟩ = some (.int .i64 x.f) ∧ w'.cell? ⟨bx, 3, none⟩ = some (.int .i64 x.z)) := fun w' h => by
        obtain ⟨l0, l1, l2, l3, r0, r1, r2, r3, q0, q1, q2, q3, x0, x1, x2, x3⟩ := HC.out w' h
        exact ⟨l0, l1, l2, l3, q0, q1, q2, q3, x0, x1, x2, x3⟩
      go_wp2_with fail
      go_region_held3 (fun w' => w'.cell? ⟨bl, 0, none⟩ = some (.int .i64 sA.l) ∧ w'.cell? ⟨bl, 1, none⟩ = some (.int .i64 sA.s) ∧ w'.cell? ⟨bl, 2, none⟩ = some (.int .i64 sA.f) ∧ w'.cell? ⟨bl, 3, none⟩ = some (.int .i64 sA.z) ∧ w'.cell? ⟨bw, 0, none⟩ = some (.int .i64 sA.l) ∧ w'.cell? ⟨bw, 1, none⟩ = some (.int .i64 sA.s) ∧ w'.cell? ⟨bw, 2, none⟩ = some (.int .i64 sA.f) ∧ w'.cell? ⟨bw, 3, none⟩ = some (.int .i64 sA.z) ∧ w'.cell? ⟨bx, 0, none⟩ = some (.int .i64 x.l) ∧ w'.cell? ⟨bx, 1, none⟩ = some (.int .i64 x.s) ∧ w'.cell? ⟨bx, 2, none⟩ = some (.int .i64 x.f) ∧ w'.cell? ⟨bx, 3, none⟩ = some (.int .i64 x.z)) (go_keep) (first
        | (go_at_call_of 18 sA; refine (KL.out _ (by repeat (first | exact HBB.out | exact HBR.out | apply Below.drew))).mono ?_; clear l0 l1 l2 l3 q0 q1 q2 q3 x0 x1 x2 x3; rintro e w1 ⟨rfl, hb⟩; (try clear HBB); have HBB := hidIt hb; obtain ⟨l0, l1, l2, l3, q0, q1, q2, q3, x0, x1, x2, x3⟩ := HC3.out w1 hb; clear hb)
        | (go_at_call_of 18 x; refine (KX.out _ (by repeat (first | exact HBB.out | exact HBR.out | apply Below.drew))).mono ?_; clear l0 l1 l2 l3 q0 q1 q2 q3 x0 x1 x2 x3; rintro e w1 ⟨rfl, hb⟩; (try clear HBB); have HBB := hidIt hb; obtain ⟨l0, l1, l2, l3, q0, q1, q2, q3, x0, x1, x2, x3⟩ := HC3.out w1 hb; clear hb)
        | (go_at_call 19; refine (KR.out _ (by repeat (first | exact HBB.out | exact HBR.out | apply Below.drew))).mono ?_; clear l0 l1 l2 l3 q0 q1 q2 q3 x0 x1 x2 x3; rintro e w1 ⟨rfl, hb⟩; (try clear HBB); have HBB := hidIt hb; obtain ⟨l0, l1, l2, l3, q0, q1, q2, q3, x0, x1, x2, x3⟩ := HC3.out w1 hb; clear hb))
      all_goals
        go_wp2_with fail
        go_roundw
        case rel => exact ⟨k + 1, rfl, by omega, by omega, HBB.out⟩
        case measure => simp [intOf]; omega
    · have hk4 : k = 4 := by omega
      subst hk4
      go_wp2_with fail
      go_ret
      exact ⟨rfl, ext_trans FIN.out HBR.out⟩
end Go.Proofs.Ytjlkgpgkjnglaaa
