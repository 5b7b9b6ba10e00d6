/- The law's get. -/
import Derived.Test.YtmldfjhfgaggpaaGWrt
import Derived.Test.YtmldfjhfgaggpaaGGet
namespace Go.Proofs.Ytmldfjhfgaggpaa
open Go.RowKit
variable {F : Nat → Prop}

set_option maxRecDepth 100000 in
set_option maxHeartbeats 8000000 in
theorem get_any {B N : Nat} (w : World) (g : Nat) (z : Ws) (pv : Value) (i : Nat) (n : Int) (hW : Wd B F N w g z pv) (hS : Syn z) (hi : i < 2) (hn : In64 n) :
    Calls Try.prog 29 #[.pointer (some ⟨g, 0, none⟩), .int .i64 i, .int .i64 n] w fun e w' => e = .returned (.bool true) ∧ Below w.heap.size w w' := by
  have hil : (i : Int) < 2 := by omega
  have c1 := hW.cells.1 i hi
  have GE := hidIt (Get_any w (z.b i) (z.bm i) N (z.s i).m (z.s i).p n (hW.bk i hi) hn)
  have HW := hidIt hW
  have RG := hidIt (fun w' (hb : Below w.heap.size w w') => r_Get_any w' (z.q i) (z.d i) n ((hW.ext hb).rb i hi) (hW.gd i hi))
  rw [← hS i hi] at RG
  have HI := hidIt hi
  clear hW hS hi hn
  rcases hgb : getB (z.s i).m (z.s i).p n with ⟨er, _ | y⟩
  · rw [hgb] at GE RG
    clear hgb
    go_enter Try.func29, Try.ntmps29
    go_upto_region 2 with (go_at_call 20; refine GE.out.mono ?_; rintro e w2 ⟨he, hb2⟩; have he2 : e = .returned (.tuple #[.agg #[.int .i64 0, .slice none 0 0], .int .i64 er]) := he; clear he; subst he2; have HB2 := hidIt hb2; clear hb2; (try dsimp only))
    generalize hw3 : World.alloc _ _ = w3
    have HB3 : Hid (Below w2.heap.size w2 w3) := by unfold Hid; rw [← hw3]; exact ext_alloc (Below.refl _ _) _
    have HK3 : Hid (w3.heap[w2.heap.size]? = some (.cells #[.int .i64 0, .slice none 0 0] 31 (0, 0))) := by unfold Hid; rw [← hw3]; exact heap_alloc_new _ _
    clear hw3 c1
    have HB13 := hidIt (ext_trans HB2.out HB3.out)
    have c5 := (HW.out.ext HB13.out).cells.2.1 i HI.out
    go_upto_region 3 with (go_at_call 51; refine (RG.out w3 HB13.out).mono ?_; rintro e w4 ⟨he, hb4⟩; have he2 : e = .returned (.tuple #[.int .i64 0, .slice none 0 0, .int .i64 er]) := he; clear he; subst he2; have HB4 := hidIt hb4; clear hb4; (try dsimp only))
    obtain ⟨_, e0, e1, _⟩ := cells2 ((HB4.out.block _ (Array.getElem?_eq_some_iff.1 HK3.out).1).trans HK3.out)
    have SI := hidIt (sameInts_any _ _ [] w4 (rds_nil w4).1 (rds_nil w4).1)
    clear c5
    go_wp2_with (go_at_call 26; refine SI.out.mono ?_; rintro e w5 ⟨rfl, hb5⟩; have HB5 := hidIt hb5; clear hb5; (try dsimp only))
    go_ret
    exact ⟨rfl, ext_trans (ext_trans HB13.out HB4.out) HB5.out⟩
  · rw [hgb] at GE RG
    clear hgb
    go_enter Try.func29, Try.ntmps29
    go_upto_region 2 with (go_at_call 20; refine GE.out.mono ?_; rintro e w2 ⟨he, hb2⟩; obtain ⟨u, he2, hu⟩ : ∃ u, e = .returned (.tuple #[.agg #[.int .i64 y.k, u], .int .i64 er]) ∧ OwnI w2 w.heap.size u y.t := he; subst he2; obtain ⟨au, nu, cu, eu⟩ := hu.form; subst eu; have HU := hidIt hu; have HB2 := hidIt hb2; clear hb2 hu; (try dsimp only))
    generalize hw3 : World.alloc _ _ = w3
    have HB3 : Hid (Below w2.heap.size w2 w3) := by unfold Hid; rw [← hw3]; exact ext_alloc (Below.refl _ _) _
    have HK3 : Hid (w3.heap[w2.heap.size]? = some (.cells #[.int .i64 y.k, .slice au nu cu] 31 (0, 0))) := by unfold Hid; rw [← hw3]; exact heap_alloc_new _ _
    clear hw3 c1
    have HB13 := hidIt (ext_trans HB2.out HB3.out)
    have c5 := (HW.out.ext HB13.out).cells.2.1 i HI.out
    go_upto_region 3 with (go_at_call 51; refine (RG.out w3 HB13.out).mono ?_; rintro e w4 ⟨he, hb4⟩; obtain ⟨u2, he2, hu2⟩ : ∃ u, e = .returned (.tuple #[.int .i64 y.k, u, .int .i64 er]) ∧ RdS w4 u y.t := he; subst he2; obtain ⟨au2, cu2, eu2, _⟩ := hu2.len; subst eu2; have HU2 := hidIt hu2; have HB4 := hidIt hb4; clear hb4 hu2; (try dsimp only))
    obtain ⟨_, e0, e1, _⟩ := cells2 ((HB4.out.block _ (Array.getElem?_eq_some_iff.1 HK3.out).1).trans HK3.out)
    have SI := hidIt (sameInts_any _ _ y.t w4 ((HU.out.ext HB3.out).ext HB4.out).rds.1 HU2.out.1)
    clear c5
    go_wp2_with (go_at_call 26; refine SI.out.mono ?_; rintro e w5 ⟨rfl, hb5⟩; have HB5 := hidIt hb5; clear hb5; (try dsimp only))
    go_ret
    exact ⟨rfl, ext_trans (ext_trans HB13.out HB4.out) HB5.out⟩
end Go.Proofs.Ytmldfjhfgaggpaa
