/- order. -/
import Derived.Test.YtipnifenahhkoaaDoorFBsl
namespace Go.Proofs.YtipnifenahhkoaaDoor
open Go.RowKit

set_option maxRecDepth 100000 in
set_option maxHeartbeats 8000000 in
theorem order_any {w : World} {b : Nat} {sa : Option Addr} {sc : Nat} {rep : List Int} {p : Nat} {la : Option Addr} {lc : Nat} {line mt : List Int} {base : Nat} (h : Fl w b sa sc rep p la lc line mt) (ho : Old base b sa la) (hi : In64 rep) (hp : p < rep.length) :
    Calls Tryd.prog 20 #[.pointer (some ⟨b, 0, none⟩)] w fun e w' => BkR (ste line mt rep p) w base b sa sc rep la lc line mt e w' := by
  have HO := hidIt ho
  have HI := hidIt hi
  have HP := hidIt hp
  obtain ⟨w0, hw0⟩ : ∃ w0, w0 = w.alloc (.cells #[.slice none 0 0, .int .i64 0] 51) := ⟨_, rfl⟩
  have hb0 : Below w.heap.size w w0 := by rw [hw0]; exact ext_alloc (Below.refl _ _) _
  have R0 : Hid (Rp w w.heap.size b sa sc rep p la lc line mt w0) := ⟨h.ext hb0, by rw [hw0]; exact heap_alloc_new _ _, grown_of hb0 _, Nat.le_refl _⟩
  have HBG : Hid (b ≠ w.heap.size) := by have := h.lt; unfold Hid; omega
  have HGB : Hid (base ≤ w.heap.size) := by have := h.lt; have := ho.b; unfold Hid; omega
  have HR : Hid (∀ e w', BkR (ste line mt rep p) w base b sa sc rep la lc line mt e w' → BkR (ste line mt rep p) w base b sa sc rep la lc line mt e w') := fun _ _ h => h
  clear h ho hi hb0 hp
  obtain ⟨x, hx⟩ : ∃ x, x = rep[p]?.getD 0 := ⟨_, rfl⟩
  have HX := hidIt hx
  clear hx
  by_cases h1 : x = 38
  · have h0 : ste line mt rep p = some (⟨tak line mt 0, 0⟩, p + 1) := by unfold ste; rw [← HX.out, if_pos h1]
    rw [h0] at HR ⊢
    have SK1 : Hid (∀ y, Rp w w.heap.size b sa sc rep p la lc line mt y → Calls Tryd.prog 25 #[.pointer (some ⟨b, 0, none⟩), .slice (some ⟨y.heap.size, 0, none⟩) 1 1] (y.alloc (.cells #[.int .i64 38] 3)) fun e w' => e = .returned (.bool true) ∧ Rp w w.heap.size b sa sc rep (p + 1) la lc line mt w') := fun y ry => by
      have ry1 := ry.ext (ext_alloc (Below.refl _ _) (.cells #[.int .i64 38] 3))
      have := skip_any ry1.fl HO.out.apt y.heap.size 38 (lit0 y 38)
      rw [show isN rep p 38 = true from by unfold isN; rw [decide_eq_true HP.out, ← HX.out]; simp [h1]] at this
      refine this.mono ?_
      rintro e w' ⟨rfl, m1, m2⟩
      exact ⟨rfl, ry1.step HBG.out m1 m2⟩
    clear h0 h1
    go_enter Tryd.func20, Tryd.ntmps20
    go_upto_region 1 with fail
    rw [← hw0]
    clear hw0
    go_wp2_with (first | (go_at_call 25; refine (SK1.out _ R0.out).mono ?_; rintro e w1 ⟨rfl, r1⟩; (try dsimp only); have R1 := hidIt r1; clear r1 SK1) | (go_at_call 26; refine (taken_any R1.out.fl base HO.out.l (by have := R1.out.gr.size; have := HGB.out; omega) 0 (by omega)).mono ?_; rintro e y3 ⟨v, rfl, ⟨ga, gc, rfl, gv⟩, hb⟩; (try dsimp only); have R9 := hidIt (R1.out.ext hb); have GV := hidIt gv; clear gv hb; obtain ⟨z0, z1, zf, _, _⟩ := R9.out.cells))
    have FI := hidIt (R9.out.fin HO.out (Ne.symm HBG.out) HGB.out ga gc (⟨tak line mt 0, 0⟩) GV.out)
    obtain ⟨o0, o1, o2, o3⟩ := FI.out
    generalize (y3.setCell ⟨w.heap.size, 0, none⟩ (.slice ga (tak line mt 0).length gc)).setCell ⟨w.heap.size, 1, none⟩ (.int .i64 0) = YY at *
    refine bodyPost_ret (v := .agg #[.slice ga (tak line mt 0).length gc, .int .i64 0]) (by simp [results, Tryd.results20, go_sem, o0, o1]) rfl (HR.out _ _ ⟨_, rfl, o2, o3⟩)
  by_cases h2 : x = 92
  · have h0 : ste line mt rep p = bsl line mt rep (p + 1) := by unfold ste; rw [← HX.out, if_neg h1, if_pos h2]
    rw [h0] at HR ⊢
    have SK1 : Hid (∀ y, Rp w w.heap.size b sa sc rep p la lc line mt y → Calls Tryd.prog 25 #[.pointer (some ⟨b, 0, none⟩), .slice (some ⟨y.heap.size, 0, none⟩) 1 1] (y.alloc (.cells #[.int .i64 38] 3)) fun e w' => e = .returned (.bool false) ∧ Rp w w.heap.size b sa sc rep (p) la lc line mt w') := fun y ry => by
      have ry1 := ry.ext (ext_alloc (Below.refl _ _) (.cells #[.int .i64 38] 3))
      have := skip_any ry1.fl HO.out.apt y.heap.size 38 (lit0 y 38)
      rw [show isN rep p 38 = false from by unfold isN; rw [decide_eq_true HP.out, ← HX.out]; simp [h1]] at this
      refine this.mono ?_
      rintro e w' ⟨rfl, m1, m2⟩
      exact ⟨rfl, ry1.step HBG.out m1 m2⟩
    have SK2 : Hid (∀ y, Rp w w.heap.size b sa sc rep p la lc line mt y → Calls Tryd.prog 25 #[.pointer (some ⟨b, 0, none⟩), .slice (some ⟨y.heap.size, 0, none⟩) 1 1] (y.alloc (.cells #[.int .i64 92] 3)) fun e w' => e = .returned (.bool true) ∧ Rp w w.heap.size b sa sc rep (p + 1) la lc line mt w') := fun y ry => by
      have ry1 := ry.ext (ext_alloc (Below.refl _ _) (.cells #[.int .i64 92] 3))
      have := skip_any ry1.fl HO.out.apt y.heap.size 92 (lit0 y 92)
      rw [show isN rep p 92 = true from by unfold isN; rw [decide_eq_true HP.out, ← HX.out]; simp [h2]] at this
      refine this.mono ?_
      rintro e w' ⟨rfl, m1, m2⟩
      exact ⟨rfl, ry1.step HBG.out m1 m2⟩
    clear h0 h1 h2
    have HBK : Hid (∀ y, Fl y b sa sc rep (p + 1) la lc line mt → Calls Tryd.prog 27 #[.pointer (some ⟨b, 0, none⟩)] y fun e w' => BkR (bsl line mt rep (p + 1)) y base b sa sc rep la lc line mt e w') := fun y fy => backslash_any fy HO.out HI.out
    cases hs : bsl line mt rep (p + 1) with
    | none =>
      rw [hs] at HR HBK
      clear hs
      go_enter Tryd.func20, Tryd.ntmps20
      go_upto_region 1 with fail
      rw [← hw0]
      clear hw0
      go_wp2_with (first | (go_at_call 25; refine (SK1.out _ R0.out).mono ?_; rintro e w1 ⟨rfl, r1⟩; (try dsimp only); have R1 := hidIt r1; clear r1 SK1) | (go_at_call 25; refine (SK2.out _ R1.out).mono ?_; rintro e w2 ⟨rfl, r2⟩; (try dsimp only); have R2 := hidIt r2; clear r2 SK2) | (go_at_call 27; refine (HBK.out _ R2.out.fl).mono ?_; rintro e w3 ⟨rfl, g3⟩; (try dsimp only); have G3 := hidIt g3; clear g3))
      exact ⟨rfl, HR.out _ _ ⟨rfl, grown_trans R2.out.gr G3.out⟩⟩
    | some oq =>
      obtain ⟨o, q⟩ := oq
      rw [hs] at HR HBK
      clear hs
      go_enter Tryd.func20, Tryd.ntmps20
      go_upto_region 1 with fail
      rw [← hw0]
      clear hw0
      go_wp2_with (first | (go_at_call 25; refine (SK1.out _ R0.out).mono ?_; rintro e w1 ⟨rfl, r1⟩; (try dsimp only); have R1 := hidIt r1; clear r1 SK1) | (go_at_call 25; refine (SK2.out _ R1.out).mono ?_; rintro e w2 ⟨rfl, r2⟩; (try dsimp only); have R2 := hidIt r2; clear r2 SK2) | (go_at_call 27; refine (HBK.out _ R2.out.fl).mono ?_; rintro e y3 ⟨v, rfl, ⟨ga, gc, rfl, gv⟩, f3, g3⟩; (try dsimp only); have R9 := hidIt (R2.out.step HBG.out f3 g3); have GV := hidIt gv; clear gv f3 g3; obtain ⟨z0, z1, zf, _, _⟩ := R9.out.cells))
      have FI := hidIt (R9.out.fin HO.out (Ne.symm HBG.out) HGB.out ga gc o GV.out)
      obtain ⟨o0, o1, o2, o3⟩ := FI.out
      try simp only [List.length_cons, List.length_nil, Nat.zero_add] at o0 o1 o2 o3
      generalize (y3.setCell ⟨w.heap.size, 0, none⟩ (.slice ga o.gives.length gc)).setCell ⟨w.heap.size, 1, none⟩ (.int .i64 o.letter) = YY at *
      refine bodyPost_ret (v := .agg #[.slice ga o.gives.length gc, .int .i64 o.letter]) (by simp [results, Tryd.results20, go_sem, o0, o1]) rfl (HR.out _ _ ⟨_, rfl, o2, o3⟩)
  · have h0 : ste line mt rep p = some (⟨[x], 0⟩, p + 1) := by unfold ste; rw [← HX.out, if_neg h1, if_neg h2]
    rw [h0] at HR ⊢
    have SK1 : Hid (∀ y, Rp w w.heap.size b sa sc rep p la lc line mt y → Calls Tryd.prog 25 #[.pointer (some ⟨b, 0, none⟩), .slice (some ⟨y.heap.size, 0, none⟩) 1 1] (y.alloc (.cells #[.int .i64 38] 3)) fun e w' => e = .returned (.bool false) ∧ Rp w w.heap.size b sa sc rep (p) la lc line mt w') := fun y ry => by
      have ry1 := ry.ext (ext_alloc (Below.refl _ _) (.cells #[.int .i64 38] 3))
      have := skip_any ry1.fl HO.out.apt y.heap.size 38 (lit0 y 38)
      rw [show isN rep p 38 = false from by unfold isN; rw [decide_eq_true HP.out, ← HX.out]; simp [h1]] at this
      refine this.mono ?_
      rintro e w' ⟨rfl, m1, m2⟩
      exact ⟨rfl, ry1.step HBG.out m1 m2⟩
    have SK2 : Hid (∀ y, Rp w w.heap.size b sa sc rep p la lc line mt y → Calls Tryd.prog 25 #[.pointer (some ⟨b, 0, none⟩), .slice (some ⟨y.heap.size, 0, none⟩) 1 1] (y.alloc (.cells #[.int .i64 92] 3)) fun e w' => e = .returned (.bool false) ∧ Rp w w.heap.size b sa sc rep (p) la lc line mt w') := fun y ry => by
      have ry1 := ry.ext (ext_alloc (Below.refl _ _) (.cells #[.int .i64 92] 3))
      have := skip_any ry1.fl HO.out.apt y.heap.size 92 (lit0 y 92)
      rw [show isN rep p 92 = false from by unfold isN; rw [decide_eq_true HP.out, ← HX.out]; simp [h2]] at this
      refine this.mono ?_
      rintro e w' ⟨rfl, m1, m2⟩
      exact ⟨rfl, ry1.step HBG.out m1 m2⟩
    clear h0 h1 h2
    have HTA : Hid (∀ y, Fl y b sa sc rep p la lc line mt → Calls Tryd.prog 29 #[.pointer (some ⟨b, 0, none⟩)] y fun e w' => e = .returned (.int .i64 x) ∧ MvR y b sa sc rep (p + 1) la lc line mt w') := fun y fy => by
      have := take_ok fy HO.out.apt HP.out
      rw [← HX.out] at this
      exact this
    go_enter Tryd.func20, Tryd.ntmps20
    go_upto_region 1 with fail
    rw [← hw0]
    clear hw0
    go_wp2_with (first | (go_at_call 25; refine (SK1.out _ R0.out).mono ?_; rintro e w1 ⟨rfl, r1⟩; (try dsimp only); have R1 := hidIt r1; clear r1 SK1) | (go_at_call 25; refine (SK2.out _ R1.out).mono ?_; rintro e w2 ⟨rfl, r2⟩; (try dsimp only); have R2 := hidIt r2; clear r2 SK2) | (go_at_call 29; refine (HTA.out _ R2.out.fl).mono ?_; rintro e w3 ⟨rfl, f3, g3⟩; (try dsimp only); have R3 := hidIt (R2.out.step HBG.out f3 g3); clear f3 g3) | (go_at_call 28; refine (give_any x _ base).mono ?_; rintro e y3 ⟨v, rfl, ⟨ga, gc, rfl, gv⟩, hb⟩; (try dsimp only); have R9 := hidIt (R3.out.ext hb); have GV := hidIt gv; clear gv hb; obtain ⟨z0, z1, zf, _, _⟩ := R9.out.cells))
    have FI := hidIt (R9.out.fin HO.out (Ne.symm HBG.out) HGB.out ga gc (⟨[x], 0⟩) GV.out)
    obtain ⟨o0, o1, o2, o3⟩ := FI.out
    try simp only [List.length_cons, List.length_nil, Nat.zero_add] at o0 o1 o2 o3
    generalize (y3.setCell ⟨w.heap.size, 0, none⟩ (.slice ga 1 gc)).setCell ⟨w.heap.size, 1, none⟩ (.int .i64 0) = YY at *
    refine bodyPost_ret (v := .agg #[.slice ga 1 gc, .int .i64 0]) (by simp [results, Tryd.results20, go_sem, o0, o1]) rfl (HR.out _ _ ⟨_, rfl, o2, o3⟩)
end Go.Proofs.YtipnifenahhkoaaDoor
