/- backslash, order. -/
import Derived.Test.YtipnifenahhkoaaDoorFOrd
namespace Go.Proofs.YtipnifenahhkoaaDoor
open Go.RowKit

/-- What is read is older than base, the filler newer. -/
structure Old (base b : Nat) (sa la : Option Addr) : Prop where
  s : ∀ k o, sa = some ⟨k, o, none⟩ → k < base
  l : ∀ k o, la = some ⟨k, o, none⟩ → k < base
  b : base ≤ b
theorem Old.apt {base b : Nat} {sa la : Option Addr} (h : Old base b sa la) : Apt b sa la := ⟨fun k o e => by have := h.s k o e; have := h.b; omega, fun k o e => by have := h.l k o e; have := h.b; omega⟩
theorem Fl.other {w : World} {b : Nat} {sa : Option Addr} {sc : Nat} {rep : List Int} {p : Nat} {la : Option Addr} {lc : Nat} {line mt : List Int} {w' : World} {base g : Nat} (h : Fl w b sa sc rep p la lc line mt) (ho : Old base b sa la) (hg : w.grownBy w' (some g)) (hn : g ≠ b) (hb : base ≤ g) : Fl w' b sa sc rep p la lc line mt :=
  ⟨(hg.block b h.lt (fun e => hn (Option.some.inj e).symm)).trans h.blk, rd_other h.rs hg (fun k o e e2 => by have := ho.s k o e; omega), rd_other h.rl hg (fun k o e e2 => by have := ho.l k o e; omega), h.ml, h.pl, h.rl2⟩
theorem grown_new {a b c : World} {k g : Nat} (h : a.grownBy b (some k)) (h' : b.grownBy c (some g)) (hg : a.heap.size ≤ g) : a.grownBy c (some k) :=
  ⟨h'.os.trans h.os, h'.tape.trans h.tape, h'.output.trans h.output, Nat.le_trans h.size h'.size, fun j hj hk => (h'.block j (Nat.lt_of_lt_of_le hj h.size) (fun e => by cases e; omega)).trans (h.block j hj hk)⟩
/-- The place of a result beside a filler. -/
structure Rp (w : World) (g b : Nat) (sa : Option Addr) (sc : Nat) (rep : List Int) (q : Nat) (la : Option Addr) (lc : Nat) (line mt : List Int) (y : World) : Prop where
  fl : Fl y b sa sc rep q la lc line mt
  rs : y.heap[g]? = some (.cells #[.slice none 0 0, .int .i64 0] 51 (0, 0))
  gr : w.grownBy y (some b)
  gw : w.heap.size ≤ g
section
variable {w y y' : World} {g b : Nat} {sa : Option Addr} {sc : Nat} {rep : List Int} {p : Nat} {la : Option Addr} {lc : Nat} {line mt : List Int} {base : Nat}
theorem Rp.step (h : Rp w g b sa sc rep p la lc line mt y) (hb : b ≠ g) {q : Nat} (hf : Fl y' b sa sc rep q la lc line mt) (hg : y.grownBy y' (some b)) : Rp w g b sa sc rep q la lc line mt y' :=
  ⟨hf, (hg.block g (Array.getElem?_eq_some_iff.1 h.rs).1 (fun e => hb (Option.some.inj e).symm)).trans h.rs, grown_trans h.gr hg, h.gw⟩
theorem Rp.ext (h : Rp w g b sa sc rep p la lc line mt y) (hb : Below y.heap.size y y') : Rp w g b sa sc rep p la lc line mt y' :=
  ⟨h.fl.ext hb, (hb.block g (Array.getElem?_eq_some_iff.1 h.rs).1).trans h.rs, ⟨hb.os.trans h.gr.os, hb.tape.trans h.gr.tape, hb.output.trans h.gr.output, Nat.le_trans h.gr.size hb.size, fun j hj hk => (hb.block j (Nat.lt_of_lt_of_le hj h.gr.size)).trans (h.gr.block j hj hk)⟩, h.gw⟩
/-- The order is laid into its place. -/
theorem Rp.fin (h : Rp w g b sa sc rep p la lc line mt y) (ho : Old base b sa la) (hn : g ≠ b) (hbg : base ≤ g) (ga : Option Addr) (gc : Nat) (o : Od) (hv : Gv y base ga gc o.gives) :
    ((y.setCell ⟨g, 0, none⟩ (.slice ga o.gives.length gc)).setCell ⟨g, 1, none⟩ (.int .i64 o.letter)).cell? ⟨g, 0, none⟩ = some (.slice ga o.gives.length gc) ∧ ((y.setCell ⟨g, 0, none⟩ (.slice ga o.gives.length gc)).setCell ⟨g, 1, none⟩ (.int .i64 o.letter)).cell? ⟨g, 1, none⟩ = some (.int .i64 o.letter) ∧ OdV ((y.setCell ⟨g, 0, none⟩ (.slice ga o.gives.length gc)).setCell ⟨g, 1, none⟩ (.int .i64 o.letter)) base (.agg #[.slice ga o.gives.length gc, .int .i64 o.letter]) o ∧ MvR w b sa sc rep p la lc line mt ((y.setCell ⟨g, 0, none⟩ (.slice ga o.gives.length gc)).setCell ⟨g, 1, none⟩ (.int .i64 o.letter)) := by
  obtain ⟨p1, p2⟩ := put2 h.rs (.slice ga o.gives.length gc) (.int .i64 o.letter)
  obtain ⟨c0, c1⟩ := cells2 p1
  exact ⟨c0, c1, ⟨ga, gc, rfl, hv.grown p2 (fun k e => by cases e; exact ⟨hbg, not_int h.rs (by decide)⟩)⟩, h.fl.other ho p2 hn hbg, grown_new h.gr p2 h.gw⟩
theorem Rp.cells (h : Rp w g b sa sc rep p la lc line mt y) : y.cell? ⟨g, 0, none⟩ = some (.slice none 0 0) ∧ y.cell? ⟨g, 1, none⟩ = some (.int .i64 0) ∧ (∀ i, y.frozen? ⟨g, i, none⟩ = false) ∧ y.cell? ⟨b, 1, none⟩ = some (.int .i64 p) ∧ ∀ i, y.frozen? ⟨b, i, none⟩ = false := by
  obtain ⟨c0, c1⟩ := cells2 h.rs
  obtain ⟨_, d1, _, fz⟩ := h.fl.cells
  exact ⟨c0, c1, fun i => by simp [World.frozen?, h.rs], d1, fz⟩
end
/-- What backslash and order leave. -/
def BkR (x : Option (Od × Nat)) (w : World) (base b : Nat) (sa : Option Addr) (sc : Nat) (rep : List Int) (la : Option Addr) (lc : Nat) (line mt : List Int) (e : Ending) (w' : World) : Prop :=
  match x with
  | none => e = .panicked gvP ∧ w.grownBy w' (some b)
  | some (o, q) => ∃ v, e = .returned v ∧ OdV w' base v o ∧ MvR w b sa sc rep q la lc line mt w'

set_option maxRecDepth 100000 in
set_option maxHeartbeats 8000000 in
theorem backslash_any {w : World} {b : Nat} {sa : Option Addr} {sc : Nat} {rep : List Int} {p : Nat} {la : Option Addr} {lc : Nat} {line mt : List Int} {base : Nat} (h : Fl w b sa sc rep p la lc line mt) (ho : Old base b sa la) (hi : In64 rep) :
    Calls Tryd.prog 27 #[.pointer (some ⟨b, 0, none⟩)] w fun e w' => BkR (bsl line mt rep p) w base b sa sc rep la lc line mt e w' := by
  have HO := hidIt ho
  have HI := hidIt hi
  have hpb : p ≤ 256 := by have := h.rl2; have := h.pl; omega
  have HPL : Hid (p ≤ rep.length) := h.pl
  obtain ⟨w0, hw0⟩ : ∃ w0, w0 = w.alloc (.cells #[.slice none 0 0, .int .i64 0] 51) := ⟨_, rfl⟩
  have hb0 : Below w.heap.size w w0 := by rw [hw0]; exact ext_alloc (Below.refl _ _) _
  have R0 : Hid (Rp w w.heap.size b sa sc rep p la lc line mt w0) := ⟨h.ext hb0, by rw [hw0]; exact heap_alloc_new _ _, grown_of hb0 _, Nat.le_refl _⟩
  have HBG : Hid (b ≠ w.heap.size) := by have := h.lt; unfold Hid; omega
  have HGB : Hid (base ≤ w.heap.size) := by have := h.lt; have := ho.b; unfold Hid; omega
  have HR : Hid (∀ e w', BkR (bsl line mt rep p) w base b sa sc rep la lc line mt e w' → BkR (bsl line mt rep p) w base b sa sc rep la lc line mt e w') := fun _ _ h => h
  clear h ho hi hb0
  by_cases hp : rep.length ≤ p
  · have h0 : bsl line mt rep p = none := by unfold bsl; rw [if_pos hp]
    rw [h0] at HR ⊢
    have LKK := hidIt (look_no R0.out.fl (by have := HPL.out; omega))
    clear hp h0
    go_enter Tryd.func27, Tryd.ntmps27
    go_upto_region 1 with fail
    rw [← hw0]
    clear hw0
    go_wp2_with (go_at_call 36; refine LKK.out.mono ?_; rintro e w1 ⟨rfl, hb1⟩; (try dsimp only); have R1 := hidIt (R0.out.ext hb1); clear hb1)
    exact ⟨rfl, HR.out _ _ ⟨rfl, R1.out.gr⟩⟩
  have HP : Hid (p + 1 ≤ rep.length) := by unfold Hid; omega
  have LKK := hidIt (look_ok R0.out.fl (by omega))
  have hx64 := HI.out p
  obtain ⟨x, hx⟩ : ∃ x, x = rep[p]?.getD 0 := ⟨_, rfl⟩
  rw [← hx] at LKK hx64
  have HX := hidIt hx
  clear hx
  by_cases h1 : x = 110 ∨ x = 114
  · have h0 : bsl line mt rep p = some (⟨[10], 0⟩, p + 1) := by unfold bsl; rw [if_neg hp, ← HX.out, if_pos h1]
    rw [h0] at HR ⊢
    clear hp h0
    rcases h1 with rfl | rfl
    all_goals
      go_enter Tryd.func27, Tryd.ntmps27
      go_upto_region 1 with fail
      rw [← hw0]
      clear hw0
      go_upto_region 11 with (go_at_call 36; refine LKK.out.mono ?_; rintro e w1 ⟨rfl, hb1⟩; (try dsimp only); have R1 := hidIt (R0.out.ext hb1); clear hb1)
      obtain ⟨_, _, _, d1, df⟩ := R1.out.cells
      have s1 : IntKind.i64.wrap ((p : Int) + 1) = ((p + 1 : Nat) : Int) := by rw [IntKind.wrap_i64]; omega
      have MV := hidIt (R1.out.fl.move HO.out.apt (p + 1) (by have := HP.out; omega))
      go_upto_region 12 with fail
      have ep : ((p : Int) + 1) = ((p + 1 : Nat) : Int) := by omega
      try rw [ep]
      have R2 := hidIt (R1.out.step HBG.out MV.out.1 MV.out.2)
      generalize w1.setCell ⟨b, 1, none⟩ (.int .i64 ((p + 1 : Nat) : Int)) = y2 at *
      clear MV d1 df s1 ep
      go_wp2_with (go_at_call 28; refine (give_any 10 _ base).mono ?_; rintro e y3 ⟨v, rfl, ⟨ga, gc, rfl, gv⟩, hb⟩; (try dsimp only); have R9 := hidIt (R2.out.ext hb); have GV := hidIt gv; clear gv hb; obtain ⟨z0, z1, zf, _, _⟩ := R9.out.cells)
      have FI := hidIt (R9.out.fin HO.out (Ne.symm HBG.out) HGB.out ga gc (⟨[10], 0⟩) GV.out)
      obtain ⟨o0, o1, o2, o3⟩ := FI.out
      try simp only [List.length_cons, List.length_nil, Nat.zero_add] at o0 o1 o2 o3
      generalize (y3.setCell ⟨w.heap.size, 0, none⟩ (.slice ga 1 gc)).setCell ⟨w.heap.size, 1, none⟩ (.int .i64 0) = YY at *
      refine bodyPost_ret (v := .agg #[.slice ga 1 gc, .int .i64 0]) (by simp [results, Tryd.results27, go_sem, o0, o1]) rfl (HR.out _ _ ⟨_, rfl, o2, o3⟩)
  by_cases h2 : x = 117 ∨ x = 108 ∨ x = 85 ∨ x = 76 ∨ x = 69
  · have h0 : bsl line mt rep p = some (⟨[], x⟩, p + 1) := by unfold bsl; rw [if_neg hp, ← HX.out, if_neg h1, if_pos h2]
    rw [h0] at HR ⊢
    clear hp h0 h1
    rcases h2 with rfl | rfl | rfl | rfl | rfl
    · skip
      go_enter Tryd.func27, Tryd.ntmps27
      go_upto_region 1 with fail
      rw [← hw0]
      clear hw0
      go_upto_region 18 with (go_at_call 36; refine LKK.out.mono ?_; rintro e w1 ⟨rfl, hb1⟩; (try dsimp only); have R1 := hidIt (R0.out.ext hb1); clear hb1)
      obtain ⟨_, _, _, d1, df⟩ := R1.out.cells
      have s1 : IntKind.i64.wrap ((p : Int) + 1) = ((p + 1 : Nat) : Int) := by rw [IntKind.wrap_i64]; omega
      have MV := hidIt (R1.out.fl.move HO.out.apt (p + 1) (by have := HP.out; omega))
      go_upto_region 19 with fail
      have ep : ((p : Int) + 1) = ((p + 1 : Nat) : Int) := by omega
      try rw [ep]
      have R2 := hidIt (R1.out.step HBG.out MV.out.1 MV.out.2)
      generalize w1.setCell ⟨b, 1, none⟩ (.int .i64 ((p + 1 : Nat) : Int)) = y2 at *
      clear MV d1 df s1 ep
      obtain ⟨z0, z1, zf, _, _⟩ := R2.out.cells
      have FI := hidIt (R2.out.fin HO.out (Ne.symm HBG.out) HGB.out none 0 (Od.mk [] 117) ⟨⟨none, 0, rfl, Nat.le_refl _, by simp [maxLen], fun h => absurd rfl h⟩, fun k off e => by cases e⟩)
      go_wp2_with fail
      obtain ⟨o0, o1, o2, o3⟩ := FI.out
      try simp only [List.length_nil] at o0 o1 o2 o3
      generalize (y2.setCell ⟨w.heap.size, 0, none⟩ (.slice none 0 0)).setCell ⟨w.heap.size, 1, none⟩ (.int .i64 117) = YY at *
      refine bodyPost_ret (v := .agg #[.slice none 0 0, .int .i64 117]) (by simp [results, Tryd.results27, go_sem, o0, o1]) rfl (HR.out _ _ ⟨_, rfl, o2, o3⟩)
    · skip
      go_enter Tryd.func27, Tryd.ntmps27
      go_upto_region 1 with fail
      rw [← hw0]
      clear hw0
      go_upto_region 18 with (go_at_call 36; refine LKK.out.mono ?_; rintro e w1 ⟨rfl, hb1⟩; (try dsimp only); have R1 := hidIt (R0.out.ext hb1); clear hb1)
      obtain ⟨_, _, _, d1, df⟩ := R1.out.cells
      have s1 : IntKind.i64.wrap ((p : Int) + 1) = ((p + 1 : Nat) : Int) := by rw [IntKind.wrap_i64]; omega
      have MV := hidIt (R1.out.fl.move HO.out.apt (p + 1) (by have := HP.out; omega))
      go_upto_region 19 with fail
      have ep : ((p : Int) + 1) = ((p + 1 : Nat) : Int) := by omega
      try rw [ep]
      have R2 := hidIt (R1.out.step HBG.out MV.out.1 MV.out.2)
      generalize w1.setCell ⟨b, 1, none⟩ (.int .i64 ((p + 1 : Nat) : Int)) = y2 at *
      clear MV d1 df s1 ep
      obtain ⟨z0, z1, zf, _, _⟩ := R2.out.cells
      have FI := hidIt (R2.out.fin HO.out (Ne.symm HBG.out) HGB.out none 0 (Od.mk [] 108) ⟨⟨none, 0, rfl, Nat.le_refl _, by simp [maxLen], fun h => absurd rfl h⟩, fun k off e => by cases e⟩)
      go_wp2_with fail
      obtain ⟨o0, o1, o2, o3⟩ := FI.out
      try simp only [List.length_nil] at o0 o1 o2 o3
      generalize (y2.setCell ⟨w.heap.size, 0, none⟩ (.slice none 0 0)).setCell ⟨w.heap.size, 1, none⟩ (.int .i64 108) = YY at *
      refine bodyPost_ret (v := .agg #[.slice none 0 0, .int .i64 108]) (by simp [results, Tryd.results27, go_sem, o0, o1]) rfl (HR.out _ _ ⟨_, rfl, o2, o3⟩)
    · skip
      go_enter Tryd.func27, Tryd.ntmps27
      go_upto_region 1 with fail
      rw [← hw0]
      clear hw0
      go_upto_region 18 with (go_at_call 36; refine LKK.out.mono ?_; rintro e w1 ⟨rfl, hb1⟩; (try dsimp only); have R1 := hidIt (R0.out.ext hb1); clear hb1)
      obtain ⟨_, _, _, d1, df⟩ := R1.out.cells
      have s1 : IntKind.i64.wrap ((p : Int) + 1) = ((p + 1 : Nat) : Int) := by rw [IntKind.wrap_i64]; omega
      have MV := hidIt (R1.out.fl.move HO.out.apt (p + 1) (by have := HP.out; omega))
      go_upto_region 19 with fail
      have ep : ((p : Int) + 1) = ((p + 1 : Nat) : Int) := by omega
      try rw [ep]
      have R2 := hidIt (R1.out.step HBG.out MV.out.1 MV.out.2)
      generalize w1.setCell ⟨b, 1, none⟩ (.int .i64 ((p + 1 : Nat) : Int)) = y2 at *
      clear MV d1 df s1 ep
      obtain ⟨z0, z1, zf, _, _⟩ := R2.out.cells
      have FI := hidIt (R2.out.fin HO.out (Ne.symm HBG.out) HGB.out none 0 (Od.mk [] 85) ⟨⟨none, 0, rfl, Nat.le_refl _, by simp [maxLen], fun h => absurd rfl h⟩, fun k off e => by cases e⟩)
      go_wp2_with fail
      obtain ⟨o0, o1, o2, o3⟩ := FI.out
      try simp only [List.length_nil] at o0 o1 o2 o3
      generalize (y2.setCell ⟨w.heap.size, 0, none⟩ (.slice none 0 0)).setCell ⟨w.heap.size, 1, none⟩ (.int .i64 85) = YY at *
      refine bodyPost_ret (v := .agg #[.slice none 0 0, .int .i64 85]) (by simp [results, Tryd.results27, go_sem, o0, o1]) rfl (HR.out _ _ ⟨_, rfl, o2, o3⟩)
    · skip
      go_enter Tryd.func27, Tryd.ntmps27
      go_upto_region 1 with fail
      rw [← hw0]
      clear hw0
      go_upto_region 18 with (go_at_call 36; refine LKK.out.mono ?_; rintro e w1 ⟨rfl, hb1⟩; (try dsimp only); have R1 := hidIt (R0.out.ext hb1); clear hb1)
      obtain ⟨_, _, _, d1, df⟩ := R1.out.cells
      have s1 : IntKind.i64.wrap ((p : Int) + 1) = ((p + 1 : Nat) : Int) := by rw [IntKind.wrap_i64]; omega
      have MV := hidIt (R1.out.fl.move HO.out.apt (p + 1) (by have := HP.out; omega))
      go_upto_region 19 with fail
      have ep : ((p : Int) + 1) = ((p + 1 : Nat) : Int) := by omega
      try rw [ep]
      have R2 := hidIt (R1.out.step HBG.out MV.out.1 MV.out.2)
      generalize w1.setCell ⟨b, 1, none⟩ (.int .i64 ((p + 1 : Nat) : Int)) = y2 at *
      clear MV d1 df s1 ep
      obtain ⟨z0, z1, zf, _, _⟩ := R2.out.cells
      have FI := hidIt (R2.out.fin HO.out (Ne.symm HBG.out) HGB.out none 0 (Od.mk [] 76) ⟨⟨none, 0, rfl, Nat.le_refl _, by simp [maxLen], fun h => absurd rfl h⟩, fun k off e => by cases e⟩)
      go_wp2_with fail
      obtain ⟨o0, o1, o2, o3⟩ := FI.out
      try simp only [List.length_nil] at o0 o1 o2 o3
      generalize (y2.setCell ⟨w.heap.size, 0, none⟩ (.slice none 0 0)).setCell ⟨w.heap.size, 1, none⟩ (.int .i64 76) = YY at *
      refine bodyPost_ret (v := .agg #[.slice none 0 0, .int .i64 76]) (by simp [results, Tryd.results27, go_sem, o0, o1]) rfl (HR.out _ _ ⟨_, rfl, o2, o3⟩)
    · skip
      go_enter Tryd.func27, Tryd.ntmps27
      go_upto_region 1 with fail
      rw [← hw0]
      clear hw0
      go_upto_region 18 with (go_at_call 36; refine LKK.out.mono ?_; rintro e w1 ⟨rfl, hb1⟩; (try dsimp only); have R1 := hidIt (R0.out.ext hb1); clear hb1)
      obtain ⟨_, _, _, d1, df⟩ := R1.out.cells
      have s1 : IntKind.i64.wrap ((p : Int) + 1) = ((p + 1 : Nat) : Int) := by rw [IntKind.wrap_i64]; omega
      have MV := hidIt (R1.out.fl.move HO.out.apt (p + 1) (by have := HP.out; omega))
      go_upto_region 19 with fail
      have ep : ((p : Int) + 1) = ((p + 1 : Nat) : Int) := by omega
      try rw [ep]
      have R2 := hidIt (R1.out.step HBG.out MV.out.1 MV.out.2)
      generalize w1.setCell ⟨b, 1, none⟩ (.int .i64 ((p + 1 : Nat) : Int)) = y2 at *
      clear MV d1 df s1 ep
      obtain ⟨z0, z1, zf, _, _⟩ := R2.out.cells
      have FI := hidIt (R2.out.fin HO.out (Ne.symm HBG.out) HGB.out none 0 (Od.mk [] 69) ⟨⟨none, 0, rfl, Nat.le_refl _, by simp [maxLen], fun h => absurd rfl h⟩, fun k off e => by cases e⟩)
      go_wp2_with fail
      obtain ⟨o0, o1, o2, o3⟩ := FI.out
      try simp only [List.length_nil] at o0 o1 o2 o3
      generalize (y2.setCell ⟨w.heap.size, 0, none⟩ (.slice none 0 0)).setCell ⟨w.heap.size, 1, none⟩ (.int .i64 69) = YY at *
      refine bodyPost_ret (v := .agg #[.slice none 0 0, .int .i64 69]) (by simp [results, Tryd.results27, go_sem, o0, o1]) rfl (HR.out _ _ ⟨_, rfl, o2, o3⟩)
  have n1 : (x == 110) = false := by simp; omega
  have n2 : (x == 114) = false := by simp; omega
  have n3 : (x == 117) = false := by simp; omega
  have n4 : (x == 108) = false := by simp; omega
  have n5 : (x == 85) = false := by simp; omega
  have n6 : (x == 76) = false := by simp; omega
  have n7 : (x == 69) = false := by simp; omega
  have ILT : Hid (∀ y, Calls Tryd.prog 37 #[.int .i64 x] y fun e w' => e = .returned (.bool (isL x)) ∧ w' = y) := fun y => isLetter_any x y
  cases hL : isL x with
  | true =>
    have h0 : bsl line mt rep p = (sgn rep p).map (fun x => (⟨[x.1], 0⟩, x.2)) := by unfold bsl; rw [if_neg hp, ← HX.out, if_neg h1, if_neg h2, if_pos hL]
    rw [h0] at HR ⊢
    rw [hL] at ILT
    have HS : Hid (∀ y, Fl y b sa sc rep p la lc line mt → Calls Tryd.prog 38 #[.pointer (some ⟨b, 0, none⟩)] y fun e w' => SgR y b sa sc rep p la lc line mt e w') := fun y fy => sign_any fy HO.out.apt HI.out (by have := HP.out; omega)
    clear hp h0 h1 h2
    have ILA := ILT
    cases hs : sgn rep p with
    | none =>
      rw [hs] at HR
      have HS2 : Hid (∀ y, Fl y b sa sc rep p la lc line mt → Calls Tryd.prog 38 #[.pointer (some ⟨b, 0, none⟩)] y fun e w' => e = .panicked gvP ∧ y.grownBy w' (some b)) := fun y fy => by
        have := HS.out y fy
        unfold SgR at this
        rw [hs] at this
        exact this
      clear hs HS
      go_enter Tryd.func27, Tryd.ntmps27
      go_upto_region 1 with fail
      rw [← hw0]
      clear hw0
      go_wp2_with (first | (go_at_call 36; refine LKK.out.mono ?_; rintro e w1 ⟨rfl, hb1⟩; (try dsimp only); have R1 := hidIt (R0.out.ext hb1); clear hb1) | (go_at_call 37; refine (ILA.out _).mono ?_; rintro e w2 ⟨rfl, h9⟩; obtain rfl := h9.symm; (try dsimp only)) | (go_at_call 38; refine (HS2.out _ R1.out.fl).mono ?_; rintro e w3 ⟨rfl, g3⟩; (try dsimp only); have G3 := hidIt g3; clear g3))
      exact ⟨rfl, HR.out _ _ ⟨rfl, grown_trans R1.out.gr G3.out⟩⟩
    | some xs =>
      obtain ⟨c, q⟩ := xs
      rw [hs] at HR
      have HS2 : Hid (∀ y, Fl y b sa sc rep p la lc line mt → Calls Tryd.prog 38 #[.pointer (some ⟨b, 0, none⟩)] y fun e w' => e = .returned (.int .i64 c) ∧ Fl w' b sa sc rep q la lc line mt ∧ y.grownBy w' (some b)) := fun y fy => by
        have := HS.out y fy
        unfold SgR at this
        rw [hs] at this
        exact this
      clear hs HS
      go_enter Tryd.func27, Tryd.ntmps27
      go_upto_region 1 with fail
      rw [← hw0]
      clear hw0
      go_wp2_with (first | (go_at_call 36; refine LKK.out.mono ?_; rintro e w1 ⟨rfl, hb1⟩; (try dsimp only); have R1 := hidIt (R0.out.ext hb1); clear hb1) | (go_at_call 37; refine (ILA.out _).mono ?_; rintro e w2 ⟨rfl, h9⟩; obtain rfl := h9.symm; (try dsimp only)) | (go_at_call 38; refine (HS2.out _ R1.out.fl).mono ?_; rintro e w3 ⟨rfl, f3, g3⟩; (try dsimp only); have R2 := hidIt (R1.out.step HBG.out f3 g3); clear f3 g3) | (go_at_call 28; refine (give_any c _ base).mono ?_; rintro e y3 ⟨v, rfl, ⟨ga, gc, rfl, gv⟩, hb⟩; (try dsimp only); have R9 := hidIt (R2.out.ext hb); have GV := hidIt gv; clear gv hb; obtain ⟨z0, z1, zf, _, _⟩ := R9.out.cells))
      have FI := hidIt (R9.out.fin HO.out (Ne.symm HBG.out) HGB.out ga gc (⟨[c], 0⟩) GV.out)
      obtain ⟨o0, o1, o2, o3⟩ := FI.out
      try simp only [List.length_cons, List.length_nil, Nat.zero_add] at o0 o1 o2 o3
      generalize (y3.setCell ⟨w.heap.size, 0, none⟩ (.slice ga 1 gc)).setCell ⟨w.heap.size, 1, none⟩ (.int .i64 0) = YY at *
      refine bodyPost_ret (v := .agg #[.slice ga 1 gc, .int .i64 0]) (by simp [results, Tryd.results27, go_sem, o0, o1]) rfl (HR.out _ _ ⟨_, rfl, o2, o3⟩)
  | false =>
    have hLf : ¬ isL x = true := by rw [hL]; simp
    rw [hL] at ILT
    have ILA := ILT
    have IDT : Hid (∀ y, Calls Tryd.prog 39 #[.int .i64 x] y fun e w' => e = .returned (.bool (isD x)) ∧ w' = y) := fun y => isDigit_any x y
    cases hD : isD x with
    | true =>
      have h0 : bsl line mt rep p = some (⟨tak line mt (x - 48).toNat, 0⟩, p + 1) := by unfold bsl; rw [if_neg hp, ← HX.out, if_neg h1, if_neg h2, if_neg hLf, if_pos hD]
      have hx9 : 48 ≤ x ∧ x ≤ 57 := by unfold isD at hD; simpa using hD
      obtain ⟨k, hk⟩ : ∃ k : Nat, (k : Int) = x - 48 := ⟨(x - 48).toNat, by omega⟩
      rw [show (x - 48).toNat = k by omega] at h0
      rw [h0] at HR ⊢
      rw [hD] at IDT
      have s8 : IntKind.i64.wrap (x - 48) = (k : Int) := by rw [IntKind.wrap_i64]; omega
      have s9 : x - 48 = (k : Int) := by omega
      have s10 : IntKind.i64.wrap (k : Int) = (k : Int) := by rw [IntKind.wrap_i64]; omega
      have HK : Hid (k ≤ 9) := by unfold Hid; omega
      clear hp h0 h1 h2 hL hLf hD hk ILT
      go_enter Tryd.func27, Tryd.ntmps27
      go_upto_region 1 with fail
      rw [← hw0]
      clear hw0
      go_upto_region 5 with (first | (go_at_call 36; refine LKK.out.mono ?_; rintro e w1 ⟨rfl, hb1⟩; (try dsimp only); have R1 := hidIt (R0.out.ext hb1); clear hb1) | (go_at_call 37; refine (ILA.out _).mono ?_; rintro e w2 ⟨rfl, h9⟩; obtain rfl := h9.symm; (try dsimp only)))
      obtain ⟨_, _, _, d1, df⟩ := R1.out.cells
      have s1 : IntKind.i64.wrap ((p : Int) + 1) = ((p + 1 : Nat) : Int) := by rw [IntKind.wrap_i64]; omega
      have MV := hidIt (R1.out.fl.move HO.out.apt (p + 1) (by have := HP.out; omega))
      go_upto_region 6 with fail
      have ep : ((p : Int) + 1) = ((p + 1 : Nat) : Int) := by omega
      try rw [ep]
      have R2 := hidIt (R1.out.step HBG.out MV.out.1 MV.out.2)
      generalize w1.setCell ⟨b, 1, none⟩ (.int .i64 ((p + 1 : Nat) : Int)) = y2 at *
      clear MV d1 df s1 ep
      have TKK := hidIt (taken_any R2.out.fl base HO.out.l (by have := R2.out.gr.size; have := HGB.out; omega) k HK.out)
      go_wp2_with (first | (go_at_call 39; refine (IDT.out _).mono ?_; rintro e w3 ⟨rfl, h9⟩; obtain rfl := h9.symm; (try dsimp only)) | (go_at_call 26; refine TKK.out.mono ?_; rintro e y3 ⟨v, rfl, ⟨ga, gc, rfl, gv⟩, hb⟩; (try dsimp only); have R9 := hidIt (R2.out.ext hb); have GV := hidIt gv; clear gv hb; obtain ⟨z0, z1, zf, _, _⟩ := R9.out.cells))
      have FI := hidIt (R9.out.fin HO.out (Ne.symm HBG.out) HGB.out ga gc (⟨tak line mt k, 0⟩) GV.out)
      obtain ⟨o0, o1, o2, o3⟩ := FI.out
      try simp only [] at o0 o1 o2 o3
      generalize (y3.setCell ⟨w.heap.size, 0, none⟩ (.slice ga (tak line mt k).length gc)).setCell ⟨w.heap.size, 1, none⟩ (.int .i64 0) = YY at *
      refine bodyPost_ret (v := .agg #[.slice ga (tak line mt k).length gc, .int .i64 0]) (by simp [results, Tryd.results27, go_sem, o0, o1]) rfl (HR.out _ _ ⟨_, rfl, o2, o3⟩)
    | false =>
      have hDf : ¬ isD x = true := by rw [hD]; simp
      have h0 : bsl line mt rep p = some (⟨[x], 0⟩, p + 1) := by unfold bsl; rw [if_neg hp, ← HX.out, if_neg h1, if_neg h2, if_neg hLf, if_neg hDf]
      rw [h0] at HR ⊢
      rw [hD] at IDT
      clear hp h0 h1 h2 hL hLf hD hDf ILT
      go_enter Tryd.func27, Tryd.ntmps27
      go_upto_region 1 with fail
      rw [← hw0]
      clear hw0
      go_upto_region 5 with (first | (go_at_call 36; refine LKK.out.mono ?_; rintro e w1 ⟨rfl, hb1⟩; (try dsimp only); have R1 := hidIt (R0.out.ext hb1); clear hb1) | (go_at_call 37; refine (ILA.out _).mono ?_; rintro e w2 ⟨rfl, h9⟩; obtain rfl := h9.symm; (try dsimp only)))
      obtain ⟨_, _, _, d1, df⟩ := R1.out.cells
      have s1 : IntKind.i64.wrap ((p : Int) + 1) = ((p + 1 : Nat) : Int) := by rw [IntKind.wrap_i64]; omega
      have MV := hidIt (R1.out.fl.move HO.out.apt (p + 1) (by have := HP.out; omega))
      go_upto_region 6 with fail
      have ep : ((p : Int) + 1) = ((p + 1 : Nat) : Int) := by omega
      try rw [ep]
      have R2 := hidIt (R1.out.step HBG.out MV.out.1 MV.out.2)
      generalize w1.setCell ⟨b, 1, none⟩ (.int .i64 ((p + 1 : Nat) : Int)) = y2 at *
      clear MV d1 df s1 ep
      go_wp2_with (first | (go_at_call 39; refine (IDT.out _).mono ?_; rintro e w3 ⟨rfl, h9⟩; obtain rfl := h9.symm; (try dsimp only)) | (go_at_call 28; refine (give_any x _ base).mono ?_; rintro e y3 ⟨v, rfl, ⟨ga, gc, rfl, gv⟩, hb⟩; (try dsimp only); have R9 := hidIt (R2.out.ext hb); have GV := hidIt gv; clear gv hb; obtain ⟨z0, z1, zf, _, _⟩ := R9.out.cells))
      have FI := hidIt (R9.out.fin HO.out (Ne.symm HBG.out) HGB.out ga gc (⟨[x], 0⟩) GV.out)
      obtain ⟨o0, o1, o2, o3⟩ := FI.out
      try simp only [List.length_cons, List.length_nil, Nat.zero_add] at o0 o1 o2 o3
      generalize (y3.setCell ⟨w.heap.size, 0, none⟩ (.slice ga 1 gc)).setCell ⟨w.heap.size, 1, none⟩ (.int .i64 0) = YY at *
      refine bodyPost_ret (v := .agg #[.slice ga 1 gc, .int .i64 0]) (by simp [results, Tryd.results27, go_sem, o0, o1]) rfl (HR.out _ _ ⟨_, rfl, o2, o3⟩)
end Go.Proofs.YtipnifenahhkoaaDoor
