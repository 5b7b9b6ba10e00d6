/- nested. -/
import Derived.Test.YtlnachbigchobaaTake
import Derived.Test.YtlnachbigchobaaHanded
namespace Go.Proofs.Ytlnachbigchobaa
open Go.RowKit

/-- What nested has told so far. -/
def NestJ (w : World) (it : Value) (gao : Option Addr) (gcap : Nat) (gl : List It) (st : Nat) (d : List It) (wr : World) : Prop := ∃ ov, wr.heap[w.heap.size]? = some (.cells #[it] 130 (0, 0)) ∧ wr.heap[w.heap.size + 1]? = some (.cells #[.slice gao gl.length gcap] 22 (0, 0)) ∧ wr.heap[w.heap.size + 2]? = some (.cells #[.int .i64 (st : Nat)] 3 (0, 0)) ∧ wr.heap[w.heap.size + 3]? = some (.cells #[ov] 22 (0, 0)) ∧ wr.heap[w.heap.size + 4]? = some (.cells #[.bool true] 4 (0, 0)) ∧ OwnR wr (w.heap.size + 5) 24 ov d ∧ Below w.heap.size w wr
section
variable {w : World} {it : Value} {gao : Option Addr} {gcap : Nat} {gl : List It} {st : Nat} {d : List It} {wr : World}
theorem NestJ.ext (h : NestJ w it gao gcap gl st d wr) {w' : World} (hb : Below wr.heap.size wr w') : NestJ w it gao gcap gl st d w' := by
  obtain ⟨ov, h1, h2, h3, h4, h5, h6, h7⟩ := h
  have hl : w.heap.size + 4 < wr.heap.size := (Array.getElem?_eq_some_iff.1 h5).1
  exact ⟨ov, by rw [hb.block _ (by omega)]; exact h1, by rw [hb.block _ (by omega)]; exact h2, by rw [hb.block _ (by omega)]; exact h3, by rw [hb.block _ (by omega)]; exact h4, by rw [hb.block _ (by omega)]; exact h5, h6.ext hb, h7.trans (hb.mono h7.size)⟩
theorem NestJ.good (h : NestJ w it gao gcap gl st d wr) : NestJ w it gao gcap gl st d (wr.setCell ⟨w.heap.size + 4, 0, none⟩ (.bool true)) ∧ wr.grownBy (wr.setCell ⟨w.heap.size + 4, 0, none⟩ (.bool true)) (some (w.heap.size + 4)) ∧ wr.cell? ⟨w.heap.size + 4, 0, none⟩ = some (.bool true) ∧ (∀ i, wr.frozen? ⟨w.heap.size + 4, i, none⟩ = false) ∧ w.heap.size + 4 < wr.heap.size := by
  obtain ⟨ov, h1, h2, h3, h4, h5, h6, h7⟩ := h
  have hl : w.heap.size + 4 < wr.heap.size := (Array.getElem?_eq_some_iff.1 h5).1
  obtain ⟨y1, y2⟩ := set1 h5 0 (.bool true)
  refine ⟨⟨ov, by rw [y2.block _ (by omega) (by simp)]; exact h1, by rw [y2.block _ (by omega) (by simp)]; exact h2, by rw [y2.block _ (by omega) (by simp)]; exact h3, by rw [y2.block _ (by omega) (by simp)]; exact h4, y1, ?_, below_put h7 (by omega) y2 (by omega)⟩, y2, by rw [cell_of_row wr _ 0 _ _ _ h5]; rfl, fun i => by simp [World.frozen?, h5], hl⟩
  obtain ⟨ao, cap, rfl⟩ := h6.form1
  exact World.ownsRow.kept h6 y2 (by
    cases ao with
    | none => exact .inl rfl
    | some a =>
      refine .inr ?_
      have := (World.ownsRow.lt h6 a.block rfl).1
      simp only [Value.ownBlock, ne_eq, Option.some.injEq]
      omega)
end

set_option maxRecDepth 100000 in
set_option maxHeartbeats 4000000 in
theorem nestY {w0 : World} {u : Option Addr} {m : Nat} {xs : List It} {a b : Nat} {gao : Option Addr} {gcap : Nat} {gl : List It} {st : Nat} (it : Value) (hit : it = .func (.func 94) #[] #[.pointer (some ⟨a, 0, none⟩), .pointer (some ⟨b, 0, none⟩)]) (hI : IterAt w0 it u m) (hT : TT w0 (.agg #[.pointer u]) xs) (hx : xs.length ≤ 4194304) (hR : RdR w0 (.slice gao gl.length gcap) gl) (hgl : (xs.drop m).take gl.length = gl) (h1 : 1 ≤ gl.length) (d : List It) (x : It) (w : World) (h : NestJ w0 it gao gcap gl st d w) (hg : d.length < gl.length) (hd : d.length < 4194304) :
    Calls Try.prog 97 #[.agg #[.int .i64 x.1, .int .i64 x.2], .pointer (some ⟨w0.heap.size + 3, 0, none⟩), .pointer (some ⟨w0.heap.size + 2, 0, none⟩), .pointer (some ⟨w0.heap.size, 0, none⟩), .pointer (some ⟨w0.heap.size + 1, 0, none⟩), .pointer (some ⟨w0.heap.size + 4, 0, none⟩)] w fun e w' => e = .returned (.bool (decide ((d ++ [x]).length < gl.length))) ∧ NestJ w0 it gao gcap gl st (d ++ [x]) w' := by
  obtain ⟨wx, hwx⟩ : ∃ wx, wx = w.alloc (.cells #[.int .i64 x.1, .int .i64 x.2] 24) := ⟨_, rfl⟩
  have bx : Below w.heap.size w wx := by rw [hwx]; exact ext_alloc (Below.refl _ _) _
  have hX : BlkI wx w.heap.size x := by rw [hwx]; exact heap_alloc_new _ _
  have HJX := hidIt (h.ext bx)
  obtain ⟨ov, z1, z2, z3, z4, z5, z6, z7⟩ := id HJX.out
  obtain ⟨ao0, cap0, rfl⟩ := z6.form1
  have k0 : wx.cell? ⟨w0.heap.size, 0, none⟩ = some (.func (.func 94) #[] #[.pointer (some ⟨a, 0, none⟩), .pointer (some ⟨b, 0, none⟩)]) := by rw [cell_of_row wx _ 0 _ _ _ z1, hit]; rfl
  have k1 : wx.cell? ⟨w0.heap.size + 1, 0, none⟩ = some (.slice gao gl.length gcap) := by rw [cell_of_row wx _ 0 _ _ _ z2]; rfl
  have k2 : wx.cell? ⟨w0.heap.size + 2, 0, none⟩ = some (.int .i64 (st : Nat)) := by rw [cell_of_row wx _ 0 _ _ _ z3]; rfl
  have k3 : wx.cell? ⟨w0.heap.size + 3, 0, none⟩ = some (.slice ao0 d.length cap0) := by rw [cell_of_row wx _ 0 _ _ _ z4]; rfl
  have hbx := z7
  have hcg : gl.length ≤ gcap ∧ gcap ≤ 9223372036854775807 := by obtain ⟨_, _, e1, e2, e3, _⟩ := hR; cases e1; exact ⟨e2, e3⟩
  have TK : Hid (Calls Try.prog 88 #[.func (.func 94) #[] #[.pointer (some ⟨a, 0, none⟩), .pointer (some ⟨b, 0, none⟩)], .int .i64 (gl.length : Nat)] wx fun e w' => ∃ ao cap, e = .returned (.tuple #[.slice ao gl.length cap, .bool true]) ∧ Hid (OwnR w' wx.heap.size 24 (.slice ao gl.length cap) gl) ∧ Below wx.heap.size wx w') := by
    have := take_any wx it u m xs gl.length (hI.ext hbx) (hT.ext hbx) hx h1
    rw [hgl, hit] at this
    exact this
  have hxb : w0.heap.size + 4 < w.heap.size := h.good.2.2.2.2
  have HR := hidIt hR
  have HBX := hidIt hbx
  clear h bx z1 z2 z3 z4 z5 z6 z7 hI hT hgl hit hR hbx
  go_enter Try.func97, Try.ntmps97
  go_upto_region 1 with fail
  rw [← hwx]
  clear hwx
  generalize w.heap.size = xb at *
  by_cases hst : d.length = st
  · have hst' : ((d.length : Nat) : Int) = ((st : Nat) : Int) := by omega
    have hst2 : (((d.length : Nat) : Int) == ((st : Nat) : Int)) = true := by simpa using hst'
    have HST := hidIt hst
    clear hst hst'
    go_wp2_with fail
    refine TK.out.mono ?_
    rintro e w2 ⟨ao2, cap2, rfl, HO2, hb2⟩
    have HJ2 := hidIt (HJX.out.ext hb2)
    have hX2 := hX.ext hb2
    obtain ⟨gi, capi, hv⟩ := HO2.out.form_pos h1
    simp only [Value.slice.injEq, true_and] at hv
    obtain ⟨rfl, rfl⟩ := hv
    have hgi : wx.heap.size ≤ gi := (World.ownsRow.lt HO2.out gi rfl).1
    have hxx : w0.heap.size + 4 < wx.heap.size := HJX.out.good.2.2.2.2
    have hgi1 : ¬ gi = w0.heap.size + 4 := by omega
    have hgi2 : ¬ w0.heap.size + 4 = gi := by omega
    have hcap2 : gl.length ≤ cap2 ∧ cap2 ≤ 9223372036854775807 := by obtain ⟨_, _, e1, e2, e3, _⟩ := HO2.out.rd; cases e1; exact ⟨e2, e3⟩
    obtain ⟨g1, g2, g3, g4, g5⟩ := HJ2.out.good
    have r1 : w2.cell? ⟨w0.heap.size + 1, 0, none⟩ = some (.slice gao gl.length gcap) := (hb2.cell (p := ⟨w0.heap.size + 1, 0, none⟩) (by simp only; omega)).trans k1
    obtain ⟨w3, hw3⟩ : ∃ w3, w3 = w2.setCell ⟨w0.heap.size + 4, 0, none⟩ (.bool true) := ⟨_, rfl⟩
    have HLP : Hid (∀ w', NestJ w0 it gao gcap gl st d w' → w'.cell? ⟨w0.heap.size + 1, 0, none⟩ = some (.slice gao gl.length gcap) ∧ RdR w' (.slice gao gl.length gcap) gl ∧ Below w0.heap.size w0 w') := fun w' ⟨_, a1, a2, a3, a4, a5, a6, a7⟩ => ⟨by rw [cell_of_row w' _ 0 _ _ _ a2]; rfl, HR.out.ext a7, a7⟩
    have GD : Hid (∀ w', NestJ w0 it gao gcap gl st d w' ∧ BlkI w' xb x ∧ OwnR w' wx.heap.size 24 (.slice (some ⟨gi, 0, none⟩) gl.length cap2) gl → NestJ w0 it gao gcap gl st d (w'.setCell ⟨w0.heap.size + 4, 0, none⟩ (.bool true)) ∧ BlkI (w'.setCell ⟨w0.heap.size + 4, 0, none⟩ (.bool true)) xb x ∧ OwnR (w'.setCell ⟨w0.heap.size + 4, 0, none⟩ (.bool true)) wx.heap.size 24 (.slice (some ⟨gi, 0, none⟩) gl.length cap2) gl) := fun w' ⟨a1, a2, a3⟩ => by
      obtain ⟨b1, b2, _⟩ := a1.good
      exact ⟨b1, by unfold BlkI; rw [b2.block _ a2.lt (by simp; omega)]; exact a2, World.ownsRow.kept a3 b2 (.inr (by simp [Value.ownBlock]; omega))⟩
    have HK3 : Hid (NestJ w0 it gao gcap gl st d w3 ∧ BlkI w3 xb x ∧ OwnR w3 wx.heap.size 24 (.slice (some ⟨gi, 0, none⟩) gl.length cap2) gl) := by rw [hw3]; exact GD.out w2 ⟨HJ2.out, hX2, HO2.out⟩
    clear g1 g2 hb2 hX2 HO2 HJ2 TK hX k0 k1 k2 k3
    go_wp2_with fail
    rw [← hw3]
    clear hw3 g3 g4 r1
    go_loopw [10] (fun i wr => ∃ j : Nat, j ≤ gl.length ∧ i = .int .i64 j ∧ Hid (NestJ w0 it gao gcap gl st d wr ∧ BlkI wr xb x ∧ OwnR wr wx.heap.size 24 (.slice (some ⟨gi, 0, none⟩) gl.length cap2) gl)) (fun i _ => gl.length - (intOf i).toNat)
    case atStart => exact ⟨0, Nat.zero_le _, rfl, HK3.out⟩
    case round =>
      obtain ⟨j, hj, rfl, HKR⟩ := hrel
      obtain ⟨_, _, g3, g4, g5⟩ := HKR.out.1.good
      by_cases hlt : j < gl.length
      · have hlt' : (j : Int) < (gl.length : Int) := by omega
        obtain ⟨r1, r2, r3⟩ := HLP.out wr HKR.out.1
        obtain ⟨bg, og, cg, e0, _, _, _, hcc⟩ := HR.out.at (by omega)
        simp only [Value.slice.injEq] at e0
        obtain ⟨rfl, _, rfl⟩ := e0
        obtain ⟨bg', og', cg', e0, _, _, hbg, _⟩ := HR.out.at (by omega)
        simp only [Value.slice.injEq, Option.some.injEq, Addr.mk.injEq] at e0
        obtain ⟨⟨rfl, rfl, _⟩, _, rfl⟩ := e0
        have y0 := (r3.cell (p := ⟨bg, og + j * 2, none⟩) hbg).trans (hcc j hlt).1
        have y1 := (r3.cell (p := ⟨bg, og + j * 2 + 1, none⟩) hbg).trans (hcc j hlt).2
        obtain ⟨v0, v1⟩ := OwnR.cellAt HKR.out.2.2 rfl j hlt
        have hbg1 : ¬ bg = w0.heap.size + 4 := by omega
        have hbg2 : ¬ w0.heap.size + 4 = bg := by omega
        generalize gl[j]?.getD (0, 0) = z at *
        clear hcc r2
        go_wp2_with fail
        go_region_held3 (fun w' => w'.cell? ⟨w0.heap.size + 1, 0, none⟩ = some (.slice (some ⟨bg, og, none⟩) gl.length gcap) ∧ w'.cell? ⟨bg, og + j * 2, none⟩ = some (.int .i64 z.1) ∧ w'.cell? ⟨bg, og + j * 2 + 1, none⟩ = some (.int .i64 z.2) ∧ w'.cell? ⟨gi, j * 2, none⟩ = some (.int .i64 z.1) ∧ w'.cell? ⟨gi, j * 2 + 1, none⟩ = some (.int .i64 z.2)) (go_keep) (fail)
        all_goals
          go_wp2_with fail
          go_roundw
          case rel => exact ⟨j + 1, by omega, by go_num, GD.out wr.drew ⟨HKR.out.1.ext ((Below.refl _ _).drew), HKR.out.2.1, HKR.out.2.2⟩⟩
          case measure => simp [intOf]; omega
      · obtain rfl : j = gl.length := by omega
        have hge : ¬ (gl.length : Int) < (gl.length : Int) := by omega
        have hged : decide ((gl.length : Int) < (gl.length : Int)) = false := by simp
        have HJZ := hidIt HKR.out.1
        have hXZ := HKR.out.2.1
        clear g3 g4 g5 HKR HK3 GD HLP
        generalize hwz : wr = wz at *
        clear hwz
        obtain ⟨ov, z1, z2, z3, z4, z5, z6, z7⟩ := id HJZ.out
        obtain ⟨ao, cap, rfl⟩ := z6.form1
        have k1 : wz.cell? ⟨w0.heap.size + 1, 0, none⟩ = some (.slice gao gl.length gcap) := by rw [cell_of_row wz _ 0 _ _ _ z2]; rfl
        have k3 : wz.cell? ⟨w0.heap.size + 3, 0, none⟩ = some (.slice ao d.length cap) := by rw [cell_of_row wz _ 0 _ _ _ z4]; rfl
        have k4 : wz.cell? ⟨w0.heap.size + 4, 0, none⟩ = some (.bool true) := by rw [cell_of_row wz _ 0 _ _ _ z5]; rfl
        obtain ⟨x0, x1, _⟩ := hXZ.cells
        have hxl := hXZ.lt
        have hsz : w0.heap.size + 4 < wz.heap.size := (Array.getElem?_eq_some_iff.1 z5).1
        have HO := hidIt z6
        have Z1 := hidIt z1
        have Z2 := hidIt z2
        have Z3 := hidIt z3
        have Z4 := hidIt z4
        have Z5 := hidIt z5
        have Z7 := hidIt z7
        clear z1 z2 z3 z4 z5 z6 z7 HJZ
        go_upto_region 9 with (at_builtin; refine wpList_append_runs rfl _ _ 22 rfl (w0.heap.size + 5) 24 Try.info_run Try.underlying22 (.slice ao d.length cap) d rfl (HO.out.ext (ext_alloc (Below.refl _ _) _)) _ [x] rfl (RdR.lit1 wz 24 x) (by simp only [List.length_cons, List.length_nil]; omega) (by simp; omega) ?_; intro v' w9 hO hg'; have HO1 := hidIt hO; obtain ⟨ao1, cap1, rfl⟩ := hO.form1; have HB1 : Hid (Below (w0.heap.size + 5) wz w9) := (((Below.refl (w0.heap.size + 5) wz).alloc (by omega) _).grown hg' (by simp; omega) (fun b hb => (World.ownsRow.lt HO.out b hb).1)); have q1 : w9.cell? ⟨w0.heap.size + 1, 0, none⟩ = some (.slice gao gl.length gcap) := (HB1.out.cell (p := ⟨w0.heap.size + 1, 0, none⟩) (by simp only; omega)).trans k1; have q3 : w9.cell? ⟨w0.heap.size + 3, 0, none⟩ = some (.slice ao d.length cap) := (HB1.out.cell (p := ⟨w0.heap.size + 3, 0, none⟩) (by simp only; omega)).trans k3; have q4 : w9.cell? ⟨w0.heap.size + 4, 0, none⟩ = some (.bool true) := (HB1.out.cell (p := ⟨w0.heap.size + 4, 0, none⟩) (by simp only; omega)).trans k4; have HG2 : Hid (w9.heap[w0.heap.size + 3]? = some (.cells #[.slice ao d.length cap] 22 (0, 0))) := (by unfold Hid; rw [HB1.out.block _ (by omega)]; exact Z4.out); have qf : ∀ i, w9.frozen? ⟨w0.heap.size + 3, i, none⟩ = false := (by intro i; simp [World.frozen?, HG2.out]); clear hO hg' k1 k3 k4 x0 x1)
        obtain ⟨y1, y2⟩ := set1 HG2.out 0 (.slice ao1 (d ++ [x]).length cap1)
        have hs1 := HB1.out.size
        have HEND : Hid (NestJ w0 it gao gcap gl st (d ++ [x]) (w9.setCell ⟨w0.heap.size + 3, 0, none⟩ (.slice ao1 (d ++ [x]).length cap1))) := by
          refine ⟨.slice ao1 (d ++ [x]).length cap1, ?_, ?_, ?_, y1, ?_, ?_, ?_⟩
          · rw [y2.block _ (by omega) (by simp), HB1.out.block _ (by omega)]; exact Z1.out
          · rw [y2.block _ (by omega) (by simp), HB1.out.block _ (by omega)]; exact Z2.out
          · rw [y2.block _ (by omega) (by simp), HB1.out.block _ (by omega)]; exact Z3.out
          · rw [y2.block _ (by omega) (by simp), HB1.out.block _ (by omega)]; exact Z5.out
          · exact World.ownsRow.kept HO1.out y2 (by
              cases ao1 with
              | none => exact .inl rfl
              | some a =>
                refine .inr ?_
                have := (World.ownsRow.lt HO1.out a.block rfl).1
                simp only [Value.ownBlock, ne_eq, Option.some.injEq]
                omega)
          · exact below_put (Z7.out.trans (HB1.out.mono (by omega))) (by omega) y2 (by omega)
        have hlen1 : (d ++ [x]).length = d.length + 1 := by simp
        rw [hlen1] at HEND
        clear y1 y2
        go_wp2_with fail
        go_ret
        exact ⟨ret_bool (by simp only [decide_eq_decide]; omega), HEND.out⟩
  · have hst' : ¬ ((d.length : Nat) : Int) = ((st : Nat) : Int) := by omega
    have hst2 : (((d.length : Nat) : Int) == ((st : Nat) : Int)) = false := by simpa using hst'
    have HJZ := hidIt HJX.out
    have hXZ := hX
    clear TK HJX hX k0 k1
    go_upto_region 8 with fail
    clear k2 k3
    generalize hwz : wx = wz at *
    clear hwz
    obtain ⟨ov, z1, z2, z3, z4, z5, z6, z7⟩ := id HJZ.out
    obtain ⟨ao, cap, rfl⟩ := z6.form1
    have k1 : wz.cell? ⟨w0.heap.size + 1, 0, none⟩ = some (.slice gao gl.length gcap) := by rw [cell_of_row wz _ 0 _ _ _ z2]; rfl
    have k3 : wz.cell? ⟨w0.heap.size + 3, 0, none⟩ = some (.slice ao d.length cap) := by rw [cell_of_row wz _ 0 _ _ _ z4]; rfl
    have k4 : wz.cell? ⟨w0.heap.size + 4, 0, none⟩ = some (.bool true) := by rw [cell_of_row wz _ 0 _ _ _ z5]; rfl
    obtain ⟨x0, x1, _⟩ := hXZ.cells
    have hxl := hXZ.lt
    have hsz : w0.heap.size + 4 < wz.heap.size := (Array.getElem?_eq_some_iff.1 z5).1
    have HO := hidIt z6
    have Z1 := hidIt z1
    have Z2 := hidIt z2
    have Z3 := hidIt z3
    have Z4 := hidIt z4
    have Z5 := hidIt z5
    have Z7 := hidIt z7
    clear z1 z2 z3 z4 z5 z6 z7 HJZ
    go_upto_region 9 with (at_builtin; refine wpList_append_runs rfl _ _ 22 rfl (w0.heap.size + 5) 24 Try.info_run Try.underlying22 (.slice ao d.length cap) d rfl (HO.out.ext (ext_alloc (Below.refl _ _) _)) _ [x] rfl (RdR.lit1 wz 24 x) (by simp only [List.length_cons, List.length_nil]; omega) (by simp; omega) ?_; intro v' w9 hO hg'; have HO1 := hidIt hO; obtain ⟨ao1, cap1, rfl⟩ := hO.form1; have HB1 : Hid (Below (w0.heap.size + 5) wz w9) := (((Below.refl (w0.heap.size + 5) wz).alloc (by omega) _).grown hg' (by simp; omega) (fun b hb => (World.ownsRow.lt HO.out b hb).1)); have q1 : w9.cell? ⟨w0.heap.size + 1, 0, none⟩ = some (.slice gao gl.length gcap) := (HB1.out.cell (p := ⟨w0.heap.size + 1, 0, none⟩) (by simp only; omega)).trans k1; have q3 : w9.cell? ⟨w0.heap.size + 3, 0, none⟩ = some (.slice ao d.length cap) := (HB1.out.cell (p := ⟨w0.heap.size + 3, 0, none⟩) (by simp only; omega)).trans k3; have q4 : w9.cell? ⟨w0.heap.size + 4, 0, none⟩ = some (.bool true) := (HB1.out.cell (p := ⟨w0.heap.size + 4, 0, none⟩) (by simp only; omega)).trans k4; have HG2 : Hid (w9.heap[w0.heap.size + 3]? = some (.cells #[.slice ao d.length cap] 22 (0, 0))) := (by unfold Hid; rw [HB1.out.block _ (by omega)]; exact Z4.out); have qf : ∀ i, w9.frozen? ⟨w0.heap.size + 3, i, none⟩ = false := (by intro i; simp [World.frozen?, HG2.out]); clear hO hg' k1 k3 k4 x0 x1)
    obtain ⟨y1, y2⟩ := set1 HG2.out 0 (.slice ao1 (d ++ [x]).length cap1)
    have hs1 := HB1.out.size
    have HEND : Hid (NestJ w0 it gao gcap gl st (d ++ [x]) (w9.setCell ⟨w0.heap.size + 3, 0, none⟩ (.slice ao1 (d ++ [x]).length cap1))) := by
      refine ⟨.slice ao1 (d ++ [x]).length cap1, ?_, ?_, ?_, y1, ?_, ?_, ?_⟩
      · rw [y2.block _ (by omega) (by simp), HB1.out.block _ (by omega)]; exact Z1.out
      · rw [y2.block _ (by omega) (by simp), HB1.out.block _ (by omega)]; exact Z2.out
      · rw [y2.block _ (by omega) (by simp), HB1.out.block _ (by omega)]; exact Z3.out
      · rw [y2.block _ (by omega) (by simp), HB1.out.block _ (by omega)]; exact Z5.out
      · exact World.ownsRow.kept HO1.out y2 (by
          cases ao1 with
          | none => exact .inl rfl
          | some a =>
            refine .inr ?_
            have := (World.ownsRow.lt HO1.out a.block rfl).1
            simp only [Value.ownBlock, ne_eq, Option.some.injEq]
            omega)
      · exact below_put (Z7.out.trans (HB1.out.mono (by omega))) (by omega) y2 (by omega)
    have hlen1 : (d ++ [x]).length = d.length + 1 := by simp
    rw [hlen1] at HEND
    clear y1 y2
    go_wp2_with fail
    go_ret
    exact ⟨ret_bool (by simp only [decide_eq_decide]; omega), HEND.out⟩
end Go.Proofs.Ytlnachbigchobaa
