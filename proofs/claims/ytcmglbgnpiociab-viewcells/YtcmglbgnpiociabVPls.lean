/- The iterator over the clusters of a line. -/
import Derived.Test.YtcmglbgnpiociabVRange
import Derived.Test.YtcmglbgnpiociabVWid
import Derived.Test.YtcmglbgnpiociabCalls
import Derived.RangeFuncCalls
import Derived.RangeFuncLeaves
import Derived.Shelf.Abstract
import Derived.WalkKit
import Derived.OwnWalkIn
import Derived.TacticsInMore
import Derived.LoopNIn
import Derived.LoopIn
namespace Go.Proofs.Ytcmglbgnpiociab.P
open Go.RowKit Go.Shelf

attribute [local go_sem] Oper.semAt_some

theorem hdd (k : Nat) : Fence.wide.depth.isSome = true → 1 ≤ k := fun h => by cases h
theorem round_any {m m' : Nat} {P : Program} {l : Nat} {f : FuncId} {tmps : Array Value} {assign body : Code} {w : World} {R : Ending → World → Prop} (h : RoundIn Fence.wide m P l f tmps assign body w R) : RoundIn Fence.wide m' P l f tmps assign body w R := ⟨h.1, fun c cs _ => h.2 c cs (fun d h => by cases h)⟩
theorem yield_any {m : Nat} (m' : Nat) {P : Program} {l : Nat} {args : Array Value} {W : World} {R : Ending → World → Prop} (h : YieldAt Fence.wide m P l args W R) : YieldAt Fence.wide m' P l args W R := by
  obtain ⟨fn, tmps, assign, body, hy, hR⟩ := h
  exact ⟨fn, tmps, assign, body, hy, round_any hR⟩
theorem Newer.trans {σ : Type} {own : σ → Nat → Prop} {s s' s'' : σ} {W W' : World} (h : Newer own s s' W) (h' : Newer own s' s'' W') (hz : W.heap.size ≤ W'.heap.size) : Newer own s s'' W := fun k hk => by
  rcases h' k hk with h1 | h1
  · exact h k h1
  · exact .inr (by omega)
theorem Kps.next {σ : Type} {own : σ → Nat → Prop} {s s' : σ} {A B C : World} (h : Kps (own s) A B) (hn : Newer own s s' A) (k : Kps (own s') B C) : Kps (own s) A C :=
  h.trans k (fun i hi hp => by rcases hn i hp with h1 | h1; exact h1; omega)

/-- A place as a value. -/
def plV (p : Nat × Nat × Nat) : Value := .agg #[.int .i64 p.1, .int .i64 p.2.1, .int .i64 p.2.2]

theorem places_any (ao : Option Addr) (n cap : Nat) (w : World) : Calls Try.prog 27 #[.slice ao n cap] w fun e w' => e = .returned (.func (.func 36) #[] #[.pointer (some ⟨w.heap.size, 0, none⟩)]) ∧ w' = w.alloc (.cells #[.slice ao n cap] 27) := by
  go_enter Try.func27, Try.ntmps27
  go_wp2_with fail
  go_ret
  exact ⟨rfl, rfl⟩

/-- The row of a line, its rest, a part of it. -/
theorem rd_part {w : World} {v : Value} {zs : List Int} (hr : Rd .i64 w v zs) (a : Nat) (h : a < zs.length) : ∃ b off cap, v = .slice (some ⟨b, off, none⟩) zs.length cap ∧ zs.length ≤ cap ∧ cap ≤ 9223372036854775807 ∧
    Rd .i64 w (.slice (some ⟨b, off + a, none⟩) (zs.length - a) (cap - a)) (zs.drop a) ∧ ∀ e, a < e → e ≤ zs.length → Rd .i64 w (.slice (some ⟨b, off + a, none⟩) (e - a) (cap - a)) ((zs.drop a).take (e - a)) := by
  obtain ⟨b, off, cap, rfl, h1, h2, h3, h4⟩ := hr.at (by omega)
  refine ⟨b, off, cap, rfl, h1, h2, hr.drop a h, fun e he hl => ?_⟩
  have hle : ((zs.drop a).take (e - a)).length = e - a := by rw [List.length_take, List.length_drop]; omega
  refine ⟨_, _, by rw [hle], by rw [hle]; omega, by unfold maxLen; omega, fun _ => ⟨b, off + a, rfl, h3, fun i hi => ?_⟩⟩
  rw [hle] at hi
  have := h4 (a + i) (by omega)
  unfold Cl.at at this
  rw [Nat.add_assoc, this, List.getElem?_take, if_pos hi, List.getElem?_drop]

set_option maxRecDepth 100000 in
set_option maxHeartbeats 4000000 in
theorem places_stops (n : Nat) (zs : List Int) (v : Value) (wT : World) (hr : Rd .i64 wT v zs) (hz : zs.length ≤ 140737488355328) (w : World) (hBT : Below wT.heap.size wT w) (ba : Nat) (la : ba < w.heap.size) (hA : w.heap[ba]? = some (.cells #[v] 27 (0, 0))) :
    SeqX Fence.wide n Try.prog 36 #[.pointer (some ⟨ba, 0, none⟩)] (fun p => #[plV p]) (fun k => k < wT.heap.size ∨ k = ba) (fun xs => xs = Vw.ps zs 0 0) (fun pre => pre <+: Vw.ps zs 0 0) w := by
  intro l σ G s W hK hrel hlean hY h0
  have hbW : Below wT.heap.size wT W := ⟨hK.os.trans hBT.os, hK.tape.trans hBT.tape, hK.output.trans hBT.output, by have := hK.size; have := hBT.size; omega, fun k hk => (hK.same k (Nat.lt_of_lt_of_le hk hBT.size) (fun e => e (.inl hk))).trans (hBT.block k hk)⟩
  have hAW : W.heap[ba]? = some (.cells #[v] 27 (0, 0)) := (hK.same ba la (fun e => e (.inr rfl))).trans hA
  have hlW : ba < W.heap.size := by have := hK.size; omega
  -- what holds as long as only the caller's blocks turn
  have hno : ∀ k, k < wT.heap.size ∨ k = ba → ¬ G.own s k := fun k hk => (hrel k hk).2
  have HR := hidIt hr
  have HKP : Hid (∀ s' W', Kps (G.own s) W W' → Newer G.own s s' W → Below wT.heap.size wT W' ∧ W'.heap[ba]? = some (.cells #[v] 27 (0, 0)) ∧ ba < W'.heap.size) := fun s' W' k _ => by
    refine ⟨⟨k.os.trans hbW.os, k.tape.trans hbW.tape, k.output.trans hbW.output, Nat.le_trans hbW.size k.size, fun i hi => (k.same i (Nat.lt_of_lt_of_le hi hbW.size) (hno i (.inl hi))).trans (hbW.block i hi)⟩, (k.same ba hlW (hno ba (.inr rfl))).trans hAW, Nat.lt_of_lt_of_le hlW k.size⟩
  have HYY := hidIt hY
  have HLN := hidIt hlean
  have HG := hidIt h0
  have hG := G.lives
  have hV : ∃ ao cap, v = .slice ao zs.length cap ∧ zs.length ≤ cap ∧ cap ≤ 9223372036854775807 := by obtain ⟨ao, cap, e, h1, h2, _⟩ := hr; exact ⟨ao, cap, e, h1, by unfold maxLen at h2; exact h2⟩
  obtain ⟨ao, cap, rfl, hcz, hcm⟩ := hV
  clear hK hrel hlean hY hA hBT hr hbW hAW hlW hno h0
  refine (callsIn_wide (n := n)).2 ?_
  refine (callsIn_wide (n := 9)).1 ?_
  refine callsIn_of_wp Try.func36 rfl trivial ?_ rfl
  simp only [Try.ntmps36, List.size_toArray, List.length_cons, List.length_nil, Nat.reduceAdd, Nat.reduceSub, Array.replicate_succ, Array.replicate_zero, List.push_toArray, List.append_toArray, List.nil_append, List.cons_append]
  gi_wp2_with fail
  gi_loopw [3, 4] (fun c a wr => ∃ (a' c' : Nat) (s1 : σ) (pre : List (Nat × Nat × Nat)), a = .int .i64 a' ∧ c = .int .i64 c' ∧ a' ≤ zs.length ∧ c' ≤ 8 * a' ∧ Hid (Cl.isB zs a' = true) ∧ Hid (pre ++ Vw.ps zs a' c' = Vw.ps zs 0 0) ∧ Hid (G.J s1 pre wr ∧ Kps (G.own s) W wr ∧ Newer G.own s s1 W)) (fun _ a _ => zs.length - (intOf a).toNat)
  case atStart => exact ⟨0, 0, s, [], rfl, rfl, by omega, by omega, Cl.isB_zero zs, rfl, HG.out, Kps.refl _ _, fun k h => .inl h⟩
  case round =>
    obtain ⟨a, c, s1, pre, rfl, rfl, ha, hca, HI, HP, HJ⟩ := hrel
    obtain ⟨hbw, hab, hal⟩ := HKP.out s1 wr HJ.out.2.1 HJ.out.2.2
    have cb : wr.cell? ⟨ba, 0, none⟩ = some (.slice ao zs.length cap) := by rw [cell_of_row wr _ _ _ _ _ hab]; rfl
    by_cases hlt : a < zs.length
    · obtain ⟨b, off, cap', hv, _, _, r1, r2⟩ := rd_part (HR.out.ext hbw) a hlt
      simp only [Value.slice.injEq, true_and] at hv
      obtain ⟨rfl, rfl⟩ := hv
      have hup := Vw.up_gt zs a hlt
      have hud := Cl.up_drop zs a HI.out hlt
      have hst := Vw.ps_step zs a c hlt
      have hwl := Vw.clu_wd zs a c hlt
      have NX : Hid (∀ w', Below wr.heap.size wr w' → Calls Try.prog 37 #[.slice (some ⟨b, off + a, none⟩) (zs.length - a) (cap - a), .int .i64 0] w' fun e w'' => e = .returned (.int .i64 ((Cl.up zs (a + 1) - a : Nat) : Int)) ∧ Below w'.heap.size w' w'') := fun w' hb => by
        have h := Next_any _ (zs.drop a) 0 w' (r1.ext hb)
        have e : Cl.next (zs.drop a) 0 = Cl.up zs (a + 1) - a := by unfold Cl.next; rw [if_neg (by omega), if_neg (by rw [List.length_drop]; omega)]; show Cl.up (zs.drop a) 1 = _; omega
        rw [e] at h
        exact h
      have WD : Hid (∀ w', Below wr.heap.size wr w' → Calls Try.prog 38 #[.slice (some ⟨b, off + a, none⟩) (Cl.up zs (a + 1) - a) (cap - a), .int .i64 c] w' fun e w'' => e = .returned (.int .i64 (Vw.wd (Vw.clu zs a) c : Nat)) ∧ Below w'.heap.size w' w'') := fun w' hb =>
        width_any _ (Vw.clu zs a) c w' ((r2 _ hup.1 hup.2.1).ext hb) (by rw [Vw.clu_len zs a hlt]; omega) (by rw [Vw.clu_len zs a hlt]; omega)
      have HIS := hidIt hup.2.2
      obtain ⟨hu1, hu2, _⟩ := hup
      generalize hE : Cl.up zs (a + 1) = E at *
      generalize hWd : Vw.wd (Vw.clu zs a) c = D at *
      have HST := hidIt hst
      have hwE : IntKind.i64.wrap ((a : Int) + ((E - a : Nat) : Int)) = (E : Int) := by rw [IntKind.wrap_i64]; omega
      have hwC : IntKind.i64.wrap ((c : Int) + (D : Int)) = ((c + D : Nat) : Int) := by rw [IntKind.wrap_i64]; omega
      have hsub : (zs.length : Int) - (a : Int) = ((zs.length - a : Nat) : Int) := by omega
      have hEa : ((E : Int) - (a : Int)).toNat = E - a := by omega
      have hla : (a : Int) < (zs.length : Int) := by omega
      have hla' : (a : Int) ≤ (zs.length : Int) := by omega
      have haE : (a : Int) ≤ (E : Int) := by omega
      have hEc : (E : Int) ≤ (cap : Int) := by omega
      have hHP : Hid (pre ++ [(a, E, c + D)] ++ Vw.ps zs E (c + D) = Vw.ps zs 0 0) := by have h := HP.out; rw [HST.out] at h; unfold Hid; rw [List.append_assoc]; exact h
      have HYD : Hid (∀ W5, G.J s1 pre W5 → YieldAt Fence.wide 8 Try.prog l #[plV (a, E, c + D)] W5 fun e W' => (e = .returned (.bool true) ∧ ∃ s', G.J s' (pre ++ [(a, E, c + D)]) W' ∧ Kps (G.own s1) W5 W' ∧ Newer G.own s1 s' W5) ∨ (e = .returned (.bool false) ∧ ∃ s', G.Jx s' (pre ++ [(a, E, c + D)]) W' ∧ Kps (G.own s1) W5 W' ∧ Newer G.own s1 s' W5)) := fun W5 hj =>
        yield_any 8 (HYY.out s1 pre (a, E, c + D) W5 hj ⟨_, hHP.out⟩)
      clear hst hE hWd r1 r2 hud hab hbw
      gi_wp2_with fail
      refine ⟨trivial, ?_⟩
      refine (callsIn_wide.2 (NX.out wr (Below.refl _ _))).mono ?_
      rintro e w1 ⟨rfl, hb1⟩
      have HB1 := hidIt hb1
      have cb1 : w1.cell? ⟨ba, 0, none⟩ = some (.slice (some ⟨b, off, none⟩) zs.length cap) := (hb1.cell (p := ⟨ba, 0, none⟩) hal).trans cb
      clear NX hb1 cb
      gi_wp2_with fail
      refine ⟨trivial, ?_⟩
      refine (callsIn_wide.2 (WD.out w1 HB1.out)).mono ?_
      rintro e w2 ⟨rfl, hb2⟩
      have HB2 := hidIt (ext_trans HB1.out hb2)
      have hJ2 : G.J s1 pre w2 := G.stay s1 pre wr w2 HJ.out.1 HB2.out.size (fun k hk => HB2.out.block k (hk.elim (fun h => G.lives s1 pre wr HJ.out.1 k h) (fun h => Nat.lt_of_lt_of_le (HLN.out k h) HJ.out.2.1.size)))
      obtain ⟨fn, tmps, assign, body, hy, hR⟩ := HYD.out w2 hJ2
      have HRR := hidIt hR
      clear WD hb2 cb1 hR HYD hJ2
      simp only [plV, Int.natCast_add] at hy
      gi_wp2_with fail
      refine HRR.out.mono ?_
      clear hy HRR
      rintro e w3 (⟨rfl, s2, hJ3, k3, n3⟩ | ⟨rfl, s2, hx3, k3, n3⟩)
      · have HJ3 := hidIt hJ3
        have HK3 := hidIt ((HJ.out.2.1.next HJ.out.2.2 (Kps.of_below _ HB2.out)).next HJ.out.2.2 k3)
        have HN3 := hidIt (HJ.out.2.2.trans n3 (Nat.le_trans HJ.out.2.1.size HB2.out.size))
        clear hJ3 k3 n3
        gi_wp2_with fail
        exact ⟨⟨E, c + D, s2, pre ++ [(a, E, c + D)], rfl, by go_num, by omega, by omega, HIS.out, hHP.out, HJ3.out, HK3.out, HN3.out⟩, by simp [intOf]; omega⟩
      · have HX3 := hidIt hx3
        have HK3 := hidIt ((HJ.out.2.1.next HJ.out.2.2 (Kps.of_below _ HB2.out)).next HJ.out.2.2 k3)
        have HN3 := hidIt (HJ.out.2.2.trans n3 (Nat.le_trans HJ.out.2.1.size HB2.out.size))
        clear hx3 k3 n3
        gi_wp2_with fail
        refine bodyPost_ret (results_none rfl _ _ _) rfl ?_
        exact ⟨⟨_, rfl⟩, s2, HK3.out, HN3.out, .inr ⟨_, ⟨_, hHP.out⟩, HX3.out⟩⟩
    · have he : a = zs.length := by omega
      subst he
      gi_wp2_with fail
      refine bodyPost_end (results_none rfl _ _ _) rfl ?_
      have h := HP.out
      rw [Vw.ps_end zs _ _ (Nat.le_refl _), List.append_nil] at h
      exact ⟨⟨_, rfl⟩, s1, HJ.out.2.1, HJ.out.2.2, .inl ⟨_, h, HJ.out.1⟩⟩
end Go.Proofs.Ytcmglbgnpiociab.P
