/- Fill's reader in memory. -/
import Derived.Test.YtipnifenahhkoaaDoorFPure
import Derived.Test.YtipnifenahhkoaaDoorLawKit
import Derived.Deep.RegionHeld3
import Derived.LoopTactic
import Derived.Deep.Cut
import Derived.Deep.CutRange
import Derived.Deep.RegionWith
import Derived.BigQuiet
import Derived.WalkLawsBesides
namespace Go.Proofs.YtipnifenahhkoaaDoor
open Go.RowKit

/-- What a reader that gives up throws. -/
def gvP : List PanicEntry := [{ v := .iface 27 (.int .i64 100), recovered := false }]
/-- The filler's block. -/
def flC (sv : Value) (p : Nat) (lv : Value) (mt : List Int) : Array Value := #[sv, .int .i64 p, .int .i64 0, .int .i64 0, lv] ++ (mt.map (Value.int .i64)).toArray
/-- At block b lies a filler that has read p of rep. -/
structure Fl (w : World) (b : Nat) (sa : Option Addr) (sc : Nat) (rep : List Int) (p : Nat) (la : Option Addr) (lc : Nat) (line mt : List Int) : Prop where
  blk : w.heap[b]? = some (.cells (flC (.slice sa rep.length sc) p (.slice la line.length lc) mt) 37 (0, 0))
  rs : Rd .i64 w (.slice sa rep.length sc) rep
  rl : Rd .i64 w (.slice la line.length lc) line
  ml : mt.length = 20
  pl : p ≤ rep.length
  rl2 : rep.length ≤ 256
section
variable {w w' : World} {b : Nat} {sa : Option Addr} {sc : Nat} {rep : List Int} {p : Nat} {la : Option Addr} {lc : Nat} {line mt : List Int}
theorem Fl.lt (h : Fl w b sa sc rep p la lc line mt) : b < w.heap.size := (Array.getElem?_eq_some_iff.1 h.blk).1
theorem Fl.ext (h : Fl w b sa sc rep p la lc line mt) (hb : Below w.heap.size w w') : Fl w' b sa sc rep p la lc line mt :=
  ⟨(hb.block b h.lt).trans h.blk, h.rs.ext hb, h.rl.ext hb, h.ml, h.pl, h.rl2⟩
theorem Fl.cells (h : Fl w b sa sc rep p la lc line mt) : w.cell? ⟨b, 0, none⟩ = some (.slice sa rep.length sc) ∧ w.cell? ⟨b, 1, none⟩ = some (.int .i64 p) ∧ w.cell? ⟨b, 4, none⟩ = some (.slice la line.length lc) ∧ (∀ i, w.frozen? ⟨b, i, none⟩ = false) := by
  refine ⟨?_, ?_, ?_, fun i => by simp [World.frozen?, h.blk]⟩ <;> rw [cell_of_row w b _ _ _ _ h.blk] <;> simp [flC]
theorem Fl.mat (h : Fl w b sa sc rep p la lc line mt) (i : Nat) (hi : i < 20) : w.cell? ⟨b, 5 + i, none⟩ = some (.int .i64 (mt[i]?.getD 0)) := by
  rw [cell_of_row w b _ _ _ _ h.blk]
  unfold flC
  have hl := h.ml
  rw [Array.getElem?_append_right (by simp)]
  simp [hl, hi, show 5 + i - 5 = i by omega]
theorem Fl.at (h : Fl w b sa sc rep p la lc line mt) (i : Nat) (hi : i < rep.length) : ∃ sb so, sa = some ⟨sb, so, none⟩ ∧ w.cell? ⟨sb, so + i, none⟩ = some (.int .i64 (rep[i]?.getD 0)) := by
  obtain ⟨ao, cap, e, _, _, h3⟩ := h.rs
  cases e
  obtain ⟨sb, so, rfl, _, hc⟩ := h3 (List.length_pos_iff.1 (by omega))
  exact ⟨sb, so, rfl, hc i hi⟩
end
theorem hidIt {p : Prop} (h : p) : Hid p := h
theorem set1 {T : TypeId} {w : World} {g : Nat} {cs : Array Value} (hg : w.heap[g]? = some (.cells cs T (0, 0))) (i : Nat) (v : Value) : (w.setCell ⟨g, i, none⟩ v).heap[g]? = some (.cells (cs.setIfInBounds i v) T (0, 0)) ∧ w.grownBy (w.setCell ⟨g, i, none⟩ v) (some g) := by
  rw [setCell_eq_setRow w g i _ _ _ _ hg]
  exact ⟨setRow_heap w g _ _ T (0, 0) hg, ⟨rfl, rfl, rfl, by simp [World.setRow], fun j _ hk => setRow_other w g j _ (by intro e; subst e; exact hk rfl)⟩⟩
/-- What the filler reads lies elsewhere than the filler. -/
def Apt (b : Nat) (sa la : Option Addr) : Prop := (∀ k o, sa = some ⟨k, o, none⟩ → k ≠ b) ∧ ∀ k o, la = some ⟨k, o, none⟩ → k ≠ b
theorem rd_other {w w' : World} {b : Nat} {ao : Option Addr} {n c : Nat} {zs : List Int} (h : Rd .i64 w (.slice ao n c) zs) (hg : w.grownBy w' (some b)) (hn : ∀ k o, ao = some ⟨k, o, none⟩ → k ≠ b) : Rd .i64 w' (.slice ao n c) zs := by
  obtain ⟨ao', cap, e, h1, h2, h3⟩ := h
  cases e
  refine ⟨ao, c, rfl, h1, h2, fun hne => ?_⟩
  obtain ⟨k, o, rfl, hk, hc⟩ := h3 hne
  refine ⟨k, o, rfl, Nat.lt_of_lt_of_le hk hg.size, fun i hi => ?_⟩
  rw [← hc i hi]
  have := hg.block k hk (fun e => hn k o rfl (Option.some.inj e))
  unfold World.cell?
  simp only [this]
section
variable {w : World} {b : Nat} {sa : Option Addr} {sc : Nat} {rep : List Int} {p : Nat} {la : Option Addr} {lc : Nat} {line mt : List Int}
/-- The place moves on. -/
theorem Fl.move (h : Fl w b sa sc rep p la lc line mt) (ha : Apt b sa la) (q : Nat) (hq : q ≤ rep.length) : Fl (w.setCell ⟨b, 1, none⟩ (.int .i64 q)) b sa sc rep q la lc line mt ∧ w.grownBy (w.setCell ⟨b, 1, none⟩ (.int .i64 q)) (some b) := by
  obtain ⟨s, g⟩ := set1 h.blk 1 (.int .i64 q)
  refine ⟨⟨?_, rd_other h.rs g ha.1, rd_other h.rl g ha.2, h.ml, hq, h.rl2⟩, g⟩
  rw [s]
  unfold flC
  simp
end
theorem giveUp_any (v : Value) (w : World) : Calls Tryd.prog 45 #[v] w fun e w' => e = .panicked gvP ∧ w' = w := by
  go_enter Tryd.func45, Tryd.ntmps45
  go_wp2
  exact ⟨rfl, rfl, rfl⟩
set_option maxRecDepth 100000 in
theorem look_ok {w : World} {b : Nat} {sa : Option Addr} {sc : Nat} {rep : List Int} {p : Nat} {la : Option Addr} {lc : Nat} {line mt : List Int} (h : Fl w b sa sc rep p la lc line mt) (hp : p < rep.length) :
    Calls Tryd.prog 36 #[.pointer (some ⟨b, 0, none⟩)] w fun e w' => e = .returned (.int .i64 (rep[p]?.getD 0)) ∧ Below w.heap.size w w' := by
  obtain ⟨c0, c1, _, _⟩ := h.cells
  obtain ⟨sb, so, rfl, cp⟩ := h.at p hp
  have hne : ((p : Int) == (rep.length : Int)) = false := by simp; omega
  have hpi : (p : Int) < (rep.length : Int) := by omega
  have h2 := h.rl2
  generalize rep[p]?.getD 0 = x at *
  clear h
  go_enter Tryd.func36, Tryd.ntmps36
  go_wp2_with fail
  go_quiet (fail)
  go_wp2_with fail
  go_quiet (fail)
  go_wp2_with fail
  go_ret
  exact ⟨rfl, below_drewN (below_drewN (Below.refl _ _) _) _⟩
set_option maxRecDepth 100000 in
theorem look_no {w : World} {b : Nat} {sa : Option Addr} {sc : Nat} {rep : List Int} {p : Nat} {la : Option Addr} {lc : Nat} {line mt : List Int} (h : Fl w b sa sc rep p la lc line mt) (hp : p = rep.length) :
    Calls Tryd.prog 36 #[.pointer (some ⟨b, 0, none⟩)] w fun e w' => e = .panicked gvP ∧ Below w.heap.size w w' := by
  obtain ⟨c0, c1, _, _⟩ := h.cells
  have hne : ((p : Int) == (rep.length : Int)) = true := by simp; omega
  have h2 := h.rl2
  clear h hp
  go_enter Tryd.func36, Tryd.ntmps36
  go_wp2_with fail
  go_quiet (fail)
  go_wp2_with (go_at_call 45; refine (giveUp_any _ _).mono ?_; rintro e w1 ⟨rfl, rfl⟩; (try dsimp only))
  exact ⟨rfl, rfl, below_drewN (Below.refl _ _) _⟩
/-- What a reader's call leaves: the place, and what lay. -/
def MvR (w : World) (b : Nat) (sa : Option Addr) (sc : Nat) (rep : List Int) (q : Nat) (la : Option Addr) (lc : Nat) (line mt : List Int) (w' : World) : Prop := Fl w' b sa sc rep q la lc line mt ∧ w.grownBy w' (some b)
theorem grown_of {w w' : World} (h : Below w.heap.size w w') (k : Option Nat) : w.grownBy w' k := ⟨h.os, h.tape, h.output, h.size, fun j hj _ => h.block j hj⟩
theorem grown_trans {a b c : World} {k : Nat} (h : a.grownBy b (some k)) (h' : b.grownBy c (some k)) : a.grownBy c (some k) :=
  ⟨h'.os.trans h.os, h'.tape.trans h.tape, h'.output.trans h.output, Nat.le_trans h.size h'.size, fun j hj hk => (h'.block j (Nat.lt_of_lt_of_le hj h.size) hk).trans (h.block j hj hk)⟩
set_option maxRecDepth 100000 in
theorem take_ok {w : World} {b : Nat} {sa : Option Addr} {sc : Nat} {rep : List Int} {p : Nat} {la : Option Addr} {lc : Nat} {line mt : List Int} (h : Fl w b sa sc rep p la lc line mt) (ha : Apt b sa la) (hp : p < rep.length) :
    Calls Tryd.prog 29 #[.pointer (some ⟨b, 0, none⟩)] w fun e w' => e = .returned (.int .i64 (rep[p]?.getD 0)) ∧ MvR w b sa sc rep (p + 1) la lc line mt w' := by
  have HL := hidIt (look_ok h hp)
  have HF := hidIt h
  have HA := hidIt ha
  have hpb : p + 1 ≤ 256 := by have := h.rl2; omega
  have HP := hidIt hp
  generalize rep[p]?.getD 0 = x at *
  clear h ha hp
  go_enter Tryd.func29, Tryd.ntmps29
  go_upto_region 2 with (go_at_call 36; refine HL.out.mono ?_; rintro e w1 ⟨rfl, hb1⟩; (try dsimp only); have HB1 := hidIt hb1; clear hb1)
  have F1 := hidIt (HF.out.ext HB1.out)
  obtain ⟨_, c1, _, fz⟩ := F1.out.cells
  have MV := hidIt (F1.out.move HA.out (p + 1) (by have := HP.out; omega))
  have s1 : IntKind.i64.wrap ((p : Int) + 1) = ((p + 1 : Nat) : Int) := by rw [IntKind.wrap_i64]; omega
  go_wp2_with fail
  go_ret
  have e1 : ((p : Int) + 1) = ((p + 1 : Nat) : Int) := by omega
  first | (rw [e1]; exact ⟨rfl, MV.out.1, grown_trans (grown_of HB1.out _) MV.out.2⟩) | exact ⟨rfl, MV.out.1, grown_trans (grown_of HB1.out _) MV.out.2⟩
/-- Does the sign come next? -/
def isN (rep : List Int) (p : Nat) (s : Int) : Bool := decide (p < rep.length) && decide (rep[p]?.getD 0 = s)
set_option maxRecDepth 100000 in
theorem is_any {w : World} {b : Nat} {sa : Option Addr} {sc : Nat} {rep : List Int} {p : Nat} {la : Option Addr} {lc : Nat} {line mt : List Int} (h : Fl w b sa sc rep p la lc line mt) (g : Nat) (s : Int) (hg : w.cell? ⟨g, 0, none⟩ = some (.int .i64 s)) :
    Calls Tryd.prog 35 #[.pointer (some ⟨b, 0, none⟩), .slice (some ⟨g, 0, none⟩) 1 1] w fun e w' => e = .returned (.bool (isN rep p s)) ∧ Below w.heap.size w w' := by
  obtain ⟨c0, c1, _, _⟩ := h.cells
  have hgl : g < w.heap.size := World.block_lt_of_cell? w _ hg
  have h2 := h.rl2
  have h3 := h.pl
  have s1 : IntKind.i64.wrap ((rep.length : Int) - (p : Int)) = (rep.length : Int) - (p : Int) := by rw [IntKind.wrap_i64]; omega
  by_cases hp : p < rep.length
  · obtain ⟨sb, so, rfl, cp⟩ := h.at p hp
    have d1 : decide ((rep.length : Int) - (p : Int) < 1) = false := by simp; omega
    have hpi : (p : Int) < (rep.length : Int) := by omega
    have s2 : IntKind.i64.wrap ((p : Int) + 0) = (p : Int) := by rw [IntKind.wrap_i64]; omega
    have s3 : IntKind.i64.wrap (p : Int) = (p : Int) := by rw [IntKind.wrap_i64]; omega
    have HE : Hid (isN rep p s = decide (rep[p]?.getD 0 = s)) := by unfold Hid isN; rw [decide_eq_true hp]; rfl
    generalize rep[p]?.getD 0 = x at *
    clear h hp
    by_cases hx : x = s
    · have e1 : (x != s) = false := by simp [hx]
      have HE2 : Hid (isN rep p s = true) := by unfold Hid; rw [HE.out, decide_eq_true hx]
      clear HE hx
      go_enter Tryd.func35, Tryd.ntmps35
      go_wp2_with fail
      go_quiet (fail)
      go_wp2_with fail
      refine wp_loop_rounds 2 ?_
      rw [rounds_succ]
      go_wp2_with fail
      go_quiet (fail)
      go_wp2_with fail
      rw [rounds_succ]
      go_wp2_with fail
      go_ret
      exact ⟨ret_bool HE2.out.symm, (by first | exact below_drewN (below_drewN (Below.refl _ _) _) _ | exact below_drewN (Below.refl _ _) _)⟩
    · have e1 : (x != s) = true := by simp [hx]
      have HE2 : Hid (isN rep p s = false) := by unfold Hid; rw [HE.out, decide_eq_false hx]
      clear HE hx
      go_enter Tryd.func35, Tryd.ntmps35
      go_wp2_with fail
      go_quiet (fail)
      go_wp2_with fail
      refine wp_loop_rounds 1 ?_
      rw [rounds_succ]
      go_wp2_with fail
      go_quiet (fail)
      go_wp2_with fail
      go_ret
      exact ⟨ret_bool HE2.out.symm, (by first | exact below_drewN (below_drewN (Below.refl _ _) _) _ | exact below_drewN (Below.refl _ _) _)⟩
  · have d1 : decide ((rep.length : Int) - (p : Int) < 1) = true := by simp; omega
    have d2 : (rep.length : Int) - (p : Int) < 1 := by omega
    have HE : Hid (isN rep p s = false) := by unfold Hid isN; rw [decide_eq_false hp]; rfl
    clear h hp
    go_enter Tryd.func35, Tryd.ntmps35
    go_wp2_with fail
    go_quiet (fail)
    go_wp2_with fail
    go_ret
    exact ⟨ret_bool HE.out.symm, below_drewN (Below.refl _ _) _⟩
end Go.Proofs.YtipnifenahhkoaaDoor
