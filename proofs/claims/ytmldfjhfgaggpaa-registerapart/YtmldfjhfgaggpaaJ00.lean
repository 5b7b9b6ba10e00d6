import Derived.Test.YtmldfjhfgaggpaaRows
import Derived.WalkKit
import Derived.WalkSpells
import Derived.WalkLawsBesides
import Derived.StillTactics
import Derived.Deep.QuietTactic
import Derived.BigQuiet
import Derived.Outline
import Derived.LoopTactic
import Derived.Deep.Cut
import Derived.LoopN
import Derived.Deep.RegionWith
import Derived.Deep.RegionHeld3
import Derived.Laws.AppendOwnNone
import Derived.Lib.AppendZerosOnto
import Derived.Lib.Walk
import Derived.Lib.SliceRun
import Derived.Maps.OwnSet
/- Slices that are read, rows that are owned: small laws. -/
namespace Go.Proofs.Ytmldfjhfgaggpaa
open Go.RowKit

theorem Try.info_u8 : (Try.prog.info? 5).map (fun i => (i.zero, i.size, i.bytes)) = some (some (.int .u8 0), 1, 1) := by kernel_rfl
theorem Try.info_i64 : (Try.prog.info? 3).map (fun i => (i.zero, i.size, i.bytes)) = some (some (.int .i64 0), 1, 8) := by kernel_rfl

/-- The slice v reads as the numbers zs. -/
def Rd (k : IntKind) (w : World) (v : Value) (zs : List Int) : Prop :=
  ∃ ao cap, v = .slice ao zs.length cap ∧ zs.length ≤ cap ∧ cap ≤ maxLen ∧
    (zs ≠ [] → ∃ b off, ao = some ⟨b, off, none⟩ ∧ b < w.heap.size ∧ ∀ i, i < zs.length → w.cell? ⟨b, off + i, none⟩ = some (.int k (zs[i]?.getD 0)))

theorem Rd.ext {k : IntKind} {w w' : World} {v : Value} {zs : List Int} (h : Rd k w v zs) (hb : Below w.heap.size w w') : Rd k w' v zs := by
  obtain ⟨ao, cap, hv, h1, h2, h3⟩ := h
  refine ⟨ao, cap, hv, h1, h2, fun hn => ?_⟩
  obtain ⟨b, off, ha, hlt, hc⟩ := h3 hn
  exact ⟨b, off, ha, Nat.lt_of_lt_of_le hlt hb.size, fun i hi => (hb.cell (p := ⟨b, off + i, none⟩) hlt).trans (hc i hi)⟩

/-- All but one block of the elder memory stand: a slice that lies elsewhere reads as before. -/
theorem Rd.grown {k : IntKind} {w w' : World} {v : Value} {zs : List Int} {B : Nat} (h : Rd k w v zs) (hB : zs ≠ [] → ∀ b off n c, v = .slice (some ⟨b, off, none⟩) n c → b < B) (hb : Below B w w') : Rd k w' v zs := by
  obtain ⟨ao, cap, hv, h1, h2, h3⟩ := h
  refine ⟨ao, cap, hv, h1, h2, fun hn => ?_⟩
  obtain ⟨b, off, ha, hlt, hc⟩ := h3 hn
  have hlt' := hB hn b off zs.length cap (by rw [hv, ha])
  exact ⟨b, off, ha, Nat.lt_of_lt_of_le hlt hb.size, fun i hi => (hb.cell (p := ⟨b, off + i, none⟩) hlt').trans (hc i hi)⟩

theorem Rd.of_own {k : IntKind} {w : World} {base : Nat} {e : TypeId} {v : Value} {n : Nat} {zs : List Int} (h : w.ownsRow base e 1 v n (zs.map (Value.int k))) : Rd k w v zs := by
  obtain ⟨h1, h2⟩ := h
  simp at h1
  subst h1
  rcases h2 with ⟨rfl, hn⟩ | ⟨g, cap, cur, rfl, hb, hg, hn, hc, hs, ht⟩
  · exact ⟨none, 0, by rw [hn], by omega, by simp [maxLen], fun h => absurd (List.length_eq_zero_iff.1 hn) h⟩
  · refine ⟨_, cap, rfl, hn, hc, fun _ => ⟨g, 0, rfl, (Array.getElem?_eq_some_iff.1 hg).1, fun i hi => ?_⟩⟩
    rw [cell_of_row w g (0 + i) cur e (0, 0) hg]
    simp only [Nat.mul_one] at ht
    have : (cur.toList.take zs.length)[i]? = some (Value.int k (zs[i]?.getD 0)) := by rw [ht]; simp [hi]
    rw [List.getElem?_take, if_pos hi] at this
    simpa using this

theorem Rd.len {k : IntKind} {w : World} {v : Value} {zs : List Int} (h : Rd k w v zs) : zs.length ≤ 9223372036854775807 := by
  obtain ⟨ao, cap, hv, h1, h2, h3⟩ := h
  unfold maxLen at h2
  omega

theorem own_ext {w w' : World} {base : Nat} {e : TypeId} {size : Nat} {v : Value} {n : Nat} {xs : List Value} (h : w.ownsRow base e size v n xs) (hb : Below w.heap.size w w') : w'.ownsRow base e size v n xs :=
  h.kept (row := none) ⟨hb.os, hb.tape, hb.output, hb.size, fun k hk _ => hb.block k hk⟩ (by cases v.ownBlock <;> simp)

theorem ext_trans {a b c : World} (h : Below a.heap.size a b) (k : Below b.heap.size b c) : Below a.heap.size a c := h.trans (k.mono h.size)

theorem take_succ_map {k : IntKind} (zs : List Int) (i : Nat) (h : i < zs.length) : (zs.take i).map (Value.int k) ++ [Value.int k (zs[i]?.getD 0)] = (zs.take (i + 1)).map (Value.int k) := by
  rw [List.take_succ_eq_append_getElem h, List.map_append]
  simp [h]

/-- Behind 'append(out, x)' nothing elder has turned. -/
theorem below_push {w wr w' : World} {o : Obj} {e : TypeId} {size n : Nat} {v : Value} {xs : List Value} (hb : Below w.heap.size w wr) (hown : wr.ownsRow w.heap.size e size v n xs) (hg : (wr.alloc o).grownBy w' v.ownBlock) : Below w.heap.size w w' :=
  (hb.alloc hb.size o).grown hg (by have := hb.size; simp; omega) (fun k hk => (hown.lt k hk).1)

theorem one_u8 (x : Int) : ∀ u ∈ [Value.int .u8 x], u.oneCell' = true := by intro u hu; simp at hu; subst hu; rfl
theorem one_i64 (x : Int) : ∀ u ∈ [Value.int .i64 x], u.oneCell' = true := by intro u hu; simp at hu; subst hu; rfl
end Go.Proofs.Ytmldfjhfgaggpaa

/- Registers: what all texts of this stage lean on. -/
namespace Go.Proofs.Ytmldfjhfgaggpaa
open Go.RowKit

/-- A fact out of the walks' sight. -/
def Hid (p : Prop) : Prop := p
theorem Hid.out {p : Prop} (h : Hid p) : p := h
theorem hidIt {p : Prop} (h : p) : Hid p := h
theorem ret_int {k : IntKind} {a b : Int} (h : a = b) : Ending.returned (.int k a) = .returned (.int k b) := by rw [h]
theorem ret_bool {a b : Bool} (h : a = b) : Ending.returned (.bool a) = .returned (.bool b) := by rw [h]
theorem ext_alloc {a b : World} (h : Below a.heap.size a b) (o : Obj) : Below a.heap.size a (b.alloc o) := h.alloc h.size o
theorem set1 {T : TypeId} {w : World} {g : Nat} {cs : Array Value} (hg : w.heap[g]? = some (.cells cs T (0, 0))) (i : Nat) (v : Value) : (w.setCell ⟨g, i, none⟩ v).heap[g]? = some (.cells (cs.setIfInBounds i v) T (0, 0)) ∧ w.grownBy (w.setCell ⟨g, i, none⟩ v) (some g) := by
  rw [setCell_eq_setRow w g i _ _ _ _ hg]
  exact ⟨setRow_heap w g _ _ T (0, 0) hg, ⟨rfl, rfl, rfl, by simp [World.setRow], fun j _ hk => setRow_other w g j _ (by intro e; subst e; exact hk rfl)⟩⟩
theorem grown_trans {a b c : World} {k : Nat} (h : a.grownBy b (some k)) (h' : b.grownBy c (some k)) : a.grownBy c (some k) :=
  ⟨h'.os.trans h.os, h'.tape.trans h.tape, h'.output.trans h.output, Nat.le_trans h.size h'.size, fun j hj hk => (h'.block j (Nat.lt_of_lt_of_le hj h.size) hk).trans (h.block j hj hk)⟩
theorem below_put {B : Nat} {w wr w' : World} {g : Nat} (hb : Below B w wr) (hB : B ≤ wr.heap.size) (hg : wr.grownBy w' (some g)) (hk : B ≤ g) : Below B w w' :=
  hb.grown hg hB (fun k e => by cases e; exact hk)

/-- From W to W' nothing that lay has turned but the blocks that own tells. -/
structure Kps (own : Nat → Prop) (W W' : World) : Prop where
  os : W'.os = W.os
  tape : W'.tape = W.tape
  output : W'.output = W.output
  size : W.heap.size ≤ W'.heap.size
  same : ∀ k, k < W.heap.size → ¬ own k → W'.heap[k]? = W.heap[k]?
theorem Kps.refl (own : Nat → Prop) (W : World) : Kps own W W := ⟨rfl, rfl, rfl, Nat.le_refl _, fun _ _ _ => rfl⟩
theorem Kps.trans {o p : Nat → Prop} {A B C : World} (h : Kps o A B) (k : Kps p B C) (hp : ∀ i, i < A.heap.size → p i → o i) : Kps o A C :=
  ⟨k.os.trans h.os, k.tape.trans h.tape, k.output.trans h.output, Nat.le_trans h.size k.size, fun i hi ho => (k.same i (Nat.lt_of_lt_of_le hi h.size) (fun e => ho (hp i hi e))).trans (h.same i hi ho)⟩
theorem Kps.below {o : Nat → Prop} {A B : World} (h : Kps o A B) {n : Nat} (hn : n ≤ A.heap.size) (ho : ∀ k, o k → n ≤ k) : Below n A B :=
  ⟨h.os, h.tape, h.output, h.size, fun k hk => h.same k (Nat.lt_of_lt_of_le hk hn) (fun e => by have := ho k e; omega)⟩
theorem Kps.of_below {A B : World} (o : Nat → Prop) (h : Below A.heap.size A B) : Kps o A B := ⟨h.os, h.tape, h.output, h.size, fun k hk _ => h.block k hk⟩
theorem Kps.mono {o p : Nat → Prop} {A B : World} (h : Kps o A B) (hp : ∀ i, i < A.heap.size → o i → p i) : Kps p A B := ⟨h.os, h.tape, h.output, h.size, fun k hk hn => h.same k hk (fun e => hn (hp k hk e))⟩
theorem Kps.grown {o : Nat → Prop} {A B : World} {row : Option Nat} (h : A.grownBy B row) (hr : ∀ k, row = some k → k < A.heap.size → o k) : Kps o A B :=
  ⟨h.os, h.tape, h.output, h.size, fun k hk hn => h.block k hk (fun e => hn (hr k e.symm hk))⟩

/-- A row of ints of the call's own. -/
def OwnI (w : World) (base : Nat) (v : Value) (zs : List Int) : Prop := w.ownsRow base 3 1 v zs.length (zs.map (Value.int .i64))
theorem OwnI.rd {w : World} {base : Nat} {v : Value} {zs : List Int} (h : OwnI w base v zs) : Rd .i64 w v zs := Rd.of_own h
theorem OwnI.ext {w w' : World} {base : Nat} {v : Value} {zs : List Int} (h : OwnI w base v zs) (hb : Below w.heap.size w w') : OwnI w' base v zs := own_ext h hb
theorem OwnI.le {w : World} {base base' : Nat} {v : Value} {zs : List Int} (h : OwnI w base v zs) (hb : base' ≤ base) : OwnI w base' v zs := by
  obtain ⟨h1, h2⟩ := h
  refine ⟨h1, ?_⟩
  rcases h2 with h2 | ⟨g, cap, cur, hv, hg, r⟩
  · exact .inl h2
  · exact .inr ⟨g, cap, cur, hv, Nat.le_trans hb hg, r⟩
theorem OwnI.nil (w : World) (base : Nat) : OwnI w base (.slice none 0 0) [] := ⟨rfl, .inl ⟨rfl, rfl⟩⟩

/-- A slice as Go makes it: nil, or it lies somewhere. -/
def Sl (v : Value) : Prop := v = .slice none 0 0 ∨ ∃ a n c, v = .slice (some a) n c
theorem Sl.of_own {w : World} {base : Nat} {e : TypeId} {size n : Nat} {v : Value} {xs : List Value} (h : w.ownsRow base e size v n xs) : Sl v := by
  rcases h.2 with ⟨rfl, _⟩ | ⟨g, cap, cur, rfl, _⟩
  · exact .inl rfl
  · exact .inr ⟨_, _, _, rfl⟩
theorem rd_cells {w : World} {a : Addr} {n c : Nat} {zs : List Int} {k : IntKind} (h : Rd k w (.slice (some a) n c) zs) : n = zs.length ∧ ∀ j u, (zs.map (Value.int k))[j]? = some u → w.cell? (a.add j) = some u := by
  obtain ⟨ao, cap, hv, h1, h2, h3⟩ := h
  cases hv
  refine ⟨rfl, fun j u hj => ?_⟩
  have hjl : j < zs.length := by
    have := (List.getElem?_eq_some_iff.1 hj).1
    simpa using this
  have hne : zs ≠ [] := by intro h; subst h; simp at hjl
  obtain ⟨b', off', ha, _, hc⟩ := h3 hne
  cases ha
  rw [Addr.add_lit, hc j hjl]
  rw [List.getElem?_map] at hj
  obtain ⟨z, hz, rfl⟩ := Option.map_eq_some_iff.1 hj
  rw [hz]
  rfl
theorem one_all (k : IntKind) (zs : List Int) : ∀ u ∈ zs.map (Value.int k), u.oneCell' = true := by
  intro u hu
  obtain ⟨z, _, rfl⟩ := List.mem_map.1 hu
  rfl
/-- What is read and lies as Go makes it. -/
def RdS (w : World) (v : Value) (zs : List Int) : Prop := Rd .i64 w v zs ∧ Sl v
theorem RdS.ext {w w' : World} {v : Value} {zs : List Int} (h : RdS w v zs) (hb : Below w.heap.size w w') : RdS w' v zs := ⟨h.1.ext hb, h.2⟩
theorem OwnI.rds {w : World} {base : Nat} {v : Value} {zs : List Int} (h : OwnI w base v zs) : RdS w v zs := ⟨h.rd, Sl.of_own h⟩
theorem RdS.len {w : World} {v : Value} {zs : List Int} (h : RdS w v zs) : ∃ ao c, v = .slice ao zs.length c ∧ zs.length ≤ 9223372036854775807 := by
  obtain ⟨⟨ao, cap, hv, h1, h2, _⟩, _⟩ := h
  exact ⟨ao, cap, hv, by unfold maxLen at h2; omega⟩

section
variable {P : Program} {W : World} {ops : Array Oper} {rest : List Oper} {o : Oper} {a : Act} {Q : Exit → Act → World → Prop}
/-- append(v, s...), of ints: s any slice that is read. -/
theorem wpl_ints (hgd : o.guard = none) (s x : Operand) (t : TypeId) (ho : o.op = .call { callee := .builtin .append, args := #[s, x], argTypes := #[t, t] })
    (base : Nat) (hinf : (P.info? 3).map (fun i => (i.zero, i.size, i.bytes)) = some (some (.int .i64 0), 1, 8)) (ht : P.underlying t = some (.slice 3))
    (v : Value) (zs : List Int) (hs : a.eval s = v) (hown : OwnI W base v zs) (u : Value) (ys : List Int) (hx : a.eval x = u) (hu : RdS W u ys) (hl : (zs.length + ys.length) * 8 ≤ 140737488355328) (hbase : base ≤ W.heap.size)
    (h : ∀ v' w', OwnI w' base v' (zs ++ ys) → Below base W w' → wpList P ops Q rest (a.put o.dst v') w') : wpList P ops Q (o :: rest) a W := by
  obtain ⟨i0, hi, hz0, hz1, hz2⟩ := info_parts hinf
  obtain ⟨hr, hsl⟩ := hu
  rcases hsl with rfl | ⟨ad, n, c, rfl⟩
  · have : ys = [] := by
      obtain ⟨ao, cap, hv, _⟩ := hr
      have : ys.length = 0 := by injection hv with _ h2 _; omega
      exact List.length_eq_zero_iff.1 this
    subst this
    refine wpList_append_own_none hgd s x t ho base 3 i0 1 ht hi v zs.length (zs.map (Value.int .i64)) hs hown hx ?_
    exact h v W (by rw [List.append_nil]; exact hown) (Below.refl _ _)
  · obtain ⟨hn, hc⟩ := rd_cells hr
    subst hn
    refine wpList_append_own W hgd s x t ho base 3 i0 (.int .i64 0) 1 8 ht hi hz0 hz1 hz2 rfl (by decide) v zs.length (zs.map (Value.int .i64)) hs hown ad ys.length c (ys.map (Value.int .i64)) hx (by simp) hc (one_all _ _) (by unfold maxLen; omega) (by omega) hbase ?_
    intro v' w' h1 h2 _
    refine h v' w' ?_ ((Below.refl _ _).grown h2 hbase (fun k hk => (World.ownsRow.lt hown k hk).1))
    unfold OwnI
    rw [List.length_append, List.map_append]
    exact h1
end
end Go.Proofs.Ytmldfjhfgaggpaa

/- Registers' names: what is told of a number alone. -/
namespace Go.Proofs.Ytmldfjhfgaggpaa
open Go.RowKit

def smB (n : Int) : Bool := decide (97 ≤ n) && decide (n ≤ 122)
def grB (n : Int) : Bool := decide (65 ≤ n) && decide (n ≤ 90)
def dgB (n : Int) : Bool := decide (48 ≤ n) && decide (n ≤ 57)
def unB (n : Int) : Bool := (n == 34) || (n == 0)
def rdB (n : Int) : Bool := (n == 46) || (n == 58) || (n == 47)
def brB (n : Int) : Bool := (n == 10) || (n == 13)
def nmB (n : Int) : Bool := smB n || grB n || dgB n || unB n || rdB n || (n == 45) || (n == 95)
def sml (n : Int) : Int := if grB n = true then n + 32 else n
def refE (n k : Int) : Int := if nmB n = true then (if rdB n = true then 111 else if (k != 0 && k != 1) = true then 1 else 0) else 110

set_option maxRecDepth 100000 in
theorem isSmall_any (n : Int) (w : World) : Calls Try.prog 56 #[.int .i64 n] w fun e w' => e = .returned (.bool (smB n)) ∧ w = w' := by
  unfold smB
  by_cases h1 : n ≥ 97
  · by_cases h2 : n ≤ 122
    · go_enter Try.func56, Try.ntmps56
      go_wp2
      go_ret
      exact ⟨ret_bool (by simp; omega), rfl⟩
    · go_enter Try.func56, Try.ntmps56
      go_wp2
      go_ret
      exact ⟨ret_bool (by simp; omega), rfl⟩
  · go_enter Try.func56, Try.ntmps56
    go_wp2
    go_ret
    exact ⟨ret_bool (by simp; omega), rfl⟩
set_option maxRecDepth 100000 in
theorem isGreat_any (n : Int) (w : World) : Calls Try.prog 41 #[.int .i64 n] w fun e w' => e = .returned (.bool (grB n)) ∧ w = w' := by
  unfold grB
  by_cases h1 : n ≥ 65
  · by_cases h2 : n ≤ 90
    · go_enter Try.func41, Try.ntmps41
      go_wp2
      go_ret
      exact ⟨ret_bool (by simp; omega), rfl⟩
    · go_enter Try.func41, Try.ntmps41
      go_wp2
      go_ret
      exact ⟨ret_bool (by simp; omega), rfl⟩
  · go_enter Try.func41, Try.ntmps41
    go_wp2
    go_ret
    exact ⟨ret_bool (by simp; omega), rfl⟩
set_option maxRecDepth 100000 in
theorem isDigit_any (n : Int) (w : World) : Calls Try.prog 57 #[.int .i64 n] w fun e w' => e = .returned (.bool (dgB n)) ∧ w = w' := by
  unfold dgB
  by_cases h1 : n ≥ 48
  · by_cases h2 : n ≤ 57
    · go_enter Try.func57, Try.ntmps57
      go_wp2
      go_ret
      exact ⟨ret_bool (by simp; omega), rfl⟩
    · go_enter Try.func57, Try.ntmps57
      go_wp2
      go_ret
      exact ⟨ret_bool (by simp; omega), rfl⟩
  · go_enter Try.func57, Try.ntmps57
    go_wp2
    go_ret
    exact ⟨ret_bool (by simp; omega), rfl⟩
set_option maxRecDepth 100000 in
theorem isUnnamed_any (n : Int) (w : World) : Calls Try.prog 33 #[.int .i64 n] w fun e w' => e = .returned (.bool (unB n)) ∧ w = w' := by
  unfold unB
  by_cases h0 : n = 34
  · subst h0
    go_enter Try.func33, Try.ntmps33
    go_wp2
    go_ret
    exact ⟨ret_bool (by simp), rfl⟩
  have b0 : (n == 34) = false := by simp [h0]
  by_cases h1 : n = 0
  · subst h1
    go_enter Try.func33, Try.ntmps33
    go_wp2
    go_ret
    exact ⟨ret_bool (by simp), rfl⟩
  have b1 : (n == 0) = false := by simp [h1]
  go_enter Try.func33, Try.ntmps33
  go_wp2
  go_ret
  exact ⟨ret_bool (by simp [b0, b1]), rfl⟩
set_option maxRecDepth 100000 in
theorem isOnlyRead_any (n : Int) (w : World) : Calls Try.prog 52 #[.int .i64 n] w fun e w' => e = .returned (.bool (rdB n)) ∧ w = w' := by
  unfold rdB
  by_cases h0 : n = 46
  · subst h0
    go_enter Try.func52, Try.ntmps52
    go_wp2
    go_ret
    exact ⟨ret_bool (by simp), rfl⟩
  have b0 : (n == 46) = false := by simp [h0]
  by_cases h1 : n = 58
  · subst h1
    go_enter Try.func52, Try.ntmps52
    go_wp2
    go_ret
    exact ⟨ret_bool (by simp), rfl⟩
  have b1 : (n == 58) = false := by simp [h1]
  by_cases h2 : n = 47
  · subst h2
    go_enter Try.func52, Try.ntmps52
    go_wp2
    go_ret
    exact ⟨ret_bool (by simp), rfl⟩
  have b2 : (n == 47) = false := by simp [h2]
  go_enter Try.func52, Try.ntmps52
  go_wp2
  go_ret
  exact ⟨ret_bool (by simp [b0, b1, b2]), rfl⟩
set_option maxRecDepth 100000 in
theorem isBreak_any (n : Int) (w : World) : Calls Try.prog 36 #[.int .i64 n] w fun e w' => e = .returned (.bool (brB n)) ∧ w = w' := by
  unfold brB
  by_cases h0 : n = 10
  · subst h0
    go_enter Try.func36, Try.ntmps36
    go_wp2
    go_ret
    exact ⟨ret_bool (by simp), rfl⟩
  have b0 : (n == 10) = false := by simp [h0]
  by_cases h1 : n = 13
  · subst h1
    go_enter Try.func36, Try.ntmps36
    go_wp2
    go_ret
    exact ⟨ret_bool (by simp), rfl⟩
  have b1 : (n == 13) = false := by simp [h1]
  go_enter Try.func36, Try.ntmps36
  go_wp2
  go_ret
  exact ⟨ret_bool (by simp [b0, b1]), rfl⟩
set_option maxRecDepth 100000 in
set_option maxHeartbeats 1000000 in
theorem isName_any (n : Int) (w : World) : Calls Try.prog 38 #[.int .i64 n] w fun e w' => e = .returned (.bool (nmB n)) ∧ w = w' := by
  have C0 := hidIt (isSmall_any n w)
  have C1 := hidIt (isGreat_any n w)
  have C2 := hidIt (isDigit_any n w)
  have C3 := hidIt (isUnnamed_any n w)
  have C4 := hidIt (isOnlyRead_any n w)
  cases x0 : smB n
  case true =>
    have hn : nmB n = true := by unfold nmB; simp [x0]
    rw [hn]
    go_enter Try.func38, Try.ntmps38
    go_wp2_with (first | (go_at_call 56; rw [x0] at C0; refine C0.out.mono ?_; rintro e w1 ⟨rfl, rfl⟩; (try dsimp only)))
    go_ret
    exact ⟨rfl, rfl⟩
  cases x1 : grB n
  case true =>
    have hn : nmB n = true := by unfold nmB; simp [x0, x1]
    rw [hn]
    go_enter Try.func38, Try.ntmps38
    go_wp2_with (first | (go_at_call 56; rw [x0] at C0; refine C0.out.mono ?_; rintro e w1 ⟨rfl, rfl⟩; (try dsimp only)) | (go_at_call 41; rw [x1] at C1; refine C1.out.mono ?_; rintro e w1 ⟨rfl, rfl⟩; (try dsimp only)))
    go_ret
    exact ⟨rfl, rfl⟩
  cases x2 : dgB n
  case true =>
    have hn : nmB n = true := by unfold nmB; simp [x0, x1, x2]
    rw [hn]
    go_enter Try.func38, Try.ntmps38
    go_wp2_with (first | (go_at_call 56; rw [x0] at C0; refine C0.out.mono ?_; rintro e w1 ⟨rfl, rfl⟩; (try dsimp only)) | (go_at_call 41; rw [x1] at C1; refine C1.out.mono ?_; rintro e w1 ⟨rfl, rfl⟩; (try dsimp only)) | (go_at_call 57; rw [x2] at C2; refine C2.out.mono ?_; rintro e w1 ⟨rfl, rfl⟩; (try dsimp only)))
    go_ret
    exact ⟨rfl, rfl⟩
  cases x3 : unB n
  case true =>
    have hn : nmB n = true := by unfold nmB; simp [x0, x1, x2, x3]
    rw [hn]
    go_enter Try.func38, Try.ntmps38
    go_wp2_with (first | (go_at_call 56; rw [x0] at C0; refine C0.out.mono ?_; rintro e w1 ⟨rfl, rfl⟩; (try dsimp only)) | (go_at_call 41; rw [x1] at C1; refine C1.out.mono ?_; rintro e w1 ⟨rfl, rfl⟩; (try dsimp only)) | (go_at_call 57; rw [x2] at C2; refine C2.out.mono ?_; rintro e w1 ⟨rfl, rfl⟩; (try dsimp only)) | (go_at_call 33; rw [x3] at C3; refine C3.out.mono ?_; rintro e w1 ⟨rfl, rfl⟩; (try dsimp only)))
    go_ret
    exact ⟨rfl, rfl⟩
  cases x4 : rdB n
  case true =>
    have hn : nmB n = true := by unfold nmB; simp [x0, x1, x2, x3, x4]
    rw [hn]
    go_enter Try.func38, Try.ntmps38
    go_wp2_with (first | (go_at_call 56; rw [x0] at C0; refine C0.out.mono ?_; rintro e w1 ⟨rfl, rfl⟩; (try dsimp only)) | (go_at_call 41; rw [x1] at C1; refine C1.out.mono ?_; rintro e w1 ⟨rfl, rfl⟩; (try dsimp only)) | (go_at_call 57; rw [x2] at C2; refine C2.out.mono ?_; rintro e w1 ⟨rfl, rfl⟩; (try dsimp only)) | (go_at_call 33; rw [x3] at C3; refine C3.out.mono ?_; rintro e w1 ⟨rfl, rfl⟩; (try dsimp only)) | (go_at_call 52; rw [x4] at C4; refine C4.out.mono ?_; rintro e w1 ⟨rfl, rfl⟩; (try dsimp only)))
    go_ret
    exact ⟨rfl, rfl⟩
  by_cases h0 : n = 45
  · have hn : nmB n = true := by unfold nmB; simp [h0]
    rw [hn]
    have b0 : (n == 45) = true := by simp [h0]
    clear h0 hn
    go_enter Try.func38, Try.ntmps38
    go_wp2_with (first | (go_at_call 56; rw [x0] at C0; refine C0.out.mono ?_; rintro e w1 ⟨rfl, rfl⟩; (try dsimp only)) | (go_at_call 41; rw [x1] at C1; refine C1.out.mono ?_; rintro e w1 ⟨rfl, rfl⟩; (try dsimp only)) | (go_at_call 57; rw [x2] at C2; refine C2.out.mono ?_; rintro e w1 ⟨rfl, rfl⟩; (try dsimp only)) | (go_at_call 33; rw [x3] at C3; refine C3.out.mono ?_; rintro e w1 ⟨rfl, rfl⟩; (try dsimp only)) | (go_at_call 52; rw [x4] at C4; refine C4.out.mono ?_; rintro e w1 ⟨rfl, rfl⟩; (try dsimp only)))
    go_ret
    exact ⟨ret_bool (by simp [*]), rfl⟩
  have b0 : (n == 45) = false := by simp [h0]
  by_cases h1 : n = 95
  · have hn : nmB n = true := by unfold nmB; simp [h1]
    rw [hn]
    have b1 : (n == 95) = true := by simp [h1]
    clear h1 hn
    go_enter Try.func38, Try.ntmps38
    go_wp2_with (first | (go_at_call 56; rw [x0] at C0; refine C0.out.mono ?_; rintro e w1 ⟨rfl, rfl⟩; (try dsimp only)) | (go_at_call 41; rw [x1] at C1; refine C1.out.mono ?_; rintro e w1 ⟨rfl, rfl⟩; (try dsimp only)) | (go_at_call 57; rw [x2] at C2; refine C2.out.mono ?_; rintro e w1 ⟨rfl, rfl⟩; (try dsimp only)) | (go_at_call 33; rw [x3] at C3; refine C3.out.mono ?_; rintro e w1 ⟨rfl, rfl⟩; (try dsimp only)) | (go_at_call 52; rw [x4] at C4; refine C4.out.mono ?_; rintro e w1 ⟨rfl, rfl⟩; (try dsimp only)))
    go_ret
    exact ⟨ret_bool (by simp [*]), rfl⟩
  have b1 : (n == 95) = false := by simp [h1]
  have hn : nmB n = false := by unfold nmB; simp [x0, x1, x2, x3, x4, b0, b1]
  rw [hn]
  clear hn
  go_enter Try.func38, Try.ntmps38
  go_wp2_with (first | (go_at_call 56; rw [x0] at C0; refine C0.out.mono ?_; rintro e w1 ⟨rfl, rfl⟩; (try dsimp only)) | (go_at_call 41; rw [x1] at C1; refine C1.out.mono ?_; rintro e w1 ⟨rfl, rfl⟩; (try dsimp only)) | (go_at_call 57; rw [x2] at C2; refine C2.out.mono ?_; rintro e w1 ⟨rfl, rfl⟩; (try dsimp only)) | (go_at_call 33; rw [x3] at C3; refine C3.out.mono ?_; rintro e w1 ⟨rfl, rfl⟩; (try dsimp only)) | (go_at_call 52; rw [x4] at C4; refine C4.out.mono ?_; rintro e w1 ⟨rfl, rfl⟩; (try dsimp only)))
  go_ret
  exact ⟨ret_bool (by simp), rfl⟩
set_option maxRecDepth 100000 in
theorem small_any (n : Int) (w : World) : Calls Try.prog 42 #[.int .i64 n] w fun e w' => e = .returned (.int .i64 (sml n)) ∧ w = w' := by
  have C := hidIt (isGreat_any n w)
  unfold sml
  cases x : grB n
  · rw [if_neg (by simp)]
    go_enter Try.func42, Try.ntmps42
    go_wp2_with (go_at_call 41; rw [x] at C; refine C.out.mono ?_; rintro e w1 ⟨rfl, rfl⟩; (try dsimp only))
    go_ret
    exact ⟨rfl, rfl⟩
  · rw [if_pos rfl]
    have hr : 65 ≤ n ∧ n ≤ 90 := by unfold grB at x; simpa using x
    have r1 : IntKind.i64.wrap (n - 65) = n - 65 := by rw [IntKind.wrap_i64]; omega
    have r2 : IntKind.i64.wrap (n - 65 + 97) = n - 65 + 97 := by rw [IntKind.wrap_i64]; omega
    go_enter Try.func42, Try.ntmps42
    go_wp2_with (go_at_call 41; rw [x] at C; refine C.out.mono ?_; rintro e w1 ⟨rfl, rfl⟩; (try dsimp only))
    go_ret
    exact ⟨ret_int (by omega), rfl⟩
set_option maxRecDepth 100000 in
theorem refused_any (n k : Int) (w : World) : Calls Try.prog 32 #[.int .i64 n, .int .i64 k] w fun e w' => e = .returned (.int .i64 (refE n k)) ∧ w = w' := by
  have C := hidIt (isName_any n w)
  have D := hidIt (isOnlyRead_any n w)
  unfold refE
  cases x : nmB n
  · rw [if_neg (by simp)]
    go_enter Try.func32, Try.ntmps32
    go_wp2_with (go_at_call 38; rw [x] at C; refine C.out.mono ?_; rintro e w1 ⟨rfl, rfl⟩; (try dsimp only))
    go_ret
    exact ⟨rfl, rfl⟩
  rw [if_pos rfl]
  cases y : rdB n
  case true =>
    rw [if_pos rfl]
    go_enter Try.func32, Try.ntmps32
    go_wp2_with (first | (go_at_call 38; rw [x] at C; refine C.out.mono ?_; rintro e w1 ⟨rfl, rfl⟩; (try dsimp only)) | (go_at_call 52; rw [y] at D; refine D.out.mono ?_; rintro e w1 ⟨rfl, rfl⟩; (try dsimp only)))
    go_ret
    exact ⟨rfl, rfl⟩
  rw [if_neg (by simp)]
  by_cases h0 : k = 0
  · subst h0
    go_enter Try.func32, Try.ntmps32
    go_wp2_with (first | (go_at_call 38; rw [x] at C; refine C.out.mono ?_; rintro e w1 ⟨rfl, rfl⟩; (try dsimp only)) | (go_at_call 52; rw [y] at D; refine D.out.mono ?_; rintro e w1 ⟨rfl, rfl⟩; (try dsimp only)))
    go_ret
    exact ⟨rfl, rfl⟩
  by_cases h1 : k = 1
  · subst h1
    go_enter Try.func32, Try.ntmps32
    go_wp2_with (first | (go_at_call 38; rw [x] at C; refine C.out.mono ?_; rintro e w1 ⟨rfl, rfl⟩; (try dsimp only)) | (go_at_call 52; rw [y] at D; refine D.out.mono ?_; rintro e w1 ⟨rfl, rfl⟩; (try dsimp only)))
    go_ret
    exact ⟨rfl, rfl⟩
  have b0 : (k != 0) = true := by simp [h0]
  have b1 : (k != 1) = true := by simp [h1]
  rw [if_pos (by rw [b0, b1]; rfl)]
  go_enter Try.func32, Try.ntmps32
  go_wp2_with (first | (go_at_call 38; rw [x] at C; refine C.out.mono ?_; rintro e w1 ⟨rfl, rfl⟩; (try dsimp only)) | (go_at_call 52; rw [y] at D; refine D.out.mono ?_; rintro e w1 ⟨rfl, rfl⟩; (try dsimp only)))
  go_ret
  exact ⟨rfl, rfl⟩
end Go.Proofs.Ytmldfjhfgaggpaa

/- slices.Grow of nil, slices.Concat, slices.Clone. -/
namespace Go.Proofs.Ytmldfjhfgaggpaa
open Go.RowKit Go.Lib

set_option maxRecDepth 100000 in
set_option maxHeartbeats 1000000 in
theorem grow_any (n : Nat) (h0 : 0 < n) (hn : n * 8 ≤ 140737488355328) (w : World) :
    Calls Try.prog 100 #[.slice none 0 0, .int .i64 n] w fun e w' => ∃ v, e = .returned v ∧ OwnI w' w.heap.size v [] ∧ Below w.heap.size w w' := by
  obtain ⟨i0, hi, hz0, hz1, hz2⟩ := info_parts Try.info_i64
  have hrz : ∀ ty, (Builtin.append_ #[29, 3] ty #[.slice none 0 0, .int .i64 n]).run Try.prog w = _ := fun ty => by
    have h := Lib.run_append_grow_zeros w 29 3 ty 3 i0 (.int .i64 0) .i64 .i64 Try.underlying29 Try.underlying3 hi hz0 none 0 0 [] (run_firstCells_none w.drew i0.size 0 0 0) n h0 (by omega) (by omega) (by omega)
      (by rw [hz2]; omega) (by rw [hz2]; exact growslice_fits (by omega) (by omega))
    exact h
  simp only [Nat.zero_add] at hrz
  have hGn : n ≤ grownCap w n 0 3 := grownCap_ge w _ _ _
  have hG63 : grownCap w n 0 3 ≤ 9223372036854775807 := by
    have := grownCap_le_maxLen w n 0 3 (by unfold maxLen; omega)
    unfold maxLen at this
    omega
  generalize grownCap w n 0 3 = G at *
  go_enter Try.func100, Try.ntmps100
  go_wp2_with (at_builtin; refine Lib.wpList_append_run _ rfl _ _ _ _ rfl _ _ rfl rfl _ _ (hrz _) ?_)
  all_goals
    go_ret
    refine ⟨_, rfl, ⟨rfl, .inr ⟨w.heap.size, G, _, rfl, Nat.le_refl _, heap_alloc_new w _, Nat.zero_le _, by unfold maxLen; omega, by simp [Builtin.zeroCells]; omega, by simp⟩⟩, ((Below.refl _ _).alloc (Nat.le_refl _) _).drew⟩

/-- The slices of a row, as they are read. -/
def Row (w : World) (B : Nat) (xs : List (Value × List Int)) : Prop := B < w.heap.size ∧ ∀ i p, xs[i]? = some p → w.cell? ⟨B, i, none⟩ = some p.1 ∧ RdS w p.1 p.2
theorem Row.ext {w w' : World} {B : Nat} {xs : List (Value × List Int)} (h : Row w B xs) (hb : Below w.heap.size w w') : Row w' B xs :=
  ⟨Nat.lt_of_lt_of_le h.1 hb.size, fun i p hp => ⟨(hb.cell (p := ⟨B, i, none⟩) h.1).trans (h.2 i p hp).1, (h.2 i p hp).2.ext hb⟩⟩
def cat (xs : List (Value × List Int)) : List Int := (xs.map Prod.snd).flatten
theorem cat_succ (xs : List (Value × List Int)) (k : Nat) (p : Value × List Int) (h : xs[k]? = some p) : cat (xs.take (k + 1)) = cat (xs.take k) ++ p.2 := by
  obtain ⟨hk, rfl⟩ := List.getElem?_eq_some_iff.1 h
  unfold cat
  rw [List.take_succ_eq_append_getElem hk, List.map_append, List.flatten_append]
  simp
theorem cat_le (xs : List (Value × List Int)) (k : Nat) : (cat (xs.take k)).length ≤ (cat xs).length := by
  have : cat xs = cat (xs.take k) ++ cat (xs.drop k) := by unfold cat; rw [← List.flatten_append, ← List.map_append, List.take_append_drop]
  rw [this, List.length_append]
  omega

set_option maxRecDepth 100000 in
set_option maxHeartbeats 2000000 in
theorem concat_any (B : Nat) (xs : List (Value × List Int)) (w : World) (h : Row w B xs) (hx : xs.length ≤ 100) (h0 : 0 < (cat xs).length) (hl : (cat xs).length * 8 ≤ 140737488355328) :
    Calls Try.prog 90 #[.slice (some ⟨B, 0, none⟩) xs.length xs.length] w fun e w' => ∃ v, e = .returned v ∧ OwnI w' w.heap.size v (cat xs) ∧ Below w.heap.size w w' := by
  have H := hidIt h
  have hB := h.1
  clear h
  go_enter Try.func90, Try.ntmps90
  go_wp2_with fail
  go_loopw [3, 11] (fun s i wr => ∃ k : Nat, k ≤ xs.length ∧ i = .int .i64 k ∧ s = .int .i64 (cat (xs.take k)).length ∧ w = wr) (fun _ i _ => xs.length - (RowKit.intOf i).toNat)
  case atStart => exact ⟨0, Nat.zero_le _, rfl, rfl, rfl⟩
  case round =>
    obtain ⟨k, hk, rfl, rfl, rfl⟩ := hrel
    by_cases hlt : k < xs.length
    · obtain ⟨p, hp⟩ : ∃ p, xs[k]? = some p := ⟨_, List.getElem?_eq_getElem hlt⟩
      obtain ⟨c1, r1⟩ := H.out.2 k p hp
      obtain ⟨ao, c, e1, e2⟩ := r1.len
      rw [e1] at c1
      have hs := cat_succ xs k p hp
      have hle := cat_le xs (k + 1)
      rw [hs, List.length_append] at hle
      have HS := hidIt (show (cat (List.take (k + 1) xs)).length = (cat (List.take k xs)).length + p.2.length by rw [hs, List.length_append])
      generalize (cat (List.take k xs)).length = z at *
      generalize p.2.length = q at *
      generalize (cat xs).length = z2 at *
      have hi1 : (k : Int) < (xs.length : Int) := by omega
      have hw1 : IntKind.i64.wrap ((z : Int) + q) = (z : Int) + q := by rw [IntKind.wrap_i64]; omega
      have hn : ¬ ((z : Int) + q < 0) := by omega
      clear r1 e1 hs
      go_wp2_with fail
      go_roundw
      case rel => exact ⟨k + 1, by omega, by go_num, by rw [HS.out]; simp, trivial⟩
      case measure => simp [RowKit.intOf]; omega
    · have hkl : k = xs.length := by omega
      subst hkl
      clear hlt
      rw [List.take_length]
      go_wp2_with (go_at_call 100; refine (grow_any _ h0 hl _).mono ?_; rintro e w1 ⟨v1, rfl, own1, hb1⟩; have O1 := hidIt own1; have B1 := hidIt hb1; clear own1 hb1; (try dsimp only))
      go_loopw [6, 27] (fun s i wr => ∃ k : Nat, k ≤ xs.length ∧ i = .int .i64 k ∧ OwnI wr w.heap.size s (cat (xs.take k)) ∧ Below w.heap.size w wr) (fun _ i _ => xs.length - (RowKit.intOf i).toNat)
      case atStart => exact ⟨0, Nat.zero_le _, rfl, O1.out, B1.out⟩
      case round =>
        obtain ⟨k, hk, rfl, hown, hbw⟩ := hrel
        by_cases hlt : k < xs.length
        · obtain ⟨p, hp⟩ : ∃ p, xs[k]? = some p := ⟨_, List.getElem?_eq_getElem hlt⟩
          obtain ⟨c1, r1⟩ := (H.out.ext hbw).2 k p hp
          have hs := cat_succ xs k p hp
          have hle := cat_le xs (k + 1)
          rw [hs, List.length_append] at hle
          have HS := hidIt hs
          have HR := hidIt r1
          have HO := hidIt hown
          have HW := hidIt hbw
          have hi1 : (k : Int) < (xs.length : Int) := by omega
          have hsz := hbw.size
          clear hs r1 hown hbw
          go_wp2_with (at_builtin; refine wpl_ints rfl _ _ 29 rfl w.heap.size Try.info_i64 Try.underlying29 _ _ rfl HO.out _ _ rfl HR.out (by omega) hsz ?_; intro v2 w2 own2 hb2; have O2 := hidIt own2; have B2 := hidIt hb2; clear own2 hb2)
          go_roundw
          case rel => exact ⟨k + 1, by omega, by go_num, by rw [HS.out]; exact O2.out, HW.out.trans (B2.out.mono (Nat.le_refl _))⟩
          case measure => simp [RowKit.intOf]; omega
        · have hkl : k = xs.length := by omega
          subst hkl
          clear hlt
          rw [List.take_length] at hown
          have HO := hidIt hown
          have HW := hidIt hbw
          clear hown hbw
          go_wp2_with fail
          go_ret
          exact ⟨_, rfl, HO.out, HW.out⟩

set_option maxRecDepth 100000 in
/-- Two lists that read alike. -/
theorem sameInts_any (v1 v2 : Value) (zs : List Int) (w : World) (h1 : Rd .i64 w v1 zs) (h2 : Rd .i64 w v2 zs) :
    Calls Try.prog 26 #[v1, v2] w fun e w' => e = .returned (.bool true) ∧ Below w.heap.size w w' := by
  have hlen := h1.len
  obtain ⟨ao, cap, rfl, hl1, hc1, h1⟩ := h1
  obtain ⟨ao2, cap2, rfl, hl2, hc2, h2⟩ := h2
  by_cases hn : zs = []
  · subst hn
    clear h1 h2
    simp only [List.length_nil]
    go_enter Try.func26, Try.ntmps26
    go_wp2
    refine wp_loop_rounds 1 ?_
    rw [rounds_succ]
    go_wp2
    go_ret
    exact ⟨rfl, Below.refl _ _⟩
  · obtain ⟨b, off, rfl, hb, hcl⟩ := h1 hn
    obtain ⟨b2, off2, rfl, hb2, hcl2⟩ := h2 hn
    have hq : ((zs.length : Int) != (zs.length : Int)) = false := by simp
    clear h1 h2 hn
    go_enter Try.func26, Try.ntmps26
    go_wp2
    go_loopw [5] (fun i wr => ∃ k : Nat, k ≤ zs.length ∧ i = .int .i64 k ∧ Below w.heap.size w wr) (fun i _ => zs.length - (RowKit.intOf i).toNat)
    case atStart => exact ⟨0, Nat.zero_le _, rfl, Below.refl _ _⟩
    case round =>
      obtain ⟨k, hk, rfl, hbw⟩ := hrel
      by_cases hlt : k < zs.length
      · have c1 : wr.cell? ⟨b, off + k, none⟩ = some (.int .i64 (zs[k]?.getD 0)) := (hbw.cell (p := ⟨b, off + k, none⟩) hb).trans (hcl _ hlt)
        have c2 : wr.cell? ⟨b2, off2 + k, none⟩ = some (.int .i64 (zs[k]?.getD 0)) := (hbw.cell (p := ⟨b2, off2 + k, none⟩) hb2).trans (hcl2 _ hlt)
        have hi1 : (k : Int) < (zs.length : Int) := by omega
        generalize zs[k]?.getD 0 = x at *
        clear hcl hcl2
        go_wp2
        go_quiet (fail)
        go_wp2
        go_roundw
        case rel => exact ⟨k + 1, by omega, by go_num, below_drewN hbw _⟩
        case measure => simp [RowKit.intOf]; omega
      · clear hcl hcl2
        go_wp2
        go_ret
        exact ⟨rfl, hbw⟩
end Go.Proofs.Ytmldfjhfgaggpaa
