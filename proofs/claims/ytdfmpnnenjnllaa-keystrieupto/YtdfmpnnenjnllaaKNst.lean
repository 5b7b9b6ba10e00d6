/- What came in: a script of calls of tries. -/
import Derived.Test.YtdfmpnnenjnllaaKTrL
import Derived.ProofKit
import Derived.OpenShut
import Derived.ChangeOld
import Derived.SizedLaws
import Derived.Below
import Derived.JoinedCond
namespace Go.Proofs.Ytdfmpnnenjnllaa
open Go.ChangeShapes Go.WideShapes Go.ChangeAt Go.RowKit

theorem ownK : ownKnob Try.prog.godebug = none := by kernel_rfl
theorem laidOutK : laidOutB Try.prog = true := by kernel_rfl
theorem cSl : Try.prog.cellsOf 32 = 1 := by kernel_rfl
theorem cIn : Try.prog.cellsOf 3 = 1 := by kernel_rfl
theorem cBo : Try.prog.cellsOf 4 = 1 := by kernel_rfl
theorem cLk : Try.prog.cellsOf 39 = 4 := by kernel_rfl
theorem bulk_one {H : Type} (d : DataW H) : 1 ≤ Rows.uptoBulk d := by
  cases d with
  | lit l => cases l <;> simp [Rows.uptoBulk]
  | nil => simp [Rows.uptoBulk]
  | ptr d => simp [Rows.uptoBulk]
  | slice elems spare => simp [Rows.uptoBulk]
  | agg parts => simp [Rows.uptoBulk]
  | iface t d => simp [Rows.uptoBulk]
  | map entries => simp [Rows.uptoBulk]
  | held h => simp [Rows.uptoBulk]
theorem bulk_part {H : Type} {d : DataW H} {l : List (DataW H)} (h : d ∈ l) : Rows.uptoBulk d ≤ Rows.uptoBulkAll l := by
  induction l with
  | nil => cases h
  | cons x r ih =>
    simp only [Rows.uptoBulkAll]
    cases List.mem_cons.1 h with
    | inl e => subst e; omega
    | inr e => have := ih e; omega
theorem bulk_length {H : Type} (l : List (DataW H)) : l.length ≤ Rows.uptoBulkAll l := by
  induction l with
  | nil => simp
  | cons x r ih => have := bulk_one x; simp only [Rows.uptoBulkAll, List.length_cons]; omega
theorem bulk_bound {H : Type} {l : List (DataW H)} (hk : Rows.uptoSmall H l = true) : Rows.uptoBulkAll l ≤ 1048576 := of_decide_eq_true hk
theorem bulk_sum {H : Type} : ∀ (el : List (DataW H)) (gs : List Nat), gs.length = el.length → (∀ (i : Nat) (h1 : i < gs.length) (h2 : i < el.length), gs[i] ≤ Rows.uptoBulk el[i]) → gs.sum ≤ Rows.uptoBulkAll el
  | [], gs, hl, _ => by rw [List.length_eq_zero_iff.1 hl]; simp
  | d :: el, [], hl, _ => by simp at hl
  | d :: el, g :: gs, hl, h => by
    have h0 := h 0 (by simp) (by simp)
    have h1 := bulk_sum el gs (by simpa using hl) (fun i a b => by have := h (i + 1) (by simpa using a) (by simpa using b); simpa using this)
    simp only [List.getElem_cons_zero] at h0
    simp only [Rows.uptoBulkAll, List.sum_cons]
    omega
/-- A slice of ints that came in. -/
theorem rd64_of {H : Type} {enc : TypeId × Value → H} {W : World} {fuel : Nat} {c : Value} {d : DataW H} {p : List MemPlace}
    (hf : DataW.trod enc Try.prog W 0 (fun _ => true) true fuel 32 [c] = some (d, p)) :
    ∃ ao cap zs, c = .slice ao zs.length cap ∧ RdS W c zs ∧ (∀ z ∈ zs, In64 z) ∧ zs.length + 1 ≤ Rows.uptoBulk d := by
  rcases open_ints Try.underlying32 Try.underlying3 cIn hf with ⟨hcs, hx⟩ | ⟨x, l, c0, zs, hcs, _, hl, hm, hz, hx, hcell, hwz⟩
  · simp at hcs
    subst hcs
    exact ⟨none, 0, [], rfl, ⟨(OwnI.nil W 0).rd, .inl rfl⟩, (fun z hz => by cases hz), by have := bulk_one d; simpa using this⟩
  · simp at hcs
    subst hcs
    have hzl : zs.length = c0 := by simpa using hz
    have hlen : (zs.take l).length = l := by rw [List.length_take]; omega
    refine ⟨some x, c0, zs.take l, by rw [hlen], ⟨⟨some x, c0, by rw [hlen], by omega, hm, fun hn => ?_⟩, .inr ⟨_, _, _, rfl⟩⟩, fun z hz => ?_, ?_⟩
    · have hpos : 0 < l := by
        rcases Nat.eq_zero_or_pos l with h | h
        · subst h; simp at hn
        · exact h
      obtain ⟨b, off, spot⟩ := x
      have hc0 := hcell 0 (by omega)
      have hspot : spot = none := by simpa [Addr.add] using World.cell?_spot hc0
      subst hspot
      refine ⟨b, off, rfl, World.block_lt_of_cell? W _ (by simpa [Addr.add] using hc0), fun i hi => ?_⟩
      rw [hlen] at hi
      have := hcell i (by omega)
      rw [Addr.add_lit] at this
      rw [this, List.getElem?_take, if_pos hi]
      simp [List.getD]
    · exact hwz z (List.mem_of_mem_take hz)
    · obtain ⟨el, sp, e, he⟩ : ∃ el sp, d = DataW.slice el sp ∧ el.length = l := ⟨_, _, (Prod.mk.inj hx).1, by simp [lits]; omega⟩
      subst e
      have := bulk_length el
      simp only [Rows.uptoBulk]
      rw [hlen]
      omega
/-- A call, and what is read of its four cells. -/
structure LkAt (w : World) (f : Nat → Option Value) (o : Lk) : Prop where
  c0 : f 0 = some (.bool o.p)
  c1 : f 1 = some (.int .i64 o.who)
  c2 : f 2 = some (.int .i64 o.v)
  c3 : f 3 = some (.slice o.a o.ks.length o.c)
  rd : RdS w (.slice o.a o.ks.length o.c) o.ks
  ok : ∀ k ∈ o.ks, In64 k
set_option maxRecDepth 100000 in
theorem lk_cells {H : Type} {enc : TypeId × Value → H} {w : World} {fuel : Nat} {cs : List Value} {d : DataW H} {p : List MemPlace}
    (h : DataW.trod enc Try.prog w 0 (fun _ => true) true fuel 39 cs = some (d, p)) :
    ∃ o : Lk, LkAt w (fun i => cs[i]?) o ∧ o.ks.length + 1 ≤ Rows.uptoBulk d := by
  obtain ⟨xs, n, rfl, hx, hl, hxl, hall⟩ := DataW.trod_struct Try.underlying39 h
  match xs, hxl with
  | [x0, x1, x2, x3], _ =>
    obtain ⟨k0, e0, r0⟩ := DataW.trod_bool Try.underlying4 (hall 0 _ rfl)
    obtain ⟨k1, e1, r1, w1⟩ := DataW.trod_int Try.underlying3 (hall 1 _ rfl)
    obtain ⟨k2, e2, r2, w2⟩ := DataW.trod_int Try.underlying3 (hall 2 _ rfl)
    have h3 := hall 3 _ rfl
    have e0' : (cs.drop 0).take (Try.prog.cellsOf 4) = [.bool k0] := e0
    have e1' : (cs.drop 1).take (Try.prog.cellsOf 3) = [.int .i64 k1] := e1
    have e2' : (cs.drop 2).take (Try.prog.cellsOf 3) = [.int .i64 k2] := e2
    have h3' : DataW.trod enc Try.prog w 0 (fun _ => true) true n 32 ((cs.drop 3).take (Try.prog.cellsOf 32)) = some x3 := h3
    rw [cLk] at hl
    rw [cIn] at e1' e2'
    rw [cBo] at e0'
    rw [cSl] at h3'
    match cs, hl with
    | [c0, c1, c2, c3], _ =>
      simp at e0' e1' e2'
      subst e0'; subst e1'; subst e2'
      simp only [List.drop_succ_cons, List.drop_zero, List.take_succ_cons, List.take_zero] at h3'
      obtain ⟨ao, cap, zs, rfl, hr, h64, hb⟩ := rd64_of (d := x3.1) (p := x3.2) h3'
      refine ⟨⟨k0, k1, k2, ao, cap, zs⟩, ⟨rfl, rfl, rfl, rfl, hr, h64⟩, ?_⟩
      obtain ⟨rfl, _⟩ := Prod.mk.inj hx
      have := bulk_part (d := x3.1) (l := [x0.1, x1.1, x2.1, x3.1]) (by simp)
      refine Nat.le_trans hb ?_
      have e : Rows.uptoBulk (DataW.agg ([x0, x1, x2, x3].map Prod.fst)) = Rows.uptoBulkAll [x0.1, x1.1, x2.1, x3.1] + 1 := rfl
      rw [e]
      omega
set_option maxRecDepth 100000 in
theorem looks_of {H : Type} {enc : TypeId × Value → H} {W : World} {a0 : Option Addr} {len0 cap0 : Nat} {d : DataW H} {p : List MemPlace}
    (h : DataW.Trod enc Try.prog W 0 (fun _ => true) true 22 (.slice a0 len0 cap0) d p) (hw : Rows.uptoBulk d ≤ 1048576) :
    ∃ os, RdK W (.slice a0 len0 cap0) os ∧ tot os ≤ 1048576 := by
  obtain ⟨fuel, hf⟩ := h
  rcases DataW.trod_slice Try.underlying22 hf with ⟨hcs, _⟩ | ⟨x, l, c, elems, rest, n, _, hcs, hx, hb, hl, hm, hlen, hel, _, _⟩
  · simp [Value.cells] at hcs
    obtain ⟨rfl, rfl, rfl⟩ := hcs
    exact ⟨[], ⟨none, 0, rfl, Nat.le_refl _, by omega, fun h => absurd rfl h⟩, by simp [tot]⟩
  · simp [Value.cells] at hcs
    obtain ⟨rfl, rfl, rfl⟩ := hcs
    rw [cLk] at hel
    obtain ⟨rfl, _⟩ := Prod.mk.inj hx
    obtain ⟨b, off, spot⟩ := x
    have each : ∀ i, ∃ o : Lk, i < len0 → LkAt W (fun j => W.cell? (((⟨b, off, spot⟩ : Addr).add (i * 4)).add j)) o ∧ ∀ hi : i < elems.length, o.ks.length + 1 ≤ Rows.uptoBulk elems[i].1 := by
      intro i
      by_cases hi : i < len0
      · have hi' : i < elems.length := by omega
        have := hel i hi
        rw [List.getElem?_eq_getElem hi', Option.bind_eq_some_iff] at this
        obtain ⟨cs, hcs, hy⟩ := this
        obtain ⟨o, ho, hb⟩ := lk_cells (d := elems[i].1) (p := elems[i].2) hy
        have hcell := (World.cells?_some hcs).2.2
        exact ⟨o, fun _ => ⟨⟨(hcell 0 (by omega)).trans ho.c0, (hcell 1 (by omega)).trans ho.c1, (hcell 2 (by omega)).trans ho.c2, (hcell 3 (by omega)).trans ho.c3, ho.rd, ho.ok⟩, fun _ => hb⟩⟩
      · exact ⟨⟨false, 0, 0, none, 0, []⟩, fun h => absurd h hi⟩
    obtain ⟨f, hf'⟩ := Classical.skolem.1 each
    have hlr : ((List.range len0).map f).length = len0 := by simp
    refine ⟨(List.range len0).map f, ⟨some ⟨b, off, spot⟩, cap0, by rw [hlr], by rw [hlr]; exact hl, by unfold maxLen at hm; exact hm, fun hn => ?_⟩, ?_⟩
    · have hpos : 0 < len0 := by rw [← hlr]; exact List.length_pos_iff.2 hn
      have hs : spot = none := by simpa [Addr.add] using World.cell?_spot (hf' 0 hpos).1.c0
      subst hs
      refine ⟨b, off, rfl, World.block_lt_of_cell? W _ (by simpa [Addr.add] using (hf' 0 hpos).1.c0), fun i e hie => ?_⟩
      have hi : i < len0 := by have := (List.getElem?_eq_some_iff.1 hie).1; rwa [hlr] at this
      have e1 : e = f i := by rw [List.getElem?_map, List.getElem?_range hi] at hie; simpa using hie.symm
      subst e1
      have := (hf' i hi).1
      have c0 := this.c0
      have c1 := this.c1
      have c2 := this.c2
      have c3 := this.c3
      simp only [Addr.add_lit] at c0 c1 c2 c3
      exact ⟨c0, c1, c2, c3, this.rd, this.ok⟩
    · unfold tot
      refine Nat.le_trans (bulk_sum (elems.map Prod.fst) _ (by simp; omega) (fun i h1 h2 => ?_)) ?_
      · simp at h1
        have := (hf' i h1).2 (by omega)
        simpa using this
      · have e : Rows.uptoBulkAll (elems.map Prod.fst) + Rows.uptoBulkAll (rest.map Prod.fst) + 1 ≤ 1048576 := hw
        omega
end Go.Proofs.Ytdfmpnnenjnllaa
