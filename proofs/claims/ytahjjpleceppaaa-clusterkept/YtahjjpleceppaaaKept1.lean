/- Lists full of a mark: what append does to them; all, lent, hold. -/
import Derived.Test.YtahjjpleceppaaaWalkLines
namespace Go.Proofs.Ytahjjpleceppaaa
open Go.RowKit

/-- The block g is full of a mark, all of its cap cells. -/
def AR (w : World) (g cap : Nat) (mk : Int) : Prop := ∃ cur : Array Value, w.heap[g]? = some (.cells cur 3 (0, 0)) ∧ cur.toList = List.replicate cap (.int .i64 mk)
theorem AR.lt {w : World} {g cap : Nat} {mk : Int} (h : AR w g cap mk) : g < w.heap.size := by obtain ⟨cur, h1, _⟩ := h; exact (Array.getElem?_eq_some_iff.1 h1).1
theorem AR.keep {w w' : World} {g cap : Nat} {mk : Int} {row : Option Nat} (h : AR w g cap mk) (hg : w.grownBy w' row) (hr : some g ≠ row) : AR w' g cap mk := by
  have hl := h.lt
  obtain ⟨cur, h1, h2⟩ := h
  exact ⟨cur, (hg.block g hl hr).trans h1, h2⟩
theorem AR.ext {w w' : World} {g cap : Nat} {mk : Int} (h : AR w g cap mk) (hb : Below w.heap.size w w') : AR w' g cap mk := by
  have hl := h.lt
  obtain ⟨cur, h1, h2⟩ := h
  exact ⟨cur, (hb.block g hl).trans h1, h2⟩
theorem AR.cell {w : World} {g cap : Nat} {mk : Int} (h : AR w g cap mk) (i : Nat) (hi : i < cap) : w.cell? ⟨g, i, none⟩ = some (.int .i64 mk) := by
  obtain ⟨cur, h1, h2⟩ := h
  have := cell_of_row w g i cur 3 (0, 0) h1
  rw [this]
  have h3 : cur.toList[i]? = some (.int .i64 mk) := by rw [h2]; simp [hi]
  simpa using h3
theorem AR.rd {w : World} {g cap n c : Nat} {mk : Int} (h : AR w g cap mk) (hn : n ≤ cap) (hnc : n ≤ c) (hm : c ≤ maxLen) : Rd .i64 w (.slice (some ⟨g, 0, none⟩) n c) (List.replicate n mk) := by
  refine ⟨_, c, by rw [List.length_replicate], by rw [List.length_replicate]; exact hnc, hm, fun _ => ⟨g, 0, rfl, h.lt, fun i hi => ?_⟩⟩
  rw [List.length_replicate] at hi
  rw [Nat.zero_add, h.cell i (by omega)]
  simp [hi]
theorem AR.of_own {w : World} {base g cap : Nat} {mk : Int} (h : w.ownsRow base 3 1 (.slice (some ⟨g, 0, none⟩) cap cap) cap (List.replicate cap (.int .i64 mk))) : AR w g cap mk := by
  rcases h.2 with ⟨hv, _⟩ | ⟨g', cap', cur, hv, hb, hg, hn, hc, hs, ht⟩
  · cases hv
  · cases hv
    refine ⟨cur, hg, ?_⟩
    rw [← ht, List.take_of_length_le (by simp [hs])]

section
variable {P : Program} (w : World)
theorem run_append_marks (t ty e : TypeId) (i : TypeInfo) (z : Value) (he : e = 3) (ht : P.underlying t = some (.slice e)) (hi : P.info? e = some i) (hz : i.zero = some z) (hsize : i.size = 1) (hby : i.bytes = 8) (hzs : z.cells.size = 1)
    (g n cap : Nat) (mk : Int) (hA : AR w g cap mk) (hn : n ≤ cap) (ad : Addr) (c : Nat) (hnews : w.cell? ad = some (.int .i64 mk)) (h63 : n + 1 ≤ maxLen) (hbytes : (n + 1) * 8 ≤ 140737488355328) :
    ∃ v' w', (Builtin.append_ #[t, t] ty #[.slice (some ⟨g, 0, none⟩) n cap, .slice (some ad) 1 c]).run P w = .ok v' w' ∧ AR w' g cap mk ∧ w.grownBy w' (some g) ∧
      ((n < cap ∧ v' = .slice (some ⟨g, 0, none⟩) (n + 1) cap) ∨ w'.ownsRow w.heap.size e 1 v' (n + 1) (List.replicate (n + 1) (.int .i64 mk))) := by
  subst he
  have hlt := hA.lt
  obtain ⟨cur, h1, h2⟩ := id hA
  have hcs : cur.size = cap := by have := congrArg List.length h2; simpa using this
  have hnw : ∀ j u, [Value.int .i64 mk][j]? = some u → w.cell? (ad.add j) = some u := by
    intro j u hu
    rcases j with _ | j
    · simp at hu; subst hu
      simpa [Addr.add] using hnews
    · simp at hu
  rcases Nat.lt_or_ge n cap with h | h
  · have hr := run_append_room (P := P) w t ty 3 i ht hi g n cap cur h1 ad 1 c [.int .i64 mk] (by simp [hsize]) hnw (one_i64 mk) (by omega) (by simp [hsize, hcs]; omega)
    refine ⟨_, _, hr, ⟨_, setRow_heap w g cur _ 3 _ h1, ?_⟩, ⟨rfl, rfl, rfl, by simp, fun k _ hk => setRow_other w g k _ (fun e => hk (by simp [e]))⟩, .inl ⟨h, rfl⟩⟩
    simp only [h2, hsize, Nat.mul_one, List.length_singleton, List.take_replicate, List.drop_replicate]
    refine List.eq_replicate_iff.2 ⟨by simp; omega, fun b hb => ?_⟩
    simp only [List.mem_append, List.mem_replicate, List.mem_singleton] at hb
    rcases hb with (hb | hb) | hb
    · exact hb.2
    · exact hb
    · exact hb.2
  · have hr := run_append_grow (P := P) w t ty 3 i z ht hi hz ⟨g, 0, none⟩ n cap (List.replicate n (.int .i64 mk)) (by simp [hsize]) (fun j u hu => by
      have hj : j < n := by
        rcases Nat.lt_or_ge j n with h | h
        · exact h
        · rw [List.getElem?_eq_none (by simpa using h)] at hu; cases hu
      have := hA.cell j (by omega)
      rw [List.getElem?_replicate, if_pos hj] at hu
      rw [← hu, Addr.add_lit, Nat.zero_add]; exact this) ad 1 c [.int .i64 mk] (by simp [hsize]) hnw (by omega) (by simp only [maxLen] at h63; omega) (growslice_fits (by omega) (by rw [hby]; exact hbytes))
    have hge := grownCap_ge w (n + 1) cap 3
    have hcm := grownCap_le_maxLen w (n + 1) cap 3 h63
    refine ⟨_, _, hr, ⟨cur, (heap_alloc_old w.drew _ hlt).trans h1, h2⟩, ⟨rfl, rfl, rfl, by simp, fun k hk _ => heap_alloc_old w.drew _ hk⟩, .inr ⟨by simp, .inr ⟨w.heap.size, _, _, rfl, Nat.le_refl _, heap_alloc_new w.drew _, hge, hcm, ?_, ?_⟩⟩⟩
    · simp only [Array.size_append, List.size_toArray, size_zeroCells, hzs, List.length_replicate, List.length_singleton, Nat.mul_one]
      omega
    · simp only [Array.toList_append, Nat.mul_one]
      rw [List.take_append_of_le_length (by simp), List.take_of_length_le (by simp), ← List.replicate_succ']

theorem wpList_append_marks {ops : Array Oper} {rest : List Oper} {o : Oper} {a : Act} {Q : Exit → Act → World → Prop} (hgd : o.guard = none) (s x : Operand) (t : TypeId)
    (ho : o.op = .call { callee := .builtin .append, args := #[s, x], argTypes := #[t, t] })
    (e : TypeId) (i : TypeInfo) (z : Value) (he : e = 3) (ht : P.underlying t = some (.slice e)) (hi : P.info? e = some i) (hz : i.zero = some z) (hsize : i.size = 1) (hby : i.bytes = 8) (hzs : z.cells.size = 1)
    (g n cap : Nat) (mk : Int) (hs : a.eval s = .slice (some ⟨g, 0, none⟩) n cap) (hA : AR w g cap mk) (hn : n ≤ cap)
    (ad : Addr) (c : Nat) (hx : a.eval x = .slice (some ad) 1 c) (hnews : w.cell? ad = some (.int .i64 mk)) (h63 : n + 1 ≤ maxLen) (hbytes : (n + 1) * 8 ≤ 140737488355328)
    (h : ∀ v' w', AR w' g cap mk → w.grownBy w' (some g) → ((n < cap ∧ v' = .slice (some ⟨g, 0, none⟩) (n + 1) cap) ∨ w'.ownsRow w.heap.size e 1 v' (n + 1) (List.replicate (n + 1) (.int .i64 mk))) → wpList P ops Q rest (a.put o.dst v') w') : wpList P ops Q (o :: rest) a w :=
  wpList_plain hgd fun K hK => by
    obtain ⟨v', w', hr, h2, h3, h4⟩ := run_append_marks (P := P) w t o.type e i z he ht hi hz hsize hby hzs g n cap mk hA hn ad c hnews h63 hbytes
    unfold Oper.wp execOp
    simp only [ho, resolve, invoke, builtin, Sem.run_bind, Sem.run_pure, Result.andThen_ok, List.map_toArray, List.map_cons, List.map_nil, hs, hx, hr]
    exact hK _ _ (h v' w' h2 h3 h4)
end

/-- The slice v is full of a mark. -/
def AllM (w : World) (v : Value) (m : Int) : Prop := ∃ L, Rd .i64 w v L ∧ ∀ x ∈ L, x = m

set_option maxRecDepth 100000 in
theorem all_any (v : Value) (m : Int) (w : World) (h : AllM w v m) :
    Calls Try.prog 54 #[v, .int .i64 m] w fun e w' => e = .returned (.bool true) ∧ w' = w := by
  obtain ⟨L, hr, hall⟩ := h
  have hlen := hr.len
  have HR : Hid (Rd .i64 w v L) := hr
  have HA : Hid (∀ x ∈ L, x = m) := hall
  obtain ⟨ao, cap, rfl⟩ := hr.form
  have hq : (m != m) = false := by simp
  clear hr hall
  go_enter Try.func54, Try.ntmps54
  go_wp2_with fail
  go_loop [5] (fun i => ∃ k : Nat, k ≤ L.length ∧ i = .int .i64 k) (fun i => L.length - (intOf i).toNat)
  case atStart => exact ⟨0, Nat.zero_le _, rfl⟩
  case round =>
    obtain ⟨k, hk, rfl⟩ := hrel
    by_cases hlt : k < L.length
    · obtain ⟨b, off, cp, hv, _, _, hb, hc⟩ := HR.out.at (by omega)
      simp only [Value.slice.injEq] at hv
      obtain ⟨rfl, _, rfl⟩ := hv
      have hcx := hc k hlt
      have e : Cl.at L k = m := HA.out _ (by unfold Cl.at; rw [List.getElem?_eq_getElem hlt]; exact List.getElem_mem hlt)
      rw [e] at hcx
      clear hc e
      go_wp2_with fail
      go_round
      case rel => exact ⟨k + 1, by omega, by go_num⟩
      case measure => simp [intOf]; omega
    · go_wp2
      go_ret
      exact ⟨rfl, rfl⟩

def Cl.marks (m : Int) (k : Nat) : List Int := (List.range k).map fun (i : Nat) => m + (i : Int)
theorem Cl.marks_len (m : Int) (k : Nat) : (Cl.marks m k).length = k := by simp [Cl.marks]
theorem Cl.marks_succ (m : Int) (k : Nat) : Cl.marks m (k + 1) = Cl.marks m k ++ [m + (k : Int)] := by unfold Cl.marks; rw [List.range_succ, List.map_append]; rfl

set_option maxRecDepth 100000 in
theorem lent_any (v : Value) (zs : List Int) (m : Int) (w : World) (hr : Rd .i64 w v zs) (hz : (zs.length + 120) * 8 ≤ 140737488355328) (hm : 0 ≤ m) (hm2 : m ≤ 1000000000) :
    Calls Try.prog 33 #[v, .int .i64 m] w fun e w' => ∃ v', e = .returned v' ∧ Own w' w.heap.size v' (zs ++ Cl.marks m 120) ∧ Below w.heap.size w w' := by
  have HR : Hid (Rd .i64 w v zs) := hr
  obtain ⟨ao, cap, rfl⟩ := hr.form
  obtain ⟨i0, hi, hz0, hz1, hz2⟩ := info_parts Try.info_i64
  clear hr
  unfold Own
  go_enter Try.func33, Try.ntmps33
  go_wp2_with fail
  refine (copied_any _ zs _ HR.out (by omega)).mono ?_
  rintro e w1 ⟨v1, rfl, hown1, hb1⟩
  have HO1 : Hid (w1.ownsRow w.heap.size 3 1 v1 zs.length (zs.map (Value.int .i64))) := hown1
  have HB1 : Hid (Below w.heap.size w w1) := hb1
  clear hown1 hb1
  go_wp2_with fail
  go_loopw [5, 6] (fun o i wr => ∃ k : Nat, k ≤ 120 ∧ i = .int .i64 k ∧ wr.ownsRow w.heap.size 3 1 o (zs.length + k) ((zs ++ Cl.marks m k).map (Value.int .i64)) ∧ Below w.heap.size w wr) (fun _ i _ => 120 - (intOf i).toNat)
  case atStart => exact ⟨0, Nat.zero_le _, rfl, by simpa [Cl.marks] using HO1.out, HB1.out⟩
  case round =>
    obtain ⟨k, hk, rfl, hown, hb⟩ := hrel
    have hz' : w.heap.size ≤ wr.heap.size := hb.size
    by_cases hlt : k < 120
    · have HT : Hid ((zs ++ Cl.marks m k).map (Value.int .i64) ++ [Value.int .i64 (m + (k : Int))] = (zs ++ Cl.marks m (k + 1)).map (Value.int .i64)) := by unfold Hid; rw [Cl.marks_succ]; simp
      generalize (zs ++ Cl.marks m k).map (Value.int .i64) = xs at *
      go_wp2_with (at_builtin; refine wpList_append_own _ rfl _ _ 22 rfl w.heap.size 3 i0 (.int .i64 0) 1 8 Try.underlying22 hi hz0 hz1 hz2 rfl (by decide) _ _ _ rfl (hown.alloc _) ⟨wr.heap.size, 0, none⟩ 1 1 [.int .i64 (m + (k : Int))] rfl rfl (cell_one_new _ _ _) (one_i64 _) (by unfold maxLen; omega) (by omega) (by simp; omega) ?_; intro v' w' hown' hg' hx')
      go_roundw
      case rel => exact ⟨k + 1, by omega, by go_num, by rw [← HT.out]; exact hown', below_push hb hown hg'⟩
      case measure => simp [intOf]; omega
    · have hke : k = 120 := by omega
      subst hke
      have HT : Hid ((zs ++ Cl.marks m 120).length = zs.length + 120) := by unfold Hid; rw [List.length_append, Cl.marks_len]
      go_wp2
      go_ret
      exact ⟨_, rfl, by rw [HT.out]; exact hown, hb⟩
end Go.Proofs.Ytahjjpleceppaaa
