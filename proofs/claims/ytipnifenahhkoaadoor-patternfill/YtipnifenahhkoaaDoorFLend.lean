/- lend, kept, copied, sameInts, num, letters. -/
import Derived.Test.YtipnifenahhkoaaDoorFDFl
import Derived.Laws.AppendOwnNone
namespace Go.Proofs.YtipnifenahhkoaaDoor
open Go.RowKit

/-- A slice as Go makes it: nil, or it lies somewhere. -/
def Sl (v : Value) : Prop := v = .slice none 0 0 ∨ ∃ a n c, v = .slice (some a) n c
theorem Sl.of_own {w : World} {base : Nat} {e : TypeId} {size n : Nat} {v : Value} {xs : List Value} (h : w.ownsRow base e size v n xs) : Sl v := by
  rcases h.2 with ⟨rfl, _⟩ | ⟨g, cap, cur, rfl, _⟩
  · exact .inl rfl
  · exact .inr ⟨_, _, _, rfl⟩
theorem rd_cells {w : World} {a : Addr} {n c : Nat} {zs : List Int} {k : IntKind} (h : Rd k w (.slice (some a) n c) zs) : n = zs.length ∧ ∀ j u, (zs.map (Value.int k))[j]? = some u → w.cell? (a.add j) = some u := by
  obtain ⟨ao, cap, hv, h1, h2, h3⟩ := h
  cases hv
  refine ⟨rfl, fun j u hj => ?_⟩
  have hjl : j < zs.length := by
    have := (List.getElem?_eq_some_iff.1 hj).1
    simpa using this
  have hne : zs ≠ [] := by intro h; subst h; simp at hjl
  obtain ⟨b', off', ha, _, hc⟩ := h3 hne
  cases ha
  rw [Addr.add_lit, hc j hjl]
  rw [List.getElem?_map] at hj
  obtain ⟨z, hz, rfl⟩ := Option.map_eq_some_iff.1 hj
  rw [hz]
  rfl
theorem one_all (k : IntKind) (zs : List Int) : ∀ u ∈ zs.map (Value.int k), u.oneCell' = true := by
  intro u hu
  obtain ⟨z, _, rfl⟩ := List.mem_map.1 hu
  rfl
section
variable {P : Program} {W : World} {ops : Array Oper} {rest : List Oper} {o : Oper} {a : Act} {Q : Exit → Act → World → Prop}
/-- append(nil, s...), of ints: s any slice that is read. -/
theorem wpl_copy (hgd : o.guard = none) (s x : Operand) (t : TypeId) (ho : o.op = .call { callee := .builtin .append, args := #[s, x], argTypes := #[t, t] })
    (base : Nat) (hinf : (P.info? 3).map (fun i => (i.zero, i.size, i.bytes)) = some (some (.int .i64 0), 1, 8)) (ht : P.underlying t = some (.slice 3))
    (hs : a.eval s = .slice none 0 0) (u : Value) (ys : List Int) (hx : a.eval x = u) (hu : Rd .i64 W u ys) (hsl : Sl u) (hl : ys.length * 8 ≤ 140737488355328) (hbase : base ≤ W.heap.size)
    (h : ∀ v' w', w'.ownsRow base 3 1 v' ys.length (ys.map (Value.int .i64)) → Below base W w' → wpList P ops Q rest (a.put o.dst v') w') : wpList P ops Q (o :: rest) a W := by
  obtain ⟨i0, hi, hz0, hz1, hz2⟩ := info_parts hinf
  have hown : W.ownsRow base 3 1 (.slice none 0 0) 0 [] := World.ownsRow_nil _ _ _ _
  rcases hsl with rfl | ⟨ad, n, c, rfl⟩
  · have : ys = [] := by
      obtain ⟨ao, cap, hv, _⟩ := hu
      have : ys.length = 0 := by injection hv with _ h2 _; omega
      exact List.length_eq_zero_iff.1 this
    subst this
    refine wpList_append_own_none hgd s x t ho base 3 i0 1 ht hi (.slice none 0 0) 0 [] hs hown hx ?_
    exact h (.slice none 0 0) W hown (Below.refl _ _)
  · obtain ⟨hn, hc⟩ := rd_cells hu
    subst hn
    refine wpList_append_own W hgd s x t ho base 3 i0 (.int .i64 0) 1 8 ht hi hz0 hz1 hz2 rfl (by decide) (.slice none 0 0) 0 [] hs hown ad ys.length c (ys.map (Value.int .i64)) hx (by simp) hc (one_all _ _) (by unfold maxLen; omega) (by omega) hbase ?_
    intro v' w' h1 h2 _
    refine h v' w' ?_ ((Below.refl _ _).grown h2 hbase (fun k hk => (World.ownsRow.lt hown k hk).1))
    rw [Nat.zero_add, List.nil_append] at h1
    exact h1
end
theorem num_any (a : Int) (w : World) : Calls Tryd.prog 10 #[.int .i64 a] w fun e w' => e = .returned (.int .i64 a) ∧ w' = w := by
  go_enter Tryd.func10, Tryd.ntmps10
  go_wp2
  go_ret
  exact ⟨rfl, rfl⟩
theorem copied_any (v : Value) (zs : List Int) (w : World) (hr : Rd .i64 w v zs) (hs : Sl v) (hz : zs.length * 8 ≤ 140737488355328) :
    Calls Tryd.prog 12 #[v] w fun e w' => ∃ v', e = .returned v' ∧ w'.ownsRow w.heap.size 3 1 v' zs.length (zs.map (Value.int .i64)) ∧ Below w.heap.size w w' := by
  obtain ⟨ao, cap, rfl, _⟩ := id hr
  have HR := hidIt hr
  have HS := hidIt hs
  clear hr hs
  go_enter Tryd.func12, Tryd.ntmps12
  go_wp2_with (at_builtin; refine wpl_copy rfl _ _ 22 rfl w.heap.size info_i64 Tryd.underlying22 rfl _ zs rfl HR.out HS.out hz (Nat.le_refl _) ?_; intro v1 w1 hown1 hb1; have HO1 := hidIt hown1; have HB1 := hidIt hb1; clear hown1 hb1)
  go_ret
  exact ⟨_, rfl, HO1.out, HB1.out⟩
set_option maxRecDepth 100000 in
/-- Two lists that read alike. -/
theorem sameInts_any (v1 v2 : Value) (zs : List Int) (w : World) (h1 : Rd .i64 w v1 zs) (h2 : Rd .i64 w v2 zs) :
    Calls Tryd.prog 11 #[v1, v2] w fun e w' => e = .returned (.bool true) ∧ Below w.heap.size w w' := by
  obtain ⟨ao, cap, rfl, hl1, hc1, h1⟩ := h1
  obtain ⟨ao2, cap2, rfl, hl2, hc2, h2⟩ := h2
  unfold maxLen at hc1
  have hlen : zs.length ≤ 9223372036854775807 := by omega
  by_cases hn : zs = []
  · subst hn
    clear h1 h2
    simp only [List.length_nil]
    go_enter Tryd.func11, Tryd.ntmps11
    go_wp2
    refine wp_loop_rounds 1 ?_
    rw [rounds_succ]
    go_wp2
    go_ret
    exact ⟨rfl, Below.refl _ _⟩
  · obtain ⟨b, off, rfl, hb, hcl⟩ := h1 hn
    obtain ⟨b2, off2, rfl, hb2, hcl2⟩ := h2 hn
    have hq : ((zs.length : Int) != (zs.length : Int)) = false := by simp
    clear h1 h2 hn
    go_enter Tryd.func11, Tryd.ntmps11
    go_wp2
    go_loopw [5] (fun i wr => ∃ k : Nat, k ≤ zs.length ∧ i = .int .i64 k ∧ Below w.heap.size w wr) (fun i _ => zs.length - (intOf i).toNat)
    case atStart => exact ⟨0, Nat.zero_le _, rfl, Below.refl _ _⟩
    case round =>
      obtain ⟨k, hk, rfl, hbw⟩ := hrel
      by_cases hlt : k < zs.length
      · have c1 : wr.cell? ⟨b, off + k, none⟩ = some (.int .i64 (zs[k]?.getD 0)) := (hbw.cell (p := ⟨b, off + k, none⟩) hb).trans (hcl _ hlt)
        have c2 : wr.cell? ⟨b2, off2 + k, none⟩ = some (.int .i64 (zs[k]?.getD 0)) := (hbw.cell (p := ⟨b2, off2 + k, none⟩) hb2).trans (hcl2 _ hlt)
        have hi1 : (k : Int) < (zs.length : Int) := by omega
        generalize zs[k]?.getD 0 = x at *
        clear hcl hcl2
        go_wp2
        go_quiet (fail)
        go_wp2
        go_roundw
        case rel => exact ⟨k + 1, by omega, by go_num, below_drewN hbw _⟩
        case measure => simp [intOf]; omega
      · clear hcl hcl2
        go_wp2
        go_ret
        exact ⟨rfl, hbw⟩
/-- The slice up to its capacity. -/
theorem own_full {w : World} {base : Nat} {e : TypeId} {g n cap : Nat} {xs : List Value} (h : w.ownsRow base e 1 (.slice (some ⟨g, 0, none⟩) n cap) n xs) :
    ∃ cur : List Value, cur.length = cap ∧ cur.take n = xs ∧ n ≤ cap ∧ cap ≤ maxLen ∧ w.ownsRow base e 1 (.slice (some ⟨g, 0, none⟩) cap cap) cap cur := by
  obtain ⟨h1, h2⟩ := h
  rcases h2 with ⟨hv, _⟩ | ⟨g', cap', cur, hv, hb, hg, hn, hc, hs, ht⟩
  · cases hv
  · cases hv
    simp only [Nat.mul_one] at hs ht
    refine ⟨cur.toList, by simpa using hs, ht, hn, hc, by simp [hs], .inr ⟨g, cap, cur, rfl, hb, hg, Nat.le_refl _, hc, by simpa using hs, ?_⟩⟩
    rw [List.take_of_length_le (by simp [hs])]
theorem own_some {w : World} {base : Nat} {e : TypeId} {v : Value} {n : Nat} {xs : List Value} (h : w.ownsRow base e 1 v n xs) (hn : 0 < n) : ∃ g cap, v = .slice (some ⟨g, 0, none⟩) n cap ∧ base ≤ g ∧ g < w.heap.size ∧ n ≤ cap ∧ cap ≤ maxLen := by
  obtain ⟨h1, h2⟩ := h
  rcases h2 with ⟨hv, h0⟩ | ⟨g', cap', cur, hv, hb, hg, hn, hc, hs, ht⟩
  · omega
  · exact ⟨g', cap', hv, hb, (Array.getElem?_eq_some_iff.1 hg).1, hn, hc⟩
theorem map_repI (zs : List Int) (k : Nat) : (zs ++ List.replicate k (-71)).map (Value.int .i64) ++ [Value.int .i64 (-71)] = (zs ++ List.replicate (k + 1) (-71)).map (Value.int .i64) := by
  rw [List.replicate_succ']; simp
/-- The mark at place i behind what was lent. -/
def fillI (i : Nat) : Int := wrap64 (-71 - (i : Int))
def filli (a m : Nat) : List Int := (List.range' a m).map fillI
theorem filli_len (a m : Nat) : (filli a m).length = m := by simp [filli]
theorem filli_succ (a m : Nat) : filli a (m + 1) = filli a m ++ [fillI (a + m)] := by simp [filli, List.range'_1_concat]
theorem filli_get (a m j : Nat) (h : j < m) : (filli a m)[j]? = some (fillI (a + j)) := by simp [filli, h]
theorem set_midI (A rest : List Value) (r x : Value) (k : Nat) (h : A.length = k) : (A ++ r :: rest).set k x = (A ++ [x]) ++ rest := by
  subst h; simp
/-- What was lent: zs, and marks in all the room behind it. -/
def LentI (w : World) (base g cap : Nat) (zs : List Int) : Prop :=
  zs.length + 40 ≤ cap ∧ cap ≤ maxLen ∧ base ≤ g ∧ g < w.heap.size ∧ w.ownsRow base 3 1 (.slice (some ⟨g, 0, none⟩) cap cap) cap ((zs ++ filli zs.length (cap - zs.length)).map (Value.int .i64))
theorem lend_startI {w : World} {base g cap : Nat} {zs : List Int} {cur : List Value} (hcl : cur.length = cap) (hct : cur.take (zs.length + 40) = (zs ++ List.replicate 40 (-71)).map (Value.int .i64))
    (hown : w.ownsRow base 3 1 (.slice (some ⟨g, 0, none⟩) cap cap) cap cur) :
    ∃ rest : List Value, rest.length = cap - zs.length ∧ w.ownsRow base 3 1 (.slice (some ⟨g, 0, none⟩) cap cap) cap ((zs ++ filli zs.length (zs.length - zs.length)).map (Value.int .i64) ++ rest) := by
  refine ⟨cur.drop zs.length, by simp [hcl], ?_⟩
  have e : cur.take zs.length = zs.map (Value.int .i64) := by
    have := congrArg (List.take zs.length) hct
    rw [List.take_take, Nat.min_eq_left (by omega)] at this
    rw [this, List.map_append, List.take_append_of_le_length (by simp), List.take_of_length_le (by simp)]
  have e2 : (zs ++ filli zs.length (zs.length - zs.length)).map (Value.int .i64) ++ cur.drop zs.length = cur := by
    rw [Nat.sub_self]
    simp only [filli, List.range'_zero, List.map_nil, List.append_nil]
    rw [← e, List.take_append_drop]
  rw [e2]
  exact hown
theorem lend_stepI {w : World} {base g cap k : Nat} {zs : List Int} {rest : List Value} (h1 : zs.length ≤ k) (h2 : k < cap) (hr : rest.length = cap - k)
    (hown : w.ownsRow base 3 1 (.slice (some ⟨g, 0, none⟩) cap cap) cap ((zs ++ filli zs.length (k - zs.length)).map (Value.int .i64) ++ rest)) :
    ∃ rest' : List Value, rest'.length = cap - (k + 1) ∧ (w.setCell ⟨g, k, none⟩ (.int .i64 (fillI k))).ownsRow base 3 1 (.slice (some ⟨g, 0, none⟩) cap cap) cap ((zs ++ filli zs.length (k + 1 - zs.length)).map (Value.int .i64) ++ rest') := by
  obtain ⟨r, rest', rfl⟩ : ∃ r rest', rest = r :: rest' := by
    cases rest with
    | nil => simp at hr; omega
    | cons r l => exact ⟨r, l, rfl⟩
  refine ⟨rest', by simp at hr; omega, ?_⟩
  have h := (hown.stored k (.int .i64 (fillI k))).1
  rw [set_midI _ _ _ _ k (by simp [filli_len]; omega)] at h
  have e : (zs ++ filli zs.length (k + 1 - zs.length)).map (Value.int .i64) = (zs ++ filli zs.length (k - zs.length)).map (Value.int .i64) ++ [Value.int .i64 (fillI k)] := by
    rw [show k + 1 - zs.length = (k - zs.length) + 1 from by omega, filli_succ, show zs.length + (k - zs.length) = k from by omega]
    simp
  rw [e]
  exact h
theorem lend_cellI {w : World} {base g cap k : Nat} {xs : List Value} (hown : w.ownsRow base 3 1 (.slice (some ⟨g, 0, none⟩) cap cap) cap xs) (h2 : k < cap) : ∃ u, w.cell? ⟨g, k, none⟩ = some u := by
  have h1 := hown.1
  simp only [Nat.mul_one] at h1
  refine ⟨xs[k]'(by omega), ?_⟩
  rw [hown.cellAt k (by omega)]
  simp [show k < xs.length from by omega]
set_option maxRecDepth 100000 in
theorem lend_any (v : Value) (zs : List Int) (w : World) (hr : Rd .i64 w v zs) (hsl : Sl v) (hz : (zs.length + 40) * 8 ≤ 140737488355328) :
    Calls Tryd.prog 6 #[v] w fun e w' => ∃ g cap, e = .returned (.slice (some ⟨g, 0, none⟩) cap cap) ∧ LentI w' w.heap.size g cap zs ∧ Below w.heap.size w w' := by
  obtain ⟨i0, hi, hz0, hz1, hz2⟩ := info_parts info_i64
  obtain ⟨ao, cp, rfl, _⟩ := id hr
  have HR := hidIt hr
  have HS := hidIt hsl
  clear hr hsl
  go_enter Tryd.func6, Tryd.ntmps6
  go_wp2_with (at_builtin; refine wpl_copy rfl _ _ 22 rfl w.heap.size info_i64 Tryd.underlying22 rfl _ zs rfl HR.out HS.out (by omega) (Nat.le_refl _) ?_; intro v1 w1 hown1 hb1)
  go_loopw [3, 4] (fun o i wr => ∃ k : Nat, k ≤ 40 ∧ i = .int .i64 k ∧ wr.ownsRow w.heap.size 3 1 o (zs.length + k) ((zs ++ List.replicate k (-71)).map (Value.int .i64)) ∧ Below w.heap.size w wr) (fun _ i _ => 40 - (intOf i).toNat)
  case atStart => exact ⟨0, Nat.zero_le _, rfl, by simpa using hown1, hb1⟩
  case round =>
    obtain ⟨k, hk, rfl, hown, hb⟩ := hrel
    have hz' : w.heap.size ≤ wr.heap.size := hb.size
    by_cases hlt : k < 40
    · have HT : Hid ((zs ++ List.replicate k (-71)).map (Value.int .i64) ++ [Value.int .i64 (-71)] = (zs ++ List.replicate (k + 1) (-71)).map (Value.int .i64)) := map_repI zs k
      generalize (zs ++ List.replicate k (-71)).map (Value.int .i64) = xs at hown HT
      go_wp2_with (at_builtin; refine wpList_append_own _ rfl _ _ 22 rfl w.heap.size 3 i0 (.int .i64 0) 1 8 Tryd.underlying22 hi hz0 hz1 hz2 rfl (by decide) _ _ _ rfl (hown.alloc _) ⟨wr.heap.size, 0, none⟩ 1 1 [.int .i64 (-71)] rfl rfl (cell_one_new _ _ _) (one_i64 _) (by unfold maxLen; omega) (by omega) (by simp; omega) ?_; intro v' w' hown' hg' hx')
      go_roundw
      case rel => exact ⟨k + 1, by omega, by go_num, by rw [← HT.out]; exact hown', below_push hb hown hg'⟩
      case measure => simp [intOf]; omega
    · have hke : k = 40 := by omega
      subst hke
      obtain ⟨g, cap, rfl, hbg, hgl, hnc, hcm⟩ := own_some hown (by omega)
      obtain ⟨cur, hcl, hct, _, _, hown2⟩ := own_full hown
      have hcm' : cap ≤ 9223372036854775807 := hcm
      clear hown1 hown hb1 hcm
      go_wp2
      have H2 := lend_startI (g := g) hcl hct hown2
      have HH : Hid (∃ rest : List Value, rest.length = cap - zs.length ∧ wr.ownsRow w.heap.size 3 1 (.slice (some ⟨g, 0, none⟩) cap cap) cap ((zs ++ filli zs.length (zs.length - zs.length)).map (Value.int .i64) ++ rest)) := H2
      clear H2 hct hown2 hcl
      go_loopw [5] (fun i wq => ∃ (k : Nat) (rest : List Value), zs.length ≤ k ∧ k ≤ cap ∧ i = .int .i64 k ∧ rest.length = cap - k ∧ wq.ownsRow w.heap.size 3 1 (.slice (some ⟨g, 0, none⟩) cap cap) cap ((zs ++ filli zs.length (k - zs.length)).map (Value.int .i64) ++ rest) ∧ Below w.heap.size w wq) (fun i _ => cap - (intOf i).toNat)
      case atStart =>
        obtain ⟨rest, hrl, hro⟩ := HH.out
        exact ⟨zs.length, rest, Nat.le_refl _, by omega, rfl, hrl, hro, hb⟩
      case round =>
        obtain ⟨k, rest, hk1, hk2, rfl, hrl, howq, hbq⟩ := hrel
        clear HH hb
        by_cases hlt : k < cap
        · obtain ⟨u, hcx⟩ := lend_cellI howq hlt
          have hfz := howq.frozenAt k
          have HS := lend_stepI hk1 hlt hrl howq
          have HS' : Hid (∃ rest' : List Value, rest'.length = cap - (k + 1) ∧ (wr.setCell ⟨g, k, none⟩ (.int .i64 (fillI k))).ownsRow w.heap.size 3 1 (.slice (some ⟨g, 0, none⟩) cap cap) cap ((zs ++ filli zs.length (k + 1 - zs.length)).map (Value.int .i64) ++ rest')) := HS
          clear HS howq hrl
          go_wp2
          go_roundw
          case rel =>
            obtain ⟨rest', hrl', hro'⟩ := HS'.out
            exact ⟨k + 1, rest', by omega, by omega, by go_num, hrl', hro', hbq.setCell (p := ⟨g, k, none⟩) hbg _⟩
          case measure => simp [intOf]; omega
        · have hke : k = cap := by omega
          subst hke
          have hrn : rest = [] := List.eq_nil_of_length_eq_zero (by omega)
          subst hrn
          rw [List.append_nil] at howq
          have hgl2 : g < wr.heap.size := (howq.lt g rfl).2
          have HS' : Hid (LentI wr w.heap.size g k zs) := ⟨hnc, by unfold maxLen; omega, hbg, hgl2, howq⟩
          clear howq
          go_wp2
          go_ret
          exact ⟨g, k, rfl, HS'.out, hbq⟩
theorem LentI.rd {w : World} {base g cap : Nat} {zs : List Int} (h : LentI w base g cap zs) : Rd .i64 w (.slice (some ⟨g, 0, none⟩) zs.length cap) zs := by
  obtain ⟨hl1, hl2, hl3, hl4, hown⟩ := h
  refine ⟨_, cap, rfl, by omega, hl2, fun _ => ⟨g, 0, rfl, hl4, fun i hi => ?_⟩⟩
  rw [Nat.zero_add, hown.cellAt i (by omega), List.getElem?_map, List.getElem?_append_left hi]
  simp [hi]
theorem LentI.stay {w w' : World} {base g cap : Nat} {zs : List Int} (h : LentI w base g cap zs) (hg : w'.heap[g]? = w.heap[g]?) (hs : w.heap.size ≤ w'.heap.size) : LentI w' base g cap zs :=
  ⟨h.1, h.2.1, h.2.2.1, Nat.lt_of_lt_of_le h.2.2.2.1 hs, own_stay h.2.2.2.2 (fun k e => by
    have : g = k := by simpa [Value.ownBlock] using e
    subst this
    exact hg)⟩
theorem LentI.ext {w w' : World} {base g cap : Nat} {zs : List Int} (h : LentI w base g cap zs) (hb : Below w.heap.size w w') : LentI w' base g cap zs := h.stay (hb.block g h.2.2.2.1) hb.size
/-- The text that is written over: 97, 98, 97 .. -/
def alt (n : Nat) : List Int := (List.range n).map fun i => 97 + ((i % 2 : Nat) : Int)
theorem alt_len (n : Nat) : (alt n).length = n := by simp [alt]
theorem alt_succ (n : Nat) : alt (n + 1) = alt n ++ [97 + ((n % 2 : Nat) : Int)] := by simp [alt, List.range_succ]
theorem alt_get (n i : Nat) (h : i < n) : (alt n)[i]? = some (97 + ((i % 2 : Nat) : Int)) := by simp [alt, h]
/-- All of it is written over. -/
def AltI (w : World) (base g cap : Nat) : Prop :=
  cap ≤ maxLen ∧ base ≤ g ∧ g < w.heap.size ∧ w.ownsRow base 3 1 (.slice (some ⟨g, 0, none⟩) cap cap) cap ((alt cap).map (Value.int .i64))
theorem AltI.rd {w : World} {base g cap n : Nat} (h : AltI w base g cap) (hn : n ≤ cap) : Rd .i64 w (.slice (some ⟨g, 0, none⟩) n cap) (alt n) := by
  obtain ⟨hl2, hl3, hl4, hown⟩ := h
  refine ⟨_, cap, by rw [alt_len], by rw [alt_len]; omega, hl2, fun _ => ⟨g, 0, rfl, hl4, fun i hi => ?_⟩⟩
  rw [alt_len] at hi
  rw [Nat.zero_add, hown.cellAt i (by omega), List.getElem?_map, alt_get cap i (by omega), alt_get n i hi]
  rfl
theorem AltI.stay {w w' : World} {base g cap : Nat} (h : AltI w base g cap) (hg : w'.heap[g]? = w.heap[g]?) (hs : w.heap.size ≤ w'.heap.size) : AltI w' base g cap :=
  ⟨h.1, h.2.1, Nat.lt_of_lt_of_le h.2.2.1 hs, own_stay h.2.2.2 (fun k e => by
    have : g = k := by simpa [Value.ownBlock] using e
    subst this
    exact hg)⟩
theorem alt_step {w : World} {base g cap k : Nat} {rest : List Value} (h2 : k < cap) (hr : rest.length = cap - k)
    (hown : w.ownsRow base 3 1 (.slice (some ⟨g, 0, none⟩) cap cap) cap ((alt k).map (Value.int .i64) ++ rest)) :
    ∃ rest' : List Value, rest'.length = cap - (k + 1) ∧ (w.setCell ⟨g, k, none⟩ (.int .i64 (97 + ((k % 2 : Nat) : Int)))).ownsRow base 3 1 (.slice (some ⟨g, 0, none⟩) cap cap) cap ((alt (k + 1)).map (Value.int .i64) ++ rest') := by
  obtain ⟨r, rest', rfl⟩ : ∃ r rest', rest = r :: rest' := by
    cases rest with
    | nil => simp at hr; omega
    | cons r l => exact ⟨r, l, rfl⟩
  refine ⟨rest', by simp at hr; omega, ?_⟩
  have h := (hown.stored k (.int .i64 (97 + ((k % 2 : Nat) : Int)))).1
  rw [set_midI _ _ _ _ k (by simp [alt_len])] at h
  rw [alt_succ, List.map_append]
  exact h
theorem own_setG {w : World} {base g cap k : Nat} {xs : List Value} (hown : w.ownsRow base 3 1 (.slice (some ⟨g, 0, none⟩) cap cap) cap xs) (x : Value) : w.grownBy (w.setCell ⟨g, k, none⟩ x) (some g) := by
  obtain ⟨_, cur, hc⟩ := own_blk hown (g := g) rfl
  exact (set1 hc k x).2
theorem grown_ofG {w w' : World} (g : Nat) (b : Below w.heap.size w w') : w.grownBy w' (some g) := ⟨b.os, b.tape, b.output, b.size, fun j hj _ => b.block j hj⟩
set_option maxRecDepth 100000 in
theorem kept_any (v : Value) (zs : List Int) (g cap base : Nat) (w : World) (hr : Rd .i64 w v zs) (hL : LentI w base g cap zs) :
    Calls Tryd.prog 9 #[.slice (some ⟨g, 0, none⟩) cap cap, v] w fun e w' => e = .returned (.bool true) ∧ AltI w' base g cap ∧ w.grownBy w' (some g) := by
  have HL := hidIt hL
  obtain ⟨ao, cp, rfl, _⟩ := id hr
  have SM := hidIt (sameInts_any _ _ zs w hL.rd hr)
  obtain ⟨hl1, hl2, hl3, hl4, _⟩ := hL
  clear hr
  unfold maxLen at hl2
  have hd : decide ((zs.length : Int) + 40 ≤ (cap : Int)) = true := by simp; omega
  have hw4 : IntKind.i64.wrap ((zs.length : Int) + 40) = (zs.length : Int) + 40 := by rw [IntKind.wrap_i64]; omega
  go_enter Tryd.func9, Tryd.ntmps9
  go_wp2_with (go_at_call 11; refine SM.out.mono ?_; rintro e w1 ⟨rfl, b1⟩; (try dsimp only); have B1 := hidIt b1; clear b1)
  have HL1 := hidIt (HL.out.ext B1.out)
  have hcell : ∀ k, zs.length ≤ k → k < cap → w1.cell? ⟨g, k, none⟩ = some (.int .i64 (wrap64 (-71 - (k : Int)))) := by
    intro k hk1 hk2
    rw [HL1.out.2.2.2.2.cellAt k (by omega), List.getElem?_map, List.getElem?_append_right (by omega), filli_get _ _ _ (by omega)]
    simp [fillI, show zs.length + (k - zs.length) = k from by omega]
  have HC := hidIt hcell
  clear hcell
  go_loopw [6, 7] (fun ok i wr => ∃ k : Nat, zs.length ≤ k ∧ k ≤ cap ∧ i = .int .i64 k ∧ ok = .bool true ∧ wr = w1) (fun _ i _ => cap - (intOf i).toNat)
  case atStart => exact ⟨zs.length, Nat.le_refl _, by omega, rfl, rfl, rfl⟩
  case round =>
    obtain ⟨k, hk1, hk2, rfl, rfl, rfl⟩ := hrel
    by_cases hlt : k < cap
    · have hc := HC.out k hk1 hlt
      go_wp2
      go_roundw
      case rel => exact ⟨k + 1, by omega, by omega, by go_num, by simp⟩
      case measure => simp [intOf]; omega
    · go_wp2
      go_loopw [8] (fun i wq => ∃ (k : Nat) (rest : List Value), k ≤ cap ∧ i = .int .i64 k ∧ rest.length = cap - k ∧ wq.ownsRow base 3 1 (.slice (some ⟨g, 0, none⟩) cap cap) cap ((alt k).map (Value.int .i64) ++ rest) ∧ Hid (w.grownBy wq (some g))) (fun i _ => cap - (intOf i).toNat)
      case atStart => exact ⟨0, _, Nat.zero_le _, rfl, by simp [filli_len]; omega, HL1.out.2.2.2.2, grown_ofG g B1.out⟩
      case round =>
        obtain ⟨q, rest, hq, rfl, hrl, howq, HG⟩ := hrel
        by_cases hlq : q < cap
        · obtain ⟨u, hcx⟩ := lend_cellI howq hlq
          have hfz := howq.frozenAt q
          have HS' := hidIt (alt_step hlq hrl howq)
          have HGS := hidIt (own_setG (k := q) howq (.int .i64 (97 + ((q % 2 : Nat) : Int))))
          have m1 : Int.tmod (q : Int) 2 = ((q % 2 : Nat) : Int) := by
            rw [Int.tmod_eq_emod_of_nonneg (by omega)]
            omega
          have m2 : IntKind.i64.wrap (97 + ((q % 2 : Nat) : Int)) = 97 + ((q % 2 : Nat) : Int) := by rw [IntKind.wrap_i64]; omega
          generalize hqq : q % 2 = q2 at *
          clear howq hrl
          go_wp2
          go_roundw
          case rel =>
            obtain ⟨rest', hrl', hro'⟩ := HS'.out
            exact ⟨q + 1, rest', by omega, by go_num, hrl', hro', grown_trans HG.out HGS.out⟩
          case measure => simp [intOf]; omega
        · obtain rfl : q = cap := by omega
          obtain rfl : rest = [] := List.eq_nil_of_length_eq_zero (by omega)
          rw [List.append_nil] at howq
          have HS' : Hid (AltI wr base g q) := ⟨by unfold maxLen; omega, hl3, (howq.lt g rfl).2, howq⟩
          clear howq
          go_wp2
          go_ret
          exact ⟨rfl, HS'.out, HG.out⟩
end Go.Proofs.YtipnifenahhkoaaDoor
