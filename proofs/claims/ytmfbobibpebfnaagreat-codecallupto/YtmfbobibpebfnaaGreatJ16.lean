import Derived.Test.YtmfbobibpebfnaaGreatJ13
import Derived.Test.YtmfbobibpebfnaaGreatJ01
import Derived.Lib.AppendZerosOnto
import Derived.Lib.Walk
import Derived.Lib.SliceRun
import Derived.LoopN
import Derived.Laws.AppendOwnNone
import Derived.Laws.CopyOwn
/- slices.Grow of nil, slices.Concat of two. -/
namespace Go.Proofs.YtmfbobibpebfnaaGreat
open Go.RowKit Go.Lib

set_option maxRecDepth 100000 in
set_option maxHeartbeats 1000000 in
theorem grow_any (n : Nat) (h0 : 0 < n) (hn : n ≤ 140737488355328) (w : World) :
    Calls Tryz.prog 58 #[.slice none 0 0, .int .i64 n] w fun e w' => ∃ v, e = .returned v ∧ w'.ownsRow w.heap.size 5 1 v 0 [] ∧ Below w.heap.size w w' := by
  obtain ⟨i0, hi, hz0, hz1, hz2⟩ := info_parts Tryz.info_u8
  have hrz : ∀ ty, (Builtin.append_ #[35, 3] ty #[.slice none 0 0, .int .i64 n]).run Tryz.prog w = _ := fun ty => by
    have h := Lib.run_append_grow_zeros w 35 3 ty 5 i0 (.int .u8 0) .i64 .i64 Tryz.underlying35 Tryz.underlying3 hi hz0 none 0 0 [] (run_firstCells_none w.drew i0.size 0 0 0) n h0 (by omega) (by omega) (by omega)
      (by rw [hz2]; omega) (by rw [hz2]; exact growslice_fits (by omega) (by omega))
    exact h
  simp only [Nat.zero_add] at hrz
  have hGn : n ≤ grownCap w n 0 5 := grownCap_ge w _ _ _
  have hG63 : grownCap w n 0 5 ≤ 9223372036854775807 := by
    have := grownCap_le_maxLen w n 0 5 (by unfold maxLen; omega)
    unfold maxLen at this
    omega
  generalize grownCap w n 0 5 = G at *
  go_enter Tryz.func58, Tryz.ntmps58
  go_wp2_with (at_builtin; refine Lib.wpList_append_run _ rfl _ _ _ _ rfl _ _ rfl rfl _ _ (hrz _) ?_)
  all_goals
    go_ret
    refine ⟨_, rfl, ⟨rfl, .inr ⟨w.heap.size, G, _, rfl, Nat.le_refl _, heap_alloc_new w _, Nat.zero_le _, by unfold maxLen; omega, by simp [Builtin.zeroCells]; omega, by simp⟩⟩, ((Below.refl _ _).alloc (Nat.le_refl _) _).drew⟩

/-- A slice as Go makes it: nil, or it lies somewhere. -/
def Sl (v : Value) : Prop := v = .slice none 0 0 ∨ ∃ b off n c, v = .slice (some ⟨b, off, none⟩) n c

theorem Sl.of_own {w : World} {base : Nat} {e : TypeId} {size n : Nat} {v : Value} {xs : List Value} (h : w.ownsRow base e size v n xs) : Sl v := by
  rcases h.2 with ⟨rfl, _⟩ | ⟨g, cap, cur, rfl, _⟩
  · exact .inl rfl
  · exact .inr ⟨_, _, _, _, rfl⟩

theorem rd_cells {w : World} {b off n c : Nat} {zs : List Int} {k : IntKind} (h : Rd k w (.slice (some ⟨b, off, none⟩) n c) zs) : n = zs.length ∧ ∀ j u, (zs.map (Value.int k))[j]? = some u → w.cell? ((⟨b, off, none⟩ : Addr).add j) = some u := by
  obtain ⟨ao, cap, hv, h1, h2, h3⟩ := h
  cases hv
  refine ⟨rfl, fun j u hj => ?_⟩
  have hjl : j < zs.length := by
    have := (List.getElem?_eq_some_iff.1 hj).1
    simpa using this
  have hne : zs ≠ [] := by intro h; subst h; simp at hjl
  obtain ⟨b', off', ha, _, hc⟩ := h3 hne
  cases ha
  rw [Addr.add_lit, hc j hjl]
  rw [List.getElem?_map] at hj
  obtain ⟨z, hz, rfl⟩ := Option.map_eq_some_iff.1 hj
  rw [hz]
  rfl
theorem one_all (k : IntKind) (zs : List Int) : ∀ u ∈ zs.map (Value.int k), u.oneCell' = true := by
  intro u hu
  obtain ⟨z, _, rfl⟩ := List.mem_map.1 hu
  rfl

set_option maxRecDepth 100000 in
set_option maxHeartbeats 2000000 in
theorem concat_any (B : Nat) (v1 v2 : Value) (x y : List Int) (w : World) (h1 : Rd .u8 w v1 x) (h2 : Rd .u8 w v2 y) (s2 : Sl v2) (b1 o1 n1 c1 : Nat) (e1 : v1 = .slice (some ⟨b1, o1, none⟩) n1 c1) (hx : x ≠ []) (hl : x.length + y.length ≤ 1048579)
    (hB : B < w.heap.size) (hc1 : w.cell? ⟨B, 0, none⟩ = some v1) (hc2 : w.cell? ⟨B, 1, none⟩ = some v2) :
    Calls Tryz.prog 32 #[.slice (some ⟨B, 0, none⟩) 2 2] w fun e w' => ∃ v, e = .returned v ∧ w'.ownsRow w.heap.size 5 1 v (x ++ y).length ((x ++ y).map (Value.int .u8)) ∧ Below w.heap.size w w' := by
  obtain ⟨i0, hi, hz0, hz1, hz2⟩ := info_parts Tryz.info_u8
  have hxp : 0 < x.length := List.length_pos_iff.2 hx
  have H1 : Hid (Rd .u8 w v1 x) := h1
  have H2 : Hid (Rd .u8 w v2 y) := h2
  obtain ⟨ao2, cap2, hv2, _, _, _⟩ := id h2
  subst e1
  have hn1 := (rd_cells h1).1
  subst hn1
  subst hv2
  have S2 : Hid (Sl (.slice ao2 y.length cap2)) := s2
  clear h1 h2 s2 hx
  go_enter Tryz.func32, Tryz.ntmps32
  go_wp2_with fail
  refine wp_loop_rounds 3 ?_
  rw [rounds_succ]
  go_wp2_with fail
  rw [rounds_succ]
  go_wp2_with fail
  rw [rounds_succ]
  go_wp2_with fail
  refine (grow_any (x.length + y.length) (by omega) (by omega) _).mono ?_
  rintro e w1 ⟨g1, rfl, own1, hb1⟩
  have hc1' : w1.cell? ⟨B, 0, none⟩ = some (.slice (some ⟨b1, o1, none⟩) x.length c1) := (hb1.cell (p := ⟨B, 0, none⟩) hB).trans hc1
  have hc2' : w1.cell? ⟨B, 1, none⟩ = some (.slice ao2 y.length cap2) := (hb1.cell (p := ⟨B, 1, none⟩) hB).trans hc2
  have R1 : Hid (Rd .u8 w1 (.slice (some ⟨b1, o1, none⟩) x.length c1) x) := H1.out.ext hb1
  have HB1 : Hid (Below w.heap.size w w1) := hb1
  have hs1 : w.heap.size ≤ w1.heap.size := hb1.size
  have HC2 : Hid (w.cell? ⟨B, 1, none⟩ = some (.slice ao2 y.length cap2)) := hc2
  clear hb1 hc1 hc2
  go_wp2_with fail
  refine wp_loop_rounds 3 ?_
  rw [rounds_succ]
  go_wp2_with (at_builtin; refine wpList_append_own _ rfl _ _ 35 rfl w.heap.size 5 i0 (.int .u8 0) 1 1 Tryz.underlying35 hi hz0 hz1 hz2 rfl (by decide) g1 0 [] rfl own1 ⟨b1, o1, none⟩ x.length c1 (x.map (Value.int .u8)) rfl (by simp) (rd_cells R1.out).2 (one_all _ _) (by unfold maxLen; omega) (by omega) hs1 ?_; intro g2 w2 own2 hg2 hx2)
  have HB2 : Hid (Below w.heap.size w w2) := HB1.out.grown hg2 hs1 (fun k hk => (own1.lt k hk).1)
  have hs2 : w.heap.size ≤ w2.heap.size := HB2.out.size
  have hc2' : w2.cell? ⟨B, 1, none⟩ = some (.slice ao2 y.length cap2) := (HB2.out.cell (p := ⟨B, 1, none⟩) hB).trans HC2.out
  have R2 : Hid (Rd .u8 w2 (.slice ao2 y.length cap2) y) := H2.out.ext HB2.out
  simp only [Nat.zero_add, List.nil_append] at own2
  clear hx2 hg2 own1 R1 hc1' HB1 HC2
  rw [rounds_succ]
  rcases S2.out with hs | ⟨b2, o2, n2, c2, hs⟩
  · have hy : y.length = 0 := by injection hs
    have hao : ao2 = none := by injection hs
    have hcp : cap2 = 0 := by injection hs
    have hyn : y = [] := List.length_eq_zero_iff.1 hy
    subst hao hcp
    rw [hy] at hc2'
    clear hs S2 R2 H2
    go_wp2_with (at_builtin; refine wpList_append_own_none rfl _ _ 35 rfl w.heap.size 5 i0 1 Tryz.underlying35 hi g2 x.length (x.map (Value.int .u8)) rfl own2 rfl ?_)
    rw [rounds_succ]
    go_wp2_with fail
    go_ret
    exact ⟨_, rfl, by rw [hyn, List.append_nil]; exact own2, HB2.out⟩
  · have hao : ao2 = some ⟨b2, o2, none⟩ := by injection hs
    subst hao
    clear hs S2
    go_wp2_with (at_builtin; refine wpList_append_own _ rfl _ _ 35 rfl w.heap.size 5 i0 (.int .u8 0) 1 1 Tryz.underlying35 hi hz0 hz1 hz2 rfl (by decide) g2 x.length (x.map (Value.int .u8)) rfl own2 ⟨b2, o2, none⟩ y.length cap2 (y.map (Value.int .u8)) rfl (by simp) (rd_cells R2.out).2 (one_all _ _) (by unfold maxLen; omega) (by omega) hs2 ?_; intro g3 w3 own3 hg3 hx3)
    rw [rounds_succ]
    go_wp2_with fail
    go_ret
    refine ⟨_, rfl, ?_, HB2.out.grown hg3 hs2 (fun k hk => (own2.lt k hk).1)⟩
    rw [List.length_append, List.map_append]
    exact own3
end Go.Proofs.YtmfbobibpebfnaaGreat

/- A stream in memory: what it holds; the copy into it. -/
namespace Go.Proofs.YtmfbobibpebfnaaGreat
open Go.RowKit Go.Lib

/-- The stream's block. -/
def strow (enc : Int) (x : Int × Int × Int) (n : Nat) : Array Value := #[Cx.cv enc, .int .u8 x.1, .int .u8 x.2.1, .int .u8 x.2.2, .int .i64 n]
/-- At block g lies a stream of the encoding that holds the bytes h. -/
def St (w : World) (g : Nat) (enc : Int) (h : List Int) : Prop :=
  ∃ x : Int × Int × Int, w.heap[g]? = some (.cells (strow enc x h.length) 51 (0, 0)) ∧ h = [x.1, x.2.1, x.2.2].take h.length ∧ h.length ≤ 3

theorem St.lt {w : World} {g : Nat} {enc : Int} {h : List Int} (s : St w g enc h) : g < w.heap.size := by
  obtain ⟨x, hg, _⟩ := s
  exact (Array.getElem?_eq_some_iff.1 hg).1
theorem St.ext {w w' : World} {g : Nat} {enc : Int} {h : List Int} (s : St w g enc h) (hb : Below w.heap.size w w') : St w' g enc h := by
  have hl := s.lt
  obtain ⟨x, hg, h1, h2⟩ := s
  exact ⟨x, by rw [hb.block g hl]; exact hg, h1, h2⟩
theorem St.other {w w' : World} {g k : Nat} {enc : Int} {h : List Int} (s : St w g enc h) (hb : w.grownBy w' (some k)) (hk : g ≠ k) : St w' g enc h := by
  have hl := s.lt
  obtain ⟨x, hg, h1, h2⟩ := s
  exact ⟨x, by rw [hb.block g hl (by intro e; cases e; exact hk rfl)]; exact hg, h1, h2⟩

theorem row_facts {w : World} {g : Nat} {enc : Int} {x : Int × Int × Int} {n : Nat} (hg : w.heap[g]? = some (.cells (strow enc x n) 51 (0, 0))) :
    w.cell? ⟨g, 0, none⟩ = some (Cx.cv enc) ∧ w.cell? ⟨g, 1, none⟩ = some (.int .u8 x.1) ∧ w.cell? ⟨g, 2, none⟩ = some (.int .u8 x.2.1) ∧ w.cell? ⟨g, 3, none⟩ = some (.int .u8 x.2.2) ∧ w.cell? ⟨g, 4, none⟩ = some (.int .i64 n) ∧ w.frozen? ⟨g, 4, none⟩ = false := by
  refine ⟨?_, ?_, ?_, ?_, ?_, ?_⟩
  · rw [cell_of_row w g 0 _ _ _ hg]; rfl
  · rw [cell_of_row w g 1 _ _ _ hg]; rfl
  · rw [cell_of_row w g 2 _ _ _ hg]; rfl
  · rw [cell_of_row w g 3 _ _ _ hg]; rfl
  · rw [cell_of_row w g 4 _ _ _ hg]; rfl
  · simp [World.frozen?, hg]

theorem held_rd {w : World} {g : Nat} {enc : Int} {h : List Int} (s : St w g enc h) : Rd .u8 w (.slice (some ⟨g, 1, none⟩) h.length 3) h := by
  have hl := s.lt
  obtain ⟨x, hg, h1, h2⟩ := s
  obtain ⟨_, c1, c2, c3, _⟩ := row_facts hg
  refine ⟨_, 3, rfl, h2, by simp [maxLen], fun _ => ⟨g, 1, rfl, hl, fun i hi => ?_⟩⟩
  have hi3 : i = 0 ∨ i = 1 ∨ i = 2 := by omega
  have e : h[i]? = [x.1, x.2.1, x.2.2][i]? := by rw [h1, List.getElem?_take, if_pos hi]
  rw [e]
  rcases hi3 with rfl | rfl | rfl
  · simpa using c1
  · simpa using c2
  · simpa using c3

theorem grown_below {w w' : World} {k : Option Nat} (h : Below w.heap.size w w') : w.grownBy w' k := ⟨h.os, h.tape, h.output, h.size, fun j hj _ => h.block j hj⟩
theorem grown_trans {a b c : World} {k : Nat} (h : a.grownBy b (some k)) (h' : b.grownBy c (some k)) : a.grownBy c (some k) :=
  ⟨h'.os.trans h.os, h'.tape.trans h.tape, h'.output.trans h.output, Nat.le_trans h.size h'.size, fun j hj hk => (h'.block j (Nat.lt_of_lt_of_le hj h.size) hk).trans (h.block j hj hk)⟩
theorem grown_setRow (w : World) (g : Nat) (cs : Array Value) : w.grownBy (w.setRow g cs) (some g) :=
  ⟨rfl, rfl, rfl, by simp [World.setRow], fun j _ hk => setRow_other w g j cs (by intro e; subst e; exact hk rfl)⟩

/-- copy(s.held[:], b), where b is short. -/
theorem wpList_copy_held {w : World} {ops : Array Oper} {rest : List Oper} {o : Oper} {a : Act} {Q : Exit → Act → World → Prop} (hgd : o.guard = none) (d s : Operand)
    (ho : o.op = .call { callee := .builtin .copy, args := #[d, s], argTypes := #[35, 35] }) (g : Nat) (enc : Int) (x : Int × Int × Int) (n : Nat) (v : Value) (ys : List Int)
    (hd : a.eval d = .slice (some ⟨g, 1, none⟩) 3 3) (hs : a.eval s = v) (hg : w.heap[g]? = some (.cells (strow enc x n) 51 (0, 0))) (hr : Rd .u8 w v ys) (hl : ys.length ≤ 3)
    (h : ∀ w' y, w'.heap[g]? = some (.cells (strow enc y n) 51 (0, 0)) → ys = [y.1, y.2.1, y.2.2].take ys.length → w.grownBy w' (some g) → wpList Tryz.prog ops Q rest (a.put o.dst (.int .i64 ys.length)) w') :
    wpList Tryz.prog ops Q (o :: rest) a w := by
  obtain ⟨i0, hi, hz0, hz1, hz2⟩ := info_parts Tryz.info_u8
  have hsz : (Tryz.prog.info? 5).map (·.size) = some 1 := by rw [hi]; simp [hz1]
  obtain ⟨ao, cap, rfl, h1, h2, h3⟩ := id hr
  by_cases hn : ys = []
  · subst hn
    refine wpList_copy_nothing hgd d s _ _ ho 5 Tryz.underlying35 hsz _ _ _ _ _ _ hd hs (by simp) ?_
    exact h w x hg rfl ⟨rfl, rfl, rfl, Nat.le_refl _, fun _ _ _ => rfl⟩
  · obtain ⟨b, off, rfl, hb, hc⟩ := h3 hn
    refine wpList_copy_own hgd d s _ _ ho 5 Tryz.underlying35 hsz g 1 3 3 ⟨b, off, none⟩ ys.length cap hd hs _ _ hg (ys.map (Value.int .u8)) ?_ (rd_cells hr).2 ?_ (one_all _ _) ?_
    · simp only [List.length_map]; exact (Nat.min_eq_left hl).symm
    · simp [strow]; omega
    · rw [List.length_map]
      have hgo : goInt (ys.length : Int) = .int .i64 ys.length := rfl
      rw [hgo]
      match ys, hl, hn with
      | [y0], _, _ =>
        refine h _ (y0, x.2.1, x.2.2) ?_ rfl (grown_setRow _ _ _)
        rw [setRow_heap w g _ _ 51 (0, 0) hg]; rfl
      | [y0, y1], _, _ =>
        refine h _ (y0, y1, x.2.2) ?_ rfl (grown_setRow _ _ _)
        rw [setRow_heap w g _ _ 51 (0, 0) hg]; rfl
      | [y0, y1, y2], _, _ =>
        refine h _ (y0, y1, y2) ?_ rfl (grown_setRow _ _ _)
        rw [setRow_heap w g _ _ 51 (0, 0) hg]; rfl

theorem st_count {w : World} {g : Nat} {enc : Int} {x : Int × Int × Int} {n m : Nat} (hg : w.heap[g]? = some (.cells (strow enc x n) 51 (0, 0))) :
    (w.setCell ⟨g, 4, none⟩ (.int .i64 m)).heap[g]? = some (.cells (strow enc x m) 51 (0, 0)) ∧ w.grownBy (w.setCell ⟨g, 4, none⟩ (.int .i64 m)) (some g) := by
  rw [setCell_eq_setRow w g 4 _ _ _ _ hg]
  refine ⟨?_, grown_setRow _ _ _⟩
  rw [setRow_heap w g _ _ 51 (0, 0) hg]
  rfl

theorem Held_any (w : World) (g : Nat) (enc : Int) (h : List Int) (s : St w g enc h) : Calls Tryz.prog 28 #[.pointer (some ⟨g, 0, none⟩)] w fun e w' => e = .returned (.int .i64 h.length) ∧ w' = w := by
  obtain ⟨x, hg, h1, h2⟩ := s
  obtain ⟨_, _, _, _, c4, _⟩ := row_facts hg
  clear hg h1 h2
  go_enter Tryz.func28, Tryz.ntmps28
  go_wp2_with fail
  go_ret
  exact ⟨rfl, rfl⟩

set_option maxRecDepth 100000 in
theorem NewStream_any (enc : Int) (he : Cx.known enc = true) (w : World) : Calls Tryz.prog 4 #[.int .i64 enc] w fun e w' => e = .returned (.tuple #[.pointer (some ⟨w.heap.size, 0, none⟩), .int .i64 0]) ∧ St w' w.heap.size enc [] ∧ Below w.heap.size w w' := by
  have hk : enc = 1 ∨ enc = 2 ∨ enc = 3 ∨ enc = 4 := by unfold Cx.known at he; simp at he; omega
  clear he
  rcases hk with rfl | rfl | rfl | rfl
  · go_enter Tryz.func4, Tryz.ntmps4
    go_wp2_with fail
    refine (coderOf_1 _).mono ?_
    rintro e w' ⟨rfl, rfl⟩
    go_wp2_with fail
    go_ret2
    exact ⟨rfl, ⟨(0, 0, 0), heap_alloc_new _ _, rfl, by simp⟩, ext_alloc (Below.refl _ _) _⟩
  · go_enter Tryz.func4, Tryz.ntmps4
    go_wp2_with fail
    refine (coderOf_2 _).mono ?_
    rintro e w' ⟨rfl, rfl⟩
    go_wp2_with fail
    go_ret2
    exact ⟨rfl, ⟨(0, 0, 0), heap_alloc_new _ _, rfl, by simp⟩, ext_alloc (Below.refl _ _) _⟩
  · go_enter Tryz.func4, Tryz.ntmps4
    go_wp2_with fail
    refine (coderOf_3 _).mono ?_
    rintro e w' ⟨rfl, rfl⟩
    go_wp2_with fail
    go_ret2
    exact ⟨rfl, ⟨(0, 0, 0), heap_alloc_new _ _, rfl, by simp⟩, ext_alloc (Below.refl _ _) _⟩
  · go_enter Tryz.func4, Tryz.ntmps4
    go_wp2_with fail
    refine (coderOf_4 _).mono ?_
    rintro e w' ⟨rfl, rfl⟩
    go_wp2_with fail
    go_ret2
    exact ⟨rfl, ⟨(0, 0, 0), heap_alloc_new _ _, rfl, by simp⟩, ext_alloc (Below.refl _ _) _⟩
end Go.Proofs.YtmfbobibpebfnaaGreat

/- Feed: what its walks share. -/
namespace Go.Proofs.YtmfbobibpebfnaaGreat
open Go.RowKit Go.Lib

theorem own_mono {w : World} {base base' : Nat} {e : TypeId} {size n : Nat} {v : Value} {xs : List Value} (h : w.ownsRow base e size v n xs) (hb : base' ≤ base) : w.ownsRow base' e size v n xs := by
  obtain ⟨h1, h2⟩ := h
  refine ⟨h1, ?_⟩
  rcases h2 with h2 | ⟨g, cap, cur, h3, h4, h5⟩
  · exact .inl h2
  · exact .inr ⟨g, cap, cur, h3, by omega, h5⟩
theorem own_grown {w w' : World} {base k : Nat} {e : TypeId} {size n : Nat} {v : Value} {xs : List Value} (h : w.ownsRow base e size v n xs) (hb : w.grownBy w' (some k)) (hk : k < base) : w'.ownsRow base e size v n xs := by
  obtain ⟨h1, h2⟩ := h
  refine ⟨h1, ?_⟩
  rcases h2 with h2 | ⟨g, cap, cur, h3, h4, h5, h6⟩
  · exact .inl h2
  · exact .inr ⟨g, cap, cur, h3, h4, by rw [hb.block g (Array.getElem?_eq_some_iff.1 h5).1 (by intro e; cases e; omega)]; exact h5, h6⟩

theorem wt1_any (v : Value) (zs : List Int) (w : World) (h : Rd .u8 w v zs) (hb : Byt zs) (hn : zs ≠ []) : Calls Tryz.prog 97 #[.agg #[], v] w fun e w' => e = .returned (.bool (Cx.wt 1 zs)) ∧ Below w.heap.size w w' := nwaits_any v zs w h hb hn

theorem wt2_any (v : Value) (zs : List Int) (w : World) (h : Rd .u8 w v zs) (hb : Byt zs) (hn : zs ≠ []) : Calls Tryz.prog 107 #[.agg #[.int .i64 0], v] w fun e w' => e = .returned (.bool (Cx.wt 2 zs)) ∧ Below w.heap.size w w' := wwaits_any 0 v zs w h hb (.inl rfl) hn

theorem wt3_any (v : Value) (zs : List Int) (w : World) (h : Rd .u8 w v zs) (hb : Byt zs) (hn : zs ≠ []) : Calls Tryz.prog 107 #[.agg #[.int .i64 1], v] w fun e w' => e = .returned (.bool (Cx.wt 3 zs)) ∧ Below w.heap.size w w' := wwaits_any 1 v zs w h hb (.inr rfl) hn

theorem wt4_any (v : Value) (zs : List Int) (w : World) (_h : Rd .u8 w v zs) (_hb : Byt zs) (_hn : zs ≠ []) : Calls Tryz.prog 119 #[.agg #[], v] w fun e w' => e = .returned (.bool (Cx.wt 4 zs)) ∧ Below w.heap.size w w' := lwaits_any v w
end Go.Proofs.YtmfbobibpebfnaaGreat

/- Feed, encoding 1. -/
namespace Go.Proofs.YtmfbobibpebfnaaGreat
open Go.RowKit Go.Lib

set_option maxRecDepth 100000 in
set_option maxHeartbeats 2000000 in
theorem feed_1 (w : World) (g : Nat) (hh b : List Int) (v : Value) (s : St w g 1 hh) (hr : Rd .u8 w v b) (sl : Sl v) (hB : Byt (hh ++ b)) (hz : b.length ≤ 1048576) :
    Calls Tryz.prog 14 #[.pointer (some ⟨g, 0, none⟩), v] w fun e w' => ∃ v', e = .returned v' ∧ w'.ownsRow w.heap.size 3 1 v' (Cx.fd 1 (hh ++ b)).1.length ((Cx.fd 1 (hh ++ b)).1.map (Value.int .i64)) ∧ St w' g 1 (Cx.fd 1 (hh ++ b)).2 ∧ w.grownBy w' (some g) := by
  obtain ⟨i0, hi, hz0, hz1, hz2⟩ := info_parts Tryz.info_i64
  have hmw := m_waits1
  have hmf := m_first1
  have hgl := s.lt
  have HSt : Hid (St w g 1 hh) := s
  obtain ⟨x, hg, hx1, hx2⟩ := s
  have HG : Hid (w.heap[g]? = some (.cells (strow 1 x hh.length) 51 (0, 0))) := hg
  obtain ⟨r0, _, _, _, r4, _⟩ := row_facts hg
  have HR : Hid (Rd .u8 w v b) := hr
  have HBc : Hid (Byt (hh ++ b)) := hB
  have HSl : Hid (Sl v) := sl
  clear hg hx1 hr hB sl r0
  by_cases hh0 : hh = []
  · have hcb : hh ++ b = b := by rw [hh0]; rfl
    have hl0 : hh.length = 0 := by rw [hh0]; rfl
    have hl0' : ¬ (0 : Int) < (hh.length : Int) := by omega
    rw [hcb]
    have HR0 : Hid (Rd .u8 w v b) := HR.out
    have HBc' : Hid (Byt b) := by have := HBc.out; rwa [hcb] at this
    clear hcb hh0
    have hg0 := hgl
    have HG0 := HG
    have hw0 : w.heap.size ≤ w.heap.size := Nat.le_refl _
    have HB01 : Hid (Below w.heap.size w w) := Below.refl _ _
    have hcz : b.length ≤ 1048579 := by omega
    clear HBc HR HSt HG
    have HBc := HBc'
    clear HBc'
    go_enter Tryz.func14, Tryz.ntmps14
    go_wp2_with fail
    go_loopw [1, 5] (fun bv o wr => ∃ ys l : List Int, Hid (Cx.fd 1 b = (l ++ (Cx.fd 1 ys).1, (Cx.fd 1 ys).2)) ∧ l.length + ys.length ≤ b.length ∧ Hid (Rd .u8 w bv ys) ∧ Hid (Byt ys) ∧ wr.ownsRow w.heap.size 3 1 o l.length (l.map (Value.int .i64)) ∧ Below w.heap.size w wr) (fun bv _ _ => lenOf bv)
    case atStart => exact ⟨b, [], by unfold Hid; simp, by simp, HR0.out, HBc.out, World.ownsRow_nil _ _ _ _, Below.refl _ _⟩
    case round =>
      obtain ⟨ys, l, HD, hle, HY, HYB, hown, hbw⟩ := hrel
      have hw' : w.heap.size ≤ wr.heap.size := hbw.size
      have hylen := HY.out.len
      have HS : Hid (wr.heap[g]? = some (.cells (strow 1 x hh.length) 51 (0, 0))) := by unfold Hid; rw [hbw.block g hg0]; exact HG0.out
      have hc0 : wr.cell? ⟨g, 0, none⟩ = some (.iface 76 (.agg #[])) := (row_facts HS.out).1
      by_cases hstop : ys = [] ∨ Cx.wt 1 ys = true
      · have HE : Hid (Cx.fd 1 b = (l, ys)) := by unfold Hid; rw [HD.out, Cx.fd_stop 1 ys hstop, List.append_nil]
        have hshort : ys.length ≤ 3 := by
          rcases hstop with h | h
          · rw [h]; simp
          · exact Cx.wt_short 1 ys h
        obtain ⟨ao, cap, hv, hlc, hcm, _⟩ := HY.out
        subst hv
        have hcm' : cap ≤ 9223372036854775807 := hcm
        have HYr : Hid (Rd .u8 wr (.slice ao ys.length cap) ys) := HY.out.ext hbw
        have HBW : Hid (Below w.heap.size w wr) := hbw
        clear HY HD hcm hbw
        by_cases hn : ys = []
        · subst hn
          have HYr0 : Hid (Rd .u8 wr (.slice ao 0 cap) []) := HYr.out
          clear hstop hle hylen hlc HYr
          simp only [List.length_nil]
          go_wp2_with (refine wpList_copy_held rfl _ _ rfl g 1 x hh.length (.slice ao 0 cap) [] rfl rfl HS.out HYr0.out (by simp) ?_; intro w5 y hg5 hy5 hgw5; obtain ⟨_, _, _, _, c4', f4'⟩ := row_facts hg5; have HG5 : Hid (w5.heap[g]? = some (.cells (strow 1 y hh.length) 51 (0, 0))) := hg5; have HW5 : Hid (wr.grownBy w5 (some g)) := hgw5; clear hg5 hy5 hgw5)
          go_ret
          obtain ⟨hst, hgr⟩ := st_count (m := 0) HG5.out
          rw [HE.out]
          exact ⟨_, rfl, own_mono (own_grown (own_grown hown HW5.out hg0) hgr hg0) hw0, ⟨y, hst, rfl, by simp⟩, grown_trans (grown_below HB01.out) (grown_trans (grown_below HBW.out) (grown_trans HW5.out hgr))⟩
        · have hp : 0 < ys.length := List.length_pos_iff.2 hn
          have hwt : Cx.wt 1 ys = true := hstop.resolve_left hn
          have HNE : Hid (ys ≠ []) := hn
          clear hstop hn
          go_wp2_with fail
          refine (wt1_any _ ys _ HYr.out HYB.out HNE.out).mono ?_
          rintro e w4 ⟨rfl, hb4⟩
          rw [hwt]
          have HS4 : Hid (w4.heap[g]? = some (.cells (strow 1 x hh.length) 51 (0, 0))) := by unfold Hid; rw [hb4.block g (Nat.lt_of_lt_of_le hg0 hw')]; exact HS.out
          have HYr4 : Hid (Rd .u8 w4 (.slice ao ys.length cap) ys) := HYr.out.ext hb4
          have hown4 := own_ext hown hb4
          have HBW4 : Hid (Below w.heap.size w w4) := ext_trans HBW.out hb4
          clear hown hb4
          go_wp2_with (refine wpList_copy_held rfl _ _ rfl g 1 x hh.length (.slice ao ys.length cap) ys rfl rfl HS4.out HYr4.out hshort ?_; intro w5 y hg5 hy5 hgw5; obtain ⟨_, _, _, _, c4', f4'⟩ := row_facts hg5; have HG5 : Hid (w5.heap[g]? = some (.cells (strow 1 y hh.length) 51 (0, 0))) := hg5; have HY5 : Hid (ys = [y.1, y.2.1, y.2.2].take ys.length) := hy5; have HW5 : Hid (w4.grownBy w5 (some g)) := hgw5; clear hg5 hy5 hgw5)
          go_ret
          obtain ⟨hst, hgr⟩ := st_count (m := ys.length) HG5.out
          rw [HE.out]
          exact ⟨_, rfl, own_mono (own_grown (own_grown hown4 HW5.out hg0) hgr hg0) hw0, ⟨y, hst, HY5.out, hshort⟩, grown_trans (grown_below HB01.out) (grown_trans (grown_below HBW4.out) (grown_trans HW5.out hgr))⟩
      · have hn : ys ≠ [] := fun h => hstop (.inl h)
        have hwt : Cx.wt 1 ys = false := by
          cases h : Cx.wt 1 ys with
          | false => rfl
          | true => exact absurd (.inr h) hstop
        obtain ⟨a, n, hf, hn1, hn2⟩ : ∃ (a : Int) (n : Nat), Cx.fst 1 ys = (a, (n : Int)) ∧ 1 ≤ n ∧ n ≤ ys.length := by
          have := Cx.fst_bd 1 ys hn
          exact ⟨_, (Cx.fst 1 ys).2.toNat, Prod.ext rfl (by simp only; omega), by omega, by omega⟩
        have HF : Hid (Cx.fst 1 ys = (a, (n : Int))) := hf
        have HD' : Hid (Cx.fd 1 b = ((l ++ [a]) ++ (Cx.fd 1 (ys.drop n)).1, (Cx.fd 1 (ys.drop n)).2)) := by unfold Hid; rw [HD.out, Cx.fd_go 1 ys hn hwt a n hf]; simp
        have HNE : Hid (ys ≠ []) := hn
        have hyp : 0 < ys.length := List.length_pos_iff.2 hn
        obtain ⟨ao, cap, hv, hlc, hcm, hrest⟩ := HY.out
        obtain ⟨b', off, hao, _⟩ := hrest hn
        subst hao
        subst hv
        have hcm' : cap ≤ 9223372036854775807 := hcm
        have HT' : Hid (l.map (Value.int .i64) ++ [Value.int .i64 a] = (l ++ [a]).map (Value.int .i64)) := snoc_map l a
        have hdl : (ys.drop n).length = ys.length - n := List.length_drop
        clear hf hn hrest hcm HD hstop
        generalize hml : l.map (Value.int .i64) = ml at *
        clear hml
        go_wp2_with fail
        refine (wt1_any _ ys _ (HY.out.ext hbw) HYB.out HNE.out).mono ?_
        rintro e w4 ⟨rfl, hb4⟩
        rw [hwt]
        have hc04 : w4.cell? ⟨g, 0, none⟩ = some (.iface 76 (.agg #[])) := (hb4.cell (p := ⟨g, 0, none⟩) (Nat.lt_of_lt_of_le hg0 hw')).trans hc0
        have hbw4 : Below w.heap.size w w4 := ext_trans hbw hb4
        have hown4 := own_ext hown hb4
        clear hbw hown hb4 hc0 hw' HS
        go_wp2_with fail
        refine (fst1_any _ ys a n _ (HY.out.ext hbw4) HYB.out HNE.out HF.out).mono ?_
        rintro e w6 ⟨rfl, hb6⟩
        have hown1 := own_ext hown4 hb6
        have hbw1 : Below w.heap.size w w6 := ext_trans hbw4 hb6
        have hw1 : w.heap.size ≤ w6.heap.size := hbw1.size
        clear hown4 hbw4 hb6 hc04
        go_wp2_with (at_builtin; refine wpList_append_own _ rfl _ _ 36 rfl w.heap.size 3 i0 (.int .i64 0) 1 8 Tryz.underlying36 hi hz0 hz1 hz2 rfl (by decide) _ _ _ rfl (hown1.alloc _) ⟨w6.heap.size, 0, none⟩ 1 1 [.int .i64 a] rfl rfl (cell_one_new _ _ _) (one_i64 _) (by unfold maxLen; omega) (by omega) (by simp; omega) ?_; intro v' w' hown' hg' hx')
        all_goals refine ⟨⟨ys.drop n, l ++ [a], HD'.out, ?_, ?_, HYB.out.drop n, ?_, below_push hbw1 hown1 hg'⟩, ?_⟩
        all_goals first
          | exact HY.out.cut_if hn2
          | exact HY.out.cut hn2
          | exact HY.out.cut_same (by assumption)
          | (rw [hdl, List.length_append, List.length_singleton]; omega)
          | (rw [List.length_append]; rw [HT'.out] at hown'; exact hown')
          | (simp only [lenOf]; omega)
  · have hp : 0 < hh.length := List.length_pos_iff.2 hh0
    have hp' : (0 : Int) < (hh.length : Int) := by omega
    have hp3 : (hh.length : Int) ≤ 3 := by omega
    have HH0 : Hid (hh ≠ []) := hh0
    obtain ⟨ao, cp, hv, _⟩ := id HR.out
    subst hv
    obtain ⟨c, hcd⟩ : ∃ c, c = hh ++ b := ⟨_, rfl⟩
    have hcz : c.length ≤ 1048579 := by rw [hcd, List.length_append]; omega
    rw [← hcd]
    have HBc' : Hid (Byt c) := by have := HBc.out; rwa [← hcd] at this
    have HCD : Hid (hh ++ b = c) := hcd.symm
    clear hh0 hcd HBc
    have HBc := HBc'
    clear HBc'
    go_enter Tryz.func14, Tryz.ntmps14
    go_wp2_with fail
    first | go_region_with (go_at_call 32; refine (concat_any w.heap.size (.slice (some ⟨g, 1, none⟩) hh.length 3) (.slice ao b.length cp) hh b _ ?_ ?_ HSl.out g 1 hh.length 3 rfl HH0.out ?_ ?_ ?_ ?_).mono ?_; exact (held_rd HSt.out).ext (by repeat (first | exact Below.refl _ _ | apply below_drewN | refine ext_alloc ?_ _ | apply Below.drew)); exact HR.out.ext (by repeat (first | exact Below.refl _ _ | apply below_drewN | refine ext_alloc ?_ _ | apply Below.drew)); omega; simp; simp; simp; rintro e w1 ⟨v1, rfl, own1, hb1⟩; have HB01 : Hid (Below w.heap.size w w1) := ext_trans (by repeat (first | exact Below.refl _ _ | apply below_drewN | refine ext_alloc ?_ _ | apply Below.drew)) hb1; have HR0 : Hid (Rd .u8 w1 v1 c) := (by rw [HCD.out] at own1; exact Rd.of_own own1); clear own1 hb1) | fail
    have hg0 : g < w1.heap.size := Nat.lt_of_lt_of_le hgl HB01.out.size
    have HG0 : Hid (w1.heap[g]? = some (.cells (strow 1 x hh.length) 51 (0, 0))) := by unfold Hid; rw [HB01.out.block g hgl]; exact HG.out
    have hw0 : w.heap.size ≤ w1.heap.size := HB01.out.size
    clear HG HSt HR HSl HCD hp hp' hp3 HH0 r4
    go_wp2_with fail
    go_loopw [1, 5] (fun bv o wr => ∃ ys l : List Int, Hid (Cx.fd 1 c = (l ++ (Cx.fd 1 ys).1, (Cx.fd 1 ys).2)) ∧ l.length + ys.length ≤ c.length ∧ Hid (Rd .u8 w1 bv ys) ∧ Hid (Byt ys) ∧ wr.ownsRow w1.heap.size 3 1 o l.length (l.map (Value.int .i64)) ∧ Below w1.heap.size w1 wr) (fun bv _ _ => lenOf bv)
    case atStart => exact ⟨c, [], by unfold Hid; simp, by simp, HR0.out, HBc.out, World.ownsRow_nil _ _ _ _, Below.refl _ _⟩
    case round =>
      obtain ⟨ys, l, HD, hle, HY, HYB, hown, hbw⟩ := hrel
      have hw' : w1.heap.size ≤ wr.heap.size := hbw.size
      have hylen := HY.out.len
      have HS : Hid (wr.heap[g]? = some (.cells (strow 1 x hh.length) 51 (0, 0))) := by unfold Hid; rw [hbw.block g hg0]; exact HG0.out
      have hc0 : wr.cell? ⟨g, 0, none⟩ = some (.iface 76 (.agg #[])) := (row_facts HS.out).1
      by_cases hstop : ys = [] ∨ Cx.wt 1 ys = true
      · have HE : Hid (Cx.fd 1 c = (l, ys)) := by unfold Hid; rw [HD.out, Cx.fd_stop 1 ys hstop, List.append_nil]
        have hshort : ys.length ≤ 3 := by
          rcases hstop with h | h
          · rw [h]; simp
          · exact Cx.wt_short 1 ys h
        obtain ⟨ao, cap, hv, hlc, hcm, _⟩ := HY.out
        subst hv
        have hcm' : cap ≤ 9223372036854775807 := hcm
        have HYr : Hid (Rd .u8 wr (.slice ao ys.length cap) ys) := HY.out.ext hbw
        have HBW : Hid (Below w1.heap.size w1 wr) := hbw
        clear HY HD hcm hbw
        by_cases hn : ys = []
        · subst hn
          have HYr0 : Hid (Rd .u8 wr (.slice ao 0 cap) []) := HYr.out
          clear hstop hle hylen hlc HYr
          simp only [List.length_nil]
          go_wp2_with (refine wpList_copy_held rfl _ _ rfl g 1 x hh.length (.slice ao 0 cap) [] rfl rfl HS.out HYr0.out (by simp) ?_; intro w5 y hg5 hy5 hgw5; obtain ⟨_, _, _, _, c4', f4'⟩ := row_facts hg5; have HG5 : Hid (w5.heap[g]? = some (.cells (strow 1 y hh.length) 51 (0, 0))) := hg5; have HW5 : Hid (wr.grownBy w5 (some g)) := hgw5; clear hg5 hy5 hgw5)
          go_ret
          obtain ⟨hst, hgr⟩ := st_count (m := 0) HG5.out
          rw [HE.out]
          exact ⟨_, rfl, own_mono (own_grown (own_grown hown HW5.out hg0) hgr hg0) hw0, ⟨y, hst, rfl, by simp⟩, grown_trans (grown_below HB01.out) (grown_trans (grown_below HBW.out) (grown_trans HW5.out hgr))⟩
        · have hp : 0 < ys.length := List.length_pos_iff.2 hn
          have hwt : Cx.wt 1 ys = true := hstop.resolve_left hn
          have HNE : Hid (ys ≠ []) := hn
          clear hstop hn
          go_wp2_with fail
          refine (wt1_any _ ys _ HYr.out HYB.out HNE.out).mono ?_
          rintro e w4 ⟨rfl, hb4⟩
          rw [hwt]
          have HS4 : Hid (w4.heap[g]? = some (.cells (strow 1 x hh.length) 51 (0, 0))) := by unfold Hid; rw [hb4.block g (Nat.lt_of_lt_of_le hg0 hw')]; exact HS.out
          have HYr4 : Hid (Rd .u8 w4 (.slice ao ys.length cap) ys) := HYr.out.ext hb4
          have hown4 := own_ext hown hb4
          have HBW4 : Hid (Below w1.heap.size w1 w4) := ext_trans HBW.out hb4
          clear hown hb4
          go_wp2_with (refine wpList_copy_held rfl _ _ rfl g 1 x hh.length (.slice ao ys.length cap) ys rfl rfl HS4.out HYr4.out hshort ?_; intro w5 y hg5 hy5 hgw5; obtain ⟨_, _, _, _, c4', f4'⟩ := row_facts hg5; have HG5 : Hid (w5.heap[g]? = some (.cells (strow 1 y hh.length) 51 (0, 0))) := hg5; have HY5 : Hid (ys = [y.1, y.2.1, y.2.2].take ys.length) := hy5; have HW5 : Hid (w4.grownBy w5 (some g)) := hgw5; clear hg5 hy5 hgw5)
          go_ret
          obtain ⟨hst, hgr⟩ := st_count (m := ys.length) HG5.out
          rw [HE.out]
          exact ⟨_, rfl, own_mono (own_grown (own_grown hown4 HW5.out hg0) hgr hg0) hw0, ⟨y, hst, HY5.out, hshort⟩, grown_trans (grown_below HB01.out) (grown_trans (grown_below HBW4.out) (grown_trans HW5.out hgr))⟩
      · have hn : ys ≠ [] := fun h => hstop (.inl h)
        have hwt : Cx.wt 1 ys = false := by
          cases h : Cx.wt 1 ys with
          | false => rfl
          | true => exact absurd (.inr h) hstop
        obtain ⟨a, n, hf, hn1, hn2⟩ : ∃ (a : Int) (n : Nat), Cx.fst 1 ys = (a, (n : Int)) ∧ 1 ≤ n ∧ n ≤ ys.length := by
          have := Cx.fst_bd 1 ys hn
          exact ⟨_, (Cx.fst 1 ys).2.toNat, Prod.ext rfl (by simp only; omega), by omega, by omega⟩
        have HF : Hid (Cx.fst 1 ys = (a, (n : Int))) := hf
        have HD' : Hid (Cx.fd 1 c = ((l ++ [a]) ++ (Cx.fd 1 (ys.drop n)).1, (Cx.fd 1 (ys.drop n)).2)) := by unfold Hid; rw [HD.out, Cx.fd_go 1 ys hn hwt a n hf]; simp
        have HNE : Hid (ys ≠ []) := hn
        have hyp : 0 < ys.length := List.length_pos_iff.2 hn
        obtain ⟨ao, cap, hv, hlc, hcm, hrest⟩ := HY.out
        obtain ⟨b', off, hao, _⟩ := hrest hn
        subst hao
        subst hv
        have hcm' : cap ≤ 9223372036854775807 := hcm
        have HT' : Hid (l.map (Value.int .i64) ++ [Value.int .i64 a] = (l ++ [a]).map (Value.int .i64)) := snoc_map l a
        have hdl : (ys.drop n).length = ys.length - n := List.length_drop
        clear hf hn hrest hcm HD hstop
        generalize hml : l.map (Value.int .i64) = ml at *
        clear hml
        go_wp2_with fail
        refine (wt1_any _ ys _ (HY.out.ext hbw) HYB.out HNE.out).mono ?_
        rintro e w4 ⟨rfl, hb4⟩
        rw [hwt]
        have hc04 : w4.cell? ⟨g, 0, none⟩ = some (.iface 76 (.agg #[])) := (hb4.cell (p := ⟨g, 0, none⟩) (Nat.lt_of_lt_of_le hg0 hw')).trans hc0
        have hbw4 : Below w1.heap.size w1 w4 := ext_trans hbw hb4
        have hown4 := own_ext hown hb4
        clear hbw hown hb4 hc0 hw' HS
        go_wp2_with fail
        refine (fst1_any _ ys a n _ (HY.out.ext hbw4) HYB.out HNE.out HF.out).mono ?_
        rintro e w6 ⟨rfl, hb6⟩
        have hown1 := own_ext hown4 hb6
        have hbw1 : Below w1.heap.size w1 w6 := ext_trans hbw4 hb6
        have hw1 : w1.heap.size ≤ w6.heap.size := hbw1.size
        clear hown4 hbw4 hb6 hc04
        go_wp2_with (at_builtin; refine wpList_append_own _ rfl _ _ 36 rfl w1.heap.size 3 i0 (.int .i64 0) 1 8 Tryz.underlying36 hi hz0 hz1 hz2 rfl (by decide) _ _ _ rfl (hown1.alloc _) ⟨w6.heap.size, 0, none⟩ 1 1 [.int .i64 a] rfl rfl (cell_one_new _ _ _) (one_i64 _) (by unfold maxLen; omega) (by omega) (by simp; omega) ?_; intro v' w' hown' hg' hx')
        all_goals refine ⟨⟨ys.drop n, l ++ [a], HD'.out, ?_, ?_, HYB.out.drop n, ?_, below_push hbw1 hown1 hg'⟩, ?_⟩
        all_goals first
          | exact HY.out.cut_if hn2
          | exact HY.out.cut hn2
          | exact HY.out.cut_same (by assumption)
          | (rw [hdl, List.length_append, List.length_singleton]; omega)
          | (rw [List.length_append]; rw [HT'.out] at hown'; exact hown')
          | (simp only [lenOf]; omega)
end Go.Proofs.YtmfbobibpebfnaaGreat
