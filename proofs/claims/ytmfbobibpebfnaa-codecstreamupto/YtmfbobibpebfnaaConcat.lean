/- slices.Grow of nil, slices.Concat of two. -/
import Derived.Test.YtmfbobibpebfnaaKept
import Derived.Test.YtmfbobibpebfnaaParts
import Derived.Lib.AppendZerosOnto
import Derived.Lib.Walk
import Derived.Lib.SliceRun
import Derived.LoopN
import Derived.Laws.AppendOwnNone
namespace Go.Proofs.Ytmfbobibpebfnaa
open Go.RowKit Go.Lib

set_option maxRecDepth 100000 in
set_option maxHeartbeats 1000000 in
theorem grow_any (n : Nat) (h0 : 0 < n) (hn : n ≤ 140737488355328) (w : World) :
    Calls Try.prog 30 #[.slice none 0 0, .int .i64 n] w fun e w' => ∃ v, e = .returned v ∧ w'.ownsRow w.heap.size 5 1 v 0 [] ∧ Below w.heap.size w w' := by
  obtain ⟨i0, hi, hz0, hz1, hz2⟩ := info_parts Try.info_u8
  have hrz : ∀ ty, (Builtin.append_ #[24, 3] ty #[.slice none 0 0, .int .i64 n]).run Try.prog w = _ := fun ty => by
    have h := Lib.run_append_grow_zeros w 24 3 ty 5 i0 (.int .u8 0) .i64 .i64 Try.underlying24 Try.underlying3 hi hz0 none 0 0 [] (run_firstCells_none w.drew i0.size 0 0 0) n h0 (by omega) (by omega) (by omega)
      (by rw [hz2]; omega) (by rw [hz2]; exact growslice_fits (by omega) (by omega))
    exact h
  simp only [Nat.zero_add] at hrz
  have hGn : n ≤ grownCap w n 0 5 := grownCap_ge w _ _ _
  have hG63 : grownCap w n 0 5 ≤ 9223372036854775807 := by
    have := grownCap_le_maxLen w n 0 5 (by unfold maxLen; omega)
    unfold maxLen at this
    omega
  generalize grownCap w n 0 5 = G at *
  go_enter Try.func30, Try.ntmps30
  go_wp2_with (at_builtin; refine Lib.wpList_append_run _ rfl _ _ _ _ rfl _ _ rfl rfl _ _ (hrz _) ?_)
  all_goals
    go_ret
    refine ⟨_, rfl, ⟨rfl, .inr ⟨w.heap.size, G, _, rfl, Nat.le_refl _, heap_alloc_new w _, Nat.zero_le _, by unfold maxLen; omega, by simp [Builtin.zeroCells]; omega, by simp⟩⟩, ((Below.refl _ _).alloc (Nat.le_refl _) _).drew⟩

/-- A slice as Go makes it: nil, or it lies somewhere. -/
def Sl (v : Value) : Prop := v = .slice none 0 0 ∨ ∃ b off n c, v = .slice (some ⟨b, off, none⟩) n c

theorem Sl.of_own {w : World} {base : Nat} {e : TypeId} {size n : Nat} {v : Value} {xs : List Value} (h : w.ownsRow base e size v n xs) : Sl v := by
  rcases h.2 with ⟨rfl, _⟩ | ⟨g, cap, cur, rfl, _⟩
  · exact .inl rfl
  · exact .inr ⟨_, _, _, _, rfl⟩

theorem rd_cells {w : World} {b off n c : Nat} {zs : List Int} {k : IntKind} (h : Rd k w (.slice (some ⟨b, off, none⟩) n c) zs) : n = zs.length ∧ ∀ j u, (zs.map (Value.int k))[j]? = some u → w.cell? ((⟨b, off, none⟩ : Addr).add j) = some u := by
  obtain ⟨ao, cap, hv, h1, h2, h3⟩ := h
  cases hv
  refine ⟨rfl, fun j u hj => ?_⟩
  have hjl : j < zs.length := by
    have := (List.getElem?_eq_some_iff.1 hj).1
    simpa using this
  have hne : zs ≠ [] := by intro h; subst h; simp at hjl
  obtain ⟨b', off', ha, _, hc⟩ := h3 hne
  cases ha
  rw [Addr.add_lit, hc j hjl]
  rw [List.getElem?_map] at hj
  obtain ⟨z, hz, rfl⟩ := Option.map_eq_some_iff.1 hj
  rw [hz]
  rfl
theorem one_all (k : IntKind) (zs : List Int) : ∀ u ∈ zs.map (Value.int k), u.oneCell' = true := by
  intro u hu
  obtain ⟨z, _, rfl⟩ := List.mem_map.1 hu
  rfl

set_option maxRecDepth 100000 in
set_option maxHeartbeats 2000000 in
theorem concat_any (B : Nat) (v1 v2 : Value) (x y : List Int) (w : World) (h1 : Rd .u8 w v1 x) (h2 : Rd .u8 w v2 y) (s2 : Sl v2) (b1 o1 n1 c1 : Nat) (e1 : v1 = .slice (some ⟨b1, o1, none⟩) n1 c1) (hx : x ≠ []) (hl : x.length + y.length ≤ 1048579)
    (hB : B < w.heap.size) (hc1 : w.cell? ⟨B, 0, none⟩ = some v1) (hc2 : w.cell? ⟨B, 1, none⟩ = some v2) :
    Calls Try.prog 24 #[.slice (some ⟨B, 0, none⟩) 2 2] w fun e w' => ∃ v, e = .returned v ∧ w'.ownsRow w.heap.size 5 1 v (x ++ y).length ((x ++ y).map (Value.int .u8)) ∧ Below w.heap.size w w' := by
  obtain ⟨i0, hi, hz0, hz1, hz2⟩ := info_parts Try.info_u8
  have hxp : 0 < x.length := List.length_pos_iff.2 hx
  have H1 : Hid (Rd .u8 w v1 x) := h1
  have H2 : Hid (Rd .u8 w v2 y) := h2
  obtain ⟨ao2, cap2, hv2, _, _, _⟩ := id h2
  subst e1
  have hn1 := (rd_cells h1).1
  subst hn1
  subst hv2
  have S2 : Hid (Sl (.slice ao2 y.length cap2)) := s2
  clear h1 h2 s2 hx
  go_enter Try.func24, Try.ntmps24
  go_wp2_with fail
  refine wp_loop_rounds 3 ?_
  rw [rounds_succ]
  go_wp2_with fail
  rw [rounds_succ]
  go_wp2_with fail
  rw [rounds_succ]
  go_wp2_with fail
  refine (grow_any (x.length + y.length) (by omega) (by omega) _).mono ?_
  rintro e w1 ⟨g1, rfl, own1, hb1⟩
  have hc1' : w1.cell? ⟨B, 0, none⟩ = some (.slice (some ⟨b1, o1, none⟩) x.length c1) := (hb1.cell (p := ⟨B, 0, none⟩) hB).trans hc1
  have hc2' : w1.cell? ⟨B, 1, none⟩ = some (.slice ao2 y.length cap2) := (hb1.cell (p := ⟨B, 1, none⟩) hB).trans hc2
  have R1 : Hid (Rd .u8 w1 (.slice (some ⟨b1, o1, none⟩) x.length c1) x) := H1.out.ext hb1
  have HB1 : Hid (Below w.heap.size w w1) := hb1
  have hs1 : w.heap.size ≤ w1.heap.size := hb1.size
  have HC2 : Hid (w.cell? ⟨B, 1, none⟩ = some (.slice ao2 y.length cap2)) := hc2
  clear hb1 hc1 hc2
  go_wp2_with fail
  refine wp_loop_rounds 3 ?_
  rw [rounds_succ]
  go_wp2_with (at_builtin; refine wpList_append_own _ rfl _ _ 24 rfl w.heap.size 5 i0 (.int .u8 0) 1 1 Try.underlying24 hi hz0 hz1 hz2 rfl (by decide) g1 0 [] rfl own1 ⟨b1, o1, none⟩ x.length c1 (x.map (Value.int .u8)) rfl (by simp) (rd_cells R1.out).2 (one_all _ _) (by unfold maxLen; omega) (by omega) hs1 ?_; intro g2 w2 own2 hg2 hx2)
  have HB2 : Hid (Below w.heap.size w w2) := HB1.out.grown hg2 hs1 (fun k hk => (own1.lt k hk).1)
  have hs2 : w.heap.size ≤ w2.heap.size := HB2.out.size
  have hc2' : w2.cell? ⟨B, 1, none⟩ = some (.slice ao2 y.length cap2) := (HB2.out.cell (p := ⟨B, 1, none⟩) hB).trans HC2.out
  have R2 : Hid (Rd .u8 w2 (.slice ao2 y.length cap2) y) := H2.out.ext HB2.out
  simp only [Nat.zero_add, List.nil_append] at own2
  clear hx2 hg2 own1 R1 hc1' HB1 HC2
  rw [rounds_succ]
  rcases S2.out with hs | ⟨b2, o2, n2, c2, hs⟩
  · have hy : y.length = 0 := by injection hs
    have hao : ao2 = none := by injection hs
    have hcp : cap2 = 0 := by injection hs
    have hyn : y = [] := List.length_eq_zero_iff.1 hy
    subst hao hcp
    rw [hy] at hc2'
    clear hs S2 R2 H2
    go_wp2_with (at_builtin; refine wpList_append_own_none rfl _ _ 24 rfl w.heap.size 5 i0 1 Try.underlying24 hi g2 x.length (x.map (Value.int .u8)) rfl own2 rfl ?_)
    rw [rounds_succ]
    go_wp2_with fail
    go_ret
    exact ⟨_, rfl, by rw [hyn, List.append_nil]; exact own2, HB2.out⟩
  · have hao : ao2 = some ⟨b2, o2, none⟩ := by injection hs
    subst hao
    clear hs S2
    go_wp2_with (at_builtin; refine wpList_append_own _ rfl _ _ 24 rfl w.heap.size 5 i0 (.int .u8 0) 1 1 Try.underlying24 hi hz0 hz1 hz2 rfl (by decide) g2 x.length (x.map (Value.int .u8)) rfl own2 ⟨b2, o2, none⟩ y.length cap2 (y.map (Value.int .u8)) rfl (by simp) (rd_cells R2.out).2 (one_all _ _) (by unfold maxLen; omega) (by omega) hs2 ?_; intro g3 w3 own3 hg3 hx3)
    rw [rounds_succ]
    go_wp2_with fail
    go_ret
    refine ⟨_, rfl, ?_, HB2.out.grown hg3 hs2 (fun k hk => (own2.lt k hk).1)⟩
    rw [List.length_append, List.map_append]
    exact own3
end Go.Proofs.Ytmfbobibpebfnaa
