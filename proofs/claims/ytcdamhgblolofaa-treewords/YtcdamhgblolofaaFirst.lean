/- first, concat. -/
import Derived.Test.YtcdamhgblolofaaJoin
import Derived.Test.YtcdamhgblolofaaRef
namespace Go.Proofs.Ytcdamhgblolofaa
open Go.RowKit

/-- A tree is not where something of another type is written. -/
theorem Tin.put {w w' : World} {A : Nat} {cs : Array Value} {T : TypeId} {fr : Nat × Nat} (hA : w.heap[A]? = some (.cells cs T fr)) (hT : T ≠ 81) (hb : w.grownBy w' (some A)) : ∀ {t : Tr It} {u : Option Addr}, Tin w t u → Tin w' t u
  | ⟨none⟩, _, h => h
  | ⟨some (l, x, r)⟩, _, ⟨g, lv, rv, hu, hg, hl, hr⟩ => ⟨g, lv, rv, hu, by
      rw [hb.block g (Array.getElem?_eq_some_iff.1 hg).1 (by rintro e; cases e; rw [hA] at hg; simp at hg; exact hT hg.2.1)]
      exact hg, Tin.put hA hT hb hl, Tin.put hA hT hb hr⟩
/-- At block g lies a run. -/
def BlkI (w : World) (g : Nat) (x : It) : Prop := w.heap[g]? = some (.cells #[.int .i64 x.1, .int .i64 x.2] 24 (0, 0))
theorem BlkI.lt {w : World} {g : Nat} {x : It} (h : BlkI w g x) : g < w.heap.size := (Array.getElem?_eq_some_iff.1 h).1
theorem BlkI.ext {w w' : World} {g : Nat} {x : It} (h : BlkI w g x) (hb : Below w.heap.size w w') : BlkI w' g x := by unfold BlkI; rw [hb.block g h.lt]; exact h
theorem BlkI.cells {w : World} {g : Nat} {x : It} (h : BlkI w g x) : w.cell? ⟨g, 0, none⟩ = some (.int .i64 x.1) ∧ w.cell? ⟨g, 1, none⟩ = some (.int .i64 x.2) ∧ (∀ i, w.frozen? ⟨g, i, none⟩ = false) := by
  refine ⟨?_, ?_, ?_⟩
  · rw [cell_of_row w g 0 _ _ _ h]; rfl
  · rw [cell_of_row w g 1 _ _ _ h]; rfl
  · intro i; unfold BlkI at h; simp [World.frozen?, h]
theorem BlkI.put {w : World} {g : Nat} {x : It} (h : BlkI w g x) (q : It) : BlkI ((w.setCell ⟨g, 0, none⟩ (.int .i64 q.1)).setCell ⟨g, 1, none⟩ (.int .i64 q.2)) g q ∧ w.grownBy ((w.setCell ⟨g, 0, none⟩ (.int .i64 q.1)).setCell ⟨g, 1, none⟩ (.int .i64 q.2)) (some g) := by
  obtain ⟨h1, g1⟩ := set1 h 0 (.int .i64 q.1)
  obtain ⟨h2, g2⟩ := set1 h1 1 (.int .i64 q.2)
  exact ⟨h2, grown_trans g1 g2⟩

theorem cell_set_other {g A : Nat} (h : ¬ g = A) (w : World) (i j : Nat) (v : Value) : (w.setCell ⟨A, j, none⟩ v).cell? ⟨g, i, none⟩ = w.cell? ⟨g, i, none⟩ :=
  by apply World.cell?_setCell_other; intro e; cases e; exact h rfl

set_option maxRecDepth 100000 in
set_option maxHeartbeats 2000000 in
theorem first_nil (r : Tr It) (x : It) (u : Option Addr) (w : World) (h : Tin w (.node .nil x r) u) :
    Calls Try.prog 66 #[.pointer u] w fun e w' => ∃ x' v t, e = .returned (.tuple #[.agg #[.int .i64 x'.1, .int .i64 x'.2], .pointer v]) ∧ Tin w' t v ∧ Rest t x' (.node .nil x r) ∧ Below w.heap.size w w' := by
  obtain ⟨g, lu, ru, rfl, hgl, h2, h3, c0, c1, c2, c3⟩ := h.lt
  simp only [Tin] at h2
  subst h2
  have HT : Hid (Tin w r ru) := h3
  have hne : ¬ g = w.heap.size := by omega
  clear h h3
  go_enter Try.func66, Try.ntmps66
  go_wp2_with fail
  go_region_held3 (fun w' => w'.cell? ⟨g, 0, none⟩ = some (.int .i64 x.1) ∧ w'.cell? ⟨g, 1, none⟩ = some (.int .i64 x.2) ∧ w'.cell? ⟨g, 3, none⟩ = some (.pointer ru)) (go_keep) (fail)
  all_goals
    go_wp2_with fail
    refine bodyPost_ret (v := .tuple #[.agg #[.int .i64 x.1, .int .i64 x.2], .pointer ru]) (by simp [results, Try.results66, go_sem]) rfl ⟨x, ru, r, rfl, HT.out.ext ?_, Rest.here, ?_⟩ <;> (repeat (first | exact Below.refl _ _ | refine ext_alloc ?_ _ | apply Below.drew))

set_option maxRecDepth 100000 in
set_option maxHeartbeats 2000000 in
theorem first_node (l r : Tr It) (y : It) (u : Option Addr) (w : World) (h : Tin w (.node l y r) u) (hl0 : 0 < l.ht) (hw : wt (l.list ++ y :: r.list) ≤ 4611686018427387904)
    (ih : ∀ (u : Option Addr) (w : World), Tin w l u → Calls Try.prog 66 #[.pointer u] w fun e w' => ∃ x' v t, e = .returned (.tuple #[.agg #[.int .i64 x'.1, .int .i64 x'.2], .pointer v]) ∧ Tin w' t v ∧ Rest t x' l ∧ Below w.heap.size w w') :
    Calls Try.prog 66 #[.pointer u] w fun e w' => ∃ x' v t, e = .returned (.tuple #[.agg #[.int .i64 x'.1, .int .i64 x'.2], .pointer v]) ∧ Tin w' t v ∧ Rest t x' (.node l y r) ∧ Below w.heap.size w w' := by
  obtain ⟨g, lu, ru, rfl, hgl, h2, h3, c0, c1, c2, c3⟩ := h.lt
  obtain ⟨lb, rfl⟩ : ∃ lb, lu = some ⟨lb, 0, none⟩ := by
    obtain ⟨a, b, c, rfl⟩ := Tr.ht_pos hl0
    obtain ⟨q, _, _, e, _⟩ := h2
    exact ⟨q, e⟩
  obtain ⟨wA, hwA⟩ : ∃ wA, wA = w.alloc (.cells #[.int .i64 0, .int .i64 0] 24) := ⟨_, rfl⟩
  have hbA : Below w.heap.size w wA := by rw [hwA]; exact ext_alloc (Below.refl _ _) _
  have hAA : BlkI wA w.heap.size (0, 0) := by rw [hwA]; exact heap_alloc_new _ _
  have hgA : g < wA.heap.size := by have := hbA.size; omega
  have hne : ¬ g = w.heap.size := by omega
  have C : Hid (∀ w', Below wA.heap.size wA w' → w'.cell? ⟨g, 0, none⟩ = some (.int .i64 y.1) ∧ w'.cell? ⟨g, 1, none⟩ = some (.int .i64 y.2) ∧ w'.cell? ⟨g, 2, none⟩ = some (.pointer (some ⟨lb, 0, none⟩)) ∧ w'.cell? ⟨g, 3, none⟩ = some (.pointer ru)) := fun w' hb =>
    ⟨((hbA.trans (hb.mono hbA.size)).cell (p := ⟨g, 0, none⟩) hgl).trans c0, ((hbA.trans (hb.mono hbA.size)).cell (p := ⟨g, 1, none⟩) hgl).trans c1, ((hbA.trans (hb.mono hbA.size)).cell (p := ⟨g, 2, none⟩) hgl).trans c2, ((hbA.trans (hb.mono hbA.size)).cell (p := ⟨g, 3, none⟩) hgl).trans c3⟩
  have F : Hid (Calls Try.prog 66 #[.pointer (some ⟨lb, 0, none⟩)] wA fun e w' => ∃ x' v, e = .returned (.tuple #[.agg #[.int .i64 x'.1, .int .i64 x'.2], .pointer v]) ∧ Hid (∃ t, Tin w' t v ∧ Rest t x' l) ∧ Below wA.heap.size wA w') := (ih _ wA (h2.ext hbA)).mono fun _ _ ⟨x', v, t, k1, k2, k3, k4⟩ => ⟨x', v, k1, ⟨t, k2, k3⟩, k4⟩
  have L : Hid (∀ x' v w1 w2, Hid (∃ t, Tin w1 t v ∧ Rest t x' l) → Below wA.heap.size wA w1 → Below w1.heap.size w1 w2 → Calls Try.prog 81 #[.pointer v, .agg #[.int .i64 y.1, .int .i64 y.2], .pointer ru] w2 fun e w' => ∃ v', e = .returned (.pointer v') ∧ Hid (∃ t, Tin w' t v' ∧ Rest t x' (.node l y r)) ∧ Below w2.heap.size w2 w') := fun x' v w1 w2 ht hb hb' => by
    obtain ⟨t, k1, k2⟩ := ht.out
    refine (level_any t r y v ru w2 (k1.ext hb') (((h3.ext hbA).ext hb).ext hb') ?_).mono fun _ _ ⟨v', t', q1, q2, q3, q4⟩ => ⟨v', q1, ⟨t', q2, Rest.down k2 q3⟩, q4⟩
    have := k2.list
    rw [this] at hw
    simp only [List.cons_append, wt_app, wt_cons] at hw ⊢
    omega
  have HBA : Hid (Below w.heap.size w wA) := hbA
  obtain ⟨d0, d1, d2, d3⟩ := C.out wA (Below.refl _ _)
  have hlw : w.heap.size < wA.heap.size := hAA.lt
  clear h h2 h3 hw ih hbA
  go_enter Try.func66, Try.ntmps66
  go_wp2_with fail
  rw [← hwA]
  clear hwA
  go_wp2_with (go_at_call 66; refine F.out.mono ?_; rintro e w1 ⟨x', v, rfl, T1, hb1⟩; have HB1 : Hid _ := hb1; have HS := hb1.size; obtain ⟨e0, e1, e2, e3⟩ := C.out w1 hb1; obtain ⟨f0, f1, ff⟩ := (hAA.ext hb1).cells; clear hb1)
  obtain ⟨w2, hw2⟩ : ∃ w2, w2 = w1.alloc (.cells #[.int .i64 x'.1, .int .i64 x'.2] 24) := ⟨_, rfl⟩
  have hb2 : Below w1.heap.size w1 w2 := by rw [hw2]; exact ext_alloc (Below.refl _ _) _
  have hX : BlkI w2 w1.heap.size x' := by rw [hw2]; exact heap_alloc_new _ _
  have HB2 : Hid (Below wA.heap.size wA w2) := ext_trans HB1.out hb2
  have HB3 : Hid (Below w1.heap.size w1 w2) := hb2
  have HX : Hid (BlkI w2 w1.heap.size x') := hX
  obtain ⟨x0, x1, _⟩ := hX.cells
  have D : Hid (∀ w', Below w2.heap.size w2 w' → (w'.cell? ⟨w1.heap.size, 0, none⟩ = some (.int .i64 x'.1) ∧ w'.cell? ⟨w1.heap.size, 1, none⟩ = some (.int .i64 x'.2) ∧ w'.cell? ⟨g, 0, none⟩ = some (.int .i64 y.1) ∧ w'.cell? ⟨g, 1, none⟩ = some (.int .i64 y.2) ∧ w'.cell? ⟨g, 3, none⟩ = some (.pointer ru)) ∧ BlkI w' w.heap.size (0, 0)) := fun w' hb => by
    obtain ⟨p0, p1, p2, p3⟩ := C.out w' (ext_trans HB2.out hb)
    obtain ⟨q0, q1, _⟩ := (HX.out.ext hb).cells
    exact ⟨⟨q0, q1, p0, p1, p3⟩, (hAA.ext HB2.out).ext hb⟩
  obtain ⟨⟨q0, q1, p0, p1, p3⟩, hZ⟩ := D.out w2 (Below.refl _ _)
  obtain ⟨z0, z1, zf⟩ := hZ.cells
  have hne2 : ¬ w1.heap.size = w.heap.size := by omega
  clear hb2 hX d0 d1 d2 d3 e0 e1 e2 e3 f0 f1 ff x0 x1
  rw [← hw2]
  clear hw2
  go_region_held3 (fun w' => w'.cell? ⟨w1.heap.size, 0, none⟩ = some (.int .i64 x'.1) ∧ w'.cell? ⟨w1.heap.size, 1, none⟩ = some (.int .i64 x'.2) ∧ w'.cell? ⟨g, 0, none⟩ = some (.int .i64 y.1) ∧ w'.cell? ⟨g, 1, none⟩ = some (.int .i64 y.2) ∧ w'.cell? ⟨g, 3, none⟩ = some (.pointer ru)) (first | go_keep | (simp only [cell_set_other hne, cell_set_other hne2]; exact ⟨q0, q1, p0, p1, p3⟩)) (first
    | (go_at_call 81; refine (L.out x' v w1 _ T1 HB1.out (by repeat (first | exact HB3.out | apply Below.drew))).mono ?_; rintro e w3 ⟨v', rfl, T2, hb3⟩; have HB4 : Hid (Below w2.heap.size w2 w3) := ext_trans (by repeat (first | exact Below.refl _ _ | apply Below.drew)) hb3; clear q0 q1 p0 p1 p3 z0 z1 zf hZ hb3; obtain ⟨⟨q0, q1, p0, p1, p3⟩, hZ⟩ := D.out w3 HB4.out; obtain ⟨z0, z1, zf⟩ := hZ.cells))
  all_goals
    go_wp2_with fail
    obtain ⟨t, k1, k2⟩ := T2.out
    obtain ⟨_, hp⟩ := hZ.put x'
    exact bodyPost_ret (v := .tuple #[.agg #[.int .i64 x'.1, .int .i64 x'.2], .pointer v']) (by simp [results, Try.results66, go_sem, z0, z1]) rfl ⟨x', v', t, rfl, k1.put hZ (by decide) hp, k2, below_put (ext_trans HBA.out (ext_trans HB2.out HB4.out)) (by have := HB4.out.size; have := HB2.out.size; omega) hp (Nat.le_refl _)⟩

theorem first_any (n : Tr It) : ∀ (u : Option Addr) (w : World), Tin w n u → 0 < n.ht → wt n.list ≤ 4611686018427387904 →
    Calls Try.prog 66 #[.pointer u] w fun e w' => ∃ x' v t, e = .returned (.tuple #[.agg #[.int .i64 x'.1, .int .i64 x'.2], .pointer v]) ∧ Tin w' t v ∧ Rest t x' n ∧ Below w.heap.size w w' := by
  induction n using Tr.ind with
  | nil => intro u w h hp; simp [Tr.ht] at hp
  | node l y r ihl ihr =>
    intro u w h _ hw
    by_cases hl : 0 < l.ht
    · refine first_node l r y u w h hl hw (fun u w h => ihl u w h hl ?_)
      simp only [Tr.list, wt_app] at hw
      omega
    · cases l using Tr.ind with
      | nil => exact first_nil r y u w h
      | node a b c => simp [Tr.ht] at hl

set_option maxRecDepth 100000 in
set_option maxHeartbeats 2000000 in
theorem concat_any (l r : Tr It) (lu ru : Option Addr) (w : World) (hl : Tin w l lu) (hr : Tin w r ru) (hw : wt (l.list ++ r.list) ≤ 4611686018427387904) :
    Calls Try.prog 45 #[.pointer lu, .pointer ru] w fun e w' => ∃ u t, e = .returned (.pointer u) ∧ Tin w' t u ∧ (t.list = l.list ++ r.list ∧ (l.Bal → r.Bal → t.Bal)) ∧ Below w.heap.size w w' := by
  cases hlc : l using Tr.ind with
  | nil =>
    subst hlc
    simp only [Tin] at hl
    subst hl
    have HT : Hid (Tin w r ru) := hr
    clear hr
    go_enter Try.func45, Try.ntmps45
    go_wp2_with fail
    go_ret
    exact ⟨_, _, rfl, HT.out, ⟨rfl, fun _ h => h⟩, Below.refl _ _⟩
  | node l1 a l2 =>
    cases hrc : r using Tr.ind with
    | nil =>
      subst hrc hlc
      simp only [Tin] at hr
      subst hr
      have HT : Hid (Tin w (.node l1 a l2) lu) := hl
      obtain ⟨g, _, _, rfl, _⟩ := hl
      go_enter Try.func45, Try.ntmps45
      go_wp2_with fail
      go_ret
      exact ⟨_, _, rfl, HT.out, ⟨by simp [Tr.list], fun h _ => h⟩, Below.refl _ _⟩
    | node r1 b r2 =>
      rw [← hlc, ← hrc]
      have hp : 0 < r.ht := by rw [hrc]; simp [Tr.ht]
      obtain ⟨gl, rfl⟩ : ∃ q, lu = some ⟨q, 0, none⟩ := by rw [hlc] at hl; obtain ⟨q, _, _, e, _⟩ := hl; exact ⟨q, e⟩
      obtain ⟨gr, rfl⟩ : ∃ q, ru = some ⟨q, 0, none⟩ := by rw [hrc] at hr; obtain ⟨q, _, _, e, _⟩ := hr; exact ⟨q, e⟩
      have hw1 := hw
      rw [wt_app] at hw1
      have F : Hid (Calls Try.prog 66 #[.pointer (some ⟨gr, 0, none⟩)] w fun e w' => ∃ x' v, e = .returned (.tuple #[.agg #[.int .i64 x'.1, .int .i64 x'.2], .pointer v]) ∧ Hid (∃ t, Tin w' t v ∧ Rest t x' r) ∧ Below w.heap.size w w') := (first_any r _ w hr hp (by omega)).mono fun _ _ ⟨x', v, t, k1, k2, k3, k4⟩ => ⟨x', v, k1, ⟨t, k2, k3⟩, k4⟩
      have J : Hid (∀ x' v w1 w2, Hid (∃ t, Tin w1 t v ∧ Rest t x' r) → Below w.heap.size w w1 → Below w1.heap.size w1 w2 → Calls Try.prog 65 #[.pointer (some ⟨gl, 0, none⟩), .agg #[.int .i64 x'.1, .int .i64 x'.2], .pointer v] w2 fun e w' => ∃ u, e = .returned (.pointer u) ∧ Hid (∃ t, Tin w' t u ∧ (t.list = l.list ++ r.list ∧ (l.Bal → r.Bal → t.Bal)) ∧ Below w.heap.size w w')) := fun x' v w1 w2 ht hb hb' => by
        obtain ⟨t, k1, k2⟩ := ht.out
        refine (join_any _ l t x' _ v w2 (Nat.le_refl _) ((hl.ext hb).ext hb') (k1.ext hb') (by rw [← k2.list]; exact hw)).mono fun _ _ ⟨u, t', q1, q2, q3, q4⟩ => ⟨u, q1, t', q2, ⟨by rw [q3.list, k2.list], fun h1 h2 => (q3.bal h1 (k2.bal h2).1).1⟩, ext_trans hb (ext_trans hb' q4)⟩
      clear hl hr hw hw1 hp hlc hrc
      go_enter Try.func45, Try.ntmps45
      go_wp2_with (first
        | (go_at_call 66; refine F.out.mono ?_; rintro e w1 ⟨x', v, rfl, T1, hb1⟩; have HB1 : Hid _ := hb1; clear hb1)
        | (go_at_call 65; refine (J.out _ _ _ _ T1 HB1.out (by repeat (first | exact Below.refl _ _ | refine ext_alloc ?_ _))).mono ?_; rintro e w2 ⟨u, rfl, T2⟩))
      go_ret
      obtain ⟨t, k1, k2, k3⟩ := T2.out
      exact ⟨_, t, rfl, k1, k2, k3⟩
end Go.Proofs.Ytcdamhgblolofaa
