/- register's closed, lastBreak, appended. -/
import Derived.Test.YtmldfjhfgaggpaaGNum
import Derived.Test.YtmldfjhfgaggpaaGCat
namespace Go.Proofs.Ytmldfjhfgaggpaa
open Go.RowKit

/-- Does a text end with a break? -/
def ends (t : List Int) : Bool := match t.getLast? with
  | some x => brB x
  | none => false
/-- What is written of a Reg. -/
def cls (k : Int) (t : List Int) : List Int := if (k == 1 && !ends t) = true then t ++ [10] else t
/-- The last break of a text. -/
def lbr (t : List Int) : List Int := if 1 < t.length ∧ t[t.length - 2]?.getD 0 = 13 ∧ t[t.length - 1]?.getD 0 = 10 then t.drop (t.length - 2) else t.drop (t.length - 1)
/-- A Reg: its kind, its text. -/
structure Rg where
  k : Int
  t : List Int
def apd (x y : Rg) : Rg := if x.k = y.k then ⟨y.k, x.t ++ y.t⟩ else if y.k = 1 then ⟨1, x.t ++ (lbr y.t ++ y.t)⟩ else ⟨1, x.t ++ (y.t ++ lbr x.t)⟩
theorem cls_len (k : Int) (t : List Int) : t.length ≤ (cls k t).length ∧ (cls k t).length ≤ t.length + 1 := by unfold cls; split <;> simp
theorem lbr_len (t : List Int) : (lbr t).length ≤ 2 := by unfold lbr; split <;> simp <;> omega

theorem two_new (w : World) (a b : Array Value) (T U : TypeId) : ∃ w1, w1 = (w.alloc (.cells a T)).alloc (.cells b U) ∧ w1.heap[w.heap.size]? = some (.cells a T (0, 0)) ∧ w1.heap[w.heap.size + 1]? = some (.cells b U (0, 0)) ∧ Below w.heap.size w w1 ∧ w.heap.size + 1 < w1.heap.size := by
  refine ⟨_, rfl, ?_, ?_, ext_alloc (ext_alloc (Below.refl _ _) _) _, by simp⟩
  · rw [((ext_alloc (Below.refl (w.alloc (.cells a T)).heap.size _) (.cells b U)).block w.heap.size (by simp))]
    exact heap_alloc_new _ _
  · have := heap_alloc_new (w.alloc (.cells a T)) (.cells b U)
    simpa using this
theorem three_new (w : World) (a b c : Array Value) (T U V : TypeId) : ∃ w1, w1 = ((w.alloc (.cells a T)).alloc (.cells b U)).alloc (.cells c V) ∧ w1.heap[w.heap.size]? = some (.cells a T (0, 0)) ∧ w1.heap[w.heap.size + 1]? = some (.cells b U (0, 0)) ∧ w1.heap[w.heap.size + 2]? = some (.cells c V (0, 0)) ∧ Below w.heap.size w w1 ∧ w.heap.size + 2 < w1.heap.size := by
  obtain ⟨w1, e, h0, h1, h2, h3⟩ := two_new w a b T U
  refine ⟨_, rfl, ?_, ?_, ?_, ext_alloc (ext_alloc (ext_alloc (Below.refl _ _) _) _) _, by simp⟩
  · rw [← e, ((ext_alloc (Below.refl w1.heap.size _) (.cells c V)).block w.heap.size (by omega))]
    exact h0
  · rw [← e, ((ext_alloc (Below.refl w1.heap.size _) (.cells c V)).block (w.heap.size + 1) (by omega))]
    exact h1
  · have := heap_alloc_new ((w.alloc (.cells a T)).alloc (.cells b U)) (.cells c V)
    simpa using this
theorem cells2 {w : World} {b : Nat} {T : TypeId} {v0 v1 : Value} (h : w.heap[b]? = some (.cells #[v0, v1] T (0, 0))) : b < w.heap.size ∧ w.cell? ⟨b, 0, none⟩ = some v0 ∧ w.cell? ⟨b, 1, none⟩ = some v1 ∧ (∀ i, w.frozen? ⟨b, i, none⟩ = false) := by
  refine ⟨(Array.getElem?_eq_some_iff.1 h).1, ?_, ?_, fun i => by simp [World.frozen?, h]⟩ <;> (rw [cell_of_row _ _ _ _ _ _ h]; rfl)
theorem OwnI.other {w w' : World} {base g : Nat} {v : Value} {zs : List Int} (h : OwnI w base v zs) (hg : w.grownBy w' (some g)) (hk : g < base) : OwnI w' base v zs :=
  World.ownsRow.kept (row := some g) h hg (.inr fun e => by have := (World.ownsRow.lt h g e).1; omega)
theorem OwnI.form {w : World} {base : Nat} {v : Value} {zs : List Int} (h : OwnI w base v zs) : ∃ ao n c, v = .slice ao n c := let ⟨ao, c, e, _⟩ := h.rds.len; ⟨ao, _, c, e⟩
theorem put2 {w : World} {g : Nat} {T : TypeId} {a0 a1 : Value} (h : w.heap[g]? = some (.cells #[a0, a1] T (0, 0))) (x0 x1 : Value) :
    ((w.setCell ⟨g, 0, none⟩ x0).setCell ⟨g, 1, none⟩ x1).heap[g]? = some (.cells #[x0, x1] T (0, 0)) ∧ w.grownBy ((w.setCell ⟨g, 0, none⟩ x0).setCell ⟨g, 1, none⟩ x1) (some g) := by
  obtain ⟨h1, g1⟩ := set1 h 0 x0
  obtain ⟨h2, g2⟩ := set1 h1 1 x1
  exact ⟨h2, grown_trans g1 g2⟩
theorem row2 {w : World} {v1 v2 : Value} {z1 z2 : List Int} (T : TypeId) (h1 : RdS w v1 z1) (h2 : RdS w v2 z2) : Row (w.alloc (.cells #[v1, v2] T)) w.heap.size [(v1, z1), (v2, z2)] := by
  obtain ⟨a, b, c, _⟩ := cells2 (heap_alloc_new w (.cells #[v1, v2] T))
  refine ⟨a, fun i p hp => ?_⟩
  match i, hp with
  | 0, hp => simp at hp; subst hp; exact ⟨b, h1.ext (ext_alloc (Below.refl _ _) _)⟩
  | 1, hp => simp at hp; subst hp; exact ⟨c, h2.ext (ext_alloc (Below.refl _ _) _)⟩
  | n + 2, hp => simp at hp
theorem row3 {w : World} {v1 v2 v3 : Value} {z1 z2 z3 : List Int} (T : TypeId) (h1 : RdS w v1 z1) (h2 : RdS w v2 z2) (h3 : RdS w v3 z3) : Row (w.alloc (.cells #[v1, v2, v3] T)) w.heap.size [(v1, z1), (v2, z2), (v3, z3)] := by
  have h := heap_alloc_new w (.cells #[v1, v2, v3] T)
  refine ⟨(Array.getElem?_eq_some_iff.1 h).1, fun i p hp => ?_⟩
  match i, hp with
  | 0, hp => simp at hp; subst hp; exact ⟨by rw [cell_of_row _ _ _ _ _ _ h]; rfl, h1.ext (ext_alloc (Below.refl _ _) _)⟩
  | 1, hp => simp at hp; subst hp; exact ⟨by rw [cell_of_row _ _ _ _ _ _ h]; rfl, h2.ext (ext_alloc (Below.refl _ _) _)⟩
  | 2, hp => simp at hp; subst hp; exact ⟨by rw [cell_of_row _ _ _ _ _ _ h]; rfl, h3.ext (ext_alloc (Below.refl _ _) _)⟩
  | n + 3, hp => simp at hp
theorem rds_nil (w : World) : RdS w (.slice none 0 0) [] := (OwnI.nil w 0).rds
theorem rds_one (w : World) (x : Int) : RdS (w.alloc (.cells #[.int .i64 x] 3)) (.slice (some ⟨w.heap.size, 0, none⟩) 1 1) [x] := by
  refine ⟨⟨some ⟨w.heap.size, 0, none⟩, 1, rfl, by simp, by decide, fun _ => ⟨w.heap.size, 0, rfl, by simp, fun i hi => ?_⟩⟩, .inr ⟨_, _, _, rfl⟩⟩
  simp at hi
  subst hi
  rw [cell_of_row _ _ _ _ _ _ (heap_alloc_new _ _)]
  rfl
theorem RdS.last {w : World} {v : Value} {t : List Int} (h : RdS w v t) (hn : t ≠ []) : ∃ b off c, v = .slice (some ⟨b, off, none⟩) t.length c ∧ b < w.heap.size ∧ t.length ≤ c ∧ c ≤ 9223372036854775807 ∧ ∀ i, i < t.length → w.cell? ⟨b, off + i, none⟩ = some (.int .i64 (t[i]?.getD 0)) := by
  obtain ⟨⟨ao, cap, hv, h1, h2, h3⟩, _⟩ := h
  obtain ⟨b, off, ha, hb, hc⟩ := h3 hn
  subst ha
  exact ⟨b, off, cap, hv, hb, h1, by unfold maxLen at h2; exact h2, hc⟩
theorem ends_at (t : List Int) (hn : t ≠ []) : ends t = brB (t[t.length - 1]?.getD 0) := by
  unfold ends
  rw [List.getLast?_eq_getElem?]
  cases h : t[t.length - 1]? with
  | none => have := List.getElem?_eq_none_iff.1 h; have := List.length_pos_iff.2 hn; omega
  | some x => rfl

set_option maxRecDepth 100000 in
set_option maxHeartbeats 4000000 in
theorem closed_any (k : Int) (v : Value) (t : List Int) (w : World) (h : RdS w v t) (h0 : 0 < (cls k t).length) (hl : t.length ≤ 1000000) : Calls Try.prog 69 #[.agg #[.int .i64 k, v]] w fun e w' => ∃ v', e = .returned (.agg #[.int .i64 k, v']) ∧ OwnI w' w.heap.size v' (cls k t) ∧ Below w.heap.size w w' := by
  obtain ⟨ao, c, rfl, hn⟩ := h.len
  obtain ⟨w1, hw1, k0, k1, hb1, hlt1⟩ := two_new w #[.int .i64 k, .slice ao t.length c] #[.int .i64 0, .slice none 0 0] 31 31
  have HV := hidIt h
  have HB1 := hidIt hb1
  have HL := hidIt (show w.heap.size ≤ w1.heap.size by omega)
  have HS : Hid (∀ w', Below w1.heap.size w1 w' → w'.cell? ⟨w.heap.size, 0, none⟩ = some (.int .i64 k) ∧ w'.cell? ⟨w.heap.size, 1, none⟩ = some (.slice ao t.length c)) := fun w' hb => by
    obtain ⟨q, a, b, _⟩ := cells2 k0
    exact ⟨(hb.cell (p := ⟨w.heap.size, 0, none⟩) q).trans a, (hb.cell (p := ⟨w.heap.size, 1, none⟩) q).trans b⟩
  have HZ : Hid (∀ w', Below w1.heap.size w1 w' → w'.heap[w.heap.size + 1]? = some (.cells #[.int .i64 0, .slice none 0 0] 31 (0, 0))) := fun w' hb => (hb.block _ hlt1).trans k1
  have ks := HS.out w1 (Below.refl _ _)
  clear k0 k1 hb1
  have HA := hidIt (Below.refl w1.heap.size w1)
  by_cases hk : k = 1
  · subst hk
    by_cases ht : t = []
    · have hn0 : ((t.length : Int) == 0) = true := by simp [ht]
      have HC := hidIt (show cls 1 t = t ++ [10] by rw [ht]; rfl)
      clear h h0 ht
      generalize hgn : t.length = n at *
      go_enter Try.func69, Try.ntmps69
      go_upto_region 1 with fail
      rw [← hw1]
      clear hw1
      go_upto_region 5 with fail
      generalize hw2 : World.alloc _ _ = w2
      have HN : Hid (RdS w2 (.slice (some ⟨w1.heap.size, 0, none⟩) 1 1) [10]) := by unfold Hid; rw [← hw2]; exact rds_one _ _
      clear HA
      have HA : Hid (Below w1.heap.size w1 w2) := by unfold Hid; rw [← hw2]; exact ext_alloc (Below.refl _ _) _
      clear hw2 ks
      have ks := HS.out w2 HA.out
      refine wp_region_held_drew (S := fun w'' => w''.cell? ⟨w.heap.size, 0, none⟩ = some (.int .i64 1) ∧ w''.cell? ⟨w.heap.size, 1, none⟩ = some (.slice ao n c)) (by kernel_rfl) (ks) (fun hHeld => ?_)
      refine wpAnyH_take (i := 0) (oi := _) (v := ?_) rfl (by kernel_rfl) (by kernel_rfl) (by kernel_rfl) (fun _ _ _ h => h) (Or.inl ⟨by rfl, ?_⟩) (by assumption) ?_
      rotate_left 1
      · intro wq hSw; (try dsimp only at hSw); go_simp; try (with_reducible rfl)
      try simp only [Act.put, List.getElem_toArray, List.getElem_cons_zero, List.setIfInBounds_toArray, List.set_cons_zero, List.set_cons_succ]
      refine wpAnyH_take (i := 1) (oi := _) (v := ?_) rfl (by kernel_rfl) (by kernel_rfl) (by kernel_rfl) (fun _ _ _ h => h) (Or.inl ⟨by rfl, ?_⟩) (by assumption) ?_
      rotate_left 1
      · intro wq hSw; (try dsimp only at hSw); go_simp; try (with_reducible rfl)
      try simp only [Act.put, List.getElem_toArray, List.getElem_cons_succ, List.getElem_cons_zero, List.setIfInBounds_toArray, List.set_cons_zero, List.set_cons_succ]
      refine wpAnyH_take (i := 2) (oi := _) (v := ?_) rfl (by kernel_rfl) (by kernel_rfl) (by kernel_rfl) (fun _ _ _ h => h) (Or.inl ⟨by rfl, ?_⟩) (by assumption) ?_
      rotate_left 1
      · intro wq hSw; (try dsimp only at hSw); go_simp; try (with_reducible rfl)
      try simp only [Act.put, List.getElem_toArray, List.getElem_cons_succ, List.getElem_cons_zero, List.setIfInBounds_toArray, List.set_cons_zero, List.set_cons_succ]
      refine wpAnyH_take (i := 3) (oi := _) (v := ?_) rfl (by kernel_rfl) (by kernel_rfl) (by kernel_rfl) (fun _ _ _ h => h) (Or.inl ⟨by rfl, ?_⟩) (by assumption) ?_
      rotate_left 1
      · intro wq hSw; (try dsimp only at hSw); go_simp; try (with_reducible rfl)
      try simp only [Act.put, List.getElem_toArray, List.getElem_cons_succ, List.getElem_cons_zero, List.setIfInBounds_toArray, List.set_cons_zero, List.set_cons_succ]
      refine wpAnyH_take (i := 4) (oi := _) (v := ?_) rfl (by kernel_rfl) (by kernel_rfl) (by kernel_rfl) (fun _ _ _ h => h) (Or.inl ⟨by rfl, ?_⟩) (by assumption) ?_
      rotate_left 1
      · intro wq hSw; (try dsimp only at hSw); go_simp; try (with_reducible rfl)
      try simp only [Act.put, List.getElem_toArray, List.getElem_cons_succ, List.getElem_cons_zero, List.setIfInBounds_toArray, List.set_cons_zero, List.set_cons_succ]
      refine wpAnyH_ready (rs := [5]) (by kernel_rfl) (by simp) ?_
      refine AllReadyH.cons (o := _) rfl (fun K hK => ?_) AllReadyH.nil
      go_simp
      generalize hwN : World.alloc _ _ = y2; have Hy2 : Hid (Below w2.heap.size w2 y2) := (by unfold Hid; rw [← hwN]; exact ext_alloc (Below.refl _ _) _); have HR : Hid (Row y2 w2.heap.size [(.slice ao n c, t), (.slice (some ⟨w1.heap.size, 0, none⟩) 1 1, [10])]) := (by unfold Hid; rw [← hwN]; exact row2 _ (HV.out.ext (ext_trans HB1.out HA.out)) (HN.out)); clear hwN; clear ks; have ks := HS.out y2 (ext_trans HA.out Hy2.out); try dsimp only
      refine hK.out _ _ ?_ (fun hHeld => ?_)
      · (try simp only [World.cell?_drew]); exact ks
      clear hK K
      try simp only [Act.put, List.getElem_toArray, List.getElem_cons_succ, List.getElem_cons_zero, List.setIfInBounds_toArray, List.set_cons_zero, List.set_cons_succ]
      refine wpAnyH_ready (rs := [6]) (by kernel_rfl) (by simp) ?_
      refine AllReadyH.cons (o := _) rfl (fun K hK => ?_) AllReadyH.nil
      go_simp
      refine (concat_any w2.heap.size _ _ (HR.out.ext (Below.drew (Below.refl _ _))) (by simp) (by first | exact HP.out | (simp [cat])) (by simp [cat]; omega)).mono ?_; clear ks; rintro e y3 ⟨v3, rfl, own3, hb3⟩; obtain ⟨ao3, n3, c3, e3⟩ := own3.form; subst e3; have O3 := hidIt own3; have Hy3 := hidIt (ext_trans (ext_trans HA.out Hy2.out.drew) hb3); have hsz := hidIt (ext_trans HA.out Hy2.out).size; clear own3 hb3; have ks := HS.out y3 Hy3.out; obtain ⟨hlt, z0, z1, fz⟩ := cells2 (HZ.out y3 Hy3.out); try dsimp only
      refine hK.out _ _ ?_ (fun hHeld => ?_)
      · (try simp only [World.cell?_drew]); exact ks
      clear hK K
      try simp only [Act.put, List.getElem_toArray, List.getElem_cons_succ, List.getElem_cons_zero, List.setIfInBounds_toArray, List.set_cons_zero, List.set_cons_succ]
      refine wpAnyH_take (i := 7) (oi := _) (v := ?_) rfl (by kernel_rfl) (by kernel_rfl) (by kernel_rfl) (fun _ _ _ h => h) (Or.inl ⟨by rfl, ?_⟩) (by assumption) ?_
      rotate_left 1
      · intro wq hSw; (try dsimp only at hSw); go_simp; try (with_reducible rfl)
      try simp only [Act.put, List.getElem_toArray, List.getElem_cons_succ, List.getElem_cons_zero, List.setIfInBounds_toArray, List.set_cons_zero, List.set_cons_succ]
      refine wpAnyH_ready (rs := [8]) (by kernel_rfl) (by simp) ?_
      refine AllReadyH.cons (o := _) rfl (fun K hK => ?_) AllReadyH.nil
      go_simp
      try dsimp only
      refine hK.out _ _ ?_ (fun hHeld => ?_)
      · exact ⟨by simp [go_sem, ks.1], by simp [go_sem, ks.2]⟩
      clear hK K
      try simp only [Act.put, List.getElem_toArray, List.getElem_cons_succ, List.getElem_cons_zero, List.setIfInBounds_toArray, List.set_cons_zero, List.set_cons_succ]
      refine wpAnyH_done (by kernel_rfl) ?_ _
      go_wp2_with fail
      refine bodyPost_ret (v := .agg #[.int .i64 1, .slice ao3 n3 c3]) (by simp [results, Try.results69, go_sem, z0, z1]) rfl ⟨.slice ao3 n3 c3, rfl, ?_, ?_⟩
      · rw [show cls 1 t = cat [(Value.slice ao n c, t), (.slice (some ⟨w1.heap.size, 0, none⟩) 1 1, [10])] by rw [HC.out]; simp [cat]]
        exact (O3.out.other (put2 (HZ.out y3 Hy3.out) _ _).2 (by have := hsz.out; simp; omega)).le (Nat.le_trans HL.out hsz.out)
      · exact below_put (ext_trans HB1.out Hy3.out) (by omega) (put2 (HZ.out y3 Hy3.out) _ _).2 (by omega)

    · obtain ⟨b, off, c', hv, hbl, hcap, hc63, hcell⟩ := HV.out.last ht
      cases hv
      have hpos := List.length_pos_iff.2 ht
      have he := ends_at t ht
      obtain ⟨p, hp⟩ : ∃ p, p = t.length - 1 := ⟨_, rfl⟩
      rw [← hp] at he
      have hx : w1.cell? ⟨b, off + p, none⟩ = some (.int .i64 (t[p]?.getD 0)) := (HB1.out.cell (p := ⟨b, off + p, none⟩) hbl).trans (hcell p (by omega))
      have hn0 : ((t.length : Int) == 0) = false := by simp [ht]
      have hwr : IntKind.i64.wrap ((t.length : Int) - 1) = (p : Int) := by rw [IntKind.wrap_i64]; omega
      have hpl : (p : Int) < (t.length : Int) := by omega
      have BR := hidIt (isBreak_any (t[p]?.getD 0) w1)
      have HP : Hid (0 < (cat [(Value.slice (some ⟨b, off, none⟩) t.length c, t), (Value.slice none 0 0, [])]).length) := by unfold Hid; simpa [cat] using hpos
      generalize t[p]?.getD 0 = x at *
      clear h h0 ht hcell hcap hc63 hp hpos
      cases hbx : brB x
      · have HC := hidIt (show cls 1 t = t ++ [10] by unfold cls; rw [he, hbx]; rfl)
        rw [hbx] at BR
        clear he HP
        generalize hgn : t.length = n at *
        go_enter Try.func69, Try.ntmps69
        go_upto_region 1 with fail
        rw [← hw1]
        clear hw1
        go_upto_region 5 with (go_at_call 36; refine BR.out.mono ?_; rintro e w9 ⟨rfl, rfl⟩; (try dsimp only))
        generalize hw2 : World.alloc _ _ = w2
        have HN : Hid (RdS w2 (.slice (some ⟨w1.heap.size, 0, none⟩) 1 1) [10]) := by unfold Hid; rw [← hw2]; exact rds_one _ _
        clear HA
        have HA : Hid (Below w1.heap.size w1 w2) := by unfold Hid; rw [← hw2]; exact ext_alloc (Below.refl _ _) _
        clear hw2 ks
        have ks := HS.out w2 HA.out
        refine wp_region_held_drew (S := fun w'' => w''.cell? ⟨w.heap.size, 0, none⟩ = some (.int .i64 1) ∧ w''.cell? ⟨w.heap.size, 1, none⟩ = some (.slice (some ⟨b, off, none⟩) n c)) (by kernel_rfl) (ks) (fun hHeld => ?_)
        refine wpAnyH_take (i := 0) (oi := _) (v := ?_) rfl (by kernel_rfl) (by kernel_rfl) (by kernel_rfl) (fun _ _ _ h => h) (Or.inl ⟨by rfl, ?_⟩) (by assumption) ?_
        rotate_left 1
        · intro wq hSw; (try dsimp only at hSw); go_simp; try (with_reducible rfl)
        try simp only [Act.put, List.getElem_toArray, List.getElem_cons_zero, List.setIfInBounds_toArray, List.set_cons_zero, List.set_cons_succ]
        refine wpAnyH_take (i := 1) (oi := _) (v := ?_) rfl (by kernel_rfl) (by kernel_rfl) (by kernel_rfl) (fun _ _ _ h => h) (Or.inl ⟨by rfl, ?_⟩) (by assumption) ?_
        rotate_left 1
        · intro wq hSw; (try dsimp only at hSw); go_simp; try (with_reducible rfl)
        try simp only [Act.put, List.getElem_toArray, List.getElem_cons_succ, List.getElem_cons_zero, List.setIfInBounds_toArray, List.set_cons_zero, List.set_cons_succ]
        refine wpAnyH_take (i := 2) (oi := _) (v := ?_) rfl (by kernel_rfl) (by kernel_rfl) (by kernel_rfl) (fun _ _ _ h => h) (Or.inl ⟨by rfl, ?_⟩) (by assumption) ?_
        rotate_left 1
        · intro wq hSw; (try dsimp only at hSw); go_simp; try (with_reducible rfl)
        try simp only [Act.put, List.getElem_toArray, List.getElem_cons_succ, List.getElem_cons_zero, List.setIfInBounds_toArray, List.set_cons_zero, List.set_cons_succ]
        refine wpAnyH_take (i := 3) (oi := _) (v := ?_) rfl (by kernel_rfl) (by kernel_rfl) (by kernel_rfl) (fun _ _ _ h => h) (Or.inl ⟨by rfl, ?_⟩) (by assumption) ?_
        rotate_left 1
        · intro wq hSw; (try dsimp only at hSw); go_simp; try (with_reducible rfl)
        try simp only [Act.put, List.getElem_toArray, List.getElem_cons_succ, List.getElem_cons_zero, List.setIfInBounds_toArray, List.set_cons_zero, List.set_cons_succ]
        refine wpAnyH_take (i := 4) (oi := _) (v := ?_) rfl (by kernel_rfl) (by kernel_rfl) (by kernel_rfl) (fun _ _ _ h => h) (Or.inl ⟨by rfl, ?_⟩) (by assumption) ?_
        rotate_left 1
        · intro wq hSw; (try dsimp only at hSw); go_simp; try (with_reducible rfl)
        try simp only [Act.put, List.getElem_toArray, List.getElem_cons_succ, List.getElem_cons_zero, List.setIfInBounds_toArray, List.set_cons_zero, List.set_cons_succ]
        refine wpAnyH_ready (rs := [5]) (by kernel_rfl) (by simp) ?_
        refine AllReadyH.cons (o := _) rfl (fun K hK => ?_) AllReadyH.nil
        go_simp
        generalize hwN : World.alloc _ _ = y2; have Hy2 : Hid (Below w2.heap.size w2 y2) := (by unfold Hid; rw [← hwN]; exact ext_alloc (Below.refl _ _) _); have HR : Hid (Row y2 w2.heap.size [(.slice (some ⟨b, off, none⟩) n c, t), (.slice (some ⟨w1.heap.size, 0, none⟩) 1 1, [10])]) := (by unfold Hid; rw [← hwN]; exact row2 _ (HV.out.ext (ext_trans HB1.out HA.out)) (HN.out)); clear hwN; clear ks; have ks := HS.out y2 (ext_trans HA.out Hy2.out); try dsimp only
        refine hK.out _ _ ?_ (fun hHeld => ?_)
        · (try simp only [World.cell?_drew]); exact ks
        clear hK K
        try simp only [Act.put, List.getElem_toArray, List.getElem_cons_succ, List.getElem_cons_zero, List.setIfInBounds_toArray, List.set_cons_zero, List.set_cons_succ]
        refine wpAnyH_ready (rs := [6]) (by kernel_rfl) (by simp) ?_
        refine AllReadyH.cons (o := _) rfl (fun K hK => ?_) AllReadyH.nil
        go_simp
        refine (concat_any w2.heap.size _ _ (HR.out.ext (Below.drew (Below.refl _ _))) (by simp) (by first | exact HP.out | (simp [cat])) (by simp [cat]; omega)).mono ?_; clear ks; rintro e y3 ⟨v3, rfl, own3, hb3⟩; obtain ⟨ao3, n3, c3, e3⟩ := own3.form; subst e3; have O3 := hidIt own3; have Hy3 := hidIt (ext_trans (ext_trans HA.out Hy2.out.drew) hb3); have hsz := hidIt (ext_trans HA.out Hy2.out).size; clear own3 hb3; have ks := HS.out y3 Hy3.out; obtain ⟨hlt, z0, z1, fz⟩ := cells2 (HZ.out y3 Hy3.out); try dsimp only
        refine hK.out _ _ ?_ (fun hHeld => ?_)
        · (try simp only [World.cell?_drew]); exact ks
        clear hK K
        try simp only [Act.put, List.getElem_toArray, List.getElem_cons_succ, List.getElem_cons_zero, List.setIfInBounds_toArray, List.set_cons_zero, List.set_cons_succ]
        refine wpAnyH_take (i := 7) (oi := _) (v := ?_) rfl (by kernel_rfl) (by kernel_rfl) (by kernel_rfl) (fun _ _ _ h => h) (Or.inl ⟨by rfl, ?_⟩) (by assumption) ?_
        rotate_left 1
        · intro wq hSw; (try dsimp only at hSw); go_simp; try (with_reducible rfl)
        try simp only [Act.put, List.getElem_toArray, List.getElem_cons_succ, List.getElem_cons_zero, List.setIfInBounds_toArray, List.set_cons_zero, List.set_cons_succ]
        refine wpAnyH_ready (rs := [8]) (by kernel_rfl) (by simp) ?_
        refine AllReadyH.cons (o := _) rfl (fun K hK => ?_) AllReadyH.nil
        go_simp
        try dsimp only
        refine hK.out _ _ ?_ (fun hHeld => ?_)
        · exact ⟨by simp [go_sem, ks.1], by simp [go_sem, ks.2]⟩
        clear hK K
        try simp only [Act.put, List.getElem_toArray, List.getElem_cons_succ, List.getElem_cons_zero, List.setIfInBounds_toArray, List.set_cons_zero, List.set_cons_succ]
        refine wpAnyH_done (by kernel_rfl) ?_ _
        go_wp2_with fail
        refine bodyPost_ret (v := .agg #[.int .i64 1, .slice ao3 n3 c3]) (by simp [results, Try.results69, go_sem, z0, z1]) rfl ⟨.slice ao3 n3 c3, rfl, ?_, ?_⟩
        · rw [show cls 1 t = cat [(Value.slice (some ⟨b, off, none⟩) n c, t), (.slice (some ⟨w1.heap.size, 0, none⟩) 1 1, [10])] by rw [HC.out]; simp [cat]]
          exact (O3.out.other (put2 (HZ.out y3 Hy3.out) _ _).2 (by have := hsz.out; simp; omega)).le (Nat.le_trans HL.out hsz.out)
        · exact below_put (ext_trans HB1.out Hy3.out) (by omega) (put2 (HZ.out y3 Hy3.out) _ _).2 (by omega)

      · have HC := hidIt (show cls 1 t = t by unfold cls; rw [he, hbx]; rfl)
        rw [hbx] at BR
        clear he
        generalize hgn : t.length = n at *
        go_enter Try.func69, Try.ntmps69
        go_upto_region 1 with fail
        rw [← hw1]
        clear hw1
        go_upto_region 5 with (go_at_call 36; refine BR.out.mono ?_; rintro e w9 ⟨rfl, rfl⟩; (try dsimp only))
        refine wp_region_held_drew (S := fun w'' => w''.cell? ⟨w.heap.size, 0, none⟩ = some (.int .i64 1) ∧ w''.cell? ⟨w.heap.size, 1, none⟩ = some (.slice (some ⟨b, off, none⟩) n c)) (by kernel_rfl) (ks) (fun hHeld => ?_)
        refine wpAnyH_take (i := 0) (oi := _) (v := ?_) rfl (by kernel_rfl) (by kernel_rfl) (by kernel_rfl) (fun _ _ _ h => h) (Or.inl ⟨by rfl, ?_⟩) (by assumption) ?_
        rotate_left 1
        · intro wq hSw; (try dsimp only at hSw); go_simp; try (with_reducible rfl)
        try simp only [Act.put, List.getElem_toArray, List.getElem_cons_zero, List.setIfInBounds_toArray, List.set_cons_zero, List.set_cons_succ]
        refine wpAnyH_take (i := 1) (oi := _) (v := ?_) rfl (by kernel_rfl) (by kernel_rfl) (by kernel_rfl) (fun _ _ _ h => h) (Or.inl ⟨by rfl, ?_⟩) (by assumption) ?_
        rotate_left 1
        · intro wq hSw; (try dsimp only at hSw); go_simp; try (with_reducible rfl)
        try simp only [Act.put, List.getElem_toArray, List.getElem_cons_succ, List.getElem_cons_zero, List.setIfInBounds_toArray, List.set_cons_zero, List.set_cons_succ]
        refine wpAnyH_take (i := 2) (oi := _) (v := ?_) rfl (by kernel_rfl) (by kernel_rfl) (by kernel_rfl) (fun _ _ _ h => h) (Or.inl ⟨by rfl, ?_⟩) (by assumption) ?_
        rotate_left 1
        · intro wq hSw; (try dsimp only at hSw); go_simp; try (with_reducible rfl)
        try simp only [Act.put, List.getElem_toArray, List.getElem_cons_succ, List.getElem_cons_zero, List.setIfInBounds_toArray, List.set_cons_zero, List.set_cons_succ]
        refine wpAnyH_take (i := 3) (oi := _) (v := ?_) rfl (by kernel_rfl) (by kernel_rfl) (by kernel_rfl) (fun _ _ _ h => h) (Or.inl ⟨by rfl, ?_⟩) (by assumption) ?_
        rotate_left 1
        · intro wq hSw; (try dsimp only at hSw); go_simp; try (with_reducible rfl)
        try simp only [Act.put, List.getElem_toArray, List.getElem_cons_succ, List.getElem_cons_zero, List.setIfInBounds_toArray, List.set_cons_zero, List.set_cons_succ]
        refine wpAnyH_take (i := 4) (oi := _) (v := ?_) rfl (by kernel_rfl) (by kernel_rfl) (by kernel_rfl) (fun _ _ _ h => h) (Or.inl ⟨by rfl, ?_⟩) (by assumption) ?_
        rotate_left 1
        · intro wq hSw; (try dsimp only at hSw); go_simp; try (with_reducible rfl)
        try simp only [Act.put, List.getElem_toArray, List.getElem_cons_succ, List.getElem_cons_zero, List.setIfInBounds_toArray, List.set_cons_zero, List.set_cons_succ]
        refine wpAnyH_ready (rs := [5]) (by kernel_rfl) (by simp) ?_
        refine AllReadyH.cons (o := _) rfl (fun K hK => ?_) AllReadyH.nil
        go_simp
        generalize hwN : World.alloc _ _ = y2; have Hy2 : Hid (Below w1.heap.size w1 y2) := (by unfold Hid; rw [← hwN]; exact ext_alloc (Below.refl _ _) _); have HR : Hid (Row y2 w1.heap.size [(.slice (some ⟨b, off, none⟩) n c, t), (.slice none 0 0, [])]) := (by unfold Hid; rw [← hwN]; exact row2 _ (HV.out.ext (ext_trans HB1.out HA.out)) (rds_nil _)); clear hwN; clear ks; have ks := HS.out y2 (ext_trans HA.out Hy2.out); try dsimp only
        refine hK.out _ _ ?_ (fun hHeld => ?_)
        · (try simp only [World.cell?_drew]); exact ks
        clear hK K
        try simp only [Act.put, List.getElem_toArray, List.getElem_cons_succ, List.getElem_cons_zero, List.setIfInBounds_toArray, List.set_cons_zero, List.set_cons_succ]
        refine wpAnyH_ready (rs := [6]) (by kernel_rfl) (by simp) ?_
        refine AllReadyH.cons (o := _) rfl (fun K hK => ?_) AllReadyH.nil
        go_simp
        refine (concat_any w1.heap.size _ _ (HR.out.ext (Below.drew (Below.refl _ _))) (by simp) (by first | exact HP.out | (simp [cat])) (by simp [cat]; omega)).mono ?_; clear ks; rintro e y3 ⟨v3, rfl, own3, hb3⟩; obtain ⟨ao3, n3, c3, e3⟩ := own3.form; subst e3; have O3 := hidIt own3; have Hy3 := hidIt (ext_trans (ext_trans HA.out Hy2.out.drew) hb3); have hsz := hidIt (ext_trans HA.out Hy2.out).size; clear own3 hb3; have ks := HS.out y3 Hy3.out; obtain ⟨hlt, z0, z1, fz⟩ := cells2 (HZ.out y3 Hy3.out); try dsimp only
        refine hK.out _ _ ?_ (fun hHeld => ?_)
        · (try simp only [World.cell?_drew]); exact ks
        clear hK K
        try simp only [Act.put, List.getElem_toArray, List.getElem_cons_succ, List.getElem_cons_zero, List.setIfInBounds_toArray, List.set_cons_zero, List.set_cons_succ]
        refine wpAnyH_take (i := 7) (oi := _) (v := ?_) rfl (by kernel_rfl) (by kernel_rfl) (by kernel_rfl) (fun _ _ _ h => h) (Or.inl ⟨by rfl, ?_⟩) (by assumption) ?_
        rotate_left 1
        · intro wq hSw; (try dsimp only at hSw); go_simp; try (with_reducible rfl)
        try simp only [Act.put, List.getElem_toArray, List.getElem_cons_succ, List.getElem_cons_zero, List.setIfInBounds_toArray, List.set_cons_zero, List.set_cons_succ]
        refine wpAnyH_ready (rs := [8]) (by kernel_rfl) (by simp) ?_
        refine AllReadyH.cons (o := _) rfl (fun K hK => ?_) AllReadyH.nil
        go_simp
        try dsimp only
        refine hK.out _ _ ?_ (fun hHeld => ?_)
        · exact ⟨by simp [go_sem, ks.1], by simp [go_sem, ks.2]⟩
        clear hK K
        try simp only [Act.put, List.getElem_toArray, List.getElem_cons_succ, List.getElem_cons_zero, List.setIfInBounds_toArray, List.set_cons_zero, List.set_cons_succ]
        refine wpAnyH_done (by kernel_rfl) ?_ _
        go_wp2_with fail
        refine bodyPost_ret (v := .agg #[.int .i64 1, .slice ao3 n3 c3]) (by simp [results, Try.results69, go_sem, z0, z1]) rfl ⟨.slice ao3 n3 c3, rfl, ?_, ?_⟩
        · rw [show cls 1 t = cat [(Value.slice (some ⟨b, off, none⟩) n c, t), (.slice none 0 0, [])] by rw [HC.out]; simp [cat]]
          exact (O3.out.other (put2 (HZ.out y3 Hy3.out) _ _).2 (by have := hsz.out; simp; omega)).le (Nat.le_trans HL.out hsz.out)
        · exact below_put (ext_trans HB1.out Hy3.out) (by omega) (put2 (HZ.out y3 Hy3.out) _ _).2 (by omega)

  · have hkb : (k == 1) = false := by simp [hk]
    have HC := hidIt (show cls k t = t by unfold cls; rw [hkb]; rfl)
    have HP : Hid (0 < (cat [(Value.slice ao t.length c, t), (Value.slice none 0 0, [])]).length) := by unfold Hid; rw [HC.out] at h0; simpa [cat] using h0
    clear h h0 hk
    generalize hgn : t.length = n at *
    go_enter Try.func69, Try.ntmps69
    go_upto_region 1 with fail
    rw [← hw1]
    clear hw1
    go_upto_region 5 with fail
    refine wp_region_held_drew (S := fun w'' => w''.cell? ⟨w.heap.size, 0, none⟩ = some (.int .i64 k) ∧ w''.cell? ⟨w.heap.size, 1, none⟩ = some (.slice ao n c)) (by kernel_rfl) (ks) (fun hHeld => ?_)
    refine wpAnyH_take (i := 0) (oi := _) (v := ?_) rfl (by kernel_rfl) (by kernel_rfl) (by kernel_rfl) (fun _ _ _ h => h) (Or.inl ⟨by rfl, ?_⟩) (by assumption) ?_
    rotate_left 1
    · intro wq hSw; (try dsimp only at hSw); go_simp; try (with_reducible rfl)
    try simp only [Act.put, List.getElem_toArray, List.getElem_cons_zero, List.setIfInBounds_toArray, List.set_cons_zero, List.set_cons_succ]
    refine wpAnyH_take (i := 1) (oi := _) (v := ?_) rfl (by kernel_rfl) (by kernel_rfl) (by kernel_rfl) (fun _ _ _ h => h) (Or.inl ⟨by rfl, ?_⟩) (by assumption) ?_
    rotate_left 1
    · intro wq hSw; (try dsimp only at hSw); go_simp; try (with_reducible rfl)
    try simp only [Act.put, List.getElem_toArray, List.getElem_cons_succ, List.getElem_cons_zero, List.setIfInBounds_toArray, List.set_cons_zero, List.set_cons_succ]
    refine wpAnyH_take (i := 2) (oi := _) (v := ?_) rfl (by kernel_rfl) (by kernel_rfl) (by kernel_rfl) (fun _ _ _ h => h) (Or.inl ⟨by rfl, ?_⟩) (by assumption) ?_
    rotate_left 1
    · intro wq hSw; (try dsimp only at hSw); go_simp; try (with_reducible rfl)
    try simp only [Act.put, List.getElem_toArray, List.getElem_cons_succ, List.getElem_cons_zero, List.setIfInBounds_toArray, List.set_cons_zero, List.set_cons_succ]
    refine wpAnyH_take (i := 3) (oi := _) (v := ?_) rfl (by kernel_rfl) (by kernel_rfl) (by kernel_rfl) (fun _ _ _ h => h) (Or.inl ⟨by rfl, ?_⟩) (by assumption) ?_
    rotate_left 1
    · intro wq hSw; (try dsimp only at hSw); go_simp; try (with_reducible rfl)
    try simp only [Act.put, List.getElem_toArray, List.getElem_cons_succ, List.getElem_cons_zero, List.setIfInBounds_toArray, List.set_cons_zero, List.set_cons_succ]
    refine wpAnyH_take (i := 4) (oi := _) (v := ?_) rfl (by kernel_rfl) (by kernel_rfl) (by kernel_rfl) (fun _ _ _ h => h) (Or.inl ⟨by rfl, ?_⟩) (by assumption) ?_
    rotate_left 1
    · intro wq hSw; (try dsimp only at hSw); go_simp; try (with_reducible rfl)
    try simp only [Act.put, List.getElem_toArray, List.getElem_cons_succ, List.getElem_cons_zero, List.setIfInBounds_toArray, List.set_cons_zero, List.set_cons_succ]
    refine wpAnyH_ready (rs := [5]) (by kernel_rfl) (by simp) ?_
    refine AllReadyH.cons (o := _) rfl (fun K hK => ?_) AllReadyH.nil
    go_simp
    generalize hwN : World.alloc _ _ = y2; have Hy2 : Hid (Below w1.heap.size w1 y2) := (by unfold Hid; rw [← hwN]; exact ext_alloc (Below.refl _ _) _); have HR : Hid (Row y2 w1.heap.size [(.slice ao n c, t), (.slice none 0 0, [])]) := (by unfold Hid; rw [← hwN]; exact row2 _ (HV.out.ext (ext_trans HB1.out HA.out)) (rds_nil _)); clear hwN; clear ks; have ks := HS.out y2 (ext_trans HA.out Hy2.out); try dsimp only
    refine hK.out _ _ ?_ (fun hHeld => ?_)
    · (try simp only [World.cell?_drew]); exact ks
    clear hK K
    try simp only [Act.put, List.getElem_toArray, List.getElem_cons_succ, List.getElem_cons_zero, List.setIfInBounds_toArray, List.set_cons_zero, List.set_cons_succ]
    refine wpAnyH_ready (rs := [6]) (by kernel_rfl) (by simp) ?_
    refine AllReadyH.cons (o := _) rfl (fun K hK => ?_) AllReadyH.nil
    go_simp
    refine (concat_any w1.heap.size _ _ (HR.out.ext (Below.drew (Below.refl _ _))) (by simp) (by first | exact HP.out | (simp [cat])) (by simp [cat]; omega)).mono ?_; clear ks; rintro e y3 ⟨v3, rfl, own3, hb3⟩; obtain ⟨ao3, n3, c3, e3⟩ := own3.form; subst e3; have O3 := hidIt own3; have Hy3 := hidIt (ext_trans (ext_trans HA.out Hy2.out.drew) hb3); have hsz := hidIt (ext_trans HA.out Hy2.out).size; clear own3 hb3; have ks := HS.out y3 Hy3.out; obtain ⟨hlt, z0, z1, fz⟩ := cells2 (HZ.out y3 Hy3.out); try dsimp only
    refine hK.out _ _ ?_ (fun hHeld => ?_)
    · (try simp only [World.cell?_drew]); exact ks
    clear hK K
    try simp only [Act.put, List.getElem_toArray, List.getElem_cons_succ, List.getElem_cons_zero, List.setIfInBounds_toArray, List.set_cons_zero, List.set_cons_succ]
    refine wpAnyH_take (i := 7) (oi := _) (v := ?_) rfl (by kernel_rfl) (by kernel_rfl) (by kernel_rfl) (fun _ _ _ h => h) (Or.inl ⟨by rfl, ?_⟩) (by assumption) ?_
    rotate_left 1
    · intro wq hSw; (try dsimp only at hSw); go_simp; try (with_reducible rfl)
    try simp only [Act.put, List.getElem_toArray, List.getElem_cons_succ, List.getElem_cons_zero, List.setIfInBounds_toArray, List.set_cons_zero, List.set_cons_succ]
    refine wpAnyH_ready (rs := [8]) (by kernel_rfl) (by simp) ?_
    refine AllReadyH.cons (o := _) rfl (fun K hK => ?_) AllReadyH.nil
    go_simp
    try dsimp only
    refine hK.out _ _ ?_ (fun hHeld => ?_)
    · exact ⟨by simp [go_sem, ks.1], by simp [go_sem, ks.2]⟩
    clear hK K
    try simp only [Act.put, List.getElem_toArray, List.getElem_cons_succ, List.getElem_cons_zero, List.setIfInBounds_toArray, List.set_cons_zero, List.set_cons_succ]
    refine wpAnyH_done (by kernel_rfl) ?_ _
    go_wp2_with fail
    refine bodyPost_ret (v := .agg #[.int .i64 k, .slice ao3 n3 c3]) (by simp [results, Try.results69, go_sem, z0, z1]) rfl ⟨.slice ao3 n3 c3, rfl, ?_, ?_⟩
    · rw [show cls k t = cat [(Value.slice ao n c, t), (.slice none 0 0, [])] by rw [HC.out]; simp [cat]]
      exact (O3.out.other (put2 (HZ.out y3 Hy3.out) _ _).2 (by have := hsz.out; simp; omega)).le (Nat.le_trans HL.out hsz.out)
    · exact below_put (ext_trans HB1.out Hy3.out) (by omega) (put2 (HZ.out y3 Hy3.out) _ _).2 (by omega)

end Go.Proofs.Ytmldfjhfgaggpaa
