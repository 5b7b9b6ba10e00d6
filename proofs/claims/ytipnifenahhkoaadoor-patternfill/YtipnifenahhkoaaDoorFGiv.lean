/- The document's filler in memory: turned, give. -/
import Derived.Test.YtipnifenahhkoaaDoorFFill
import Derived.Test.YtipnifenahhkoaaDoorRefUp2
import Derived.Test.YtipnifenahhkoaaDoorAppBlk
import Derived.Deep.RegionHeld3
namespace Go.Proofs.YtipnifenahhkoaaDoor
open Go.RowKit

theorem cells3 {w : World} {g : Nat} {a b c : Value} {T : TypeId} {r : Nat × Nat} (hg : w.heap[g]? = some (.cells #[a, b, c] T r)) : w.cell? ⟨g, 0, none⟩ = some a ∧ w.cell? ⟨g, 1, none⟩ = some b ∧ w.cell? ⟨g, 2, none⟩ = some c := by
  refine ⟨?_, ?_, ?_⟩ <;> rw [cell_of_row w g _ _ _ _ hg] <;> rfl
theorem unfrozen {w : World} {g : Nat} {cs : Array Value} {T : TypeId} (hg : w.heap[g]? = some (.cells cs T (0, 0))) (i : Nat) : w.frozen? ⟨g, i, none⟩ = false := by simp [World.frozen?, hg]
theorem wp_append_blk {P : Program} {W : World} {op : Oper} {a : Act} {K : Act → World → Prop} {Q : Exit → Act → World → Prop} (s x : Operand) (t : TypeId) (ho : op.op = .call { callee := .builtin .append, args := #[s, x], argTypes := #[t, t] })
    (base : Nat) (e : TypeId) (i : TypeInfo) (z : Value) (size bytes : Nat) (ht : P.underlying t = some (.slice e)) (hi : P.info? e = some i) (hz : i.zero = some z)
    (hsize : i.size = size) (hby : i.bytes = bytes) (hzs : z.cells.size = size) (hsz : 0 < size)
    (v : Value) (n : Nat) (xs : List Value) (hs : a.eval s = v) (hown : W.ownsRow base e size v n xs)
    (ad : Addr) (m c : Nat) (news : List Value) (hx : a.eval x = .slice (some ad) m c) (hl : news.length = m * size) (hnews : ∀ j u, news[j]? = some u → W.cell? (ad.add j) = some u) (h1 : ∀ u ∈ news, u.oneCell' = true)
    (h63 : n + m ≤ maxLen) (hbytes : (n + m) * bytes ≤ 140737488355328) (hbase : base ≤ W.heap.size) (hm : 0 < m)
    (h : ∀ v' w', w'.ownsRow base e size v' (n + m) (xs ++ news) → W.grownBy w' v.ownBlock → (v'.ownBlock = v.ownBlock ∨ v'.ownBlock = some W.heap.size) → K (a.put op.dst v') w') : op.wp P a W K Q := by
  obtain ⟨v', w', hr, h2, h3, h4⟩ := run_append_blk (P := P) W base t op.type e i z size bytes ht hi hz hsize hby hzs hsz v n xs hown ad m c news hl hnews h1 h63 hbytes hbase hm
  unfold Oper.wp execOp
  simp only [ho, resolve, invoke, builtin, Sem.run_bind, Sem.run_pure, Result.andThen_ok, List.map_toArray, List.map_cons, List.map_nil, hs, hx, hr]
  exact h v' w' h2 h3 h4
theorem cell1_new (w : World) (T : TypeId) (a : Value) : ∀ (j : Nat) (u : Value), [a][j]? = some u → (w.alloc (.cells #[a] T)).drew.cell? ((⟨w.heap.size, 0, none⟩ : Addr).add j) = some u := by
  intro j u hj
  have h : (w.alloc (.cells #[a] T)).drew.heap[w.heap.size]? = some (.cells #[a] T (0, 0)) := heap_alloc_new _ _
  rcases j with _ | j
  · cases hj
    have e : (⟨w.heap.size, 0, none⟩ : Addr).add 0 = ⟨w.heap.size, 0, none⟩ := rfl
    rw [e, cell_of_row _ _ 0 _ _ _ h]
    rfl
  · simp at hj
/-- At block g lies the document's filler; what it has put lies in a row of its own; both lie behind lo. -/
def Df (lo : Nat) (w : World) (g : Nat) (out : List Int) (once stay : Int) : Prop :=
  ∃ v, w.heap[g]? = some (.cells #[v, .int .i64 once, .int .i64 stay] 44 (0, 0)) ∧ lo ≤ g ∧ w.ownsRow lo 3 1 v out.length (out.map (Value.int .i64))
section
variable {lo g : Nat} {w w' : World} {out : List Int} {once stay : Int}
theorem Df.lt (h : Df lo w g out once stay) : g < w.heap.size := by
  obtain ⟨v, hq, _⟩ := h
  exact (Array.getElem?_eq_some_iff.1 hq).1
theorem Df.low (h : Df lo w g out once stay) : lo ≤ g := by
  obtain ⟨v, _, h2, _⟩ := h
  exact h2
theorem Df.ext (h : Df lo w g out once stay) (hb : Below w.heap.size w w') : Df lo w' g out once stay := by
  have hl := h.lt
  obtain ⟨v, hq, h2, h3⟩ := h
  exact ⟨v, (hb.block g hl).trans hq, h2, own_stay h3 (fun k e => hb.block k (own_lt h3 e))⟩
/-- A letter is laid. -/
theorem Df.setOnce (h : Df lo w g out once stay) (x : Int) : Df lo (w.setCell ⟨g, 1, none⟩ (.int .i64 x)) g out x stay ∧ Below lo w (w.setCell ⟨g, 1, none⟩ (.int .i64 x)) ∧ w.frozen? ⟨g, 1, none⟩ = false := by
  obtain ⟨v, hq, h2, h3⟩ := h
  obtain ⟨s, k⟩ := set1 hq 1 (.int .i64 x)
  have hne : v.ownBlock ≠ some g := own_ne h3 hq (by decide)
  exact ⟨⟨v, s, h2, own_stay h3 (fun i e => k.block i (own_lt h3 e) (fun e' => hne (by rw [e]; exact e')))⟩, (Below.refl _ _).setCell h2 _, unfrozen hq 1⟩
theorem Df.setStay (h : Df lo w g out once stay) (x : Int) : Df lo (w.setCell ⟨g, 2, none⟩ (.int .i64 x)) g out once x ∧ Below lo w (w.setCell ⟨g, 2, none⟩ (.int .i64 x)) ∧ w.frozen? ⟨g, 2, none⟩ = false := by
  obtain ⟨v, hq, h2, h3⟩ := h
  obtain ⟨s, k⟩ := set1 hq 2 (.int .i64 x)
  have hne : v.ownBlock ≠ some g := own_ne h3 hq (by decide)
  exact ⟨⟨v, s, h2, own_stay h3 (fun i e => k.block i (own_lt h3 e) (fun e' => hne (by rw [e]; exact e')))⟩, (Below.refl _ _).setCell h2 _, unfrozen hq 2⟩
end
/-- One int more. -/
theorem df_push {lo : Nat} {y w9 : World} {g : Nat} {once stay x : Int} {L : List Int} {v v9 : Value} {ob : Obj} (hq : y.heap[g]? = some (.cells #[v, .int .i64 once, .int .i64 stay] 44 (0, 0))) (hP : lo ≤ g) (ow : y.ownsRow lo 3 1 v L.length (L.map (Value.int .i64)))
    (own9 : w9.ownsRow lo 3 1 v9 (L.length + 1) (L.map (Value.int .i64) ++ [.int .i64 x])) (hg9 : (y.alloc ob).drew.grownBy w9 v.ownBlock) :
    w9.heap[g]? = some (.cells #[v, .int .i64 once, .int .i64 stay] 44 (0, 0)) ∧ Df lo (w9.setCell ⟨g, 0, none⟩ v9) g (L ++ [x]) once stay ∧ Below lo y (w9.setCell ⟨g, 0, none⟩ v9) := by
  have hql : g < y.heap.size := (Array.getElem?_eq_some_iff.1 hq).1
  have b3 : Below y.heap.size y (y.alloc ob).drew := (ext_alloc (Below.refl _ _) _).drew
  have hq3 : (y.alloc ob).drew.heap[g]? = some (.cells #[v, .int .i64 once, .int .i64 stay] 44 (0, 0)) := (b3.block g hql).trans hq
  have hne : v.ownBlock ≠ some g := own_ne ow hq (by decide)
  have hq9 : w9.heap[g]? = some (.cells #[v, .int .i64 once, .int .i64 stay] 44 (0, 0)) := (hg9.block g (Nat.lt_of_lt_of_le hql b3.size) (fun e => hne e.symm)).trans hq3
  obtain ⟨s9, g9⟩ := set1 hq9 0 v9
  have hne9 : v9.ownBlock ≠ some g := own_ne own9 hq9 (by decide)
  have b9 : Below lo y w9 := ⟨hg9.os.trans b3.os, hg9.tape.trans b3.tape, hg9.output.trans b3.output, Nat.le_trans b3.size hg9.size, fun j hj => (hg9.block j (by have := b3.size; omega) (fun e => by have := (own_blk ow e.symm).1; omega)).trans (b3.block j (by omega))⟩
  refine ⟨hq9, ⟨v9, s9, hP, ?_⟩, b9.setCell hP _⟩
  have h1 := own_stay own9 (w' := w9.setCell ⟨g, 0, none⟩ v9) (fun k e => g9.block k (own_lt own9 e) (fun e' => hne9 (by rw [e]; exact e')))
  rw [List.length_append, List.map_append]
  exact h1
set_option maxRecDepth 100000 in
theorem rturned_any (a l : Int) (w : World) : Calls Tryd.prog 22 #[.int .i64 a, .int .i64 l] w fun e w' => e = .returned (.int .i64 (tur a l)) ∧ w' = w := by
  have HU := hidIt (rUpper_any a w)
  have HL := hidIt (rLower_any a w)
  by_cases h1 : l = 117 ∨ l = 85
  · have HE : Hid (tur a l = Gx.up a) := by unfold Hid tur; rw [if_pos h1]
    rcases h1 with rfl | rfl
    all_goals
      go_enter Tryd.func22, Tryd.ntmps22
      go_wp2_with (go_at_call 32; refine HU.out.mono ?_; rintro e w1 ⟨rfl, rfl⟩; (try dsimp only))
      go_ret
      exact ⟨ret_int HE.out.symm, rfl⟩
  by_cases h2 : l = 108 ∨ l = 76
  · have HE : Hid (tur a l = Gx.lw a) := by unfold Hid tur; rw [if_neg h1, if_pos h2]
    clear h1
    rcases h2 with rfl | rfl
    all_goals
      go_enter Tryd.func22, Tryd.ntmps22
      go_wp2_with (go_at_call 33; refine HL.out.mono ?_; rintro e w1 ⟨rfl, rfl⟩; (try dsimp only))
      go_ret
      exact ⟨ret_int HE.out.symm, rfl⟩
  · have HE : Hid (tur a l = a) := by unfold Hid tur; rw [if_neg h1, if_neg h2]
    have n1 : (l == 117) = false := by simp; omega
    have n2 : (l == 85) = false := by simp; omega
    have n3 : (l == 108) = false := by simp; omega
    have n4 : (l == 76) = false := by simp; omega
    clear h1 h2
    go_enter Tryd.func22, Tryd.ntmps22
    go_wp2_with fail
    go_ret
    exact ⟨ret_int HE.out.symm, rfl⟩

/-- What give leaves. -/
def GiR (lo g : Nat) (w : World) (out : List Int) (once stay a : Int) (e : Ending) (w' : World) : Prop := e = .returned (.tuple #[]) ∧ Df lo w' g (out ++ giv once stay [a]) 0 stay ∧ Below lo w w'
set_option maxRecDepth 100000 in
set_option maxHeartbeats 8000000 in
theorem rgive_any {lo g : Nat} {w : World} {out : List Int} {once stay : Int} (a : Int) (h : Df lo w g out once stay) (hl : out.length ≤ 1000000) :
    Calls Tryd.prog 16 #[.pointer (some ⟨g, 0, none⟩), .int .i64 a] w fun e w' => GiR lo g w out once stay a e w' := by
  obtain ⟨i0, hi, hz0, hz1, hz2⟩ := info_parts info_i64
  have HLN := hidIt hl
  have HL1 := hidIt h.lt
  have HLO := hidIt h.low
  have HD := hidIt h
  obtain ⟨v0, hq0, _, _⟩ := id h
  obtain ⟨c0, c1, c2⟩ := cells3 hq0
  obtain ⟨D1, b1, z1⟩ := h.setOnce 0
  have HD1 := hidIt D1
  have HB1 := hidIt b1
  clear D1 b1 h hl hq0 c0
  have HR : Hid (∀ l (y w' : World), (if once ≠ 0 then tur a once else tur a stay) = tur a l → Below lo w y → Df lo w' g (out ++ [tur a l]) 0 stay → Below lo y w' → GiR lo g w out once stay a (.returned (.tuple #[])) w') := fun l y w' e hb hd hb2 => ⟨rfl, by rw [giv, e]; exact hd, hb.trans hb2⟩
  by_cases ho : once = 0
  · subst ho
    go_enter Tryd.func16, Tryd.ntmps16
    go_upto_region 4 with fail
    have HYD : Hid (Df lo w g out 0 stay) := HD.out
    have HYB : Hid (Below lo w w) := Below.refl _ _
    have HLX : Hid ((if (0 : Int) ≠ 0 then tur a 0 else tur a stay) = tur a stay) := by unfold Hid; simp
    clear HD HD1 HB1 c1 c2 z1
    have HT := hidIt (rturned_any a stay)
    have HLG : Hid (lo ≤ w.heap.size) := by have := HYD.out.lt; have := HYD.out.low; unfold Hid; omega
    obtain ⟨v, hq, _, how⟩ := HYD.out
    have HQ := hidIt hq
    have OW := hidIt how
    have c0 : w.cell? ⟨g, 0, none⟩ = some v := (cells3 hq).1
    have hql : g < w.heap.size := HYD.out.lt
    clear hq how
    refine wp_region_held_drew (S := fun _ => True) (by kernel_rfl) (trivial) (fun hHeld => ?_)
    refine wpAnyH_take (i := 0) (oi := _) (v := ?_) rfl (by kernel_rfl) (by kernel_rfl) (by kernel_rfl) (fun _ _ _ h => h) (Or.inl ⟨by rfl, ?_⟩) (by assumption) ?_
    rotate_left 1
    · intro wq hSw; (try dsimp only at hSw); go_simp; try (with_reducible rfl)
    try simp only [Act.put, List.getElem_toArray, List.getElem_cons_zero, List.setIfInBounds_toArray, List.set_cons_zero, List.set_cons_succ]
    refine wpAnyH_take (i := 1) (oi := _) (v := ?_) rfl (by kernel_rfl) (by kernel_rfl) (by kernel_rfl) (fun _ _ _ h => h) (Or.inl ⟨by rfl, ?_⟩) (by assumption) ?_
    rotate_left 1
    · intro wq hSw; (try dsimp only at hSw); go_simp; try (with_reducible rfl)
    try simp only [Act.put, List.getElem_toArray, List.getElem_cons_succ, List.getElem_cons_zero, List.setIfInBounds_toArray, List.set_cons_zero, List.set_cons_succ]
    refine wpAnyH_take (i := 2) (oi := _) (v := ?_) rfl (by kernel_rfl) (by kernel_rfl) (by kernel_rfl) (fun _ _ _ h => h) (Or.inl ⟨by rfl, ?_⟩) (by assumption) ?_
    rotate_left 1
    · intro wq hSw; (try dsimp only at hSw); go_simp; try (with_reducible rfl)
    try simp only [Act.put, List.getElem_toArray, List.getElem_cons_succ, List.getElem_cons_zero, List.setIfInBounds_toArray, List.set_cons_zero, List.set_cons_succ]
    refine wpAnyH_take (i := 3) (oi := _) (v := ?_) rfl (by kernel_rfl) (by kernel_rfl) (by kernel_rfl) (fun _ _ _ h => h) (Or.inl ⟨by rfl, ?_⟩) (by assumption) ?_
    rotate_left 1
    · intro wq hSw; (try dsimp only at hSw); go_simp; try (with_reducible rfl)
    try simp only [Act.put, List.getElem_toArray, List.getElem_cons_succ, List.getElem_cons_zero, List.setIfInBounds_toArray, List.set_cons_zero, List.set_cons_succ]
    refine wpAnyH_take (i := 5) (oi := _) (v := ?_) rfl (by kernel_rfl) (by kernel_rfl) (by kernel_rfl) (fun _ _ _ h => h) (Or.inl ⟨by rfl, ?_⟩) (by assumption) ?_
    rotate_left 1
    · intro wq hSw; (try dsimp only at hSw); go_simp; try (with_reducible rfl)
    try simp only [Act.put, List.getElem_toArray, List.getElem_cons_succ, List.getElem_cons_zero, List.setIfInBounds_toArray, List.set_cons_zero, List.set_cons_succ]
    refine wpAnyH_take (i := 6) (oi := _) (v := ?_) rfl (by kernel_rfl) (by kernel_rfl) (by kernel_rfl) (fun _ _ _ h => h) (Or.inl ⟨by rfl, ?_⟩) (by assumption) ?_
    rotate_left 1
    · intro wq hSw; (try dsimp only at hSw); go_simp; try (with_reducible rfl)
    try simp only [Act.put, List.getElem_toArray, List.getElem_cons_succ, List.getElem_cons_zero, List.setIfInBounds_toArray, List.set_cons_zero, List.set_cons_succ]
    refine wpAnyH_ready (rs := [4, 7]) (by kernel_rfl) (by simp) ?_
    refine (AllReadyH.cons (o := _) rfl (fun K hK => ?_) (AllReadyH.cons (o := _) rfl (fun K hK => ?_) AllReadyH.nil))
    · skip
      go_simp
      refine hK.out _ _ ?_ (fun hHeld => ?_)
      · trivial
      clear hK K
      try simp only [Act.put, List.getElem_toArray, List.getElem_cons_succ, List.getElem_cons_zero, List.setIfInBounds_toArray, List.set_cons_zero, List.set_cons_succ]
      refine wpAnyH_ready (rs := [7]) (by kernel_rfl) (by simp) ?_
      refine AllReadyH.cons (o := _) rfl (fun K hK => ?_) AllReadyH.nil
      go_simp
      refine (HT.out _).mono ?_
      rintro e w3 ⟨rfl, rfl⟩
      dsimp only
      refine hK.out _ _ ?_ (fun hHeld => ?_)
      · trivial
      clear hK K
      try simp only [Act.put, List.getElem_toArray, List.getElem_cons_succ, List.getElem_cons_zero, List.setIfInBounds_toArray, List.set_cons_zero, List.set_cons_succ]
      refine wpAnyH_ready (rs := [8]) (by kernel_rfl) (by simp) ?_
      refine AllReadyH.cons (o := _) rfl (fun K hK => ?_) AllReadyH.nil
      go_simp
      refine hK.out _ _ ?_ (fun hHeld => ?_)
      · trivial
      clear hK K
      try simp only [Act.put, List.getElem_toArray, List.getElem_cons_succ, List.getElem_cons_zero, List.setIfInBounds_toArray, List.set_cons_zero, List.set_cons_succ]
      refine wpAnyH_ready (rs := [9]) (by kernel_rfl) (by simp) ?_
      refine AllReadyH.cons (o := _) rfl (fun K hK => ?_) AllReadyH.nil
      rw [if_pos (by rfl)]
      refine wp_append_blk _ _ 22 (by rfl) lo 3 i0 (.int .i64 0) 1 8 Tryd.underlying22 hi hz0 hz1 hz2 rfl (by decide) v out.length (out.map (Value.int .i64)) (by rfl) (own_stay OW.out (fun k e => ((ext_alloc (Below.refl _ _) _).drew).block k (own_lt OW.out e))) ⟨w.heap.size, 0, none⟩ 1 1 [.int .i64 (tur a stay)] (by rfl) rfl (cell1_new _ _ _) (one_i64 _) (by have := HLN.out; unfold maxLen; omega) (by have := HLN.out; omega) (by have := HLG.out; simp; omega) (by decide) ?_; intro v9 w9 own9 hg9 hv9; obtain ⟨ao9, c9, rfl⟩ := form_own own9; have PU := hidIt (df_push HQ.out HLO.out OW.out own9 hg9); clear own9 hg9 hv9; have f9 : w9.frozen? ⟨g, 0, none⟩ = false := unfrozen PU.out.1 0; have z9 : w9.cell? ⟨g, 0, none⟩ = some v := (cells3 PU.out.1).1
      refine hK.out _ _ ?_ (fun hHeld => ?_)
      · trivial
      clear hK K
      try simp only [Act.put, List.getElem_toArray, List.getElem_cons_succ, List.getElem_cons_zero, List.setIfInBounds_toArray, List.set_cons_zero, List.set_cons_succ]
      refine wpAnyH_take (i := 10) (oi := _) (v := ?_) rfl (by kernel_rfl) (by kernel_rfl) (by kernel_rfl) (fun _ _ _ h => h) (Or.inl ⟨by rfl, ?_⟩) (by assumption) ?_
      rotate_left 1
      · intro wq hSw; (try dsimp only at hSw); go_simp; try (with_reducible rfl)
      try simp only [Act.put, List.getElem_toArray, List.getElem_cons_succ, List.getElem_cons_zero, List.setIfInBounds_toArray, List.set_cons_zero, List.set_cons_succ]
      refine wpAnyH_take (i := 11) (oi := _) (v := ?_) rfl (by kernel_rfl) (by kernel_rfl) (by kernel_rfl) (fun _ _ _ h => h) (Or.inl ⟨by rfl, ?_⟩) (by assumption) ?_
      rotate_left 1
      · intro wq hSw; (try dsimp only at hSw); go_simp; try (with_reducible rfl)
      try simp only [Act.put, List.getElem_toArray, List.getElem_cons_succ, List.getElem_cons_zero, List.setIfInBounds_toArray, List.set_cons_zero, List.set_cons_succ]
      refine wpAnyH_ready (rs := [12]) (by kernel_rfl) (by simp) ?_
      refine AllReadyH.cons (o := _) rfl (fun K hK => ?_) AllReadyH.nil
      go_simp
      refine hK.out _ _ ?_ (fun hHeld => ?_)
      · trivial
      clear hK K
      try simp only [Act.put, List.getElem_toArray, List.getElem_cons_succ, List.getElem_cons_zero, List.setIfInBounds_toArray, List.set_cons_zero, List.set_cons_succ]
      refine wpAnyH_done (by kernel_rfl) ?_ _
      go_wp2_with fail
      refine bodyPost_ret (results_none rfl _ _ _) rfl ?_
      exact HR.out stay w _ HLX.out HYB.out PU.out.2.1 PU.out.2.2
    · skip
      go_simp
      refine (HT.out _).mono ?_
      rintro e w3 ⟨rfl, rfl⟩
      dsimp only
      refine hK.out _ _ ?_ (fun hHeld => ?_)
      · trivial
      clear hK K
      try simp only [Act.put, List.getElem_toArray, List.getElem_cons_succ, List.getElem_cons_zero, List.setIfInBounds_toArray, List.set_cons_zero, List.set_cons_succ]
      refine wpAnyH_ready (rs := [4, 8]) (by kernel_rfl) (by simp) ?_
      refine (AllReadyH.cons (o := _) rfl (fun K hK => ?_) (AllReadyH.cons (o := _) rfl (fun K hK => ?_) AllReadyH.nil))
      · skip
        go_simp
        refine hK.out _ _ ?_ (fun hHeld => ?_)
        · trivial
        clear hK K
        try simp only [Act.put, List.getElem_toArray, List.getElem_cons_succ, List.getElem_cons_zero, List.setIfInBounds_toArray, List.set_cons_zero, List.set_cons_succ]
        refine wpAnyH_ready (rs := [8]) (by kernel_rfl) (by simp) ?_
        refine AllReadyH.cons (o := _) rfl (fun K hK => ?_) AllReadyH.nil
        go_simp
        refine hK.out _ _ ?_ (fun hHeld => ?_)
        · trivial
        clear hK K
        try simp only [Act.put, List.getElem_toArray, List.getElem_cons_succ, List.getElem_cons_zero, List.setIfInBounds_toArray, List.set_cons_zero, List.set_cons_succ]
        refine wpAnyH_ready (rs := [9]) (by kernel_rfl) (by simp) ?_
        refine AllReadyH.cons (o := _) rfl (fun K hK => ?_) AllReadyH.nil
        rw [if_pos (by rfl)]
        refine wp_append_blk _ _ 22 (by rfl) lo 3 i0 (.int .i64 0) 1 8 Tryd.underlying22 hi hz0 hz1 hz2 rfl (by decide) v out.length (out.map (Value.int .i64)) (by rfl) (own_stay OW.out (fun k e => ((ext_alloc (Below.refl _ _) _).drew).block k (own_lt OW.out e))) ⟨w.heap.size, 0, none⟩ 1 1 [.int .i64 (tur a stay)] (by rfl) rfl (cell1_new _ _ _) (one_i64 _) (by have := HLN.out; unfold maxLen; omega) (by have := HLN.out; omega) (by have := HLG.out; simp; omega) (by decide) ?_; intro v9 w9 own9 hg9 hv9; obtain ⟨ao9, c9, rfl⟩ := form_own own9; have PU := hidIt (df_push HQ.out HLO.out OW.out own9 hg9); clear own9 hg9 hv9; have f9 : w9.frozen? ⟨g, 0, none⟩ = false := unfrozen PU.out.1 0; have z9 : w9.cell? ⟨g, 0, none⟩ = some v := (cells3 PU.out.1).1
        refine hK.out _ _ ?_ (fun hHeld => ?_)
        · trivial
        clear hK K
        try simp only [Act.put, List.getElem_toArray, List.getElem_cons_succ, List.getElem_cons_zero, List.setIfInBounds_toArray, List.set_cons_zero, List.set_cons_succ]
        refine wpAnyH_take (i := 10) (oi := _) (v := ?_) rfl (by kernel_rfl) (by kernel_rfl) (by kernel_rfl) (fun _ _ _ h => h) (Or.inl ⟨by rfl, ?_⟩) (by assumption) ?_
        rotate_left 1
        · intro wq hSw; (try dsimp only at hSw); go_simp; try (with_reducible rfl)
        try simp only [Act.put, List.getElem_toArray, List.getElem_cons_succ, List.getElem_cons_zero, List.setIfInBounds_toArray, List.set_cons_zero, List.set_cons_succ]
        refine wpAnyH_take (i := 11) (oi := _) (v := ?_) rfl (by kernel_rfl) (by kernel_rfl) (by kernel_rfl) (fun _ _ _ h => h) (Or.inl ⟨by rfl, ?_⟩) (by assumption) ?_
        rotate_left 1
        · intro wq hSw; (try dsimp only at hSw); go_simp; try (with_reducible rfl)
        try simp only [Act.put, List.getElem_toArray, List.getElem_cons_succ, List.getElem_cons_zero, List.setIfInBounds_toArray, List.set_cons_zero, List.set_cons_succ]
        refine wpAnyH_ready (rs := [12]) (by kernel_rfl) (by simp) ?_
        refine AllReadyH.cons (o := _) rfl (fun K hK => ?_) AllReadyH.nil
        go_simp
        refine hK.out _ _ ?_ (fun hHeld => ?_)
        · trivial
        clear hK K
        try simp only [Act.put, List.getElem_toArray, List.getElem_cons_succ, List.getElem_cons_zero, List.setIfInBounds_toArray, List.set_cons_zero, List.set_cons_succ]
        refine wpAnyH_done (by kernel_rfl) ?_ _
        go_wp2_with fail
        refine bodyPost_ret (results_none rfl _ _ _) rfl ?_
        exact HR.out stay w _ HLX.out HYB.out PU.out.2.1 PU.out.2.2
      · skip
        go_simp
        refine hK.out _ _ ?_ (fun hHeld => ?_)
        · trivial
        clear hK K
        try simp only [Act.put, List.getElem_toArray, List.getElem_cons_succ, List.getElem_cons_zero, List.setIfInBounds_toArray, List.set_cons_zero, List.set_cons_succ]
        refine wpAnyH_ready (rs := [4]) (by kernel_rfl) (by simp) ?_
        refine AllReadyH.cons (o := _) rfl (fun K hK => ?_) AllReadyH.nil
        go_simp
        refine hK.out _ _ ?_ (fun hHeld => ?_)
        · trivial
        clear hK K
        try simp only [Act.put, List.getElem_toArray, List.getElem_cons_succ, List.getElem_cons_zero, List.setIfInBounds_toArray, List.set_cons_zero, List.set_cons_succ]
        refine wpAnyH_ready (rs := [9]) (by kernel_rfl) (by simp) ?_
        refine AllReadyH.cons (o := _) rfl (fun K hK => ?_) AllReadyH.nil
        rw [if_pos (by rfl)]
        refine wp_append_blk _ _ 22 (by rfl) lo 3 i0 (.int .i64 0) 1 8 Tryd.underlying22 hi hz0 hz1 hz2 rfl (by decide) v out.length (out.map (Value.int .i64)) (by rfl) (own_stay OW.out (fun k e => ((ext_alloc (Below.refl _ _) _).drew).block k (own_lt OW.out e))) ⟨w.heap.size, 0, none⟩ 1 1 [.int .i64 (tur a stay)] (by rfl) rfl (cell1_new _ _ _) (one_i64 _) (by have := HLN.out; unfold maxLen; omega) (by have := HLN.out; omega) (by have := HLG.out; simp; omega) (by decide) ?_; intro v9 w9 own9 hg9 hv9; obtain ⟨ao9, c9, rfl⟩ := form_own own9; have PU := hidIt (df_push HQ.out HLO.out OW.out own9 hg9); clear own9 hg9 hv9; have f9 : w9.frozen? ⟨g, 0, none⟩ = false := unfrozen PU.out.1 0; have z9 : w9.cell? ⟨g, 0, none⟩ = some v := (cells3 PU.out.1).1
        refine hK.out _ _ ?_ (fun hHeld => ?_)
        · trivial
        clear hK K
        try simp only [Act.put, List.getElem_toArray, List.getElem_cons_succ, List.getElem_cons_zero, List.setIfInBounds_toArray, List.set_cons_zero, List.set_cons_succ]
        refine wpAnyH_take (i := 10) (oi := _) (v := ?_) rfl (by kernel_rfl) (by kernel_rfl) (by kernel_rfl) (fun _ _ _ h => h) (Or.inl ⟨by rfl, ?_⟩) (by assumption) ?_
        rotate_left 1
        · intro wq hSw; (try dsimp only at hSw); go_simp; try (with_reducible rfl)
        try simp only [Act.put, List.getElem_toArray, List.getElem_cons_succ, List.getElem_cons_zero, List.setIfInBounds_toArray, List.set_cons_zero, List.set_cons_succ]
        refine wpAnyH_take (i := 11) (oi := _) (v := ?_) rfl (by kernel_rfl) (by kernel_rfl) (by kernel_rfl) (fun _ _ _ h => h) (Or.inl ⟨by rfl, ?_⟩) (by assumption) ?_
        rotate_left 1
        · intro wq hSw; (try dsimp only at hSw); go_simp; try (with_reducible rfl)
        try simp only [Act.put, List.getElem_toArray, List.getElem_cons_succ, List.getElem_cons_zero, List.setIfInBounds_toArray, List.set_cons_zero, List.set_cons_succ]
        refine wpAnyH_ready (rs := [12]) (by kernel_rfl) (by simp) ?_
        refine AllReadyH.cons (o := _) rfl (fun K hK => ?_) AllReadyH.nil
        go_simp
        refine hK.out _ _ ?_ (fun hHeld => ?_)
        · trivial
        clear hK K
        try simp only [Act.put, List.getElem_toArray, List.getElem_cons_succ, List.getElem_cons_zero, List.setIfInBounds_toArray, List.set_cons_zero, List.set_cons_succ]
        refine wpAnyH_done (by kernel_rfl) ?_ _
        go_wp2_with fail
        refine bodyPost_ret (results_none rfl _ _ _) rfl ?_
        exact HR.out stay w _ HLX.out HYB.out PU.out.2.1 PU.out.2.2
  · go_enter Tryd.func16, Tryd.ntmps16
    have hd : (once == 0) = false := by simpa using ho
    go_upto_region 4 with fail
    have HLX : Hid ((if once ≠ 0 then tur a once else tur a stay) = tur a once) := by unfold Hid; rw [if_pos ho]
    generalize w.setCell ⟨g, 1, none⟩ (.int .i64 0) = y at HD1 HB1 ⊢
    have HYD : Hid (Df lo y g out 0 stay) := HD1.out
    have HYB : Hid (Below lo w y) := HB1.out
    clear HD HD1 HB1 c1 c2 z1 hd ho
    have HT := hidIt (rturned_any a once)
    have HLG : Hid (lo ≤ y.heap.size) := by have := HYD.out.lt; have := HYD.out.low; unfold Hid; omega
    obtain ⟨v, hq, _, how⟩ := HYD.out
    have HQ := hidIt hq
    have OW := hidIt how
    have c0 : y.cell? ⟨g, 0, none⟩ = some v := (cells3 hq).1
    have hql : g < y.heap.size := HYD.out.lt
    clear hq how
    refine wp_region_held_drew (S := fun _ => True) (by kernel_rfl) (trivial) (fun hHeld => ?_)
    refine wpAnyH_take (i := 0) (oi := _) (v := ?_) rfl (by kernel_rfl) (by kernel_rfl) (by kernel_rfl) (fun _ _ _ h => h) (Or.inl ⟨by rfl, ?_⟩) (by assumption) ?_
    rotate_left 1
    · intro wq hSw; (try dsimp only at hSw); go_simp; try (with_reducible rfl)
    try simp only [Act.put, List.getElem_toArray, List.getElem_cons_zero, List.setIfInBounds_toArray, List.set_cons_zero, List.set_cons_succ]
    refine wpAnyH_take (i := 1) (oi := _) (v := ?_) rfl (by kernel_rfl) (by kernel_rfl) (by kernel_rfl) (fun _ _ _ h => h) (Or.inl ⟨by rfl, ?_⟩) (by assumption) ?_
    rotate_left 1
    · intro wq hSw; (try dsimp only at hSw); go_simp; try (with_reducible rfl)
    try simp only [Act.put, List.getElem_toArray, List.getElem_cons_succ, List.getElem_cons_zero, List.setIfInBounds_toArray, List.set_cons_zero, List.set_cons_succ]
    refine wpAnyH_take (i := 2) (oi := _) (v := ?_) rfl (by kernel_rfl) (by kernel_rfl) (by kernel_rfl) (fun _ _ _ h => h) (Or.inl ⟨by rfl, ?_⟩) (by assumption) ?_
    rotate_left 1
    · intro wq hSw; (try dsimp only at hSw); go_simp; try (with_reducible rfl)
    try simp only [Act.put, List.getElem_toArray, List.getElem_cons_succ, List.getElem_cons_zero, List.setIfInBounds_toArray, List.set_cons_zero, List.set_cons_succ]
    refine wpAnyH_take (i := 3) (oi := _) (v := ?_) rfl (by kernel_rfl) (by kernel_rfl) (by kernel_rfl) (fun _ _ _ h => h) (Or.inl ⟨by rfl, ?_⟩) (by assumption) ?_
    rotate_left 1
    · intro wq hSw; (try dsimp only at hSw); go_simp; try (with_reducible rfl)
    try simp only [Act.put, List.getElem_toArray, List.getElem_cons_succ, List.getElem_cons_zero, List.setIfInBounds_toArray, List.set_cons_zero, List.set_cons_succ]
    refine wpAnyH_take (i := 5) (oi := _) (v := ?_) rfl (by kernel_rfl) (by kernel_rfl) (by kernel_rfl) (fun _ _ _ h => h) (Or.inl ⟨by rfl, ?_⟩) (by assumption) ?_
    rotate_left 1
    · intro wq hSw; (try dsimp only at hSw); go_simp; try (with_reducible rfl)
    try simp only [Act.put, List.getElem_toArray, List.getElem_cons_succ, List.getElem_cons_zero, List.setIfInBounds_toArray, List.set_cons_zero, List.set_cons_succ]
    refine wpAnyH_take (i := 6) (oi := _) (v := ?_) rfl (by kernel_rfl) (by kernel_rfl) (by kernel_rfl) (fun _ _ _ h => h) (Or.inl ⟨by rfl, ?_⟩) (by assumption) ?_
    rotate_left 1
    · intro wq hSw; (try dsimp only at hSw); go_simp; try (with_reducible rfl)
    try simp only [Act.put, List.getElem_toArray, List.getElem_cons_succ, List.getElem_cons_zero, List.setIfInBounds_toArray, List.set_cons_zero, List.set_cons_succ]
    refine wpAnyH_ready (rs := [4, 7]) (by kernel_rfl) (by simp) ?_
    refine (AllReadyH.cons (o := _) rfl (fun K hK => ?_) (AllReadyH.cons (o := _) rfl (fun K hK => ?_) AllReadyH.nil))
    · skip
      go_simp
      refine hK.out _ _ ?_ (fun hHeld => ?_)
      · trivial
      clear hK K
      try simp only [Act.put, List.getElem_toArray, List.getElem_cons_succ, List.getElem_cons_zero, List.setIfInBounds_toArray, List.set_cons_zero, List.set_cons_succ]
      refine wpAnyH_ready (rs := [7]) (by kernel_rfl) (by simp) ?_
      refine AllReadyH.cons (o := _) rfl (fun K hK => ?_) AllReadyH.nil
      go_simp
      refine (HT.out _).mono ?_
      rintro e w3 ⟨rfl, rfl⟩
      dsimp only
      refine hK.out _ _ ?_ (fun hHeld => ?_)
      · trivial
      clear hK K
      try simp only [Act.put, List.getElem_toArray, List.getElem_cons_succ, List.getElem_cons_zero, List.setIfInBounds_toArray, List.set_cons_zero, List.set_cons_succ]
      refine wpAnyH_ready (rs := [8]) (by kernel_rfl) (by simp) ?_
      refine AllReadyH.cons (o := _) rfl (fun K hK => ?_) AllReadyH.nil
      go_simp
      refine hK.out _ _ ?_ (fun hHeld => ?_)
      · trivial
      clear hK K
      try simp only [Act.put, List.getElem_toArray, List.getElem_cons_succ, List.getElem_cons_zero, List.setIfInBounds_toArray, List.set_cons_zero, List.set_cons_succ]
      refine wpAnyH_ready (rs := [9]) (by kernel_rfl) (by simp) ?_
      refine AllReadyH.cons (o := _) rfl (fun K hK => ?_) AllReadyH.nil
      rw [if_pos (by rfl)]
      refine wp_append_blk _ _ 22 (by rfl) lo 3 i0 (.int .i64 0) 1 8 Tryd.underlying22 hi hz0 hz1 hz2 rfl (by decide) v out.length (out.map (Value.int .i64)) (by rfl) (own_stay OW.out (fun k e => ((ext_alloc (Below.refl _ _) _).drew).block k (own_lt OW.out e))) ⟨y.heap.size, 0, none⟩ 1 1 [.int .i64 (tur a once)] (by rfl) rfl (cell1_new _ _ _) (one_i64 _) (by have := HLN.out; unfold maxLen; omega) (by have := HLN.out; omega) (by have := HLG.out; simp; omega) (by decide) ?_; intro v9 w9 own9 hg9 hv9; obtain ⟨ao9, c9, rfl⟩ := form_own own9; have PU := hidIt (df_push HQ.out HLO.out OW.out own9 hg9); clear own9 hg9 hv9; have f9 : w9.frozen? ⟨g, 0, none⟩ = false := unfrozen PU.out.1 0; have z9 : w9.cell? ⟨g, 0, none⟩ = some v := (cells3 PU.out.1).1
      refine hK.out _ _ ?_ (fun hHeld => ?_)
      · trivial
      clear hK K
      try simp only [Act.put, List.getElem_toArray, List.getElem_cons_succ, List.getElem_cons_zero, List.setIfInBounds_toArray, List.set_cons_zero, List.set_cons_succ]
      refine wpAnyH_take (i := 10) (oi := _) (v := ?_) rfl (by kernel_rfl) (by kernel_rfl) (by kernel_rfl) (fun _ _ _ h => h) (Or.inl ⟨by rfl, ?_⟩) (by assumption) ?_
      rotate_left 1
      · intro wq hSw; (try dsimp only at hSw); go_simp; try (with_reducible rfl)
      try simp only [Act.put, List.getElem_toArray, List.getElem_cons_succ, List.getElem_cons_zero, List.setIfInBounds_toArray, List.set_cons_zero, List.set_cons_succ]
      refine wpAnyH_take (i := 11) (oi := _) (v := ?_) rfl (by kernel_rfl) (by kernel_rfl) (by kernel_rfl) (fun _ _ _ h => h) (Or.inl ⟨by rfl, ?_⟩) (by assumption) ?_
      rotate_left 1
      · intro wq hSw; (try dsimp only at hSw); go_simp; try (with_reducible rfl)
      try simp only [Act.put, List.getElem_toArray, List.getElem_cons_succ, List.getElem_cons_zero, List.setIfInBounds_toArray, List.set_cons_zero, List.set_cons_succ]
      refine wpAnyH_ready (rs := [12]) (by kernel_rfl) (by simp) ?_
      refine AllReadyH.cons (o := _) rfl (fun K hK => ?_) AllReadyH.nil
      go_simp
      refine hK.out _ _ ?_ (fun hHeld => ?_)
      · trivial
      clear hK K
      try simp only [Act.put, List.getElem_toArray, List.getElem_cons_succ, List.getElem_cons_zero, List.setIfInBounds_toArray, List.set_cons_zero, List.set_cons_succ]
      refine wpAnyH_done (by kernel_rfl) ?_ _
      go_wp2_with fail
      refine bodyPost_ret (results_none rfl _ _ _) rfl ?_
      exact HR.out once y _ HLX.out HYB.out PU.out.2.1 PU.out.2.2
    · skip
      go_simp
      refine (HT.out _).mono ?_
      rintro e w3 ⟨rfl, rfl⟩
      dsimp only
      refine hK.out _ _ ?_ (fun hHeld => ?_)
      · trivial
      clear hK K
      try simp only [Act.put, List.getElem_toArray, List.getElem_cons_succ, List.getElem_cons_zero, List.setIfInBounds_toArray, List.set_cons_zero, List.set_cons_succ]
      refine wpAnyH_ready (rs := [4, 8]) (by kernel_rfl) (by simp) ?_
      refine (AllReadyH.cons (o := _) rfl (fun K hK => ?_) (AllReadyH.cons (o := _) rfl (fun K hK => ?_) AllReadyH.nil))
      · skip
        go_simp
        refine hK.out _ _ ?_ (fun hHeld => ?_)
        · trivial
        clear hK K
        try simp only [Act.put, List.getElem_toArray, List.getElem_cons_succ, List.getElem_cons_zero, List.setIfInBounds_toArray, List.set_cons_zero, List.set_cons_succ]
        refine wpAnyH_ready (rs := [8]) (by kernel_rfl) (by simp) ?_
        refine AllReadyH.cons (o := _) rfl (fun K hK => ?_) AllReadyH.nil
        go_simp
        refine hK.out _ _ ?_ (fun hHeld => ?_)
        · trivial
        clear hK K
        try simp only [Act.put, List.getElem_toArray, List.getElem_cons_succ, List.getElem_cons_zero, List.setIfInBounds_toArray, List.set_cons_zero, List.set_cons_succ]
        refine wpAnyH_ready (rs := [9]) (by kernel_rfl) (by simp) ?_
        refine AllReadyH.cons (o := _) rfl (fun K hK => ?_) AllReadyH.nil
        rw [if_pos (by rfl)]
        refine wp_append_blk _ _ 22 (by rfl) lo 3 i0 (.int .i64 0) 1 8 Tryd.underlying22 hi hz0 hz1 hz2 rfl (by decide) v out.length (out.map (Value.int .i64)) (by rfl) (own_stay OW.out (fun k e => ((ext_alloc (Below.refl _ _) _).drew).block k (own_lt OW.out e))) ⟨y.heap.size, 0, none⟩ 1 1 [.int .i64 (tur a once)] (by rfl) rfl (cell1_new _ _ _) (one_i64 _) (by have := HLN.out; unfold maxLen; omega) (by have := HLN.out; omega) (by have := HLG.out; simp; omega) (by decide) ?_; intro v9 w9 own9 hg9 hv9; obtain ⟨ao9, c9, rfl⟩ := form_own own9; have PU := hidIt (df_push HQ.out HLO.out OW.out own9 hg9); clear own9 hg9 hv9; have f9 : w9.frozen? ⟨g, 0, none⟩ = false := unfrozen PU.out.1 0; have z9 : w9.cell? ⟨g, 0, none⟩ = some v := (cells3 PU.out.1).1
        refine hK.out _ _ ?_ (fun hHeld => ?_)
        · trivial
        clear hK K
        try simp only [Act.put, List.getElem_toArray, List.getElem_cons_succ, List.getElem_cons_zero, List.setIfInBounds_toArray, List.set_cons_zero, List.set_cons_succ]
        refine wpAnyH_take (i := 10) (oi := _) (v := ?_) rfl (by kernel_rfl) (by kernel_rfl) (by kernel_rfl) (fun _ _ _ h => h) (Or.inl ⟨by rfl, ?_⟩) (by assumption) ?_
        rotate_left 1
        · intro wq hSw; (try dsimp only at hSw); go_simp; try (with_reducible rfl)
        try simp only [Act.put, List.getElem_toArray, List.getElem_cons_succ, List.getElem_cons_zero, List.setIfInBounds_toArray, List.set_cons_zero, List.set_cons_succ]
        refine wpAnyH_take (i := 11) (oi := _) (v := ?_) rfl (by kernel_rfl) (by kernel_rfl) (by kernel_rfl) (fun _ _ _ h => h) (Or.inl ⟨by rfl, ?_⟩) (by assumption) ?_
        rotate_left 1
        · intro wq hSw; (try dsimp only at hSw); go_simp; try (with_reducible rfl)
        try simp only [Act.put, List.getElem_toArray, List.getElem_cons_succ, List.getElem_cons_zero, List.setIfInBounds_toArray, List.set_cons_zero, List.set_cons_succ]
        refine wpAnyH_ready (rs := [12]) (by kernel_rfl) (by simp) ?_
        refine AllReadyH.cons (o := _) rfl (fun K hK => ?_) AllReadyH.nil
        go_simp
        refine hK.out _ _ ?_ (fun hHeld => ?_)
        · trivial
        clear hK K
        try simp only [Act.put, List.getElem_toArray, List.getElem_cons_succ, List.getElem_cons_zero, List.setIfInBounds_toArray, List.set_cons_zero, List.set_cons_succ]
        refine wpAnyH_done (by kernel_rfl) ?_ _
        go_wp2_with fail
        refine bodyPost_ret (results_none rfl _ _ _) rfl ?_
        exact HR.out once y _ HLX.out HYB.out PU.out.2.1 PU.out.2.2
      · skip
        go_simp
        refine hK.out _ _ ?_ (fun hHeld => ?_)
        · trivial
        clear hK K
        try simp only [Act.put, List.getElem_toArray, List.getElem_cons_succ, List.getElem_cons_zero, List.setIfInBounds_toArray, List.set_cons_zero, List.set_cons_succ]
        refine wpAnyH_ready (rs := [4]) (by kernel_rfl) (by simp) ?_
        refine AllReadyH.cons (o := _) rfl (fun K hK => ?_) AllReadyH.nil
        go_simp
        refine hK.out _ _ ?_ (fun hHeld => ?_)
        · trivial
        clear hK K
        try simp only [Act.put, List.getElem_toArray, List.getElem_cons_succ, List.getElem_cons_zero, List.setIfInBounds_toArray, List.set_cons_zero, List.set_cons_succ]
        refine wpAnyH_ready (rs := [9]) (by kernel_rfl) (by simp) ?_
        refine AllReadyH.cons (o := _) rfl (fun K hK => ?_) AllReadyH.nil
        rw [if_pos (by rfl)]
        refine wp_append_blk _ _ 22 (by rfl) lo 3 i0 (.int .i64 0) 1 8 Tryd.underlying22 hi hz0 hz1 hz2 rfl (by decide) v out.length (out.map (Value.int .i64)) (by rfl) (own_stay OW.out (fun k e => ((ext_alloc (Below.refl _ _) _).drew).block k (own_lt OW.out e))) ⟨y.heap.size, 0, none⟩ 1 1 [.int .i64 (tur a once)] (by rfl) rfl (cell1_new _ _ _) (one_i64 _) (by have := HLN.out; unfold maxLen; omega) (by have := HLN.out; omega) (by have := HLG.out; simp; omega) (by decide) ?_; intro v9 w9 own9 hg9 hv9; obtain ⟨ao9, c9, rfl⟩ := form_own own9; have PU := hidIt (df_push HQ.out HLO.out OW.out own9 hg9); clear own9 hg9 hv9; have f9 : w9.frozen? ⟨g, 0, none⟩ = false := unfrozen PU.out.1 0; have z9 : w9.cell? ⟨g, 0, none⟩ = some v := (cells3 PU.out.1).1
        refine hK.out _ _ ?_ (fun hHeld => ?_)
        · trivial
        clear hK K
        try simp only [Act.put, List.getElem_toArray, List.getElem_cons_succ, List.getElem_cons_zero, List.setIfInBounds_toArray, List.set_cons_zero, List.set_cons_succ]
        refine wpAnyH_take (i := 10) (oi := _) (v := ?_) rfl (by kernel_rfl) (by kernel_rfl) (by kernel_rfl) (fun _ _ _ h => h) (Or.inl ⟨by rfl, ?_⟩) (by assumption) ?_
        rotate_left 1
        · intro wq hSw; (try dsimp only at hSw); go_simp; try (with_reducible rfl)
        try simp only [Act.put, List.getElem_toArray, List.getElem_cons_succ, List.getElem_cons_zero, List.setIfInBounds_toArray, List.set_cons_zero, List.set_cons_succ]
        refine wpAnyH_take (i := 11) (oi := _) (v := ?_) rfl (by kernel_rfl) (by kernel_rfl) (by kernel_rfl) (fun _ _ _ h => h) (Or.inl ⟨by rfl, ?_⟩) (by assumption) ?_
        rotate_left 1
        · intro wq hSw; (try dsimp only at hSw); go_simp; try (with_reducible rfl)
        try simp only [Act.put, List.getElem_toArray, List.getElem_cons_succ, List.getElem_cons_zero, List.setIfInBounds_toArray, List.set_cons_zero, List.set_cons_succ]
        refine wpAnyH_ready (rs := [12]) (by kernel_rfl) (by simp) ?_
        refine AllReadyH.cons (o := _) rfl (fun K hK => ?_) AllReadyH.nil
        go_simp
        refine hK.out _ _ ?_ (fun hHeld => ?_)
        · trivial
        clear hK K
        try simp only [Act.put, List.getElem_toArray, List.getElem_cons_succ, List.getElem_cons_zero, List.setIfInBounds_toArray, List.set_cons_zero, List.set_cons_succ]
        refine wpAnyH_done (by kernel_rfl) ?_ _
        go_wp2_with fail
        refine bodyPost_ret (results_none rfl _ _ _) rfl ?_
        exact HR.out once y _ HLX.out HYB.out PU.out.2.1 PU.out.2.2
end Go.Proofs.YtipnifenahhkoaaDoor
