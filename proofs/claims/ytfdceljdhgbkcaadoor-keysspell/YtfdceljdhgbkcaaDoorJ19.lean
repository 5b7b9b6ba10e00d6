import Derived.Test.YtfdceljdhgbkcaaDoorJ17
import Derived.Test.YtfdceljdhgbkcaaDoorJ02
import Derived.Test.YtfdceljdhgbkcaaDoorJ10
import Derived.Test.YtfdceljdhgbkcaaDoorJ00
import Derived.Shelf.Strconv.Itoa3
import Derived.Shelf.LaysM
import Derived.Lib.AppendIntMem
import Derived.Test.YtfdceljdhgbkcaaDoorProg
import Derived.Lib.OthersKept
/- append of one int, which names its block; a row of ints that stays. -/
namespace Go.Proofs.YtfdceljdhgbkcaaDoor
open Go.RowKit
section
variable {P : Program} (W : World)
theorem wp_int1 {op : Oper} {a : Act} {K : Act → World → Prop} {Q : Exit → Act → World → Prop} (s x : Operand) (t : TypeId) (ho : op.op = .call { callee := .builtin .append, args := #[s, x], argTypes := #[t, t] })
    (hinf : (P.info? 3).map (fun i => (i.zero, i.size, i.bytes)) = some (some (.int .i64 0), 1, 8)) (ht : P.underlying t = some (.slice 3))
    (v : Value) (zs : List Int) (hs : a.eval s = v) (hown : OwnI W 0 v zs) (y : Int) (ad : Addr) (c : Nat) (hx : a.eval x = .slice (some ad) 1 c) (hy : W.cell? ad = some (.int .i64 y)) (had : ad.add 0 = ad) (hl : zs.length < 17592186044416)
    (h : ∀ v' w', OwnI w' 0 v' (zs ++ [y]) → W.grownBy w' v.ownBlock → (v'.ownBlock = v.ownBlock ∨ v'.ownBlock = some W.heap.size) → K (a.put op.dst v') w') : op.wp P a W K Q := by
  obtain ⟨i0, hi, hz0, hz1, hz2⟩ := info_parts hinf
  obtain ⟨v', w', hr, h2, h3, h4⟩ := run_append_blk (P := P) W 0 t op.type 3 i0 (.int .i64 0) 1 8 ht hi hz0 hz1 hz2 rfl (by decide) v zs.length (zs.map (Value.int .i64)) hown ad 1 c [.int .i64 y] rfl (fun j u hj => by
    rcases j with _ | j
    · cases hj; rw [had]; exact hy
    · simp at hj) (fun u hu => by rw [List.mem_singleton.1 hu]; rfl) (by unfold maxLen; omega) (by omega) (Nat.zero_le _) (by decide)
  unfold Oper.wp execOp
  simp only [ho, resolve, invoke, builtin, Sem.run_bind, Sem.run_pure, Result.andThen_ok, List.map_toArray, List.map_cons, List.map_nil, hs, hx, hr]
  refine h v' w' ?_ h3 h4
  unfold OwnI
  rw [List.length_append, List.map_append]
  exact h2
theorem wpl_int1 {ops : Array Oper} {rest : List Oper} {o : Oper} {a : Act} {Q : Exit → Act → World → Prop} (hgd : o.guard = none) (s x : Operand) (t : TypeId) (ho : o.op = .call { callee := .builtin .append, args := #[s, x], argTypes := #[t, t] })
    (hinf : (P.info? 3).map (fun i => (i.zero, i.size, i.bytes)) = some (some (.int .i64 0), 1, 8)) (ht : P.underlying t = some (.slice 3))
    (v : Value) (zs : List Int) (hs : a.eval s = v) (hown : OwnI W 0 v zs) (y : Int) (ad : Addr) (c : Nat) (hx : a.eval x = .slice (some ad) 1 c) (hy : W.cell? ad = some (.int .i64 y)) (had : ad.add 0 = ad) (hl : zs.length < 17592186044416)
    (h : ∀ v' w', OwnI w' 0 v' (zs ++ [y]) → W.grownBy w' v.ownBlock → (v'.ownBlock = v.ownBlock ∨ v'.ownBlock = some W.heap.size) → wpList P ops Q rest (a.put o.dst v') w') : wpList P ops Q (o :: rest) a W :=
  wpList_plain hgd fun _ hK => wp_int1 W s x t ho hinf ht v zs hs hown y ad c hx hy had hl (fun v' w' h1 h2 h3 => hK _ _ (h v' w' h1 h2 h3))
end
theorem own_lit1 (w : World) (x : Int) (base : Nat) (hb : base ≤ w.heap.size) : OwnI (w.alloc (.cells #[.int .i64 x] 3)) base (.slice (some ⟨w.heap.size, 0, none⟩) 1 1) [x] :=
  ⟨rfl, .inr ⟨w.heap.size, 1, #[.int .i64 x], rfl, hb, heap_alloc_new _ _, Nat.le_refl _, by decide, rfl, rfl⟩⟩
theorem own_lit2 (w : World) (x y : Int) (base : Nat) (hb : base ≤ w.heap.size) : OwnI (w.alloc (.cells #[.int .i64 x, .int .i64 y] 3)) base (.slice (some ⟨w.heap.size, 0, none⟩) 2 2) [x, y] :=
  ⟨rfl, .inr ⟨w.heap.size, 2, #[.int .i64 x, .int .i64 y], rfl, hb, heap_alloc_new _ _, Nat.le_refl _, by decide, rfl, rfl⟩⟩
theorem lit_cell (w : World) (x : Value) (T : TypeId) : (w.alloc (.cells #[x] T)).cell? ⟨w.heap.size, 0, none⟩ = some x := by
  rw [cell_of_row _ _ 0 _ _ _ (heap_alloc_new _ _)]
  rfl
theorem rd_at {w : World} {ao : Option Addr} {c : Nat} {zs : List Int} (h : RdS w (.slice ao zs.length c) zs) {k : Nat} (hk : k < zs.length) : ∃ b o, ao = some ⟨b, o, none⟩ ∧ w.cell? ⟨b, o + k, none⟩ = some (.int .i64 (zs[k]?.getD 0)) := by
  obtain ⟨⟨ao', cap', e, g1, g2, g3⟩, _⟩ := h
  obtain ⟨b', off', e4, h1, h2⟩ := g3 (by intro e; rw [e] at hk; simp at hk)
  injection e with e1 e2 e3
  exact ⟨b', off', e1.trans e4, h2 k hk⟩
/-- The block that a row of ints lies in. -/
theorem OwnI.blk {w : World} {base : Nat} {v : Value} {zs : List Int} (h : OwnI w base v zs) {g : Nat} (hg : v.ownBlock = some g) : base ≤ g ∧ ∃ cur, w.heap[g]? = some (.cells cur 3 (0, 0)) := by
  rcases h.2 with ⟨rfl, _⟩ | ⟨g', cap, cur, rfl, hb, hg', _⟩
  · cases hg
  · have e : g' = g := by simpa [Value.ownBlock] using hg
    subst e
    exact ⟨hb, cur, hg'⟩
theorem own_ne {y : World} {b : Nat} {v : Value} {zs : List Int} {cs : Array Value} {T : TypeId} {r : Nat × Nat} (h : OwnI y 0 v zs) (hb : y.heap[b]? = some (.cells cs T r)) (hT : T ≠ 3) : v.ownBlock ≠ some b := by
  intro e
  obtain ⟨_, cur, hc⟩ := h.blk e
  rw [hc] at hb
  cases hb
  exact hT rfl
theorem OwnI.stay {w w' : World} {base : Nat} {v : Value} {zs : List Int} (h : OwnI w base v zs) (hs : ∀ g, v.ownBlock = some g → w'.heap[g]? = w.heap[g]?) : OwnI w' base v zs := by
  obtain ⟨h1, h2⟩ := h
  refine ⟨h1, ?_⟩
  rcases h2 with h2 | ⟨g, cap, cur, rfl, hb, hg, r⟩
  · exact .inl h2
  · exact .inr ⟨g, cap, cur, rfl, hb, (hs g rfl).trans hg, r⟩
theorem OwnI.lift {w : World} {base : Nat} {v : Value} {zs : List Int} (h : OwnI w 0 v zs) (hb : ∀ g, v.ownBlock = some g → base ≤ g) : OwnI w base v zs := by
  obtain ⟨h1, h2⟩ := h
  refine ⟨h1, ?_⟩
  rcases h2 with h2 | ⟨g, cap, cur, rfl, _, hg, r⟩
  · exact .inl h2
  · exact .inr ⟨g, cap, cur, rfl, hb g rfl, hg, r⟩
end Go.Proofs.YtfdceljdhgbkcaaDoor

/- cmp.Compare and slices.Compare of ints; isBefore. -/
namespace Go.Proofs.YtfdceljdhgbkcaaDoor
open Go.RowKit
set_option maxRecDepth 100000 in
theorem isNaN_any (x : Int) (w : World) : Calls Tryd.prog 82 #[.int .i64 x] w fun e w' => e = .returned (.bool false) ∧ w = w' := by
  go_enter Tryd.func82, Tryd.ntmps82
  go_wp2
  go_ret
  simp
def cm1 (x y : Int) : Int := if x < y then -1 else if y < x then 1 else 0
set_option maxRecDepth 100000 in
theorem cmp1_any (x y : Int) (w : World) : Calls Tryd.prog 60 #[.int .i64 x, .int .i64 y] w fun e w' => e = .returned (.int .i64 (cm1 x y)) ∧ w = w' := by
  have HN := hidIt (fun x w => isNaN_any x w)
  by_cases h1 : x < y
  · have HE : Hid (cm1 x y = -1) := by unfold Hid cm1; rw [if_pos h1]
    go_enter Tryd.func60, Tryd.ntmps60
    go_wp2_with (go_at_call 82; refine (HN.out _ _).mono ?_; rintro e w9 ⟨rfl, rfl⟩; (try dsimp only))
    go_ret
    exact ⟨by rw [HE.out]; rfl, rfl⟩
  · by_cases h2 : y < x
    · have h3 : x > y := h2
      have HE : Hid (cm1 x y = 1) := by unfold Hid cm1; rw [if_neg h1, if_pos h2]
      go_enter Tryd.func60, Tryd.ntmps60
      go_wp2_with (go_at_call 82; refine (HN.out _ _).mono ?_; rintro e w9 ⟨rfl, rfl⟩; (try dsimp only))
      go_ret
      exact ⟨by rw [HE.out]; rfl, rfl⟩
    · have h3 : ¬ x > y := h2
      have HE : Hid (cm1 x y = 0) := by unfold Hid cm1; rw [if_neg h1, if_neg h2]
      go_enter Tryd.func60, Tryd.ntmps60
      go_wp2_with (go_at_call 82; refine (HN.out _ _).mono ?_; rintro e w9 ⟨rfl, rfl⟩; (try dsimp only))
      go_ret
      exact ⟨by rw [HE.out]; rfl, rfl⟩
theorem cmpL_at (xs ys : List Int) (k : Nat) : cmpL (xs.drop k) (ys.drop k) = if k < xs.length then (if k < ys.length then (if cm1 (xs[k]?.getD 0) (ys[k]?.getD 0) = 0 then cmpL (xs.drop (k + 1)) (ys.drop (k + 1)) else cm1 (xs[k]?.getD 0) (ys[k]?.getD 0)) else 1) else if k < ys.length then -1 else 0 := by
  by_cases hx : k < xs.length
  · rw [if_pos hx, List.drop_eq_getElem_cons hx]
    by_cases hy : k < ys.length
    · rw [if_pos hy, List.drop_eq_getElem_cons hy, List.getElem?_eq_getElem hx, List.getElem?_eq_getElem hy]
      show (if xs[k] < ys[k] then -1 else if ys[k] < xs[k] then 1 else _) = if cm1 xs[k] ys[k] = 0 then _ else cm1 xs[k] ys[k]
      unfold cm1
      by_cases h1 : xs[k] < ys[k]
      · rw [if_pos h1, if_pos h1, if_neg (by decide)]
      · by_cases h2 : ys[k] < xs[k]
        · rw [if_neg h1, if_pos h2, if_neg h1, if_pos h2, if_neg (by decide)]
        · rw [if_neg h1, if_neg h2, if_neg h1, if_neg h2, if_pos rfl]
    · rw [if_neg hy, show ys.drop k = [] from List.drop_eq_nil_of_le (by omega)]
      rfl
  · rw [if_neg hx, show xs.drop k = [] from List.drop_eq_nil_of_le (by omega)]
    by_cases hy : k < ys.length
    · rw [if_pos hy, List.drop_eq_getElem_cons hy]
      rfl
    · rw [if_neg hy, List.drop_eq_nil_of_le (by omega)]
      rfl
set_option maxRecDepth 100000 in
set_option maxHeartbeats 4000000 in
theorem compare_any (u v : Value) (xs ys : List Int) (w : World) (hx : RdS w u xs) (hy : RdS w v ys) : Calls Tryd.prog 42 #[u, v] w fun e w' => e = .returned (.int .i64 (cmpL xs ys)) ∧ w = w' := by
  obtain ⟨ao, cu, rfl, lx⟩ := hx.len
  obtain ⟨bo, cv, rfl, ly⟩ := hy.len
  have HX := hidIt hx
  have HY := hidIt hy
  have HC := hidIt (fun x y w => cmp1_any x y w)
  clear hx hy
  go_enter Tryd.func42, Tryd.ntmps42
  go_wp2_with fail
  go_loopw [11] (fun i wr => ∃ k : Nat, k ≤ xs.length ∧ k ≤ ys.length ∧ i = .int .i64 k ∧ w = wr ∧ Hid (cmpL xs ys = cmpL (xs.drop k) (ys.drop k))) (fun i _ => xs.length - (RowKit.intOf i).toNat)
  case atStart => exact ⟨0, Nat.zero_le _, Nat.zero_le _, rfl, rfl, rfl⟩
  case round =>
    obtain ⟨k, hk1, hk2, rfl, rfl, HE⟩ := hrel
    rw [cmpL_at] at HE
    by_cases h1 : k < xs.length
    · rw [if_pos h1] at HE
      obtain ⟨b1, o1, rfl, c1⟩ := rd_at HX.out h1
      by_cases h2 : k < ys.length
      · rw [if_pos h2] at HE
        obtain ⟨b2, o2, rfl, c2⟩ := rd_at HY.out h2
        generalize xs[k]?.getD 0 = x at c1 HE
        generalize ys[k]?.getD 0 = y at c2 HE
        have h2I : ¬ (k : Int) ≥ (ys.length : Int) := by omega
        have HCC := hidIt (HC.out x y)
        by_cases h0 : cm1 x y = 0
        · rw [if_pos h0] at HE
          rw [h0] at HCC
          clear h0
          go_wp2_with (go_at_call 60; refine (HCC.out _).mono ?_; rintro e w9 ⟨rfl, rfl⟩; (try dsimp only))
          go_roundw
          case rel => exact ⟨k + 1, by omega, by omega, rfl, by first | trivial | rfl, HE.out⟩
          case measure => simp [RowKit.intOf]; omega
        · rw [if_neg h0] at HE
          generalize cm1 x y = s at HE HCC h0
          go_wp2_with (go_at_call 60; refine (HCC.out _).mono ?_; rintro e w9 ⟨rfl, rfl⟩; (try dsimp only))
          try rw [Exit.noGoto_ret]
          go_ret
          exact ⟨by rw [HE.out]; rfl, rfl⟩
      · rw [if_neg h2] at HE
        have h2I : (k : Int) ≥ (ys.length : Int) := by omega
        go_wp2_with fail
        try rw [Exit.noGoto_ret]
        go_ret
        exact ⟨by rw [HE.out]; rfl, rfl⟩
    · rw [if_neg h1] at HE
      by_cases h2 : k < ys.length
      · rw [if_pos h2] at HE
        have h3 : (xs.length : Int) < (ys.length : Int) := by omega
        go_wp2_with fail
        go_ret
        exact ⟨by rw [HE.out]; rfl, rfl⟩
      · rw [if_neg h2] at HE
        have h3 : ¬ (xs.length : Int) < (ys.length : Int) := by omega
        go_wp2_with fail
        go_ret
        exact ⟨by rw [HE.out]; rfl, rfl⟩
set_option maxRecDepth 100000 in
theorem isBefore_any (u v : Value) (xs ys : List Int) (w : World) (hx : RdS w u xs) (hy : RdS w v ys) : Calls Tryd.prog 18 #[u, v] w fun e w' => e = .returned (.bool (bfr xs ys)) ∧ w = w' := by
  have HC := hidIt (compare_any u v xs ys w hx hy)
  obtain ⟨ao, cu, rfl, lx⟩ := hx.len
  obtain ⟨bo, cv, rfl, ly⟩ := hy.len
  have HE := hidIt (show bfr xs ys = if xs.length = ys.length then decide (cmpL xs ys < 0) else decide (xs.length < ys.length) from rfl)
  clear hx hy
  by_cases h : xs.length = ys.length
  · rw [if_pos h] at HE
    generalize cmpL xs ys = s at HC HE
    generalize bfr xs ys = bb at HE ⊢
    rw [h] at HC ⊢
    clear h
    go_enter Tryd.func18, Tryd.ntmps18
    go_wp2_with (go_at_call 42; refine HC.out.mono ?_; rintro e w9 ⟨rfl, rfl⟩; (try dsimp only))
    go_ret
    refine ⟨?_, rfl⟩
    rw [HE.out]
    simp
  · rw [if_neg h] at HE
    have hI : ¬ (xs.length : Int) = (ys.length : Int) := by omega
    go_enter Tryd.func18, Tryd.ntmps18
    go_wp2_with fail
    go_ret
    refine ⟨?_, rfl⟩
    rw [HE.out]
    simp
end Go.Proofs.YtfdceljdhgbkcaaDoor

/- strconv.Itoa: the library's contract laid at this program (by the shelf's lay-shelf.mjs and lay-plain.mjs at this seat: the numbers are this seat's; write it anew for another seat with mkitoa.py). -/
namespace Go.Proofs.YtfdceljdhgbkcaaDoor
open Go.Shelf
def laysM171_ren : Go.Shelf.Ren := ⟨fun | 171 => 81 | 243 => 89 | 246 => 94 | 283 => 96 | 284 => 97 | 285 => 98 | 286 => 99 | 129 => 101 | 317 => 100 | 318 => 102 | 319 => 103 | 320 => 104 | 337 => 105 | 338 => 106 | n => n, fun | 3 => 3 | 9 => 9 | 2 => 2 | 4 => 4 | 171 => 144 | 0 => 0 | 53 => 145 | 37 => 148 | 5 => 5 | 173 => 149 | 212 => 153 | 51 => 154 | 20 => 20 | 213 => 155 | 46 => 156 | 232 => 159 | 233 => 160 | n => n, fun | 17 => 0 | 18 => 1 | 19 => 2 | n => n⟩
theorem laysM171 : Go.Proofs.LaysM.n171 Tryd.prog laysM171_ren := {
  mixed := by kernel_rfl
  f129 := Tryd.func101.trans (congrArg some (by kernel_rfl))
  f171 := Tryd.func81.trans (congrArg some (by kernel_rfl))
  f243 := Tryd.func89.trans (congrArg some (by kernel_rfl))
  f246 := Tryd.func94.trans (congrArg some (by kernel_rfl))
  f283 := Tryd.func96.trans (congrArg some (by kernel_rfl))
  f284 := Tryd.func97.trans (congrArg some (by kernel_rfl))
  f285 := Tryd.func98.trans (congrArg some (by kernel_rfl))
  f286 := Tryd.func99.trans (congrArg some (by kernel_rfl))
  f317 := Tryd.func100.trans (congrArg some (by kernel_rfl))
  f318 := Tryd.func102.trans (congrArg some (by kernel_rfl))
  f319 := Tryd.func103.trans (congrArg some (by kernel_rfl))
  f320 := Tryd.func104.trans (congrArg some (by kernel_rfl))
  f337 := Tryd.func105.trans (congrArg some (by kernel_rfl))
  f338 := Tryd.func106.trans (congrArg some (by kernel_rfl))
  t0 := Tryd.underlying0
  a0 := Tryd.isAgg0
  z0 := Tryd.sizeOf0
  v0 := Tryd.zeroValue0
  t2 := Tryd.underlying2
  a2 := Tryd.isAgg2
  z2 := Tryd.sizeOf2
  v2 := Tryd.zeroValue2
  t3 := Tryd.underlying3
  a3 := Tryd.isAgg3
  z3 := Tryd.sizeOf3
  v3 := Tryd.zeroValue3
  t4 := Tryd.underlying4
  a4 := Tryd.isAgg4
  z4 := Tryd.sizeOf4
  v4 := Tryd.zeroValue4
  t5 := Tryd.underlying5
  a5 := Tryd.isAgg5
  z5 := Tryd.sizeOf5
  v5 := Tryd.zeroValue5
  t9 := Tryd.underlying9
  a9 := Tryd.isAgg9
  z9 := Tryd.sizeOf9
  v9 := Tryd.zeroValue9
  t20 := Tryd.underlying20
  a20 := Tryd.isAgg20
  z20 := Tryd.sizeOf20
  v20 := Tryd.zeroValue20
  t37 := Tryd.underlying148
  a37 := Tryd.isAgg148
  z37 := Tryd.sizeOf148
  v37 := Tryd.zeroValue148
  t46 := Tryd.underlying156
  a46 := Tryd.isAgg156
  z46 := Tryd.sizeOf156
  v46 := Tryd.zeroValue156
  t51 := Tryd.underlying154
  a51 := Tryd.isAgg154
  z51 := Tryd.sizeOf154
  v51 := Tryd.zeroValue154
  t53 := Tryd.underlying145
  a53 := Tryd.isAgg145
  z53 := Tryd.sizeOf145
  v53 := Tryd.zeroValue145
  t171 := Tryd.underlying144
  a171 := Tryd.isAgg144
  z171 := Tryd.sizeOf144
  v171 := Tryd.zeroValue144
  t173 := Tryd.underlying149
  a173 := Tryd.isAgg149
  z173 := Tryd.sizeOf149
  v173 := Tryd.zeroValue149
  t212 := Tryd.underlying153
  a212 := Tryd.isAgg153
  z212 := Tryd.sizeOf153
  v212 := Tryd.zeroValue153
  t213 := Tryd.underlying155
  a213 := Tryd.isAgg155
  z213 := Tryd.sizeOf155
  t232 := Tryd.underlying159
  a232 := Tryd.isAgg159
  z232 := Tryd.sizeOf159
  v232 := Tryd.zeroValue159
  t233 := Tryd.underlying160
  a233 := Tryd.isAgg160
  z233 := Tryd.sizeOf160
  v233 := Tryd.zeroValue160
  g17 := by kernel_rfl
  g18 := by kernel_rfl
  g19 := by kernel_rfl
  i0 := by kernel_rfl
  i2 := by kernel_rfl
  i3 := by kernel_rfl
  i4 := by kernel_rfl
  i5 := by kernel_rfl
  i9 := by kernel_rfl
  i20 := by kernel_rfl
  i37 := by kernel_rfl
  i46 := by kernel_rfl
  i51 := by kernel_rfl
  i53 := by kernel_rfl
  i171 := by kernel_rfl
  i173 := by kernel_rfl
  i212 := by kernel_rfl
  i232 := by kernel_rfl
  i233 := by kernel_rfl
  m17 := by kernel_rfl
  m18 := by kernel_rfl
  m19 := by kernel_rfl }
open Go.RowKit Go.Sort Go.Lib in
theorem shelf_Itoa (n : Int) (h0 : -9223372036854775808 ≤ n) (h1 : n ≤ 9223372036854775807) (w : World) (htab : Lib.TabIs Tryd.prog w "internal/strconv.uint64pow10" .u64 Lib.pow10Tab) :
    Calls Tryd.prog 81 #[.int .i64 n] w fun e w' => e = .returned (.string ⟨(Lib.itoa n).toArray⟩) ∧ ∃ k os, w' = grow (w.drewN k) os := Any.strconv_Itoa laysM171 n h0 h1 w htab

/-- The library's table of powers is laid. -/
def Tb (w : World) : Prop := Lib.TabIs Tryd.prog w "internal/strconv.uint64pow10" .u64 Lib.pow10Tab
open Go.RowKit in
theorem Tb.ext {w w' : World} (h : Tb w) (hb : Below w.heap.size w w') : Tb w' := Lib.tabBelow_of_tabIs h w' hb
open Go.RowKit in
theorem itoa_any (n : Nat) (h : n ≤ 9999) (w : World) (hT : Tb w) : Calls Tryd.prog 81 #[.int .i64 n] w fun e w' => e = .returned (.string ⟨(Lib.decDigits n).toArray⟩) ∧ Below w.heap.size w w' := by
  refine (shelf_Itoa n (by omega) (by omega) w hT).mono ?_
  rintro e w' ⟨rfl, k, os, rfl⟩
  refine ⟨?_, Lib.below_grow _ w (Nat.le_refl _) k os⟩
  unfold Lib.itoa
  rw [if_neg (by omega), show ((n : Int)).toNat = n by omega]
end Go.Proofs.YtfdceljdhgbkcaaDoor

/- digits: a number's digits, by strconv.Itoa. -/
namespace Go.Proofs.YtfdceljdhgbkcaaDoor
open Go.RowKit
theorem dec_dg : ∀ (f u : Nat), 0 < u → u < 10 ^ f → (Lib.decDigits u).map (fun b => (b.toNat : Int)) = dg f u
  | 0, u, h0, h => absurd h (by simp; omega)
  | f + 1, u, h0, h => by
    rw [dg, if_neg (by omega), Lib.decDigits]
    have hm := Nat.mod_lt u (show 10 > 0 by decide)
    split
    · rename_i h1
      rw [show u / 10 = 0 by omega, dg_zero, show u % 10 = u by omega]
      simp only [List.map_cons, List.map_nil, List.nil_append]
      congr 1
      rw [show (UInt8.ofNat (48 + u)).toNat = (48 + u) % 256 by simp]
      omega
    · rename_i h1
      rw [List.map_append, dec_dg f (u / 10) (by omega) (by rw [Nat.pow_succ] at h; omega)]
      congr 1
      simp only [List.map_cons, List.map_nil]
      congr 1
      rw [show (UInt8.ofNat (48 + u % 10)).toNat = (48 + u % 10) % 256 by simp]
      omega
/-- What holds of Itoa's text. -/
theorem itoa_text (n : Nat) (h0 : 0 < n) (h : n < 10 ^ 20) : ∃ s : ByteArray, s = ⟨(Lib.decDigits n).toArray⟩ ∧ s.size = (dg 20 n).length ∧ ∀ i (hi : i < s.size), (s[i]'hi).toNat < 128 ∧ (dg 20 n)[i]? = some ((s[i]'hi).toNat : Int) := by
  refine ⟨_, rfl, ?_, ?_⟩
  · rw [← dec_dg 20 n h0 h]
    simp [ByteArray.size]
  · intro i hi
    have e : (dg 20 n)[i]? = some (((⟨(Lib.decDigits n).toArray⟩ : ByteArray)[i]'hi).toNat : Int) := by
      rw [← dec_dg 20 n h0 h, List.getElem?_map]
      have hi2 : i < (Lib.decDigits n).length := by simpa [ByteArray.size] using hi
      rw [List.getElem?_eq_getElem hi2]
      rfl
    refine ⟨?_, e⟩
    have hm := dg_mem 20 n _ (List.mem_of_getElem? e)
    omega
set_option maxRecDepth 100000 in
set_option maxHeartbeats 4000000 in
theorem digits_any (n : Nat) (h0 : 0 < n) (h : n ≤ 9999) (w : World) (hT : Tb w) : Calls Tryd.prog 59 #[.int .i64 n] w fun e w' => ∃ v, e = .returned v ∧ OwnI w' w.heap.size v (dg 20 n) ∧ Below w.heap.size w w' := by
  have HI := hidIt (itoa_any n h w hT)
  obtain ⟨s, hs, hsz, hch⟩ := itoa_text n h0 (Nat.lt_of_le_of_lt h (by decide))
  rw [← hs] at HI
  have HCH := hidIt hch
  have HLN := hidIt (dg_len 20 n)
  generalize dg 20 n = zs at *
  have HSZ := hidIt hsz
  clear hs hch hsz hT h
  go_enter Tryd.func59, Tryd.ntmps59
  go_upto_region 3 with (go_at_call 81; refine HI.out.mono ?_; rintro e w1 ⟨rfl, hb1⟩; (try dsimp only); have HB1 := hidIt hb1; clear hb1)
  obtain ⟨w0, hw0⟩ : ∃ w0, w0 = w1.iter s 0 := ⟨_, rfl⟩
  rw [← hw0]
  have HK0 : Hid (w0.heap[w1.heap.size]? = some (.stringIter s 0)) := by unfold Hid; rw [hw0]; exact World.iter_heap _ _ _
  have HB0 : Hid (Below w.heap.size w w0) := by unfold Hid; rw [hw0]; exact HB1.out.alloc HB1.out.size _
  have HKW : Hid (w.heap.size ≤ w1.heap.size) := HB1.out.size
  clear hw0 HI HB1
  generalize w1.heap.size = k0 at *
  go_wp2_with fail
  go_loopw [3] (fun kv wr => ∃ (pos : Nat) (ao : Option Addr) (cu : Nat), pos ≤ s.size ∧ kv = .slice ao pos cu ∧ Hid (wr.heap[k0]? = some (.stringIter s pos)) ∧ Hid (OwnI wr (k0 + 1) (.slice ao pos cu) (zs.take pos)) ∧ Hid (Below w.heap.size w wr))
    (fun _ wr => s.size - wr.iterPos k0)
  case atStart => exact ⟨0, none, 0, Nat.zero_le _, rfl, HK0.out, OwnI.nil _ _, HB0.out⟩
  case round =>
    obtain ⟨pos, ao, cu, hps, rfl, HK, HO, HB⟩ := hrel
    have hmu : Hid (wr.iterPos k0 = pos) := by unfold Hid; have := HK.out; simp [World.iterPos, this]
    have hsl := (Array.getElem?_eq_some_iff.1 HK.out).1
    by_cases hp : pos < s.size
    · obtain ⟨h128, hz⟩ := HCH.out pos hp
      have hnext : ∀ ty, (Instr.next (.pointer (some ⟨k0, 0, none⟩)) true ty).run Tryd.prog wr = _ := fun ty => Lib.run_next_ascii_at wr k0 s pos ty HK.out hp h128
      generalize (s[pos]'hp).toNat = d at hnext h128 hz
      have HK1 := hidIt (Lib.iterAt_heap wr k0 s pos (pos + 1) HK.out)
      have HB1 : Hid (Below w.heap.size w (wr.iterAt k0 s (pos + 1))) := Lib.below_iterAt HB.out HKW.out s (pos + 1)
      have HO1 : Hid (OwnI (wr.iterAt k0 s (pos + 1)) (k0 + 1) (.slice ao pos cu) (zs.take pos)) := HO.out.stay (fun g hg => by
        have := (HO.out.blk hg).1
        simp only [World.iterAt]
        rw [Array.getElem?_setIfInBounds_ne (by omega)])
      have HS1 : Hid (k0 + 1 ≤ (wr.iterAt k0 s (pos + 1)).heap.size) := by unfold Hid; simp only [World.iterAt, Array.size_setIfInBounds]; omega
      have HT : Hid (zs.take (pos + 1) = zs.take pos ++ [(d : Int)]) := by unfold Hid; rw [List.take_add_one, hz]; rfl
      have HTL : Hid ((zs.take pos).length = pos ∧ pos ≤ 20) := by
        unfold Hid
        have h1 := HSZ.out
        have h2 := HLN.out
        rw [List.length_take]
        omega
      generalize wr.iterAt k0 s (pos + 1) = w1 at hnext HK1 HB1 HO1 HS1
      have hcv : IntKind.i64.wrap (d : Int) = d := by rw [IntKind.wrap_i64]; omega
      clear hz HO HB HK
      go_upto_region 5 with fail
      go_wp2_with (at_builtin; refine wpl_ints rfl _ _ 25 rfl (k0 + 1) Tryd.info_i64 Tryd.underlying25 _ (zs.take pos) rfl (HO1.out.ext (ext_alloc (Below.refl _ _) _)) _ [(d : Int)] rfl (own_lit1 _ _ _ HS1.out).rds (by have := HTL.out; rw [this.1]; simp; omega) (Nat.le_trans HS1.out (by simp)) ?_; intro v2 w2 own2 hb2; rw [← HT.out] at own2; obtain ⟨ao2, cu2, rfl, _⟩ := own2.rds.len; have HO2 := hidIt own2; have HBB := hidIt hb2; clear own2 hb2; (try dsimp only))
      have HKA : Hid ((w1.alloc (.cells #[.int .i64 (d : Int)] 3)).heap[k0]? = some (.stringIter s (pos + 1))) := ((MapKept.heap_alloc _ _).2 _ (by have := HS1.out; omega)).trans HK1.out
      have HK2 : Hid (w2.heap[k0]? = some (.stringIter s (pos + 1))) := (HBB.out.block _ (by omega)).trans HKA.out
      have HTK : Hid ((zs.take (pos + 1)).length = pos + 1) := by
        unfold Hid
        rw [HT.out, List.length_append, HTL.out.1]
        rfl
      go_roundw
      case rel =>
        rw [show min (pos + 1) zs.length = pos + 1 by have := HTK.out; rw [List.length_take] at this; exact this]
        exact ⟨pos + 1, ao2, cu2, by omega, rfl, HK2.out, by have := HO2.out; rw [HTK.out] at this; exact this, (ext_alloc HB1.out _).trans (HBB.out.mono (by have := HKW.out; omega))⟩
      case measure =>
        have hmu2 : w2.iterPos k0 = pos + 1 := by have := HK2.out; simp [World.iterPos, this]
        rw [hmu.out, hmu2]
        omega
    · have hnext : ∀ ty, (Instr.next (.pointer (some ⟨k0, 0, none⟩)) true ty).run Tryd.prog wr = _ := fun ty => Lib.run_next_end_at wr k0 s pos ty HK.out hp
      have HE : Hid (zs.take pos = zs) := by unfold Hid; exact List.take_of_length_le (by have := HSZ.out; omega)
      go_wp2_with fail
      go_ret
      refine ⟨_, rfl, ?_, HB.out⟩
      have := HO.out
      rw [HE.out] at this
      exact this.le (by have := HKW.out; omega)
end Go.Proofs.YtfdceljdhgbkcaaDoor
