/- turned, obeyed. -/
import Derived.Test.YtipnifenahhkoaaDoorFOrs
import Derived.OwnWalk
namespace Go.Proofs.YtipnifenahhkoaaDoor
open Go.RowKit

def I64 (a : Int) : Prop := -9223372036854775808 ≤ a ∧ a ≤ 9223372036854775807
set_option maxRecDepth 100000 in
theorem turned_any (a l : Int) (ha : I64 a) (w : World) (hT : Tabs w) : Calls Tryd.prog 21 #[.int .i64 a, .int .i64 l] w fun e w' => e = .returned (.int .i64 (tur a l)) ∧ Below w.heap.size w w' := by
  have HU := hidIt (Upper_any a ha.1 ha.2 w hT)
  have HL := hidIt (Lower_any a ha.1 ha.2 w hT)
  clear ha hT
  by_cases h1 : l = 117 ∨ l = 85
  · have HE : Hid (tur a l = Gx.up a) := by unfold Hid tur; rw [if_pos h1]
    rcases h1 with rfl | rfl
    all_goals
      go_enter Tryd.func21, Tryd.ntmps21
      go_wp2_with (go_at_call 30; refine HU.out.mono ?_; rintro e w1 ⟨rfl, hb1⟩; (try dsimp only); have HB1 := hidIt hb1; clear hb1)
      go_ret
      exact ⟨ret_int HE.out.symm, HB1.out⟩
  by_cases h2 : l = 108 ∨ l = 76
  · have HE : Hid (tur a l = Gx.lw a) := by unfold Hid tur; rw [if_neg h1, if_pos h2]
    clear h1
    rcases h2 with rfl | rfl
    all_goals
      go_enter Tryd.func21, Tryd.ntmps21
      go_wp2_with (go_at_call 31; refine HL.out.mono ?_; rintro e w1 ⟨rfl, hb1⟩; (try dsimp only); have HB1 := hidIt hb1; clear hb1)
      go_ret
      exact ⟨ret_int HE.out.symm, HB1.out⟩
  · have HE : Hid (tur a l = a) := by unfold Hid tur; rw [if_neg h1, if_neg h2]
    have n1 : (l == 117) = false := by simp; omega
    have n2 : (l == 85) = false := by simp; omega
    have n3 : (l == 108) = false := by simp; omega
    have n4 : (l == 76) = false := by simp; omega
    clear h1 h2
    go_enter Tryd.func21, Tryd.ntmps21
    go_wp2_with fail
    go_ret
    exact ⟨ret_int HE.out.symm, Below.refl _ _⟩
theorem oxs_at : ∀ (xs : List Ox) (i : Nat) (x : Ox), xs[i]? = some x → (oxs xs)[2 * i]? = some (.slice x.ga x.o.gives.length x.gc) ∧ (oxs xs)[2 * i + 1]? = some (.int .i64 x.o.letter)
  | [], i, x, h => by simp at h
  | y :: xs, 0, x, h => by cases h; exact ⟨rfl, rfl⟩
  | y :: xs, i + 1, x, h => by
    have := oxs_at xs i x (by simpa using h)
    unfold oxs at this ⊢
    rw [List.flatMap_cons]
    have e : (oxC y).length = 2 := rfl
    rw [List.getElem?_append_right (by omega), List.getElem?_append_right (by omega), e, show 2 * (i + 1) - 2 = 2 * i by omega, show 2 * (i + 1) + 1 - 2 = 2 * i + 1 by omega]
    exact this
theorem giv_step (once stay : Int) (g : List Int) (k : Nat) (hk : k < g.length) : (giv once stay g).take (k + 1) = (giv once stay g).take k ++ [if (if k = 0 then once else 0) ≠ 0 then tur (g[k]?.getD 0) (if k = 0 then once else 0) else tur (g[k]?.getD 0) stay] := by
  cases g with
  | nil => simp at hk
  | cons a r =>
    cases k with
    | zero => simp [giv]
    | succ k =>
      have hk' : k < r.length := by simpa using hk
      simp only [giv, List.take_succ_cons, List.cons_append]
      rw [List.take_add_one]
      simp [hk']
theorem siz_drop (os : List Od) (j : Nat) (o : Od) (h : os[j]? = some o) : siz (os.drop j) = o.gives.length + siz (os.drop (j + 1)) := by
  have hl := (List.getElem?_eq_some_iff.1 h)
  obtain ⟨hl, e⟩ := hl
  rw [List.drop_eq_getElem_cons hl, e]
  simp [siz]
theorem oby_drop (os : List Od) (j : Nat) (o : Od) (h : os[j]? = some o) (once stay : Int) : oby once stay (os.drop j) = giv (nxO once o.letter) (nxS stay o.letter) o.gives ++ oby (onc (nxO once o.letter) o.gives) (nxS stay o.letter) (os.drop (j + 1)) := by
  obtain ⟨hl, e⟩ := List.getElem?_eq_some_iff.1 h
  rw [List.drop_eq_getElem_cons hl, e]
  rfl
theorem one_i64 (x : Int) : ∀ u ∈ [Value.int .i64 x], u.oneCell' = true := by intro u hu; simp at hu; subst hu; rfl
theorem info_i64 : (Tryd.prog.info? 3).map (fun i => (i.zero, i.size, i.bytes)) = some (some (.int .i64 0), 1, 8) := by kernel_rfl
theorem below_push {w wr w' : World} {o : Obj} {e : TypeId} {size n : Nat} {v : Value} {xs : List Value} (hb : Below w.heap.size w wr) (hown : wr.ownsRow w.heap.size e size v n xs) (hg : (wr.alloc o).grownBy w' v.ownBlock) : Below w.heap.size w w' :=
  (ext_alloc hb o).grown hg (by have := hb.size; simp; omega) (fun k hk => (own_blk hown hk).1)
set_option maxRecDepth 100000 in
set_option maxHeartbeats 8000000 in
theorem obeyed_any {base lo : Nat} (w : World) (v : Value) (xs : List Ox) (hT : Tabs w) (h : OwnO w base lo v xs) (hx : xs.length ≤ 256) (hS : siz (xs.map Ox.o) ≤ 140000) (h64 : ∀ x ∈ xs, ∀ a ∈ x.o.gives, I64 a) :
    Calls Tryd.prog 15 #[v, .int .i64 (siz (xs.map Ox.o))] w fun e w' => ∃ v', e = .returned v' ∧ w'.ownsRow w.heap.size 3 1 v' (oby 0 0 (xs.map Ox.o)).length ((oby 0 0 (xs.map Ox.o)).map (Value.int .i64)) ∧ Below w.heap.size w w' := by
  obtain ⟨ra, rc, rfl⟩ := form_own h.1
  have HT := hidIt hT
  have HO := hidIt h
  have H64 := hidIt h64
  obtain ⟨i0, hi, hz0, hz1, hz2⟩ := info_parts info_i64
  have HLN := hidIt (oby_len (xs.map Ox.o) 0 0)
  obtain ⟨os, hos⟩ : ∃ os, os = xs.map Ox.o := ⟨_, rfl⟩
  rw [← hos] at hS HLN ⊢
  have HOS := hidIt hos
  clear hT h h64 hos
  generalize hSS : siz os = S at *
  have HSS := hidIt hSS
  clear hSS
  go_enter Tryd.func15, Tryd.ntmps15
  go_upto_region 2 with (refine wpList_make_own _ rfl _ _ 22 rfl w.heap.size 3 i0 (.int .i64 0) 1 Tryd.underlying22 hi hz0 hz1 .i64 .i64 _ S rfl rfl rfl (by rw [hz2]; omega) (by unfold maxLen; omega) (Nat.le_refl _) ?_; intro w1 own1 hg1; have OW1 := hidIt own1; have HB1 : Hid (Below w.heap.size w w1) := ⟨hg1.os, hg1.tape, hg1.output, hg1.size, fun k hk => hg1.block k hk (by intro e; cases e)⟩; clear own1 hg1)
  go_wp2_with fail
  go_loopw [5, 6, 7, 16] (fun out o s i wr => ∃ (j : Nat) (once stay : Int) (L : List Int), j ≤ xs.length ∧ o = .int .i64 once ∧ s = .int .i64 stay ∧ i = .int .i64 j ∧ Hid (wr.ownsRow w.heap.size 3 1 out L.length (L.map (Value.int .i64))) ∧ Hid (oby 0 0 os = L ++ oby once stay (os.drop j)) ∧ Hid (L.length + siz (os.drop j) = S) ∧ Hid (Below w.heap.size w wr)) (fun _ _ _ i _ => xs.length - (intOf i).toNat)
  case atStart => exact ⟨0, 0, 0, [], Nat.zero_le _, rfl, rfl, rfl, OW1.out, rfl, (by unfold Hid; rw [List.drop_zero, HSS.out]; simp), HB1.out⟩
  case round =>
    obtain ⟨j, once, stay, L, hj, rfl, rfl, rfl, OW, HOE, HSE, HB⟩ := hrel
    clear OW1 HB1
    by_cases hjl : j < xs.length
    · have hd1 : decide ((j : Int) < (xs.length : Int)) = true := by simp; omega
      have hji : (j : Int) < (xs.length : Int) := by omega
      obtain ⟨x, hxj⟩ : ∃ x, xs[j]? = some x := ⟨_, List.getElem?_eq_getElem hjl⟩
      have HXJ : Hid (os[j]? = some x.o) := by unfold Hid; rw [HOS.out, List.getElem?_map, hxj]; rfl
      obtain ⟨rb, _, hrv, _⟩ : ∃ rb cap, Value.slice ra xs.length rc = .slice (some ⟨rb, 0, none⟩) xs.length cap ∧ True := by
        rcases HO.out.1.2 with ⟨e, e2⟩ | ⟨g, cap, cur, e, _⟩
        · omega
        · exact ⟨g, cap, e, trivial⟩
      cases hrv
      have hrow := (HO.out.ext HB.out).1
      obtain ⟨t0, t1⟩ := oxs_at xs j x hxj
      have c0 : wr.cell? ⟨rb, j * 2, none⟩ = some (.slice x.ga x.o.gives.length x.gc) := by rw [hrow.cellAt (j * 2) (by omega), show j * 2 = 2 * j by omega]; exact t0
      have c1 : wr.cell? ⟨rb, j * 2 + 1, none⟩ = some (.int .i64 x.o.letter) := by rw [hrow.cellAt (j * 2 + 1) (by omega), show j * 2 + 1 = 2 * j + 1 by omega]; exact t1
      have HGV := hidIt (HO.out.2 x (List.mem_of_getElem? hxj))
      have HG64 := hidIt (H64.out x (List.mem_of_getElem? hxj))
      have HSD := hidIt (siz_drop os j x.o HXJ.out)
      clear hrow t0 t1 hxj
      have HS0 : Hid (S ≤ 140000) := hS
      obtain ⟨yb, hyb, kyb, byb⟩ : ∃ yb, yb = wr.alloc (.cells #[.slice x.ga x.o.gives.length x.gc, .int .i64 x.o.letter] 51) ∧ yb.heap[wr.heap.size]? = some (.cells #[.slice x.ga x.o.gives.length x.gc, .int .i64 x.o.letter] 51 (0, 0)) ∧ Below wr.heap.size wr yb := ⟨_, rfl, heap_alloc_new _ _, ext_alloc (Below.refl _ _) _⟩
      go_upto_region 6 with fail
      rw [← hyb]
      obtain ⟨e0, e1⟩ := cells2 kyb
      have HBY := hidIt (ext_trans HB.out byb)
      have OWY : Hid (yb.ownsRow w.heap.size 3 1 u5 L.length (L.map (Value.int .i64))) := own_stay OW.out (fun g e => byb.block g (own_lt OW.out e))
      clear hyb byb kyb c0 c1 OW HB
      obtain ⟨⟨g, l⟩, ga, gc⟩ := x
      dsimp only at *
      by_cases q117 : l = 117
      · subst q117
        go_upto_region 14 with fail
        have HOB : Hid (oby once stay (os.drop j) = giv (117 : Int) stay g ++ oby (onc (117 : Int) g) stay (os.drop (j + 1))) := by
          have := oby_drop os j _ HXJ.out once stay
          rw [show nxO once 117 = (117 : Int) by simp [nxO], show nxS stay 117 = stay by simp [nxS]] at this
          exact this
        go_wp2_with fail
        go_loopw [5, 6, 36] (fun out o i wq => ∃ k : Nat, k ≤ g.length ∧ i = .int .i64 k ∧ o = .int .i64 (if k = 0 then (117 : Int) else 0) ∧ Hid (wq.ownsRow w.heap.size 3 1 out (L ++ (giv (117 : Int) stay g).take k).length ((L ++ (giv (117 : Int) stay g).take k).map (Value.int .i64))) ∧ Hid (Below w.heap.size w wq)) (fun _ _ i _ => g.length - (intOf i).toNat)
        case atStart => exact ⟨0, Nat.zero_le _, rfl, rfl, by unfold Hid; rw [List.take_zero, List.append_nil]; exact OWY.out, HBY.out⟩
        case round =>
          obtain ⟨k, hk, rfl, rfl, OQ0, HBQ0⟩ := hrel
          clear OWY
          have HLL : Hid ((L ++ (giv (117 : Int) stay g).take k).length + (g.length - k) ≤ 140000) := by
            have h1 := HSE.out
            have h2 := HSD.out
            have h3 := giv_len (117 : Int) stay g
            unfold Hid
            rw [List.length_append, List.length_take]
            try dsimp only at h2
            have h5 := HS0.out
            omega
          have hg14 : g.length ≤ 140000 := by have h1 := HSE.out; have h2 := HSD.out; have h5 := HS0.out; omega
          by_cases hkl : k < g.length
          · have hd2 : decide ((k : Int) < (g.length : Int)) = true := by simp; omega
            have hki : (k : Int) < (g.length : Int) := by omega
            obtain ⟨ao, cp, hv, _, _, hc3⟩ := HGV.out.1
            cases hv
            obtain ⟨gb, go, rfl, hgb, hcl⟩ := hc3 (List.length_pos_iff.1 (by omega))
            have ck : wr.cell? ⟨gb, go + k, none⟩ = some (.int .i64 (g[k]?.getD 0)) := (HBQ0.out.cell (p := ⟨gb, go + k, none⟩) hgb).trans (hcl k hkl)
            have HST := hidIt (giv_step (117 : Int) stay g k hkl)
            have HA64 : Hid (I64 (g[k]?.getD 0)) := by
              unfold Hid
              rw [List.getElem?_eq_getElem hkl]
              exact HG64.out _ (List.getElem_mem hkl)
            generalize g[k]?.getD 0 = a at *
            generalize hoc : (if k = 0 then (117 : Int) else 0) = oc at *
            have HOC := hidIt hoc
            clear hoc hcl hc3
            by_cases h0 : oc = 0
            · have q0 : (oc != 0) = false := by simp [h0]
              have HNX : Hid ((if k + 1 = 0 then (117 : Int) else 0) = oc) := by unfold Hid; rw [if_neg (by omega), h0]
              unfold Hid at HST
              rw [if_neg (by simp [h0])] at HST
              replace HST := hidIt HST
              clear h0
              have HTU : Hid (∀ y, Below w.heap.size w y → Calls Tryd.prog 21 #[.int .i64 a, .int .i64 stay] y fun e w' => e = .returned (.int .i64 (tur a stay)) ∧ Below y.heap.size y w') := fun y hb => turned_any a stay HA64.out y (HT.out.ext hb)
              have HST2 : Hid ((L ++ (giv (117 : Int) stay g).take k) ++ [(tur a stay)] = L ++ (giv (117 : Int) stay g).take (k + 1)) := by
                unfold Hid
                rw [List.append_assoc, HST.out]
              clear HST
              generalize L ++ (giv (117 : Int) stay g).take k = L1 at *
              generalize (tur a stay) = tv at *
              go_wp2_with (first | (go_at_call 21; refine (HTU.out _ HBQ0.out).mono ?_; rintro e u1 ⟨rfl, hb1⟩; (try dsimp only); have HBQ := hidIt (ext_trans HBQ0.out hb1); have OQ := hidIt (own_stay OQ0.out (fun g e => hb1.block g (own_lt OQ0.out e))); clear hb1) | (at_builtin; refine wpList_append_own _ rfl _ _ 22 rfl w.heap.size 3 i0 (.int .i64 0) 1 8 Tryd.underlying22 hi hz0 hz1 hz2 rfl (by decide) _ _ _ rfl (OQ.out.alloc _) ⟨u1.heap.size, 0, none⟩ 1 1 [.int .i64 tv] rfl rfl (cell_one_new _ _ _) (one_i64 _) (by have := HLL.out; unfold maxLen; omega) (by have := HLL.out; omega) (by have := HBQ.out.size; simp; omega) ?_; intro v9 w9 own9 hg9 hx9; have OV := hidIt own9; have HB9 := hidIt (below_push HBQ.out OQ.out hg9); clear own9 hg9 hx9; (try dsimp only)))
              go_roundw
              case rel => exact ⟨k + 1, by omega, by go_num, by rw [HNX.out], by unfold Hid; rw [← HST2.out, List.length_append, List.map_append]; exact OV.out, HB9.out⟩
              case measure => simp [intOf]; omega
            · have q0 : (oc != 0) = true := by simp [h0]
              have HNX : Hid ((if k + 1 = 0 then (117 : Int) else 0) = (0 : Int)) := by unfold Hid; rw [if_neg (by omega)]
              unfold Hid at HST
              rw [if_pos (by simpa using h0)] at HST
              replace HST := hidIt HST
              clear h0
              have HTU : Hid (∀ y, Below w.heap.size w y → Calls Tryd.prog 21 #[.int .i64 a, .int .i64 oc] y fun e w' => e = .returned (.int .i64 (tur a oc)) ∧ Below y.heap.size y w') := fun y hb => turned_any a oc HA64.out y (HT.out.ext hb)
              have HST2 : Hid ((L ++ (giv (117 : Int) stay g).take k) ++ [(tur a oc)] = L ++ (giv (117 : Int) stay g).take (k + 1)) := by
                unfold Hid
                rw [List.append_assoc, HST.out]
              clear HST
              generalize L ++ (giv (117 : Int) stay g).take k = L1 at *
              generalize (tur a oc) = tv at *
              go_wp2_with (first | (go_at_call 21; refine (HTU.out _ HBQ0.out).mono ?_; rintro e u1 ⟨rfl, hb1⟩; (try dsimp only); have HBQ := hidIt (ext_trans HBQ0.out hb1); have OQ := hidIt (own_stay OQ0.out (fun g e => hb1.block g (own_lt OQ0.out e))); clear hb1) | (at_builtin; refine wpList_append_own _ rfl _ _ 22 rfl w.heap.size 3 i0 (.int .i64 0) 1 8 Tryd.underlying22 hi hz0 hz1 hz2 rfl (by decide) _ _ _ rfl (OQ.out.alloc _) ⟨u1.heap.size, 0, none⟩ 1 1 [.int .i64 tv] rfl rfl (cell_one_new _ _ _) (one_i64 _) (by have := HLL.out; unfold maxLen; omega) (by have := HLL.out; omega) (by have := HBQ.out.size; simp; omega) ?_; intro v9 w9 own9 hg9 hx9; have OV := hidIt own9; have HB9 := hidIt (below_push HBQ.out OQ.out hg9); clear own9 hg9 hx9; (try dsimp only)))
              go_roundw
              case rel => exact ⟨k + 1, by omega, by go_num, by rw [HNX.out], by unfold Hid; rw [← HST2.out, List.length_append, List.map_append]; exact OV.out, HB9.out⟩
              case measure => simp [intOf]; omega
          · obtain rfl : k = g.length := by omega
            have hd2 : decide ((g.length : Int) < (g.length : Int)) = false := by simp
            have HFI : Hid (L ++ (giv (117 : Int) stay g).take g.length = L ++ giv (117 : Int) stay g) := by
              unfold Hid
              rw [List.take_of_length_le (by rw [giv_len]; exact Nat.le_refl _)]
            rw [HFI.out] at OQ0
            have HON : Hid ((if g.length = 0 then (117 : Int) else 0) = onc (117 : Int) g) := by
              unfold Hid onc
              cases g <;> simp
            generalize (if g.length = 0 then (117 : Int) else 0) = oc at *
            go_wp2_with fail
            go_roundw
            case rel =>
              refine ⟨j + 1, oc, stay, L ++ giv (117 : Int) stay g, by omega, rfl, rfl, by go_num, OQ0.out, ?_, ?_, HBQ0.out⟩
              · unfold Hid
                rw [HOE.out, HOB.out, HON.out, List.append_assoc]
              · have h1 := HSE.out
                have h2 := HSD.out
                have h3 := giv_len (117 : Int) stay g
                unfold Hid
                rw [List.length_append]
                try dsimp only at h2
                omega
            case measure => simp [intOf]; omega
      by_cases q108 : l = 108
      · subst q108
        go_upto_region 14 with fail
        have HOB : Hid (oby once stay (os.drop j) = giv (108 : Int) stay g ++ oby (onc (108 : Int) g) stay (os.drop (j + 1))) := by
          have := oby_drop os j _ HXJ.out once stay
          rw [show nxO once 108 = (108 : Int) by simp [nxO], show nxS stay 108 = stay by simp [nxS]] at this
          exact this
        go_wp2_with fail
        go_loopw [5, 6, 36] (fun out o i wq => ∃ k : Nat, k ≤ g.length ∧ i = .int .i64 k ∧ o = .int .i64 (if k = 0 then (108 : Int) else 0) ∧ Hid (wq.ownsRow w.heap.size 3 1 out (L ++ (giv (108 : Int) stay g).take k).length ((L ++ (giv (108 : Int) stay g).take k).map (Value.int .i64))) ∧ Hid (Below w.heap.size w wq)) (fun _ _ i _ => g.length - (intOf i).toNat)
        case atStart => exact ⟨0, Nat.zero_le _, rfl, rfl, by unfold Hid; rw [List.take_zero, List.append_nil]; exact OWY.out, HBY.out⟩
        case round =>
          obtain ⟨k, hk, rfl, rfl, OQ0, HBQ0⟩ := hrel
          clear OWY
          have HLL : Hid ((L ++ (giv (108 : Int) stay g).take k).length + (g.length - k) ≤ 140000) := by
            have h1 := HSE.out
            have h2 := HSD.out
            have h3 := giv_len (108 : Int) stay g
            unfold Hid
            rw [List.length_append, List.length_take]
            try dsimp only at h2
            have h5 := HS0.out
            omega
          have hg14 : g.length ≤ 140000 := by have h1 := HSE.out; have h2 := HSD.out; have h5 := HS0.out; omega
          by_cases hkl : k < g.length
          · have hd2 : decide ((k : Int) < (g.length : Int)) = true := by simp; omega
            have hki : (k : Int) < (g.length : Int) := by omega
            obtain ⟨ao, cp, hv, _, _, hc3⟩ := HGV.out.1
            cases hv
            obtain ⟨gb, go, rfl, hgb, hcl⟩ := hc3 (List.length_pos_iff.1 (by omega))
            have ck : wr.cell? ⟨gb, go + k, none⟩ = some (.int .i64 (g[k]?.getD 0)) := (HBQ0.out.cell (p := ⟨gb, go + k, none⟩) hgb).trans (hcl k hkl)
            have HST := hidIt (giv_step (108 : Int) stay g k hkl)
            have HA64 : Hid (I64 (g[k]?.getD 0)) := by
              unfold Hid
              rw [List.getElem?_eq_getElem hkl]
              exact HG64.out _ (List.getElem_mem hkl)
            generalize g[k]?.getD 0 = a at *
            generalize hoc : (if k = 0 then (108 : Int) else 0) = oc at *
            have HOC := hidIt hoc
            clear hoc hcl hc3
            by_cases h0 : oc = 0
            · have q0 : (oc != 0) = false := by simp [h0]
              have HNX : Hid ((if k + 1 = 0 then (108 : Int) else 0) = oc) := by unfold Hid; rw [if_neg (by omega), h0]
              unfold Hid at HST
              rw [if_neg (by simp [h0])] at HST
              replace HST := hidIt HST
              clear h0
              have HTU : Hid (∀ y, Below w.heap.size w y → Calls Tryd.prog 21 #[.int .i64 a, .int .i64 stay] y fun e w' => e = .returned (.int .i64 (tur a stay)) ∧ Below y.heap.size y w') := fun y hb => turned_any a stay HA64.out y (HT.out.ext hb)
              have HST2 : Hid ((L ++ (giv (108 : Int) stay g).take k) ++ [(tur a stay)] = L ++ (giv (108 : Int) stay g).take (k + 1)) := by
                unfold Hid
                rw [List.append_assoc, HST.out]
              clear HST
              generalize L ++ (giv (108 : Int) stay g).take k = L1 at *
              generalize (tur a stay) = tv at *
              go_wp2_with (first | (go_at_call 21; refine (HTU.out _ HBQ0.out).mono ?_; rintro e u1 ⟨rfl, hb1⟩; (try dsimp only); have HBQ := hidIt (ext_trans HBQ0.out hb1); have OQ := hidIt (own_stay OQ0.out (fun g e => hb1.block g (own_lt OQ0.out e))); clear hb1) | (at_builtin; refine wpList_append_own _ rfl _ _ 22 rfl w.heap.size 3 i0 (.int .i64 0) 1 8 Tryd.underlying22 hi hz0 hz1 hz2 rfl (by decide) _ _ _ rfl (OQ.out.alloc _) ⟨u1.heap.size, 0, none⟩ 1 1 [.int .i64 tv] rfl rfl (cell_one_new _ _ _) (one_i64 _) (by have := HLL.out; unfold maxLen; omega) (by have := HLL.out; omega) (by have := HBQ.out.size; simp; omega) ?_; intro v9 w9 own9 hg9 hx9; have OV := hidIt own9; have HB9 := hidIt (below_push HBQ.out OQ.out hg9); clear own9 hg9 hx9; (try dsimp only)))
              go_roundw
              case rel => exact ⟨k + 1, by omega, by go_num, by rw [HNX.out], by unfold Hid; rw [← HST2.out, List.length_append, List.map_append]; exact OV.out, HB9.out⟩
              case measure => simp [intOf]; omega
            · have q0 : (oc != 0) = true := by simp [h0]
              have HNX : Hid ((if k + 1 = 0 then (108 : Int) else 0) = (0 : Int)) := by unfold Hid; rw [if_neg (by omega)]
              unfold Hid at HST
              rw [if_pos (by simpa using h0)] at HST
              replace HST := hidIt HST
              clear h0
              have HTU : Hid (∀ y, Below w.heap.size w y → Calls Tryd.prog 21 #[.int .i64 a, .int .i64 oc] y fun e w' => e = .returned (.int .i64 (tur a oc)) ∧ Below y.heap.size y w') := fun y hb => turned_any a oc HA64.out y (HT.out.ext hb)
              have HST2 : Hid ((L ++ (giv (108 : Int) stay g).take k) ++ [(tur a oc)] = L ++ (giv (108 : Int) stay g).take (k + 1)) := by
                unfold Hid
                rw [List.append_assoc, HST.out]
              clear HST
              generalize L ++ (giv (108 : Int) stay g).take k = L1 at *
              generalize (tur a oc) = tv at *
              go_wp2_with (first | (go_at_call 21; refine (HTU.out _ HBQ0.out).mono ?_; rintro e u1 ⟨rfl, hb1⟩; (try dsimp only); have HBQ := hidIt (ext_trans HBQ0.out hb1); have OQ := hidIt (own_stay OQ0.out (fun g e => hb1.block g (own_lt OQ0.out e))); clear hb1) | (at_builtin; refine wpList_append_own _ rfl _ _ 22 rfl w.heap.size 3 i0 (.int .i64 0) 1 8 Tryd.underlying22 hi hz0 hz1 hz2 rfl (by decide) _ _ _ rfl (OQ.out.alloc _) ⟨u1.heap.size, 0, none⟩ 1 1 [.int .i64 tv] rfl rfl (cell_one_new _ _ _) (one_i64 _) (by have := HLL.out; unfold maxLen; omega) (by have := HLL.out; omega) (by have := HBQ.out.size; simp; omega) ?_; intro v9 w9 own9 hg9 hx9; have OV := hidIt own9; have HB9 := hidIt (below_push HBQ.out OQ.out hg9); clear own9 hg9 hx9; (try dsimp only)))
              go_roundw
              case rel => exact ⟨k + 1, by omega, by go_num, by rw [HNX.out], by unfold Hid; rw [← HST2.out, List.length_append, List.map_append]; exact OV.out, HB9.out⟩
              case measure => simp [intOf]; omega
          · obtain rfl : k = g.length := by omega
            have hd2 : decide ((g.length : Int) < (g.length : Int)) = false := by simp
            have HFI : Hid (L ++ (giv (108 : Int) stay g).take g.length = L ++ giv (108 : Int) stay g) := by
              unfold Hid
              rw [List.take_of_length_le (by rw [giv_len]; exact Nat.le_refl _)]
            rw [HFI.out] at OQ0
            have HON : Hid ((if g.length = 0 then (108 : Int) else 0) = onc (108 : Int) g) := by
              unfold Hid onc
              cases g <;> simp
            generalize (if g.length = 0 then (108 : Int) else 0) = oc at *
            go_wp2_with fail
            go_roundw
            case rel =>
              refine ⟨j + 1, oc, stay, L ++ giv (108 : Int) stay g, by omega, rfl, rfl, by go_num, OQ0.out, ?_, ?_, HBQ0.out⟩
              · unfold Hid
                rw [HOE.out, HOB.out, HON.out, List.append_assoc]
              · have h1 := HSE.out
                have h2 := HSD.out
                have h3 := giv_len (108 : Int) stay g
                unfold Hid
                rw [List.length_append]
                try dsimp only at h2
                omega
            case measure => simp [intOf]; omega
      by_cases q85 : l = 85
      · subst q85
        go_upto_region 14 with fail
        have HOB : Hid (oby once stay (os.drop j) = giv once (85 : Int) g ++ oby (onc once g) (85 : Int) (os.drop (j + 1))) := by
          have := oby_drop os j _ HXJ.out once stay
          rw [show nxO once 85 = once by simp [nxO], show nxS stay 85 = (85 : Int) by simp [nxS]] at this
          exact this
        go_wp2_with fail
        go_loopw [5, 6, 36] (fun out o i wq => ∃ k : Nat, k ≤ g.length ∧ i = .int .i64 k ∧ o = .int .i64 (if k = 0 then once else 0) ∧ Hid (wq.ownsRow w.heap.size 3 1 out (L ++ (giv once (85 : Int) g).take k).length ((L ++ (giv once (85 : Int) g).take k).map (Value.int .i64))) ∧ Hid (Below w.heap.size w wq)) (fun _ _ i _ => g.length - (intOf i).toNat)
        case atStart => exact ⟨0, Nat.zero_le _, rfl, rfl, by unfold Hid; rw [List.take_zero, List.append_nil]; exact OWY.out, HBY.out⟩
        case round =>
          obtain ⟨k, hk, rfl, rfl, OQ0, HBQ0⟩ := hrel
          clear OWY
          have HLL : Hid ((L ++ (giv once (85 : Int) g).take k).length + (g.length - k) ≤ 140000) := by
            have h1 := HSE.out
            have h2 := HSD.out
            have h3 := giv_len once (85 : Int) g
            unfold Hid
            rw [List.length_append, List.length_take]
            try dsimp only at h2
            have h5 := HS0.out
            omega
          have hg14 : g.length ≤ 140000 := by have h1 := HSE.out; have h2 := HSD.out; have h5 := HS0.out; omega
          by_cases hkl : k < g.length
          · have hd2 : decide ((k : Int) < (g.length : Int)) = true := by simp; omega
            have hki : (k : Int) < (g.length : Int) := by omega
            obtain ⟨ao, cp, hv, _, _, hc3⟩ := HGV.out.1
            cases hv
            obtain ⟨gb, go, rfl, hgb, hcl⟩ := hc3 (List.length_pos_iff.1 (by omega))
            have ck : wr.cell? ⟨gb, go + k, none⟩ = some (.int .i64 (g[k]?.getD 0)) := (HBQ0.out.cell (p := ⟨gb, go + k, none⟩) hgb).trans (hcl k hkl)
            have HST := hidIt (giv_step once (85 : Int) g k hkl)
            have HA64 : Hid (I64 (g[k]?.getD 0)) := by
              unfold Hid
              rw [List.getElem?_eq_getElem hkl]
              exact HG64.out _ (List.getElem_mem hkl)
            generalize g[k]?.getD 0 = a at *
            generalize hoc : (if k = 0 then once else 0) = oc at *
            have HOC := hidIt hoc
            clear hoc hcl hc3
            by_cases h0 : oc = 0
            · have q0 : (oc != 0) = false := by simp [h0]
              have HNX : Hid ((if k + 1 = 0 then once else 0) = oc) := by unfold Hid; rw [if_neg (by omega), h0]
              unfold Hid at HST
              rw [if_neg (by simp [h0])] at HST
              replace HST := hidIt HST
              clear h0
              have HTU : Hid (∀ y, Below w.heap.size w y → Calls Tryd.prog 21 #[.int .i64 a, .int .i64 (85 : Int)] y fun e w' => e = .returned (.int .i64 (tur a (85 : Int))) ∧ Below y.heap.size y w') := fun y hb => turned_any a (85 : Int) HA64.out y (HT.out.ext hb)
              have HST2 : Hid ((L ++ (giv once (85 : Int) g).take k) ++ [(tur a (85 : Int))] = L ++ (giv once (85 : Int) g).take (k + 1)) := by
                unfold Hid
                rw [List.append_assoc, HST.out]
              clear HST
              generalize L ++ (giv once (85 : Int) g).take k = L1 at *
              generalize (tur a (85 : Int)) = tv at *
              go_wp2_with (first | (go_at_call 21; refine (HTU.out _ HBQ0.out).mono ?_; rintro e u1 ⟨rfl, hb1⟩; (try dsimp only); have HBQ := hidIt (ext_trans HBQ0.out hb1); have OQ := hidIt (own_stay OQ0.out (fun g e => hb1.block g (own_lt OQ0.out e))); clear hb1) | (at_builtin; refine wpList_append_own _ rfl _ _ 22 rfl w.heap.size 3 i0 (.int .i64 0) 1 8 Tryd.underlying22 hi hz0 hz1 hz2 rfl (by decide) _ _ _ rfl (OQ.out.alloc _) ⟨u1.heap.size, 0, none⟩ 1 1 [.int .i64 tv] rfl rfl (cell_one_new _ _ _) (one_i64 _) (by have := HLL.out; unfold maxLen; omega) (by have := HLL.out; omega) (by have := HBQ.out.size; simp; omega) ?_; intro v9 w9 own9 hg9 hx9; have OV := hidIt own9; have HB9 := hidIt (below_push HBQ.out OQ.out hg9); clear own9 hg9 hx9; (try dsimp only)))
              go_roundw
              case rel => exact ⟨k + 1, by omega, by go_num, by rw [HNX.out], by unfold Hid; rw [← HST2.out, List.length_append, List.map_append]; exact OV.out, HB9.out⟩
              case measure => simp [intOf]; omega
            · have q0 : (oc != 0) = true := by simp [h0]
              have HNX : Hid ((if k + 1 = 0 then once else 0) = (0 : Int)) := by unfold Hid; rw [if_neg (by omega)]
              unfold Hid at HST
              rw [if_pos (by simpa using h0)] at HST
              replace HST := hidIt HST
              clear h0
              have HTU : Hid (∀ y, Below w.heap.size w y → Calls Tryd.prog 21 #[.int .i64 a, .int .i64 oc] y fun e w' => e = .returned (.int .i64 (tur a oc)) ∧ Below y.heap.size y w') := fun y hb => turned_any a oc HA64.out y (HT.out.ext hb)
              have HST2 : Hid ((L ++ (giv once (85 : Int) g).take k) ++ [(tur a oc)] = L ++ (giv once (85 : Int) g).take (k + 1)) := by
                unfold Hid
                rw [List.append_assoc, HST.out]
              clear HST
              generalize L ++ (giv once (85 : Int) g).take k = L1 at *
              generalize (tur a oc) = tv at *
              go_wp2_with (first | (go_at_call 21; refine (HTU.out _ HBQ0.out).mono ?_; rintro e u1 ⟨rfl, hb1⟩; (try dsimp only); have HBQ := hidIt (ext_trans HBQ0.out hb1); have OQ := hidIt (own_stay OQ0.out (fun g e => hb1.block g (own_lt OQ0.out e))); clear hb1) | (at_builtin; refine wpList_append_own _ rfl _ _ 22 rfl w.heap.size 3 i0 (.int .i64 0) 1 8 Tryd.underlying22 hi hz0 hz1 hz2 rfl (by decide) _ _ _ rfl (OQ.out.alloc _) ⟨u1.heap.size, 0, none⟩ 1 1 [.int .i64 tv] rfl rfl (cell_one_new _ _ _) (one_i64 _) (by have := HLL.out; unfold maxLen; omega) (by have := HLL.out; omega) (by have := HBQ.out.size; simp; omega) ?_; intro v9 w9 own9 hg9 hx9; have OV := hidIt own9; have HB9 := hidIt (below_push HBQ.out OQ.out hg9); clear own9 hg9 hx9; (try dsimp only)))
              go_roundw
              case rel => exact ⟨k + 1, by omega, by go_num, by rw [HNX.out], by unfold Hid; rw [← HST2.out, List.length_append, List.map_append]; exact OV.out, HB9.out⟩
              case measure => simp [intOf]; omega
          · obtain rfl : k = g.length := by omega
            have hd2 : decide ((g.length : Int) < (g.length : Int)) = false := by simp
            have HFI : Hid (L ++ (giv once (85 : Int) g).take g.length = L ++ giv once (85 : Int) g) := by
              unfold Hid
              rw [List.take_of_length_le (by rw [giv_len]; exact Nat.le_refl _)]
            rw [HFI.out] at OQ0
            have HON : Hid ((if g.length = 0 then once else 0) = onc once g) := by
              unfold Hid onc
              cases g <;> simp
            generalize (if g.length = 0 then once else 0) = oc at *
            go_wp2_with fail
            go_roundw
            case rel =>
              refine ⟨j + 1, oc, (85 : Int), L ++ giv once (85 : Int) g, by omega, rfl, rfl, by go_num, OQ0.out, ?_, ?_, HBQ0.out⟩
              · unfold Hid
                rw [HOE.out, HOB.out, HON.out, List.append_assoc]
              · have h1 := HSE.out
                have h2 := HSD.out
                have h3 := giv_len once (85 : Int) g
                unfold Hid
                rw [List.length_append]
                try dsimp only at h2
                omega
            case measure => simp [intOf]; omega
      by_cases q76 : l = 76
      · subst q76
        go_upto_region 14 with fail
        have HOB : Hid (oby once stay (os.drop j) = giv once (76 : Int) g ++ oby (onc once g) (76 : Int) (os.drop (j + 1))) := by
          have := oby_drop os j _ HXJ.out once stay
          rw [show nxO once 76 = once by simp [nxO], show nxS stay 76 = (76 : Int) by simp [nxS]] at this
          exact this
        go_wp2_with fail
        go_loopw [5, 6, 36] (fun out o i wq => ∃ k : Nat, k ≤ g.length ∧ i = .int .i64 k ∧ o = .int .i64 (if k = 0 then once else 0) ∧ Hid (wq.ownsRow w.heap.size 3 1 out (L ++ (giv once (76 : Int) g).take k).length ((L ++ (giv once (76 : Int) g).take k).map (Value.int .i64))) ∧ Hid (Below w.heap.size w wq)) (fun _ _ i _ => g.length - (intOf i).toNat)
        case atStart => exact ⟨0, Nat.zero_le _, rfl, rfl, by unfold Hid; rw [List.take_zero, List.append_nil]; exact OWY.out, HBY.out⟩
        case round =>
          obtain ⟨k, hk, rfl, rfl, OQ0, HBQ0⟩ := hrel
          clear OWY
          have HLL : Hid ((L ++ (giv once (76 : Int) g).take k).length + (g.length - k) ≤ 140000) := by
            have h1 := HSE.out
            have h2 := HSD.out
            have h3 := giv_len once (76 : Int) g
            unfold Hid
            rw [List.length_append, List.length_take]
            try dsimp only at h2
            have h5 := HS0.out
            omega
          have hg14 : g.length ≤ 140000 := by have h1 := HSE.out; have h2 := HSD.out; have h5 := HS0.out; omega
          by_cases hkl : k < g.length
          · have hd2 : decide ((k : Int) < (g.length : Int)) = true := by simp; omega
            have hki : (k : Int) < (g.length : Int) := by omega
            obtain ⟨ao, cp, hv, _, _, hc3⟩ := HGV.out.1
            cases hv
            obtain ⟨gb, go, rfl, hgb, hcl⟩ := hc3 (List.length_pos_iff.1 (by omega))
            have ck : wr.cell? ⟨gb, go + k, none⟩ = some (.int .i64 (g[k]?.getD 0)) := (HBQ0.out.cell (p := ⟨gb, go + k, none⟩) hgb).trans (hcl k hkl)
            have HST := hidIt (giv_step once (76 : Int) g k hkl)
            have HA64 : Hid (I64 (g[k]?.getD 0)) := by
              unfold Hid
              rw [List.getElem?_eq_getElem hkl]
              exact HG64.out _ (List.getElem_mem hkl)
            generalize g[k]?.getD 0 = a at *
            generalize hoc : (if k = 0 then once else 0) = oc at *
            have HOC := hidIt hoc
            clear hoc hcl hc3
            by_cases h0 : oc = 0
            · have q0 : (oc != 0) = false := by simp [h0]
              have HNX : Hid ((if k + 1 = 0 then once else 0) = oc) := by unfold Hid; rw [if_neg (by omega), h0]
              unfold Hid at HST
              rw [if_neg (by simp [h0])] at HST
              replace HST := hidIt HST
              clear h0
              have HTU : Hid (∀ y, Below w.heap.size w y → Calls Tryd.prog 21 #[.int .i64 a, .int .i64 (76 : Int)] y fun e w' => e = .returned (.int .i64 (tur a (76 : Int))) ∧ Below y.heap.size y w') := fun y hb => turned_any a (76 : Int) HA64.out y (HT.out.ext hb)
              have HST2 : Hid ((L ++ (giv once (76 : Int) g).take k) ++ [(tur a (76 : Int))] = L ++ (giv once (76 : Int) g).take (k + 1)) := by
                unfold Hid
                rw [List.append_assoc, HST.out]
              clear HST
              generalize L ++ (giv once (76 : Int) g).take k = L1 at *
              generalize (tur a (76 : Int)) = tv at *
              go_wp2_with (first | (go_at_call 21; refine (HTU.out _ HBQ0.out).mono ?_; rintro e u1 ⟨rfl, hb1⟩; (try dsimp only); have HBQ := hidIt (ext_trans HBQ0.out hb1); have OQ := hidIt (own_stay OQ0.out (fun g e => hb1.block g (own_lt OQ0.out e))); clear hb1) | (at_builtin; refine wpList_append_own _ rfl _ _ 22 rfl w.heap.size 3 i0 (.int .i64 0) 1 8 Tryd.underlying22 hi hz0 hz1 hz2 rfl (by decide) _ _ _ rfl (OQ.out.alloc _) ⟨u1.heap.size, 0, none⟩ 1 1 [.int .i64 tv] rfl rfl (cell_one_new _ _ _) (one_i64 _) (by have := HLL.out; unfold maxLen; omega) (by have := HLL.out; omega) (by have := HBQ.out.size; simp; omega) ?_; intro v9 w9 own9 hg9 hx9; have OV := hidIt own9; have HB9 := hidIt (below_push HBQ.out OQ.out hg9); clear own9 hg9 hx9; (try dsimp only)))
              go_roundw
              case rel => exact ⟨k + 1, by omega, by go_num, by rw [HNX.out], by unfold Hid; rw [← HST2.out, List.length_append, List.map_append]; exact OV.out, HB9.out⟩
              case measure => simp [intOf]; omega
            · have q0 : (oc != 0) = true := by simp [h0]
              have HNX : Hid ((if k + 1 = 0 then once else 0) = (0 : Int)) := by unfold Hid; rw [if_neg (by omega)]
              unfold Hid at HST
              rw [if_pos (by simpa using h0)] at HST
              replace HST := hidIt HST
              clear h0
              have HTU : Hid (∀ y, Below w.heap.size w y → Calls Tryd.prog 21 #[.int .i64 a, .int .i64 oc] y fun e w' => e = .returned (.int .i64 (tur a oc)) ∧ Below y.heap.size y w') := fun y hb => turned_any a oc HA64.out y (HT.out.ext hb)
              have HST2 : Hid ((L ++ (giv once (76 : Int) g).take k) ++ [(tur a oc)] = L ++ (giv once (76 : Int) g).take (k + 1)) := by
                unfold Hid
                rw [List.append_assoc, HST.out]
              clear HST
              generalize L ++ (giv once (76 : Int) g).take k = L1 at *
              generalize (tur a oc) = tv at *
              go_wp2_with (first | (go_at_call 21; refine (HTU.out _ HBQ0.out).mono ?_; rintro e u1 ⟨rfl, hb1⟩; (try dsimp only); have HBQ := hidIt (ext_trans HBQ0.out hb1); have OQ := hidIt (own_stay OQ0.out (fun g e => hb1.block g (own_lt OQ0.out e))); clear hb1) | (at_builtin; refine wpList_append_own _ rfl _ _ 22 rfl w.heap.size 3 i0 (.int .i64 0) 1 8 Tryd.underlying22 hi hz0 hz1 hz2 rfl (by decide) _ _ _ rfl (OQ.out.alloc _) ⟨u1.heap.size, 0, none⟩ 1 1 [.int .i64 tv] rfl rfl (cell_one_new _ _ _) (one_i64 _) (by have := HLL.out; unfold maxLen; omega) (by have := HLL.out; omega) (by have := HBQ.out.size; simp; omega) ?_; intro v9 w9 own9 hg9 hx9; have OV := hidIt own9; have HB9 := hidIt (below_push HBQ.out OQ.out hg9); clear own9 hg9 hx9; (try dsimp only)))
              go_roundw
              case rel => exact ⟨k + 1, by omega, by go_num, by rw [HNX.out], by unfold Hid; rw [← HST2.out, List.length_append, List.map_append]; exact OV.out, HB9.out⟩
              case measure => simp [intOf]; omega
          · obtain rfl : k = g.length := by omega
            have hd2 : decide ((g.length : Int) < (g.length : Int)) = false := by simp
            have HFI : Hid (L ++ (giv once (76 : Int) g).take g.length = L ++ giv once (76 : Int) g) := by
              unfold Hid
              rw [List.take_of_length_le (by rw [giv_len]; exact Nat.le_refl _)]
            rw [HFI.out] at OQ0
            have HON : Hid ((if g.length = 0 then once else 0) = onc once g) := by
              unfold Hid onc
              cases g <;> simp
            generalize (if g.length = 0 then once else 0) = oc at *
            go_wp2_with fail
            go_roundw
            case rel =>
              refine ⟨j + 1, oc, (76 : Int), L ++ giv once (76 : Int) g, by omega, rfl, rfl, by go_num, OQ0.out, ?_, ?_, HBQ0.out⟩
              · unfold Hid
                rw [HOE.out, HOB.out, HON.out, List.append_assoc]
              · have h1 := HSE.out
                have h2 := HSD.out
                have h3 := giv_len once (76 : Int) g
                unfold Hid
                rw [List.length_append]
                try dsimp only at h2
                omega
            case measure => simp [intOf]; omega
      by_cases q69 : l = 69
      · subst q69
        go_upto_region 14 with fail
        have HOB : Hid (oby once stay (os.drop j) = giv once (69 : Int) g ++ oby (onc once g) (69 : Int) (os.drop (j + 1))) := by
          have := oby_drop os j _ HXJ.out once stay
          rw [show nxO once 69 = once by simp [nxO], show nxS stay 69 = (69 : Int) by simp [nxS]] at this
          exact this
        go_wp2_with fail
        go_loopw [5, 6, 36] (fun out o i wq => ∃ k : Nat, k ≤ g.length ∧ i = .int .i64 k ∧ o = .int .i64 (if k = 0 then once else 0) ∧ Hid (wq.ownsRow w.heap.size 3 1 out (L ++ (giv once (69 : Int) g).take k).length ((L ++ (giv once (69 : Int) g).take k).map (Value.int .i64))) ∧ Hid (Below w.heap.size w wq)) (fun _ _ i _ => g.length - (intOf i).toNat)
        case atStart => exact ⟨0, Nat.zero_le _, rfl, rfl, by unfold Hid; rw [List.take_zero, List.append_nil]; exact OWY.out, HBY.out⟩
        case round =>
          obtain ⟨k, hk, rfl, rfl, OQ0, HBQ0⟩ := hrel
          clear OWY
          have HLL : Hid ((L ++ (giv once (69 : Int) g).take k).length + (g.length - k) ≤ 140000) := by
            have h1 := HSE.out
            have h2 := HSD.out
            have h3 := giv_len once (69 : Int) g
            unfold Hid
            rw [List.length_append, List.length_take]
            try dsimp only at h2
            have h5 := HS0.out
            omega
          have hg14 : g.length ≤ 140000 := by have h1 := HSE.out; have h2 := HSD.out; have h5 := HS0.out; omega
          by_cases hkl : k < g.length
          · have hd2 : decide ((k : Int) < (g.length : Int)) = true := by simp; omega
            have hki : (k : Int) < (g.length : Int) := by omega
            obtain ⟨ao, cp, hv, _, _, hc3⟩ := HGV.out.1
            cases hv
            obtain ⟨gb, go, rfl, hgb, hcl⟩ := hc3 (List.length_pos_iff.1 (by omega))
            have ck : wr.cell? ⟨gb, go + k, none⟩ = some (.int .i64 (g[k]?.getD 0)) := (HBQ0.out.cell (p := ⟨gb, go + k, none⟩) hgb).trans (hcl k hkl)
            have HST := hidIt (giv_step once (69 : Int) g k hkl)
            have HA64 : Hid (I64 (g[k]?.getD 0)) := by
              unfold Hid
              rw [List.getElem?_eq_getElem hkl]
              exact HG64.out _ (List.getElem_mem hkl)
            generalize g[k]?.getD 0 = a at *
            generalize hoc : (if k = 0 then once else 0) = oc at *
            have HOC := hidIt hoc
            clear hoc hcl hc3
            by_cases h0 : oc = 0
            · have q0 : (oc != 0) = false := by simp [h0]
              have HNX : Hid ((if k + 1 = 0 then once else 0) = oc) := by unfold Hid; rw [if_neg (by omega), h0]
              unfold Hid at HST
              rw [if_neg (by simp [h0])] at HST
              replace HST := hidIt HST
              clear h0
              have HTU : Hid (∀ y, Below w.heap.size w y → Calls Tryd.prog 21 #[.int .i64 a, .int .i64 (69 : Int)] y fun e w' => e = .returned (.int .i64 (tur a (69 : Int))) ∧ Below y.heap.size y w') := fun y hb => turned_any a (69 : Int) HA64.out y (HT.out.ext hb)
              have HST2 : Hid ((L ++ (giv once (69 : Int) g).take k) ++ [(tur a (69 : Int))] = L ++ (giv once (69 : Int) g).take (k + 1)) := by
                unfold Hid
                rw [List.append_assoc, HST.out]
              clear HST
              generalize L ++ (giv once (69 : Int) g).take k = L1 at *
              generalize (tur a (69 : Int)) = tv at *
              go_wp2_with (first | (go_at_call 21; refine (HTU.out _ HBQ0.out).mono ?_; rintro e u1 ⟨rfl, hb1⟩; (try dsimp only); have HBQ := hidIt (ext_trans HBQ0.out hb1); have OQ := hidIt (own_stay OQ0.out (fun g e => hb1.block g (own_lt OQ0.out e))); clear hb1) | (at_builtin; refine wpList_append_own _ rfl _ _ 22 rfl w.heap.size 3 i0 (.int .i64 0) 1 8 Tryd.underlying22 hi hz0 hz1 hz2 rfl (by decide) _ _ _ rfl (OQ.out.alloc _) ⟨u1.heap.size, 0, none⟩ 1 1 [.int .i64 tv] rfl rfl (cell_one_new _ _ _) (one_i64 _) (by have := HLL.out; unfold maxLen; omega) (by have := HLL.out; omega) (by have := HBQ.out.size; simp; omega) ?_; intro v9 w9 own9 hg9 hx9; have OV := hidIt own9; have HB9 := hidIt (below_push HBQ.out OQ.out hg9); clear own9 hg9 hx9; (try dsimp only)))
              go_roundw
              case rel => exact ⟨k + 1, by omega, by go_num, by rw [HNX.out], by unfold Hid; rw [← HST2.out, List.length_append, List.map_append]; exact OV.out, HB9.out⟩
              case measure => simp [intOf]; omega
            · have q0 : (oc != 0) = true := by simp [h0]
              have HNX : Hid ((if k + 1 = 0 then once else 0) = (0 : Int)) := by unfold Hid; rw [if_neg (by omega)]
              unfold Hid at HST
              rw [if_pos (by simpa using h0)] at HST
              replace HST := hidIt HST
              clear h0
              have HTU : Hid (∀ y, Below w.heap.size w y → Calls Tryd.prog 21 #[.int .i64 a, .int .i64 oc] y fun e w' => e = .returned (.int .i64 (tur a oc)) ∧ Below y.heap.size y w') := fun y hb => turned_any a oc HA64.out y (HT.out.ext hb)
              have HST2 : Hid ((L ++ (giv once (69 : Int) g).take k) ++ [(tur a oc)] = L ++ (giv once (69 : Int) g).take (k + 1)) := by
                unfold Hid
                rw [List.append_assoc, HST.out]
              clear HST
              generalize L ++ (giv once (69 : Int) g).take k = L1 at *
              generalize (tur a oc) = tv at *
              go_wp2_with (first | (go_at_call 21; refine (HTU.out _ HBQ0.out).mono ?_; rintro e u1 ⟨rfl, hb1⟩; (try dsimp only); have HBQ := hidIt (ext_trans HBQ0.out hb1); have OQ := hidIt (own_stay OQ0.out (fun g e => hb1.block g (own_lt OQ0.out e))); clear hb1) | (at_builtin; refine wpList_append_own _ rfl _ _ 22 rfl w.heap.size 3 i0 (.int .i64 0) 1 8 Tryd.underlying22 hi hz0 hz1 hz2 rfl (by decide) _ _ _ rfl (OQ.out.alloc _) ⟨u1.heap.size, 0, none⟩ 1 1 [.int .i64 tv] rfl rfl (cell_one_new _ _ _) (one_i64 _) (by have := HLL.out; unfold maxLen; omega) (by have := HLL.out; omega) (by have := HBQ.out.size; simp; omega) ?_; intro v9 w9 own9 hg9 hx9; have OV := hidIt own9; have HB9 := hidIt (below_push HBQ.out OQ.out hg9); clear own9 hg9 hx9; (try dsimp only)))
              go_roundw
              case rel => exact ⟨k + 1, by omega, by go_num, by rw [HNX.out], by unfold Hid; rw [← HST2.out, List.length_append, List.map_append]; exact OV.out, HB9.out⟩
              case measure => simp [intOf]; omega
          · obtain rfl : k = g.length := by omega
            have hd2 : decide ((g.length : Int) < (g.length : Int)) = false := by simp
            have HFI : Hid (L ++ (giv once (69 : Int) g).take g.length = L ++ giv once (69 : Int) g) := by
              unfold Hid
              rw [List.take_of_length_le (by rw [giv_len]; exact Nat.le_refl _)]
            rw [HFI.out] at OQ0
            have HON : Hid ((if g.length = 0 then once else 0) = onc once g) := by
              unfold Hid onc
              cases g <;> simp
            generalize (if g.length = 0 then once else 0) = oc at *
            go_wp2_with fail
            go_roundw
            case rel =>
              refine ⟨j + 1, oc, (69 : Int), L ++ giv once (69 : Int) g, by omega, rfl, rfl, by go_num, OQ0.out, ?_, ?_, HBQ0.out⟩
              · unfold Hid
                rw [HOE.out, HOB.out, HON.out, List.append_assoc]
              · have h1 := HSE.out
                have h2 := HSD.out
                have h3 := giv_len once (69 : Int) g
                unfold Hid
                rw [List.length_append]
                try dsimp only at h2
                omega
            case measure => simp [intOf]; omega
      have m1 : (l == 117) = false := by simpa using q117
      have m2 : (l == 108) = false := by simpa using q108
      have m3 : (l == 85) = false := by simpa using q85
      have m4 : (l == 76) = false := by simpa using q76
      have m5 : (l == 69) = false := by simpa using q69
      have x1 : nxO once l = once := by unfold nxO; rw [if_neg (by omega)]
      have x2 : nxS stay l = stay := by unfold nxS; rw [if_neg (by omega)]
      have HXX : Hid (nxO once l = once ∧ nxS stay l = stay) := ⟨x1, x2⟩
      clear q117 q108 q85 q76 q69 x1 x2
      go_upto_region 14 with fail
      have HOB : Hid (oby once stay (os.drop j) = giv once stay g ++ oby (onc once g) stay (os.drop (j + 1))) := by
        have := oby_drop os j _ HXJ.out once stay
        rw [HXX.out.1, HXX.out.2] at this
        exact this
      go_wp2_with fail
      go_loopw [5, 6, 36] (fun out o i wq => ∃ k : Nat, k ≤ g.length ∧ i = .int .i64 k ∧ o = .int .i64 (if k = 0 then once else 0) ∧ Hid (wq.ownsRow w.heap.size 3 1 out (L ++ (giv once stay g).take k).length ((L ++ (giv once stay g).take k).map (Value.int .i64))) ∧ Hid (Below w.heap.size w wq)) (fun _ _ i _ => g.length - (intOf i).toNat)
      case atStart => exact ⟨0, Nat.zero_le _, rfl, rfl, by unfold Hid; rw [List.take_zero, List.append_nil]; exact OWY.out, HBY.out⟩
      case round =>
        obtain ⟨k, hk, rfl, rfl, OQ0, HBQ0⟩ := hrel
        clear OWY
        have HLL : Hid ((L ++ (giv once stay g).take k).length + (g.length - k) ≤ 140000) := by
          have h1 := HSE.out
          have h2 := HSD.out
          have h3 := giv_len once stay g
          unfold Hid
          rw [List.length_append, List.length_take]
          try dsimp only at h2
          have h5 := HS0.out
          omega
        have hg14 : g.length ≤ 140000 := by have h1 := HSE.out; have h2 := HSD.out; have h5 := HS0.out; omega
        by_cases hkl : k < g.length
        · have hd2 : decide ((k : Int) < (g.length : Int)) = true := by simp; omega
          have hki : (k : Int) < (g.length : Int) := by omega
          obtain ⟨ao, cp, hv, _, _, hc3⟩ := HGV.out.1
          cases hv
          obtain ⟨gb, go, rfl, hgb, hcl⟩ := hc3 (List.length_pos_iff.1 (by omega))
          have ck : wr.cell? ⟨gb, go + k, none⟩ = some (.int .i64 (g[k]?.getD 0)) := (HBQ0.out.cell (p := ⟨gb, go + k, none⟩) hgb).trans (hcl k hkl)
          have HST := hidIt (giv_step once stay g k hkl)
          have HA64 : Hid (I64 (g[k]?.getD 0)) := by
            unfold Hid
            rw [List.getElem?_eq_getElem hkl]
            exact HG64.out _ (List.getElem_mem hkl)
          generalize g[k]?.getD 0 = a at *
          generalize hoc : (if k = 0 then once else 0) = oc at *
          have HOC := hidIt hoc
          clear hoc hcl hc3
          by_cases h0 : oc = 0
          · have q0 : (oc != 0) = false := by simp [h0]
            have HNX : Hid ((if k + 1 = 0 then once else 0) = oc) := by unfold Hid; rw [if_neg (by omega), h0]
            unfold Hid at HST
            rw [if_neg (by simp [h0])] at HST
            replace HST := hidIt HST
            clear h0
            have HTU : Hid (∀ y, Below w.heap.size w y → Calls Tryd.prog 21 #[.int .i64 a, .int .i64 stay] y fun e w' => e = .returned (.int .i64 (tur a stay)) ∧ Below y.heap.size y w') := fun y hb => turned_any a stay HA64.out y (HT.out.ext hb)
            have HST2 : Hid ((L ++ (giv once stay g).take k) ++ [(tur a stay)] = L ++ (giv once stay g).take (k + 1)) := by
              unfold Hid
              rw [List.append_assoc, HST.out]
            clear HST
            generalize L ++ (giv once stay g).take k = L1 at *
            generalize (tur a stay) = tv at *
            go_wp2_with (first | (go_at_call 21; refine (HTU.out _ HBQ0.out).mono ?_; rintro e u1 ⟨rfl, hb1⟩; (try dsimp only); have HBQ := hidIt (ext_trans HBQ0.out hb1); have OQ := hidIt (own_stay OQ0.out (fun g e => hb1.block g (own_lt OQ0.out e))); clear hb1) | (at_builtin; refine wpList_append_own _ rfl _ _ 22 rfl w.heap.size 3 i0 (.int .i64 0) 1 8 Tryd.underlying22 hi hz0 hz1 hz2 rfl (by decide) _ _ _ rfl (OQ.out.alloc _) ⟨u1.heap.size, 0, none⟩ 1 1 [.int .i64 tv] rfl rfl (cell_one_new _ _ _) (one_i64 _) (by have := HLL.out; unfold maxLen; omega) (by have := HLL.out; omega) (by have := HBQ.out.size; simp; omega) ?_; intro v9 w9 own9 hg9 hx9; have OV := hidIt own9; have HB9 := hidIt (below_push HBQ.out OQ.out hg9); clear own9 hg9 hx9; (try dsimp only)))
            go_roundw
            case rel => exact ⟨k + 1, by omega, by go_num, by rw [HNX.out], by unfold Hid; rw [← HST2.out, List.length_append, List.map_append]; exact OV.out, HB9.out⟩
            case measure => simp [intOf]; omega
          · have q0 : (oc != 0) = true := by simp [h0]
            have HNX : Hid ((if k + 1 = 0 then once else 0) = (0 : Int)) := by unfold Hid; rw [if_neg (by omega)]
            unfold Hid at HST
            rw [if_pos (by simpa using h0)] at HST
            replace HST := hidIt HST
            clear h0
            have HTU : Hid (∀ y, Below w.heap.size w y → Calls Tryd.prog 21 #[.int .i64 a, .int .i64 oc] y fun e w' => e = .returned (.int .i64 (tur a oc)) ∧ Below y.heap.size y w') := fun y hb => turned_any a oc HA64.out y (HT.out.ext hb)
            have HST2 : Hid ((L ++ (giv once stay g).take k) ++ [(tur a oc)] = L ++ (giv once stay g).take (k + 1)) := by
              unfold Hid
              rw [List.append_assoc, HST.out]
            clear HST
            generalize L ++ (giv once stay g).take k = L1 at *
            generalize (tur a oc) = tv at *
            go_wp2_with (first | (go_at_call 21; refine (HTU.out _ HBQ0.out).mono ?_; rintro e u1 ⟨rfl, hb1⟩; (try dsimp only); have HBQ := hidIt (ext_trans HBQ0.out hb1); have OQ := hidIt (own_stay OQ0.out (fun g e => hb1.block g (own_lt OQ0.out e))); clear hb1) | (at_builtin; refine wpList_append_own _ rfl _ _ 22 rfl w.heap.size 3 i0 (.int .i64 0) 1 8 Tryd.underlying22 hi hz0 hz1 hz2 rfl (by decide) _ _ _ rfl (OQ.out.alloc _) ⟨u1.heap.size, 0, none⟩ 1 1 [.int .i64 tv] rfl rfl (cell_one_new _ _ _) (one_i64 _) (by have := HLL.out; unfold maxLen; omega) (by have := HLL.out; omega) (by have := HBQ.out.size; simp; omega) ?_; intro v9 w9 own9 hg9 hx9; have OV := hidIt own9; have HB9 := hidIt (below_push HBQ.out OQ.out hg9); clear own9 hg9 hx9; (try dsimp only)))
            go_roundw
            case rel => exact ⟨k + 1, by omega, by go_num, by rw [HNX.out], by unfold Hid; rw [← HST2.out, List.length_append, List.map_append]; exact OV.out, HB9.out⟩
            case measure => simp [intOf]; omega
        · obtain rfl : k = g.length := by omega
          have hd2 : decide ((g.length : Int) < (g.length : Int)) = false := by simp
          have HFI : Hid (L ++ (giv once stay g).take g.length = L ++ giv once stay g) := by
            unfold Hid
            rw [List.take_of_length_le (by rw [giv_len]; exact Nat.le_refl _)]
          rw [HFI.out] at OQ0
          have HON : Hid ((if g.length = 0 then once else 0) = onc once g) := by
            unfold Hid onc
            cases g <;> simp
          generalize (if g.length = 0 then once else 0) = oc at *
          go_wp2_with fail
          go_roundw
          case rel =>
            refine ⟨j + 1, oc, stay, L ++ giv once stay g, by omega, rfl, rfl, by go_num, OQ0.out, ?_, ?_, HBQ0.out⟩
            · unfold Hid
              rw [HOE.out, HOB.out, HON.out, List.append_assoc]
            · have h1 := HSE.out
              have h2 := HSD.out
              have h3 := giv_len once stay g
              unfold Hid
              rw [List.length_append]
              try dsimp only at h2
              omega
          case measure => simp [intOf]; omega
    · obtain rfl : j = xs.length := by omega
      have hd1 : decide ((xs.length : Int) < (xs.length : Int)) = false := by simp
      have HFE : Hid (oby 0 0 os = L) := by
        unfold Hid
        rw [HOE.out, List.drop_eq_nil_of_le (by rw [HOS.out, List.length_map]; exact Nat.le_refl _)]
        simp [oby]
      go_wp2_with fail
      go_ret
      refine ⟨_, rfl, ?_, HB.out⟩
      rw [HFE.out]
      exact OW.out
end Go.Proofs.YtipnifenahhkoaaDoor
