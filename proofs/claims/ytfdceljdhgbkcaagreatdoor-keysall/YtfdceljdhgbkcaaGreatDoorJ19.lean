import Derived.Test.YtfdceljdhgbkcaaGreatDoorJ16
import Derived.Test.YtfdceljdhgbkcaaGreatDoorJ04
import Derived.Test.YtfdceljdhgbkcaaGreatDoorJ18
import Derived.Test.YtfdceljdhgbkcaaGreatDoorJ06
import Derived.Test.YtfdceljdhgbkcaaGreatDoorJ17
/- targets: an operator's rows with all that may stand behind it. -/
namespace Go.Proofs.YtfdceljdhgbkcaaGreatDoor
open Go.RowKit
/-- A row of rows, one of them. -/
theorem OwnW.at {w : World} {base : Nat} {ao : Option Addr} {n cap : Nat} {xs : List (Rw × Value)} (h : OwnW w base (.slice ao n cap) xs) {p : Nat} (hp : p < xs.length) :
    n = xs.length ∧ n ≤ cap ∧ ∃ g, ao = some ⟨g, 0, none⟩ ∧ ∃ x, xs[p]? = some x ∧ KI w x.2 x.1.ks ∧ w.cell? ⟨g, p * 5, none⟩ = some (.int .i64 x.1.b.v) ∧ w.cell? ⟨g, p * 5 + 1, none⟩ = some (.int .i64 x.1.b.m) ∧ w.cell? ⟨g, p * 5 + 2, none⟩ = some (.int .i64 x.1.b.a) ∧ w.cell? ⟨g, p * 5 + 3, none⟩ = some (.int .i64 x.1.b.t) ∧ w.cell? ⟨g, p * 5 + 4, none⟩ = some x.2 := by
  obtain ⟨⟨ao', cap', e, r1, r2, r3⟩, hacc, _⟩ := h.rd
  injection e with e1 e2 e3
  have hne : xs ≠ [] := by intro e; subst e; simp at hp
  obtain ⟨b, off, e4, hb, hc⟩ := r3 hne
  have h0 : off = 0 := by
    rcases h.1.2 with ⟨e5, _⟩ | ⟨g, cp, cur, e5, _⟩
    · injection e5 with e6 _ _
      rw [← e1, e6] at e4
      cases e4
    · injection e5 with e6 _ _
      rw [← e1, e6] at e4
      cases e4
      rfl
  subst h0
  have hat := fr_at xs p xs[p] (List.getElem?_eq_getElem hp)
  have hcc : ∀ r u, r < 5 → (rcs xs[p])[r]? = some u → w.cell? ⟨b, p * 5 + r, none⟩ = some u := fun r u hr hu => by
    have := hc (p * 5 + r) u ((hat r hr).trans hu)
    rwa [Nat.zero_add] at this
  exact ⟨e2, by omega, b, e1.trans e4, xs[p], List.getElem?_eq_getElem hp, hacc _ (List.getElem_mem hp), hcc 0 _ (by omega) rfl, hcc 1 _ (by omega) rfl, hcc 2 _ (by omega) rfl, hcc 3 _ (by omega) rfl, hcc 4 _ (by omega) rfl⟩
/-- Rows that are answered. -/
def RwP (w w' : World) (L : List Rw) (e : Ending) : Prop := ∃ v xs, e = .returned v ∧ OwnW w' w.heap.size v xs ∧ Hid (xs.map Prod.fst = L) ∧ Below w.heap.size w w'
theorem OwnW.blk {w : World} {base : Nat} {v : Value} {xs : List (Rw × Value)} (h : OwnW w base v xs) {k : Nat} (hk : v.ownBlock = some k) : base ≤ k ∧ k < w.heap.size := World.ownsRow.lt h.1 k hk
/-- append(v, s...), of rows, in a region that draws: which block has turned. -/
theorem wp_append_rowsB {W : World} {op : Oper} {a : Act} {K : Act → World → Prop} {Q : Exit → Act → World → Prop} (s x : Operand) (ho : op.op = .call { callee := .builtin .append, args := #[s, x], argTypes := #[58, 58] })
    (base : Nat) (v : Value) (xs : List (Rw × Value)) (hs : a.eval s = v) (hown : OwnW W base v xs) (u : Value) (ys : List (Rw × Value)) (hx : a.eval x = u) (hu : RdW W u ys) (hl : (xs.length + ys.length) * 56 ≤ 140737488355328) (hbase : base ≤ W.heap.size)
    (h : ∀ v' w', OwnW w' base v' (xs ++ ys) → Below base W w' → W.grownBy w' v.ownBlock → K (a.put op.dst v') w') : op.wp Tryz.prog a W K Q := by
  obtain ⟨v', w', hrun, h1, h2, h3⟩ := run_append_rows W op.type base v xs hown u ys hu hl hbase
  unfold Oper.wp execOp
  simp only [ho, resolve, invoke, builtin, Sem.run_bind, Sem.run_pure, Result.andThen_ok, List.map_toArray, List.map_cons, List.map_nil, hs, hx, hrun]
  exact h v' w' h1 h2 h3
theorem row2 {y : World} {a b : Value} {xs ys : List Int} (T : TypeId) (ha : RdS y a xs) (hb : RdS y b ys) : Row (y.alloc (.cells #[a, b] T)) y.heap.size [(a, xs), (b, ys)] := by
  have e : Below y.heap.size y (y.alloc (.cells #[a, b] T)) := ext_alloc (Below.refl _ _) _
  refine ⟨by simp, fun i p hp => ?_⟩
  rw [cell_of_row _ _ i _ _ _ (heap_alloc_new _ _)]
  rcases i with _ | _ | i
  · cases hp; exact ⟨rfl, ha.ext e⟩
  · cases hp; exact ⟨rfl, hb.ext e⟩
  · simp at hp
theorem cat2 (a b : Value) (xs ys : List Int) : cat [(a, xs), (b, ys)] = xs ++ ys := by simp [cat]
theorem concat2 {y W : World} {a b : Value} {xs ys : List Int} (T : TypeId) (hW : Below (y.alloc (.cells #[a, b] T)).heap.size (y.alloc (.cells #[a, b] T)) W) (ha : RdS y a xs) (hb : RdS y b ys) (hn : ys ≠ []) (hx : xs.length + ys.length ≤ 1000) :
    Calls Tryz.prog 74 #[.slice (some ⟨y.heap.size, 0, none⟩) 2 2] W fun e w' => ∃ v, e = .returned v ∧ OwnI w' y.heap.size v (xs ++ ys) ∧ Below y.heap.size y w' := by
  have hl : (cat [(a, xs), (b, ys)]).length = xs.length + ys.length := by rw [cat2, List.length_append]
  have hz : 0 < ys.length := List.length_pos_iff.2 hn
  have hs := hW.size
  rw [World.size_alloc] at hs
  refine (concat_any y.heap.size [(a, xs), (b, ys)] _ ((row2 T ha hb).ext hW) (by simp) (by omega) (by omega)).mono ?_
  rintro e w' ⟨v, rfl, ho, hb2⟩
  rw [cat2] at ho
  exact ⟨v, rfl, ho.le (by omega), (ext_trans (ext_alloc (Below.refl _ _) _ : Below y.heap.size y _) hW).trans (hb2.mono (by omega))⟩
theorem OwnI.ki {w : World} {base : Nat} {v : Value} {zs : List Int} (h : OwnI w base v zs) : KI w v zs := by
  refine ⟨h.rds, fun a n c e => ?_⟩
  rcases h.2 with ⟨e2, _⟩ | ⟨g, cap, cur, e2, _, hg, _⟩
  · rw [e2] at e; cases e
  · rw [e2] at e; cases e; exact ⟨cur, _, hg⟩
theorem tk_flt {L : List Rw} {p : Nat} {x t : Rw} (h : L[p]? = some t) : (L.take (p + 1)).filterMap (tgF x) = (L.take p).filterMap (tgF x) ++ (tgF x t).toList := by
  rw [List.take_add_one, h, List.filterMap_append]
  cases e : tgF x t <;> simp [e]
set_option maxRecDepth 100000 in
set_option maxHeartbeats 8000000 in
theorem targets_any (bv bm ba bt : Int) (ks : List Int) (kv : Value) (w : World) (hki : KI w kv ks) (_hne : ks ≠ []) (hkl : ks.length ≤ 100) :
    Calls Tryz.prog 51 #[.agg #[.int .i64 bv, .int .i64 bm, .int .i64 ba, .int .i64 bt, kv]] w fun e w' => RwP w w' (tgs ⟨⟨bv, bm, ba, bt⟩, ks⟩) e := by
  obtain ⟨ka, kc, rfl, _⟩ := hki.1.len
  have HX := hidIt (show tgs ⟨⟨bv, bm, ba, bt⟩, ks⟩ = tTar.filterMap (tgF ⟨⟨bv, bm, ba, bt⟩, ks⟩) from rfl)
  have HTL : Hid (tTar.length ≤ 200) := lenNT.2.2
  have HKT : Hid (∀ r ∈ tTar, r.ks ≠ [] ∧ r.ks.length ≤ 2) := keysT
  have HTR := hidIt (fun w => targetRows_any w)
  generalize tTar = TT at HX HTL HKT HTR
  have HTF : Hid (∀ t : Rw, tgF ⟨⟨bv, bm, ba, bt⟩, ks⟩ t = (bhd t.b bv).map fun b => ⟨b, ks ++ t.ks⟩) := fun t => rfl
  generalize hXX : (⟨⟨bv, bm, ba, bt⟩, ks⟩ : Rw) = X at HX HTF
  clear hXX
  obtain ⟨w0, hw0⟩ : ∃ w0, w0 = w.alloc (.cells #[.int .i64 bv, .int .i64 bm, .int .i64 ba, .int .i64 bt, .slice ka ks.length kc] 64) := ⟨_, rfl⟩
  have HB0 : Hid (Below w.heap.size w w0) := by unfold Hid; rw [hw0]; exact ext_alloc (Below.refl _ _) _
  have HR0 : Hid (w0.heap[w.heap.size]? = some (.cells #[.int .i64 bv, .int .i64 bm, .int .i64 ba, .int .i64 bt, .slice ka ks.length kc] 64 (0, 0))) := by unfold Hid; rw [hw0]; exact heap_alloc_new _ _
  have HKI := hidIt hki
  clear hki
  go_enter Tryz.func51, Tryz.ntmps51
  go_upto_region 1 with fail
  rw [← hw0]
  clear hw0
  go_upto_region 3 with (go_at_call 62; refine (HTR.out _).mono ?_; rintro e y ⟨tv, ts, rfl, ho, hm, hb⟩; (try dsimp only); obtain ⟨ta, tn, tc, rfl⟩ := ho.form; have HTO := hidIt ho; have HTM := hidIt hm; have HBY := hidIt (ext_trans HB0.out hb); have HRY := hidIt ((hb.block _ (Array.getElem?_eq_some_iff.1 HR0.out).1).trans HR0.out); clear ho hm hb)
  obtain ⟨hnt, htc⟩ : tn = ts.length ∧ ts.length ≤ tc := by
    obtain ⟨⟨ao', cap', e, r1, _⟩, _⟩ := HTO.out.rd
    injection e with e1 e2 e3
    exact ⟨e2, by omega⟩
  subst hnt
  have hlt2 : ts.length ≤ 200 := by have := congrArg List.length HTM.out; rw [List.length_map] at this; have := HTL.out; omega
  have hwy : w.heap.size < y.heap.size := (Array.getElem?_eq_some_iff.1 HRY.out).1
  go_loopw [3, 10] (fun rv iv wr => ∃ (p : Nat) (ao : Option Addr) (n c : Nat) (xs : List (Rw × Value)), p ≤ ts.length ∧ iv = .int .i64 p ∧ rv = .slice ao n c ∧ Hid (OwnW wr y.heap.size (.slice ao n c) xs) ∧ Hid (xs.map Prod.fst = (TT.take p).filterMap (tgF X)) ∧ Hid (Below y.heap.size y wr)) (fun _ iv _ => ts.length - (RowKit.intOf iv).toNat)
  case atStart => exact ⟨0, none, 0, 0, [], Nat.zero_le _, rfl, rfl, OwnW.nil _ _, rfl, Below.refl _ _⟩
  case round =>
    obtain ⟨p, ao, n, c, xs, hp, rfl, rfl, HO, HM, HB⟩ := hrel
    by_cases hlt : p < ts.length
    · have hltI : (p : Int) < (ts.length : Int) := by omega
      obtain ⟨_, _, g, rfl, x, hx, hxk, d0, d1, d2, d3, d4⟩ := (HTO.out.ext HB.out).at hlt
      have hTp : TT[p]? = some x.1 := by rw [← HTM.out, List.getElem?_map, hx]; rfl
      have HKX := hidIt (HKT.out _ (List.mem_of_getElem? hTp))
      have HNX := hidIt (tk_flt (x := X) hTp)
      rw [HTF.out] at HNX
      obtain ⟨⟨⟨tv, tm, ta, tt⟩, tks⟩, tkv⟩ := x
      dsimp only at *
      obtain ⟨xa, xc, rfl, _⟩ := hxk.1.len
      have HXK := hidIt hxk
      have HXL : Hid (xs.length ≤ 200) := by
        unfold Hid
        have h1 := congrArg List.length HM.out
        rw [List.length_map] at h1
        rw [h1]
        refine Nat.le_trans (List.length_filterMap_le _ _) ?_
        rw [List.length_take]
        have := HTL.out
        omega
      obtain ⟨_, r0, r1, r2, r3, r4, rf⟩ := cells5 ((HB.out.block _ hwy).trans HRY.out)
      have lr : w.heap.size < wr.heap.size := Nat.lt_of_lt_of_le hwy HB.out.size
      obtain ⟨w5, hw5⟩ : ∃ w5, w5 = wr.alloc (.cells #[.int .i64 tv, .int .i64 tm, .int .i64 ta, .int .i64 tt, .slice xa tks.length xc] 64) := ⟨_, rfl⟩
      have hb5 : Below wr.heap.size wr w5 := by rw [hw5]; exact ext_alloc (Below.refl _ _) _
      have HC5 : Hid (w5.heap[wr.heap.size]? = some (.cells #[.int .i64 tv, .int .i64 tm, .int .i64 ta, .int .i64 tt, .slice xa tks.length xc] 64 (0, 0))) := by unfold Hid; rw [hw5]; exact heap_alloc_new _ _
      have HR5 := hidIt ((hb5.block _ lr).trans ((HB.out.block _ hwy).trans HRY.out))
      have HB5 := hidIt hb5
      have hn5 : ts.length ≤ tc := htc
      clear hx hxk hTp hb5
      go_upto_region 5 with fail
      rw [← hw5]
      clear hw5 d0 d1 d2 d3 d4 r0 r1 r2 r3 r4 rf
      obtain ⟨_, e0, e1, e2, e3, e4, ef⟩ := cells5 HC5.out
      obtain ⟨_, r0, r1, r2, r3, r4, rf⟩ := cells5 HR5.out
      have HBH := hidIt (behind_any tv tm ta tt bv w5)
      have HL5 : Hid (wr.heap.size < w5.heap.size ∧ w.heap.size < w5.heap.size) := ⟨(Array.getElem?_eq_some_iff.1 HC5.out).1, (Array.getElem?_eq_some_iff.1 HR5.out).1⟩
      cases hbh : bhd ⟨tv, tm, ta, tt⟩ bv with
      | none =>
        rw [hbh] at HBH HNX
        clear hbh
        simp only [vlB, Option.isSome_none] at HBH
        go_wp2_with (go_at_call 63; refine HBH.out.mono ?_; rintro e y6 ⟨rfl, hb6⟩; (try dsimp only); have HB6 := hidIt hb6; clear hb6 e0 e1 e2 e3 e4 ef r0 r1 r2 r3 r4 rf)
        have HBZ : Hid (Below wr.heap.size wr (y6.alloc (.cells #[.int .i64 0, .int .i64 0, .int .i64 0, .int .i64 0] 62))) := ext_alloc (ext_trans HB5.out HB6.out) _
        go_roundw
        case rel => exact ⟨p + 1, ao, n, c, xs, by omega, rfl, rfl, HO.out.ext HBZ.out, by unfold Hid; rw [HNX.out, HM.out]; simp, ext_trans HB.out HBZ.out⟩
        case measure => simp [RowKit.intOf]; omega
      | some b2 =>
        rw [hbh] at HBH HNX
        clear hbh
        obtain ⟨v2, m2, a2, t2⟩ := b2
        simp only [vlB, Option.isSome_some] at HBH
        go_upto_region 6 with (go_at_call 63; refine HBH.out.mono ?_; rintro e y6 ⟨rfl, hb6⟩; (try dsimp only); have HB6 := hidIt hb6; clear hb6)
        obtain ⟨y7, hy7⟩ : ∃ y7, y7 = y6.alloc (.cells #[.int .i64 v2, .int .i64 m2, .int .i64 a2, .int .i64 t2] 62) := ⟨_, rfl⟩
        rw [← hy7]
        have hb7 : Below y6.heap.size y6 y7 := by rw [hy7]; exact ext_alloc (Below.refl _ _) _
        have HC7 : Hid (y7.heap[y6.heap.size]? = some (.cells #[.int .i64 v2, .int .i64 m2, .int .i64 a2, .int .i64 t2] 62 (0, 0))) := by unfold Hid; rw [hy7]; exact heap_alloc_new _ _
        have HB7 := hidIt (ext_trans HB6.out hb7)
        clear hy7 hb7 e0 e1 e2 e3 e4 ef r0 r1 r2 r3 r4 rf
        have HX7 := hidIt ((HB7.out.block _ HL5.out.1).trans HC5.out)
        have HR7 := hidIt ((HB7.out.block _ HL5.out.2).trans HR5.out)
        obtain ⟨_, e0, e1, e2, e3, e4, ef⟩ := cells5 HX7.out
        obtain ⟨_, r0, r1, r2, r3, r4, rf⟩ := cells5 HR7.out
        obtain ⟨_, q0, q1, q2, q3, qf⟩ := cells4 HC7.out
        have HGS : Hid (w5.heap.size ≤ y6.heap.size) := HB6.out.size
        generalize y6.heap.size = g6 at *
        have HBW7 : Hid (Below wr.heap.size wr y7) := ext_trans HB5.out HB7.out
        have HRD1 : Hid (RdS y7 (.slice ka ks.length kc) ks) := HKI.out.1.ext (ext_trans (HBY.out.trans (HB.out.mono HBY.out.size)) HBW7.out)
        have HRD2 : Hid (RdS y7 (.slice xa tks.length xc) tks) := HXK.out.1.ext HBW7.out
        have HO7 := hidIt (HO.out.ext HBW7.out)
        have HG6 : Hid (wr.heap.size ≤ g6) := Nat.le_trans HB5.out.size (Nat.le_of_lt_succ (Nat.lt_succ_of_le HGS.out))
        have HS2 : Hid (∀ W : World, (∀ q, q < y7.heap.size → (Value.slice ao n c).ownBlock ≠ some q → W.heap[q]? = y7.heap[q]?) → W.cell? ⟨g6, 0, none⟩ = some (.int .i64 v2) ∧ W.cell? ⟨g6, 1, none⟩ = some (.int .i64 m2) ∧ W.cell? ⟨g6, 2, none⟩ = some (.int .i64 a2) ∧ W.cell? ⟨g6, 3, none⟩ = some (.int .i64 t2) ∧ W.cell? ⟨w.heap.size, 4, none⟩ = some (.slice ka ks.length kc) ∧ W.cell? ⟨wr.heap.size, 4, none⟩ = some (.slice xa tks.length xc)) := fun W hW => by
          have lx := (Array.getElem?_eq_some_iff.1 HX7.out).1
          have lr2 := (Array.getElem?_eq_some_iff.1 HR7.out).1
          have lc := (Array.getElem?_eq_some_iff.1 HC7.out).1
          have nx : (Value.slice ao n c).ownBlock ≠ some wr.heap.size := fun e => by have := HO.out.blk e; omega
          have nr : (Value.slice ao n c).ownBlock ≠ some w.heap.size := fun e => by have := HO.out.blk e; omega
          have nc : (Value.slice ao n c).ownBlock ≠ some g6 := fun e => by have := HO.out.blk e; have := HG6.out; omega
          obtain ⟨_, c0, c1, c2, c3, _⟩ := cells4 ((hW _ lc nc).trans HC7.out)
          obtain ⟨_, _, _, _, _, c4, _⟩ := cells5 ((hW _ lr2 nr).trans HR7.out)
          obtain ⟨_, _, _, _, _, c5, _⟩ := cells5 ((hW _ lx nx).trans HX7.out)
          exact ⟨c0, c1, c2, c3, c4, c5⟩
        have HS : Hid (∀ W : World, Below y7.heap.size y7 W → W.cell? ⟨g6, 0, none⟩ = some (.int .i64 v2) ∧ W.cell? ⟨g6, 1, none⟩ = some (.int .i64 m2) ∧ W.cell? ⟨g6, 2, none⟩ = some (.int .i64 a2) ∧ W.cell? ⟨g6, 3, none⟩ = some (.int .i64 t2) ∧ W.cell? ⟨w.heap.size, 4, none⟩ = some (.slice ka ks.length kc) ∧ W.cell? ⟨wr.heap.size, 4, none⟩ = some (.slice xa tks.length xc)) := fun W hW => HS2.out W (fun q hq _ => hW.block q hq)
        obtain ⟨k8, HK8⟩ : ∃ k8, Hid (k8 = ks ++ tks) := ⟨_, hidIt rfl⟩
        go_upto_region 7 with fail
        refine wp_region_held_drew (S := fun w' => w'.cell? ⟨g6, 0, none⟩ = some (.int .i64 v2) ∧ w'.cell? ⟨g6, 1, none⟩ = some (.int .i64 m2) ∧ w'.cell? ⟨g6, 2, none⟩ = some (.int .i64 a2) ∧ w'.cell? ⟨g6, 3, none⟩ = some (.int .i64 t2) ∧ w'.cell? ⟨w.heap.size, 4, none⟩ = some (.slice ka ks.length kc) ∧ w'.cell? ⟨wr.heap.size, 4, none⟩ = some (.slice xa tks.length xc)) (by kernel_rfl) (by first | exact HS.out _ (Below.refl _ _) | exact HS.out _ (Below.refl _ _).drew) (fun hHeld => ?_)
        refine wpAnyH_take (i := 0) (oi := _) (v := ?_) rfl (by kernel_rfl) (by kernel_rfl) (by kernel_rfl) (fun _ _ _ h => h) (Or.inl ⟨by rfl, ?_⟩) (by assumption) ?_
        rotate_left 1
        · intro wq hSw; (try dsimp only at hSw); go_simp; try (with_reducible rfl)
        try simp only [Act.put, List.getElem_toArray, List.getElem_cons_zero, List.setIfInBounds_toArray, List.set_cons_zero, List.set_cons_succ]
        refine wpAnyH_take (i := 1) (oi := _) (v := ?_) rfl (by kernel_rfl) (by kernel_rfl) (by kernel_rfl) (fun _ _ _ h => h) (Or.inl ⟨by rfl, ?_⟩) (by assumption) ?_
        rotate_left 1
        · intro wq hSw; (try dsimp only at hSw); go_simp; try (with_reducible rfl)
        try simp only [Act.put, List.getElem_toArray, List.getElem_cons_succ, List.getElem_cons_zero, List.setIfInBounds_toArray, List.set_cons_zero, List.set_cons_succ]
        refine wpAnyH_take (i := 2) (oi := _) (v := ?_) rfl (by kernel_rfl) (by kernel_rfl) (by kernel_rfl) (fun _ _ _ h => h) (Or.inl ⟨by rfl, ?_⟩) (by assumption) ?_
        rotate_left 1
        · intro wq hSw; (try dsimp only at hSw); go_simp; try (with_reducible rfl)
        try simp only [Act.put, List.getElem_toArray, List.getElem_cons_succ, List.getElem_cons_zero, List.setIfInBounds_toArray, List.set_cons_zero, List.set_cons_succ]
        refine wpAnyH_take (i := 3) (oi := _) (v := ?_) rfl (by kernel_rfl) (by kernel_rfl) (by kernel_rfl) (fun _ _ _ h => h) (Or.inl ⟨by rfl, ?_⟩) (by assumption) ?_
        rotate_left 1
        · intro wq hSw; (try dsimp only at hSw); go_simp; try (with_reducible rfl)
        try simp only [Act.put, List.getElem_toArray, List.getElem_cons_succ, List.getElem_cons_zero, List.setIfInBounds_toArray, List.set_cons_zero, List.set_cons_succ]
        refine wpAnyH_take (i := 4) (oi := _) (v := ?_) rfl (by kernel_rfl) (by kernel_rfl) (by kernel_rfl) (fun _ _ _ h => h) (Or.inl ⟨by rfl, ?_⟩) (by assumption) ?_
        rotate_left 1
        · intro wq hSw; (try dsimp only at hSw); go_simp; try (with_reducible rfl)
        try simp only [Act.put, List.getElem_toArray, List.getElem_cons_succ, List.getElem_cons_zero, List.setIfInBounds_toArray, List.set_cons_zero, List.set_cons_succ]
        refine wpAnyH_take (i := 5) (oi := _) (v := ?_) rfl (by kernel_rfl) (by kernel_rfl) (by kernel_rfl) (fun _ _ _ h => h) (Or.inl ⟨by rfl, ?_⟩) (by assumption) ?_
        rotate_left 1
        · intro wq hSw; (try dsimp only at hSw); go_simp; try (with_reducible rfl)
        try simp only [Act.put, List.getElem_toArray, List.getElem_cons_succ, List.getElem_cons_zero, List.setIfInBounds_toArray, List.set_cons_zero, List.set_cons_succ]
        refine wpAnyH_ready (rs := [6]) (by kernel_rfl) (by simp) ?_
        refine AllReadyH.cons (o := _) rfl (fun K hK => ?_) AllReadyH.nil
        go_simp
        refine hK.out _ _ ?_ (fun hHeld => ?_)
        · first | exact HS.out _ (ext_alloc (Below.refl _ _) _) | exact HS.out _ (ext_alloc (Below.refl _ _).drew _) | exact HS.out _ (ext_alloc (Below.refl _ _) _).drew
        clear hK K
        try simp only [Act.put, List.getElem_toArray, List.getElem_cons_succ, List.getElem_cons_zero, List.setIfInBounds_toArray, List.set_cons_zero, List.set_cons_succ]
        refine wpAnyH_ready (rs := [7]) (by kernel_rfl) (by simp) ?_
        refine AllReadyH.cons (o := _) rfl (fun K hK => ?_) AllReadyH.nil
        go_simp
        refine (concat2 38 (y := y7) (Below.refl _ _).drew HRD1.out HRD2.out HKX.out.1 (by have := HKX.out.2; omega)).mono ?_; rintro e y8 ⟨v8, rfl, ho8, hb8⟩; rw [← HK8.out] at ho8; obtain ⟨xa8, xc8, rfl, _⟩ := ho8.rds.len; have HO8 := hidIt ho8; have HB8 := hidIt hb8; clear ho8 hb8; try dsimp only
        refine hK.out _ _ ?_ (fun hHeld => ?_)
        · exact HS.out _ HB8.out
        clear hK K
        try simp only [Act.put, List.getElem_toArray, List.getElem_cons_succ, List.getElem_cons_zero, List.setIfInBounds_toArray, List.set_cons_zero, List.set_cons_succ]
        refine wpAnyH_take (i := 8) (oi := _) (v := ?_) rfl (by kernel_rfl) (by kernel_rfl) (by kernel_rfl) (fun _ _ _ h => h) (Or.inl ⟨by rfl, ?_⟩) (by assumption) ?_
        rotate_left 1
        · intro wq hSw; (try dsimp only at hSw); go_simp; try (with_reducible rfl)
        try simp only [Act.put, List.getElem_toArray, List.getElem_cons_succ, List.getElem_cons_zero, List.setIfInBounds_toArray, List.set_cons_zero, List.set_cons_succ]
        refine wpAnyH_ready (rs := [9]) (by kernel_rfl) (by simp) ?_
        refine AllReadyH.cons (o := _) rfl (fun K hK => ?_) AllReadyH.nil
        go_simp
        refine hK.out _ _ ?_ (fun hHeld => ?_)
        · exact HS.out _ (ext_alloc HB8.out _)
        clear hK K
        try simp only [Act.put, List.getElem_toArray, List.getElem_cons_succ, List.getElem_cons_zero, List.setIfInBounds_toArray, List.set_cons_zero, List.set_cons_succ]
        refine wpAnyH_ready (rs := [10]) (by kernel_rfl) (by simp) ?_
        refine AllReadyH.cons (o := _) rfl (fun K hK => ?_) AllReadyH.nil
        rw [if_pos (by rfl)]
        refine wp_append_rowsB _ _ (by rfl) y.heap.size (.slice ao n c) xs (by rfl) ((HO7.out.ext HB8.out).ext (ext_alloc (Below.refl _ _) _)) _ [(⟨⟨v2, m2, a2, t2⟩, k8⟩, .slice xa8 k8.length xc8)] (by rfl) (OwnW.lit (xs := [(⟨⟨v2, m2, a2, t2⟩, k8⟩, .slice xa8 k8.length xc8)]) #[.int .i64 v2, .int .i64 m2, .int .i64 a2, .int .i64 t2, .slice xa8 k8.length xc8] rfl (fun q hq => by rw [List.mem_singleton.1 hq]; exact HO8.out.ki) (by simp)).rd (by have := HXL.out; simp; omega) (by have := HB.out.size; have := HBW7.out.size; have := HB8.out.size; simp; omega) ?_; intro v9 w9 ho9 hb9 hg9; have HG9 := hidIt hg9; clear hg9; obtain ⟨ao9, n9, c9, rfl⟩ := ho9.form; have HO9 := hidIt ho9; have HB9 := hidIt hb9; clear ho9 hb9
        refine hK.out _ _ ?_ (fun hHeld => ?_)
        · exact HS2.out _ (fun q hq hn => (HG9.out.block q (Nat.lt_of_lt_of_le hq (by have := HB8.out.size; simp; omega)) (fun e => hn e.symm)).trans ((ext_alloc HB8.out _).block q hq))
        clear hK K
        try simp only [Act.put, List.getElem_toArray, List.getElem_cons_succ, List.getElem_cons_zero, List.setIfInBounds_toArray, List.set_cons_zero, List.set_cons_succ]
        refine wpAnyH_take (i := 11) (oi := _) (v := ?_) rfl (by kernel_rfl) (by kernel_rfl) (by kernel_rfl) (fun _ _ _ h => h) (Or.inl ⟨by rfl, ?_⟩) (by assumption) ?_
        rotate_left 1
        · intro wq hSw; (try dsimp only at hSw); go_simp; try (with_reducible rfl)
        try simp only [Act.put, List.getElem_toArray, List.getElem_cons_succ, List.getElem_cons_zero, List.setIfInBounds_toArray, List.set_cons_zero, List.set_cons_succ]
        refine wpAnyH_done (by kernel_rfl) ?_ _
        go_wp2_with fail
        go_roundw
        case rel => exact ⟨p + 1, ao9, n9, c9, _, by omega, rfl, rfl, HO9.out, by unfold Hid; rw [HNX.out, List.map_append, HM.out, HK8.out]; rfl, (ext_trans HB.out (ext_trans HBW7.out (ext_alloc HB8.out _))).trans HB9.out⟩
        case measure => simp [RowKit.intOf]; omega
    · have hltI : ¬ (p : Int) < (ts.length : Int) := by omega
      have HE : Hid (xs.map Prod.fst = TT.filterMap (tgF X)) := by
        have h1 := congrArg List.length HTM.out
        rw [List.length_map] at h1
        unfold Hid
        rw [HM.out, List.take_of_length_le (by omega)]
      go_wp2_with fail
      go_ret
      exact ⟨_, xs, rfl, HO.out.le HBY.out.size, by unfold Hid; rw [HX.out]; exact HE.out, HBY.out.trans (HB.out.mono HBY.out.size)⟩
theorem tgs_len (r : Rw) : (tgs r).length ≤ 200 := by
  unfold tgs
  exact Nat.le_trans (List.length_filterMap_le _ _) lenNT.2.2
set_option maxRecDepth 100000 in
set_option maxHeartbeats 8000000 in
theorem rowsOf_any (mode vb : Int) (w : World) : Calls Tryz.prog 23 #[.int .i64 mode, .int .i64 vb] w fun e w' => RwP w w' (rwsOf (isl mode) vb) e := by
  have HM0 := hidIt (isl_any mode)
  generalize isl mode = sl at *
  cases sl
  · skip
    have HX : Hid (rwsOf false vb = tNor.flatMap (exR vb)) := rfl
    have HTL : Hid (tNor.length ≤ 200) := lenNT.1
    have HKT : Hid (∀ r ∈ tNor, r.ks ≠ [] ∧ r.ks.length ≤ 2) := keysN
    have HTR := hidIt (fun w => normalRows_any w)
    generalize tNor = TT at HX HTL HKT HTR
    generalize rwsOf false vb = LW at HX ⊢
    go_enter Tryz.func23, Tryz.ntmps23
    go_upto_region 6 with (first | (go_at_call 19; refine (HM0.out _).mono ?_; rintro e y0 ⟨rfl, rfl⟩; (try dsimp only)) | (go_at_call 49; refine (HTR.out _).mono ?_; rintro e y ⟨tv, ts, rfl, ho, hm, hb⟩; (try dsimp only); obtain ⟨ta, tn, tc, rfl⟩ := ho.form; have HTO := hidIt ho; have HTM := hidIt hm; have HBY := hidIt hb; clear ho hm hb))
    obtain ⟨hnt, htc⟩ : tn = ts.length ∧ ts.length ≤ tc := by
      obtain ⟨⟨ao', cap', e, r1, _⟩, _⟩ := HTO.out.rd
      injection e with e1 e2 e3
      exact ⟨e2, by omega⟩
    subst hnt
    have hlt2 : ts.length ≤ 200 := by have := congrArg List.length HTM.out; rw [List.length_map] at this; have := HTL.out; omega
    go_loopw [6, 14] (fun rv iv wr => ∃ (p : Nat) (ao : Option Addr) (n c : Nat) (xs : List (Rw × Value)), p ≤ ts.length ∧ iv = .int .i64 p ∧ rv = .slice ao n c ∧ Hid (OwnW wr y.heap.size (.slice ao n c) xs) ∧ Hid (xs.map Prod.fst = (TT.take p).flatMap (exR vb)) ∧ Hid (xs.length ≤ 200 * p) ∧ Hid (Below y.heap.size y wr)) (fun _ iv _ => ts.length - (RowKit.intOf iv).toNat)
    case atStart => exact ⟨0, none, 0, 0, [], Nat.zero_le _, rfl, rfl, OwnW.nil _ _, rfl, Nat.le_refl _, Below.refl _ _⟩
    case round =>
      obtain ⟨p, ao, n, c, xs, hp, rfl, rfl, HO, HM, HXL, HB⟩ := hrel
      by_cases hlt : p < ts.length
      · have hltI : (p : Int) < (ts.length : Int) := by omega
        obtain ⟨_, _, g, rfl, x, hx, hxk, d0, d1, d2, d3, d4⟩ := (HTO.out.ext HB.out).at hlt
        have hTp : TT[p]? = some x.1 := by rw [← HTM.out, List.getElem?_map, hx]; rfl
        have HKX := hidIt (HKT.out _ (List.mem_of_getElem? hTp))
        have HNX : Hid ((TT.take (p + 1)).flatMap (exR vb) = (TT.take p).flatMap (exR vb) ++ exR vb x.1) := by unfold Hid; rw [List.take_add_one, hTp, List.flatMap_append]; simp
        obtain ⟨⟨⟨tv, tm, ta, tt⟩, tks⟩, tkv⟩ := x
        dsimp only at *
        obtain ⟨xa, xc, rfl, _⟩ := hxk.1.len
        have HXK := hidIt hxk
        obtain ⟨w5, hw5⟩ : ∃ w5, w5 = wr.alloc (.cells #[.int .i64 tv, .int .i64 tm, .int .i64 ta, .int .i64 tt, .slice xa tks.length xc] 64) := ⟨_, rfl⟩
        have hb5 : Below wr.heap.size wr w5 := by rw [hw5]; exact ext_alloc (Below.refl _ _) _
        have HC5 : Hid (w5.heap[wr.heap.size]? = some (.cells #[.int .i64 tv, .int .i64 tm, .int .i64 ta, .int .i64 tt, .slice xa tks.length xc] 64 (0, 0))) := by unfold Hid; rw [hw5]; exact heap_alloc_new _ _
        have HB5 := hidIt hb5
        clear hx hxk hTp hb5
        go_upto_region 8 with fail
        rw [← hw5]
        clear hw5 d0 d1 d2 d3 d4
        obtain ⟨_, e0, e1, e2, e3, e4, ef⟩ := cells5 HC5.out
        have HEX : Hid (exR vb ⟨⟨tv, tm, ta, tt⟩, tks⟩ = if tv = vb then (if tt = 2 then tgs ⟨⟨tv, tm, ta, tt⟩, tks⟩ else [⟨⟨tv, tm, ta, tt⟩, tks⟩]) else []) := rfl
        by_cases hv : tv = vb
        · have hvb : (tv == vb) = true := by simpa using hv
          rw [if_pos hv] at HEX
          clear hv
          by_cases ht : tt = 2
          · have htb : (tt == 2) = true := by simpa using ht
            rw [if_pos ht] at HEX
            clear ht
            have HTG := hidIt (targets_any tv tm ta tt tks (.slice xa tks.length xc) w5 (HXK.out.ext HB5.out) HKX.out.1 (by have := HKX.out.2; omega))
            have HGL : Hid ((tgs ⟨⟨tv, tm, ta, tt⟩, tks⟩).length ≤ 200) := tgs_len _
            generalize tgs ⟨⟨tv, tm, ta, tt⟩, tks⟩ = LG at HEX HTG HGL
            go_wp2_with (first | (go_at_call 51; refine HTG.out.mono ?_; rintro e y6 ⟨gv, gs, rfl, ho6, hm6, hb6⟩; (try dsimp only); have HO6 := hidIt ho6; have HM6 := hidIt hm6; have HB6 := hidIt (ext_trans HB5.out hb6); clear ho6 hm6 hb6) | (at_builtin; refine wpl_rows rfl _ _ rfl y.heap.size _ xs rfl (HO.out.ext HB6.out) _ gs rfl HO6.out.rd (by have h1 := HXL.out; have h2 := congrArg List.length HM6.out.out; rw [List.length_map] at h2; have := HGL.out; omega) (by have := HB.out.size; have := HB6.out.size; omega) ?_; intro v9 w9 ho9 hb9; obtain ⟨ao9, n9, c9, rfl⟩ := ho9.form; have HO9 := hidIt ho9; have HB9 := hidIt ((ext_trans HB.out HB6.out).trans hb9); clear ho9 hb9; (try dsimp only)))
            go_roundw
            case rel => exact ⟨p + 1, ao9, n9, c9, _, by omega, rfl, rfl, HO9.out, by unfold Hid; rw [HNX.out, HEX.out, List.map_append, HM.out, HM6.out.out], by unfold Hid; have h1 := HXL.out; have h2 := congrArg List.length HM6.out.out; rw [List.length_map] at h2; have := HGL.out; rw [List.length_append]; omega, HB9.out⟩
            case measure => simp [RowKit.intOf]; omega
          · have htb : (tt == 2) = false := by simpa using ht
            rw [if_neg ht] at HEX
            clear ht
            go_wp2_with (at_builtin; refine wpl_rows rfl _ _ rfl y.heap.size _ xs rfl ((HO.out.ext HB5.out).ext (ext_alloc (Below.refl _ _) _)) _ [(⟨⟨tv, tm, ta, tt⟩, tks⟩, .slice xa tks.length xc)] rfl (OwnW.lit (xs := [(⟨⟨tv, tm, ta, tt⟩, tks⟩, .slice xa tks.length xc)]) #[.int .i64 tv, .int .i64 tm, .int .i64 ta, .int .i64 tt, .slice xa tks.length xc] rfl (fun q hq => by rw [List.mem_singleton.1 hq]; exact HXK.out.ext HB5.out) (by simp)).rd (by have := HXL.out; simp; omega) (by have := HB.out.size; have := HB5.out.size; simp; omega) ?_; intro v9 w9 ho9 hb9; obtain ⟨ao9, n9, c9, rfl⟩ := ho9.form; have HO9 := hidIt ho9; have HB9 := hidIt ((ext_trans HB.out (ext_alloc HB5.out _)).trans hb9); clear ho9 hb9; (try dsimp only))
            go_roundw
            case rel => exact ⟨p + 1, ao9, n9, c9, _, by omega, rfl, rfl, HO9.out, by unfold Hid; rw [HNX.out, HEX.out, List.map_append, HM.out]; rfl, by unfold Hid; have h1 := HXL.out; rw [List.length_append, List.length_singleton]; omega, HB9.out⟩
            case measure => simp [RowKit.intOf]; omega
        · have hvb : (tv == vb) = false := by simpa using hv
          rw [if_neg hv] at HEX
          clear hv
          go_wp2_with fail
          go_roundw
          case rel => exact ⟨p + 1, ao, n, c, xs, by omega, rfl, rfl, HO.out.ext HB5.out, by unfold Hid; rw [HNX.out, HEX.out, List.append_nil]; exact HM.out, by unfold Hid; have := HXL.out; omega, ext_trans HB.out HB5.out⟩
          case measure => simp [RowKit.intOf]; omega
      · have hltI : ¬ (p : Int) < (ts.length : Int) := by omega
        have HE : Hid (xs.map Prod.fst = TT.flatMap (exR vb)) := by
          have h1 := congrArg List.length HTM.out
          rw [List.length_map] at h1
          unfold Hid
          rw [HM.out, List.take_of_length_le (by omega)]
        go_wp2_with fail
        go_ret
        exact ⟨_, xs, rfl, HO.out.le HBY.out.size, by unfold Hid; rw [HX.out]; exact HE.out, HBY.out.trans (HB.out.mono HBY.out.size)⟩
  · skip
    have HX : Hid (rwsOf true vb = tSln.flatMap (exR vb)) := rfl
    have HTL : Hid (tSln.length ≤ 200) := lenNT.2.1
    have HKT : Hid (∀ r ∈ tSln, r.ks ≠ [] ∧ r.ks.length ≤ 2) := keysS
    have HTR := hidIt (fun w => selectionRows_any w)
    generalize tSln = TT at HX HTL HKT HTR
    generalize rwsOf true vb = LW at HX ⊢
    go_enter Tryz.func23, Tryz.ntmps23
    go_upto_region 6 with (first | (go_at_call 19; refine (HM0.out _).mono ?_; rintro e y0 ⟨rfl, rfl⟩; (try dsimp only)) | (go_at_call 50; refine (HTR.out _).mono ?_; rintro e y ⟨tv, ts, rfl, ho, hm, hb⟩; (try dsimp only); obtain ⟨ta, tn, tc, rfl⟩ := ho.form; have HTO := hidIt ho; have HTM := hidIt hm; have HBY := hidIt hb; clear ho hm hb))
    obtain ⟨hnt, htc⟩ : tn = ts.length ∧ ts.length ≤ tc := by
      obtain ⟨⟨ao', cap', e, r1, _⟩, _⟩ := HTO.out.rd
      injection e with e1 e2 e3
      exact ⟨e2, by omega⟩
    subst hnt
    have hlt2 : ts.length ≤ 200 := by have := congrArg List.length HTM.out; rw [List.length_map] at this; have := HTL.out; omega
    go_loopw [6, 14] (fun rv iv wr => ∃ (p : Nat) (ao : Option Addr) (n c : Nat) (xs : List (Rw × Value)), p ≤ ts.length ∧ iv = .int .i64 p ∧ rv = .slice ao n c ∧ Hid (OwnW wr y.heap.size (.slice ao n c) xs) ∧ Hid (xs.map Prod.fst = (TT.take p).flatMap (exR vb)) ∧ Hid (xs.length ≤ 200 * p) ∧ Hid (Below y.heap.size y wr)) (fun _ iv _ => ts.length - (RowKit.intOf iv).toNat)
    case atStart => exact ⟨0, none, 0, 0, [], Nat.zero_le _, rfl, rfl, OwnW.nil _ _, rfl, Nat.le_refl _, Below.refl _ _⟩
    case round =>
      obtain ⟨p, ao, n, c, xs, hp, rfl, rfl, HO, HM, HXL, HB⟩ := hrel
      by_cases hlt : p < ts.length
      · have hltI : (p : Int) < (ts.length : Int) := by omega
        obtain ⟨_, _, g, rfl, x, hx, hxk, d0, d1, d2, d3, d4⟩ := (HTO.out.ext HB.out).at hlt
        have hTp : TT[p]? = some x.1 := by rw [← HTM.out, List.getElem?_map, hx]; rfl
        have HKX := hidIt (HKT.out _ (List.mem_of_getElem? hTp))
        have HNX : Hid ((TT.take (p + 1)).flatMap (exR vb) = (TT.take p).flatMap (exR vb) ++ exR vb x.1) := by unfold Hid; rw [List.take_add_one, hTp, List.flatMap_append]; simp
        obtain ⟨⟨⟨tv, tm, ta, tt⟩, tks⟩, tkv⟩ := x
        dsimp only at *
        obtain ⟨xa, xc, rfl, _⟩ := hxk.1.len
        have HXK := hidIt hxk
        obtain ⟨w5, hw5⟩ : ∃ w5, w5 = wr.alloc (.cells #[.int .i64 tv, .int .i64 tm, .int .i64 ta, .int .i64 tt, .slice xa tks.length xc] 64) := ⟨_, rfl⟩
        have hb5 : Below wr.heap.size wr w5 := by rw [hw5]; exact ext_alloc (Below.refl _ _) _
        have HC5 : Hid (w5.heap[wr.heap.size]? = some (.cells #[.int .i64 tv, .int .i64 tm, .int .i64 ta, .int .i64 tt, .slice xa tks.length xc] 64 (0, 0))) := by unfold Hid; rw [hw5]; exact heap_alloc_new _ _
        have HB5 := hidIt hb5
        clear hx hxk hTp hb5
        go_upto_region 8 with fail
        rw [← hw5]
        clear hw5 d0 d1 d2 d3 d4
        obtain ⟨_, e0, e1, e2, e3, e4, ef⟩ := cells5 HC5.out
        have HEX : Hid (exR vb ⟨⟨tv, tm, ta, tt⟩, tks⟩ = if tv = vb then (if tt = 2 then tgs ⟨⟨tv, tm, ta, tt⟩, tks⟩ else [⟨⟨tv, tm, ta, tt⟩, tks⟩]) else []) := rfl
        by_cases hv : tv = vb
        · have hvb : (tv == vb) = true := by simpa using hv
          rw [if_pos hv] at HEX
          clear hv
          by_cases ht : tt = 2
          · have htb : (tt == 2) = true := by simpa using ht
            rw [if_pos ht] at HEX
            clear ht
            have HTG := hidIt (targets_any tv tm ta tt tks (.slice xa tks.length xc) w5 (HXK.out.ext HB5.out) HKX.out.1 (by have := HKX.out.2; omega))
            have HGL : Hid ((tgs ⟨⟨tv, tm, ta, tt⟩, tks⟩).length ≤ 200) := tgs_len _
            generalize tgs ⟨⟨tv, tm, ta, tt⟩, tks⟩ = LG at HEX HTG HGL
            go_wp2_with (first | (go_at_call 51; refine HTG.out.mono ?_; rintro e y6 ⟨gv, gs, rfl, ho6, hm6, hb6⟩; (try dsimp only); have HO6 := hidIt ho6; have HM6 := hidIt hm6; have HB6 := hidIt (ext_trans HB5.out hb6); clear ho6 hm6 hb6) | (at_builtin; refine wpl_rows rfl _ _ rfl y.heap.size _ xs rfl (HO.out.ext HB6.out) _ gs rfl HO6.out.rd (by have h1 := HXL.out; have h2 := congrArg List.length HM6.out.out; rw [List.length_map] at h2; have := HGL.out; omega) (by have := HB.out.size; have := HB6.out.size; omega) ?_; intro v9 w9 ho9 hb9; obtain ⟨ao9, n9, c9, rfl⟩ := ho9.form; have HO9 := hidIt ho9; have HB9 := hidIt ((ext_trans HB.out HB6.out).trans hb9); clear ho9 hb9; (try dsimp only)))
            go_roundw
            case rel => exact ⟨p + 1, ao9, n9, c9, _, by omega, rfl, rfl, HO9.out, by unfold Hid; rw [HNX.out, HEX.out, List.map_append, HM.out, HM6.out.out], by unfold Hid; have h1 := HXL.out; have h2 := congrArg List.length HM6.out.out; rw [List.length_map] at h2; have := HGL.out; rw [List.length_append]; omega, HB9.out⟩
            case measure => simp [RowKit.intOf]; omega
          · have htb : (tt == 2) = false := by simpa using ht
            rw [if_neg ht] at HEX
            clear ht
            go_wp2_with (at_builtin; refine wpl_rows rfl _ _ rfl y.heap.size _ xs rfl ((HO.out.ext HB5.out).ext (ext_alloc (Below.refl _ _) _)) _ [(⟨⟨tv, tm, ta, tt⟩, tks⟩, .slice xa tks.length xc)] rfl (OwnW.lit (xs := [(⟨⟨tv, tm, ta, tt⟩, tks⟩, .slice xa tks.length xc)]) #[.int .i64 tv, .int .i64 tm, .int .i64 ta, .int .i64 tt, .slice xa tks.length xc] rfl (fun q hq => by rw [List.mem_singleton.1 hq]; exact HXK.out.ext HB5.out) (by simp)).rd (by have := HXL.out; simp; omega) (by have := HB.out.size; have := HB5.out.size; simp; omega) ?_; intro v9 w9 ho9 hb9; obtain ⟨ao9, n9, c9, rfl⟩ := ho9.form; have HO9 := hidIt ho9; have HB9 := hidIt ((ext_trans HB.out (ext_alloc HB5.out _)).trans hb9); clear ho9 hb9; (try dsimp only))
            go_roundw
            case rel => exact ⟨p + 1, ao9, n9, c9, _, by omega, rfl, rfl, HO9.out, by unfold Hid; rw [HNX.out, HEX.out, List.map_append, HM.out]; rfl, by unfold Hid; have h1 := HXL.out; rw [List.length_append, List.length_singleton]; omega, HB9.out⟩
            case measure => simp [RowKit.intOf]; omega
        · have hvb : (tv == vb) = false := by simpa using hv
          rw [if_neg hv] at HEX
          clear hv
          go_wp2_with fail
          go_roundw
          case rel => exact ⟨p + 1, ao, n, c, xs, by omega, rfl, rfl, HO.out.ext HB5.out, by unfold Hid; rw [HNX.out, HEX.out, List.append_nil]; exact HM.out, by unfold Hid; have := HXL.out; omega, ext_trans HB.out HB5.out⟩
          case measure => simp [RowKit.intOf]; omega
      · have hltI : ¬ (p : Int) < (ts.length : Int) := by omega
        have HE : Hid (xs.map Prod.fst = TT.flatMap (exR vb)) := by
          have h1 := congrArg List.length HTM.out
          rw [List.length_map] at h1
          unfold Hid
          rw [HM.out, List.take_of_length_le (by omega)]
        go_wp2_with fail
        go_ret
        exact ⟨_, xs, rfl, HO.out.le HBY.out.size, by unfold Hid; rw [HX.out]; exact HE.out, HBY.out.trans (HB.out.mono HBY.out.size)⟩
end Go.Proofs.YtfdceljdhgbkcaaGreatDoor
