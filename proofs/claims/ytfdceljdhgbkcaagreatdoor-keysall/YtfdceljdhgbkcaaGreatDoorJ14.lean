import Derived.Test.YtfdceljdhgbkcaaGreatDoorJ02
/- begun: the row that keys begin with. -/
namespace Go.Proofs.YtfdceljdhgbkcaaGreatDoor
open Go.RowKit
/-- How many keys make the row, less one: the first look that isn't KeyMore. -/
def bgn (L : List (List Int × Bd)) (ks : List Int) : Option Nat := (List.range ks.length).find? fun n => lkS L (ks.take (n + 1)) != 0
theorem bgn_some {L : List (List Int × Bd)} {ks : List Int} {n : Nat} (hn : n < ks.length) (h0 : ∀ j, j < n → lkS L (ks.take (j + 1)) = 0) (h1 : lkS L (ks.take (n + 1)) ≠ 0) : bgn L ks = some n := by
  unfold bgn
  rw [List.find?_range_eq_some]
  refine ⟨by simpa using h1, List.mem_range.2 hn, fun j hj => by simp [h0 j hj]⟩
theorem bgn_none {L : List (List Int × Bd)} {ks : List Int} (h0 : ∀ j, j < ks.length → lkS L (ks.take (j + 1)) = 0) : bgn L ks = none := by
  unfold bgn
  rw [List.find?_eq_none]
  intro j hj
  simp [h0 j (List.mem_range.1 hj)]
/-- What begun answers. -/
def BgR (w w' : World) (L : List (List Int × Bd)) (l : Value) (ks : List Int) (e : Ending) : Prop :=
  (∃ u, e = .returned (.tuple #[vlB ((bgn L ks).bind fun n => lkV L (ks.take (n + 1))), u, .int .i64 ((bgn L ks).elim 0 fun n => lkS L (ks.take (n + 1)))]) ∧ ∀ y, RdS y l ks → RdS y u ((bgn L ks).elim [] fun n => ks.drop (n + 1))) ∧ Below w.heap.size w w'
set_option maxRecDepth 100000 in
set_option maxHeartbeats 2000000 in
theorem begun_any (b o : Nat) (T : TypeId) (cs : Array Value) (w : World) (m s : Value) (own : Nat → Prop) (n : Nat) (ns : List (List Int)) (vs : List (Option Bd)) (L : List (List Int × Bd)) (l : Value) (ks : List Int)
    (hb : w.heap[b]? = some (.cells cs T (0, 0))) (hm : cs[o]? = some m) (hs : cs[o + 1]? = some s) (ht : TeB w own n ns vs m s) (hT : Tri ns vs L) (hns : ns.length ≤ 2305843009213693952) (hk : RdS w l ks) (h64 : ∀ k ∈ ks, In64 k) :
    Calls Tryz.prog 41 #[.pointer (some ⟨b, o, none⟩), l] w fun e w' => BgR w w' L l ks e := by
  obtain ⟨w0, hw0, k0, hb0⟩ : ∃ w0, w0 = w.alloc (.cells #[.int .i64 0, .int .i64 0, .int .i64 0, .int .i64 0] 62) ∧ w0.heap[w.heap.size]? = some (.cells #[.int .i64 0, .int .i64 0, .int .i64 0, .int .i64 0] 62 (0, 0)) ∧ Below w.heap.size w w0 := ⟨_, rfl, heap_alloc_new _ _, ext_alloc (Below.refl _ _) _⟩
  have hbl : b < w.heap.size := (Array.getElem?_eq_some_iff.1 hb).1
  have hlen := hk.1.len
  obtain ⟨ao, cap, rfl, hcap⟩ : ∃ ao cap, l = .slice ao ks.length cap ∧ ks.length ≤ cap ∧ cap ≤ 9223372036854775807 := by
    obtain ⟨⟨ao, cap, e, c1, c2, _⟩, _⟩ := hk
    exact ⟨ao, cap, e, c1, by unfold maxLen at c2; exact c2⟩
  have HRD : Hid (∀ y, Below w.heap.size w y → ∀ j, j ≤ ks.length → RdS y (.slice ao j cap) (ks.take j)) := fun y hy j hj => by
    obtain ⟨⟨ao', cap', e, c1, c2, c3⟩, hs⟩ := hk.ext hy
    cases e
    have hl : (ks.take j).length = j := by rw [List.length_take]; omega
    refine ⟨⟨ao, cap, by rw [hl], by omega, c2, fun hn => ?_⟩, ?_⟩
    · obtain ⟨b', off, e1, h1, h2⟩ := c3 (by intro e; rw [e] at hn; simp at hn)
      refine ⟨b', off, e1, h1, fun i hi => ?_⟩
      rw [hl] at hi
      rw [h2 i (by omega), List.getElem?_take, if_pos hi]
    · rcases hs with e | ⟨a, n, c, e⟩
      · injection e with e1 e2 e3
        left
        have : j = 0 := by omega
        rw [this, e1, e3]
      · cases e; exact .inr ⟨_, _, _, rfl⟩
  have HLK : Hid (∀ y, Below w.heap.size w y → ∀ j, j ≤ ks.length → Calls Tryz.prog 60 #[.pointer (some ⟨b, o, none⟩), .slice ao j cap] y fun e w' => e = .returned (.tuple #[vlB (lkV L (ks.take j)), .int .i64 (lkS L (ks.take j))]) ∧ Below y.heap.size y w') := fun y hy j hj =>
    lookB_any b o T cs y m s own n ns vs L (.slice ao j cap) (ks.take j) ((hy.block b hbl).trans hb) hm hs (ht.ext hy) hT hns (HRD.out y hy j hj).1 (fun k hk => h64 k (List.mem_of_mem_take hk))
  have HBX : Hid (∀ y, Below w0.heap.size w0 y → y.heap[w.heap.size]? = some (.cells #[.int .i64 0, .int .i64 0, .int .i64 0, .int .i64 0] 62 (0, 0))) := fun y hy => (hy.block _ (Array.getElem?_eq_some_iff.1 k0).1).trans k0
  have HB0 := hidIt hb0
  clear hb hm hs ht hT hk h64 hb0 k0
  go_enter Tryz.func41, Tryz.ntmps41
  go_upto_region 1 with fail
  rw [← hw0]
  clear hw0
  go_wp2
  go_loopw [12] (fun i wr => ∃ p : Nat, p ≤ ks.length ∧ i = .int .i64 p ∧ Hid (∀ j, j < p → lkS L (ks.take (j + 1)) = 0) ∧ Hid (Below w0.heap.size w0 wr)) (fun i _ => ks.length - (RowKit.intOf i).toNat)
  case atStart => exact ⟨0, Nat.zero_le _, rfl, fun j hj => by omega, Below.refl _ _⟩
  case round =>
    obtain ⟨p, hp, rfl, HZ, HW⟩ := hrel
    by_cases hlt : p < ks.length
    · have hi1 : (p : Int) < (ks.length : Int) := by omega
      have HL := hidIt (HLK.out wr (HB0.out.trans (HW.out.mono HB0.out.size)) (p + 1) (by omega))
      obtain ⟨x, hx⟩ : ∃ x, vlB (lkV L (ks.take (p + 1))) = x := ⟨_, rfl⟩
      obtain ⟨x0, x1, x2, x3, hxf⟩ : ∃ x0 x1 x2 x3, x = .agg #[.int .i64 x0, .int .i64 x1, .int .i64 x2, .int .i64 x3] := by
        rw [← hx]
        cases lkV L (ks.take (p + 1)) with
        | none => exact ⟨0, 0, 0, 0, rfl⟩
        | some v => exact ⟨_, _, _, _, rfl⟩
      rw [hx, hxf] at HL
      have HX := hidIt (hx.trans hxf)
      clear hx hxf
      by_cases hz : lkS L (ks.take (p + 1)) = 0
      · rw [hz] at HL
        have HZ2 : Hid (∀ j, j < p + 1 → lkS L (ks.take (j + 1)) = 0) := fun j hj => by
          by_cases e : j = p
          · rw [e]; exact hz
          · exact HZ.out j (by omega)
        clear hz HX
        go_wp2_with (go_at_call 60; refine HL.out.mono ?_; rintro e y1 ⟨rfl, hy1⟩; (try dsimp only); have HY1 := hidIt hy1; clear hy1)
        go_roundw
        case rel => exact ⟨p + 1, by omega, by go_num, HZ2.out, HW.out.trans ((ext_alloc HY1.out _).mono HW.out.size)⟩
        case measure => simp [RowKit.intOf]; omega
      · have HBG := hidIt (bgn_some hlt HZ.out hz)
        generalize hsx : lkS L (ks.take (p + 1)) = sx at *
        have hzb : (sx != 0) = true := by simpa using hz
        clear hz
        go_upto_region 6 with (go_at_call 60; refine HL.out.mono ?_; rintro e y1 ⟨rfl, hy1⟩; (try dsimp only); have HY1 := hidIt hy1; clear hy1)
        generalize hyA : World.alloc y1 _ = yA
        have kx : yA.heap[y1.heap.size]? = some (.cells #[.int .i64 x0, .int .i64 x1, .int .i64 x2, .int .i64 x3] 62 (0, 0)) := by rw [← hyA]; exact heap_alloc_new _ _
        have HYA : Hid (Below w0.heap.size w0 yA) := by unfold Hid; rw [← hyA]; exact HW.out.trans ((ext_alloc HY1.out _).mono HW.out.size)
        have hgx : w.heap.size ≠ y1.heap.size := by
          have h1 := HW.out.size
          have h2 := HY1.out.size
          have h3 := (Array.getElem?_eq_some_iff.1 (HBX.out w0 (Below.refl _ _))).1
          omega
        generalize y1.heap.size = gx at *
        obtain ⟨_, c0, c1, c2, c3, _⟩ := cells4 kx
        obtain ⟨_, q0, q1, q2, q3, qf⟩ := cells4 (HBX.out yA HYA.out)
        have HP := hidIt (put4 (HBX.out yA HYA.out) (.int .i64 x0) (.int .i64 x1) (.int .i64 x2) (.int .i64 x3))
        obtain ⟨kb, off, hao, hkb⟩ : ∃ kb off, ao = some ⟨kb, off, none⟩ ∧ ∀ y, Below w.heap.size w y → ∀ i, i < ks.length → y.cell? ⟨kb, off + i, none⟩ = some (.int .i64 (ks[i]?.getD 0)) ∧ kb < y.heap.size := by
          obtain ⟨⟨ao', cap', e, _, _, c3⟩, _⟩ := HRD.out w (Below.refl _ _) ks.length (Nat.le_refl _)
          rw [List.take_length] at e c3
          injection e with e1 e2 e3
          obtain ⟨b', off, e4, h1, h2⟩ := c3 (by intro e; rw [e] at hlt; simp at hlt)
          exact ⟨b', off, e1.trans e4, fun y hy i hi => ⟨(hy.cell (p := ⟨b', off + i, none⟩) h1).trans (h2 i hi), Nat.lt_of_lt_of_le h1 hy.size⟩⟩
        subst hao
        have HKB := hidIt hkb
        have hp1 : p + 1 ≤ ks.length := hlt
        have HYB : Hid (Below w.heap.size w (((((yA.setCell ⟨w.heap.size, 0, none⟩ (.int .i64 x0)).setCell ⟨w.heap.size, 1, none⟩ (.int .i64 x1)).setCell ⟨w.heap.size, 2, none⟩ (.int .i64 x2)).setCell ⟨w.heap.size, 3, none⟩ (.int .i64 x3)))) := below_put (HB0.out.trans (HYA.out.mono HB0.out.size)) (HB0.out.trans (HYA.out.mono HB0.out.size)).size HP.out.2 (Nat.le_refl _)
        clear hyA kx hkb HL
        by_cases hcp : p + 1 = cap
        · have hne : ks.length = p + 1 := by omega
          have HNE := hidIt hne
          obtain rfl : cap = p + 1 := hcp.symm
          rw [hne] at hi1 hp1 hcap hlen ⊢
          clear hne hlt
          go_region
          go_wp2
          refine bodyPost_ret (v := .tuple #[.agg #[.int .i64 x0, .int .i64 x1, .int .i64 x2, .int .i64 x3], .slice (some ⟨kb, off, none⟩) 0 0, .int .i64 sx]) (by simp [results, Tryz.results41, go_sem, q0, q1, q2, q3]) rfl ?_
          refine ⟨⟨_, by rw [HBG.out]; simp only [Option.bind_some, Option.elim_some, hsx]; rw [HX.out], ?_⟩, HYB.out.drew⟩
          rw [HBG.out]
          simp only [Option.elim_some]
          rw [List.drop_eq_nil_of_le (by have := HNE.out; omega)]
          exact fun _ _ => ⟨⟨some ⟨kb, off, none⟩, 0, rfl, Nat.le_refl _, by unfold maxLen; omega, fun h => absurd rfl h⟩, .inr ⟨_, _, _, rfl⟩⟩
        · go_region
          go_wp2
          have HD : Hid (∀ y, RdS y (.slice (some ⟨kb, off, none⟩) ks.length cap) ks → RdS y (.slice (some ⟨kb, off + (p + 1), none⟩) (ks.length - (p + 1)) (cap - (p + 1))) (ks.drop (p + 1))) := by
            rintro y ⟨⟨ao', cap', e, g1, g2, g3⟩, _⟩
            obtain ⟨b', off', e4, h1, h2⟩ := g3 (by intro e; rw [e] at hlt; simp at hlt)
            injection e with e1 e2 e3
            rw [e4] at e1
            cases e1
            refine ⟨⟨_, cap - (p + 1), by rw [List.length_drop], by rw [List.length_drop]; omega, by unfold maxLen; omega, fun hn => ⟨kb, off + (p + 1), rfl, h1, fun i hi => ?_⟩⟩, .inr ⟨_, _, _, rfl⟩⟩
            rw [List.length_drop] at hi
            rw [Nat.add_assoc, h2 (p + 1 + i) (by omega), List.getElem?_drop]
          refine bodyPost_ret (v := .tuple #[.agg #[.int .i64 x0, .int .i64 x1, .int .i64 x2, .int .i64 x3], .slice (some ⟨kb, off + (p + 1), none⟩) (ks.length - (p + 1)) (cap - (p + 1)), .int .i64 sx]) (by simp [results, Tryz.results41, go_sem, q0, q1, q2, q3]) rfl ?_
          refine ⟨⟨_, by rw [HBG.out]; simp only [Option.bind_some, Option.elim_some, hsx]; rw [HX.out], by rw [HBG.out]; exact HD.out⟩, HYB.out.drew⟩
    · have HBG := hidIt (bgn_none (L := L) (ks := ks) (fun j hj => HZ.out j (by omega)))
      obtain ⟨_, q0, q1, q2, q3, qf⟩ := cells4 (HBX.out wr HW.out)
      have HP := hidIt (put4 (HBX.out wr HW.out) (.int .i64 0) (.int .i64 0) (.int .i64 0) (.int .i64 0))
      go_wp2
      refine bodyPost_ret (v := .tuple #[.agg #[.int .i64 0, .int .i64 0, .int .i64 0, .int .i64 0], .slice none 0 0, .int .i64 0]) (by simp [results, Tryz.results41, go_sem, q0, q1, q2, q3]) rfl ?_
      refine ⟨⟨.slice none 0 0, by rw [HBG.out]; rfl, by rw [HBG.out]; exact fun y _ => ⟨(OwnI.nil y 0).rd, .inl rfl⟩⟩, ?_⟩
      exact below_put (HB0.out.trans (HW.out.mono HB0.out.size)) (HB0.out.trans (HW.out.mono HB0.out.size)).size HP.out.2 (Nat.le_refl _)
end Go.Proofs.YtfdceljdhgbkcaaGreatDoor
