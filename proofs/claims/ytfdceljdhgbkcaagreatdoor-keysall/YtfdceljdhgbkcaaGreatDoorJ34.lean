import Derived.Test.YtfdceljdhgbkcaaGreatDoorJ33
/- The document's meets, command, among. -/
namespace Go.Proofs.YtfdceljdhgbkcaaGreatDoor
open Go.RowKit
theorem cell_lt {w : World} {g i : Nat} {v : Value} (h : w.cell? ⟨g, i, none⟩ = some v) : g < w.heap.size := by
  by_cases hg : g < w.heap.size
  · exact hg
  · unfold World.cell? at h
    simp only [Array.getElem?_eq_none (Nat.le_of_not_lt hg)] at h
    cases h
set_option maxRecDepth 100000 in
set_option maxHeartbeats 8000000 in
theorem r_meets_any (r : DRw) (kv lv : Value) (l : List Int) (w : World) (hk : RdS w kv r.ks) (hl : RdS w lv l) (hkl : r.ks.length ≤ 100) :
    Calls Tryz.prog 80 #[.agg #[kv, .int .i64 r.v, .int .i64 r.m, .int .i64 r.a, .bool r.asks], lv] w fun e w' => e = .returned (.tuple #[.int .i64 (dMts r l).1, .int .i64 (dMts r l).2]) ∧ Below w.heap.size w w' := by
  obtain ⟨ks, rv, rm, ra, ras⟩ := r
  dsimp only at *
  obtain ⟨ka, kc, rfl, _⟩ := hk.len
  obtain ⟨la, lc, rfl, hll⟩ := hl.len
  cases ras
  · obtain ⟨w0, hw0⟩ : ∃ w0, w0 = w.alloc (.cells #[.slice ka ks.length kc, .int .i64 rv, .int .i64 rm, .int .i64 ra, .bool false] 71) := ⟨_, rfl⟩
    have hb0 : Below w.heap.size w w0 := by rw [hw0]; exact ext_alloc (Below.refl _ _) _
    have HB0 := hidIt hb0
    have HR0 : Hid (w0.heap[w.heap.size]? = some (.cells #[.slice ka ks.length kc, .int .i64 rv, .int .i64 rm, .int .i64 ra, .bool false] 71 (0, 0))) := by unfold Hid; rw [hw0]; exact heap_alloc_new _ _
    have HK0 := hidIt (hk.ext hb0)
    have HL0 := hidIt (hl.ext hb0)
    obtain ⟨_, e0, e1, e2, e3, e4, ef⟩ := cells5 HR0.out
    clear hk hl hb0
    by_cases hw : ks.isPrefixOf l = true
    · skip
      have hwl := (pre_iff.1 hw).length_le
      by_cases hn : l.length = ks.length
      · skip
        have hnb : ((l.length : Int) == (ks.length : Int)) = true := by simp; omega
        have HE : Hid (dMts ⟨ks, rv, rm, ra, false⟩ l = (1, ra)) := by unfold Hid dMts; rw [if_pos ⟨hw, by simpa using hn⟩]; simp
        have HN := hidIt hn
        clear hn hwl
        go_enter Tryz.func80, Tryz.ntmps80
        go_upto_region 1 with fail
        rw [← hw0]
        clear hw0
        go_upto_region 6 with (first | (go_at_call 66; refine (r_begins_any _ _ l ks _ HL0.out HK0.out).mono ?_; rintro e w1 ⟨rfl, hb1⟩; (try dsimp only); have HB1 := hidIt (ext_trans HB0.out hb1); have HL1 := hidIt (HL0.out.ext hb1); have HK1 := hidIt (HK0.out.ext hb1); have HR1 := hidIt ((hb1.block _ (Array.getElem?_eq_some_iff.1 HR0.out).1).trans HR0.out); clear hb1 HL0 HK0 HB0 HR0; clear e0 e1 e2 e3 e4 ef; obtain ⟨_, e0, e1, e2, e3, e4, ef⟩ := cells5 HR1.out) | (go_at_call 66; refine (r_begins_any _ _ ks l _ HK1.out HL1.out).mono ?_; rintro e w2 ⟨rfl, hb2⟩; (try dsimp only); have HB2 := hidIt (ext_trans HB1.out hb2); have HL2 := hidIt (HL1.out.ext hb2); have HR2 := hidIt ((hb2.block _ (Array.getElem?_eq_some_iff.1 HR1.out).1).trans HR1.out); clear hb2 HL1 HK1 HB1 HR1; clear e0 e1 e2 e3 e4 ef; obtain ⟨_, e0, e1, e2, e3, e4, ef⟩ := cells5 HR2.out))
        rw [hw]
        clear hw
        go_wp2_with fail
        go_quiet (fail)
        go_wp2_with fail
        go_ret2
        exact ⟨by rw [HE.out]; rfl, below_drewN HB2.out _⟩
      · have hnb : ((l.length : Int) == (ks.length : Int)) = false := by simp; omega
        by_cases hlt : l.length < ks.length
        · skip
          have hltI : (l.length : Int) < (ks.length : Int) := by omega
          have HE : Hid (dMts ⟨ks, rv, rm, ra, false⟩ l = (0, 0)) := by unfold Hid dMts; rw [if_neg (by simp; omega), if_pos (.inl ⟨hw, by simpa using hlt⟩)]
          clear hn hwl hlt
          go_enter Tryz.func80, Tryz.ntmps80
          go_upto_region 1 with fail
          rw [← hw0]
          clear hw0
          go_upto_region 6 with (first | (go_at_call 66; refine (r_begins_any _ _ l ks _ HL0.out HK0.out).mono ?_; rintro e w1 ⟨rfl, hb1⟩; (try dsimp only); have HB1 := hidIt (ext_trans HB0.out hb1); have HL1 := hidIt (HL0.out.ext hb1); have HK1 := hidIt (HK0.out.ext hb1); have HR1 := hidIt ((hb1.block _ (Array.getElem?_eq_some_iff.1 HR0.out).1).trans HR0.out); clear hb1 HL0 HK0 HB0 HR0; clear e0 e1 e2 e3 e4 ef; obtain ⟨_, e0, e1, e2, e3, e4, ef⟩ := cells5 HR1.out) | (go_at_call 66; refine (r_begins_any _ _ ks l _ HK1.out HL1.out).mono ?_; rintro e w2 ⟨rfl, hb2⟩; (try dsimp only); have HB2 := hidIt (ext_trans HB1.out hb2); have HL2 := hidIt (HL1.out.ext hb2); have HR2 := hidIt ((hb2.block _ (Array.getElem?_eq_some_iff.1 HR1.out).1).trans HR1.out); clear hb2 HL1 HK1 HB1 HR1; clear e0 e1 e2 e3 e4 ef; obtain ⟨_, e0, e1, e2, e3, e4, ef⟩ := cells5 HR2.out))
          rw [hw]
          clear hw
          go_wp2_with fail
          go_ret2
          exact ⟨by rw [HE.out]; rfl, HB2.out⟩
        · skip
          have hltI : ¬ (l.length : Int) < (ks.length : Int) := by omega
          have hl2 : ¬ (l.length : Int) < (ks.length : Int) := by omega
          have HE : Hid (dMts ⟨ks, rv, rm, ra, false⟩ l = (2, 0)) := by unfold Hid dMts; rw [if_neg (by simp; omega), if_neg (by simp; omega)]
          clear hn hwl hlt
          go_enter Tryz.func80, Tryz.ntmps80
          go_upto_region 1 with fail
          rw [← hw0]
          clear hw0
          go_upto_region 6 with (first | (go_at_call 66; refine (r_begins_any _ _ l ks _ HL0.out HK0.out).mono ?_; rintro e w1 ⟨rfl, hb1⟩; (try dsimp only); have HB1 := hidIt (ext_trans HB0.out hb1); have HL1 := hidIt (HL0.out.ext hb1); have HK1 := hidIt (HK0.out.ext hb1); have HR1 := hidIt ((hb1.block _ (Array.getElem?_eq_some_iff.1 HR0.out).1).trans HR0.out); clear hb1 HL0 HK0 HB0 HR0; clear e0 e1 e2 e3 e4 ef; obtain ⟨_, e0, e1, e2, e3, e4, ef⟩ := cells5 HR1.out) | (go_at_call 66; refine (r_begins_any _ _ ks l _ HK1.out HL1.out).mono ?_; rintro e w2 ⟨rfl, hb2⟩; (try dsimp only); have HB2 := hidIt (ext_trans HB1.out hb2); have HL2 := hidIt (HL1.out.ext hb2); have HR2 := hidIt ((hb2.block _ (Array.getElem?_eq_some_iff.1 HR1.out).1).trans HR1.out); clear hb2 HL1 HK1 HB1 HR1; clear e0 e1 e2 e3 e4 ef; obtain ⟨_, e0, e1, e2, e3, e4, ef⟩ := cells5 HR2.out))
          rw [hw]
          clear hw
          generalize l.isPrefixOf ks = pq
          cases pq
          · go_wp2_with fail
            go_ret2
            exact ⟨by rw [HE.out]; rfl, HB2.out⟩
          go_wp2_with fail
          go_ret2
          exact ⟨by rw [HE.out]; rfl, HB2.out⟩
    · skip
      have hwf : ks.isPrefixOf l = false := Bool.eq_false_iff.2 hw
      by_cases hp : l.isPrefixOf ks = true
      · by_cases hlt : l.length < ks.length
        · skip
          have hltI : (l.length : Int) < (ks.length : Int) := by omega
          have HE : Hid (dMts ⟨ks, rv, rm, ra, false⟩ l = (0, 0)) := by unfold Hid dMts; rw [if_neg (by simp [hwf]), if_pos (.inr ⟨hp, hlt⟩)]
          clear hlt
          go_enter Tryz.func80, Tryz.ntmps80
          go_upto_region 1 with fail
          rw [← hw0]
          clear hw0
          go_upto_region 6 with (first | (go_at_call 66; refine (r_begins_any _ _ l ks _ HL0.out HK0.out).mono ?_; rintro e w1 ⟨rfl, hb1⟩; (try dsimp only); have HB1 := hidIt (ext_trans HB0.out hb1); have HL1 := hidIt (HL0.out.ext hb1); have HK1 := hidIt (HK0.out.ext hb1); have HR1 := hidIt ((hb1.block _ (Array.getElem?_eq_some_iff.1 HR0.out).1).trans HR0.out); clear hb1 HL0 HK0 HB0 HR0; clear e0 e1 e2 e3 e4 ef; obtain ⟨_, e0, e1, e2, e3, e4, ef⟩ := cells5 HR1.out) | (go_at_call 66; refine (r_begins_any _ _ ks l _ HK1.out HL1.out).mono ?_; rintro e w2 ⟨rfl, hb2⟩; (try dsimp only); have HB2 := hidIt (ext_trans HB1.out hb2); have HL2 := hidIt (HL1.out.ext hb2); have HR2 := hidIt ((hb2.block _ (Array.getElem?_eq_some_iff.1 HR1.out).1).trans HR1.out); clear hb2 HL1 HK1 HB1 HR1; clear e0 e1 e2 e3 e4 ef; obtain ⟨_, e0, e1, e2, e3, e4, ef⟩ := cells5 HR2.out))
          rw [hwf, hp]
          clear hw hwf hp
          go_wp2_with fail
          go_ret2
          exact ⟨by rw [HE.out]; rfl, HB2.out⟩
        · skip
          have hltI : ¬ (l.length : Int) < (ks.length : Int) := by omega
          have HE : Hid (dMts ⟨ks, rv, rm, ra, false⟩ l = (2, 0)) := by unfold Hid dMts; rw [if_neg (by simp [hwf]), if_neg (by simp [hwf]; intro _; omega)]
          clear hlt
          go_enter Tryz.func80, Tryz.ntmps80
          go_upto_region 1 with fail
          rw [← hw0]
          clear hw0
          go_upto_region 6 with (first | (go_at_call 66; refine (r_begins_any _ _ l ks _ HL0.out HK0.out).mono ?_; rintro e w1 ⟨rfl, hb1⟩; (try dsimp only); have HB1 := hidIt (ext_trans HB0.out hb1); have HL1 := hidIt (HL0.out.ext hb1); have HK1 := hidIt (HK0.out.ext hb1); have HR1 := hidIt ((hb1.block _ (Array.getElem?_eq_some_iff.1 HR0.out).1).trans HR0.out); clear hb1 HL0 HK0 HB0 HR0; clear e0 e1 e2 e3 e4 ef; obtain ⟨_, e0, e1, e2, e3, e4, ef⟩ := cells5 HR1.out) | (go_at_call 66; refine (r_begins_any _ _ ks l _ HK1.out HL1.out).mono ?_; rintro e w2 ⟨rfl, hb2⟩; (try dsimp only); have HB2 := hidIt (ext_trans HB1.out hb2); have HL2 := hidIt (HL1.out.ext hb2); have HR2 := hidIt ((hb2.block _ (Array.getElem?_eq_some_iff.1 HR1.out).1).trans HR1.out); clear hb2 HL1 HK1 HB1 HR1; clear e0 e1 e2 e3 e4 ef; obtain ⟨_, e0, e1, e2, e3, e4, ef⟩ := cells5 HR2.out))
          rw [hwf, hp]
          clear hw hwf hp
          go_wp2_with fail
          go_ret2
          exact ⟨by rw [HE.out]; rfl, HB2.out⟩
      · skip
        have hpf : l.isPrefixOf ks = false := Bool.eq_false_iff.2 hp
        have HE : Hid (dMts ⟨ks, rv, rm, ra, false⟩ l = (2, 0)) := by unfold Hid dMts; rw [if_neg (by simp [hwf]), if_neg (by simp [hwf, hpf])]
        go_enter Tryz.func80, Tryz.ntmps80
        go_upto_region 1 with fail
        rw [← hw0]
        clear hw0
        go_upto_region 6 with (first | (go_at_call 66; refine (r_begins_any _ _ l ks _ HL0.out HK0.out).mono ?_; rintro e w1 ⟨rfl, hb1⟩; (try dsimp only); have HB1 := hidIt (ext_trans HB0.out hb1); have HL1 := hidIt (HL0.out.ext hb1); have HK1 := hidIt (HK0.out.ext hb1); have HR1 := hidIt ((hb1.block _ (Array.getElem?_eq_some_iff.1 HR0.out).1).trans HR0.out); clear hb1 HL0 HK0 HB0 HR0; clear e0 e1 e2 e3 e4 ef; obtain ⟨_, e0, e1, e2, e3, e4, ef⟩ := cells5 HR1.out) | (go_at_call 66; refine (r_begins_any _ _ ks l _ HK1.out HL1.out).mono ?_; rintro e w2 ⟨rfl, hb2⟩; (try dsimp only); have HB2 := hidIt (ext_trans HB1.out hb2); have HL2 := hidIt (HL1.out.ext hb2); have HR2 := hidIt ((hb2.block _ (Array.getElem?_eq_some_iff.1 HR1.out).1).trans HR1.out); clear hb2 HL1 HK1 HB1 HR1; clear e0 e1 e2 e3 e4 ef; obtain ⟨_, e0, e1, e2, e3, e4, ef⟩ := cells5 HR2.out))
        rw [hwf, hpf]
        clear hw hwf hp hpf
        go_wp2_with fail
        go_ret2
        exact ⟨by rw [HE.out]; rfl, HB2.out⟩
  · obtain ⟨w0, hw0⟩ : ∃ w0, w0 = w.alloc (.cells #[.slice ka ks.length kc, .int .i64 rv, .int .i64 rm, .int .i64 ra, .bool true] 71) := ⟨_, rfl⟩
    have hb0 : Below w.heap.size w w0 := by rw [hw0]; exact ext_alloc (Below.refl _ _) _
    have HB0 := hidIt hb0
    have HR0 : Hid (w0.heap[w.heap.size]? = some (.cells #[.slice ka ks.length kc, .int .i64 rv, .int .i64 rm, .int .i64 ra, .bool true] 71 (0, 0))) := by unfold Hid; rw [hw0]; exact heap_alloc_new _ _
    have HK0 := hidIt (hk.ext hb0)
    have HL0 := hidIt (hl.ext hb0)
    obtain ⟨_, e0, e1, e2, e3, e4, ef⟩ := cells5 HR0.out
    clear hk hl hb0
    by_cases hw : ks.isPrefixOf l = true
    · skip
      have hwl := (pre_iff.1 hw).length_le
      by_cases hn : l.length = ks.length + 1
      · skip
        have hnb : ((l.length : Int) == ((ks.length : Int) + 1)) = true := by simp; omega
        have HE : Hid (dMts ⟨ks, rv, rm, ra, true⟩ l = (1, l.getLastD 0)) := by unfold Hid dMts; rw [if_pos ⟨hw, by simpa using hn⟩]; simp
        have HN := hidIt hn
        clear hn hwl
        go_enter Tryz.func80, Tryz.ntmps80
        go_upto_region 1 with fail
        rw [← hw0]
        clear hw0
        go_upto_region 6 with (first | (go_at_call 66; refine (r_begins_any _ _ l ks _ HL0.out HK0.out).mono ?_; rintro e w1 ⟨rfl, hb1⟩; (try dsimp only); have HB1 := hidIt (ext_trans HB0.out hb1); have HL1 := hidIt (HL0.out.ext hb1); have HK1 := hidIt (HK0.out.ext hb1); have HR1 := hidIt ((hb1.block _ (Array.getElem?_eq_some_iff.1 HR0.out).1).trans HR0.out); clear hb1 HL0 HK0 HB0 HR0; clear e0 e1 e2 e3 e4 ef; obtain ⟨_, e0, e1, e2, e3, e4, ef⟩ := cells5 HR1.out) | (go_at_call 66; refine (r_begins_any _ _ ks l _ HK1.out HL1.out).mono ?_; rintro e w2 ⟨rfl, hb2⟩; (try dsimp only); have HB2 := hidIt (ext_trans HB1.out hb2); have HL2 := hidIt (HL1.out.ext hb2); have HR2 := hidIt ((hb2.block _ (Array.getElem?_eq_some_iff.1 HR1.out).1).trans HR1.out); clear hb2 HL1 HK1 HB1 HR1; clear e0 e1 e2 e3 e4 ef; obtain ⟨_, e0, e1, e2, e3, e4, ef⟩ := cells5 HR2.out))
        rw [hw]
        clear hw
        obtain ⟨lb, lo, rfl, c9⟩ := rd_at HL2.out (k := ks.length) (by have := HN.out; omega)
        rw [show l[ks.length]?.getD 0 = l.getLastD 0 by rw [List.getLastD_eq_getLast?, List.getLast?_eq_getElem?, HN.out, Nat.add_sub_cancel]] at c9
        generalize l.getLastD 0 = z9 at c9 HE
        have hi8 : (ks.length : Int) < (l.length : Int) := by have := HN.out; omega
        go_wp2_with fail
        go_quiet (fail)
        go_wp2_with fail
        go_ret2
        exact ⟨by rw [HE.out]; rfl, below_drewN HB2.out _⟩
      · have hnb : ((l.length : Int) == ((ks.length : Int) + 1)) = false := by simp; omega
        by_cases hlt : l.length < ks.length + 1
        · skip
          have hltI : (l.length : Int) < ((ks.length : Int) + 1) := by omega
          have HE : Hid (dMts ⟨ks, rv, rm, ra, true⟩ l = (0, 0)) := by unfold Hid dMts; rw [if_neg (by simp; omega), if_pos (.inl ⟨hw, by simpa using hlt⟩)]
          clear hn hwl hlt
          go_enter Tryz.func80, Tryz.ntmps80
          go_upto_region 1 with fail
          rw [← hw0]
          clear hw0
          go_upto_region 6 with (first | (go_at_call 66; refine (r_begins_any _ _ l ks _ HL0.out HK0.out).mono ?_; rintro e w1 ⟨rfl, hb1⟩; (try dsimp only); have HB1 := hidIt (ext_trans HB0.out hb1); have HL1 := hidIt (HL0.out.ext hb1); have HK1 := hidIt (HK0.out.ext hb1); have HR1 := hidIt ((hb1.block _ (Array.getElem?_eq_some_iff.1 HR0.out).1).trans HR0.out); clear hb1 HL0 HK0 HB0 HR0; clear e0 e1 e2 e3 e4 ef; obtain ⟨_, e0, e1, e2, e3, e4, ef⟩ := cells5 HR1.out) | (go_at_call 66; refine (r_begins_any _ _ ks l _ HK1.out HL1.out).mono ?_; rintro e w2 ⟨rfl, hb2⟩; (try dsimp only); have HB2 := hidIt (ext_trans HB1.out hb2); have HL2 := hidIt (HL1.out.ext hb2); have HR2 := hidIt ((hb2.block _ (Array.getElem?_eq_some_iff.1 HR1.out).1).trans HR1.out); clear hb2 HL1 HK1 HB1 HR1; clear e0 e1 e2 e3 e4 ef; obtain ⟨_, e0, e1, e2, e3, e4, ef⟩ := cells5 HR2.out))
          rw [hw]
          clear hw
          go_wp2_with fail
          go_ret2
          exact ⟨by rw [HE.out]; rfl, HB2.out⟩
        · skip
          have hltI : ¬ (l.length : Int) < ((ks.length : Int) + 1) := by omega
          have hl2 : ¬ (l.length : Int) < (ks.length : Int) := by omega
          have HE : Hid (dMts ⟨ks, rv, rm, ra, true⟩ l = (2, 0)) := by unfold Hid dMts; rw [if_neg (by simp; omega), if_neg (by simp; omega)]
          clear hn hwl hlt
          go_enter Tryz.func80, Tryz.ntmps80
          go_upto_region 1 with fail
          rw [← hw0]
          clear hw0
          go_upto_region 6 with (first | (go_at_call 66; refine (r_begins_any _ _ l ks _ HL0.out HK0.out).mono ?_; rintro e w1 ⟨rfl, hb1⟩; (try dsimp only); have HB1 := hidIt (ext_trans HB0.out hb1); have HL1 := hidIt (HL0.out.ext hb1); have HK1 := hidIt (HK0.out.ext hb1); have HR1 := hidIt ((hb1.block _ (Array.getElem?_eq_some_iff.1 HR0.out).1).trans HR0.out); clear hb1 HL0 HK0 HB0 HR0; clear e0 e1 e2 e3 e4 ef; obtain ⟨_, e0, e1, e2, e3, e4, ef⟩ := cells5 HR1.out) | (go_at_call 66; refine (r_begins_any _ _ ks l _ HK1.out HL1.out).mono ?_; rintro e w2 ⟨rfl, hb2⟩; (try dsimp only); have HB2 := hidIt (ext_trans HB1.out hb2); have HL2 := hidIt (HL1.out.ext hb2); have HR2 := hidIt ((hb2.block _ (Array.getElem?_eq_some_iff.1 HR1.out).1).trans HR1.out); clear hb2 HL1 HK1 HB1 HR1; clear e0 e1 e2 e3 e4 ef; obtain ⟨_, e0, e1, e2, e3, e4, ef⟩ := cells5 HR2.out))
          rw [hw]
          clear hw
          generalize l.isPrefixOf ks = pq
          cases pq
          · go_wp2_with fail
            go_ret2
            exact ⟨by rw [HE.out]; rfl, HB2.out⟩
          go_wp2_with fail
          go_ret2
          exact ⟨by rw [HE.out]; rfl, HB2.out⟩
    · skip
      have hwf : ks.isPrefixOf l = false := Bool.eq_false_iff.2 hw
      by_cases hp : l.isPrefixOf ks = true
      · by_cases hlt : l.length < ks.length
        · skip
          have hltI : (l.length : Int) < (ks.length : Int) := by omega
          have HE : Hid (dMts ⟨ks, rv, rm, ra, true⟩ l = (0, 0)) := by unfold Hid dMts; rw [if_neg (by simp [hwf]), if_pos (.inr ⟨hp, hlt⟩)]
          clear hlt
          go_enter Tryz.func80, Tryz.ntmps80
          go_upto_region 1 with fail
          rw [← hw0]
          clear hw0
          go_upto_region 6 with (first | (go_at_call 66; refine (r_begins_any _ _ l ks _ HL0.out HK0.out).mono ?_; rintro e w1 ⟨rfl, hb1⟩; (try dsimp only); have HB1 := hidIt (ext_trans HB0.out hb1); have HL1 := hidIt (HL0.out.ext hb1); have HK1 := hidIt (HK0.out.ext hb1); have HR1 := hidIt ((hb1.block _ (Array.getElem?_eq_some_iff.1 HR0.out).1).trans HR0.out); clear hb1 HL0 HK0 HB0 HR0; clear e0 e1 e2 e3 e4 ef; obtain ⟨_, e0, e1, e2, e3, e4, ef⟩ := cells5 HR1.out) | (go_at_call 66; refine (r_begins_any _ _ ks l _ HK1.out HL1.out).mono ?_; rintro e w2 ⟨rfl, hb2⟩; (try dsimp only); have HB2 := hidIt (ext_trans HB1.out hb2); have HL2 := hidIt (HL1.out.ext hb2); have HR2 := hidIt ((hb2.block _ (Array.getElem?_eq_some_iff.1 HR1.out).1).trans HR1.out); clear hb2 HL1 HK1 HB1 HR1; clear e0 e1 e2 e3 e4 ef; obtain ⟨_, e0, e1, e2, e3, e4, ef⟩ := cells5 HR2.out))
          rw [hwf, hp]
          clear hw hwf hp
          go_wp2_with fail
          go_ret2
          exact ⟨by rw [HE.out]; rfl, HB2.out⟩
        · skip
          have hltI : ¬ (l.length : Int) < (ks.length : Int) := by omega
          have HE : Hid (dMts ⟨ks, rv, rm, ra, true⟩ l = (2, 0)) := by unfold Hid dMts; rw [if_neg (by simp [hwf]), if_neg (by simp [hwf]; intro _; omega)]
          clear hlt
          go_enter Tryz.func80, Tryz.ntmps80
          go_upto_region 1 with fail
          rw [← hw0]
          clear hw0
          go_upto_region 6 with (first | (go_at_call 66; refine (r_begins_any _ _ l ks _ HL0.out HK0.out).mono ?_; rintro e w1 ⟨rfl, hb1⟩; (try dsimp only); have HB1 := hidIt (ext_trans HB0.out hb1); have HL1 := hidIt (HL0.out.ext hb1); have HK1 := hidIt (HK0.out.ext hb1); have HR1 := hidIt ((hb1.block _ (Array.getElem?_eq_some_iff.1 HR0.out).1).trans HR0.out); clear hb1 HL0 HK0 HB0 HR0; clear e0 e1 e2 e3 e4 ef; obtain ⟨_, e0, e1, e2, e3, e4, ef⟩ := cells5 HR1.out) | (go_at_call 66; refine (r_begins_any _ _ ks l _ HK1.out HL1.out).mono ?_; rintro e w2 ⟨rfl, hb2⟩; (try dsimp only); have HB2 := hidIt (ext_trans HB1.out hb2); have HL2 := hidIt (HL1.out.ext hb2); have HR2 := hidIt ((hb2.block _ (Array.getElem?_eq_some_iff.1 HR1.out).1).trans HR1.out); clear hb2 HL1 HK1 HB1 HR1; clear e0 e1 e2 e3 e4 ef; obtain ⟨_, e0, e1, e2, e3, e4, ef⟩ := cells5 HR2.out))
          rw [hwf, hp]
          clear hw hwf hp
          go_wp2_with fail
          go_ret2
          exact ⟨by rw [HE.out]; rfl, HB2.out⟩
      · skip
        have hpf : l.isPrefixOf ks = false := Bool.eq_false_iff.2 hp
        have HE : Hid (dMts ⟨ks, rv, rm, ra, true⟩ l = (2, 0)) := by unfold Hid dMts; rw [if_neg (by simp [hwf]), if_neg (by simp [hwf, hpf])]
        go_enter Tryz.func80, Tryz.ntmps80
        go_upto_region 1 with fail
        rw [← hw0]
        clear hw0
        go_upto_region 6 with (first | (go_at_call 66; refine (r_begins_any _ _ l ks _ HL0.out HK0.out).mono ?_; rintro e w1 ⟨rfl, hb1⟩; (try dsimp only); have HB1 := hidIt (ext_trans HB0.out hb1); have HL1 := hidIt (HL0.out.ext hb1); have HK1 := hidIt (HK0.out.ext hb1); have HR1 := hidIt ((hb1.block _ (Array.getElem?_eq_some_iff.1 HR0.out).1).trans HR0.out); clear hb1 HL0 HK0 HB0 HR0; clear e0 e1 e2 e3 e4 ef; obtain ⟨_, e0, e1, e2, e3, e4, ef⟩ := cells5 HR1.out) | (go_at_call 66; refine (r_begins_any _ _ ks l _ HK1.out HL1.out).mono ?_; rintro e w2 ⟨rfl, hb2⟩; (try dsimp only); have HB2 := hidIt (ext_trans HB1.out hb2); have HL2 := hidIt (HL1.out.ext hb2); have HR2 := hidIt ((hb2.block _ (Array.getElem?_eq_some_iff.1 HR1.out).1).trans HR1.out); clear hb2 HL1 HK1 HB1 HR1; clear e0 e1 e2 e3 e4 ef; obtain ⟨_, e0, e1, e2, e3, e4, ef⟩ := cells5 HR2.out))
        rw [hwf, hpf]
        clear hw hwf hp hpf
        go_wp2_with fail
        go_ret2
        exact ⟨by rw [HE.out]; rfl, HB2.out⟩
set_option maxRecDepth 100000 in
set_option maxHeartbeats 4000000 in
theorem r_command_any (r : DRw) (ka : Option Addr) (kn kc : Nat) (reg cnt arg : Int) (w : World) :
    Calls Tryz.prog 81 #[.agg #[.slice ka kn kc, .int .i64 r.v, .int .i64 r.m, .int .i64 r.a, .bool r.asks], .int .i64 reg, .int .i64 cnt, .int .i64 arg] w fun e w' => e = .returned (cmV (dCmd r reg cnt arg)) ∧ Below w.heap.size w w' := by
  obtain ⟨ks, rv, rm, ra, ras⟩ := r
  dsimp only at *
  obtain ⟨w0, hw0⟩ : ∃ w0, w0 = (w.alloc (.cells #[.slice ka kn kc, .int .i64 rv, .int .i64 rm, .int .i64 ra, .bool ras] 71)).alloc (.cells #[.int .i64 0, .int .i64 0, .int .i64 0, .int .i64 0, .int .i64 0] 33) := ⟨_, rfl⟩
  obtain ⟨i0, i1, hb0⟩ := two_new (w := w) #[.slice ka kn kc, .int .i64 rv, .int .i64 rm, .int .i64 ra, .bool ras] #[.int .i64 0, .int .i64 0, .int .i64 0, .int .i64 0, .int .i64 0] 71 33
  rw [← hw0] at i0 i1 hb0
  obtain ⟨w1, hw1⟩ : ∃ w1, w1 = w0.alloc (.cells #[.int .i64 reg, .int .i64 cnt, .int .i64 rv, .int .i64 rm, .int .i64 arg] 33) := ⟨_, rfl⟩
  have hb1 : Below w0.heap.size w0 w1 := by rw [hw1]; exact ext_alloc (Below.refl _ _) _
  have j2 : w1.heap[w0.heap.size]? = some (.cells #[.int .i64 reg, .int .i64 cnt, .int .i64 rv, .int .i64 rm, .int .i64 arg] 33 (0, 0)) := by rw [hw1]; exact heap_alloc_new _ _
  have l0 := (Array.getElem?_eq_some_iff.1 i0).1
  have l1 := (Array.getElem?_eq_some_iff.1 i1).1
  have j0 := (hb1.block _ l0).trans i0
  have j1 := (hb1.block _ l1).trans i1
  have HBW : Hid (Below w.heap.size w w1) := ext_trans hb0 hb1
  have hge : w.heap.size + 1 < w0.heap.size := l1
  have hle : w.heap.size ≤ w0.heap.size := by omega
  obtain ⟨_, b0, b1, b2, b3, b4, bf⟩ := cells5 i0
  generalize hg : w0.heap.size = g at *
  have HG := hidIt hg
  have HW1 := hidIt hw1
  clear hw1 hg hb0 hb1 l0 l1 i0 i1
  by_cases h2 : rm = 33
  · have h2b : (rm == 33) = true := by simpa using h2
    by_cases h3 : cnt > 0
    · skip
      have HE : Hid (dCmd ⟨ks, rv, rm, ra, ras⟩ reg cnt arg = ⟨reg, cnt, rv, 18, arg⟩) := by unfold Hid dCmd; simp [h2, h3]
      obtain ⟨u1, v1⟩ := set1 j2 3 (.int .i64 18)
      obtain ⟨x1, hx1⟩ : ∃ x, x = w1.setCell ⟨g, 3, none⟩ (.int .i64 18) := ⟨_, rfl⟩
      rw [← hx1] at u1 v1
      have k1 : x1.heap[w.heap.size + 1]? = some (.cells #[.int .i64 0, .int .i64 0, .int .i64 0, .int .i64 0, .int .i64 0] 33 (0, 0)) := (v1.block _ (Array.getElem?_eq_some_iff.1 j1).1 (by simp; omega)).trans j1
      have k2 : x1.heap[g]? = some (.cells #[.int .i64 reg, .int .i64 cnt, .int .i64 rv, .int .i64 18, .int .i64 arg] 33 (0, 0)) := u1
      have HBX := hidIt (below_put HBW.out HBW.out.size v1 hle)
      have HX1 := hidIt hx1
      clear hx1 u1 v1
      have HP := hidIt (put5 k1 (.int .i64 reg) (.int .i64 cnt) (.int .i64 rv) (.int .i64 18) (.int .i64 arg))
      obtain ⟨_, b0, b1, b2, b3, b4, bf⟩ := cells5 j0
      obtain ⟨_, c0, c1, c2, c3, c4, cf⟩ := cells5 j2
      obtain ⟨_, e0, e1, e2, e3, e4, ef⟩ := cells5 k2
      obtain ⟨_, f0, f1, f2, f3, f4, ff⟩ := cells5 k1
      clear j0 j1 j2 k1 k2
      clear h2
      go_enter Tryz.func81, Tryz.ntmps81
      go_upto_region 1 with fail
      rw [← hw0]
      clear hw0
      go_upto_region 2 with fail
      rw [HG.out, ← HW1.out]
      clear HW1 b0 b1 b2 b3 b4 bf
      go_upto_region 4 with fail
      rw [← HX1.out]
      clear HX1 c0 c1 c2 c3 c4 cf
      go_wp2
      refine bodyPost_ret (v := .agg #[.int .i64 reg, .int .i64 cnt, .int .i64 rv, .int .i64 18, .int .i64 arg]) (by simp [results, Tryz.results81, go_sem, f0, f1, f2, f3, f4]) rfl ⟨by rw [HE.out], ?_⟩
      exact below_put HBX.out HBX.out.size HP.out.2 (Nat.le_succ _)
    · skip
      have HE : Hid (dCmd ⟨ks, rv, rm, ra, ras⟩ reg cnt arg = ⟨reg, cnt, rv, rm, arg⟩) := by unfold Hid dCmd; simp [h3]
      have k1 := j1
      have k2 := j2
      have HBX := HBW
      have HP := hidIt (put5 k1 (.int .i64 reg) (.int .i64 cnt) (.int .i64 rv) (.int .i64 rm) (.int .i64 arg))
      obtain ⟨_, b0, b1, b2, b3, b4, bf⟩ := cells5 j0
      obtain ⟨_, c0, c1, c2, c3, c4, cf⟩ := cells5 j2
      obtain ⟨_, e0, e1, e2, e3, e4, ef⟩ := cells5 k2
      obtain ⟨_, f0, f1, f2, f3, f4, ff⟩ := cells5 k1
      clear j0 j1 j2 k1 k2
      clear h2
      go_enter Tryz.func81, Tryz.ntmps81
      go_upto_region 1 with fail
      rw [← hw0]
      clear hw0
      go_upto_region 2 with fail
      rw [HG.out, ← HW1.out]
      clear HW1 b0 b1 b2 b3 b4 bf
      go_wp2
      refine bodyPost_ret (v := .agg #[.int .i64 reg, .int .i64 cnt, .int .i64 rv, .int .i64 rm, .int .i64 arg]) (by simp [results, Tryz.results81, go_sem, f0, f1, f2, f3, f4]) rfl ⟨by rw [HE.out], ?_⟩
      exact below_put HBX.out HBX.out.size HP.out.2 (Nat.le_succ _)
  · have h2b : (rm == 33) = false := by simpa using h2
    have HE : Hid (dCmd ⟨ks, rv, rm, ra, ras⟩ reg cnt arg = ⟨reg, cnt, rv, rm, arg⟩) := by unfold Hid dCmd; simp [h2]
    have k1 := j1
    have k2 := j2
    have HBX := HBW
    have HP := hidIt (put5 k1 (.int .i64 reg) (.int .i64 cnt) (.int .i64 rv) (.int .i64 rm) (.int .i64 arg))
    obtain ⟨_, b0, b1, b2, b3, b4, bf⟩ := cells5 j0
    obtain ⟨_, c0, c1, c2, c3, c4, cf⟩ := cells5 j2
    obtain ⟨_, e0, e1, e2, e3, e4, ef⟩ := cells5 k2
    obtain ⟨_, f0, f1, f2, f3, f4, ff⟩ := cells5 k1
    clear j0 j1 j2 k1 k2
    clear h2
    go_enter Tryz.func81, Tryz.ntmps81
    go_upto_region 1 with fail
    rw [← hw0]
    clear hw0
    go_upto_region 2 with fail
    rw [HG.out, ← HW1.out]
    clear HW1 b0 b1 b2 b3 b4 bf
    go_wp2
    refine bodyPost_ret (v := .agg #[.int .i64 reg, .int .i64 cnt, .int .i64 rv, .int .i64 rm, .int .i64 arg]) (by simp [results, Tryz.results81, go_sem, f0, f1, f2, f3, f4]) rfl ⟨by rw [HE.out], ?_⟩
    exact below_put HBX.out HBX.out.size HP.out.2 (Nat.le_succ _)
set_option maxRecDepth 100000 in
set_option maxHeartbeats 8000000 in
theorem r_among_any (base : Nat) (lv kv : Value) (xs : List (DRw × Value)) (ks : List Int) (reg cnt : Int) (w : World) (hx : OwnD w base lv xs) (hk : RdS w kv ks) (hx1 : ∀ x ∈ xs, x.1.ks.length ≤ 100) (hxl : xs.length ≤ 1000) :
    Calls Tryz.prog 65 #[lv, kv, .int .i64 reg, .int .i64 cnt] w fun e w' => e = .returned (.tuple #[cmV (dAmg reg cnt ks 2 (xs.map Prod.fst)).1, .int .i64 (dAmg reg cnt ks 2 (xs.map Prod.fst)).2]) ∧ Below w.heap.size w w' := by
  generalize hX : dAmg reg cnt ks 2 (xs.map Prod.fst) = X
  obtain ⟨la, ln, lc, rfl⟩ := hx.form
  obtain ⟨ka, kc, rfl, _⟩ := hk.len
  obtain ⟨hln, hlc⟩ : ln = xs.length ∧ xs.length ≤ lc := by
    obtain ⟨⟨ao', cap', e, r1, _⟩, _⟩ := hx.rd
    injection e with e1 e2 e3
    exact ⟨e2, by omega⟩
  subst hln
  obtain ⟨w0, hw0⟩ : ∃ w0, w0 = w.alloc (.cells #[.int .i64 0, .int .i64 0, .int .i64 0, .int .i64 0, .int .i64 0] 33) := ⟨_, rfl⟩
  have HB0 : Hid (Below w.heap.size w w0) := by unfold Hid; rw [hw0]; exact ext_alloc (Below.refl _ _) _
  have HR0 : Hid (w0.heap[w.heap.size]? = some (.cells #[.int .i64 0, .int .i64 0, .int .i64 0, .int .i64 0, .int .i64 0] 33 (0, 0))) := by unfold Hid; rw [hw0]; exact heap_alloc_new _ _
  have HXO := hidIt hx
  have HKS := hidIt hk
  have HX1 := hidIt hx1
  have HXX := hidIt hX
  have HLT := hidIt (Array.getElem?_eq_some_iff.1 HR0.out).1
  clear hx hk hx1 hX
  go_enter Tryz.func65, Tryz.ntmps65
  go_upto_region 1 with fail
  rw [← hw0]
  clear hw0
  go_wp2_with fail
  go_loopw [10, 11] (fun sv iv wr => ∃ (p : Nat) (s : Int), p ≤ xs.length ∧ iv = .int .i64 p ∧ sv = .int .i64 s ∧ Hid (dAmg reg cnt ks s ((xs.map Prod.fst).drop p) = X) ∧ Hid (Below w0.heap.size w0 wr)) (fun _ iv _ => xs.length - (RowKit.intOf iv).toNat)
  case atStart => exact ⟨0, 2, Nat.zero_le _, rfl, rfl, by rw [List.drop_zero]; exact HXX.out, Below.refl _ _⟩
  case round =>
    obtain ⟨p, s, hp, rfl, rfl, HD, HB⟩ := hrel
    have HR1 := hidIt ((HB.out.block _ HLT.out).trans HR0.out)
    have HBW : Hid (Below w.heap.size w wr) := ext_trans HB0.out HB.out
    by_cases hlt : p < xs.length
    · have hltI : (p : Int) < (xs.length : Int) := by omega
      obtain ⟨_, _, g, rfl, x, hx, hxk, d0, d1, d2, d3, d4⟩ := (HXO.out.ext HBW.out).at hlt
      have HNX : Hid ((xs.map Prod.fst).drop p = x.1 :: (xs.map Prod.fst).drop (p + 1)) := by
        have hx2 : (xs.map Prod.fst)[p]? = some x.1 := by rw [List.getElem?_map, hx]; rfl
        obtain ⟨h1, h2⟩ := List.getElem?_eq_some_iff.1 hx2
        unfold Hid
        rw [List.drop_eq_getElem_cons h1, h2]
      have HL1 := hidIt (HX1.out x (List.mem_of_getElem? hx))
      rw [HNX.out, dAmg] at HD
      obtain ⟨r, kv⟩ := x
      dsimp only at *
      obtain ⟨xa, xc, rfl, _⟩ := hxk.1.len
      have HME := hidIt (r_meets_any r (.slice xa r.ks.length xc) (.slice ka ks.length kc) ks wr hxk.1 (HKS.out.ext HBW.out) HL1.out)
      have HCM := hidIt (fun (y : World) => r_command_any r xa r.ks.length xc reg cnt (dMts r ks).2 y)
      have HXB := hidIt (fun (y : World) (hy : Below wr.heap.size wr y) => ((HXO.out.ext HBW.out).ext hy).at hlt)
      clear hx hxk
      generalize (dMts r ks).2 = ar at HD HME HCM
      generalize (dMts r ks).1 = sy at HD HME
      obtain ⟨rk, rv, rm, ra, ras⟩ := r
      dsimp only at *
      go_upto_region 6 with (go_at_call 80; refine HME.out.mono ?_; rintro e y ⟨rfl, hb⟩; (try dsimp only); have HBY := hidIt hb; clear hb)
      obtain ⟨_, _, g2, e2, x2, _, _, q0, q1, q2, q3, q4⟩ := HXB.out y HBY.out
      have HR2 := hidIt ((HBY.out.block _ (Array.getElem?_eq_some_iff.1 HR1.out).1).trans HR1.out)
      have HBN : Hid (Below w.heap.size w y) := ext_trans HBW.out HBY.out
      have HBO : Hid (Below w0.heap.size w0 y) := ext_trans HB.out HBY.out
      have q : y.cell? ⟨g, p * 5, none⟩ = some (.slice xa rk.length xc) ∧ y.cell? ⟨g, p * 5 + 1, none⟩ = some (.int .i64 rv) ∧ y.cell? ⟨g, p * 5 + 2, none⟩ = some (.int .i64 rm) ∧ y.cell? ⟨g, p * 5 + 3, none⟩ = some (.int .i64 ra) ∧ y.cell? ⟨g, p * 5 + 4, none⟩ = some (.bool ras) := by
        have lt : g < wr.heap.size := by
          have := cell_lt d1
          exact this
        exact ⟨(HBY.out.cell (p := ⟨g, p * 5, none⟩) lt).trans d0, (HBY.out.cell (p := ⟨g, p * 5 + 1, none⟩) lt).trans d1, (HBY.out.cell (p := ⟨g, p * 5 + 2, none⟩) lt).trans d2, (HBY.out.cell (p := ⟨g, p * 5 + 3, none⟩) lt).trans d3, (HBY.out.cell (p := ⟨g, p * 5 + 4, none⟩) lt).trans d4⟩
      clear q0 q1 q2 q3 q4 e2 d0 d1 d2 d3 d4 HXB
      obtain ⟨q0, q1, q2, q3, q4⟩ := q
      by_cases h1 : sy = 1
      · subst h1
        rw [if_pos rfl] at HD
        have HCM2 := hidIt (HCM.out y)
        go_upto_region 7 with fail
        generalize hZ : dCmd ⟨rk, rv, rm, ra, ras⟩ reg cnt ar = Z at HD HCM2
        obtain ⟨z0, z1, z2, z3, z4⟩ := Z
        go_wp2_with (go_at_call 81; refine HCM2.out.mono ?_; rintro e y2 ⟨rfl, hb2⟩; (try dsimp only); have HBY2 := hidIt hb2; have HR3 := hidIt ((hb2.block _ (Array.getElem?_eq_some_iff.1 HR2.out).1).trans HR2.out); clear hb2 q0 q1 q2 q3 q4; obtain ⟨_, f0, f1, f2, f3, f4, ff⟩ := cells5 HR3.out)
        have HP := hidIt (put5 HR3.out (.int .i64 z0) (.int .i64 z1) (.int .i64 z2) (.int .i64 z3) (.int .i64 z4))
        refine bodyPost_ret (v := .tuple #[.agg #[.int .i64 z0, .int .i64 z1, .int .i64 z2, .int .i64 z3, .int .i64 z4], .int .i64 1]) (by simp [results, Tryz.results65, go_sem, f0, f1, f2, f3, f4]) rfl ⟨by rw [← HD.out], ?_⟩
        exact below_put (ext_trans HBN.out HBY2.out) (Nat.le_trans HBN.out.size HBY2.out.size) HP.out.2 (Nat.le_refl _)
      · have h1b : (sy == 1) = false := by simpa using h1
        rw [if_neg h1] at HD
        by_cases h0 : sy = 0
        · subst h0
          rw [if_pos rfl] at HD
          go_wp2_with fail
          go_roundw
          case rel => exact ⟨p + 1, 0, by omega, by go_num, rfl, HD.out, HBO.out⟩
          case measure => simp [RowKit.intOf]; omega
        · have h0b : (sy == 0) = false := by simpa using h0
          rw [if_neg h0] at HD
          clear h1 h0
          go_wp2_with fail
          go_roundw
          case rel => exact ⟨p + 1, s, by omega, by go_num, rfl, HD.out, HBO.out⟩
          case measure => simp [RowKit.intOf]; omega
    · obtain rfl : p = xs.length := by omega
      have hge : ¬ (xs.length : Int) < (xs.length : Int) := by omega
      have HDX : Hid (X = (cmZ, s)) := by
        have := HD.out
        rw [List.drop_of_length_le (by rw [List.length_map]; omega), dAmg] at this
        exact this.symm
      obtain ⟨_, f0, f1, f2, f3, f4, ff⟩ := cells5 HR1.out
      have HP := hidIt (put5 HR1.out (.int .i64 0) (.int .i64 0) (.int .i64 0) (.int .i64 0) (.int .i64 0))
      go_wp2_with fail
      refine bodyPost_ret (v := .tuple #[.agg #[.int .i64 0, .int .i64 0, .int .i64 0, .int .i64 0, .int .i64 0], .int .i64 s]) (by simp [results, Tryz.results65, go_sem, f0, f1, f2, f3, f4]) rfl ⟨by rw [HDX.out]; rfl, ?_⟩
      exact below_put HBW.out HBW.out.size HP.out.2 (Nat.le_refl _)
end Go.Proofs.YtfdceljdhgbkcaaGreatDoor
