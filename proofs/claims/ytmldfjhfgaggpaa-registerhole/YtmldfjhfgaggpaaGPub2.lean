/- register's Delete, Set. -/
import Derived.Test.YtmldfjhfgaggpaaGPub
namespace Go.Proofs.Ytmldfjhfgaggpaa
open Go.RowKit
variable {F : Nat → Prop}

set_option maxRecDepth 100000 in
set_option maxHeartbeats 4000000 in
theorem Delete_any (w : World) (b bm N : Nat) (s : Bs) (n : Int) (r : Rg) (v : Value) (hB : Bk F w b bm N s.m s.p) (hv : RdS w v r.t) (hn : In64 n) (hN : N < 9223372036854775000) :
    Calls Try.prog 16 #[.pointer (some ⟨b, 0, none⟩), .int .i64 n, .agg #[.int .i64 r.k, v]] w (OpR F w b bm (N + 9) (deleteB s n r)) := by
  obtain ⟨ao, c, rfl, _⟩ := hv.len
  obtain ⟨w1, hw1, k0, hb1⟩ : ∃ w1, w1 = w.alloc (.cells #[.int .i64 r.k, .slice ao r.t.length c] 31) ∧ w1.heap[w.heap.size]? = some (.cells #[.int .i64 r.k, .slice ao r.t.length c] 31 (0, 0)) ∧ Below w.heap.size w w1 := ⟨_, rfl, heap_alloc_new _ _, ext_alloc (Below.refl _ _) _⟩
  have HB1 := hidIt hb1
  have HBK := hidIt (hB.ext hb1)
  have RF := hidIt (refused_any n r.k w1)
  have UN := hidIt (isUnnamed_any n w1)
  have CF := hidIt (containsFunc_any _ r.t w1 (hv.ext hb1))
  obtain ⟨_, c0, c1, _⟩ := cells2 k0
  by_cases hre : refE n r.k = 0
  · have TKA : Hid (∀ q, In64 q → Calls Try.prog 34 #[.pointer (some ⟨b, 0, none⟩), .int .i64 q, .agg #[.int .i64 r.k, .slice ao r.t.length c]] w1 (OpR F w1 b bm (N + 1) (takeB s q r))) := fun q hq => take_any w1 b bm N s q r _ HBK.out (hv.ext hb1) hq (ref_kind hre) (by omega)
    rw [hre] at RF
    cases hun : unB n
    · have HT := hidIt (show deleteB s n r = takeB s n r by unfold deleteB; rw [if_pos hre, hun]; rfl)
      rw [hun] at UN
      have TK := hidIt (TKA.out n hn)
      clear hB hv k0 hb1 hn hre hun TKA
      go_enter Try.func16, Try.ntmps16
      go_upto_region 1 with fail
      rw [← hw1]
      clear hw1
      go_wp2_with (first | (go_at_call 32; refine RF.out.mono ?_; rintro e y9 ⟨rfl, rfl⟩; (try dsimp only)) | (go_at_call 33; refine UN.out.mono ?_; rintro e y9 ⟨rfl, rfl⟩; (try dsimp only)) | (go_at_call 34; refine TK.out.mono ?_; rintro e w3 ⟨rfl, hbk, hkb⟩; have HB3 := hidIt hbk; have HK3 := hidIt hkb; clear hbk hkb; (try dsimp only)))
      go_ret
      exact ⟨by rw [HT.out]; rfl, by rw [HT.out]; exact HB3.out.mono (by omega), (Kb.of HB1.out).trans HK3.out⟩
    · rw [hun] at UN
      have hrt : r.k = 1 ∨ r.t.any brB = true → r.t ≠ [] ∨ r.k = 1 := fun h => by
        rcases h with h | h
        · exact .inr h
        · left
          intro e
          rw [e] at h
          cases h
      have RNA : Hid ((r.k = 1 ∨ r.t.any brB = true) → Calls Try.prog 37 #[.pointer (some ⟨b, 0, none⟩), .agg #[.int .i64 r.k, .slice ao r.t.length c]] w1 (OpR F w1 b bm (N + 9) (ringB s r))) := fun h => ring_any w1 b bm N s r _ HBK.out (hv.ext hb1) (hrt h) (ref_kind hre) hN
      by_cases hk1 : r.k = 1
      · have HT := hidIt (show deleteB s n r = ringB s r by unfold deleteB; rw [if_pos hre, hun, if_pos rfl, if_pos (by simp [hk1])])
        have RN := hidIt (RNA.out (.inl hk1))
        clear hB hv k0 hb1 hn hre hun TKA RNA hrt
        have hkb : (r.k == 1) = true := by simp [hk1]
        clear hk1
        go_enter Try.func16, Try.ntmps16
        go_upto_region 1 with fail
        rw [← hw1]
        clear hw1
        go_wp2_with (first | (go_at_call 32; refine RF.out.mono ?_; rintro e y9 ⟨rfl, rfl⟩; (try dsimp only)) | (go_at_call 33; refine UN.out.mono ?_; rintro e y9 ⟨rfl, rfl⟩; (try dsimp only)) | (go_at_call 37; refine RN.out.mono ?_; rintro e w3 ⟨rfl, hbk, hkb⟩; have HB3 := hidIt hbk; have HK3 := hidIt hkb; clear hbk hkb; (try dsimp only)))
        go_ret
        exact ⟨by rw [HT.out]; rfl, by rw [HT.out]; exact HB3.out.mono (by omega), (Kb.of HB1.out).trans HK3.out⟩
      · have hkb : (r.k == 1) = false := by simp [hk1]
        cases hany : r.t.any brB
        · have HT := hidIt (show deleteB s n r = takeB s 45 r by unfold deleteB; rw [if_pos hre, hun, if_pos rfl, if_neg (by simp [hkb, hany])])
          have TK := hidIt (TKA.out 45 (In64.of (by omega) (by omega)))
          rw [hany] at CF
          clear hB hv k0 hb1 hn hre hun TKA RNA hrt hk1 hany
          go_enter Try.func16, Try.ntmps16
          go_upto_region 1 with fail
          rw [← hw1]
          clear hw1
          go_wp2_with (first | (go_at_call 32; refine RF.out.mono ?_; rintro e y9 ⟨rfl, rfl⟩; (try dsimp only)) | (go_at_call 33; refine UN.out.mono ?_; rintro e y9 ⟨rfl, rfl⟩; (try dsimp only)) | (go_at_call 35; refine CF.out.mono ?_; rintro e y9 ⟨rfl, rfl⟩; (try dsimp only)) | (go_at_call 34; refine TK.out.mono ?_; rintro e w3 ⟨rfl, hbk, hkb⟩; have HB3 := hidIt hbk; have HK3 := hidIt hkb; clear hbk hkb; (try dsimp only)))
          go_ret
          exact ⟨by rw [HT.out]; rfl, by rw [HT.out]; exact HB3.out.mono (by omega), (Kb.of HB1.out).trans HK3.out⟩
        · have HT := hidIt (show deleteB s n r = ringB s r by unfold deleteB; rw [if_pos hre, hun, if_pos rfl, if_pos (by simp [hany])])
          have RN := hidIt (RNA.out (.inr hany))
          rw [hany] at CF
          clear hB hv k0 hb1 hn hre hun TKA RNA hrt hk1 hany
          go_enter Try.func16, Try.ntmps16
          go_upto_region 1 with fail
          rw [← hw1]
          clear hw1
          go_wp2_with (first | (go_at_call 32; refine RF.out.mono ?_; rintro e y9 ⟨rfl, rfl⟩; (try dsimp only)) | (go_at_call 33; refine UN.out.mono ?_; rintro e y9 ⟨rfl, rfl⟩; (try dsimp only)) | (go_at_call 35; refine CF.out.mono ?_; rintro e y9 ⟨rfl, rfl⟩; (try dsimp only)) | (go_at_call 37; refine RN.out.mono ?_; rintro e w3 ⟨rfl, hbk, hkb⟩; have HB3 := hidIt hbk; have HK3 := hidIt hkb; clear hbk hkb; (try dsimp only)))
          go_ret
          exact ⟨by rw [HT.out]; rfl, by rw [HT.out]; exact HB3.out.mono (by omega), (Kb.of HB1.out).trans HK3.out⟩
  · have HT := hidIt (show deleteB s n r = (refE n r.k, s) by unfold deleteB; rw [if_neg hre])
    have hne : (refE n r.k != 0) = true := by simp [hre]
    generalize refE n r.k = er at *
    clear hB hv k0 hb1 hn hre
    go_enter Try.func16, Try.ntmps16
    go_upto_region 1 with fail
    rw [← hw1]
    clear hw1
    go_wp2_with (first | (go_at_call 32; refine RF.out.mono ?_; rintro e y9 ⟨rfl, rfl⟩; (try dsimp only)))
    go_ret
    exact ⟨by rw [HT.out]; rfl, by rw [HT.out]; exact HBK.out.mono (by omega), Kb.of HB1.out⟩

set_option maxRecDepth 100000 in
set_option maxHeartbeats 4000000 in
theorem Set_any (w : World) (b bm N : Nat) (s : Bs) (n : Int) (t : List Int) (v : Value) (hB : Bk F w b bm N s.m s.p) (hv : RdS w v t) (hn : In64 n) (hN : N < 9223372036854775000) :
    Calls Try.prog 18 #[.pointer (some ⟨b, 0, none⟩), .int .i64 n, v] w (OpR F w b bm (N + 9) (setB s n t)) := by
  obtain ⟨ao, c, rfl, _⟩ := hv.len
  obtain ⟨w1, hw1, k0, hb1⟩ : ∃ w1, w1 = w.alloc (.cells #[.int .i64 0, .slice ao t.length c] 31) ∧ w1.heap[w.heap.size]? = some (.cells #[.int .i64 0, .slice ao t.length c] 31 (0, 0)) ∧ Below w.heap.size w w1 := ⟨_, rfl, heap_alloc_new _ _, ext_alloc (Below.refl _ _) _⟩
  have HB1 := hidIt hb1
  have HB0 := hidIt hB
  have HBK := hidIt (hB.ext hb1)
  have HK0 := hidIt k0
  have NM := hidIt (isName_any n w)
  have UN := hidIt (isUnnamed_any n w)
  have IN := hidIt (isNothing_any 0 _ t w1 (hv.ext hb1))
  have GR : Hid (∀ y, Calls Try.prog 41 #[.int .i64 n] y fun e w' => e = .returned (.bool (grB n)) ∧ y = w') := fun y => isGreat_any n y
  have HC : Hid (∀ w2, Below w1.heap.size w1 w2 → w2.cell? ⟨w.heap.size, 0, none⟩ = some (.int .i64 0) ∧ w2.cell? ⟨w.heap.size, 1, none⟩ = some (.slice ao t.length c)) := fun w2 hb => by
    have e := (hb.block _ (Array.getElem?_eq_some_iff.1 HK0.out).1).trans HK0.out
    exact ⟨(cells2 e).2.1, (cells2 e).2.2.1⟩
  have WRA : Hid (t ≠ [] → ∀ w2, Below w1.heap.size w1 w2 → Calls Try.prog 40 #[.pointer (some ⟨b, 0, none⟩), .int .i64 n, .agg #[.int .i64 0, .slice ao t.length c]] w2 (OpR F w2 b bm (N + 1) (writeB s n ⟨0, t⟩))) := fun ht w2 hb => write_any w2 b bm N s n ⟨0, t⟩ _ (HBK.out.ext hb) ((hv.ext hb1).ext hb) hn (.inl ht) (.inl rfl) (by omega)
  obtain ⟨_, c0, c1, _⟩ := cells2 k0
  cases hnm : nmB n
  · have HT := hidIt (show setB s n t = (110, s) by unfold setB; rw [hnm]; rfl)
    rw [hnm] at NM
    clear hB hv k0 hb1 hn
    go_enter Try.func18, Try.ntmps18
    go_wp2_with (first | (go_at_call 38; refine NM.out.mono ?_; rintro e y9 ⟨rfl, rfl⟩; (try dsimp only)))
    go_ret
    exact ⟨by rw [HT.out]; rfl, by rw [HT.out]; exact HB0.out.mono (by omega), Kb.refl _ _ _⟩
  rw [hnm] at NM
  cases hun : unB n
  case true =>
    have HT := hidIt (show setB s n t = (110, s) by unfold setB; rw [hnm, hun]; rfl)
    rw [hun] at UN
    clear hB hv k0 hb1 hn
    go_enter Try.func18, Try.ntmps18
    go_wp2_with (first | (go_at_call 38; refine NM.out.mono ?_; rintro e y9 ⟨rfl, rfl⟩; (try dsimp only)) | (go_at_call 33; refine UN.out.mono ?_; rintro e y9 ⟨rfl, rfl⟩; (try dsimp only)))
    go_ret
    exact ⟨by rw [HT.out]; rfl, by rw [HT.out]; exact HB0.out.mono (by omega), Kb.refl _ _ _⟩
  rw [hun] at UN
  have hs0 : setB s n t = if (n == 95) = true then (0, s) else if (nil? ⟨0, t⟩) = true then (if grB n = true then (0, s) else (0, ⟨upd s.m n none, s.p⟩)) else writeB s n ⟨0, t⟩ := by unfold setB; rw [hnm, hun]; rfl
  by_cases h95 : n = 95
  · have hb95 : (n == 95) = true := by simp [h95]
    have HT := hidIt (hs0.trans (if_pos hb95))
    clear hB hv k0 hb1 hn h95 hs0
    go_enter Try.func18, Try.ntmps18
    go_upto_region 4 with (first | (go_at_call 38; refine NM.out.mono ?_; rintro e y9 ⟨rfl, rfl⟩; (try dsimp only)) | (go_at_call 33; refine UN.out.mono ?_; rintro e y9 ⟨rfl, rfl⟩; (try dsimp only)))
    rw [← hw1]
    clear hw1
    go_wp2_with fail
    go_ret
    exact ⟨by rw [HT.out]; rfl, by rw [HT.out]; exact HBK.out.mono (by omega), Kb.of HB1.out⟩
  have hb95 : (n == 95) = false := by simp [h95]
  rw [if_neg (by simp [hb95])] at hs0
  by_cases ht : t = []
  · have hl0 : ((t.length : Int) == 0) = true := by simp [ht]
    rw [if_pos (by rw [ht]; rfl)] at hs0
    rw [show ((0 : Int) == 0 && (t.length : Int) == 0) = true by rw [hl0]; rfl] at IN
    cases hgr : grB n
    · have HT := hidIt (show setB s n t = (0, ⟨upd s.m n none, s.p⟩) from hs0.trans (if_neg (by simp [hgr])))
      rw [hgr] at GR
      have DR : Hid (∀ w2, Below w1.heap.size w1 w2 → ∃ w', (Builtin.delete_ #[68, 3] 0 #[.map (some bm), .int .i64 n]).run Try.prog w2 = .ok (.tuple #[]) w' ∧ Bk F w' b bm N (upd s.m n none) s.p ∧ w2.grownBy w' (some bm)) := fun w2 hb => (HBK.out.ext hb).drop hn 0
      clear hB hv k0 hb1 hn h95 hs0 ht
      go_enter Try.func18, Try.ntmps18
      go_upto_region 4 with (first | (go_at_call 38; refine NM.out.mono ?_; rintro e y9 ⟨rfl, rfl⟩; (try dsimp only)) | (go_at_call 33; refine UN.out.mono ?_; rintro e y9 ⟨rfl, rfl⟩; (try dsimp only)))
      rw [← hw1]
      clear hw1
      go_wp2_with (first | (go_at_call 39; refine IN.out.mono ?_; rintro e w2 ⟨rfl, hb2⟩; have HB2 := hidIt hb2; clear hb2; clear c0 c1; obtain ⟨c0, c1⟩ := HC.out w2 HB2.out; obtain ⟨w4, hrun, hbk4, hg4⟩ := DR.out w2 HB2.out; have HBK4 := hidIt hbk4; have HG4 := hidIt hg4; have cb := (HBK.out.ext HB2.out).cells.1; clear hbk4 hg4; (try dsimp only)) | (go_at_call 41; refine (GR.out _).mono ?_; rintro e y9 ⟨rfl, rfl⟩; (try dsimp only)))
      go_ret
      exact ⟨by rw [HT.out]; rfl, by rw [HT.out]; exact HBK4.out.mono (by omega), (Kb.of (ext_trans HB1.out HB2.out)).trans (Kb.of_m HG4.out)⟩
    · have HT := hidIt (hs0.trans (if_pos hgr))
      rw [hgr] at GR
      clear hB hv k0 hb1 hn h95 hs0 ht
      go_enter Try.func18, Try.ntmps18
      go_upto_region 4 with (first | (go_at_call 38; refine NM.out.mono ?_; rintro e y9 ⟨rfl, rfl⟩; (try dsimp only)) | (go_at_call 33; refine UN.out.mono ?_; rintro e y9 ⟨rfl, rfl⟩; (try dsimp only)))
      rw [← hw1]
      clear hw1
      go_wp2_with (first | (go_at_call 39; refine IN.out.mono ?_; rintro e w2 ⟨rfl, hb2⟩; have HB2 := hidIt hb2; clear hb2; clear c0 c1; obtain ⟨c0, c1⟩ := HC.out w2 HB2.out; (try dsimp only)) | (go_at_call 41; refine (GR.out _).mono ?_; rintro e y9 ⟨rfl, rfl⟩; (try dsimp only)))
      go_ret
      exact ⟨by rw [HT.out]; rfl, by rw [HT.out]; exact (HBK.out.ext HB2.out).mono (by omega), Kb.of (ext_trans HB1.out HB2.out)⟩
  · have hl0 : ((t.length : Int) == 0) = false := by simp [ht]
    rw [if_neg (by unfold nil?; dsimp only; rw [hl0]; simp)] at hs0
    rw [show ((0 : Int) == 0 && (t.length : Int) == 0) = false by rw [hl0]; rfl] at IN
    have HT := hidIt hs0
    have WR := hidIt (WRA.out ht)
    clear hB hv k0 hb1 hn h95 hs0 ht WRA
    go_enter Try.func18, Try.ntmps18
    go_upto_region 4 with (first | (go_at_call 38; refine NM.out.mono ?_; rintro e y9 ⟨rfl, rfl⟩; (try dsimp only)) | (go_at_call 33; refine UN.out.mono ?_; rintro e y9 ⟨rfl, rfl⟩; (try dsimp only)))
    rw [← hw1]
    clear hw1
    go_wp2_with (first | (go_at_call 39; refine IN.out.mono ?_; rintro e w2 ⟨rfl, hb2⟩; have HB2 := hidIt hb2; clear hb2; clear c0 c1; obtain ⟨c0, c1⟩ := HC.out w2 HB2.out; (try dsimp only)) | (go_at_call 40; refine (WR.out _ HB2.out).mono ?_; rintro e w3 ⟨rfl, hbk, hkb⟩; have HB3 := hidIt hbk; have HK3 := hidIt hkb; clear hbk hkb; (try dsimp only)))
    go_ret
    exact ⟨by rw [HT.out]; rfl, by rw [HT.out]; exact HB3.out.mono (by omega), (Kb.of (ext_trans HB1.out HB2.out)).trans HK3.out⟩
end Go.Proofs.Ytmldfjhfgaggpaa
