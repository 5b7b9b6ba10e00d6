import Derived.Test.YtmldfjhfgaggpaaJ07
import Derived.Test.YtmldfjhfgaggpaaJ06
/- register's Yank, Delete, Set. -/
namespace Go.Proofs.Ytmldfjhfgaggpaa
open Go.RowKit
variable {F : Nat → Prop}

set_option maxRecDepth 100000 in
set_option maxHeartbeats 1000000 in
/-- Is there a break? -/
theorem indexFunc_any (v : Value) (t : List Int) (w : World) (h : RdS w v t) : Calls Try.prog 53 #[v, .func (.func 36) #[] #[]] w fun e w' => ∃ r : Int, e = .returned (.int .i64 r) ∧ (decide (0 ≤ r)) = t.any brB ∧ w = w' := by
  by_cases hn : t = []
  · subst hn
    obtain ⟨ao, c, rfl, _⟩ := h.len
    simp only [List.length_nil]
    go_enter Try.func53, Try.ntmps53
    go_wp2_with fail
    refine wp_loop_rounds 1 ?_
    rw [rounds_succ]
    go_wp2_with fail
    go_ret
    exact ⟨-1, rfl, rfl, rfl⟩
  obtain ⟨b, off, c, rfl, hbl, hcap, h63, hcell⟩ := h.last hn
  have BR : Hid (∀ x y, Calls Try.prog 36 #[.int .i64 x] y fun e w' => e = .returned (.bool (brB x)) ∧ y = w') := fun x y => isBreak_any x y
  have HL := hidIt hcell
  clear h hn hcell
  go_enter Try.func53, Try.ntmps53
  go_wp2_with fail
  go_loopw [8] (fun i wr => ∃ k : Nat, k ≤ t.length ∧ i = .int .i64 k ∧ (t.take k).any brB = false ∧ w = wr) (fun i _ => t.length - (RowKit.intOf i).toNat)
  case atStart => exact ⟨0, Nat.zero_le _, rfl, rfl, rfl⟩
  case round =>
    obtain ⟨k, hk, rfl, hany, rfl⟩ := hrel
    by_cases hlt : k < t.length
    · have c1 := HL.out k hlt
      have hi1 : (k : Int) < (t.length : Int) := by omega
      have hst : t.take (k + 1) = t.take k ++ [t[k]?.getD 0] := by
        rw [List.take_succ_eq_append_getElem hlt]
        simp [hlt]
      have HTR := hidIt (show brB (t[k]?.getD 0) = true → t.any brB = true from fun hb => by
        rw [List.any_eq_true]
        exact ⟨t[k], List.getElem_mem hlt, by simpa [hlt] using hb⟩)
      have HFA := hidIt (show brB (t[k]?.getD 0) = false → (t.take (k + 1)).any brB = false from fun hb => by rw [hst, List.any_append, hany]; simp [hb])
      clear hst hany
      have BR' := hidIt (BR.out (t[k]?.getD 0))
      generalize t[k]?.getD 0 = x at *
      cases hx : brB x
      · have BR2 := hidIt (BR'.out w)
        rw [hx] at BR2
        have HF := hidIt (HFA.out hx)
        go_wp2_with (go_at_call 36; refine BR2.out.mono ?_; rintro e y9 ⟨rfl, rfl⟩; (try dsimp only))
        go_roundw
        case rel => exact ⟨k + 1, by omega, by go_num, HF.out, trivial⟩
        case measure => simp [RowKit.intOf]; omega
      · have BR2 := hidIt (BR'.out w)
        rw [hx] at BR2
        have HF := hidIt (HTR.out hx)
        go_wp2_with (go_at_call 36; refine BR2.out.mono ?_; rintro e y9 ⟨rfl, rfl⟩; (try dsimp only))
        go_ret
        exact ⟨k, rfl, by rw [HF.out]; simp, rfl⟩
    · have hkl : k = t.length := by omega
      subst hkl
      rw [List.take_length] at hany
      have HA := hidIt hany
      clear hlt hany
      go_wp2_with fail
      go_ret
      exact ⟨-1, rfl, by rw [HA.out]; rfl, rfl⟩
set_option maxRecDepth 100000 in
theorem containsFunc_any (v : Value) (t : List Int) (w : World) (h : RdS w v t) : Calls Try.prog 35 #[v, .func (.func 36) #[] #[]] w fun e w' => e = .returned (.bool (t.any brB)) ∧ w = w' := by
  have IX := hidIt (indexFunc_any v t w h)
  go_enter Try.func35, Try.ntmps35
  go_wp2_with (go_at_call 53; refine IX.out.mono ?_; rintro e y9 ⟨r, rfl, hr, rfl⟩; have HR := hidIt hr; clear hr; (try dsimp only))
  go_ret
  exact ⟨ret_bool (by rw [← HR.out]), rfl⟩

def yankB (s : Bs) (n : Int) (r : Rg) : Int × Bs := if refE n r.k = 0 then takeB s (if unB n = true then 48 else n) r else (refE n r.k, s)
def deleteB (s : Bs) (n : Int) (r : Rg) : Int × Bs := if refE n r.k = 0 then (if unB n = true then (if (r.k == 1 || r.t.any brB) = true then ringB s r else takeB s 45 r) else takeB s n r) else (refE n r.k, s)
def setB (s : Bs) (n : Int) (t : List Int) : Int × Bs := if (!nmB n || unB n) = true then (110, s) else if (n == 95) = true then (0, s) else if (nil? ⟨0, t⟩) = true then (if grB n = true then (0, s) else (0, ⟨upd s.m n none, s.p⟩)) else writeB s n ⟨0, t⟩
theorem ref_kind {n k : Int} (h : refE n k = 0) : k = 0 ∨ k = 1 := by
  unfold refE at h
  split at h
  · split at h
    · cases h
    · split at h
      · cases h
      · rename_i hk
        simp at hk
        omega
  · cases h
theorem OpR.mono {w : World} {b bm N N' : Nat} {x : Int × Bs} {e : Ending} {w' : World} (h : OpR F w b bm N x e w') (hN : N ≤ N') : OpR F w b bm N' x e w' := ⟨h.1, h.2.1.mono hN, h.2.2⟩

set_option maxRecDepth 100000 in
set_option maxHeartbeats 4000000 in
theorem Yank_any (w : World) (b bm N : Nat) (s : Bs) (n : Int) (r : Rg) (v : Value) (hB : Bk F w b bm N s.m s.p) (hv : RdS w v r.t) (hn : In64 n) (hN : N < 9223372036854775000) :
    Calls Try.prog 14 #[.pointer (some ⟨b, 0, none⟩), .int .i64 n, .agg #[.int .i64 r.k, v]] w (OpR F w b bm (N + 9) (yankB s n r)) := by
  obtain ⟨ao, c, rfl, _⟩ := hv.len
  obtain ⟨w1, hw1, k0, hb1⟩ : ∃ w1, w1 = w.alloc (.cells #[.int .i64 r.k, .slice ao r.t.length c] 31) ∧ w1.heap[w.heap.size]? = some (.cells #[.int .i64 r.k, .slice ao r.t.length c] 31 (0, 0)) ∧ Below w.heap.size w w1 := ⟨_, rfl, heap_alloc_new _ _, ext_alloc (Below.refl _ _) _⟩
  have HB1 := hidIt hb1
  have HBK := hidIt (hB.ext hb1)
  have RF := hidIt (refused_any n r.k w1)
  have UN := hidIt (isUnnamed_any n w1)
  obtain ⟨_, c0, c1, _⟩ := cells2 k0
  by_cases hre : refE n r.k = 0
  · have TK : Hid (∀ q, In64 q → Calls Try.prog 34 #[.pointer (some ⟨b, 0, none⟩), .int .i64 q, .agg #[.int .i64 r.k, .slice ao r.t.length c]] w1 (OpR F w1 b bm (N + 1) (takeB s q r))) := fun q hq => take_any w1 b bm N s q r _ HBK.out (hv.ext hb1) hq (ref_kind hre) (by omega)
    rw [hre] at RF
    cases hun : unB n
    · have HT := hidIt (show yankB s n r = takeB s n r by unfold yankB; rw [if_pos hre, hun]; rfl)
      rw [hun] at UN
      have TKn := hidIt (TK.out n hn)
      clear hB hv k0 hb1 hn hre hun TK
      go_enter Try.func14, Try.ntmps14
      go_upto_region 1 with fail
      rw [← hw1]
      clear hw1
      go_wp2_with (first | (go_at_call 32; refine RF.out.mono ?_; rintro e y9 ⟨rfl, rfl⟩; (try dsimp only)) | (go_at_call 33; refine UN.out.mono ?_; rintro e y9 ⟨rfl, rfl⟩; (try dsimp only)) | (go_at_call 34; refine TKn.out.mono ?_; rintro e w3 ⟨rfl, hbk, hkb⟩; have HB3 := hidIt hbk; have HK3 := hidIt hkb; clear hbk hkb; (try dsimp only)))
      go_ret
      exact ⟨by rw [HT.out]; rfl, by rw [HT.out]; exact HB3.out.mono (by omega), (Kb.of HB1.out).trans HK3.out⟩
    · have HT := hidIt (show yankB s n r = takeB s 48 r by unfold yankB; rw [if_pos hre, hun]; rfl)
      rw [hun] at UN
      have TKn := hidIt (TK.out 48 (In64.of (by omega) (by omega)))
      clear hB hv k0 hb1 hn hre hun TK
      go_enter Try.func14, Try.ntmps14
      go_upto_region 1 with fail
      rw [← hw1]
      clear hw1
      go_wp2_with (first | (go_at_call 32; refine RF.out.mono ?_; rintro e y9 ⟨rfl, rfl⟩; (try dsimp only)) | (go_at_call 33; refine UN.out.mono ?_; rintro e y9 ⟨rfl, rfl⟩; (try dsimp only)) | (go_at_call 34; refine TKn.out.mono ?_; rintro e w3 ⟨rfl, hbk, hkb⟩; have HB3 := hidIt hbk; have HK3 := hidIt hkb; clear hbk hkb; (try dsimp only)))
      go_ret
      exact ⟨by rw [HT.out]; rfl, by rw [HT.out]; exact HB3.out.mono (by omega), (Kb.of HB1.out).trans HK3.out⟩
  · have HT := hidIt (show yankB s n r = (refE n r.k, s) by unfold yankB; rw [if_neg hre])
    have hne : (refE n r.k != 0) = true := by simp [hre]
    generalize refE n r.k = er at *
    clear hB hv k0 hb1 hn hre
    go_enter Try.func14, Try.ntmps14
    go_upto_region 1 with fail
    rw [← hw1]
    clear hw1
    go_wp2_with (go_at_call 32; refine RF.out.mono ?_; rintro e y9 ⟨rfl, rfl⟩; (try dsimp only))
    go_ret
    exact ⟨by rw [HT.out]; rfl, by rw [HT.out]; exact HBK.out.mono (by omega), Kb.of HB1.out⟩
end Go.Proofs.Ytmldfjhfgaggpaa

/- register's Delete, Set. -/
namespace Go.Proofs.Ytmldfjhfgaggpaa
open Go.RowKit
variable {F : Nat → Prop}

set_option maxRecDepth 100000 in
set_option maxHeartbeats 4000000 in
theorem Delete_any (w : World) (b bm N : Nat) (s : Bs) (n : Int) (r : Rg) (v : Value) (hB : Bk F w b bm N s.m s.p) (hv : RdS w v r.t) (hn : In64 n) (hN : N < 9223372036854775000) :
    Calls Try.prog 16 #[.pointer (some ⟨b, 0, none⟩), .int .i64 n, .agg #[.int .i64 r.k, v]] w (OpR F w b bm (N + 9) (deleteB s n r)) := by
  obtain ⟨ao, c, rfl, _⟩ := hv.len
  obtain ⟨w1, hw1, k0, hb1⟩ : ∃ w1, w1 = w.alloc (.cells #[.int .i64 r.k, .slice ao r.t.length c] 31) ∧ w1.heap[w.heap.size]? = some (.cells #[.int .i64 r.k, .slice ao r.t.length c] 31 (0, 0)) ∧ Below w.heap.size w w1 := ⟨_, rfl, heap_alloc_new _ _, ext_alloc (Below.refl _ _) _⟩
  have HB1 := hidIt hb1
  have HBK := hidIt (hB.ext hb1)
  have RF := hidIt (refused_any n r.k w1)
  have UN := hidIt (isUnnamed_any n w1)
  have CF := hidIt (containsFunc_any _ r.t w1 (hv.ext hb1))
  obtain ⟨_, c0, c1, _⟩ := cells2 k0
  by_cases hre : refE n r.k = 0
  · have TKA : Hid (∀ q, In64 q → Calls Try.prog 34 #[.pointer (some ⟨b, 0, none⟩), .int .i64 q, .agg #[.int .i64 r.k, .slice ao r.t.length c]] w1 (OpR F w1 b bm (N + 1) (takeB s q r))) := fun q hq => take_any w1 b bm N s q r _ HBK.out (hv.ext hb1) hq (ref_kind hre) (by omega)
    rw [hre] at RF
    cases hun : unB n
    · have HT := hidIt (show deleteB s n r = takeB s n r by unfold deleteB; rw [if_pos hre, hun]; rfl)
      rw [hun] at UN
      have TK := hidIt (TKA.out n hn)
      clear hB hv k0 hb1 hn hre hun TKA
      go_enter Try.func16, Try.ntmps16
      go_upto_region 1 with fail
      rw [← hw1]
      clear hw1
      go_wp2_with (first | (go_at_call 32; refine RF.out.mono ?_; rintro e y9 ⟨rfl, rfl⟩; (try dsimp only)) | (go_at_call 33; refine UN.out.mono ?_; rintro e y9 ⟨rfl, rfl⟩; (try dsimp only)) | (go_at_call 34; refine TK.out.mono ?_; rintro e w3 ⟨rfl, hbk, hkb⟩; have HB3 := hidIt hbk; have HK3 := hidIt hkb; clear hbk hkb; (try dsimp only)))
      go_ret
      exact ⟨by rw [HT.out]; rfl, by rw [HT.out]; exact HB3.out.mono (by omega), (Kb.of HB1.out).trans HK3.out⟩
    · rw [hun] at UN
      have hrt : r.k = 1 ∨ r.t.any brB = true → r.t ≠ [] ∨ r.k = 1 := fun h => by
        rcases h with h | h
        · exact .inr h
        · left
          intro e
          rw [e] at h
          cases h
      have RNA : Hid ((r.k = 1 ∨ r.t.any brB = true) → Calls Try.prog 37 #[.pointer (some ⟨b, 0, none⟩), .agg #[.int .i64 r.k, .slice ao r.t.length c]] w1 (OpR F w1 b bm (N + 9) (ringB s r))) := fun h => ring_any w1 b bm N s r _ HBK.out (hv.ext hb1) (hrt h) (ref_kind hre) hN
      by_cases hk1 : r.k = 1
      · have HT := hidIt (show deleteB s n r = ringB s r by unfold deleteB; rw [if_pos hre, hun, if_pos rfl, if_pos (by simp [hk1])])
        have RN := hidIt (RNA.out (.inl hk1))
        clear hB hv k0 hb1 hn hre hun TKA RNA hrt
        have hkb : (r.k == 1) = true := by simp [hk1]
        clear hk1
        go_enter Try.func16, Try.ntmps16
        go_upto_region 1 with fail
        rw [← hw1]
        clear hw1
        go_wp2_with (first | (go_at_call 32; refine RF.out.mono ?_; rintro e y9 ⟨rfl, rfl⟩; (try dsimp only)) | (go_at_call 33; refine UN.out.mono ?_; rintro e y9 ⟨rfl, rfl⟩; (try dsimp only)) | (go_at_call 37; refine RN.out.mono ?_; rintro e w3 ⟨rfl, hbk, hkb⟩; have HB3 := hidIt hbk; have HK3 := hidIt hkb; clear hbk hkb; (try dsimp only)))
        go_ret
        exact ⟨by rw [HT.out]; rfl, by rw [HT.out]; exact HB3.out.mono (by omega), (Kb.of HB1.out).trans HK3.out⟩
      · have hkb : (r.k == 1) = false := by simp [hk1]
        cases hany : r.t.any brB
        · have HT := hidIt (show deleteB s n r = takeB s 45 r by unfold deleteB; rw [if_pos hre, hun, if_pos rfl, if_neg (by simp [hkb, hany])])
          have TK := hidIt (TKA.out 45 (In64.of (by omega) (by omega)))
          rw [hany] at CF
          clear hB hv k0 hb1 hn hre hun TKA RNA hrt hk1 hany
          go_enter Try.func16, Try.ntmps16
          go_upto_region 1 with fail
          rw [← hw1]
          clear hw1
          go_wp2_with (first | (go_at_call 32; refine RF.out.mono ?_; rintro e y9 ⟨rfl, rfl⟩; (try dsimp only)) | (go_at_call 33; refine UN.out.mono ?_; rintro e y9 ⟨rfl, rfl⟩; (try dsimp only)) | (go_at_call 35; refine CF.out.mono ?_; rintro e y9 ⟨rfl, rfl⟩; (try dsimp only)) | (go_at_call 34; refine TK.out.mono ?_; rintro e w3 ⟨rfl, hbk, hkb⟩; have HB3 := hidIt hbk; have HK3 := hidIt hkb; clear hbk hkb; (try dsimp only)))
          go_ret
          exact ⟨by rw [HT.out]; rfl, by rw [HT.out]; exact HB3.out.mono (by omega), (Kb.of HB1.out).trans HK3.out⟩
        · have HT := hidIt (show deleteB s n r = ringB s r by unfold deleteB; rw [if_pos hre, hun, if_pos rfl, if_pos (by simp [hany])])
          have RN := hidIt (RNA.out (.inr hany))
          rw [hany] at CF
          clear hB hv k0 hb1 hn hre hun TKA RNA hrt hk1 hany
          go_enter Try.func16, Try.ntmps16
          go_upto_region 1 with fail
          rw [← hw1]
          clear hw1
          go_wp2_with (first | (go_at_call 32; refine RF.out.mono ?_; rintro e y9 ⟨rfl, rfl⟩; (try dsimp only)) | (go_at_call 33; refine UN.out.mono ?_; rintro e y9 ⟨rfl, rfl⟩; (try dsimp only)) | (go_at_call 35; refine CF.out.mono ?_; rintro e y9 ⟨rfl, rfl⟩; (try dsimp only)) | (go_at_call 37; refine RN.out.mono ?_; rintro e w3 ⟨rfl, hbk, hkb⟩; have HB3 := hidIt hbk; have HK3 := hidIt hkb; clear hbk hkb; (try dsimp only)))
          go_ret
          exact ⟨by rw [HT.out]; rfl, by rw [HT.out]; exact HB3.out.mono (by omega), (Kb.of HB1.out).trans HK3.out⟩
  · have HT := hidIt (show deleteB s n r = (refE n r.k, s) by unfold deleteB; rw [if_neg hre])
    have hne : (refE n r.k != 0) = true := by simp [hre]
    generalize refE n r.k = er at *
    clear hB hv k0 hb1 hn hre
    go_enter Try.func16, Try.ntmps16
    go_upto_region 1 with fail
    rw [← hw1]
    clear hw1
    go_wp2_with (first | (go_at_call 32; refine RF.out.mono ?_; rintro e y9 ⟨rfl, rfl⟩; (try dsimp only)))
    go_ret
    exact ⟨by rw [HT.out]; rfl, by rw [HT.out]; exact HBK.out.mono (by omega), Kb.of HB1.out⟩

set_option maxRecDepth 100000 in
set_option maxHeartbeats 4000000 in
theorem Set_any (w : World) (b bm N : Nat) (s : Bs) (n : Int) (t : List Int) (v : Value) (hB : Bk F w b bm N s.m s.p) (hv : RdS w v t) (hn : In64 n) (hN : N < 9223372036854775000) :
    Calls Try.prog 18 #[.pointer (some ⟨b, 0, none⟩), .int .i64 n, v] w (OpR F w b bm (N + 9) (setB s n t)) := by
  obtain ⟨ao, c, rfl, _⟩ := hv.len
  obtain ⟨w1, hw1, k0, hb1⟩ : ∃ w1, w1 = w.alloc (.cells #[.int .i64 0, .slice ao t.length c] 31) ∧ w1.heap[w.heap.size]? = some (.cells #[.int .i64 0, .slice ao t.length c] 31 (0, 0)) ∧ Below w.heap.size w w1 := ⟨_, rfl, heap_alloc_new _ _, ext_alloc (Below.refl _ _) _⟩
  have HB1 := hidIt hb1
  have HB0 := hidIt hB
  have HBK := hidIt (hB.ext hb1)
  have HK0 := hidIt k0
  have NM := hidIt (isName_any n w)
  have UN := hidIt (isUnnamed_any n w)
  have IN := hidIt (isNothing_any 0 _ t w1 (hv.ext hb1))
  have GR : Hid (∀ y, Calls Try.prog 41 #[.int .i64 n] y fun e w' => e = .returned (.bool (grB n)) ∧ y = w') := fun y => isGreat_any n y
  have HC : Hid (∀ w2, Below w1.heap.size w1 w2 → w2.cell? ⟨w.heap.size, 0, none⟩ = some (.int .i64 0) ∧ w2.cell? ⟨w.heap.size, 1, none⟩ = some (.slice ao t.length c)) := fun w2 hb => by
    have e := (hb.block _ (Array.getElem?_eq_some_iff.1 HK0.out).1).trans HK0.out
    exact ⟨(cells2 e).2.1, (cells2 e).2.2.1⟩
  have WRA : Hid (t ≠ [] → ∀ w2, Below w1.heap.size w1 w2 → Calls Try.prog 40 #[.pointer (some ⟨b, 0, none⟩), .int .i64 n, .agg #[.int .i64 0, .slice ao t.length c]] w2 (OpR F w2 b bm (N + 1) (writeB s n ⟨0, t⟩))) := fun ht w2 hb => write_any w2 b bm N s n ⟨0, t⟩ _ (HBK.out.ext hb) ((hv.ext hb1).ext hb) hn (.inl ht) (.inl rfl) (by omega)
  obtain ⟨_, c0, c1, _⟩ := cells2 k0
  cases hnm : nmB n
  · have HT := hidIt (show setB s n t = (110, s) by unfold setB; rw [hnm]; rfl)
    rw [hnm] at NM
    clear hB hv k0 hb1 hn
    go_enter Try.func18, Try.ntmps18
    go_wp2_with (first | (go_at_call 38; refine NM.out.mono ?_; rintro e y9 ⟨rfl, rfl⟩; (try dsimp only)))
    go_ret
    exact ⟨by rw [HT.out]; rfl, by rw [HT.out]; exact HB0.out.mono (by omega), Kb.refl _ _ _⟩
  rw [hnm] at NM
  cases hun : unB n
  case true =>
    have HT := hidIt (show setB s n t = (110, s) by unfold setB; rw [hnm, hun]; rfl)
    rw [hun] at UN
    clear hB hv k0 hb1 hn
    go_enter Try.func18, Try.ntmps18
    go_wp2_with (first | (go_at_call 38; refine NM.out.mono ?_; rintro e y9 ⟨rfl, rfl⟩; (try dsimp only)) | (go_at_call 33; refine UN.out.mono ?_; rintro e y9 ⟨rfl, rfl⟩; (try dsimp only)))
    go_ret
    exact ⟨by rw [HT.out]; rfl, by rw [HT.out]; exact HB0.out.mono (by omega), Kb.refl _ _ _⟩
  rw [hun] at UN
  have hs0 : setB s n t = if (n == 95) = true then (0, s) else if (nil? ⟨0, t⟩) = true then (if grB n = true then (0, s) else (0, ⟨upd s.m n none, s.p⟩)) else writeB s n ⟨0, t⟩ := by unfold setB; rw [hnm, hun]; rfl
  by_cases h95 : n = 95
  · have hb95 : (n == 95) = true := by simp [h95]
    have HT := hidIt (hs0.trans (if_pos hb95))
    clear hB hv k0 hb1 hn h95 hs0
    go_enter Try.func18, Try.ntmps18
    go_upto_region 4 with (first | (go_at_call 38; refine NM.out.mono ?_; rintro e y9 ⟨rfl, rfl⟩; (try dsimp only)) | (go_at_call 33; refine UN.out.mono ?_; rintro e y9 ⟨rfl, rfl⟩; (try dsimp only)))
    rw [← hw1]
    clear hw1
    go_wp2_with fail
    go_ret
    exact ⟨by rw [HT.out]; rfl, by rw [HT.out]; exact HBK.out.mono (by omega), Kb.of HB1.out⟩
  have hb95 : (n == 95) = false := by simp [h95]
  rw [if_neg (by simp [hb95])] at hs0
  by_cases ht : t = []
  · have hl0 : ((t.length : Int) == 0) = true := by simp [ht]
    rw [if_pos (by rw [ht]; rfl)] at hs0
    rw [show ((0 : Int) == 0 && (t.length : Int) == 0) = true by rw [hl0]; rfl] at IN
    cases hgr : grB n
    · have HT := hidIt (show setB s n t = (0, ⟨upd s.m n none, s.p⟩) from hs0.trans (if_neg (by simp [hgr])))
      rw [hgr] at GR
      have DR : Hid (∀ w2, Below w1.heap.size w1 w2 → ∃ w', (Builtin.delete_ #[68, 3] 0 #[.map (some bm), .int .i64 n]).run Try.prog w2 = .ok (.tuple #[]) w' ∧ Bk F w' b bm N (upd s.m n none) s.p ∧ w2.grownBy w' (some bm)) := fun w2 hb => (HBK.out.ext hb).drop hn 0
      clear hB hv k0 hb1 hn h95 hs0 ht
      go_enter Try.func18, Try.ntmps18
      go_upto_region 4 with (first | (go_at_call 38; refine NM.out.mono ?_; rintro e y9 ⟨rfl, rfl⟩; (try dsimp only)) | (go_at_call 33; refine UN.out.mono ?_; rintro e y9 ⟨rfl, rfl⟩; (try dsimp only)))
      rw [← hw1]
      clear hw1
      go_wp2_with (first | (go_at_call 39; refine IN.out.mono ?_; rintro e w2 ⟨rfl, hb2⟩; have HB2 := hidIt hb2; clear hb2; clear c0 c1; obtain ⟨c0, c1⟩ := HC.out w2 HB2.out; obtain ⟨w4, hrun, hbk4, hg4⟩ := DR.out w2 HB2.out; have HBK4 := hidIt hbk4; have HG4 := hidIt hg4; have cb := (HBK.out.ext HB2.out).cells.1; clear hbk4 hg4; (try dsimp only)) | (go_at_call 41; refine (GR.out _).mono ?_; rintro e y9 ⟨rfl, rfl⟩; (try dsimp only)))
      go_ret
      exact ⟨by rw [HT.out]; rfl, by rw [HT.out]; exact HBK4.out.mono (by omega), (Kb.of (ext_trans HB1.out HB2.out)).trans (Kb.of_m HG4.out)⟩
    · have HT := hidIt (hs0.trans (if_pos hgr))
      rw [hgr] at GR
      clear hB hv k0 hb1 hn h95 hs0 ht
      go_enter Try.func18, Try.ntmps18
      go_upto_region 4 with (first | (go_at_call 38; refine NM.out.mono ?_; rintro e y9 ⟨rfl, rfl⟩; (try dsimp only)) | (go_at_call 33; refine UN.out.mono ?_; rintro e y9 ⟨rfl, rfl⟩; (try dsimp only)))
      rw [← hw1]
      clear hw1
      go_wp2_with (first | (go_at_call 39; refine IN.out.mono ?_; rintro e w2 ⟨rfl, hb2⟩; have HB2 := hidIt hb2; clear hb2; clear c0 c1; obtain ⟨c0, c1⟩ := HC.out w2 HB2.out; (try dsimp only)) | (go_at_call 41; refine (GR.out _).mono ?_; rintro e y9 ⟨rfl, rfl⟩; (try dsimp only)))
      go_ret
      exact ⟨by rw [HT.out]; rfl, by rw [HT.out]; exact (HBK.out.ext HB2.out).mono (by omega), Kb.of (ext_trans HB1.out HB2.out)⟩
  · have hl0 : ((t.length : Int) == 0) = false := by simp [ht]
    rw [if_neg (by unfold nil?; dsimp only; rw [hl0]; simp)] at hs0
    rw [show ((0 : Int) == 0 && (t.length : Int) == 0) = false by rw [hl0]; rfl] at IN
    have HT := hidIt hs0
    have WR := hidIt (WRA.out ht)
    clear hB hv k0 hb1 hn h95 hs0 ht WRA
    go_enter Try.func18, Try.ntmps18
    go_upto_region 4 with (first | (go_at_call 38; refine NM.out.mono ?_; rintro e y9 ⟨rfl, rfl⟩; (try dsimp only)) | (go_at_call 33; refine UN.out.mono ?_; rintro e y9 ⟨rfl, rfl⟩; (try dsimp only)))
    rw [← hw1]
    clear hw1
    go_wp2_with (first | (go_at_call 39; refine IN.out.mono ?_; rintro e w2 ⟨rfl, hb2⟩; have HB2 := hidIt hb2; clear hb2; clear c0 c1; obtain ⟨c0, c1⟩ := HC.out w2 HB2.out; (try dsimp only)) | (go_at_call 40; refine (WR.out _ HB2.out).mono ?_; rintro e w3 ⟨rfl, hbk, hkb⟩; have HB3 := hidIt hbk; have HK3 := hidIt hkb; clear hbk hkb; (try dsimp only)))
    go_ret
    exact ⟨by rw [HT.out]; rfl, by rw [HT.out]; exact HB3.out.mono (by omega), (Kb.of (ext_trans HB1.out HB2.out)).trans HK3.out⟩
end Go.Proofs.Ytmldfjhfgaggpaa

/- The laws' helpers: able, bank, kept, holds. -/
namespace Go.Proofs.Ytmldfjhfgaggpaa
open Go.RowKit
variable {F : Nat → Prop}

section
variable {P : Program} (W : World)
/-- append([]int(nil), s...) as an operation of a drawn region. -/
theorem wp_append_fresh {op : Oper} {a : Act} {K : Act → World → Prop} {Q : Exit → Act → World → Prop} (s x : Operand) (t : TypeId) (ho : op.op = .call { callee := .builtin .append, args := #[s, x], argTypes := #[t, t] })
    (hinf : (P.info? 3).map (fun i => (i.zero, i.size, i.bytes)) = some (some (.int .i64 0), 1, 8)) (ht : P.underlying t = some (.slice 3))
    (hs : a.eval s = .slice none 0 0) (u : Value) (ys : List Int) (hx : a.eval x = u) (hu : RdS W u ys) (hl : ys.length * 8 ≤ 140737488355328)
    (h : ∀ v' w', OwnI w' W.heap.size v' ys → Below W.heap.size W w' → K (a.put op.dst v') w') : op.wp P a W K Q := by
  obtain ⟨i0, hi, hz0, hz1, hz2⟩ := info_parts hinf
  obtain ⟨hr, hsl⟩ := hu
  rcases hsl with rfl | ⟨ad, n, c, rfl⟩
  · have : ys = [] := by
      obtain ⟨ao, cap, hv, _⟩ := hr
      have : ys.length = 0 := by injection hv with _ h2 _; omega
      exact List.length_eq_zero_iff.1 this
    subst this
    have hrun := run_append_owned_none (P := P) (w := W) W.heap.size t op.type 3 i0 1 ht hi (.slice none 0 0) 0 [] (OwnI.nil W _)
    unfold Oper.wp execOp
    simp only [ho, resolve, invoke, builtin, Sem.run_bind, Sem.run_pure, Result.andThen_ok, List.map_toArray, List.map_cons, List.map_nil, hs, hx, hrun]
    exact h _ W (OwnI.nil W _) (Below.refl _ _)
  · obtain ⟨hn, hc⟩ := rd_cells hr
    subst hn
    obtain ⟨v', w', hrun, h2, h3, _⟩ := run_append_own (P := P) W W.heap.size t op.type 3 i0 (.int .i64 0) 1 8 ht hi hz0 hz1 hz2 rfl (by decide) (.slice none 0 0) 0 [] (OwnI.nil W _) ad ys.length c (ys.map (Value.int .i64)) (by simp) hc (one_all _ _) (by unfold maxLen; omega) (by omega) (Nat.le_refl _)
    unfold Oper.wp execOp
    simp only [ho, resolve, invoke, builtin, Sem.run_bind, Sem.run_pure, Result.andThen_ok, List.map_toArray, List.map_cons, List.map_nil, hs, hx, hrun]
    refine h v' w' ?_ ((Below.refl _ _).grown h3 (Nat.le_refl _) (fun k hk => by cases hk))
    unfold OwnI
    simpa using h2
end
theorem Kb.below {b bm base : Nat} {w w' : World} (h : Kb b bm w w') (hb : base ≤ b) (hm : base ≤ bm) (hs : base ≤ w.heap.size) : Below base w w' := Kps.below h hs (fun k e => by rcases e with rfl | rfl <;> assumption)
theorem rds_two (w : World) (x y : Int) : RdS (w.alloc (.cells #[.int .i64 x, .int .i64 y] 3)) (.slice (some ⟨w.heap.size, 0, none⟩) 2 2) [x, y] := by
  refine ⟨⟨some ⟨w.heap.size, 0, none⟩, 2, rfl, by simp, by decide, fun _ => ⟨w.heap.size, 0, rfl, by simp, fun i hi => ?_⟩⟩, .inr ⟨_, _, _, rfl⟩⟩
  simp at hi
  rw [cell_of_row _ _ _ _ _ _ (heap_alloc_new _ _)]
  match i, hi with
  | 0, _ => rfl
  | 1, _ => rfl
/-- A list of its own stays behind a call on a bank. -/
theorem OwnI.kb {b bm N base : Nat} {m : Int → Option Rg} {p : Int} {w w' : World} {v : Value} {zs : List Int} (h : OwnI w base v zs) (k : Kb b bm w w') (hB : Bk F w b bm N m p) : OwnI w' base v zs := by
  obtain ⟨h1, h2⟩ := h
  refine ⟨h1, ?_⟩
  rcases h2 with h2 | ⟨g, cap, cur, hv, hb, hg, r⟩
  · exact .inl h2
  · refine .inr ⟨g, cap, cur, hv, hb, (k.block (Array.getElem?_eq_some_iff.1 hg).1 (fun e => ?_) (fun e => ?_)).trans hg, r⟩
    · subst e
      rw [hB.1] at hg
      cases hg
    · subst e
      obtain ⟨_, _, _, _, ⟨_, _, hm, _⟩, _⟩ := hB
      rw [hm] at hg
      cases hg

set_option maxRecDepth 100000 in
set_option maxHeartbeats 4000000 in
/-- holds answers true. -/
theorem holds_any (w : World) (b bm N : Nat) (m : Int → Option Rg) (p n : Int) (x : Rg) (v : Value) (hB : Bk F w b bm N m p) (hn : In64 n) (hg : getB m p n = (0, some x)) (hv : Rd .i64 w v x.t) :
    Calls Try.prog 15 #[.pointer (some ⟨b, 0, none⟩), .int .i64 n, .int .i64 x.k, v] w fun e w' => e = .returned (.bool true) ∧ Below w.heap.size w w' := by
  have GT : Hid (Calls Try.prog 20 #[.pointer (some ⟨b, 0, none⟩), .int .i64 n] w fun e w' => (∃ u, e = .returned (.tuple #[.agg #[.int .i64 x.k, u], .int .i64 0]) ∧ OwnI w' w.heap.size u x.t) ∧ Below w.heap.size w w') := by
    have h := Get_any w b bm N m p n hB hn
    rw [hg] at h
    exact h
  have HV := hidIt hv
  clear hB hn hg hv
  go_enter Try.func15, Try.ntmps15
  go_upto_region 2 with (go_at_call 20; refine GT.out.mono ?_; rintro e w1 ⟨⟨u, rfl, hu⟩, hb1⟩; obtain ⟨ao, nn, c, eu⟩ := hu.form; subst eu; have HU := hidIt hu; have HB1 := hidIt hb1; clear hu hb1; (try dsimp only))
  generalize hw3 : World.alloc _ _ = w3
  have HB3 : Hid (Below w1.heap.size w1 w3) := by unfold Hid; rw [← hw3]; exact ext_alloc (Below.refl _ _) _
  have HK3 : Hid (w3.heap[w1.heap.size]? = some (.cells #[.int .i64 x.k, .slice ao nn c] 31 (0, 0))) := by unfold Hid; rw [← hw3]; exact heap_alloc_new _ _
  clear hw3
  obtain ⟨_, d0, d1, _⟩ := cells2 HK3.out
  have hkk : (x.k == x.k) = true := by simp
  have SI := hidIt (sameInts_any _ _ x.t w3 (HU.out.rd.ext HB3.out) (HV.out.ext (ext_trans HB1.out HB3.out)))
  generalize x.k = k at *
  go_wp2_with (go_at_call 26; refine SI.out.mono ?_; rintro e w4 ⟨rfl, hb4⟩; have HB4 := hidIt hb4; clear hb4; (try dsimp only))
  go_ret
  exact ⟨rfl, ext_trans (ext_trans HB1.out HB3.out) HB4.out⟩

set_option maxRecDepth 100000 in
set_option maxHeartbeats 4000000 in
theorem able_any (w : World) : Calls Try.prog 12 #[] w fun e w' => e = .returned (.bool true) ∧ Below w.heap.size w w' := by
  have NW := hidIt (New_any w)
  have Y1 : (yankB ⟨fun _ => none, 0⟩ 97 ⟨0, [1, 2]⟩).1 = 0 := by decide
  have G1 : getB (yankB ⟨fun _ => none, 0⟩ 97 ⟨0, [1, 2]⟩).2.m (yankB ⟨fun _ => none, 0⟩ 97 ⟨0, [1, 2]⟩).2.p 97 = (0, some ⟨0, [1, 2]⟩) := by rfl
  have HY := hidIt Y1
  have HG := hidIt G1
  clear Y1 G1
  go_enter Try.func12, Try.ntmps12
  go_upto_region 2 with (go_at_call 31; refine NW.out.mono ?_; rintro e w1 ⟨b, bm, rfl, hbk, h1, h2, hb⟩; have HB1 := hidIt hb; have HBK := hidIt hbk; have HS := hidIt (And.intro h1 h2); clear hb hbk h1 h2; (try dsimp only))
  have YK : Hid (∀ w', Below w1.heap.size w1 w' → ∀ v, RdS w' v [1, 2] → Calls Try.prog 14 #[.pointer (some ⟨b, 0, none⟩), .int .i64 97, .agg #[.int .i64 0, v]] w' (OpR (F1 b) w' b bm (0 + 9) (yankB ⟨fun _ => none, 0⟩ 97 ⟨0, [1, 2]⟩))) := fun w' hb v hv => Yank_any w' b bm 0 ⟨fun _ => none, 0⟩ 97 ⟨0, [1, 2]⟩ v (HBK.out.ext hb) hv (In64.of (by omega) (by omega)) (by omega)
  go_upto_region 4 with (go_at_call 14; refine (YK.out _ (ext_alloc (Below.refl _ _) _) _ (rds_two _ _ _)).mono ?_; rintro e w2 ⟨he, hbk, hkb⟩; rw [HY.out] at he; subst he; have HBK2 := hidIt hbk; have HKB := hidIt hkb; clear hbk hkb; (try dsimp only))
  have HB2 := hidIt (ext_trans HB1.out (ext_alloc (Below.refl _ _) (.cells #[.int .i64 1, .int .i64 2] 3)))
  have HB3 := hidIt (HB2.out.trans (HKB.out.below HS.out.1 HS.out.2 HB2.out.size))
  have GT : Hid (Calls Try.prog 20 #[.pointer (some ⟨b, 0, none⟩), .int .i64 97] w2 fun e w' => (∃ u, e = .returned (.tuple #[.agg #[.int .i64 0, u], .int .i64 0]) ∧ OwnI w' w2.heap.size u [1, 2]) ∧ Below w2.heap.size w2 w') := by
    have h := Get_any w2 b bm _ _ _ 97 HBK2.out (In64.of (by omega) (by omega))
    rw [HG.out] at h
    exact h
  go_upto_region 5 with (go_at_call 20; refine GT.out.mono ?_; rintro e w4 ⟨⟨u, rfl, hu⟩, hb1⟩; obtain ⟨ao, nn, c, eu⟩ := hu.form; subst eu; have HU := hidIt hu; have HB4 := hidIt hb1; clear hu hb1; (try dsimp only))
  generalize hw5 : World.alloc _ _ = w5
  have HB5 : Hid (Below w4.heap.size w4 w5) := by unfold Hid; rw [← hw5]; exact ext_alloc (Below.refl _ _) _
  have HK5 : Hid (w5.heap[w4.heap.size]? = some (.cells #[.int .i64 0, .slice ao nn c] 31 (0, 0))) := by unfold Hid; rw [← hw5]; exact heap_alloc_new _ _
  clear hw5
  obtain ⟨_, d0, d1, _⟩ := cells2 HK5.out
  have SI := hidIt (sameInts_any _ _ [1, 2] (w5.alloc (.cells #[.int .i64 1, .int .i64 2] 3)) ((HU.out.rd.ext HB5.out).ext (ext_alloc (Below.refl _ _) _)) (rds_two w5 1 2).1)
  go_wp2_with (go_at_call 26; refine SI.out.mono ?_; rintro e w6 ⟨rfl, hb6⟩; have HB6 := hidIt hb6; clear hb6; (try dsimp only))
  go_ret
  exact ⟨rfl, HB3.out.trans (((ext_trans (ext_trans (ext_trans HB4.out HB5.out) (ext_alloc (Below.refl _ _) _)) HB6.out)).mono HB3.out.size)⟩

set_option maxRecDepth 100000 in
set_option maxHeartbeats 1000000 in
theorem broken_any (v : Value) (t : List Int) (w : World) (h : RdS w v t) : Calls Try.prog 44 #[v] w fun e w' => e = .returned (.bool (ends t)) ∧ w = w' := by
  by_cases hn : t = []
  · subst hn
    obtain ⟨ao, c, rfl, _⟩ := h.len
    simp only [List.length_nil]
    go_enter Try.func44, Try.ntmps44
    go_wp2_with fail
    go_ret
    exact ⟨rfl, rfl⟩
  obtain ⟨b, off, c, rfl, hbl, hcap, h63, hcell⟩ := h.last hn
  have he := ends_at t hn
  have hpos := List.length_pos_iff.2 hn
  obtain ⟨q, hq⟩ : ∃ q, q = t.length - 1 := ⟨_, rfl⟩
  rw [← hq] at he
  have hx := hcell q (by omega)
  have hwr : IntKind.i64.wrap ((t.length : Int) - 1) = (q : Int) := by rw [IntKind.wrap_i64]; omega
  have hql : (q : Int) < (t.length : Int) := by omega
  have hp0 : (t.length : Int) > 0 := by omega
  rw [he]
  generalize t[q]?.getD 0 = x at *
  generalize t.length = n at *
  clear he hcell h hn hq hpos
  unfold brB
  by_cases h10 : x = 10
  · subst h10
    go_enter Try.func44, Try.ntmps44
    go_wp2_with fail
    go_ret
    exact ⟨rfl, rfl⟩
  · have hb10 : (x == 10) = false := by simp [h10]
    go_enter Try.func44, Try.ntmps44
    go_wp2_with fail
    go_ret
    exact ⟨ret_bool (by simp [hb10]), rfl⟩
set_option maxRecDepth 100000 in
set_option maxHeartbeats 1000000 in
theorem kept_any (k : Int) (v : Value) (t : List Int) (w : World) (h : RdS w v t) (hl : t.length * 8 ≤ 140737488351232) : Calls Try.prog 21 #[.int .i64 k, v] w fun e w' => ∃ v', e = .returned v' ∧ OwnI w' w.heap.size v' (cls k t) ∧ Below w.heap.size w w' := by
  have H := hidIt h
  have BR : Hid (∀ w', Below w.heap.size w w' → Calls Try.prog 44 #[v] w' fun e w'' => e = .returned (.bool (ends t)) ∧ w' = w'') := fun w' hb => broken_any v t w' (h.ext hb)
  clear h
  by_cases hk : k = 1
  · subst hk
    cases he : ends t
    · have HC := hidIt (show cls 1 t = t ++ [10] by unfold cls; rw [he]; rfl)
      rw [he] at BR
      go_enter Try.func21, Try.ntmps21
      go_upto_region 2 with (at_builtin; refine wpl_ints rfl _ _ 29 rfl w.heap.size Try.info_i64 Try.underlying29 _ [] rfl (OwnI.nil _ _) _ t rfl H.out (by simp; omega) (Nat.le_refl _) ?_; intro v2 w2 own2 hb2; have O2 := hidIt own2; have B2 := hidIt hb2; clear own2 hb2)
      go_wp2_with (first | (go_at_call 44; refine (BR.out _ B2.out).mono ?_; rintro e y9 ⟨rfl, rfl⟩; (try dsimp only)) | (at_builtin; refine wpl_ints rfl _ _ 29 rfl w.heap.size Try.info_i64 Try.underlying29 _ t rfl (O2.out.ext (ext_alloc (Below.refl _ _) _)) _ [10] rfl (rds_one _ _) (by simp; omega) (by have := B2.out.size; simp; omega) ?_; intro v3 w3 own3 hb3; have O3 := hidIt own3; have B3 := hidIt hb3; clear own3 hb3))
      go_ret
      exact ⟨_, rfl, by rw [HC.out]; exact O3.out, (ext_alloc B2.out _).trans B3.out⟩
    · have HC := hidIt (show cls 1 t = t by unfold cls; rw [he]; rfl)
      rw [he] at BR
      go_enter Try.func21, Try.ntmps21
      go_upto_region 2 with (at_builtin; refine wpl_ints rfl _ _ 29 rfl w.heap.size Try.info_i64 Try.underlying29 _ [] rfl (OwnI.nil _ _) _ t rfl H.out (by simp; omega) (Nat.le_refl _) ?_; intro v2 w2 own2 hb2; have O2 := hidIt own2; have B2 := hidIt hb2; clear own2 hb2)
      go_wp2_with (go_at_call 44; refine (BR.out _ B2.out).mono ?_; rintro e y9 ⟨rfl, rfl⟩; (try dsimp only))
      go_ret
      exact ⟨_, rfl, by rw [HC.out]; exact O2.out, B2.out⟩
  · have hkb : (k == 1) = false := by simp [hk]
    have HC := hidIt (show cls k t = t by unfold cls; rw [hkb]; rfl)
    go_enter Try.func21, Try.ntmps21
    go_upto_region 2 with (at_builtin; refine wpl_ints rfl _ _ 29 rfl w.heap.size Try.info_i64 Try.underlying29 _ [] rfl (OwnI.nil _ _) _ t rfl H.out (by simp; omega) (Nat.le_refl _) ?_; intro v2 w2 own2 hb2; have O2 := hidIt own2; have B2 := hidIt hb2; clear own2 hb2)
    go_wp2_with fail
    go_ret
    exact ⟨_, rfl, by rw [HC.out]; exact O2.out, B2.out⟩
end Go.Proofs.Ytmldfjhfgaggpaa
