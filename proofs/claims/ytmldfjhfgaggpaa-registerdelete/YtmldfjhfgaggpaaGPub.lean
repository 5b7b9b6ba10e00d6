/- register's Yank, Delete, Set. -/
import Derived.Test.YtmldfjhfgaggpaaGRing
import Derived.Test.YtmldfjhfgaggpaaGGet
namespace Go.Proofs.Ytmldfjhfgaggpaa
open Go.RowKit
variable {F : Nat → Prop}

set_option maxRecDepth 100000 in
set_option maxHeartbeats 1000000 in
/-- Is there a break? -/
theorem indexFunc_any (v : Value) (t : List Int) (w : World) (h : RdS w v t) : Calls Try.prog 53 #[v, .func (.func 36) #[] #[]] w fun e w' => ∃ r : Int, e = .returned (.int .i64 r) ∧ (decide (0 ≤ r)) = t.any brB ∧ w = w' := by
  by_cases hn : t = []
  · subst hn
    obtain ⟨ao, c, rfl, _⟩ := h.len
    simp only [List.length_nil]
    go_enter Try.func53, Try.ntmps53
    go_wp2_with fail
    refine wp_loop_rounds 1 ?_
    rw [rounds_succ]
    go_wp2_with fail
    go_ret
    exact ⟨-1, rfl, rfl, rfl⟩
  obtain ⟨b, off, c, rfl, hbl, hcap, h63, hcell⟩ := h.last hn
  have BR : Hid (∀ x y, Calls Try.prog 36 #[.int .i64 x] y fun e w' => e = .returned (.bool (brB x)) ∧ y = w') := fun x y => isBreak_any x y
  have HL := hidIt hcell
  clear h hn hcell
  go_enter Try.func53, Try.ntmps53
  go_wp2_with fail
  go_loopw [8] (fun i wr => ∃ k : Nat, k ≤ t.length ∧ i = .int .i64 k ∧ (t.take k).any brB = false ∧ w = wr) (fun i _ => t.length - (RowKit.intOf i).toNat)
  case atStart => exact ⟨0, Nat.zero_le _, rfl, rfl, rfl⟩
  case round =>
    obtain ⟨k, hk, rfl, hany, rfl⟩ := hrel
    by_cases hlt : k < t.length
    · have c1 := HL.out k hlt
      have hi1 : (k : Int) < (t.length : Int) := by omega
      have hst : t.take (k + 1) = t.take k ++ [t[k]?.getD 0] := by
        rw [List.take_succ_eq_append_getElem hlt]
        simp [hlt]
      have HTR := hidIt (show brB (t[k]?.getD 0) = true → t.any brB = true from fun hb => by
        rw [List.any_eq_true]
        exact ⟨t[k], List.getElem_mem hlt, by simpa [hlt] using hb⟩)
      have HFA := hidIt (show brB (t[k]?.getD 0) = false → (t.take (k + 1)).any brB = false from fun hb => by rw [hst, List.any_append, hany]; simp [hb])
      clear hst hany
      have BR' := hidIt (BR.out (t[k]?.getD 0))
      generalize t[k]?.getD 0 = x at *
      cases hx : brB x
      · have BR2 := hidIt (BR'.out w)
        rw [hx] at BR2
        have HF := hidIt (HFA.out hx)
        go_wp2_with (go_at_call 36; refine BR2.out.mono ?_; rintro e y9 ⟨rfl, rfl⟩; (try dsimp only))
        go_roundw
        case rel => exact ⟨k + 1, by omega, by go_num, HF.out, trivial⟩
        case measure => simp [RowKit.intOf]; omega
      · have BR2 := hidIt (BR'.out w)
        rw [hx] at BR2
        have HF := hidIt (HTR.out hx)
        go_wp2_with (go_at_call 36; refine BR2.out.mono ?_; rintro e y9 ⟨rfl, rfl⟩; (try dsimp only))
        go_ret
        exact ⟨k, rfl, by rw [HF.out]; simp, rfl⟩
    · have hkl : k = t.length := by omega
      subst hkl
      rw [List.take_length] at hany
      have HA := hidIt hany
      clear hlt hany
      go_wp2_with fail
      go_ret
      exact ⟨-1, rfl, by rw [HA.out]; rfl, rfl⟩
set_option maxRecDepth 100000 in
theorem containsFunc_any (v : Value) (t : List Int) (w : World) (h : RdS w v t) : Calls Try.prog 35 #[v, .func (.func 36) #[] #[]] w fun e w' => e = .returned (.bool (t.any brB)) ∧ w = w' := by
  have IX := hidIt (indexFunc_any v t w h)
  go_enter Try.func35, Try.ntmps35
  go_wp2_with (go_at_call 53; refine IX.out.mono ?_; rintro e y9 ⟨r, rfl, hr, rfl⟩; have HR := hidIt hr; clear hr; (try dsimp only))
  go_ret
  exact ⟨ret_bool (by rw [← HR.out]), rfl⟩

def yankB (s : Bs) (n : Int) (r : Rg) : Int × Bs := if refE n r.k = 0 then takeB s (if unB n = true then 48 else n) r else (refE n r.k, s)
def deleteB (s : Bs) (n : Int) (r : Rg) : Int × Bs := if refE n r.k = 0 then (if unB n = true then (if (r.k == 1 || r.t.any brB) = true then ringB s r else takeB s 45 r) else takeB s n r) else (refE n r.k, s)
def setB (s : Bs) (n : Int) (t : List Int) : Int × Bs := if (!nmB n || unB n) = true then (110, s) else if (n == 95) = true then (0, s) else if (nil? ⟨0, t⟩) = true then (if grB n = true then (0, s) else (0, ⟨upd s.m n none, s.p⟩)) else writeB s n ⟨0, t⟩
theorem ref_kind {n k : Int} (h : refE n k = 0) : k = 0 ∨ k = 1 := by
  unfold refE at h
  split at h
  · split at h
    · cases h
    · split at h
      · cases h
      · rename_i hk
        simp at hk
        omega
  · cases h
theorem OpR.mono {w : World} {b bm N N' : Nat} {x : Int × Bs} {e : Ending} {w' : World} (h : OpR F w b bm N x e w') (hN : N ≤ N') : OpR F w b bm N' x e w' := ⟨h.1, h.2.1.mono hN, h.2.2⟩

set_option maxRecDepth 100000 in
set_option maxHeartbeats 4000000 in
theorem Yank_any (w : World) (b bm N : Nat) (s : Bs) (n : Int) (r : Rg) (v : Value) (hB : Bk F w b bm N s.m s.p) (hv : RdS w v r.t) (hn : In64 n) (hN : N < 9223372036854775000) :
    Calls Try.prog 14 #[.pointer (some ⟨b, 0, none⟩), .int .i64 n, .agg #[.int .i64 r.k, v]] w (OpR F w b bm (N + 9) (yankB s n r)) := by
  obtain ⟨ao, c, rfl, _⟩ := hv.len
  obtain ⟨w1, hw1, k0, hb1⟩ : ∃ w1, w1 = w.alloc (.cells #[.int .i64 r.k, .slice ao r.t.length c] 31) ∧ w1.heap[w.heap.size]? = some (.cells #[.int .i64 r.k, .slice ao r.t.length c] 31 (0, 0)) ∧ Below w.heap.size w w1 := ⟨_, rfl, heap_alloc_new _ _, ext_alloc (Below.refl _ _) _⟩
  have HB1 := hidIt hb1
  have HBK := hidIt (hB.ext hb1)
  have RF := hidIt (refused_any n r.k w1)
  have UN := hidIt (isUnnamed_any n w1)
  obtain ⟨_, c0, c1, _⟩ := cells2 k0
  by_cases hre : refE n r.k = 0
  · have TK : Hid (∀ q, In64 q → Calls Try.prog 34 #[.pointer (some ⟨b, 0, none⟩), .int .i64 q, .agg #[.int .i64 r.k, .slice ao r.t.length c]] w1 (OpR F w1 b bm (N + 1) (takeB s q r))) := fun q hq => take_any w1 b bm N s q r _ HBK.out (hv.ext hb1) hq (ref_kind hre) (by omega)
    rw [hre] at RF
    cases hun : unB n
    · have HT := hidIt (show yankB s n r = takeB s n r by unfold yankB; rw [if_pos hre, hun]; rfl)
      rw [hun] at UN
      have TKn := hidIt (TK.out n hn)
      clear hB hv k0 hb1 hn hre hun TK
      go_enter Try.func14, Try.ntmps14
      go_upto_region 1 with fail
      rw [← hw1]
      clear hw1
      go_wp2_with (first | (go_at_call 32; refine RF.out.mono ?_; rintro e y9 ⟨rfl, rfl⟩; (try dsimp only)) | (go_at_call 33; refine UN.out.mono ?_; rintro e y9 ⟨rfl, rfl⟩; (try dsimp only)) | (go_at_call 34; refine TKn.out.mono ?_; rintro e w3 ⟨rfl, hbk, hkb⟩; have HB3 := hidIt hbk; have HK3 := hidIt hkb; clear hbk hkb; (try dsimp only)))
      go_ret
      exact ⟨by rw [HT.out]; rfl, by rw [HT.out]; exact HB3.out.mono (by omega), (Kb.of HB1.out).trans HK3.out⟩
    · have HT := hidIt (show yankB s n r = takeB s 48 r by unfold yankB; rw [if_pos hre, hun]; rfl)
      rw [hun] at UN
      have TKn := hidIt (TK.out 48 (In64.of (by omega) (by omega)))
      clear hB hv k0 hb1 hn hre hun TK
      go_enter Try.func14, Try.ntmps14
      go_upto_region 1 with fail
      rw [← hw1]
      clear hw1
      go_wp2_with (first | (go_at_call 32; refine RF.out.mono ?_; rintro e y9 ⟨rfl, rfl⟩; (try dsimp only)) | (go_at_call 33; refine UN.out.mono ?_; rintro e y9 ⟨rfl, rfl⟩; (try dsimp only)) | (go_at_call 34; refine TKn.out.mono ?_; rintro e w3 ⟨rfl, hbk, hkb⟩; have HB3 := hidIt hbk; have HK3 := hidIt hkb; clear hbk hkb; (try dsimp only)))
      go_ret
      exact ⟨by rw [HT.out]; rfl, by rw [HT.out]; exact HB3.out.mono (by omega), (Kb.of HB1.out).trans HK3.out⟩
  · have HT := hidIt (show yankB s n r = (refE n r.k, s) by unfold yankB; rw [if_neg hre])
    have hne : (refE n r.k != 0) = true := by simp [hre]
    generalize refE n r.k = er at *
    clear hB hv k0 hb1 hn hre
    go_enter Try.func14, Try.ntmps14
    go_upto_region 1 with fail
    rw [← hw1]
    clear hw1
    go_wp2_with (go_at_call 32; refine RF.out.mono ?_; rintro e y9 ⟨rfl, rfl⟩; (try dsimp only))
    go_ret
    exact ⟨by rw [HT.out]; rfl, by rw [HT.out]; exact HBK.out.mono (by omega), Kb.of HB1.out⟩
end Go.Proofs.Ytmldfjhfgaggpaa
