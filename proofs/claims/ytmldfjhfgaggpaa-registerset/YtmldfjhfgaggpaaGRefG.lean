/- The document's Get, Names. -/
import Derived.Test.YtmldfjhfgaggpaaGRefS
namespace Go.Proofs.Ytmldfjhfgaggpaa
open Go.RowKit
variable {F : Nat → Prop}

/-- What the document's Get answers. -/
def GdR (w : World) (x : Int × Option Rg) (e : Ending) (w' : World) : Prop := (match x with
  | (er, none) => e = .returned (.tuple #[.int .i64 0, .slice none 0 0, .int .i64 er])
  | (er, some y) => ∃ u, e = .returned (.tuple #[.int .i64 y.k, u, .int .i64 er]) ∧ RdS w' u y.t) ∧ Below w.heap.size w w'
theorem get_eq {s : Bs} (hs : Good s) {n : Int} (h : nmB n = true) {F : Nat → Prop} {w : World} {k : Int} {u : Value} {a : Int} (ha : a = sml (if unB n = true then s.p else n)) (hh : Hld F w k u (s.m a)) : ∃ t, RdS w u t ∧ getB s.m s.p n = if t = [] then (112, none) else (0, some ⟨k, t⟩) := by
  obtain ⟨_, t, h1, _, _, h4⟩ := hh
  refine ⟨t, h1, ?_⟩
  unfold getB
  rw [if_pos h, ← ha]
  cases hm : s.m a with
  | none => rw [hm] at h4; rw [if_pos h4]
  | some r =>
    rw [hm] at h4
    obtain ⟨rfl, rfl⟩ := h4
    rw [if_neg (hs.nm _ _ hm).2.1.ne]
set_option maxRecDepth 100000 in
set_option maxHeartbeats 4000000 in
theorem r_Get_any (w : World) (q : Nat) (s : Bs) (n : Int) (hR : Rb F w q s) (hs : Good s) :
    Calls Try.prog 51 #[.pointer (some ⟨q, 0, none⟩), .int .i64 n] w (GdR w (getB s.m s.p n)) := by
  have NM := hidIt (r_Named_any n w)
  have UN := hidIt (r_unnamed_any n w)
  cases hnm : nmB n
  · have HT := hidIt (show getB s.m s.p n = (110, none) by unfold getB; rw [hnm]; rfl)
    rw [hnm] at NM
    clear hR hs
    go_enter Try.func51, Try.ntmps51
    go_wp2_with (go_at_call 66; refine NM.out.mono ?_; rintro e y8 ⟨rfl, rfl⟩; (try dsimp only))
    refine bodyPost_ret (v := .tuple #[.int .i64 0, .slice none 0 0, .int .i64 110]) (by simp [results, Try.results51, go_sem]) rfl ⟨by rw [HT.out], Below.refl _ _⟩
  rw [hnm] at NM
  have hnr := nm_range hnm
  have hpt := hs.pt
  have tp := hR.to
  cases hun : unB n
  · rw [hun] at UN
    cases hg : grB n
    · have GR := hidIt (r_great_any (n) w)
      rw [hg] at GR
      obtain ⟨a, ha⟩ : ∃ a : Nat, (a : Int) = n := ⟨(n).toNat, by omega⟩
      have hal : (a : Int) < 128 := by omega
      obtain ⟨k, u, f0, f1, hh⟩ := hR.at a (by omega)
      have hsm : (a : Int) = sml (if unB n = true then s.p else n) := by rw [hun]; rw [ha]; simp [sml, hg]
      obtain ⟨t, ht, hge⟩ := get_eq hs hnm hsm hh
      obtain ⟨au, cu, rfl, _⟩ := ht.len
      have RD := hidIt ht
      have HG := hidIt hge
      clear hR hs hnr hpt hh ht hge hsm hun hnm
      subst ha
      go_enter Try.func51, Try.ntmps51
      go_upto_region 8 with (first | (go_at_call 66; refine NM.out.mono ?_; rintro e y7 ⟨rfl, rfl⟩; (try dsimp only)) | (go_at_call 67; refine UN.out.mono ?_; rintro e y8 ⟨rfl, rfl⟩; (try dsimp only)) | (go_at_call 68; refine GR.out.mono ?_; rintro e y9 ⟨rfl, rfl⟩; (try dsimp only)))
      generalize hw3 : World.alloc _ _ = w3
      have HB3 : Hid (Below w.heap.size w w3) := by unfold Hid; rw [← hw3]; exact ext_alloc (Below.refl _ _) _
      have HK3 : Hid (w3.heap[w.heap.size]? = some (.cells #[.int .i64 k, .slice au t.length cu] 94 (0, 0))) := by unfold Hid; rw [← hw3]; exact heap_alloc_new _ _
      clear hw3 f0 f1 tp
      obtain ⟨_, e0, e1, _⟩ := cells2 HK3.out
      by_cases ht0 : t = []
      · have hz : ((t.length : Int) == 0) = true := by simp [ht0]
        have HT2 := hidIt (HG.out.trans (if_pos ht0))
        clear ht0
        go_wp2_with fail
        refine bodyPost_ret (v := .tuple #[.int .i64 0, .slice none 0 0, .int .i64 112]) (by simp [results, Try.results51, go_sem]) rfl ⟨by rw [HT2.out], HB3.out⟩
      · have hz : ((t.length : Int) == 0) = false := by simp [ht0]
        have HT2 := hidIt (HG.out.trans (if_neg ht0))
        clear ht0
        go_upto_region 10 with fail
        go_region
        all_goals
          go_wp2_with fail
          refine bodyPost_ret (v := .tuple #[.int .i64 k, .slice au t.length cu, .int .i64 0]) (by simp [results, Try.results51, go_sem]) rfl ⟨?_, HB3.out.drew⟩
          rw [HT2.out]
          exact ⟨_, rfl, (RD.out.ext HB3.out).ext (Below.refl _ _).drew⟩
    · have hg2 : 65 ≤ n ∧ n ≤ 90 := by unfold grB at hg; simpa using hg
      have GR := hidIt (r_great_any (n) w)
      rw [hg] at GR
      obtain ⟨a, ha⟩ : ∃ a : Nat, (a : Int) = n + 32 := ⟨(n + 32).toNat, by omega⟩
      have hal : (a : Int) < 128 := by omega
      obtain ⟨k, u, f0, f1, hh⟩ := hR.at a (by omega)
      have hsm : (a : Int) = sml (if unB n = true then s.p else n) := by rw [hun]; rw [ha]; simp [sml, hg]
      obtain ⟨t, ht, hge⟩ := get_eq hs hnm hsm hh
      obtain ⟨au, cu, rfl, _⟩ := ht.len
      have RD := hidIt ht
      have HG := hidIt hge
      have hwr : IntKind.i64.wrap (n + 32) = (a : Int) := by rw [IntKind.wrap_i64]; omega
      clear hg2
      clear hR hs hnr hpt hh ht hge hsm hun hnm
      clear ha
      go_enter Try.func51, Try.ntmps51
      go_upto_region 8 with (first | (go_at_call 66; refine NM.out.mono ?_; rintro e y7 ⟨rfl, rfl⟩; (try dsimp only)) | (go_at_call 67; refine UN.out.mono ?_; rintro e y8 ⟨rfl, rfl⟩; (try dsimp only)) | (go_at_call 68; refine GR.out.mono ?_; rintro e y9 ⟨rfl, rfl⟩; (try dsimp only)))
      generalize hw3 : World.alloc _ _ = w3
      have HB3 : Hid (Below w.heap.size w w3) := by unfold Hid; rw [← hw3]; exact ext_alloc (Below.refl _ _) _
      have HK3 : Hid (w3.heap[w.heap.size]? = some (.cells #[.int .i64 k, .slice au t.length cu] 94 (0, 0))) := by unfold Hid; rw [← hw3]; exact heap_alloc_new _ _
      clear hw3 f0 f1 tp
      obtain ⟨_, e0, e1, _⟩ := cells2 HK3.out
      by_cases ht0 : t = []
      · have hz : ((t.length : Int) == 0) = true := by simp [ht0]
        have HT2 := hidIt (HG.out.trans (if_pos ht0))
        clear ht0
        go_wp2_with fail
        refine bodyPost_ret (v := .tuple #[.int .i64 0, .slice none 0 0, .int .i64 112]) (by simp [results, Try.results51, go_sem]) rfl ⟨by rw [HT2.out], HB3.out⟩
      · have hz : ((t.length : Int) == 0) = false := by simp [ht0]
        have HT2 := hidIt (HG.out.trans (if_neg ht0))
        clear ht0
        go_upto_region 10 with fail
        go_region
        all_goals
          go_wp2_with fail
          refine bodyPost_ret (v := .tuple #[.int .i64 k, .slice au t.length cu, .int .i64 0]) (by simp [results, Try.results51, go_sem]) rfl ⟨?_, HB3.out.drew⟩
          rw [HT2.out]
          exact ⟨_, rfl, (RD.out.ext HB3.out).ext (Below.refl _ _).drew⟩
  · rw [hun] at UN
    have GR := hidIt (r_great_any (s.p) w)
    have hgr : grB s.p = false := hpt.2.2
    rw [hgr] at GR
    obtain ⟨a, ha⟩ : ∃ a : Nat, (a : Int) = s.p := ⟨(s.p).toNat, by omega⟩
    have hal : (a : Int) < 128 := by omega
    obtain ⟨k, u, f0, f1, hh⟩ := hR.at a (by omega)
    have hsm : (a : Int) = sml (if unB n = true then s.p else n) := by rw [hun]; rw [ha]; simp [sml, hgr]
    obtain ⟨t, ht, hge⟩ := get_eq hs hnm hsm hh
    obtain ⟨au, cu, rfl, _⟩ := ht.len
    have RD := hidIt ht
    have HG := hidIt hge
    rw [← ha] at tp GR
    clear hR hs hnr hpt hh ht hge hsm hun hnm
    clear ha
    go_enter Try.func51, Try.ntmps51
    go_upto_region 8 with (first | (go_at_call 66; refine NM.out.mono ?_; rintro e y7 ⟨rfl, rfl⟩; (try dsimp only)) | (go_at_call 67; refine UN.out.mono ?_; rintro e y8 ⟨rfl, rfl⟩; (try dsimp only)) | (go_at_call 68; refine GR.out.mono ?_; rintro e y9 ⟨rfl, rfl⟩; (try dsimp only)))
    generalize hw3 : World.alloc _ _ = w3
    have HB3 : Hid (Below w.heap.size w w3) := by unfold Hid; rw [← hw3]; exact ext_alloc (Below.refl _ _) _
    have HK3 : Hid (w3.heap[w.heap.size]? = some (.cells #[.int .i64 k, .slice au t.length cu] 94 (0, 0))) := by unfold Hid; rw [← hw3]; exact heap_alloc_new _ _
    clear hw3 f0 f1 tp
    obtain ⟨_, e0, e1, _⟩ := cells2 HK3.out
    by_cases ht0 : t = []
    · have hz : ((t.length : Int) == 0) = true := by simp [ht0]
      have HT2 := hidIt (HG.out.trans (if_pos ht0))
      clear ht0
      go_wp2_with fail
      refine bodyPost_ret (v := .tuple #[.int .i64 0, .slice none 0 0, .int .i64 112]) (by simp [results, Try.results51, go_sem]) rfl ⟨by rw [HT2.out], HB3.out⟩
    · have hz : ((t.length : Int) == 0) = false := by simp [ht0]
      have HT2 := hidIt (HG.out.trans (if_neg ht0))
      clear ht0
      go_upto_region 10 with fail
      go_region
      all_goals
        go_wp2_with fail
        refine bodyPost_ret (v := .tuple #[.int .i64 k, .slice au t.length cu, .int .i64 0]) (by simp [results, Try.results51, go_sem]) rfl ⟨?_, HB3.out.drew⟩
        rw [HT2.out]
        exact ⟨_, rfl, (RD.out.ext HB3.out).ext (Below.refl _ _).drew⟩
set_option maxRecDepth 100000 in
set_option maxHeartbeats 4000000 in
theorem r_Names_any (w : World) (q : Nat) (s : Bs) (hR : Rb F w q s) (hs : Good s) :
    Calls Try.prog 49 #[.pointer (some ⟨q, 0, none⟩)] w fun e w' => ∃ v, e = .returned v ∧ OwnI w' w.heap.size v (nms s.m 128) ∧ Below w.heap.size w w' := by
  have HR := hidIt hR
  have HS := hidIt hs
  clear hR hs
  go_enter Try.func49, Try.ntmps49
  go_wp2_with fail
  go_loopw [3, 4] (fun l i wr => ∃ j : Nat, j ≤ 128 ∧ i = .int .i64 j ∧ OwnI wr w.heap.size l (nms s.m j) ∧ Below w.heap.size w wr) (fun _ i _ => 128 - (RowKit.intOf i).toNat)
  case atStart => exact ⟨0, Nat.zero_le _, rfl, OwnI.nil _ _, Below.refl _ _⟩
  case round =>
    obtain ⟨j, hj, rfl, ho, hb⟩ := hrel
    obtain ⟨la, ln, lc, rfl⟩ := ho.form
    have OW := hidIt ho
    have HB := hidIt hb
    clear ho hb
    by_cases hlt : (j : Int) < 128
    · obtain ⟨k, u, f0, f1, hh⟩ := (HR.out.ext HB.out).at j (by omega)
      have HST := hidIt (nms_step s.m j)
      have HNL := hidIt (nms_len s.m j)
      obtain ⟨_, t, ht, _, _, hm⟩ := hh
      obtain ⟨au, cu, rfl, _⟩ := ht.len
      have HIS := hidIt (show (s.m (j : Int)).isSome = decide (t ≠ []) by
        cases hx : s.m (j : Int) with
        | none => rw [hx] at hm; simp [hm]
        | some r => rw [hx] at hm; have := (HS.out.nm _ _ hx).2.1.ne; simp [hm.2, this])
      clear hm ht
      by_cases ht0 : t = []
      · have hz : ¬ (t.length : Int) > 0 := by simp [ht0]
        have HN := hidIt (show nms s.m (j + 1) = nms s.m j by rw [HST.out, HIS.out]; simp [ht0])
        clear ht0
        go_wp2_with fail
        go_roundw
        case rel => exact ⟨j + 1, by omega, by go_num, by rw [HN.out]; exact OW.out, HB.out⟩
        case measure => simp [RowKit.intOf]; omega
      · have hz : (t.length : Int) > 0 := by have := List.length_pos_iff.2 ht0; omega
        have HN := hidIt (show nms s.m (j + 1) = nms s.m j ++ [(j : Int)] by rw [HST.out, HIS.out]; simp [ht0])
        clear ht0
        go_wp2_with (at_builtin; refine wpl_ints rfl _ _ 29 rfl w.heap.size Try.info_i64 Try.underlying29 _ (nms s.m j) rfl (OW.out.ext (ext_alloc (Below.refl _ _) _)) _ [(j : Int)] rfl (rds_one _ _) (by have := HNL.out; simp; omega) (by have := HB.out.size; simp; omega) ?_; intro v4 w4 own4 hb4; obtain ⟨a4, n4, c4, e4⟩ := own4.form; subst e4; have O4 := hidIt own4; have B4 := hidIt (((HB.out.alloc HB.out.size _)).trans hb4); clear own4 hb4)
        go_roundw
        case rel => exact ⟨j + 1, by omega, by go_num, by rw [HN.out]; exact O4.out, B4.out⟩
        case measure => simp [RowKit.intOf]; omega
    · have hje : j = 128 := by omega
      have HJ := hidIt (show nms s.m j = nms s.m 128 by rw [hje])
      clear hje
      go_wp2_with fail
      go_ret
      exact ⟨_, rfl, by rw [← HJ.out]; exact OW.out, HB.out⟩
end Go.Proofs.Ytmldfjhfgaggpaa
