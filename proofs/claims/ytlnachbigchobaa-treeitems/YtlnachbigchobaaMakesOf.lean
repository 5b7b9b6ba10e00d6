/- makes, a step KOf. -/
import Derived.Test.YtlnachbigchobaaTells
import Derived.Test.YtlnachbigchobaaBegin
import Derived.Deep.CutRange
namespace Go.Proofs.Ytlnachbigchobaa
open Go.RowKit

set_option maxRecDepth 100000 in
set_option maxHeartbeats 8000000 in
theorem makes_of {base gw gt ct gl cl N : Nat} {us : List (Option Addr)} {ls : List Value} {xss : List (List It)} (o : Sp) (w : World) (h : Wd w base gw gt ct gl cl us ls xss xss) (h1 : 1 ≤ us.length) (h2 : us.length ≤ 4294967296) (hs : ∀ xs ∈ xss, xs.length ≤ N) (hN : N + o.zs.length ≤ 4194304) (hr : RdR w (.slice o.ai o.zs.length o.ci) o.zs) (hold : ∀ b off, o.zs ≠ [] → o.ai = some ⟨b, off, none⟩ → b < base) (hbw : base ≤ w.heap.size) (hk : o.kind = 1) :
    Calls Try.prog 62 #[.pointer (some ⟨gw, 0, none⟩), opv o] w fun e w' => e = .returned (.bool true) ∧ Hid (∃ gt' ct' gl' cl' us' ls' xss', Wd w' base gw gt' ct' gl' cl' us' ls' xss' xss' ∧ us.length ≤ us'.length ∧ us'.length ≤ us.length + 1 ∧ ∀ xs ∈ xss', xs.length ≤ N + o.zs.length) ∧ Hid (Below base w w') := by
  obtain ⟨i0, hi, hz0, hz1, hz2⟩ := info_parts Try.info_tree
  obtain ⟨i1, hj, hy0, hy1, hy2⟩ := info_parts Try.info_list
  obtain ⟨w0, hw0⟩ : ∃ w0, w0 = w.alloc (.cells #[.int .i64 o.kind, .int .i64 o.who, .int .i64 o.fr, .int .i64 o.to, .int .i64 o.k, .int .i64 o.n, .slice o.ai o.zs.length o.ci] 95) := ⟨_, rfl⟩
  have hb0 : Below w.heap.size w w0 := by rw [hw0]; exact ext_alloc (Below.refl _ _) _
  have hs0 : w.heap.size < w0.heap.size := by rw [hw0]; simp
  have HW0 := hidIt (h.ext hb0)
  have hop : w0.heap[w.heap.size]? = some (.cells #[.int .i64 o.kind, .int .i64 o.who, .int .i64 o.fr, .int .i64 o.to, .int .i64 o.k, .int .i64 o.n, .slice o.ai o.zs.length o.ci] 95 (0, 0)) := by rw [hw0]; exact heap_alloc_new _ _
  have HAND : Hid (Calls Try.prog 73 #[.agg #[.int .i64 o.kind, .int .i64 o.who, .int .i64 o.fr, .int .i64 o.to, .int .i64 o.k, .int .i64 o.n, .slice o.ai o.zs.length o.ci]] w0 fun e w' => ∃ g cap, e = .returned (.slice (some ⟨g, 0, none⟩) cap cap) ∧ OwnR w' w0.heap.size 24 (.slice (some ⟨g, 0, none⟩) cap cap) (hnd o.zs 0 cap) ∧ o.zs.length ≤ cap ∧ cap ≤ 9223372036854775807 ∧ Below w0.heap.size w0 w') := handed_any o w0 (hr.ext hb0) (by omega)
  have hne0 : Hid (gw ≠ w.heap.size ∧ gl ≠ w.heap.size) := ⟨by have := h.lt; omega, by have := h.caps.2.2.2.2.2.2.2; omega⟩
  have HOP := hidIt hop
  have HR0 := hidIt hr
  have HB0 := hidIt hb0
  have HSX := hidIt hs
  have HD := hidIt hold
  have HK := hidIt hk
  clear hb0 hop hs h hr hold hk
  unfold opv
  obtain ⟨kind, who, fr, tt, kk, nn, ai, ci, zs⟩ := o
  simp only at *
  obtain ⟨hcm, hlc⟩ : ci ≤ 9223372036854775807 ∧ zs.length ≤ ci := by obtain ⟨ao', cap', e1, e2, e3, _⟩ := HR0.out; cases e1; exact ⟨e3, e2⟩
  have hzl : zs.length ≤ 4194304 := by omega
  have HOC : Hid (∀ w' : World, w'.heap[w.heap.size]? = some (.cells #[.int .i64 kind, .int .i64 who, .int .i64 fr, .int .i64 tt, .int .i64 kk, .int .i64 nn, .slice ai zs.length ci] 95 (0, 0)) → w'.cell? ⟨w.heap.size, 0, none⟩ = some (.int .i64 kind) ∧ w'.cell? ⟨w.heap.size, 2, none⟩ = some (.int .i64 fr) ∧ w'.cell? ⟨w.heap.size, 3, none⟩ = some (.int .i64 tt) ∧ w'.cell? ⟨w.heap.size, 6, none⟩ = some (.slice ai zs.length ci) ∧ w.heap.size < w'.heap.size) := fun w' hop => by
    refine ⟨?_, ?_, ?_, ?_, (Array.getElem?_eq_some_iff.1 hop).1⟩
    · rw [cell_of_row w' _ 0 _ _ _ hop]; rfl
    · rw [cell_of_row w' _ 2 _ _ _ hop]; rfl
    · rw [cell_of_row w' _ 3 _ _ _ hop]; rfl
    · rw [cell_of_row w' _ 6 _ _ _ hop]; rfl
  go_enter Try.func62, Try.ntmps62
  go_upto_region 2 with (go_at_call 73; rw [← hw0]; refine HAND.out.mono ?_; clear hw0 HAND; rintro e w1 ⟨g, cap, rfl, hO, hcz, hcap, hb1⟩; have HB1 := hidIt hb1; have HW1 := hidIt (HW0.out.ext hb1); have HOP1 : Hid (w1.heap[w.heap.size]? = some (.cells #[.int .i64 kind, .int .i64 who, .int .i64 fr, .int .i64 tt, .int .i64 kk, .int .i64 nn, .slice ai zs.length ci] 95 (0, 0))) := (by unfold Hid; rw [hb1.block _ hs0]; exact HOP.out); have HO1 := hidIt hO; clear hO hb1)
  have HBA := hidIt (ext_trans HB0.out HB1.out)
  clear HOP HW0
  obtain ⟨p0, p2, p3, p6, pz⟩ := HOC.out w1 HOP1.out
  have hzc : (zs.length : Int) ≤ (cap : Int) := by omega
  have HRL : Hid (∀ w', OwnR w' w0.heap.size 24 (.slice (some ⟨g, 0, none⟩) cap cap) (hnd zs 0 cap) → RdR w' (.slice (some ⟨g, 0, none⟩) zs.length cap) zs) := fun w' hO => by
    have := (hO.rd).upto zs.length (by rw [hnd_len]; exact hcz)
    rw [hnd_take zs cap hcz] at this
    exact this
  have HWZ := hidIt (wt_small hzl)
  have HW0L := hidIt HW1.out.ul

  have hk := HK.out
  subst hk
  clear HK
  go_wp2_with fail
  refine (Of_any _ zs w1 (HRL.out w1 HO1.out) HWZ.out).mono ?_
  rintro e w2 ⟨u, rfl, hT, hb2⟩
  obtain ⟨w3, hw3⟩ : ∃ w3, w3 = w2.alloc (.cells #[.pointer u] 39) := ⟨_, rfl⟩
  have e3 : Below w2.heap.size w2 w3 := by rw [hw3]; exact ext_alloc (Below.refl _ _) _
  have q0 : w3.cell? ⟨w2.heap.size, 0, none⟩ = some (.pointer u) := by rw [hw3]; simp
  have hq : w2.heap.size < w3.heap.size := by rw [hw3]; simp
  have hb3 := ext_trans hb2 e3
  have HW3 := hidIt (HW1.out.ext hb3)
  have HT3 := hidIt (hT.ext e3)
  have HO3 := hidIt (HO1.out.ext hb3)
  have HOP3 : Hid (w3.heap[w.heap.size]? = some (.cells #[.int .i64 1, .int .i64 who, .int .i64 fr, .int .i64 tt, .int .i64 kk, .int .i64 nn, .slice ai zs.length ci] 95 (0, 0))) := by unfold Hid; rw [hb3.block _ pz]; exact HOP1.out
  have HB3 := hidIt (ext_trans HBA.out hb3)
  have hgt2 : gt < w2.heap.size := (HW1.out.ext hb2).caps.2.2.2.2.2.2.1
  have hgt3 : gt ≠ w2.heap.size := by omega
  have hgw3 : gw ≠ w2.heap.size := by have := (HW1.out.ext hb2).lt; omega
  go_upto_region 4 with fail
  rw [← hw3]
  generalize w2.heap.size = tb at *
  clear hw3 HW1 HO1 HOP1 HBA hb2 hb3 e3 hT p0 p2 p3 p6
  obtain ⟨c0, c1, _⟩ := HW3.out.cells
  have HX3 := hidIt ((HW3.out.ext (ext_alloc (Below.refl w3.heap.size w3) (.cells #[.pointer u] 39))))
  have HY3 := hidIt ((HT3.out.ext (ext_alloc (Below.refl w3.heap.size w3) (.cells #[.pointer u] 39))))
  have c0a := HX3.out.cells.1
  have hbs3 : base ≤ w3.heap.size := by have := HB3.out.size; omega
  have q0a : (w3.alloc (.cells #[.pointer u] 39)).cell? ⟨tb, 0, none⟩ = some (.pointer u) := ((ext_alloc (Below.refl w3.heap.size w3) _).cell (p := ⟨tb, 0, none⟩) hq).trans q0
  go_cut [] from 29 to 38 (fun wF => Hid (∃ gt' ct', Wd wF base gw gt' ct' gl cl (us ++ [u]) ls (xss ++ [zs]) xss ∧ Fr [116, 39] w3 wF ∧ Below base w3 wF))
  case first =>
    refine wp_region_held_drew (S := fun w' => w'.cell? ⟨tb, 0, none⟩ = some (.pointer u)) (by kernel_rfl) (by first | exact q0 | (dsimp only; go_keep)) (fun hHeld => ?_)
    refine wpAnyH_take (i := 0) (oi := _) (v := ?_) rfl (by kernel_rfl) (by kernel_rfl) (by kernel_rfl) (fun _ _ _ h => h) (Or.inl ⟨by rfl, ?_⟩) (by assumption) ?_
    rotate_left 1
    · intro wq hSw; (try dsimp only at hSw); go_simp; try (with_reducible rfl)
    try simp only [Act.put, List.setIfInBounds_toArray]
    refine wpAnyH_take (i := 1) (oi := _) (v := ?_) rfl (by kernel_rfl) (by kernel_rfl) (by kernel_rfl) (fun _ _ _ h => h) (Or.inl ⟨by rfl, ?_⟩) (by assumption) ?_
    rotate_left 1
    · intro wq hSw; (try dsimp only at hSw); go_simp; try (with_reducible rfl)
    try simp only [Act.put]
    refine wpAnyH_take (i := 2) (oi := _) (v := ?_) rfl (by kernel_rfl) (by kernel_rfl) (by kernel_rfl) (fun _ _ _ h => h) (Or.inl ⟨by rfl, ?_⟩) (by assumption) ?_
    rotate_left 1
    · intro wq hSw; (try dsimp only at hSw); go_simp; try (with_reducible rfl)
    try simp only [Act.put]
    refine wpAnyH_take (i := 3) (oi := _) (v := ?_) rfl (by kernel_rfl) (by kernel_rfl) (by kernel_rfl) (fun _ _ _ h => h) (Or.inl ⟨by rfl, ?_⟩) (by assumption) ?_
    rotate_left 1
    · intro wq hSw; (try dsimp only at hSw); go_simp; try (with_reducible rfl)
    try simp only [Act.put]
    refine wpAnyH_take (i := 5) (oi := _) (v := ?_) rfl (by kernel_rfl) (by kernel_rfl) (by kernel_rfl) (fun _ _ _ h => h) (Or.inl ⟨by rfl, ?_⟩) (by assumption) ?_
    rotate_left 1
    · intro wq hSw; (try dsimp only at hSw); go_simp; try (with_reducible rfl)
    try simp only [Act.put]
    refine wpAnyH_ready (rs := [4, 6]) (by kernel_rfl) (by simp) ?_
    refine AllReadyH.cons (o := _) rfl (fun K hK => ?_) (AllReadyH.cons (o := _) rfl (fun K hK => ?_) AllReadyH.nil)
    · skip
      go_simp
      refine hK.out _ _ ?_ (fun hHeld => ?_)
      · first | exact q5 | exact q4 | exact q0 | exact q0a | ((try dsimp only); go_keep)
      clear hK K
      try simp only [Act.put, List.setIfInBounds_toArray, List.set_cons_zero, List.set_cons_succ]
      refine wpAnyH_ready (rs := [6]) (by kernel_rfl) (by simp) ?_
      refine AllReadyH.cons (o := _) rfl (fun K hK => ?_) AllReadyH.nil
      go_simp
      refine hK.out _ _ ?_ (fun hHeld => ?_)
      · first | exact q5 | exact q4 | exact q0 | exact q0a | ((try dsimp only); go_keep)
      clear hK K
      try simp only [Act.put, List.setIfInBounds_toArray, List.set_cons_zero, List.set_cons_succ]
      refine wpAnyH_ready (rs := [7]) (by kernel_rfl) (by simp) ?_
      refine AllReadyH.cons (o := _) rfl (fun K hK => ?_) AllReadyH.nil
      rw [if_pos (by rfl)]
      refine wp_append_own _ _ _ 113 rfl base 39 i0 _ 1 8 Try.underlying113 hi hz0 hz1 hz2 rfl (by decide) (.slice (some ⟨gt, 0, none⟩) us.length ct) us.length (us.map Value.pointer) rfl HX3.out.tr ⟨w3.heap.size, 0, none⟩ 1 1 [.pointer u] rfl rfl (cell1_new _ _ _) (by simp [Value.oneCell']) (by unfold maxLen; omega) (by omega) (Nat.le_trans hbs3 (size_ad _ _)) ?_; intro v' w4 hown' hg' _; obtain ⟨gt', ct', rfl, hW4, hF4, hB4, d0, df⟩ := HX3.out.pushT (w1 := w4) hown' ⟨hg'.os, hg'.tape, hg'.output, hg'.size, hg'.block⟩ HY3.out; have q4 : w4.cell? ⟨tb, 0, none⟩ = some (.pointer u) := hg'.cell (a := ⟨tb, 0, none⟩) q0a (by simpa [Value.ownBlock] using hgt3.symm); have q5 := (World.cell?_of_block (a := ⟨tb, 0, none⟩) (heap_setCell_other w4 ⟨gw, 0, none⟩ tb (.slice (some ⟨gt', 0, none⟩) (us.length + 1) ct') (by first | exact hgw3 | exact hgw3.symm))).trans q4; have HW4 := hidIt hW4; have HF4 := hidIt ((Fr.of_below (ext_alloc (Below.refl w3.heap.size w3) _)).trans hF4); have HB4 := hidIt (((Below.refl base w3).alloc hbs3 _).trans hB4); clear hown' hg' hW4 hF4 hB4
      refine hK.out _ _ ?_ (fun hHeld => ?_)
      · first | exact q5 | exact q4 | exact q0 | exact q0a | ((try dsimp only); go_keep)
      clear hK K
      try simp only [Act.put, List.setIfInBounds_toArray]
      refine wpAnyH_take (i := 8) (oi := _) (v := ?_) rfl (by kernel_rfl) (by kernel_rfl) (by kernel_rfl) (fun _ _ _ h => h) (Or.inl ⟨by rfl, ?_⟩) (by assumption) ?_
      rotate_left 1
      · intro wq hSw; (try dsimp only at hSw); go_simp; try (with_reducible rfl)
      try simp only [Act.put]
      refine wpAnyH_take (i := 9) (oi := _) (v := ?_) rfl (by kernel_rfl) (by kernel_rfl) (by kernel_rfl) (fun _ _ _ h => h) (Or.inl ⟨by rfl, ?_⟩) (by assumption) ?_
      rotate_left 1
      · intro wq hSw; (try dsimp only at hSw); go_simp; try (with_reducible rfl)
      try simp only [Act.put]
      refine wpAnyH_ready (rs := [10]) (by kernel_rfl) (by simp) ?_
      refine AllReadyH.cons (o := _) rfl (fun K hK => ?_) AllReadyH.nil
      go_simp
      refine hK.out _ _ ?_ (fun hHeld => ?_)
      · first | exact q5 | exact q4 | exact q0 | exact q0a | ((try dsimp only); go_keep)
      clear hK K
      try simp only [Act.put, List.setIfInBounds_toArray, List.set_cons_zero, List.set_cons_succ]
      refine wpAnyH_done (by kernel_rfl) ?_ _
      go_wp2_with fail
      go_meet
      case rel =>
        exact ⟨gt', ct', HW4.out, HF4.out, HB4.out⟩
    · skip
      go_simp
      refine hK.out _ _ ?_ (fun hHeld => ?_)
      · first | exact q5 | exact q4 | exact q0 | exact q0a | ((try dsimp only); go_keep)
      clear hK K
      try simp only [Act.put, List.setIfInBounds_toArray, List.set_cons_zero, List.set_cons_succ]
      refine wpAnyH_ready (rs := [4]) (by kernel_rfl) (by simp) ?_
      refine AllReadyH.cons (o := _) rfl (fun K hK => ?_) AllReadyH.nil
      go_simp
      refine hK.out _ _ ?_ (fun hHeld => ?_)
      · first | exact q5 | exact q4 | exact q0 | exact q0a | ((try dsimp only); go_keep)
      clear hK K
      try simp only [Act.put, List.setIfInBounds_toArray, List.set_cons_zero, List.set_cons_succ]
      refine wpAnyH_ready (rs := [7]) (by kernel_rfl) (by simp) ?_
      refine AllReadyH.cons (o := _) rfl (fun K hK => ?_) AllReadyH.nil
      rw [if_pos (by rfl)]
      refine wp_append_own _ _ _ 113 rfl base 39 i0 _ 1 8 Try.underlying113 hi hz0 hz1 hz2 rfl (by decide) (.slice (some ⟨gt, 0, none⟩) us.length ct) us.length (us.map Value.pointer) rfl HX3.out.tr ⟨w3.heap.size, 0, none⟩ 1 1 [.pointer u] rfl rfl (cell1_new _ _ _) (by simp [Value.oneCell']) (by unfold maxLen; omega) (by omega) (Nat.le_trans hbs3 (size_ad _ _)) ?_; intro v' w4 hown' hg' _; obtain ⟨gt', ct', rfl, hW4, hF4, hB4, d0, df⟩ := HX3.out.pushT (w1 := w4) hown' ⟨hg'.os, hg'.tape, hg'.output, hg'.size, hg'.block⟩ HY3.out; have q4 : w4.cell? ⟨tb, 0, none⟩ = some (.pointer u) := hg'.cell (a := ⟨tb, 0, none⟩) q0a (by simpa [Value.ownBlock] using hgt3.symm); have q5 := (World.cell?_of_block (a := ⟨tb, 0, none⟩) (heap_setCell_other w4 ⟨gw, 0, none⟩ tb (.slice (some ⟨gt', 0, none⟩) (us.length + 1) ct') (by first | exact hgw3 | exact hgw3.symm))).trans q4; have HW4 := hidIt hW4; have HF4 := hidIt ((Fr.of_below (ext_alloc (Below.refl w3.heap.size w3) _)).trans hF4); have HB4 := hidIt (((Below.refl base w3).alloc hbs3 _).trans hB4); clear hown' hg' hW4 hF4 hB4
      refine hK.out _ _ ?_ (fun hHeld => ?_)
      · first | exact q5 | exact q4 | exact q0 | exact q0a | ((try dsimp only); go_keep)
      clear hK K
      try simp only [Act.put, List.setIfInBounds_toArray]
      refine wpAnyH_take (i := 8) (oi := _) (v := ?_) rfl (by kernel_rfl) (by kernel_rfl) (by kernel_rfl) (fun _ _ _ h => h) (Or.inl ⟨by rfl, ?_⟩) (by assumption) ?_
      rotate_left 1
      · intro wq hSw; (try dsimp only at hSw); go_simp; try (with_reducible rfl)
      try simp only [Act.put]
      refine wpAnyH_take (i := 9) (oi := _) (v := ?_) rfl (by kernel_rfl) (by kernel_rfl) (by kernel_rfl) (fun _ _ _ h => h) (Or.inl ⟨by rfl, ?_⟩) (by assumption) ?_
      rotate_left 1
      · intro wq hSw; (try dsimp only at hSw); go_simp; try (with_reducible rfl)
      try simp only [Act.put]
      refine wpAnyH_ready (rs := [10]) (by kernel_rfl) (by simp) ?_
      refine AllReadyH.cons (o := _) rfl (fun K hK => ?_) AllReadyH.nil
      go_simp
      refine hK.out _ _ ?_ (fun hHeld => ?_)
      · first | exact q5 | exact q4 | exact q0 | exact q0a | ((try dsimp only); go_keep)
      clear hK K
      try simp only [Act.put, List.setIfInBounds_toArray, List.set_cons_zero, List.set_cons_succ]
      refine wpAnyH_done (by kernel_rfl) ?_ _
      go_wp2_with fail
      go_meet
      case rel =>
        exact ⟨gt', ct', HW4.out, HF4.out, HB4.out⟩
  obtain ⟨gt', ct', hW5, hF5, hB5⟩ := hcut.out
  generalize hwc : wc = w5 at *
  have HW5 := hidIt hW5
  have HO5 := hidIt (own_fr HO3.out hF5 (by decide))
  have HOP5 := hidIt (hF5.blk _ _ _ HOP3.out (by decide))
  have HB5 := hidIt ((HB3.out.mono hbw).trans hB5)
  have hs5 : w3.heap.size ≤ w5.heap.size := hF5.size
  clear hcut hW5 hF5 hB5 hwc HX3 HY3 c0a q0 q0a HW3 HT3 HO3 HOP3 c0 c1
  obtain ⟨c0, c1, _⟩ := HW5.out.cells
  obtain ⟨p0, p2, p3, p6, pz5⟩ := HOC.out w5 HOP5.out
  have hll : ls.length ≤ 4294967296 := by rw [HW5.out.ll, ← HW0L.out]; exact h2
  have HR5 := hidIt (HR0.out.old HD.out HB5.out)
  have hbs5 : base ≤ w5.heap.size := by omega
  have hopw : gw ≠ w.heap.size := hne0.out.1
  have hopl : gl ≠ w.heap.size := hne0.out.2
  have PL : Hid (∀ w', Below w5.heap.size w5 w' → Calls Try.prog 16 #[.slice ai zs.length ci] w' fun e w'' => ∃ aov capv, e = .returned (.slice aov zs.length capv) ∧ Hid (OwnR w'' base 76 (.slice aov zs.length capv) zs ∧ Below w5.heap.size w5 w'')) := fun w' hb => (plain_any _ zs w' (HR5.out.ext hb) (by omega)).mono fun e w'' ⟨v', e1, e2, e3⟩ => by
    obtain ⟨aov, capv, hv⟩ := e2.form1
    subst hv
    exact ⟨aov, capv, e1, e2.le (by have := hb.size; omega), ext_trans hb e3⟩
  go_upto_region 5 with fail
  go_cut [] from 39 to 50 (fun wF => Hid (∃ gl' cl' lv, Wd wF base gw gt' ct' gl' cl' (us ++ [u]) (ls ++ [lv]) (xss ++ [zs]) (xss ++ [zs]) ∧ Fr [116, 31] w5 wF ∧ Below base w5 wF))
  case first =>
    refine wp_region_held_drew (S := fun w' => w'.cell? ⟨w.heap.size, 6, none⟩ = some (.slice ai zs.length ci)) (by kernel_rfl) (by first | exact p6 | (dsimp only; go_keep)) (fun hHeld => ?_)
    refine wpAnyH_take (i := 0) (oi := _) (v := ?_) rfl (by kernel_rfl) (by kernel_rfl) (by kernel_rfl) (fun _ _ _ h => h) (Or.inl ⟨by rfl, ?_⟩) (by assumption) ?_
    rotate_left 1
    · intro wq hSw; (try dsimp only at hSw); go_simp; try (with_reducible rfl)
    try simp only [Act.put, List.setIfInBounds_toArray]
    refine wpAnyH_take (i := 1) (oi := _) (v := ?_) rfl (by kernel_rfl) (by kernel_rfl) (by kernel_rfl) (fun _ _ _ h => h) (Or.inl ⟨by rfl, ?_⟩) (by assumption) ?_
    rotate_left 1
    · intro wq hSw; (try dsimp only at hSw); go_simp; try (with_reducible rfl)
    try simp only [Act.put]
    refine wpAnyH_take (i := 2) (oi := _) (v := ?_) rfl (by kernel_rfl) (by kernel_rfl) (by kernel_rfl) (fun _ _ _ h => h) (Or.inl ⟨by rfl, ?_⟩) (by assumption) ?_
    rotate_left 1
    · intro wq hSw; (try dsimp only at hSw); go_simp; try (with_reducible rfl)
    try simp only [Act.put]
    refine wpAnyH_take (i := 3) (oi := _) (v := ?_) rfl (by kernel_rfl) (by kernel_rfl) (by kernel_rfl) (fun _ _ _ h => h) (Or.inl ⟨by rfl, ?_⟩) (by assumption) ?_
    rotate_left 1
    · intro wq hSw; (try dsimp only at hSw); go_simp; try (with_reducible rfl)
    try simp only [Act.put]
    refine wpAnyH_take (i := 5) (oi := _) (v := ?_) rfl (by kernel_rfl) (by kernel_rfl) (by kernel_rfl) (fun _ _ _ h => h) (Or.inl ⟨by rfl, ?_⟩) (by assumption) ?_
    rotate_left 1
    · intro wq hSw; (try dsimp only at hSw); go_simp; try (with_reducible rfl)
    try simp only [Act.put]
    refine wpAnyH_take (i := 6) (oi := _) (v := ?_) rfl (by kernel_rfl) (by kernel_rfl) (by kernel_rfl) (fun _ _ _ h => h) (Or.inl ⟨by rfl, ?_⟩) (by assumption) ?_
    rotate_left 1
    · intro wq hSw; (try dsimp only at hSw); go_simp; try (with_reducible rfl)
    try simp only [Act.put]
    refine wpAnyH_ready (rs := [4, 7]) (by kernel_rfl) (by simp) ?_
    refine AllReadyH.cons (o := _) rfl (fun K hK => ?_) (AllReadyH.cons (o := _) rfl (fun K hK => ?_) AllReadyH.nil)
    · skip
      go_simp
      refine hK.out _ _ ?_ (fun hHeld => ?_)
      · first | exact r6c | exact r6b | exact r6a | exact r6 | exact p6 | ((try dsimp only); go_keep)
      clear hK K
      try simp only [Act.put, List.setIfInBounds_toArray, List.set_cons_zero, List.set_cons_succ]
      refine wpAnyH_ready (rs := [7]) (by kernel_rfl) (by simp) ?_
      refine AllReadyH.cons (o := _) rfl (fun K hK => ?_) AllReadyH.nil
      go_simp
      refine (PL.out _ (by repeat (first | exact Below.refl _ _ | apply Below.drew))).mono ?_; rintro e w6 ⟨aov, capv, rfl, HOV⟩; have HX6a := hidIt (HW5.out.ext HOV.out.2); have HX6 := hidIt (HX6a.out.ext (ext_alloc (Below.refl w6.heap.size w6) (.cells #[.slice aov zs.length capv] 31))); have HY6 : Hid (OwnR (w6.alloc (.cells #[.slice aov zs.length capv] 31)) base 76 (.slice aov zs.length capv) zs) := HOV.out.1.ext (ext_alloc (Below.refl w6.heap.size w6) (.cells #[.slice aov zs.length capv] 31)); have c6 := HX6a.out.cells.2.1; have c6a := HX6.out.cells.2.1; have r6 := (HOV.out.2.cell (p := ⟨w.heap.size, 6, none⟩) pz5).trans p6; have hz6 := HOV.out.2.size; have r6a := ((ext_alloc (Below.refl w6.heap.size w6) (.cells #[.slice aov zs.length capv] 31)).cell (p := ⟨w.heap.size, 6, none⟩) (Nat.lt_of_lt_of_le pz5 hz6)).trans r6; try go_wp2_with fail
      refine hK.out _ _ ?_ (fun hHeld => ?_)
      · first | exact r6c | exact r6b | exact r6a | exact r6 | exact p6 | ((try dsimp only); go_keep)
      clear hK K
      try simp only [Act.put, List.setIfInBounds_toArray, List.set_cons_zero, List.set_cons_succ]
      refine wpAnyH_ready (rs := [8]) (by kernel_rfl) (by simp) ?_
      refine AllReadyH.cons (o := _) rfl (fun K hK => ?_) AllReadyH.nil
      go_simp
      refine hK.out _ _ ?_ (fun hHeld => ?_)
      · first | exact r6c | exact r6b | exact r6a | exact r6 | exact p6 | ((try dsimp only); go_keep)
      clear hK K
      try simp only [Act.put, List.setIfInBounds_toArray, List.set_cons_zero, List.set_cons_succ]
      refine wpAnyH_ready (rs := [9]) (by kernel_rfl) (by simp) ?_
      refine AllReadyH.cons (o := _) rfl (fun K hK => ?_) AllReadyH.nil
      rw [if_pos (by rfl)]
      refine wp_append_own _ _ _ 114 rfl base 31 i1 _ 1 24 Try.underlying114 hj hy0 hy1 hy2 rfl (by decide) (.slice (some ⟨gl, 0, none⟩) ls.length cl) ls.length ls rfl HX6.out.lr ⟨w6.heap.size, 0, none⟩ 1 1 [.slice aov zs.length capv] rfl rfl (cell1_new' _ _ _) (by simp [Value.oneCell']) (by unfold maxLen; omega) (by omega) (by simp; omega) ?_; intro v' w6b hown' hg' _; obtain ⟨gl', cl', rfl, hW4, hF4, hB4, d0, df⟩ := HX6.out.pushL (w1 := w6b) hown' hg' HY6.out; have r6b : w6b.cell? ⟨w.heap.size, 6, none⟩ = some (.slice ai zs.length ci) := hg'.cell (a := ⟨w.heap.size, 6, none⟩) r6a (by simp [Value.ownBlock]; exact hopl.symm); have r6c := (World.cell?_of_block (a := ⟨w.heap.size, 6, none⟩) (heap_setCell_other w6b ⟨gw, 1, none⟩ w.heap.size (.slice (some ⟨gl', 0, none⟩) (ls.length + 1) cl') (by first | exact hopw | exact hopw.symm))).trans r6b; have HW4 := hidIt hW4; have HF4 := hidIt (((Fr.of_below HOV.out.2).trans (Fr.of_below (ext_alloc (Below.refl w6.heap.size w6) (.cells #[.slice aov zs.length capv] 31)))).trans hF4); have HB4 := hidIt (((HOV.out.2.mono hbs5).trans ((ext_alloc (Below.refl w6.heap.size w6) (.cells #[.slice aov zs.length capv] 31)).mono (by omega))).trans hB4); clear hown' hg' hW4 hF4 hB4
      refine hK.out _ _ ?_ (fun hHeld => ?_)
      · first | exact r6c | exact r6b | exact r6a | exact r6 | exact p6 | ((try dsimp only); go_keep)
      clear hK K
      try simp only [Act.put, List.setIfInBounds_toArray]
      refine wpAnyH_take (i := 10) (oi := _) (v := ?_) rfl (by kernel_rfl) (by kernel_rfl) (by kernel_rfl) (fun _ _ _ h => h) (Or.inl ⟨by rfl, ?_⟩) (by assumption) ?_
      rotate_left 1
      · intro wq hSw; (try dsimp only at hSw); go_simp; try (with_reducible rfl)
      try simp only [Act.put]
      refine wpAnyH_take (i := 11) (oi := _) (v := ?_) rfl (by kernel_rfl) (by kernel_rfl) (by kernel_rfl) (fun _ _ _ h => h) (Or.inl ⟨by rfl, ?_⟩) (by assumption) ?_
      rotate_left 1
      · intro wq hSw; (try dsimp only at hSw); go_simp; try (with_reducible rfl)
      try simp only [Act.put]
      refine wpAnyH_ready (rs := [12]) (by kernel_rfl) (by simp) ?_
      refine AllReadyH.cons (o := _) rfl (fun K hK => ?_) AllReadyH.nil
      go_simp
      refine hK.out _ _ ?_ (fun hHeld => ?_)
      · first | exact r6c | exact r6b | exact r6a | exact r6 | exact p6 | ((try dsimp only); go_keep)
      clear hK K
      try simp only [Act.put, List.setIfInBounds_toArray, List.set_cons_zero, List.set_cons_succ]
      refine wpAnyH_done (by kernel_rfl) ?_ _
      go_wp2_with fail
      go_meet
      case rel =>
        exact ⟨gl', cl', _, HW4.out, HF4.out, HB4.out⟩
    · skip
      go_simp
      refine (PL.out _ (by repeat (first | exact Below.refl _ _ | apply Below.drew))).mono ?_; rintro e w6 ⟨aov, capv, rfl, HOV⟩; have HX6a := hidIt (HW5.out.ext HOV.out.2); have HX6 := hidIt (HX6a.out.ext (ext_alloc (Below.refl w6.heap.size w6) (.cells #[.slice aov zs.length capv] 31))); have HY6 : Hid (OwnR (w6.alloc (.cells #[.slice aov zs.length capv] 31)) base 76 (.slice aov zs.length capv) zs) := HOV.out.1.ext (ext_alloc (Below.refl w6.heap.size w6) (.cells #[.slice aov zs.length capv] 31)); have c6 := HX6a.out.cells.2.1; have c6a := HX6.out.cells.2.1; have r6 := (HOV.out.2.cell (p := ⟨w.heap.size, 6, none⟩) pz5).trans p6; have hz6 := HOV.out.2.size; have r6a := ((ext_alloc (Below.refl w6.heap.size w6) (.cells #[.slice aov zs.length capv] 31)).cell (p := ⟨w.heap.size, 6, none⟩) (Nat.lt_of_lt_of_le pz5 hz6)).trans r6; try go_wp2_with fail
      refine hK.out _ _ ?_ (fun hHeld => ?_)
      · first | exact r6c | exact r6b | exact r6a | exact r6 | exact p6 | ((try dsimp only); go_keep)
      clear hK K
      try simp only [Act.put, List.setIfInBounds_toArray, List.set_cons_zero, List.set_cons_succ]
      refine wpAnyH_ready (rs := [4, 8]) (by kernel_rfl) (by simp) ?_
      refine AllReadyH.cons (o := _) rfl (fun K hK => ?_) (AllReadyH.cons (o := _) rfl (fun K hK => ?_) AllReadyH.nil)
      · skip
        go_simp
        refine hK.out _ _ ?_ (fun hHeld => ?_)
        · first | exact r6c | exact r6b | exact r6a | exact r6 | exact p6 | ((try dsimp only); go_keep)
        clear hK K
        try simp only [Act.put, List.setIfInBounds_toArray, List.set_cons_zero, List.set_cons_succ]
        refine wpAnyH_ready (rs := [8]) (by kernel_rfl) (by simp) ?_
        refine AllReadyH.cons (o := _) rfl (fun K hK => ?_) AllReadyH.nil
        go_simp
        refine hK.out _ _ ?_ (fun hHeld => ?_)
        · first | exact r6c | exact r6b | exact r6a | exact r6 | exact p6 | ((try dsimp only); go_keep)
        clear hK K
        try simp only [Act.put, List.setIfInBounds_toArray, List.set_cons_zero, List.set_cons_succ]
        refine wpAnyH_ready (rs := [9]) (by kernel_rfl) (by simp) ?_
        refine AllReadyH.cons (o := _) rfl (fun K hK => ?_) AllReadyH.nil
        rw [if_pos (by rfl)]
        refine wp_append_own _ _ _ 114 rfl base 31 i1 _ 1 24 Try.underlying114 hj hy0 hy1 hy2 rfl (by decide) (.slice (some ⟨gl, 0, none⟩) ls.length cl) ls.length ls rfl HX6.out.lr ⟨w6.heap.size, 0, none⟩ 1 1 [.slice aov zs.length capv] rfl rfl (cell1_new' _ _ _) (by simp [Value.oneCell']) (by unfold maxLen; omega) (by omega) (by simp; omega) ?_; intro v' w6b hown' hg' _; obtain ⟨gl', cl', rfl, hW4, hF4, hB4, d0, df⟩ := HX6.out.pushL (w1 := w6b) hown' hg' HY6.out; have r6b : w6b.cell? ⟨w.heap.size, 6, none⟩ = some (.slice ai zs.length ci) := hg'.cell (a := ⟨w.heap.size, 6, none⟩) r6a (by simp [Value.ownBlock]; exact hopl.symm); have r6c := (World.cell?_of_block (a := ⟨w.heap.size, 6, none⟩) (heap_setCell_other w6b ⟨gw, 1, none⟩ w.heap.size (.slice (some ⟨gl', 0, none⟩) (ls.length + 1) cl') (by first | exact hopw | exact hopw.symm))).trans r6b; have HW4 := hidIt hW4; have HF4 := hidIt (((Fr.of_below HOV.out.2).trans (Fr.of_below (ext_alloc (Below.refl w6.heap.size w6) (.cells #[.slice aov zs.length capv] 31)))).trans hF4); have HB4 := hidIt (((HOV.out.2.mono hbs5).trans ((ext_alloc (Below.refl w6.heap.size w6) (.cells #[.slice aov zs.length capv] 31)).mono (by omega))).trans hB4); clear hown' hg' hW4 hF4 hB4
        refine hK.out _ _ ?_ (fun hHeld => ?_)
        · first | exact r6c | exact r6b | exact r6a | exact r6 | exact p6 | ((try dsimp only); go_keep)
        clear hK K
        try simp only [Act.put, List.setIfInBounds_toArray]
        refine wpAnyH_take (i := 10) (oi := _) (v := ?_) rfl (by kernel_rfl) (by kernel_rfl) (by kernel_rfl) (fun _ _ _ h => h) (Or.inl ⟨by rfl, ?_⟩) (by assumption) ?_
        rotate_left 1
        · intro wq hSw; (try dsimp only at hSw); go_simp; try (with_reducible rfl)
        try simp only [Act.put]
        refine wpAnyH_take (i := 11) (oi := _) (v := ?_) rfl (by kernel_rfl) (by kernel_rfl) (by kernel_rfl) (fun _ _ _ h => h) (Or.inl ⟨by rfl, ?_⟩) (by assumption) ?_
        rotate_left 1
        · intro wq hSw; (try dsimp only at hSw); go_simp; try (with_reducible rfl)
        try simp only [Act.put]
        refine wpAnyH_ready (rs := [12]) (by kernel_rfl) (by simp) ?_
        refine AllReadyH.cons (o := _) rfl (fun K hK => ?_) AllReadyH.nil
        go_simp
        refine hK.out _ _ ?_ (fun hHeld => ?_)
        · first | exact r6c | exact r6b | exact r6a | exact r6 | exact p6 | ((try dsimp only); go_keep)
        clear hK K
        try simp only [Act.put, List.setIfInBounds_toArray, List.set_cons_zero, List.set_cons_succ]
        refine wpAnyH_done (by kernel_rfl) ?_ _
        go_wp2_with fail
        go_meet
        case rel =>
          exact ⟨gl', cl', _, HW4.out, HF4.out, HB4.out⟩
      · skip
        go_simp
        refine hK.out _ _ ?_ (fun hHeld => ?_)
        · first | exact r6c | exact r6b | exact r6a | exact r6 | exact p6 | ((try dsimp only); go_keep)
        clear hK K
        try simp only [Act.put, List.setIfInBounds_toArray, List.set_cons_zero, List.set_cons_succ]
        refine wpAnyH_ready (rs := [4]) (by kernel_rfl) (by simp) ?_
        refine AllReadyH.cons (o := _) rfl (fun K hK => ?_) AllReadyH.nil
        go_simp
        refine hK.out _ _ ?_ (fun hHeld => ?_)
        · first | exact r6c | exact r6b | exact r6a | exact r6 | exact p6 | ((try dsimp only); go_keep)
        clear hK K
        try simp only [Act.put, List.setIfInBounds_toArray, List.set_cons_zero, List.set_cons_succ]
        refine wpAnyH_ready (rs := [9]) (by kernel_rfl) (by simp) ?_
        refine AllReadyH.cons (o := _) rfl (fun K hK => ?_) AllReadyH.nil
        rw [if_pos (by rfl)]
        refine wp_append_own _ _ _ 114 rfl base 31 i1 _ 1 24 Try.underlying114 hj hy0 hy1 hy2 rfl (by decide) (.slice (some ⟨gl, 0, none⟩) ls.length cl) ls.length ls rfl HX6.out.lr ⟨w6.heap.size, 0, none⟩ 1 1 [.slice aov zs.length capv] rfl rfl (cell1_new' _ _ _) (by simp [Value.oneCell']) (by unfold maxLen; omega) (by omega) (by simp; omega) ?_; intro v' w6b hown' hg' _; obtain ⟨gl', cl', rfl, hW4, hF4, hB4, d0, df⟩ := HX6.out.pushL (w1 := w6b) hown' hg' HY6.out; have r6b : w6b.cell? ⟨w.heap.size, 6, none⟩ = some (.slice ai zs.length ci) := hg'.cell (a := ⟨w.heap.size, 6, none⟩) r6a (by simp [Value.ownBlock]; exact hopl.symm); have r6c := (World.cell?_of_block (a := ⟨w.heap.size, 6, none⟩) (heap_setCell_other w6b ⟨gw, 1, none⟩ w.heap.size (.slice (some ⟨gl', 0, none⟩) (ls.length + 1) cl') (by first | exact hopw | exact hopw.symm))).trans r6b; have HW4 := hidIt hW4; have HF4 := hidIt (((Fr.of_below HOV.out.2).trans (Fr.of_below (ext_alloc (Below.refl w6.heap.size w6) (.cells #[.slice aov zs.length capv] 31)))).trans hF4); have HB4 := hidIt (((HOV.out.2.mono hbs5).trans ((ext_alloc (Below.refl w6.heap.size w6) (.cells #[.slice aov zs.length capv] 31)).mono (by omega))).trans hB4); clear hown' hg' hW4 hF4 hB4
        refine hK.out _ _ ?_ (fun hHeld => ?_)
        · first | exact r6c | exact r6b | exact r6a | exact r6 | exact p6 | ((try dsimp only); go_keep)
        clear hK K
        try simp only [Act.put, List.setIfInBounds_toArray]
        refine wpAnyH_take (i := 10) (oi := _) (v := ?_) rfl (by kernel_rfl) (by kernel_rfl) (by kernel_rfl) (fun _ _ _ h => h) (Or.inl ⟨by rfl, ?_⟩) (by assumption) ?_
        rotate_left 1
        · intro wq hSw; (try dsimp only at hSw); go_simp; try (with_reducible rfl)
        try simp only [Act.put]
        refine wpAnyH_take (i := 11) (oi := _) (v := ?_) rfl (by kernel_rfl) (by kernel_rfl) (by kernel_rfl) (fun _ _ _ h => h) (Or.inl ⟨by rfl, ?_⟩) (by assumption) ?_
        rotate_left 1
        · intro wq hSw; (try dsimp only at hSw); go_simp; try (with_reducible rfl)
        try simp only [Act.put]
        refine wpAnyH_ready (rs := [12]) (by kernel_rfl) (by simp) ?_
        refine AllReadyH.cons (o := _) rfl (fun K hK => ?_) AllReadyH.nil
        go_simp
        refine hK.out _ _ ?_ (fun hHeld => ?_)
        · first | exact r6c | exact r6b | exact r6a | exact r6 | exact p6 | ((try dsimp only); go_keep)
        clear hK K
        try simp only [Act.put, List.setIfInBounds_toArray, List.set_cons_zero, List.set_cons_succ]
        refine wpAnyH_done (by kernel_rfl) ?_ _
        go_wp2_with fail
        go_meet
        case rel =>
          exact ⟨gl', cl', _, HW4.out, HF4.out, HB4.out⟩
  obtain ⟨gl', cl', lv, hW7, hF7, hB7⟩ := hcut.out
  generalize hwc : wc = w7 at *
  have HW7 := hidIt hW7
  have HO7 := hidIt (own_fr HO5.out hF7 (by decide))
  have HOP7 := hidIt (hF7.blk _ _ _ HOP5.out (by decide))
  have HB7 := hidIt (HB5.out.trans hB7)
  have hs7 : w5.heap.size ≤ w7.heap.size := hF7.size
  clear hcut hW7 hF7 hB7 hwc HW5 HO5 HOP5 c0 c1 p0 p2 p3 p6 PL HR5
  obtain ⟨p0, p2, p3, p6, pz7⟩ := HOC.out w7 HOP7.out
  have HR7 := hidIt (HR0.out.old HD.out HB7.out)
  have SPO := hidIt (spoil_any ai ci g cap w0.heap.size zs w7 HR7.out hzl (fun b off h1 h2 => by have := HD.out b off h1 h2; omega) hcz hcap HO7.out)
  go_upto_region 7 with (go_at_call 74; refine SPO.out.mono ?_; clear SPO; rintro e w8 ⟨rfl, hO8, hF8, hB8⟩; have HW8 := hidIt (HW7.out.fr hF8 (by decide)); have HO8 := hidIt hO8; have HOP8 : Hid (w8.heap[w.heap.size]? = some (.cells #[.int .i64 1, .int .i64 who, .int .i64 fr, .int .i64 tt, .int .i64 kk, .int .i64 nn, .slice ai zs.length ci] 95 (0, 0))) := (by unfold Hid; rw [hB8.block _ hs0]; exact HOP7.out); have HB8 := hidIt (HB7.out.trans (hB8.mono (by omega))); have hs8 := hF8.size; clear hO8 hF8 hB8)
  clear HW7 HO7 HOP7 p0 p2 p3 p6
  obtain ⟨p0, p2, p3, p6, pz8⟩ := HOC.out w8 HOP8.out
  obtain ⟨SP, hSP⟩ : ∃ SP : List It, SP = (List.range zs.length).map (fun (i : Nat) => (-77 - (i : Int), (1 : Int))) := ⟨_, rfl⟩
  have hSL : SP.length = zs.length := by rw [hSP]; simp
  have HSL := hidIt hSL
  have HR8 : Hid (RdR w8 (.slice (some ⟨g, 0, none⟩) zs.length cap) SP) := by
    have := (HO8.out.rd).upto zs.length (by rw [hnd_len]; exact hcz)
    rw [hnd_take2 zs cap hcz, ← hSP] at this
    exact this
  have HWS : Hid (wt SP ≤ 4611686018427387904) := wt_small (by rw [hSL]; exact hzl)
  clear hSP hSL
  go_wp2_with fail
  refine (Of_any _ SP w8 HR8.out HWS.out).mono ?_
  rintro e w9 ⟨u2, rfl, hT9, hb9⟩
  obtain ⟨w10, hw10⟩ : ∃ w10, w10 = w9.alloc (.cells #[.pointer u2] 39) := ⟨_, rfl⟩
  have e10 : Below w9.heap.size w9 w10 := by rw [hw10]; exact ext_alloc (Below.refl _ _) _
  have q0 : w10.cell? ⟨w9.heap.size, 0, none⟩ = some (.pointer u2) := by rw [hw10]; simp
  have hq10 : w9.heap.size < w10.heap.size := by rw [hw10]; simp
  have b10 := ext_trans hb9 e10
  have HB10 := hidIt b10
  have HT10 := hidIt (hT9.ext e10)
  have HR10 := hidIt (HR8.out.ext b10)
  have p6' := (b10.cell (p := ⟨w.heap.size, 6, none⟩) pz8).trans p6
  go_upto_region 8 with fail
  rw [← hw10]
  generalize w9.heap.size = tb2 at *
  clear hw10 e10 hb9 hT9 b10 p0 p2 p3 p6 hgt3 hgw3 hgt2
  go_upto_region 9 with (go_at_call 16; refine (plain_any _ SP w10 HR10.out (by have := HSL.out; omega)).mono ?_; rintro e w11 ⟨vv, rfl, hO11, hb11⟩; have HB11 := hidIt (ext_trans HB10.out hb11); have HO11 := hidIt hO11; have HT11 := hidIt (HT10.out.ext hb11); have q11 := (hb11.cell (p := ⟨tb2, 0, none⟩) hq10).trans q0; have hq11 := (Nat.lt_of_lt_of_le hq10 hb11.size); obtain ⟨aov, capv, rfl⟩ := hO11.form1; clear hO11 hb11)
  have HRV := hidIt HO11.out.rd
  have HC : Hid (∀ w', Below w11.heap.size w11 w' → w'.cell? ⟨tb2, 0, none⟩ = some (.pointer u2) ∧ TT w' (.agg #[.pointer u2]) SP ∧ RdR w' (.slice aov SP.length capv) SP) := fun w' hb => ⟨(hb.cell (p := ⟨tb2, 0, none⟩) hq11).trans q11, HT11.out.ext hb, HRV.out.ext hb⟩
  have HEND : Hid (∀ w', Below w11.heap.size w11 w' → Hid (∃ gt' ct' gl' cl' us' ls' xss', Wd w' base gw gt' ct' gl' cl' us' ls' xss' xss' ∧ us.length ≤ us'.length ∧ us'.length ≤ us.length + 1 ∧ ∀ xs ∈ xss', xs.length ≤ N + zs.length) ∧ Hid (Below base w w')) := fun w' hb => by
    have hb' : Below w8.heap.size w8 w' := ext_trans HB11.out hb
    refine ⟨⟨gt', ct', gl', cl', us ++ [u], ls ++ [lv], xss ++ [zs], HW8.out.ext hb', by simp, by simp, fun xs hx => ?_⟩, HB8.out.trans (hb'.mono (by omega))⟩
    rcases List.mem_append.1 hx with hx | hx
    · have := HSX.out xs hx; omega
    · simp at hx; subst hx; omega
  have hslen : SP.length ≤ 4194304 := by have := HSL.out; omega
  have HS4 : Hid (∀ s q : Rs, Hid (s = rA.su SP) → Hid (q = rA.su (SP.take ((SP.length : Int)).toNat)) → s = q) := fun s q a b => by rw [a.out, b.out, Int.toNat_natCast, List.take_length]
  clear HW8 HO8 HOP8 HR8 HR10 HT10 HB10 HO11 p6' q0 HR7 HR0 HD HSX
  go_wp2_with fail
  refine (Size_any u2 SP w11 HT11.out).mono ?_
  rintro e w12 ⟨rfl, hb12⟩
  have H12 := hidIt hb12
  clear q11 hb12
  obtain ⟨q12, t12, r12⟩ := HC.out w12 H12.out
  go_wp2_with fail
  refine (Sum_any u2 SP w12 t12).mono ?_
  rintro e w13 ⟨s3, HS, rfl, hb13⟩
  have H13 := hidIt (ext_trans H12.out hb13)
  clear hb13 q12 t12 r12
  go_wp2_with fail
  refine (rUpto_any _ SP _ w13 (HC.out w13 H13.out).2.2 HWS.out).mono ?_
  rintro e w14 ⟨s4, HS', rfl, hb14⟩
  have H14 := hidIt (ext_trans H13.out hb14)
  clear hb14
  go_wp2_with fail
  refine (sameRuns_any s3 s4 w14 (HS4.out _ _ HS HS')).mono ?_
  rintro e w15 ⟨rfl, hb15⟩
  have H15 := hidIt (ext_trans H14.out hb15)
  clear hb15 HS HS' HS4
  go_wp2_with fail
  go_loopw [10] (fun i wr => ∃ k : Nat, k ≤ SP.length ∧ i = .int .i64 k ∧ Hid (Below w11.heap.size w11 wr)) (fun i _ => SP.length - (intOf i).toNat)
  case atStart => exact ⟨0, Nat.zero_le _, rfl, H15.out⟩
  case round =>
    obtain ⟨k, hk, rfl, HBR⟩ := hrel
    obtain ⟨q1, t1, r1⟩ := HC.out wr HBR.out
    by_cases hlt : k < SP.length
    · have hlt' : (k : Int) < (SP.length : Int) := by omega
      obtain ⟨x, hx⟩ : ∃ x, x = SP[k]?.getD (0, 0) := ⟨_, rfl⟩
      have AT := hidIt (at_in u2 SP k wr t1 HWS.out hlt)
      rw [← hx] at AT
      have HX := hidIt hx
      clear hx
      have RV := hidIt r1
      clear t1 r1
      go_wp2_with fail
      refine AT.out.mono ?_
      rintro e wa ⟨rfl, hba⟩
      obtain ⟨wb, hwb⟩ : ∃ wb, wb = wa.alloc (.cells #[.int .i64 x.1, .int .i64 x.2] 24) := ⟨_, rfl⟩
      have eb : Below wa.heap.size wa wb := by rw [hwb]; exact ext_alloc (Below.refl _ _) _
      have hI : BlkI wb wa.heap.size x := by rw [hwb]; exact heap_alloc_new _ _
      have HBb := hidIt (ext_trans (ext_trans HBR.out hba) eb)
      obtain ⟨b, off, cap', e0, _, _, hbl, hcc⟩ := (HC.out wb HBb.out).2.2.at (by omega)
      simp only [Value.slice.injEq] at e0
      obtain ⟨rfl, _, rfl⟩ := e0
      obtain ⟨y0, y1⟩ := hcc k hlt
      rw [← HX.out] at y0 y1
      obtain ⟨x0, x1, _⟩ := hI.cells
      have hxl := hI.lt
      have HIC : Hid (∀ w', Below wb.heap.size wb w' → (w'.cell? ⟨wa.heap.size, 0, none⟩ = some (.int .i64 x.1) ∧ w'.cell? ⟨wa.heap.size, 1, none⟩ = some (.int .i64 x.2)) ∧ w'.cell? ⟨b, off + k * 2, none⟩ = some (.int .i64 x.1) ∧ w'.cell? ⟨b, off + k * 2 + 1, none⟩ = some (.int .i64 x.2)) := fun w' hb => ⟨⟨(hb.cell (p := ⟨wa.heap.size, 0, none⟩) hxl).trans x0, (hb.cell (p := ⟨wa.heap.size, 1, none⟩) hxl).trans x1⟩, (hb.cell (p := ⟨b, off + k * 2, none⟩) hbl).trans y0, (hb.cell (p := ⟨b, off + k * 2 + 1, none⟩) hbl).trans y1⟩
      go_upto_region 15 with fail
      rw [← hwb]
      clear hwb hcc hba eb hI q1
      generalize wa.heap.size = xb at *
      go_region_held3 (fun w' => w'.cell? ⟨xb, 0, none⟩ = some (.int .i64 x.1) ∧ w'.cell? ⟨xb, 1, none⟩ = some (.int .i64 x.2) ∧ w'.cell? ⟨b, off + k * 2, none⟩ = some (.int .i64 x.1) ∧ w'.cell? ⟨b, off + k * 2 + 1, none⟩ = some (.int .i64 x.2)) (go_keep) (
        (go_at_call 75; refine (sameRun_any x _).mono ?_; rintro e wd ⟨rfl, hbd⟩; have HBD : Hid (Below wb.heap.size wb wd) := ext_trans (by repeat (first | exact Below.refl _ _ | apply Below.drew)) hbd; clear hbd x0 x1 y0 y1; obtain ⟨⟨x0, x1⟩, y0, y1⟩ := HIC.out wd HBD.out))
      all_goals
        have HBE := hidIt (ext_trans HBb.out HBD.out)
        by_cases h40 : 40 < k
        · have h40' : (40 : Int) < (k : Int) := by omega
          go_wp2_with fail
          go_ret
          exact ⟨rfl, (HEND.out wd HBE.out).1, (HEND.out wd HBE.out).2⟩
        · have h40' : ¬ (40 : Int) < (k : Int) := by omega
          go_wp2_with fail
          go_roundw
          case rel => exact ⟨k + 1, by omega, by go_num, HBE.out⟩
          case measure => simp [intOf]; omega
    · obtain rfl : k = SP.length := by omega
      have hge : ¬ (SP.length : Int) < (SP.length : Int) := by omega
      go_wp2_with fail
      go_ret
      exact ⟨rfl, (HEND.out wr HBR.out).1, (HEND.out wr HBR.out).2⟩
end Go.Proofs.Ytlnachbigchobaa
