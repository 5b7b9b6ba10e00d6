import Derived.Test.YtmldfjhfgaggpaaJ16
import Derived.Test.YtmldfjhfgaggpaaJ13
import Derived.Test.YtmldfjhfgaggpaaJ10
import Derived.Test.YtmldfjhfgaggpaaJ14
/- The law's bank once more: it is good. -/
namespace Go.Proofs.Ytmldfjhfgaggpaa
open Go.RowKit

set_option maxRecDepth 100000 in
set_option maxHeartbeats 8000000 in
theorem bankG_any (v : Value) (xs : List Sv) (w : World) (h : RdT w v xs) : Calls Try.prog 13 #[v] w fun e w' => ∃ b bm, e = .returned (.pointer (some ⟨b, 0, none⟩)) ∧ (∃ s : Bs, Bk (F1 b) w' b bm (9 * xs.length) s.m s.p ∧ Good s) ∧ w.heap.size ≤ b ∧ w.heap.size ≤ bm ∧ Below w.heap.size w w' := by
  have NW := hidIt (New_any w)
  have H := hidIt h
  obtain ⟨ao, cap, rfl, hl1, hl2, hl3, hok, _⟩ := h
  have HOK := hidIt hok
  clear hok
  go_enter Try.func13, Try.ntmps13
  go_upto_region 2 with (go_at_call 31; refine NW.out.mono ?_; rintro e w1 ⟨b, bm, rfl, hbk, h1, h2, hb⟩; have HB1 := hidIt hb; have HBK := hidIt hbk; have HBB := hidIt (And.intro h1 h2); clear hb hbk h1 h2; (try dsimp only))
  go_wp2_with fail
  go_loopw [4] (fun i wr => ∃ k : Nat, k ≤ xs.length ∧ i = .int .i64 k ∧ ∃ s : Bs, Bk (F1 b) wr b bm (9 * k) s.m s.p ∧ Good s ∧ Below w.heap.size w wr) (fun i _ => xs.length - (RowKit.intOf i).toNat)
  case atStart => exact ⟨0, Nat.zero_le _, rfl, ⟨fun _ => none, 0⟩, HBK.out, Good.empty, HB1.out⟩
  case round =>
    obtain ⟨k, hk, rfl, s, hbk, h95, hbw⟩ := hrel
    have H95 := hidIt h95
    clear h95
    have HBW := hidIt hbw
    have HBS := hidIt hbw.size
    clear HBK
    have HBK := hidIt hbk
    clear hbk hbw
    by_cases hlt : k < xs.length
    · obtain ⟨x, hx⟩ : ∃ x, xs[k]? = some x := ⟨_, List.getElem?_eq_getElem hlt⟩
      obtain ⟨ao', cap', hv', _, _, _, _, h6⟩ := H.out.ext HBW.out
      cases hv'
      obtain ⟨pb, po, ea, hpb, hc⟩ := h6 (by intro e; rw [e] at hlt; simp at hlt)
      subst ea
      obtain ⟨c0, c1, c2, c3, pv, c4, c5⟩ := hc k x hx
      obtain ⟨pa, pn, pc, epv⟩ : ∃ ao n c, pv = .slice ao n c := let ⟨ao, c, e, _⟩ := c5.len; ⟨ao, _, c, e⟩
      subst epv
      have hxo := HOK.out x (List.mem_of_getElem? hx)
      have HLN := hidIt hxo.t
      have HIN := hidIt hxo.n
      have hi1 : (k : Int) < (xs.length : Int) := by omega
      have HC5 := hidIt c5
      clear hc h6 hxo c5 hx
      go_upto_region 6 with fail
      generalize hw5 : World.alloc _ _ = w5
      have HB5 : Hid (Below wr.heap.size wr w5) := by unfold Hid; rw [← hw5]; exact ext_alloc (Below.refl _ _) _
      have HK5 : Hid (w5.heap[wr.heap.size]? = some (.cells #[.int .i64 x.k, .int .i64 x.who, .int .i64 x.n, .int .i64 x.s, .slice pa pn pc] 47 (0, 0))) := by unfold Hid; rw [← hw5]; exact heap_alloc_new _ _
      clear hw5 c0 c1 c2 c3 c4
      have HPV := hidIt (HC5.out.ext HB5.out)
      have HS : Hid (∀ w', Below w5.heap.size w5 w' → w'.cell? ⟨wr.heap.size, 2, none⟩ = some (.int .i64 x.n) ∧ w'.cell? ⟨wr.heap.size, 3, none⟩ = some (.int .i64 x.s) ∧ w'.cell? ⟨wr.heap.size, 4, none⟩ = some (.slice pa pn pc)) := fun w' hb => (cells5 ((hb.block _ (Array.getElem?_eq_some_iff.1 HK5.out).1).trans HK5.out)).2
      have HSK : Hid (∀ w9 w', Below w5.heap.size w5 w9 → Kb b bm w9 w' → w'.cell? ⟨wr.heap.size, 2, none⟩ = some (.int .i64 x.n) ∧ w'.cell? ⟨wr.heap.size, 3, none⟩ = some (.int .i64 x.s) ∧ w'.cell? ⟨wr.heap.size, 4, none⟩ = some (.slice pa pn pc)) := fun w9 w' hb hkb => by
        have hlt := HBK.out.lt
        have e9 := (hb.block _ (Array.getElem?_eq_some_iff.1 HK5.out).1).trans HK5.out
        exact (cells5 ((hkb.block (Array.getElem?_eq_some_iff.1 e9).1 (by omega) (by omega)).trans e9)).2
      have YK : Hid (∀ w9, Below w5.heap.size w5 w9 → ∀ v, RdS w9 v x.t → Calls Try.prog 14 #[.pointer (some ⟨b, 0, none⟩), .int .i64 x.n, .agg #[.int .i64 x.s, v]] w9 (OpR (F1 b) w9 b bm (9 * (k + 1)) (yankB s x.n ⟨x.s, x.t⟩))) := fun w9 hb v hv => Yank_any w9 b bm (9 * k) s x.n ⟨x.s, x.t⟩ v ((HBK.out.ext HB5.out).ext hb) hv HIN.out (by omega)
      have DL : Hid (∀ w9, Below w5.heap.size w5 w9 → ∀ v, RdS w9 v x.t → Calls Try.prog 16 #[.pointer (some ⟨b, 0, none⟩), .int .i64 x.n, .agg #[.int .i64 x.s, v]] w9 (OpR (F1 b) w9 b bm (9 * (k + 1)) (deleteB s x.n ⟨x.s, x.t⟩))) := fun w9 hb v hv => Delete_any w9 b bm (9 * k) s x.n ⟨x.s, x.t⟩ v ((HBK.out.ext HB5.out).ext hb) hv HIN.out (by omega)
      have ST : Hid (∀ w9, Below w5.heap.size w5 w9 → ∀ v, RdS w9 v x.t → Calls Try.prog 18 #[.pointer (some ⟨b, 0, none⟩), .int .i64 x.n, v] w9 (OpR (F1 b) w9 b bm (9 * (k + 1)) (setB s x.n x.t))) := fun w9 hb v hv => Set_any w9 b bm (9 * k) s x.n x.t v ((HBK.out.ext HB5.out).ext hb) hv HIN.out (by omega)
      have k0 := (cells5 HK5.out).1
      have ks := HS.out w5 (Below.refl _ _)
      by_cases h1 : x.k = 1
      · rw [h1] at k0
        go_upto_region 8 with fail
        refine wp_region_held_drew (S := fun w'' => w''.cell? ⟨wr.heap.size, 2, none⟩ = some (.int .i64 x.n) ∧ w''.cell? ⟨wr.heap.size, 3, none⟩ = some (.int .i64 x.s) ∧ w''.cell? ⟨wr.heap.size, 4, none⟩ = some (.slice pa pn pc)) (by kernel_rfl) (ks) (fun hHeld => ?_)
        refine wpAnyH_take (i := 0) (oi := _) (v := ?_) rfl (by kernel_rfl) (by kernel_rfl) (by kernel_rfl) (fun _ _ _ h => h) (Or.inl ⟨by rfl, ?_⟩) (by assumption) ?_
        rotate_left 1
        · intro wq hSw; (try dsimp only at hSw); go_simp; try (with_reducible rfl)
        try simp only [Act.put, List.getElem_toArray, List.getElem_cons_zero, List.setIfInBounds_toArray, List.set_cons_zero, List.set_cons_succ]
        refine wpAnyH_take (i := 1) (oi := _) (v := ?_) rfl (by kernel_rfl) (by kernel_rfl) (by kernel_rfl) (fun _ _ _ h => h) (Or.inl ⟨by rfl, ?_⟩) (by assumption) ?_
        rotate_left 1
        · intro wq hSw; (try dsimp only at hSw); go_simp; try (with_reducible rfl)
        try simp only [Act.put, List.getElem_toArray, List.getElem_cons_succ, List.getElem_cons_zero, List.setIfInBounds_toArray, List.set_cons_zero, List.set_cons_succ]
        refine wpAnyH_take (i := 2) (oi := _) (v := ?_) rfl (by kernel_rfl) (by kernel_rfl) (by kernel_rfl) (fun _ _ _ h => h) (Or.inl ⟨by rfl, ?_⟩) (by assumption) ?_
        rotate_left 1
        · intro wq hSw; (try dsimp only at hSw); go_simp; try (with_reducible rfl)
        try simp only [Act.put, List.getElem_toArray, List.getElem_cons_succ, List.getElem_cons_zero, List.setIfInBounds_toArray, List.set_cons_zero, List.set_cons_succ]
        refine wpAnyH_take (i := 3) (oi := _) (v := ?_) rfl (by kernel_rfl) (by kernel_rfl) (by kernel_rfl) (fun _ _ _ h => h) (Or.inl ⟨by rfl, ?_⟩) (by assumption) ?_
        rotate_left 1
        · intro wq hSw; (try dsimp only at hSw); go_simp; try (with_reducible rfl)
        try simp only [Act.put, List.getElem_toArray, List.getElem_cons_succ, List.getElem_cons_zero, List.setIfInBounds_toArray, List.set_cons_zero, List.set_cons_succ]
        refine wpAnyH_take (i := 4) (oi := _) (v := ?_) rfl (by kernel_rfl) (by kernel_rfl) (by kernel_rfl) (fun _ _ _ h => h) (Or.inl ⟨by rfl, ?_⟩) (by assumption) ?_
        rotate_left 1
        · intro wq hSw; (try dsimp only at hSw); go_simp; try (with_reducible rfl)
        try simp only [Act.put, List.getElem_toArray, List.getElem_cons_succ, List.getElem_cons_zero, List.setIfInBounds_toArray, List.set_cons_zero, List.set_cons_succ]
        refine wpAnyH_take (i := 5) (oi := _) (v := ?_) rfl (by kernel_rfl) (by kernel_rfl) (by kernel_rfl) (fun _ _ _ h => h) (Or.inl ⟨by rfl, ?_⟩) (by assumption) ?_
        rotate_left 1
        · intro wq hSw; (try dsimp only at hSw); go_simp; try (with_reducible rfl)
        try simp only [Act.put, List.getElem_toArray, List.getElem_cons_succ, List.getElem_cons_zero, List.setIfInBounds_toArray, List.set_cons_zero, List.set_cons_succ]
        refine wpAnyH_take (i := 6) (oi := _) (v := ?_) rfl (by kernel_rfl) (by kernel_rfl) (by kernel_rfl) (fun _ _ _ h => h) (Or.inl ⟨by rfl, ?_⟩) (by assumption) ?_
        rotate_left 1
        · intro wq hSw; (try dsimp only at hSw); go_simp; try (with_reducible rfl)
        try simp only [Act.put, List.getElem_toArray, List.getElem_cons_succ, List.getElem_cons_zero, List.setIfInBounds_toArray, List.set_cons_zero, List.set_cons_succ]
        refine wpAnyH_ready (rs := [7]) (by kernel_rfl) (by simp) ?_
        refine AllReadyH.cons (o := _) rfl (fun K hK => ?_) AllReadyH.nil
        rw [if_pos (by rfl)]
        refine wp_append_fresh _ _ _ 29 (by rfl) Try.info_i64 Try.underlying29 (by rfl) _ x.t (by rfl) (HPV.out.ext (Below.drew (Below.refl _ _))) (by have := HLN.out; omega) ?_; intro v9 w9 ho9 hb9; obtain ⟨a9, n9, c9, e9⟩ := ho9.form; subst e9; have HO9 := hidIt ho9; have HB9 := hidIt (ext_trans (Below.drew (Below.refl w5.heap.size w5)) hb9); clear ho9 hb9 ks; have ks := HS.out w9 HB9.out
        refine hK.out _ _ ?_ (fun hHeld => ?_)
        · (try simp only [World.cell?_drew]); exact ks
        clear hK K
        try simp only [Act.put, List.getElem_toArray, List.getElem_cons_succ, List.getElem_cons_zero, List.setIfInBounds_toArray, List.set_cons_zero, List.set_cons_succ]
        refine wpAnyH_take (i := 8) (oi := _) (v := ?_) rfl (by kernel_rfl) (by kernel_rfl) (by kernel_rfl) (fun _ _ _ h => h) (Or.inl ⟨by rfl, ?_⟩) (by assumption) ?_
        rotate_left 1
        · intro wq hSw; (try dsimp only at hSw); go_simp; try (with_reducible rfl)
        try simp only [Act.put, List.getElem_toArray, List.getElem_cons_succ, List.getElem_cons_zero, List.setIfInBounds_toArray, List.set_cons_zero, List.set_cons_succ]
        refine wpAnyH_ready (rs := [9]) (by kernel_rfl) (by simp) ?_
        refine AllReadyH.cons (o := _) rfl (fun K hK => ?_) AllReadyH.nil
        go_simp
        refine (YK.out w9 HB9.out _ HO9.out.rds).mono ?_; rintro e y2 ⟨rfl, hbk, hkb⟩; have HBK2 := hidIt hbk; have HKB2 := hidIt hkb; clear hbk hkb ks; have ks := HSK.out w9 y2 HB9.out HKB2.out; try dsimp only
        refine hK.out _ _ ?_ (fun hHeld => ?_)
        · (try simp only [World.cell?_drew]); exact ks
        clear hK K
        try simp only [Act.put, List.getElem_toArray, List.getElem_cons_succ, List.getElem_cons_zero, List.setIfInBounds_toArray, List.set_cons_zero, List.set_cons_succ]
        refine wpAnyH_done (by kernel_rfl) ?_ _
        go_wp2_with fail
        go_roundw
        case rel => exact ⟨k + 1, by omega, by go_num, _, HBK2.out, H95.out.yank _ _, HBW.out.trans ((HB5.out.trans (HB9.out.mono HB5.out.size) |>.mono HBS.out).trans (HKB2.out.below HBB.out.1 HBB.out.2 (by have := HB9.out.size; have := HB5.out.size; have := HBS.out; omega)))⟩
        case measure => simp [RowKit.intOf]; omega

      have hb1 : (x.k == 1) = false := by simp [h1]
      by_cases h2 : x.k = 2
      · rw [h2] at k0
        go_upto_region 10 with fail
        refine wp_region_held_drew (S := fun w'' => w''.cell? ⟨wr.heap.size, 2, none⟩ = some (.int .i64 x.n) ∧ w''.cell? ⟨wr.heap.size, 3, none⟩ = some (.int .i64 x.s) ∧ w''.cell? ⟨wr.heap.size, 4, none⟩ = some (.slice pa pn pc)) (by kernel_rfl) (ks) (fun hHeld => ?_)
        refine wpAnyH_take (i := 0) (oi := _) (v := ?_) rfl (by kernel_rfl) (by kernel_rfl) (by kernel_rfl) (fun _ _ _ h => h) (Or.inl ⟨by rfl, ?_⟩) (by assumption) ?_
        rotate_left 1
        · intro wq hSw; (try dsimp only at hSw); go_simp; try (with_reducible rfl)
        try simp only [Act.put, List.getElem_toArray, List.getElem_cons_zero, List.setIfInBounds_toArray, List.set_cons_zero, List.set_cons_succ]
        refine wpAnyH_take (i := 1) (oi := _) (v := ?_) rfl (by kernel_rfl) (by kernel_rfl) (by kernel_rfl) (fun _ _ _ h => h) (Or.inl ⟨by rfl, ?_⟩) (by assumption) ?_
        rotate_left 1
        · intro wq hSw; (try dsimp only at hSw); go_simp; try (with_reducible rfl)
        try simp only [Act.put, List.getElem_toArray, List.getElem_cons_succ, List.getElem_cons_zero, List.setIfInBounds_toArray, List.set_cons_zero, List.set_cons_succ]
        refine wpAnyH_take (i := 2) (oi := _) (v := ?_) rfl (by kernel_rfl) (by kernel_rfl) (by kernel_rfl) (fun _ _ _ h => h) (Or.inl ⟨by rfl, ?_⟩) (by assumption) ?_
        rotate_left 1
        · intro wq hSw; (try dsimp only at hSw); go_simp; try (with_reducible rfl)
        try simp only [Act.put, List.getElem_toArray, List.getElem_cons_succ, List.getElem_cons_zero, List.setIfInBounds_toArray, List.set_cons_zero, List.set_cons_succ]
        refine wpAnyH_take (i := 3) (oi := _) (v := ?_) rfl (by kernel_rfl) (by kernel_rfl) (by kernel_rfl) (fun _ _ _ h => h) (Or.inl ⟨by rfl, ?_⟩) (by assumption) ?_
        rotate_left 1
        · intro wq hSw; (try dsimp only at hSw); go_simp; try (with_reducible rfl)
        try simp only [Act.put, List.getElem_toArray, List.getElem_cons_succ, List.getElem_cons_zero, List.setIfInBounds_toArray, List.set_cons_zero, List.set_cons_succ]
        refine wpAnyH_take (i := 4) (oi := _) (v := ?_) rfl (by kernel_rfl) (by kernel_rfl) (by kernel_rfl) (fun _ _ _ h => h) (Or.inl ⟨by rfl, ?_⟩) (by assumption) ?_
        rotate_left 1
        · intro wq hSw; (try dsimp only at hSw); go_simp; try (with_reducible rfl)
        try simp only [Act.put, List.getElem_toArray, List.getElem_cons_succ, List.getElem_cons_zero, List.setIfInBounds_toArray, List.set_cons_zero, List.set_cons_succ]
        refine wpAnyH_take (i := 5) (oi := _) (v := ?_) rfl (by kernel_rfl) (by kernel_rfl) (by kernel_rfl) (fun _ _ _ h => h) (Or.inl ⟨by rfl, ?_⟩) (by assumption) ?_
        rotate_left 1
        · intro wq hSw; (try dsimp only at hSw); go_simp; try (with_reducible rfl)
        try simp only [Act.put, List.getElem_toArray, List.getElem_cons_succ, List.getElem_cons_zero, List.setIfInBounds_toArray, List.set_cons_zero, List.set_cons_succ]
        refine wpAnyH_take (i := 6) (oi := _) (v := ?_) rfl (by kernel_rfl) (by kernel_rfl) (by kernel_rfl) (fun _ _ _ h => h) (Or.inl ⟨by rfl, ?_⟩) (by assumption) ?_
        rotate_left 1
        · intro wq hSw; (try dsimp only at hSw); go_simp; try (with_reducible rfl)
        try simp only [Act.put, List.getElem_toArray, List.getElem_cons_succ, List.getElem_cons_zero, List.setIfInBounds_toArray, List.set_cons_zero, List.set_cons_succ]
        refine wpAnyH_ready (rs := [7]) (by kernel_rfl) (by simp) ?_
        refine AllReadyH.cons (o := _) rfl (fun K hK => ?_) AllReadyH.nil
        rw [if_pos (by rfl)]
        refine wp_append_fresh _ _ _ 29 (by rfl) Try.info_i64 Try.underlying29 (by rfl) _ x.t (by rfl) (HPV.out.ext (Below.drew (Below.refl _ _))) (by have := HLN.out; omega) ?_; intro v9 w9 ho9 hb9; obtain ⟨a9, n9, c9, e9⟩ := ho9.form; subst e9; have HO9 := hidIt ho9; have HB9 := hidIt (ext_trans (Below.drew (Below.refl w5.heap.size w5)) hb9); clear ho9 hb9 ks; have ks := HS.out w9 HB9.out
        refine hK.out _ _ ?_ (fun hHeld => ?_)
        · (try simp only [World.cell?_drew]); exact ks
        clear hK K
        try simp only [Act.put, List.getElem_toArray, List.getElem_cons_succ, List.getElem_cons_zero, List.setIfInBounds_toArray, List.set_cons_zero, List.set_cons_succ]
        refine wpAnyH_take (i := 8) (oi := _) (v := ?_) rfl (by kernel_rfl) (by kernel_rfl) (by kernel_rfl) (fun _ _ _ h => h) (Or.inl ⟨by rfl, ?_⟩) (by assumption) ?_
        rotate_left 1
        · intro wq hSw; (try dsimp only at hSw); go_simp; try (with_reducible rfl)
        try simp only [Act.put, List.getElem_toArray, List.getElem_cons_succ, List.getElem_cons_zero, List.setIfInBounds_toArray, List.set_cons_zero, List.set_cons_succ]
        refine wpAnyH_ready (rs := [9]) (by kernel_rfl) (by simp) ?_
        refine AllReadyH.cons (o := _) rfl (fun K hK => ?_) AllReadyH.nil
        go_simp
        refine (DL.out w9 HB9.out _ HO9.out.rds).mono ?_; rintro e y2 ⟨rfl, hbk, hkb⟩; have HBK2 := hidIt hbk; have HKB2 := hidIt hkb; clear hbk hkb ks; have ks := HSK.out w9 y2 HB9.out HKB2.out; try dsimp only
        refine hK.out _ _ ?_ (fun hHeld => ?_)
        · (try simp only [World.cell?_drew]); exact ks
        clear hK K
        try simp only [Act.put, List.getElem_toArray, List.getElem_cons_succ, List.getElem_cons_zero, List.setIfInBounds_toArray, List.set_cons_zero, List.set_cons_succ]
        refine wpAnyH_done (by kernel_rfl) ?_ _
        go_wp2_with fail
        go_roundw
        case rel => exact ⟨k + 1, by omega, by go_num, _, HBK2.out, H95.out.delete _ _, HBW.out.trans ((HB5.out.trans (HB9.out.mono HB5.out.size) |>.mono HBS.out).trans (HKB2.out.below HBB.out.1 HBB.out.2 (by have := HB9.out.size; have := HB5.out.size; have := HBS.out; omega)))⟩
        case measure => simp [RowKit.intOf]; omega

      have hb2 : (x.k == 2) = false := by simp [h2]
      by_cases h3 : x.k = 3
      · rw [h3] at k0
        go_upto_region 12 with fail
        refine wp_region_held_drew (S := fun w'' => w''.cell? ⟨wr.heap.size, 2, none⟩ = some (.int .i64 x.n) ∧ w''.cell? ⟨wr.heap.size, 3, none⟩ = some (.int .i64 x.s) ∧ w''.cell? ⟨wr.heap.size, 4, none⟩ = some (.slice pa pn pc)) (by kernel_rfl) (ks) (fun hHeld => ?_)
        refine wpAnyH_take (i := 0) (oi := _) (v := ?_) rfl (by kernel_rfl) (by kernel_rfl) (by kernel_rfl) (fun _ _ _ h => h) (Or.inl ⟨by rfl, ?_⟩) (by assumption) ?_
        rotate_left 1
        · intro wq hSw; (try dsimp only at hSw); go_simp; try (with_reducible rfl)
        try simp only [Act.put, List.getElem_toArray, List.getElem_cons_zero, List.setIfInBounds_toArray, List.set_cons_zero, List.set_cons_succ]
        refine wpAnyH_take (i := 1) (oi := _) (v := ?_) rfl (by kernel_rfl) (by kernel_rfl) (by kernel_rfl) (fun _ _ _ h => h) (Or.inl ⟨by rfl, ?_⟩) (by assumption) ?_
        rotate_left 1
        · intro wq hSw; (try dsimp only at hSw); go_simp; try (with_reducible rfl)
        try simp only [Act.put, List.getElem_toArray, List.getElem_cons_succ, List.getElem_cons_zero, List.setIfInBounds_toArray, List.set_cons_zero, List.set_cons_succ]
        refine wpAnyH_take (i := 2) (oi := _) (v := ?_) rfl (by kernel_rfl) (by kernel_rfl) (by kernel_rfl) (fun _ _ _ h => h) (Or.inl ⟨by rfl, ?_⟩) (by assumption) ?_
        rotate_left 1
        · intro wq hSw; (try dsimp only at hSw); go_simp; try (with_reducible rfl)
        try simp only [Act.put, List.getElem_toArray, List.getElem_cons_succ, List.getElem_cons_zero, List.setIfInBounds_toArray, List.set_cons_zero, List.set_cons_succ]
        refine wpAnyH_take (i := 3) (oi := _) (v := ?_) rfl (by kernel_rfl) (by kernel_rfl) (by kernel_rfl) (fun _ _ _ h => h) (Or.inl ⟨by rfl, ?_⟩) (by assumption) ?_
        rotate_left 1
        · intro wq hSw; (try dsimp only at hSw); go_simp; try (with_reducible rfl)
        try simp only [Act.put, List.getElem_toArray, List.getElem_cons_succ, List.getElem_cons_zero, List.setIfInBounds_toArray, List.set_cons_zero, List.set_cons_succ]
        refine wpAnyH_take (i := 4) (oi := _) (v := ?_) rfl (by kernel_rfl) (by kernel_rfl) (by kernel_rfl) (fun _ _ _ h => h) (Or.inl ⟨by rfl, ?_⟩) (by assumption) ?_
        rotate_left 1
        · intro wq hSw; (try dsimp only at hSw); go_simp; try (with_reducible rfl)
        try simp only [Act.put, List.getElem_toArray, List.getElem_cons_succ, List.getElem_cons_zero, List.setIfInBounds_toArray, List.set_cons_zero, List.set_cons_succ]
        refine wpAnyH_ready (rs := [5]) (by kernel_rfl) (by simp) ?_
        refine AllReadyH.cons (o := _) rfl (fun K hK => ?_) AllReadyH.nil
        rw [if_pos (by rfl)]
        refine wp_append_fresh _ _ _ 29 (by rfl) Try.info_i64 Try.underlying29 (by rfl) _ x.t (by rfl) (HPV.out.ext (Below.drew (Below.refl _ _))) (by have := HLN.out; omega) ?_; intro v9 w9 ho9 hb9; obtain ⟨a9, n9, c9, e9⟩ := ho9.form; subst e9; have HO9 := hidIt ho9; have HB9 := hidIt (ext_trans (Below.drew (Below.refl w5.heap.size w5)) hb9); clear ho9 hb9 ks; have ks := HS.out w9 HB9.out
        refine hK.out _ _ ?_ (fun hHeld => ?_)
        · (try simp only [World.cell?_drew]); exact ks
        clear hK K
        try simp only [Act.put, List.getElem_toArray, List.getElem_cons_succ, List.getElem_cons_zero, List.setIfInBounds_toArray, List.set_cons_zero, List.set_cons_succ]
        refine wpAnyH_ready (rs := [6]) (by kernel_rfl) (by simp) ?_
        refine AllReadyH.cons (o := _) rfl (fun K hK => ?_) AllReadyH.nil
        go_simp
        refine (ST.out w9 HB9.out _ HO9.out.rds).mono ?_; rintro e y2 ⟨rfl, hbk, hkb⟩; have HBK2 := hidIt hbk; have HKB2 := hidIt hkb; clear hbk hkb ks; have ks := HSK.out w9 y2 HB9.out HKB2.out; try dsimp only
        refine hK.out _ _ ?_ (fun hHeld => ?_)
        · (try simp only [World.cell?_drew]); exact ks
        clear hK K
        try simp only [Act.put, List.getElem_toArray, List.getElem_cons_succ, List.getElem_cons_zero, List.setIfInBounds_toArray, List.set_cons_zero, List.set_cons_succ]
        refine wpAnyH_done (by kernel_rfl) ?_ _
        go_wp2_with fail
        go_roundw
        case rel => exact ⟨k + 1, by omega, by go_num, _, HBK2.out, H95.out.set _ _, HBW.out.trans ((HB5.out.trans (HB9.out.mono HB5.out.size) |>.mono HBS.out).trans (HKB2.out.below HBB.out.1 HBB.out.2 (by have := HB9.out.size; have := HB5.out.size; have := HBS.out; omega)))⟩
        case measure => simp [RowKit.intOf]; omega

      have hb3 : (x.k == 3) = false := by simp [h3]
      clear h1 h2 h3
      go_wp2_with fail
      go_roundw
      case rel => exact ⟨k + 1, by omega, by go_num, s, (HBK.out.ext HB5.out).mono (by omega), H95.out, ext_trans HBW.out HB5.out⟩
      case measure => simp [RowKit.intOf]; omega
    · have hkl : k = xs.length := by omega
      subst hkl
      clear hlt
      go_wp2_with fail
      go_ret
      exact ⟨b, bm, rfl, ⟨s, HBK.out, H95.out⟩, HBB.out.1, HBB.out.2, HBW.out⟩
end Go.Proofs.Ytmldfjhfgaggpaa

/- RegisterApart: what lies in memory all through. -/
namespace Go.Proofs.Ytmldfjhfgaggpaa
open Go.RowKit
variable {F F' : Nat → Prop}

/-- v's block is none of F's; is one of F's. -/
def NF (F : Nat → Prop) (v : Value) : Prop := ∀ k, v.ownBlock = some k → ¬ F k
def YF (F : Nat → Prop) (v : Value) : Prop := ∀ k, v.ownBlock = some k → F k
theorem own_kps {T : Nat → Prop} {w w' : World} {B size n : Nat} {e : TypeId} {v : Value} {xs : List Value} (h : w.ownsRow B e size v n xs) (k : Kps T w w') (hT : ∀ q, v.ownBlock = some q → ¬ T q) : w'.ownsRow B e size v n xs := by
  obtain ⟨h1, h2⟩ := h
  refine ⟨h1, ?_⟩
  rcases h2 with h2 | ⟨g, cap, cur, hv, hb, hg, r⟩
  · exact .inl h2
  · exact .inr ⟨g, cap, cur, hv, hb, (k.same g (Array.getElem?_eq_some_iff.1 hg).1 (hT g (by rw [hv]; rfl))).trans hg, r⟩
theorem own_cells {w : World} {B size n : Nat} {e : TypeId} {v : Value} {xs : List Value} (h : w.ownsRow B e size v n xs) {q : Nat} (hq : v.ownBlock = some q) : ∃ cs, w.heap[q]? = some (.cells cs e (0, 0)) := by
  rcases h.2 with ⟨rfl, _⟩ | ⟨g, cap, cur, rfl, hb, hg, r⟩
  · cases hq
  · cases hq; exact ⟨cur, hg⟩
/-- T's blocks are F's, or maps. -/
def Sub (F T : Nat → Prop) (w : World) : Prop := ∀ q, T q → q < w.heap.size → F q ∨ ∃ es cl, w.heap[q]? = some (.map es cl)
theorem own_nf {T : Nat → Prop} {w w' : World} {B size n : Nat} {e : TypeId} {v : Value} {xs : List Value} (h : w.ownsRow B e size v n xs) (k : Kps T w w') (hT : Sub F T w) (hn : NF F v) : w'.ownsRow B e size v n xs :=
  own_kps h k (fun q hq hTq => by
    obtain ⟨cs, hc⟩ := own_cells h hq
    rcases hT q hTq (Array.getElem?_eq_some_iff.1 hc).1 with hf | ⟨es, cl, hm⟩
    · exact hn q hq hf
    · rw [hc] at hm; cases hm)
/-- F' is F and new blocks. -/
structure Wid (F F' : Nat → Prop) (w w' : World) : Prop where
  up : ∀ q, F q → F' q
  dn : ∀ q, F' q → q < w'.heap.size ∧ (F q ∨ w.heap.size ≤ q)
theorem NF.wid {w w' : World} {B size n : Nat} {e : TypeId} {v : Value} {xs : List Value} (hn : NF F v) (h : w.ownsRow B e size v n xs) (hF : Wid F F' w w') : NF F' v := fun q hq hf => by
  rcases (hF.dn q hf).2 with h1 | h1
  · exact hn q hq h1
  · have := (World.ownsRow.lt h q hq).2; omega
theorem YF.wid {w w' : World} {v : Value} (hn : YF F v) (hF : Wid F F' w w') : YF F' v := fun q hq => hF.up q (hn q hq)
/-- What shown told, kept. -/
def Shn (F : Nat → Prop) (w : World) (B : Nat) (lv : Value) (gs : List Rg) (ev : Value) (es : List Int) : Prop := ∃ l : List (Rg × Value), l.map Prod.fst = gs ∧ w.ownsRow B 31 2 lv l.length (fl2 l) ∧ (∀ p ∈ l, OwnI w B p.2 p.1.t ∧ Av p.2 ev ∧ NF F p.2) ∧ NF F lv ∧ OwnI w B ev es ∧ NF F ev
theorem Shn.g {w : World} {B : Nat} {lv ev : Value} {gs : List Rg} {es : List Int} (h : Shn F w B lv gs ev es) : OwnG w B lv gs ev ∧ OwnI w B ev es := by
  obtain ⟨l, h1, h2, h3, _, h5, _⟩ := h
  exact ⟨⟨l, h1, h2, fun p hp => ⟨(h3 p hp).1, (h3 p hp).2.1⟩⟩, h5⟩
theorem NF.new {w : World} {base size n : Nat} {e : TypeId} {v : Value} {xs : List Value} (h : w.ownsRow base e size v n xs) (hF : ∀ k, F k → k < base) : NF F v := fun q hq hf => by
  have := (World.ownsRow.lt h q hq).1
  have := hF q hf
  omega
theorem own_le {w : World} {base base' size n : Nat} {e : TypeId} {v : Value} {xs : List Value} (h : w.ownsRow base e size v n xs) (hb : base' ≤ base) : w.ownsRow base' e size v n xs := by
  obtain ⟨h1, h2⟩ := h
  refine ⟨h1, ?_⟩
  rcases h2 with h2 | ⟨g, cap, cur, hv, hg, r⟩
  · exact .inl h2
  · exact .inr ⟨g, cap, cur, hv, Nat.le_trans hb hg, r⟩
theorem Shn.of {w : World} {B base : Nat} {lv ev : Value} {gs : List Rg} {es : List Int} (h1 : OwnG w base lv gs ev) (h2 : OwnI w base ev es) (hF : ∀ k, F k → k < base) (hB : B ≤ base) : Shn F w B lv gs ev es := by
  obtain ⟨l, a, b, c⟩ := h1
  exact ⟨l, a, own_le b hB, fun p hp => ⟨(c p hp).1.le hB, (c p hp).2, NF.new (c p hp).1 hF⟩, NF.new b hF, h2.le hB, NF.new h2 hF⟩
theorem Shn.move {T : Nat → Prop} {w w' : World} {B : Nat} {lv ev : Value} {gs : List Rg} {es : List Int} (h : Shn F w B lv gs ev es) (k : Kps T w w') (hT : Sub F T w) : Shn F w' B lv gs ev es := by
  obtain ⟨l, h1, h2, h3, h4, h5, h6⟩ := h
  exact ⟨l, h1, own_nf h2 k hT h4, fun p hp => ⟨own_nf (h3 p hp).1 k hT (h3 p hp).2.2, (h3 p hp).2⟩, h4, own_nf h5 k hT h6, h6⟩
theorem Shn.wid {w w' : World} {B : Nat} {lv ev : Value} {gs : List Rg} {es : List Int} (h : Shn F w B lv gs ev es) (hF : Wid F F' w w') : Shn F' w B lv gs ev es := by
  obtain ⟨l, h1, h2, h3, h4, h5, h6⟩ := h
  exact ⟨l, h1, h2, fun p hp => ⟨(h3 p hp).1, (h3 p hp).2.1, (h3 p hp).2.2.wid (h3 p hp).1 hF⟩, h4.wid h2 hF, h5, h6.wid h5 hF⟩
theorem Shn.less {w : World} {B : Nat} {lv ev : Value} {gs : List Rg} {es : List Int} (h : Shn F w B lv gs ev es) (hF : ∀ k, F' k → F k) : Shn F' w B lv gs ev es := by
  obtain ⟨l, h1, h2, h3, h4, h5, h6⟩ := h
  exact ⟨l, h1, h2, fun p hp => ⟨(h3 p hp).1, (h3 p hp).2.1, fun q hq hf => (h3 p hp).2.2 q hq (hF q hf)⟩, fun q hq hf => h4 q hq (hF q hf), h5, fun q hq hf => h6 q hq (hF q hf)⟩
theorem Bk.less {w : World} {b bm N : Nat} {m : Int → Option Rg} {p : Int} (h : Bk F w b bm N m p) (hb : F' b) (hF : ∀ k, F' k → F k) : Bk F' w b bm N m p := by
  obtain ⟨a1, a2, a3, D, a4, a5⟩ := h
  refine ⟨a1, a2, ⟨hb, fun q hq => a3.2 q (hF q hq)⟩, D, a4, fun k hk => ?_⟩
  have e := a5 k hk
  cases hm : m k with
  | none => rw [hm] at e; exact e
  | some r =>
    rw [hm] at e
    obtain ⟨e1, u, e2, e3, e4⟩ := e
    exact ⟨e1, u, e2, e3.weak hF, e4⟩
theorem Bk.wid {w w' : World} {b bm N : Nat} {m : Int → Option Rg} {p : Int} (h : Bk F w b bm N m p) (hF : Wid F F' w w') (k : Below w.heap.size w w') : Bk F' w' b bm N m p :=
  h.avoid k (hF.up b h.2.2.1.1) hF.dn

/-- The ghosts. -/
structure Az where
  b : Nat
  bm : Nat
  c : Nat
  cm : Nat
  d : Nat
  dm : Nat
  N : Nat
  M : Nat
  s : Bs
  t : Bs
  lv : Value
  ev : Value
  lv2 : Value
  ev2 : Value
  g2 : List Rg
  e2 : List Int
  ss : List Sf
  us : List (Value × List Int)
  ls : List (Value × List Int)
  ib : List (Nat × Array Value × TypeId)
/-- What lies all through: three banks, what was shown, the lists of the shelf and of want, loose lists (in F, apart from one another), blocks that stay. -/
structure Co (B : Nat) (F : Nat → Prop) (w : World) (a : Az) : Prop where
  bb : Bk F w a.b a.bm a.N a.s.m a.s.p
  cc : Bk F w a.c a.cm a.M a.t.m a.t.p
  dd : Bk F w a.d a.dm a.N a.s.m a.s.p
  gb : Good a.s
  gc : Good a.t
  n1 : a.b ≠ a.c ∧ a.d ≠ a.c ∧ a.bm ≠ a.cm ∧ a.dm ≠ a.cm
  sh : Shn F w B a.lv (shG a.s.m a.s.p 132) a.ev (shE a.s.m a.s.p 132)
  s2 : Shn F w B a.lv2 a.g2 a.ev2 a.e2
  sl : ∀ x ∈ a.ss, OwnI w B x.1 (List.replicate x.2.1 x.2.2) ∧ NF F x.1 ∧ x.2.1 ≤ 1000000
  ui : ∀ x ∈ a.us, OwnI w B x.1 x.2 ∧ NF F x.1
  li : ∀ x ∈ a.ls, OwnI w B x.1 x.2 ∧ YF F x.1 ∧ x.2.length ≤ 140100
  lp : a.ls.Pairwise (fun x y => Av x.1 y.1)
  ib : ∀ x ∈ a.ib, w.heap[x.1]? = some (.cells x.2.1 x.2.2 (0, 0)) ∧ ¬ F x.1
  lo : B ≤ a.c ∧ B ≤ a.cm
  sz : B ≤ w.heap.size
section
variable {B : Nat} {w w' : World} {a : Az}
theorem Co.fl (h : Co B F w a) : ∀ k, F k → k < w.heap.size := h.bb.fl
/-- Blocks of F turn, none of the banks', none of the loose lists'. -/
theorem Co.move {T : Nat → Prop} (h : Co B F w a) (k : Kps T w w') (hT : Sub F T w) (hb : ∀ q, T q → q ≠ a.b ∧ q ≠ a.bm ∧ q ≠ a.c ∧ q ≠ a.cm ∧ q ≠ a.d ∧ q ≠ a.dm) (hl : ∀ x ∈ a.ls, ∀ q, x.1.ownBlock = some q → ¬ T q) : Co B F w' a := by
  refine ⟨h.bb.kps k (fun q hq hl => ⟨(hb q hq).1, (hb q hq).2.1, (hT q hq hl).symm⟩), h.cc.kps k (fun q hq hl => ⟨(hb q hq).2.2.1, (hb q hq).2.2.2.1, (hT q hq hl).symm⟩), h.dd.kps k (fun q hq hl => ⟨(hb q hq).2.2.2.2.1, (hb q hq).2.2.2.2.2, (hT q hq hl).symm⟩), h.gb, h.gc, h.n1, h.sh.move k hT, h.s2.move k hT, fun x hx => ⟨own_nf (h.sl x hx).1 k hT (h.sl x hx).2.1, (h.sl x hx).2⟩, fun x hx => ⟨own_nf (h.ui x hx).1 k hT (h.ui x hx).2, (h.ui x hx).2⟩, fun x hx => ⟨own_kps (h.li x hx).1 k (hl x hx), (h.li x hx).2⟩, h.lp, fun x hx => ⟨?_, (h.ib x hx).2⟩, h.lo, Nat.le_trans h.sz k.size⟩
  obtain ⟨h1, h2⟩ := h.ib x hx
  refine (k.same x.1 (Array.getElem?_eq_some_iff.1 h1).1 (fun hTx => ?_)).trans h1
  rcases hT x.1 hTx (Array.getElem?_eq_some_iff.1 h1).1 with hf | ⟨es, cl, hm⟩
  · exact h2 hf
  · rw [h1] at hm; cases hm
/-- New memory, and F has some of it. -/
theorem Co.wid (h : Co B F w a) (hF : Wid F F' w w') (k : Below w.heap.size w w') : Co B F' w' a := by
  refine ⟨h.bb.wid hF k, h.cc.wid hF k, h.dd.wid hF k, h.gb, h.gc, h.n1, ?_, ?_, fun x hx => ⟨(h.sl x hx).1.ext k, (h.sl x hx).2.1.wid (h.sl x hx).1 hF, (h.sl x hx).2.2⟩, fun x hx => ⟨(h.ui x hx).1.ext k, (h.ui x hx).2.wid (h.ui x hx).1 hF⟩, fun x hx => ⟨(h.li x hx).1.ext k, (h.li x hx).2.1.wid hF, (h.li x hx).2.2⟩, h.lp, fun x hx => ⟨(k.block x.1 (Array.getElem?_eq_some_iff.1 (h.ib x hx).1).1).trans (h.ib x hx).1, fun hf => ?_⟩, h.lo, Nat.le_trans h.sz k.size⟩
  · exact (h.sh.wid hF).move (T := fun _ => False) ⟨k.os, k.tape, k.output, k.size, fun q hq _ => k.block q hq⟩ (fun q hq => hq.elim)
  · exact (h.s2.wid hF).move (T := fun _ => False) ⟨k.os, k.tape, k.output, k.size, fun q hq _ => k.block q hq⟩ (fun q hq => hq.elim)
  · rcases (hF.dn x.1 hf).2 with h1 | h1
    · exact (h.ib x hx).2 h1
    · have := (Array.getElem?_eq_some_iff.1 (h.ib x hx).1).1; omega
theorem Wid.refl (hf : ∀ k, F k → k < w.heap.size) (hs : w.heap.size ≤ w'.heap.size) : Wid F F w w' := ⟨fun _ h => h, fun q hq => ⟨Nat.lt_of_lt_of_le (hf q hq) hs, .inl hq⟩⟩
theorem Co.ext (h : Co B F w a) (k : Below w.heap.size w w') : Co B F w' a := h.wid (Wid.refl h.fl k.size) k
end
end Go.Proofs.Ytmldfjhfgaggpaa
