/- The law's bank once more: the hole holds nothing. -/
import Derived.Test.YtmldfjhfgaggpaaGBnk
namespace Go.Proofs.Ytmldfjhfgaggpaa
open Go.RowKit

theorem sml95 {n : Int} (h : n ≠ 95) : sml n ≠ 95 := by
  unfold sml
  split
  · rename_i hg
    unfold grB at hg
    simp at hg
    omega
  · exact h
theorem upd95 {m : Int → Option Rg} {k : Int} {o : Option Rg} (h : m 95 = none) (hk : k ≠ 95) : upd m k o 95 = none := by unfold upd; rw [if_neg (Ne.symm hk)]; exact h
theorem write95 {s : Bs} {n : Int} {r : Rg} (h : s.m 95 = none) (hn : n ≠ 95) : (writeB s n r).2.m 95 = none := by
  cases hw : wrtn s.m n r with
  | none => rw [writeB_none hw]; exact h
  | some x => rw [writeB_some hw]; exact upd95 h (sml95 hn)
theorem take95 {s : Bs} {n : Int} {r : Rg} (h : s.m 95 = none) : (takeB s n r).2.m 95 = none := by
  unfold takeB
  split
  · exact h
  · rename_i hc
    simp at hc
    exact write95 h hc.1
theorem ring95 {s : Bs} {r : Rg} (h : s.m 95 = none) : (ringB s r).2.m 95 = none := by
  unfold ringB
  split
  · exact h
  · dsimp only
    refine upd95 ?_ (by decide)
    unfold rng
    rw [if_neg (by omega)]
    exact h
theorem yank95 {s : Bs} {n : Int} {r : Rg} (h : s.m 95 = none) : (yankB s n r).2.m 95 = none := by
  unfold yankB
  split
  · exact take95 h
  · exact h
theorem del95 {s : Bs} {n : Int} {r : Rg} (h : s.m 95 = none) : (deleteB s n r).2.m 95 = none := by
  unfold deleteB
  split
  · split
    · split
      · exact ring95 h
      · exact take95 h
    · exact take95 h
  · exact h
theorem set95 {s : Bs} {n : Int} {t : List Int} (h : s.m 95 = none) : (setB s n t).2.m 95 = none := by
  unfold setB
  split
  · exact h
  · split
    · exact h
    · rename_i hc
      have hn : n ≠ 95 := by simpa using hc
      split
      · split
        · exact h
        · exact upd95 h hn
      · exact write95 h hn

set_option maxRecDepth 100000 in
set_option maxHeartbeats 8000000 in
theorem bank95_any (v : Value) (xs : List Sv) (w : World) (h : RdT w v xs) : Calls Try.prog 13 #[v] w fun e w' => ∃ b bm, e = .returned (.pointer (some ⟨b, 0, none⟩)) ∧ (∃ s : Bs, Bk (F1 b) w' b bm (9 * xs.length) s.m s.p ∧ s.m 95 = none) ∧ w.heap.size ≤ b ∧ w.heap.size ≤ bm ∧ Below w.heap.size w w' := by
  have NW := hidIt (New_any w)
  have H := hidIt h
  obtain ⟨ao, cap, rfl, hl1, hl2, hl3, hok, _⟩ := h
  have HOK := hidIt hok
  clear hok
  go_enter Try.func13, Try.ntmps13
  go_upto_region 2 with (go_at_call 31; refine NW.out.mono ?_; rintro e w1 ⟨b, bm, rfl, hbk, h1, h2, hb⟩; have HB1 := hidIt hb; have HBK := hidIt hbk; have HBB := hidIt (And.intro h1 h2); clear hb hbk h1 h2; (try dsimp only))
  go_wp2_with fail
  go_loopw [4] (fun i wr => ∃ k : Nat, k ≤ xs.length ∧ i = .int .i64 k ∧ ∃ s : Bs, Bk (F1 b) wr b bm (9 * k) s.m s.p ∧ s.m 95 = none ∧ Below w.heap.size w wr) (fun i _ => xs.length - (RowKit.intOf i).toNat)
  case atStart => exact ⟨0, Nat.zero_le _, rfl, ⟨fun _ => none, 0⟩, HBK.out, rfl, HB1.out⟩
  case round =>
    obtain ⟨k, hk, rfl, s, hbk, h95, hbw⟩ := hrel
    have H95 := hidIt h95
    clear h95
    have HBW := hidIt hbw
    have HBS := hidIt hbw.size
    clear HBK
    have HBK := hidIt hbk
    clear hbk hbw
    by_cases hlt : k < xs.length
    · obtain ⟨x, hx⟩ : ∃ x, xs[k]? = some x := ⟨_, List.getElem?_eq_getElem hlt⟩
      obtain ⟨ao', cap', hv', _, _, _, _, h6⟩ := H.out.ext HBW.out
      cases hv'
      obtain ⟨pb, po, ea, hpb, hc⟩ := h6 (by intro e; rw [e] at hlt; simp at hlt)
      subst ea
      obtain ⟨c0, c1, c2, c3, pv, c4, c5⟩ := hc k x hx
      obtain ⟨pa, pn, pc, epv⟩ : ∃ ao n c, pv = .slice ao n c := let ⟨ao, c, e, _⟩ := c5.len; ⟨ao, _, c, e⟩
      subst epv
      have hxo := HOK.out x (List.mem_of_getElem? hx)
      have HLN := hidIt hxo.t
      have HIN := hidIt hxo.n
      have hi1 : (k : Int) < (xs.length : Int) := by omega
      have HC5 := hidIt c5
      clear hc h6 hxo c5 hx
      go_upto_region 6 with fail
      generalize hw5 : World.alloc _ _ = w5
      have HB5 : Hid (Below wr.heap.size wr w5) := by unfold Hid; rw [← hw5]; exact ext_alloc (Below.refl _ _) _
      have HK5 : Hid (w5.heap[wr.heap.size]? = some (.cells #[.int .i64 x.k, .int .i64 x.who, .int .i64 x.n, .int .i64 x.s, .slice pa pn pc] 47 (0, 0))) := by unfold Hid; rw [← hw5]; exact heap_alloc_new _ _
      clear hw5 c0 c1 c2 c3 c4
      have HPV := hidIt (HC5.out.ext HB5.out)
      have HS : Hid (∀ w', Below w5.heap.size w5 w' → w'.cell? ⟨wr.heap.size, 2, none⟩ = some (.int .i64 x.n) ∧ w'.cell? ⟨wr.heap.size, 3, none⟩ = some (.int .i64 x.s) ∧ w'.cell? ⟨wr.heap.size, 4, none⟩ = some (.slice pa pn pc)) := fun w' hb => (cells5 ((hb.block _ (Array.getElem?_eq_some_iff.1 HK5.out).1).trans HK5.out)).2
      have HSK : Hid (∀ w9 w', Below w5.heap.size w5 w9 → Kb b bm w9 w' → w'.cell? ⟨wr.heap.size, 2, none⟩ = some (.int .i64 x.n) ∧ w'.cell? ⟨wr.heap.size, 3, none⟩ = some (.int .i64 x.s) ∧ w'.cell? ⟨wr.heap.size, 4, none⟩ = some (.slice pa pn pc)) := fun w9 w' hb hkb => by
        have hlt := HBK.out.lt
        have e9 := (hb.block _ (Array.getElem?_eq_some_iff.1 HK5.out).1).trans HK5.out
        exact (cells5 ((hkb.block (Array.getElem?_eq_some_iff.1 e9).1 (by omega) (by omega)).trans e9)).2
      have YK : Hid (∀ w9, Below w5.heap.size w5 w9 → ∀ v, RdS w9 v x.t → Calls Try.prog 14 #[.pointer (some ⟨b, 0, none⟩), .int .i64 x.n, .agg #[.int .i64 x.s, v]] w9 (OpR (F1 b) w9 b bm (9 * (k + 1)) (yankB s x.n ⟨x.s, x.t⟩))) := fun w9 hb v hv => Yank_any w9 b bm (9 * k) s x.n ⟨x.s, x.t⟩ v ((HBK.out.ext HB5.out).ext hb) hv HIN.out (by omega)
      have DL : Hid (∀ w9, Below w5.heap.size w5 w9 → ∀ v, RdS w9 v x.t → Calls Try.prog 16 #[.pointer (some ⟨b, 0, none⟩), .int .i64 x.n, .agg #[.int .i64 x.s, v]] w9 (OpR (F1 b) w9 b bm (9 * (k + 1)) (deleteB s x.n ⟨x.s, x.t⟩))) := fun w9 hb v hv => Delete_any w9 b bm (9 * k) s x.n ⟨x.s, x.t⟩ v ((HBK.out.ext HB5.out).ext hb) hv HIN.out (by omega)
      have ST : Hid (∀ w9, Below w5.heap.size w5 w9 → ∀ v, RdS w9 v x.t → Calls Try.prog 18 #[.pointer (some ⟨b, 0, none⟩), .int .i64 x.n, v] w9 (OpR (F1 b) w9 b bm (9 * (k + 1)) (setB s x.n x.t))) := fun w9 hb v hv => Set_any w9 b bm (9 * k) s x.n x.t v ((HBK.out.ext HB5.out).ext hb) hv HIN.out (by omega)
      have k0 := (cells5 HK5.out).1
      have ks := HS.out w5 (Below.refl _ _)
      by_cases h1 : x.k = 1
      · rw [h1] at k0
        go_upto_region 8 with fail
        refine wp_region_held_drew (S := fun w'' => w''.cell? ⟨wr.heap.size, 2, none⟩ = some (.int .i64 x.n) ∧ w''.cell? ⟨wr.heap.size, 3, none⟩ = some (.int .i64 x.s) ∧ w''.cell? ⟨wr.heap.size, 4, none⟩ = some (.slice pa pn pc)) (by kernel_rfl) (ks) (fun hHeld => ?_)
        refine wpAnyH_take (i := 0) (oi := _) (v := ?_) rfl (by kernel_rfl) (by kernel_rfl) (by kernel_rfl) (fun _ _ _ h => h) (Or.inl ⟨by rfl, ?_⟩) (by assumption) ?_
        rotate_left 1
        · intro wq hSw; (try dsimp only at hSw); go_simp; try (with_reducible rfl)
        try simp only [Act.put, List.getElem_toArray, List.getElem_cons_zero, List.setIfInBounds_toArray, List.set_cons_zero, List.set_cons_succ]
        refine wpAnyH_take (i := 1) (oi := _) (v := ?_) rfl (by kernel_rfl) (by kernel_rfl) (by kernel_rfl) (fun _ _ _ h => h) (Or.inl ⟨by rfl, ?_⟩) (by assumption) ?_
        rotate_left 1
        · intro wq hSw; (try dsimp only at hSw); go_simp; try (with_reducible rfl)
        try simp only [Act.put, List.getElem_toArray, List.getElem_cons_succ, List.getElem_cons_zero, List.setIfInBounds_toArray, List.set_cons_zero, List.set_cons_succ]
        refine wpAnyH_take (i := 2) (oi := _) (v := ?_) rfl (by kernel_rfl) (by kernel_rfl) (by kernel_rfl) (fun _ _ _ h => h) (Or.inl ⟨by rfl, ?_⟩) (by assumption) ?_
        rotate_left 1
        · intro wq hSw; (try dsimp only at hSw); go_simp; try (with_reducible rfl)
        try simp only [Act.put, List.getElem_toArray, List.getElem_cons_succ, List.getElem_cons_zero, List.setIfInBounds_toArray, List.set_cons_zero, List.set_cons_succ]
        refine wpAnyH_take (i := 3) (oi := _) (v := ?_) rfl (by kernel_rfl) (by kernel_rfl) (by kernel_rfl) (fun _ _ _ h => h) (Or.inl ⟨by rfl, ?_⟩) (by assumption) ?_
        rotate_left 1
        · intro wq hSw; (try dsimp only at hSw); go_simp; try (with_reducible rfl)
        try simp only [Act.put, List.getElem_toArray, List.getElem_cons_succ, List.getElem_cons_zero, List.setIfInBounds_toArray, List.set_cons_zero, List.set_cons_succ]
        refine wpAnyH_take (i := 4) (oi := _) (v := ?_) rfl (by kernel_rfl) (by kernel_rfl) (by kernel_rfl) (fun _ _ _ h => h) (Or.inl ⟨by rfl, ?_⟩) (by assumption) ?_
        rotate_left 1
        · intro wq hSw; (try dsimp only at hSw); go_simp; try (with_reducible rfl)
        try simp only [Act.put, List.getElem_toArray, List.getElem_cons_succ, List.getElem_cons_zero, List.setIfInBounds_toArray, List.set_cons_zero, List.set_cons_succ]
        refine wpAnyH_take (i := 5) (oi := _) (v := ?_) rfl (by kernel_rfl) (by kernel_rfl) (by kernel_rfl) (fun _ _ _ h => h) (Or.inl ⟨by rfl, ?_⟩) (by assumption) ?_
        rotate_left 1
        · intro wq hSw; (try dsimp only at hSw); go_simp; try (with_reducible rfl)
        try simp only [Act.put, List.getElem_toArray, List.getElem_cons_succ, List.getElem_cons_zero, List.setIfInBounds_toArray, List.set_cons_zero, List.set_cons_succ]
        refine wpAnyH_take (i := 6) (oi := _) (v := ?_) rfl (by kernel_rfl) (by kernel_rfl) (by kernel_rfl) (fun _ _ _ h => h) (Or.inl ⟨by rfl, ?_⟩) (by assumption) ?_
        rotate_left 1
        · intro wq hSw; (try dsimp only at hSw); go_simp; try (with_reducible rfl)
        try simp only [Act.put, List.getElem_toArray, List.getElem_cons_succ, List.getElem_cons_zero, List.setIfInBounds_toArray, List.set_cons_zero, List.set_cons_succ]
        refine wpAnyH_ready (rs := [7]) (by kernel_rfl) (by simp) ?_
        refine AllReadyH.cons (o := _) rfl (fun K hK => ?_) AllReadyH.nil
        rw [if_pos (by rfl)]
        refine wp_append_fresh _ _ _ 29 (by rfl) Try.info_i64 Try.underlying29 (by rfl) _ x.t (by rfl) (HPV.out.ext (Below.drew (Below.refl _ _))) (by have := HLN.out; omega) ?_; intro v9 w9 ho9 hb9; obtain ⟨a9, n9, c9, e9⟩ := ho9.form; subst e9; have HO9 := hidIt ho9; have HB9 := hidIt (ext_trans (Below.drew (Below.refl w5.heap.size w5)) hb9); clear ho9 hb9 ks; have ks := HS.out w9 HB9.out
        refine hK.out _ _ ?_ (fun hHeld => ?_)
        · (try simp only [World.cell?_drew]); exact ks
        clear hK K
        try simp only [Act.put, List.getElem_toArray, List.getElem_cons_succ, List.getElem_cons_zero, List.setIfInBounds_toArray, List.set_cons_zero, List.set_cons_succ]
        refine wpAnyH_take (i := 8) (oi := _) (v := ?_) rfl (by kernel_rfl) (by kernel_rfl) (by kernel_rfl) (fun _ _ _ h => h) (Or.inl ⟨by rfl, ?_⟩) (by assumption) ?_
        rotate_left 1
        · intro wq hSw; (try dsimp only at hSw); go_simp; try (with_reducible rfl)
        try simp only [Act.put, List.getElem_toArray, List.getElem_cons_succ, List.getElem_cons_zero, List.setIfInBounds_toArray, List.set_cons_zero, List.set_cons_succ]
        refine wpAnyH_ready (rs := [9]) (by kernel_rfl) (by simp) ?_
        refine AllReadyH.cons (o := _) rfl (fun K hK => ?_) AllReadyH.nil
        go_simp
        refine (YK.out w9 HB9.out _ HO9.out.rds).mono ?_; rintro e y2 ⟨rfl, hbk, hkb⟩; have HBK2 := hidIt hbk; have HKB2 := hidIt hkb; clear hbk hkb ks; have ks := HSK.out w9 y2 HB9.out HKB2.out; try dsimp only
        refine hK.out _ _ ?_ (fun hHeld => ?_)
        · (try simp only [World.cell?_drew]); exact ks
        clear hK K
        try simp only [Act.put, List.getElem_toArray, List.getElem_cons_succ, List.getElem_cons_zero, List.setIfInBounds_toArray, List.set_cons_zero, List.set_cons_succ]
        refine wpAnyH_done (by kernel_rfl) ?_ _
        go_wp2_with fail
        go_roundw
        case rel => exact ⟨k + 1, by omega, by go_num, _, HBK2.out, yank95 H95.out, HBW.out.trans ((HB5.out.trans (HB9.out.mono HB5.out.size) |>.mono HBS.out).trans (HKB2.out.below HBB.out.1 HBB.out.2 (by have := HB9.out.size; have := HB5.out.size; have := HBS.out; omega)))⟩
        case measure => simp [RowKit.intOf]; omega

      have hb1 : (x.k == 1) = false := by simp [h1]
      by_cases h2 : x.k = 2
      · rw [h2] at k0
        go_upto_region 10 with fail
        refine wp_region_held_drew (S := fun w'' => w''.cell? ⟨wr.heap.size, 2, none⟩ = some (.int .i64 x.n) ∧ w''.cell? ⟨wr.heap.size, 3, none⟩ = some (.int .i64 x.s) ∧ w''.cell? ⟨wr.heap.size, 4, none⟩ = some (.slice pa pn pc)) (by kernel_rfl) (ks) (fun hHeld => ?_)
        refine wpAnyH_take (i := 0) (oi := _) (v := ?_) rfl (by kernel_rfl) (by kernel_rfl) (by kernel_rfl) (fun _ _ _ h => h) (Or.inl ⟨by rfl, ?_⟩) (by assumption) ?_
        rotate_left 1
        · intro wq hSw; (try dsimp only at hSw); go_simp; try (with_reducible rfl)
        try simp only [Act.put, List.getElem_toArray, List.getElem_cons_zero, List.setIfInBounds_toArray, List.set_cons_zero, List.set_cons_succ]
        refine wpAnyH_take (i := 1) (oi := _) (v := ?_) rfl (by kernel_rfl) (by kernel_rfl) (by kernel_rfl) (fun _ _ _ h => h) (Or.inl ⟨by rfl, ?_⟩) (by assumption) ?_
        rotate_left 1
        · intro wq hSw; (try dsimp only at hSw); go_simp; try (with_reducible rfl)
        try simp only [Act.put, List.getElem_toArray, List.getElem_cons_succ, List.getElem_cons_zero, List.setIfInBounds_toArray, List.set_cons_zero, List.set_cons_succ]
        refine wpAnyH_take (i := 2) (oi := _) (v := ?_) rfl (by kernel_rfl) (by kernel_rfl) (by kernel_rfl) (fun _ _ _ h => h) (Or.inl ⟨by rfl, ?_⟩) (by assumption) ?_
        rotate_left 1
        · intro wq hSw; (try dsimp only at hSw); go_simp; try (with_reducible rfl)
        try simp only [Act.put, List.getElem_toArray, List.getElem_cons_succ, List.getElem_cons_zero, List.setIfInBounds_toArray, List.set_cons_zero, List.set_cons_succ]
        refine wpAnyH_take (i := 3) (oi := _) (v := ?_) rfl (by kernel_rfl) (by kernel_rfl) (by kernel_rfl) (fun _ _ _ h => h) (Or.inl ⟨by rfl, ?_⟩) (by assumption) ?_
        rotate_left 1
        · intro wq hSw; (try dsimp only at hSw); go_simp; try (with_reducible rfl)
        try simp only [Act.put, List.getElem_toArray, List.getElem_cons_succ, List.getElem_cons_zero, List.setIfInBounds_toArray, List.set_cons_zero, List.set_cons_succ]
        refine wpAnyH_take (i := 4) (oi := _) (v := ?_) rfl (by kernel_rfl) (by kernel_rfl) (by kernel_rfl) (fun _ _ _ h => h) (Or.inl ⟨by rfl, ?_⟩) (by assumption) ?_
        rotate_left 1
        · intro wq hSw; (try dsimp only at hSw); go_simp; try (with_reducible rfl)
        try simp only [Act.put, List.getElem_toArray, List.getElem_cons_succ, List.getElem_cons_zero, List.setIfInBounds_toArray, List.set_cons_zero, List.set_cons_succ]
        refine wpAnyH_take (i := 5) (oi := _) (v := ?_) rfl (by kernel_rfl) (by kernel_rfl) (by kernel_rfl) (fun _ _ _ h => h) (Or.inl ⟨by rfl, ?_⟩) (by assumption) ?_
        rotate_left 1
        · intro wq hSw; (try dsimp only at hSw); go_simp; try (with_reducible rfl)
        try simp only [Act.put, List.getElem_toArray, List.getElem_cons_succ, List.getElem_cons_zero, List.setIfInBounds_toArray, List.set_cons_zero, List.set_cons_succ]
        refine wpAnyH_take (i := 6) (oi := _) (v := ?_) rfl (by kernel_rfl) (by kernel_rfl) (by kernel_rfl) (fun _ _ _ h => h) (Or.inl ⟨by rfl, ?_⟩) (by assumption) ?_
        rotate_left 1
        · intro wq hSw; (try dsimp only at hSw); go_simp; try (with_reducible rfl)
        try simp only [Act.put, List.getElem_toArray, List.getElem_cons_succ, List.getElem_cons_zero, List.setIfInBounds_toArray, List.set_cons_zero, List.set_cons_succ]
        refine wpAnyH_ready (rs := [7]) (by kernel_rfl) (by simp) ?_
        refine AllReadyH.cons (o := _) rfl (fun K hK => ?_) AllReadyH.nil
        rw [if_pos (by rfl)]
        refine wp_append_fresh _ _ _ 29 (by rfl) Try.info_i64 Try.underlying29 (by rfl) _ x.t (by rfl) (HPV.out.ext (Below.drew (Below.refl _ _))) (by have := HLN.out; omega) ?_; intro v9 w9 ho9 hb9; obtain ⟨a9, n9, c9, e9⟩ := ho9.form; subst e9; have HO9 := hidIt ho9; have HB9 := hidIt (ext_trans (Below.drew (Below.refl w5.heap.size w5)) hb9); clear ho9 hb9 ks; have ks := HS.out w9 HB9.out
        refine hK.out _ _ ?_ (fun hHeld => ?_)
        · (try simp only [World.cell?_drew]); exact ks
        clear hK K
        try simp only [Act.put, List.getElem_toArray, List.getElem_cons_succ, List.getElem_cons_zero, List.setIfInBounds_toArray, List.set_cons_zero, List.set_cons_succ]
        refine wpAnyH_take (i := 8) (oi := _) (v := ?_) rfl (by kernel_rfl) (by kernel_rfl) (by kernel_rfl) (fun _ _ _ h => h) (Or.inl ⟨by rfl, ?_⟩) (by assumption) ?_
        rotate_left 1
        · intro wq hSw; (try dsimp only at hSw); go_simp; try (with_reducible rfl)
        try simp only [Act.put, List.getElem_toArray, List.getElem_cons_succ, List.getElem_cons_zero, List.setIfInBounds_toArray, List.set_cons_zero, List.set_cons_succ]
        refine wpAnyH_ready (rs := [9]) (by kernel_rfl) (by simp) ?_
        refine AllReadyH.cons (o := _) rfl (fun K hK => ?_) AllReadyH.nil
        go_simp
        refine (DL.out w9 HB9.out _ HO9.out.rds).mono ?_; rintro e y2 ⟨rfl, hbk, hkb⟩; have HBK2 := hidIt hbk; have HKB2 := hidIt hkb; clear hbk hkb ks; have ks := HSK.out w9 y2 HB9.out HKB2.out; try dsimp only
        refine hK.out _ _ ?_ (fun hHeld => ?_)
        · (try simp only [World.cell?_drew]); exact ks
        clear hK K
        try simp only [Act.put, List.getElem_toArray, List.getElem_cons_succ, List.getElem_cons_zero, List.setIfInBounds_toArray, List.set_cons_zero, List.set_cons_succ]
        refine wpAnyH_done (by kernel_rfl) ?_ _
        go_wp2_with fail
        go_roundw
        case rel => exact ⟨k + 1, by omega, by go_num, _, HBK2.out, del95 H95.out, HBW.out.trans ((HB5.out.trans (HB9.out.mono HB5.out.size) |>.mono HBS.out).trans (HKB2.out.below HBB.out.1 HBB.out.2 (by have := HB9.out.size; have := HB5.out.size; have := HBS.out; omega)))⟩
        case measure => simp [RowKit.intOf]; omega

      have hb2 : (x.k == 2) = false := by simp [h2]
      by_cases h3 : x.k = 3
      · rw [h3] at k0
        go_upto_region 12 with fail
        refine wp_region_held_drew (S := fun w'' => w''.cell? ⟨wr.heap.size, 2, none⟩ = some (.int .i64 x.n) ∧ w''.cell? ⟨wr.heap.size, 3, none⟩ = some (.int .i64 x.s) ∧ w''.cell? ⟨wr.heap.size, 4, none⟩ = some (.slice pa pn pc)) (by kernel_rfl) (ks) (fun hHeld => ?_)
        refine wpAnyH_take (i := 0) (oi := _) (v := ?_) rfl (by kernel_rfl) (by kernel_rfl) (by kernel_rfl) (fun _ _ _ h => h) (Or.inl ⟨by rfl, ?_⟩) (by assumption) ?_
        rotate_left 1
        · intro wq hSw; (try dsimp only at hSw); go_simp; try (with_reducible rfl)
        try simp only [Act.put, List.getElem_toArray, List.getElem_cons_zero, List.setIfInBounds_toArray, List.set_cons_zero, List.set_cons_succ]
        refine wpAnyH_take (i := 1) (oi := _) (v := ?_) rfl (by kernel_rfl) (by kernel_rfl) (by kernel_rfl) (fun _ _ _ h => h) (Or.inl ⟨by rfl, ?_⟩) (by assumption) ?_
        rotate_left 1
        · intro wq hSw; (try dsimp only at hSw); go_simp; try (with_reducible rfl)
        try simp only [Act.put, List.getElem_toArray, List.getElem_cons_succ, List.getElem_cons_zero, List.setIfInBounds_toArray, List.set_cons_zero, List.set_cons_succ]
        refine wpAnyH_take (i := 2) (oi := _) (v := ?_) rfl (by kernel_rfl) (by kernel_rfl) (by kernel_rfl) (fun _ _ _ h => h) (Or.inl ⟨by rfl, ?_⟩) (by assumption) ?_
        rotate_left 1
        · intro wq hSw; (try dsimp only at hSw); go_simp; try (with_reducible rfl)
        try simp only [Act.put, List.getElem_toArray, List.getElem_cons_succ, List.getElem_cons_zero, List.setIfInBounds_toArray, List.set_cons_zero, List.set_cons_succ]
        refine wpAnyH_take (i := 3) (oi := _) (v := ?_) rfl (by kernel_rfl) (by kernel_rfl) (by kernel_rfl) (fun _ _ _ h => h) (Or.inl ⟨by rfl, ?_⟩) (by assumption) ?_
        rotate_left 1
        · intro wq hSw; (try dsimp only at hSw); go_simp; try (with_reducible rfl)
        try simp only [Act.put, List.getElem_toArray, List.getElem_cons_succ, List.getElem_cons_zero, List.setIfInBounds_toArray, List.set_cons_zero, List.set_cons_succ]
        refine wpAnyH_take (i := 4) (oi := _) (v := ?_) rfl (by kernel_rfl) (by kernel_rfl) (by kernel_rfl) (fun _ _ _ h => h) (Or.inl ⟨by rfl, ?_⟩) (by assumption) ?_
        rotate_left 1
        · intro wq hSw; (try dsimp only at hSw); go_simp; try (with_reducible rfl)
        try simp only [Act.put, List.getElem_toArray, List.getElem_cons_succ, List.getElem_cons_zero, List.setIfInBounds_toArray, List.set_cons_zero, List.set_cons_succ]
        refine wpAnyH_ready (rs := [5]) (by kernel_rfl) (by simp) ?_
        refine AllReadyH.cons (o := _) rfl (fun K hK => ?_) AllReadyH.nil
        rw [if_pos (by rfl)]
        refine wp_append_fresh _ _ _ 29 (by rfl) Try.info_i64 Try.underlying29 (by rfl) _ x.t (by rfl) (HPV.out.ext (Below.drew (Below.refl _ _))) (by have := HLN.out; omega) ?_; intro v9 w9 ho9 hb9; obtain ⟨a9, n9, c9, e9⟩ := ho9.form; subst e9; have HO9 := hidIt ho9; have HB9 := hidIt (ext_trans (Below.drew (Below.refl w5.heap.size w5)) hb9); clear ho9 hb9 ks; have ks := HS.out w9 HB9.out
        refine hK.out _ _ ?_ (fun hHeld => ?_)
        · (try simp only [World.cell?_drew]); exact ks
        clear hK K
        try simp only [Act.put, List.getElem_toArray, List.getElem_cons_succ, List.getElem_cons_zero, List.setIfInBounds_toArray, List.set_cons_zero, List.set_cons_succ]
        refine wpAnyH_ready (rs := [6]) (by kernel_rfl) (by simp) ?_
        refine AllReadyH.cons (o := _) rfl (fun K hK => ?_) AllReadyH.nil
        go_simp
        refine (ST.out w9 HB9.out _ HO9.out.rds).mono ?_; rintro e y2 ⟨rfl, hbk, hkb⟩; have HBK2 := hidIt hbk; have HKB2 := hidIt hkb; clear hbk hkb ks; have ks := HSK.out w9 y2 HB9.out HKB2.out; try dsimp only
        refine hK.out _ _ ?_ (fun hHeld => ?_)
        · (try simp only [World.cell?_drew]); exact ks
        clear hK K
        try simp only [Act.put, List.getElem_toArray, List.getElem_cons_succ, List.getElem_cons_zero, List.setIfInBounds_toArray, List.set_cons_zero, List.set_cons_succ]
        refine wpAnyH_done (by kernel_rfl) ?_ _
        go_wp2_with fail
        go_roundw
        case rel => exact ⟨k + 1, by omega, by go_num, _, HBK2.out, set95 H95.out, HBW.out.trans ((HB5.out.trans (HB9.out.mono HB5.out.size) |>.mono HBS.out).trans (HKB2.out.below HBB.out.1 HBB.out.2 (by have := HB9.out.size; have := HB5.out.size; have := HBS.out; omega)))⟩
        case measure => simp [RowKit.intOf]; omega

      have hb3 : (x.k == 3) = false := by simp [h3]
      clear h1 h2 h3
      go_wp2_with fail
      go_roundw
      case rel => exact ⟨k + 1, by omega, by go_num, s, (HBK.out.ext HB5.out).mono (by omega), H95.out, ext_trans HBW.out HB5.out⟩
      case measure => simp [RowKit.intOf]; omega
    · have hkl : k = xs.length := by omega
      subst hkl
      clear hlt
      go_wp2_with fail
      go_ret
      exact ⟨b, bm, rfl, ⟨s, HBK.out, H95.out⟩, HBB.out.1, HBB.out.2, HBW.out⟩
end Go.Proofs.Ytmldfjhfgaggpaa
