/- The law's bank. -/
import Derived.Test.YtmldfjhfgaggpaaGLaw1
namespace Go.Proofs.Ytmldfjhfgaggpaa
open Go.RowKit

/-- A step that came in. -/
structure Sv where
  k : Int
  who : Int
  n : Int
  s : Int
  t : List Int
structure Sv.Ok (x : Sv) : Prop where
  n : In64 x.n
  t : x.t.length * 8 ≤ 140737488351232
/-- The slice v holds the steps xs. -/
def RdT (w : World) (v : Value) (xs : List Sv) : Prop := ∃ ao cap, v = .slice ao xs.length cap ∧ xs.length ≤ cap ∧ cap ≤ 9223372036854775807 ∧ xs.length ≤ 140737488351232 ∧ (∀ x ∈ xs, x.Ok) ∧ (xs ≠ [] → ∃ b off, ao = some ⟨b, off, none⟩ ∧ b < w.heap.size ∧ ∀ i x, xs[i]? = some x →
  w.cell? ⟨b, off + i * 5, none⟩ = some (.int .i64 x.k) ∧ w.cell? ⟨b, off + i * 5 + 1, none⟩ = some (.int .i64 x.who) ∧ w.cell? ⟨b, off + i * 5 + 2, none⟩ = some (.int .i64 x.n) ∧ w.cell? ⟨b, off + i * 5 + 3, none⟩ = some (.int .i64 x.s) ∧ ∃ pv, w.cell? ⟨b, off + i * 5 + 4, none⟩ = some pv ∧ RdS w pv x.t)
theorem RdT.ext {w w' : World} {v : Value} {xs : List Sv} (h : RdT w v xs) (hb : Below w.heap.size w w') : RdT w' v xs := by
  obtain ⟨ao, cap, h1, h2, h3, h4, h5, h6⟩ := h
  refine ⟨ao, cap, h1, h2, h3, h4, h5, fun hn => ?_⟩
  obtain ⟨b, o, k1, k2, k3⟩ := h6 hn
  refine ⟨b, o, k1, Nat.lt_of_lt_of_le k2 hb.size, fun i x hx => ?_⟩
  obtain ⟨c0, c1, c2, c3, pv, c4, c5⟩ := k3 i x hx
  exact ⟨(hb.cell (p := ⟨b, _, none⟩) k2).trans c0, (hb.cell (p := ⟨b, _, none⟩) k2).trans c1, (hb.cell (p := ⟨b, _, none⟩) k2).trans c2, (hb.cell (p := ⟨b, _, none⟩) k2).trans c3, pv, (hb.cell (p := ⟨b, _, none⟩) k2).trans c4, c5.ext hb⟩
theorem cells5 {w : World} {b : Nat} {T : TypeId} {v0 v1 v2 v3 v4 : Value} (h : w.heap[b]? = some (.cells #[v0, v1, v2, v3, v4] T (0, 0))) : w.cell? ⟨b, 0, none⟩ = some v0 ∧ w.cell? ⟨b, 2, none⟩ = some v2 ∧ w.cell? ⟨b, 3, none⟩ = some v3 ∧ w.cell? ⟨b, 4, none⟩ = some v4 := by
  refine ⟨?_, ?_, ?_, ?_⟩ <;> (rw [cell_of_row _ _ _ _ _ _ h]; rfl)

set_option maxRecDepth 100000 in
set_option maxHeartbeats 8000000 in
theorem bank_any (v : Value) (xs : List Sv) (w : World) (h : RdT w v xs) : Calls Try.prog 13 #[v] w fun e w' => ∃ b bm, e = .returned (.pointer (some ⟨b, 0, none⟩)) ∧ (∃ s : Bs, Bk (F1 b) w' b bm (9 * xs.length) s.m s.p) ∧ w.heap.size ≤ b ∧ w.heap.size ≤ bm ∧ Below w.heap.size w w' := by
  have NW := hidIt (New_any w)
  have H := hidIt h
  obtain ⟨ao, cap, rfl, hl1, hl2, hl3, hok, _⟩ := h
  have HOK := hidIt hok
  clear hok
  go_enter Try.func13, Try.ntmps13
  go_upto_region 2 with (go_at_call 31; refine NW.out.mono ?_; rintro e w1 ⟨b, bm, rfl, hbk, h1, h2, hb⟩; have HB1 := hidIt hb; have HBK := hidIt hbk; have HBB := hidIt (And.intro h1 h2); clear hb hbk h1 h2; (try dsimp only))
  go_wp2_with fail
  go_loopw [4] (fun i wr => ∃ k : Nat, k ≤ xs.length ∧ i = .int .i64 k ∧ ∃ s : Bs, Bk (F1 b) wr b bm (9 * k) s.m s.p ∧ Below w.heap.size w wr) (fun i _ => xs.length - (RowKit.intOf i).toNat)
  case atStart => exact ⟨0, Nat.zero_le _, rfl, ⟨fun _ => none, 0⟩, HBK.out, HB1.out⟩
  case round =>
    obtain ⟨k, hk, rfl, s, hbk, hbw⟩ := hrel
    have HBW := hidIt hbw
    have HBS := hidIt hbw.size
    clear HBK
    have HBK := hidIt hbk
    clear hbk hbw
    by_cases hlt : k < xs.length
    · obtain ⟨x, hx⟩ : ∃ x, xs[k]? = some x := ⟨_, List.getElem?_eq_getElem hlt⟩
      obtain ⟨ao', cap', hv', _, _, _, _, h6⟩ := H.out.ext HBW.out
      cases hv'
      obtain ⟨pb, po, ea, hpb, hc⟩ := h6 (by intro e; rw [e] at hlt; simp at hlt)
      subst ea
      obtain ⟨c0, c1, c2, c3, pv, c4, c5⟩ := hc k x hx
      obtain ⟨pa, pn, pc, epv⟩ : ∃ ao n c, pv = .slice ao n c := let ⟨ao, c, e, _⟩ := c5.len; ⟨ao, _, c, e⟩
      subst epv
      have hxo := HOK.out x (List.mem_of_getElem? hx)
      have HLN := hidIt hxo.t
      have HIN := hidIt hxo.n
      have hi1 : (k : Int) < (xs.length : Int) := by omega
      have HC5 := hidIt c5
      clear hc h6 hxo c5 hx
      go_upto_region 6 with fail
      generalize hw5 : World.alloc _ _ = w5
      have HB5 : Hid (Below wr.heap.size wr w5) := by unfold Hid; rw [← hw5]; exact ext_alloc (Below.refl _ _) _
      have HK5 : Hid (w5.heap[wr.heap.size]? = some (.cells #[.int .i64 x.k, .int .i64 x.who, .int .i64 x.n, .int .i64 x.s, .slice pa pn pc] 47 (0, 0))) := by unfold Hid; rw [← hw5]; exact heap_alloc_new _ _
      clear hw5 c0 c1 c2 c3 c4
      have HPV := hidIt (HC5.out.ext HB5.out)
      have HS : Hid (∀ w', Below w5.heap.size w5 w' → w'.cell? ⟨wr.heap.size, 2, none⟩ = some (.int .i64 x.n) ∧ w'.cell? ⟨wr.heap.size, 3, none⟩ = some (.int .i64 x.s) ∧ w'.cell? ⟨wr.heap.size, 4, none⟩ = some (.slice pa pn pc)) := fun w' hb => (cells5 ((hb.block _ (Array.getElem?_eq_some_iff.1 HK5.out).1).trans HK5.out)).2
      have HSK : Hid (∀ w9 w', Below w5.heap.size w5 w9 → Kb b bm w9 w' → w'.cell? ⟨wr.heap.size, 2, none⟩ = some (.int .i64 x.n) ∧ w'.cell? ⟨wr.heap.size, 3, none⟩ = some (.int .i64 x.s) ∧ w'.cell? ⟨wr.heap.size, 4, none⟩ = some (.slice pa pn pc)) := fun w9 w' hb hkb => by
        have hlt := HBK.out.lt
        have e9 := (hb.block _ (Array.getElem?_eq_some_iff.1 HK5.out).1).trans HK5.out
        exact (cells5 ((hkb.block (Array.getElem?_eq_some_iff.1 e9).1 (by omega) (by omega)).trans e9)).2
      have YK : Hid (∀ w9, Below w5.heap.size w5 w9 → ∀ v, RdS w9 v x.t → Calls Try.prog 14 #[.pointer (some ⟨b, 0, none⟩), .int .i64 x.n, .agg #[.int .i64 x.s, v]] w9 (OpR (F1 b) w9 b bm (9 * (k + 1)) (yankB s x.n ⟨x.s, x.t⟩))) := fun w9 hb v hv => Yank_any w9 b bm (9 * k) s x.n ⟨x.s, x.t⟩ v ((HBK.out.ext HB5.out).ext hb) hv HIN.out (by omega)
      have DL : Hid (∀ w9, Below w5.heap.size w5 w9 → ∀ v, RdS w9 v x.t → Calls Try.prog 16 #[.pointer (some ⟨b, 0, none⟩), .int .i64 x.n, .agg #[.int .i64 x.s, v]] w9 (OpR (F1 b) w9 b bm (9 * (k + 1)) (deleteB s x.n ⟨x.s, x.t⟩))) := fun w9 hb v hv => Delete_any w9 b bm (9 * k) s x.n ⟨x.s, x.t⟩ v ((HBK.out.ext HB5.out).ext hb) hv HIN.out (by omega)
      have ST : Hid (∀ w9, Below w5.heap.size w5 w9 → ∀ v, RdS w9 v x.t → Calls Try.prog 18 #[.pointer (some ⟨b, 0, none⟩), .int .i64 x.n, v] w9 (OpR (F1 b) w9 b bm (9 * (k + 1)) (setB s x.n x.t))) := fun w9 hb v hv => Set_any w9 b bm (9 * k) s x.n x.t v ((HBK.out.ext HB5.out).ext hb) hv HIN.out (by omega)
      have k0 := (cells5 HK5.out).1
      have ks := HS.out w5 (Below.refl _ _)
      by_cases h1 : x.k = 1
      · rw [h1] at k0
        go_upto_region 8 with fail
        refine wp_region_held_drew (S := fun w'' => w''.cell? ⟨wr.heap.size, 2, none⟩ = some (.int .i64 x.n) ∧ w''.cell? ⟨wr.heap.size, 3, none⟩ = some (.int .i64 x.s) ∧ w''.cell? ⟨wr.heap.size, 4, none⟩ = some (.slice pa pn pc)) (by kernel_rfl) (ks) (fun hHeld => ?_)
        refine wpAnyH_take (i := 0) (oi := _) (v := ?_) rfl (by kernel_rfl) (by kernel_rfl) (by kernel_rfl) (fun _ _ _ h => h) (Or.inl ⟨by rfl, ?_⟩) (by assumption) ?_
        rotate_left 1
        · intro wq hSw; (try dsimp only at hSw); go_simp; try (with_reducible rfl)
        try simp only [Act.put, List.getElem_toArray, List.getElem_cons_zero, List.setIfInBounds_toArray, List.set_cons_zero, List.set_cons_succ]
        refine wpAnyH_take (i := 1) (oi := _) (v := ?_) rfl (by kernel_rfl) (by kernel_rfl) (by kernel_rfl) (fun _ _ _ h => h) (Or.inl ⟨by rfl, ?_⟩) (by assumption) ?_
        rotate_left 1
        · intro wq hSw; (try dsimp only at hSw); go_simp; try (with_reducible rfl)
        try simp only [Act.put, List.getElem_toArray, List.getElem_cons_succ, List.getElem_cons_zero, List.setIfInBounds_toArray, List.set_cons_zero, List.set_cons_succ]
        refine wpAnyH_take (i := 2) (oi := _) (v := ?_) rfl (by kernel_rfl) (by kernel_rfl) (by kernel_rfl) (fun _ _ _ h => h) (Or.inl ⟨by rfl, ?_⟩) (by assumption) ?_
        rotate_left 1
        · intro wq hSw; (try dsimp only at hSw); go_simp; try (with_reducible rfl)
        try simp only [Act.put, List.getElem_toArray, List.getElem_cons_succ, List.getElem_cons_zero, List.setIfInBounds_toArray, List.set_cons_zero, List.set_cons_succ]
        refine wpAnyH_take (i := 3) (oi := _) (v := ?_) rfl (by kernel_rfl) (by kernel_rfl) (by kernel_rfl) (fun _ _ _ h => h) (Or.inl ⟨by rfl, ?_⟩) (by assumption) ?_
        rotate_left 1
        · intro wq hSw; (try dsimp only at hSw); go_simp; try (with_reducible rfl)
        try simp only [Act.put, List.getElem_toArray, List.getElem_cons_succ, List.getElem_cons_zero, List.setIfInBounds_toArray, List.set_cons_zero, List.set_cons_succ]
        refine wpAnyH_take (i := 4) (oi := _) (v := ?_) rfl (by kernel_rfl) (by kernel_rfl) (by kernel_rfl) (fun _ _ _ h => h) (Or.inl ⟨by rfl, ?_⟩) (by assumption) ?_
        rotate_left 1
        · intro wq hSw; (try dsimp only at hSw); go_simp; try (with_reducible rfl)
        try simp only [Act.put, List.getElem_toArray, List.getElem_cons_succ, List.getElem_cons_zero, List.setIfInBounds_toArray, List.set_cons_zero, List.set_cons_succ]
        refine wpAnyH_take (i := 5) (oi := _) (v := ?_) rfl (by kernel_rfl) (by kernel_rfl) (by kernel_rfl) (fun _ _ _ h => h) (Or.inl ⟨by rfl, ?_⟩) (by assumption) ?_
        rotate_left 1
        · intro wq hSw; (try dsimp only at hSw); go_simp; try (with_reducible rfl)
        try simp only [Act.put, List.getElem_toArray, List.getElem_cons_succ, List.getElem_cons_zero, List.setIfInBounds_toArray, List.set_cons_zero, List.set_cons_succ]
        refine wpAnyH_take (i := 6) (oi := _) (v := ?_) rfl (by kernel_rfl) (by kernel_rfl) (by kernel_rfl) (fun _ _ _ h => h) (Or.inl ⟨by rfl, ?_⟩) (by assumption) ?_
        rotate_left 1
        · intro wq hSw; (try dsimp only at hSw); go_simp; try (with_reducible rfl)
        try simp only [Act.put, List.getElem_toArray, List.getElem_cons_succ, List.getElem_cons_zero, List.setIfInBounds_toArray, List.set_cons_zero, List.set_cons_succ]
        refine wpAnyH_ready (rs := [7]) (by kernel_rfl) (by simp) ?_
        refine AllReadyH.cons (o := _) rfl (fun K hK => ?_) AllReadyH.nil
        rw [if_pos (by rfl)]
        refine wp_append_fresh _ _ _ 29 (by rfl) Try.info_i64 Try.underlying29 (by rfl) _ x.t (by rfl) (HPV.out.ext (Below.drew (Below.refl _ _))) (by have := HLN.out; omega) ?_; intro v9 w9 ho9 hb9; obtain ⟨a9, n9, c9, e9⟩ := ho9.form; subst e9; have HO9 := hidIt ho9; have HB9 := hidIt (ext_trans (Below.drew (Below.refl w5.heap.size w5)) hb9); clear ho9 hb9 ks; have ks := HS.out w9 HB9.out
        refine hK.out _ _ ?_ (fun hHeld => ?_)
        · (try simp only [World.cell?_drew]); exact ks
        clear hK K
        try simp only [Act.put, List.getElem_toArray, List.getElem_cons_succ, List.getElem_cons_zero, List.setIfInBounds_toArray, List.set_cons_zero, List.set_cons_succ]
        refine wpAnyH_take (i := 8) (oi := _) (v := ?_) rfl (by kernel_rfl) (by kernel_rfl) (by kernel_rfl) (fun _ _ _ h => h) (Or.inl ⟨by rfl, ?_⟩) (by assumption) ?_
        rotate_left 1
        · intro wq hSw; (try dsimp only at hSw); go_simp; try (with_reducible rfl)
        try simp only [Act.put, List.getElem_toArray, List.getElem_cons_succ, List.getElem_cons_zero, List.setIfInBounds_toArray, List.set_cons_zero, List.set_cons_succ]
        refine wpAnyH_ready (rs := [9]) (by kernel_rfl) (by simp) ?_
        refine AllReadyH.cons (o := _) rfl (fun K hK => ?_) AllReadyH.nil
        go_simp
        refine (YK.out w9 HB9.out _ HO9.out.rds).mono ?_; rintro e y2 ⟨rfl, hbk, hkb⟩; have HBK2 := hidIt hbk; have HKB2 := hidIt hkb; clear hbk hkb ks; have ks := HSK.out w9 y2 HB9.out HKB2.out; try dsimp only
        refine hK.out _ _ ?_ (fun hHeld => ?_)
        · (try simp only [World.cell?_drew]); exact ks
        clear hK K
        try simp only [Act.put, List.getElem_toArray, List.getElem_cons_succ, List.getElem_cons_zero, List.setIfInBounds_toArray, List.set_cons_zero, List.set_cons_succ]
        refine wpAnyH_done (by kernel_rfl) ?_ _
        go_wp2_with fail
        go_roundw
        case rel => exact ⟨k + 1, by omega, by go_num, _, HBK2.out, HBW.out.trans ((HB5.out.trans (HB9.out.mono HB5.out.size) |>.mono HBS.out).trans (HKB2.out.below HBB.out.1 HBB.out.2 (by have := HB9.out.size; have := HB5.out.size; have := HBS.out; omega)))⟩
        case measure => simp [RowKit.intOf]; omega

      have hb1 : (x.k == 1) = false := by simp [h1]
      by_cases h2 : x.k = 2
      · rw [h2] at k0
        go_upto_region 10 with fail
        refine wp_region_held_drew (S := fun w'' => w''.cell? ⟨wr.heap.size, 2, none⟩ = some (.int .i64 x.n) ∧ w''.cell? ⟨wr.heap.size, 3, none⟩ = some (.int .i64 x.s) ∧ w''.cell? ⟨wr.heap.size, 4, none⟩ = some (.slice pa pn pc)) (by kernel_rfl) (ks) (fun hHeld => ?_)
        refine wpAnyH_take (i := 0) (oi := _) (v := ?_) rfl (by kernel_rfl) (by kernel_rfl) (by kernel_rfl) (fun _ _ _ h => h) (Or.inl ⟨by rfl, ?_⟩) (by assumption) ?_
        rotate_left 1
        · intro wq hSw; (try dsimp only at hSw); go_simp; try (with_reducible rfl)
        try simp only [Act.put, List.getElem_toArray, List.getElem_cons_zero, List.setIfInBounds_toArray, List.set_cons_zero, List.set_cons_succ]
        refine wpAnyH_take (i := 1) (oi := _) (v := ?_) rfl (by kernel_rfl) (by kernel_rfl) (by kernel_rfl) (fun _ _ _ h => h) (Or.inl ⟨by rfl, ?_⟩) (by assumption) ?_
        rotate_left 1
        · intro wq hSw; (try dsimp only at hSw); go_simp; try (with_reducible rfl)
        try simp only [Act.put, List.getElem_toArray, List.getElem_cons_succ, List.getElem_cons_zero, List.setIfInBounds_toArray, List.set_cons_zero, List.set_cons_succ]
        refine wpAnyH_take (i := 2) (oi := _) (v := ?_) rfl (by kernel_rfl) (by kernel_rfl) (by kernel_rfl) (fun _ _ _ h => h) (Or.inl ⟨by rfl, ?_⟩) (by assumption) ?_
        rotate_left 1
        · intro wq hSw; (try dsimp only at hSw); go_simp; try (with_reducible rfl)
        try simp only [Act.put, List.getElem_toArray, List.getElem_cons_succ, List.getElem_cons_zero, List.setIfInBounds_toArray, List.set_cons_zero, List.set_cons_succ]
        refine wpAnyH_take (i := 3) (oi := _) (v := ?_) rfl (by kernel_rfl) (by kernel_rfl) (by kernel_rfl) (fun _ _ _ h => h) (Or.inl ⟨by rfl, ?_⟩) (by assumption) ?_
        rotate_left 1
        · intro wq hSw; (try dsimp only at hSw); go_simp; try (with_reducible rfl)
        try simp only [Act.put, List.getElem_toArray, List.getElem_cons_succ, List.getElem_cons_zero, List.setIfInBounds_toArray, List.set_cons_zero, List.set_cons_succ]
        refine wpAnyH_take (i := 4) (oi := _) (v := ?_) rfl (by kernel_rfl) (by kernel_rfl) (by kernel_rfl) (fun _ _ _ h => h) (Or.inl ⟨by rfl, ?_⟩) (by assumption) ?_
        rotate_left 1
        · intro wq hSw; (try dsimp only at hSw); go_simp; try (with_reducible rfl)
        try simp only [Act.put, List.getElem_toArray, List.getElem_cons_succ, List.getElem_cons_zero, List.setIfInBounds_toArray, List.set_cons_zero, List.set_cons_succ]
        refine wpAnyH_take (i := 5) (oi := _) (v := ?_) rfl (by kernel_rfl) (by kernel_rfl) (by kernel_rfl) (fun _ _ _ h => h) (Or.inl ⟨by rfl, ?_⟩) (by assumption) ?_
        rotate_left 1
        · intro wq hSw; (try dsimp only at hSw); go_simp; try (with_reducible rfl)
        try simp only [Act.put, List.getElem_toArray, List.getElem_cons_succ, List.getElem_cons_zero, List.setIfInBounds_toArray, List.set_cons_zero, List.set_cons_succ]
        refine wpAnyH_take (i := 6) (oi := _) (v := ?_) rfl (by kernel_rfl) (by kernel_rfl) (by kernel_rfl) (fun _ _ _ h => h) (Or.inl ⟨by rfl, ?_⟩) (by assumption) ?_
        rotate_left 1
        · intro wq hSw; (try dsimp only at hSw); go_simp; try (with_reducible rfl)
        try simp only [Act.put, List.getElem_toArray, List.getElem_cons_succ, List.getElem_cons_zero, List.setIfInBounds_toArray, List.set_cons_zero, List.set_cons_succ]
        refine wpAnyH_ready (rs := [7]) (by kernel_rfl) (by simp) ?_
        refine AllReadyH.cons (o := _) rfl (fun K hK => ?_) AllReadyH.nil
        rw [if_pos (by rfl)]
        refine wp_append_fresh _ _ _ 29 (by rfl) Try.info_i64 Try.underlying29 (by rfl) _ x.t (by rfl) (HPV.out.ext (Below.drew (Below.refl _ _))) (by have := HLN.out; omega) ?_; intro v9 w9 ho9 hb9; obtain ⟨a9, n9, c9, e9⟩ := ho9.form; subst e9; have HO9 := hidIt ho9; have HB9 := hidIt (ext_trans (Below.drew (Below.refl w5.heap.size w5)) hb9); clear ho9 hb9 ks; have ks := HS.out w9 HB9.out
        refine hK.out _ _ ?_ (fun hHeld => ?_)
        · (try simp only [World.cell?_drew]); exact ks
        clear hK K
        try simp only [Act.put, List.getElem_toArray, List.getElem_cons_succ, List.getElem_cons_zero, List.setIfInBounds_toArray, List.set_cons_zero, List.set_cons_succ]
        refine wpAnyH_take (i := 8) (oi := _) (v := ?_) rfl (by kernel_rfl) (by kernel_rfl) (by kernel_rfl) (fun _ _ _ h => h) (Or.inl ⟨by rfl, ?_⟩) (by assumption) ?_
        rotate_left 1
        · intro wq hSw; (try dsimp only at hSw); go_simp; try (with_reducible rfl)
        try simp only [Act.put, List.getElem_toArray, List.getElem_cons_succ, List.getElem_cons_zero, List.setIfInBounds_toArray, List.set_cons_zero, List.set_cons_succ]
        refine wpAnyH_ready (rs := [9]) (by kernel_rfl) (by simp) ?_
        refine AllReadyH.cons (o := _) rfl (fun K hK => ?_) AllReadyH.nil
        go_simp
        refine (DL.out w9 HB9.out _ HO9.out.rds).mono ?_; rintro e y2 ⟨rfl, hbk, hkb⟩; have HBK2 := hidIt hbk; have HKB2 := hidIt hkb; clear hbk hkb ks; have ks := HSK.out w9 y2 HB9.out HKB2.out; try dsimp only
        refine hK.out _ _ ?_ (fun hHeld => ?_)
        · (try simp only [World.cell?_drew]); exact ks
        clear hK K
        try simp only [Act.put, List.getElem_toArray, List.getElem_cons_succ, List.getElem_cons_zero, List.setIfInBounds_toArray, List.set_cons_zero, List.set_cons_succ]
        refine wpAnyH_done (by kernel_rfl) ?_ _
        go_wp2_with fail
        go_roundw
        case rel => exact ⟨k + 1, by omega, by go_num, _, HBK2.out, HBW.out.trans ((HB5.out.trans (HB9.out.mono HB5.out.size) |>.mono HBS.out).trans (HKB2.out.below HBB.out.1 HBB.out.2 (by have := HB9.out.size; have := HB5.out.size; have := HBS.out; omega)))⟩
        case measure => simp [RowKit.intOf]; omega

      have hb2 : (x.k == 2) = false := by simp [h2]
      by_cases h3 : x.k = 3
      · rw [h3] at k0
        go_upto_region 12 with fail
        refine wp_region_held_drew (S := fun w'' => w''.cell? ⟨wr.heap.size, 2, none⟩ = some (.int .i64 x.n) ∧ w''.cell? ⟨wr.heap.size, 3, none⟩ = some (.int .i64 x.s) ∧ w''.cell? ⟨wr.heap.size, 4, none⟩ = some (.slice pa pn pc)) (by kernel_rfl) (ks) (fun hHeld => ?_)
        refine wpAnyH_take (i := 0) (oi := _) (v := ?_) rfl (by kernel_rfl) (by kernel_rfl) (by kernel_rfl) (fun _ _ _ h => h) (Or.inl ⟨by rfl, ?_⟩) (by assumption) ?_
        rotate_left 1
        · intro wq hSw; (try dsimp only at hSw); go_simp; try (with_reducible rfl)
        try simp only [Act.put, List.getElem_toArray, List.getElem_cons_zero, List.setIfInBounds_toArray, List.set_cons_zero, List.set_cons_succ]
        refine wpAnyH_take (i := 1) (oi := _) (v := ?_) rfl (by kernel_rfl) (by kernel_rfl) (by kernel_rfl) (fun _ _ _ h => h) (Or.inl ⟨by rfl, ?_⟩) (by assumption) ?_
        rotate_left 1
        · intro wq hSw; (try dsimp only at hSw); go_simp; try (with_reducible rfl)
        try simp only [Act.put, List.getElem_toArray, List.getElem_cons_succ, List.getElem_cons_zero, List.setIfInBounds_toArray, List.set_cons_zero, List.set_cons_succ]
        refine wpAnyH_take (i := 2) (oi := _) (v := ?_) rfl (by kernel_rfl) (by kernel_rfl) (by kernel_rfl) (fun _ _ _ h => h) (Or.inl ⟨by rfl, ?_⟩) (by assumption) ?_
        rotate_left 1
        · intro wq hSw; (try dsimp only at hSw); go_simp; try (with_reducible rfl)
        try simp only [Act.put, List.getElem_toArray, List.getElem_cons_succ, List.getElem_cons_zero, List.setIfInBounds_toArray, List.set_cons_zero, List.set_cons_succ]
        refine wpAnyH_take (i := 3) (oi := _) (v := ?_) rfl (by kernel_rfl) (by kernel_rfl) (by kernel_rfl) (fun _ _ _ h => h) (Or.inl ⟨by rfl, ?_⟩) (by assumption) ?_
        rotate_left 1
        · intro wq hSw; (try dsimp only at hSw); go_simp; try (with_reducible rfl)
        try simp only [Act.put, List.getElem_toArray, List.getElem_cons_succ, List.getElem_cons_zero, List.setIfInBounds_toArray, List.set_cons_zero, List.set_cons_succ]
        refine wpAnyH_take (i := 4) (oi := _) (v := ?_) rfl (by kernel_rfl) (by kernel_rfl) (by kernel_rfl) (fun _ _ _ h => h) (Or.inl ⟨by rfl, ?_⟩) (by assumption) ?_
        rotate_left 1
        · intro wq hSw; (try dsimp only at hSw); go_simp; try (with_reducible rfl)
        try simp only [Act.put, List.getElem_toArray, List.getElem_cons_succ, List.getElem_cons_zero, List.setIfInBounds_toArray, List.set_cons_zero, List.set_cons_succ]
        refine wpAnyH_ready (rs := [5]) (by kernel_rfl) (by simp) ?_
        refine AllReadyH.cons (o := _) rfl (fun K hK => ?_) AllReadyH.nil
        rw [if_pos (by rfl)]
        refine wp_append_fresh _ _ _ 29 (by rfl) Try.info_i64 Try.underlying29 (by rfl) _ x.t (by rfl) (HPV.out.ext (Below.drew (Below.refl _ _))) (by have := HLN.out; omega) ?_; intro v9 w9 ho9 hb9; obtain ⟨a9, n9, c9, e9⟩ := ho9.form; subst e9; have HO9 := hidIt ho9; have HB9 := hidIt (ext_trans (Below.drew (Below.refl w5.heap.size w5)) hb9); clear ho9 hb9 ks; have ks := HS.out w9 HB9.out
        refine hK.out _ _ ?_ (fun hHeld => ?_)
        · (try simp only [World.cell?_drew]); exact ks
        clear hK K
        try simp only [Act.put, List.getElem_toArray, List.getElem_cons_succ, List.getElem_cons_zero, List.setIfInBounds_toArray, List.set_cons_zero, List.set_cons_succ]
        refine wpAnyH_ready (rs := [6]) (by kernel_rfl) (by simp) ?_
        refine AllReadyH.cons (o := _) rfl (fun K hK => ?_) AllReadyH.nil
        go_simp
        refine (ST.out w9 HB9.out _ HO9.out.rds).mono ?_; rintro e y2 ⟨rfl, hbk, hkb⟩; have HBK2 := hidIt hbk; have HKB2 := hidIt hkb; clear hbk hkb ks; have ks := HSK.out w9 y2 HB9.out HKB2.out; try dsimp only
        refine hK.out _ _ ?_ (fun hHeld => ?_)
        · (try simp only [World.cell?_drew]); exact ks
        clear hK K
        try simp only [Act.put, List.getElem_toArray, List.getElem_cons_succ, List.getElem_cons_zero, List.setIfInBounds_toArray, List.set_cons_zero, List.set_cons_succ]
        refine wpAnyH_done (by kernel_rfl) ?_ _
        go_wp2_with fail
        go_roundw
        case rel => exact ⟨k + 1, by omega, by go_num, _, HBK2.out, HBW.out.trans ((HB5.out.trans (HB9.out.mono HB5.out.size) |>.mono HBS.out).trans (HKB2.out.below HBB.out.1 HBB.out.2 (by have := HB9.out.size; have := HB5.out.size; have := HBS.out; omega)))⟩
        case measure => simp [RowKit.intOf]; omega

      have hb3 : (x.k == 3) = false := by simp [h3]
      clear h1 h2 h3
      go_wp2_with fail
      go_roundw
      case rel => exact ⟨k + 1, by omega, by go_num, s, (HBK.out.ext HB5.out).mono (by omega), ext_trans HBW.out HB5.out⟩
      case measure => simp [RowKit.intOf]; omega
    · have hkl : k = xs.length := by omega
      subst hkl
      clear hlt
      go_wp2_with fail
      go_ret
      exact ⟨b, bm, rfl, ⟨s, HBK.out⟩, HBB.out.1, HBB.out.2, HBW.out⟩
end Go.Proofs.Ytmldfjhfgaggpaa
