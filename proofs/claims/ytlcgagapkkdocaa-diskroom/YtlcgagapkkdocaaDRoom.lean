/- DiskRoom: the walk. -/
import Derived.Test.YtlcgagapkkdocaaDDoC
import Derived.Lib.SlBytesConst
namespace Go.Proofs.Ytlcgagapkkdocaa
open Go.RowKit

theorem calm0 (s : Nat) : Calm s (dk0 s) := ⟨rfl, fun _ => rfl, rfl, by simp [dk0, usd]⟩
theorem put_zz {s : Nat} (hs : 8 ≤ s) : (opPut [122, 122] [49, 50, 51, 52] (dk0 s)).e = 0 := by
  have h : putE [122, 122] 4 (dk0 s) = 0 := by
    have h1 : okN [122, 122] = true := by decide
    have h2 : ¬ s < 4 := by omega
    simp [putE, dk0, h1, Dir.get, Dk.full, usd, h2]
  unfold opPut
  rw [if_neg (by show ¬ putE _ 4 _ ≠ 0; rw [h]; simp)]
  rfl
theorem rd_zz (w : World) : RdU (w.alloc (.cells #[.int .u8 49, .int .u8 50, .int .u8 51, .int .u8 52] 5 (4, 5))) (.slice (some ⟨w.heap.size, 0, none⟩) 4 4) [49, 50, 51, 52] := by
  refine ⟨⟨some ⟨w.heap.size, 0, none⟩, 4, rfl, by simp, by decide, fun _ => ⟨w.heap.size, 0, rfl, by simp, fun i hi => ?_⟩⟩, .inr ⟨_, _, _, rfl⟩⟩
  rw [World.cell?_alloc_mark]
  match i, hi with
  | 0, _ => rfl
  | 1, _ => rfl
  | 2, _ => rfl
  | 3, _ => rfl
/-- The first file of the laws' disks. -/
theorem zz_any {s : Nat} (hs : 8 ≤ s) {F : Nat → Prop} {M : Nat} {w w4 : World} {d : Nat} (h : Dsk F M w d (dk0 s)) (hM : M + 3 ≤ 1099511627776) (hb : Below w.heap.size w w4) {v : Value} (ho : RdU w4 v [49, 50, 51, 52]) (hv : ∀ g, v.ownBlock = some g → w.heap.size ≤ g ∧ g < w4.heap.size) :
    Calls Try.prog 10 #[pp d, .string ⟨#[122, 122]⟩, v] w4 fun e w' => e = .returned .nilIface ∧ Dsk F (M + 3) w' d (opPut [122, 122] [49, 50, 51, 52] (dk0 s)).d ∧ Kd F w w' := by
  refine (Put_any (h.pen hb) hM [122, 122] (by simp) v [49, 50, 51, 52] ho (by simp) (by simp) (fun g hg => .inr (hv g hg))).mono ?_
  rintro e w' ⟨u, rfl, p1, p2, p3⟩
  rw [put_zz hs] at p1
  rcases p1 with ⟨_, rfl⟩ | ⟨h0, _⟩
  · exact ⟨rfl, p2.less (fun _ hq => .inl hq), (Kd.of hb).trans (p3.kd.less (fun _ hq => .inl hq))⟩
  · exact absurd rfl h0
theorem OpC.eight {w : World} {b o : Nat} {x : So} (h : OpC w b o x) : ∃ va vc, x.bv = .slice va x.b.length vc := by
  obtain ⟨va, vc, hv⟩ := h.rd.form
  exact ⟨va, vc, hv⟩
theorem cells8 {w : World} {b : Nat} {T : TypeId} {v0 v1 v2 v3 v4 v5 v6 v7 : Value} (h : w.heap[b]? = some (.cells #[v0, v1, v2, v3, v4, v5, v6, v7] T (0, 0))) : w.cell? ⟨b, 0, none⟩ = some v0 ∧ w.cell? ⟨b, 1, none⟩ = some v1 ∧ w.cell? ⟨b, 2, none⟩ = some v2 ∧ w.cell? ⟨b, 3, none⟩ = some v3 ∧ w.cell? ⟨b, 4, none⟩ = some v4 ∧ w.cell? ⟨b, 5, none⟩ = some v5 ∧ w.cell? ⟨b, 6, none⟩ = some v6 ∧ w.cell? ⟨b, 7, none⟩ = some v7 :=
  ⟨op_cell h rfl 0, op_cell h rfl 1, op_cell h rfl 2, op_cell h rfl 3, op_cell h rfl 4, op_cell h rfl 5, op_cell h rfl 6, op_cell h rfl 7⟩
theorem bulk_mem : ∀ {l : List So} {j : Nat} {x : So}, l[j]? = some x → x.b.length ≤ bulk l
  | [], _, _, h => by simp at h
  | p :: l, 0, x, h => by
    simp at h
    subst h
    unfold bulk
    simp only [List.map_cons, List.sum_cons]
    omega
  | p :: l, j + 1, x, h => by
    have h1 := bulk_mem (l := l) (j := j) (x := x) (by simpa using h)
    unfold bulk at h1 ⊢
    simp only [List.map_cons, List.sum_cons]
    omega
/-- A shot's box. -/
theorem shot_box (w : World) (a b c : Value) : ∃ w1, w.alloc (.cells #[a, b, c] 51) = w1 ∧ Below w.heap.size w w1 ∧ w1.cell? ⟨w.heap.size, 0, none⟩ = some a ∧ w1.cell? ⟨w.heap.size, 1, none⟩ = some b ∧ w1.cell? ⟨w.heap.size, 2, none⟩ = some c :=
  ⟨_, rfl, ext_alloc (Below.refl _ _) _, op_cell (heap_alloc_new _ _) rfl 0, op_cell (heap_alloc_new _ _) rfl 1, op_cell (heap_alloc_new _ _) rfl 2⟩
theorem Kd.below0 {n : Nat} {w w' : World} (h : Kd (fun q => q < n) w w') (hn : n ≤ w.heap.size) : Below n w w' := (h.ku False).below hn (fun _ h => h)
set_option maxRecDepth 100000 in
set_option maxHeartbeats 8000000 in
theorem lroom_any (CR : CrashOk) (n : Int) (v : Value) (xs : List So) (W : World) (h : RdO W v xs) :
    Calls Try.prog 5 #[.int .i64 n, v] W fun e W' => e = .returned (.bool true) ∧ Below W.heap.size W W' := by
  have FT := hidIt (fits_any h)
  have H := hidIt h
  obtain ⟨ao, cap, rfl, hl1, hl2, hl3, hok, _⟩ := h
  have HOK := hidIt hok
  clear hok
  go_enter Try.func5, Try.ntmps5
  go_upto_region 3 with (go_at_call 19; refine FT.out.mono ?_; rintro e w1 ⟨⟨r, rfl, hr⟩, hb⟩; have HFR := hidIt hr; have HB1 := hidIt hb; clear hr hb)
  · go_ret
    exact ⟨rfl, HB1.out⟩
  have hr1 : r = true := by
    cases r
    · exact absurd (show (!false) = false by assumption) (by decide)
    · rfl
  subst hr1
  obtain ⟨hx1, hx2⟩ := HFR.out rfl
  have HX2 := hidIt hx2
  clear HFR FT hx2
  go_upto_region 4 with (go_at_call 20; refine (space_any n w1).mono ?_; rintro e w2 ⟨s, hs8, hs9, rfl, rfl⟩)
  obtain ⟨F0, hF0⟩ : ∃ F0 : Nat → Prop, F0 = fun q => q < W.heap.size := ⟨_, rfl⟩
  have MD := hidIt (made_any s (by omega) w1 F0 (fun q hq => by rw [hF0] at hq; exact Nat.lt_of_lt_of_le hq HB1.out.size))
  go_upto_region 5 with (go_at_call 9; refine MD.out.mono ?_; rintro e w3 ⟨d, rfl, hd, hb⟩; have HD := hidIt hd; have HB3 := hidIt (HB1.out.trans (hb.mono HB1.out.size)); clear hd hb)
  clear MD
  obtain ⟨w4, hw4, hb4, ho4, hv4⟩ : ∃ w4, w3.alloc (.cells #[.int .u8 49, .int .u8 50, .int .u8 51, .int .u8 52] 5 (4, 5)) = w4 ∧ Below w3.heap.size w3 w4 ∧ RdU w4 (.slice (some ⟨w3.heap.size, 0, none⟩) 4 4) [49, 50, 51, 52] ∧ ∀ g, (Value.slice (some ⟨w3.heap.size, 0, none⟩) 4 4).ownBlock = some g → w3.heap.size ≤ g ∧ g < w4.heap.size := ⟨_, rfl, ext_alloc (Below.refl _ _) _, rd_zz w3, fun g hg => by cases hg; simp⟩
  have PZ := hidIt (zz_any hs8 HD.out (by omega) hb4 ho4 hv4)
  rw [← hw4] at PZ
  clear hw4 hb4 ho4 hv4
  have hcv := Lib.run_convert_bytes_const (P := Try.prog) w3 22 5 #[.int .u8 49, .int .u8 50, .int .u8 51, .int .u8 52] 4 4 Try.underlying22 Try.underlying5
  go_upto_region 7 with (go_at_call 10; refine PZ.out.mono ?_; rintro e w5 ⟨rfl, hd, hk⟩; have HD5 := hidIt hd; have HK5 := hidIt hk; clear hd hk)
  have HC : Hid (Calm s (opPut [122, 122] [49, 50, 51, 52] (dk0 s)).d) := clm_put (calm0 s) HD.out.wf _ _
  have HBA : Hid (Below W.heap.size W w5) := HB3.out.trans ((Kd.below0 (by rw [← hF0]; exact HK5.out) HB3.out.size))
  clear PZ HD HK5 HB3 HB1 hcv
  generalize (opPut [122, 122] [49, 50, 51, 52] (dk0 s)).d = D0 at *
  go_wp2_with fail
  go_loopw [7] (fun i wr => ∃ k : Nat, k ≤ xs.length ∧ i = .int .i64 k ∧ ∃ D, Calm s D ∧ Dsk F0 (10 + 210 * k) wr d D ∧ Below W.heap.size W wr) (fun i _ => xs.length - (RowKit.intOf i).toNat)
  case atStart => exact ⟨0, Nat.zero_le _, rfl, D0, HC.out, HD5.out.monoN (by omega) (by omega), HBA.out⟩
  case round =>
    clear HC HD5 HBA D0 w5
    obtain ⟨k, hk, rfl, D, hc, hdk, hbw⟩ := hrel
    have HC := hidIt hc
    have HDK := hidIt hdk
    have HBW := hidIt hbw
    clear hc hdk hbw
    by_cases hlt : k < xs.length
    · have hlt' : (k : Int) < (xs.length : Int) := by omega
      obtain ⟨x, hx⟩ : ∃ x, xs[k]? = some x := ⟨_, List.getElem?_eq_getElem hlt⟩
      obtain ⟨ao', cap', hv', _, _, _, _, h6⟩ := H.out.ext HBW.out
      cases hv'
      obtain ⟨pb, po, ea, hpb, hcs⟩ := h6 (by intro e; rw [e] at hlt; simp at hlt)
      subst ea
      have hcx := hcs k x hx
      obtain ⟨va, vc, hv⟩ := hcx.eight
      obtain ⟨c0, c1, c2, c3, c4, c5, c6, c7, crd, _, _⟩ := hcx
      rw [hv] at c4 crd
      have hxo := HOK.out x (List.mem_of_getElem? hx)
      have HXO := hidIt hxo
      have hbk : x.b.length ≤ 4194304 := Nat.le_trans (bulk_mem hx) HX2.out
      clear hcs h6 hx hxo
      go_upto_region 11 with fail
      generalize hw5 : World.alloc _ _ = w5
      have HB5 : Hid (Below wr.heap.size wr w5) := by unfold Hid; rw [← hw5]; exact ext_alloc (Below.refl _ _) _
      have HK5 : Hid (w5.heap[wr.heap.size]? = some (.cells #[.int .i64 x.k, .int .i64 x.who, sv x.nm, sv x.tn, .slice va x.b.length vc, .slice x.fa x.fn x.fc, .int .i64 x.cn, .slice x.ca x.cl x.cc] 48 (0, 0))) := by unfold Hid; rw [← hw5]; exact heap_alloc_new _ _
      clear hw5 c0 c1 c2 c3 c4 c5 c6 c7
      have HR := hidIt (crd.ext HB5.out)
      clear crd
      obtain ⟨k0, k1, k2, k3, k4, k5, k6, k7⟩ := cells8 HK5.out
      have F5 : Hid (∀ w', Below w5.heap.size w5 w' → ∃ D', Calm s D' ∧ Dsk F0 (10 + 210 * (k + 1)) w' d D' ∧ Below W.heap.size W w') := fun w' hb => ⟨D, HC.out, ((HDK.out.ext HB5.out).ext hb).monoN (by omega) (by omega), HBW.out.trans ((HB5.out.trans (hb.mono HB5.out.size)).mono HBW.out.size)⟩
      by_cases h11 : x.k = 11
      · rw [h11] at k0
        go_wp2_with fail
        go_roundw
        case rel => exact ⟨k + 1, by omega, by go_num, F5.out w5 (Below.refl _ _)⟩
        case measure => simp [RowKit.intOf]; omega
      by_cases h10 : x.k = 10
      · rw [h10] at k0
        go_wp2_with fail
        go_roundw
        case rel => exact ⟨k + 1, by omega, by go_num, F5.out w5 (Below.refl _ _)⟩
        case measure => simp [RowKit.intOf]; omega
      clear F5
      by_cases h2 : x.k = 2
      · have HS : Hid (∀ w9, Below w5.heap.size w5 w9 → w9.cell? ⟨wr.heap.size, 2, none⟩ = some (sv x.nm) ∧ w9.cell? ⟨wr.heap.size, 4, none⟩ = some (.slice va x.b.length vc)) := fun w9 hb => by
          have e := hb.block wr.heap.size (Array.getElem?_eq_some_iff.1 HK5.out).1
          exact ⟨op_cell HK5.out e 2, op_cell HK5.out e 4⟩
        have PT : Hid (∀ w9, Below w5.heap.size w5 w9 → ∀ v, OwnU w9 w5.heap.size v x.b → Calls Try.prog 23 #[pp d, sv x.nm, v] w9 fun e w' => ∃ u, e = .returned (.tuple #[.int .i64 ((take (opApp x.nm x.b) (some (opPart x.nm x.b)) D).n : Nat), u]) ∧ ErrV w' w9.heap.size u ⟨#[97, 112, 112, 101, 110, 100]⟩ (bsOf x.nm) (stepNo D : Int) (take (opApp x.nm x.b) (some (opPart x.nm x.b)) D).e ∧ (Dsk F0 (10 + 210 * k + 3) w' d (take (opApp x.nm x.b) (some (opPart x.nm x.b)) D).d ∧ Below W.heap.size wr w') ∧ (w'.cell? ⟨wr.heap.size, 2, none⟩ = some (sv x.nm) ∧ w'.cell? ⟨wr.heap.size, 4, none⟩ = some (.slice va x.b.length vc)) ∧ (∀ y3, Kd F0 w' y3 → ∀ w7, Below y3.heap.size y3 w7 → w7.cell? ⟨wr.heap.size, 4, none⟩ = some (.slice va x.b.length vc))) := fun w9 hb9 v ho => by
          refine (Append_any CR ((HDK.out.ext HB5.out).pen hb9) (by omega) x.nm HXO.out.short.1 v x.b ho.rdu (by omega) HXO.out.byt (fun g hg => .inr (own_ge ho hg))).mono ?_
          rintro e w' ⟨u, rfl, p1, p2, p3⟩
          have e8 := hb9.block wr.heap.size (Array.getElem?_eq_some_iff.1 HK5.out).1
          have e9 := (p3.keep (e8.trans HK5.out) (by decide) (by decide)).trans e8
          have p4 : Ku True F0 w9 w' := p3.less (fun _ hq => .inl hq)
          have e10 := e9.trans HK5.out
          refine ⟨u, rfl, p1, ⟨p2.less (fun _ hq => .inl hq), ?_⟩, ⟨op_cell HK5.out e9 2, op_cell HK5.out e9 4⟩, fun y3 hk3 w7 hb7 => ?_⟩
          · rw [hF0] at p4
            exact ((HB5.out.trans (hb9.mono HB5.out.size)).mono HBW.out.size).trans (p4.below (Nat.le_trans HBW.out.size (Nat.le_trans HB5.out.size hb9.size)) (fun _ h => h))
          · have e11 := (hk3.keep e10 (by decide)).trans e10
            exact op_cell e11 (hb7.block _ (Array.getElem?_eq_some_iff.1 e11).1) 4
        have CA := hidIt (clm_app HC.out HDK.out.wf x.nm x.b)
        have ks := HS.out w5 (Below.refl _ _)
        rw [h2] at k0
        clear k1 k3 k5 k6 k7 k2 k4 HC HDK HK5 HB5
        go_upto_region 13 with fail
        refine wp_region_held_drew (S := fun w'' => w''.cell? ⟨wr.heap.size, 2, none⟩ = some (sv x.nm) ∧ w''.cell? ⟨wr.heap.size, 4, none⟩ = some (.slice va x.b.length vc)) (by kernel_rfl) (ks) (fun hHeld => ?_)
        refine wpAnyH_take (i := 0) (oi := _) (v := ?_) rfl (by kernel_rfl) (by kernel_rfl) (by kernel_rfl) (fun _ _ _ h => h) (Or.inl ⟨by rfl, ?_⟩) (by assumption) ?_
        rotate_left 1
        · intro wq hSw; (try dsimp only at hSw); go_simp; try (with_reducible rfl)
        try simp only [Act.put, List.getElem_toArray, List.getElem_cons_zero, List.setIfInBounds_toArray, List.set_cons_zero, List.set_cons_succ]
        refine wpAnyH_take (i := 1) (oi := _) (v := ?_) rfl (by kernel_rfl) (by kernel_rfl) (by kernel_rfl) (fun _ _ _ h => h) (Or.inl ⟨by rfl, ?_⟩) (by assumption) ?_
        rotate_left 1
        · intro wq hSw; (try dsimp only at hSw); go_simp; try (with_reducible rfl)
        try simp only [Act.put, List.getElem_toArray, List.getElem_cons_succ, List.getElem_cons_zero, List.setIfInBounds_toArray, List.set_cons_zero, List.set_cons_succ]
        refine wpAnyH_take (i := 2) (oi := _) (v := ?_) rfl (by kernel_rfl) (by kernel_rfl) (by kernel_rfl) (fun _ _ _ h => h) (Or.inl ⟨by rfl, ?_⟩) (by assumption) ?_
        rotate_left 1
        · intro wq hSw; (try dsimp only at hSw); go_simp; try (with_reducible rfl)
        try simp only [Act.put, List.getElem_toArray, List.getElem_cons_succ, List.getElem_cons_zero, List.setIfInBounds_toArray, List.set_cons_zero, List.set_cons_succ]
        refine wpAnyH_take (i := 3) (oi := _) (v := ?_) rfl (by kernel_rfl) (by kernel_rfl) (by kernel_rfl) (fun _ _ _ h => h) (Or.inl ⟨by rfl, ?_⟩) (by assumption) ?_
        rotate_left 1
        · intro wq hSw; (try dsimp only at hSw); go_simp; try (with_reducible rfl)
        try simp only [Act.put, List.getElem_toArray, List.getElem_cons_succ, List.getElem_cons_zero, List.setIfInBounds_toArray, List.set_cons_zero, List.set_cons_succ]
        refine wpAnyH_take (i := 4) (oi := _) (v := ?_) rfl (by kernel_rfl) (by kernel_rfl) (by kernel_rfl) (fun _ _ _ h => h) (Or.inl ⟨by rfl, ?_⟩) (by assumption) ?_
        rotate_left 1
        · intro wq hSw; (try dsimp only at hSw); go_simp; try (with_reducible rfl)
        try simp only [Act.put, List.getElem_toArray, List.getElem_cons_succ, List.getElem_cons_zero, List.setIfInBounds_toArray, List.set_cons_zero, List.set_cons_succ]
        refine wpAnyH_ready (rs := [5]) (by kernel_rfl) (by simp) ?_
        refine AllReadyH.cons (o := _) rfl (fun K hK => ?_) AllReadyH.nil
        rw [if_pos (by rfl)]
        refine wp_append_copy _ _ (by rfl) (by rfl) (by kernel_rfl) _ (by rfl) x.b (HR.out.ext (Below.drew (Below.refl _ _))) (by omega) ?_; intro v9 w9 ho9 hb9; have HO9 : Hid (OwnU w9 w5.heap.size v9 x.b) := ho9; have HB9 := hidIt (ext_trans (Below.drew (Below.refl w5.heap.size w5)) hb9); clear ho9 hb9 ks; have ks := HS.out w9 HB9.out
        refine hK.out _ _ ?_ (fun hHeld => ?_)
        · (try simp only [World.cell?_drew]); exact ks
        clear hK K
        try simp only [Act.put, List.getElem_toArray, List.getElem_cons_succ, List.getElem_cons_zero, List.setIfInBounds_toArray, List.set_cons_zero, List.set_cons_succ]
        refine wpAnyH_ready (rs := [6]) (by kernel_rfl) (by simp) ?_
        refine AllReadyH.cons (o := _) rfl (fun K hK => ?_) AllReadyH.nil
        go_simp
        refine (PT.out w9 HB9.out v9 HO9.out).mono ?_; rintro e y2 ⟨u, rfl, h1, h2, h3, h4⟩; have H1 := hidIt h1; have H2 := hidIt h2; have H4 := hidIt h4; clear h1 h2 h4 ks; have ks := h3; clear h3; try dsimp only
        refine hK.out _ _ ?_ (fun hHeld => ?_)
        · (try simp only [World.cell?_drew]); exact ks
        clear hK K
        try simp only [Act.put, List.getElem_toArray, List.getElem_cons_succ, List.getElem_cons_zero, List.setIfInBounds_toArray, List.set_cons_zero, List.set_cons_succ]
        refine wpAnyH_take (i := 7) (oi := _) (v := ?_) rfl (by kernel_rfl) (by kernel_rfl) (by kernel_rfl) (fun _ _ _ h => h) (Or.inl ⟨by rfl, ?_⟩) (by assumption) ?_
        rotate_left 1
        · intro wq hSw; (try dsimp only at hSw); go_simp; try (with_reducible rfl)
        try simp only [Act.put, List.getElem_toArray, List.getElem_cons_succ, List.getElem_cons_zero, List.setIfInBounds_toArray, List.set_cons_zero, List.set_cons_succ]
        refine wpAnyH_take (i := 8) (oi := _) (v := ?_) rfl (by kernel_rfl) (by kernel_rfl) (by kernel_rfl) (fun _ _ _ h => h) (Or.inl ⟨by rfl, ?_⟩) (by assumption) ?_
        rotate_left 1
        · intro wq hSw; (try dsimp only at hSw); go_simp; try (with_reducible rfl)
        try simp only [Act.put, List.getElem_toArray, List.getElem_cons_succ, List.getElem_cons_zero, List.setIfInBounds_toArray, List.set_cons_zero, List.set_cons_succ]
        refine wpAnyH_take (i := 9) (oi := _) (v := ?_) rfl (by kernel_rfl) (by kernel_rfl) (by kernel_rfl) (fun _ _ _ h => h) (Or.inl ⟨by rfl, ?_⟩) (by assumption) ?_
        rotate_left 1
        · intro wq hSw; (try dsimp only at hSw); go_simp; try (with_reducible rfl)
        try simp only [Act.put, List.getElem_toArray, List.getElem_cons_succ, List.getElem_cons_zero, List.setIfInBounds_toArray, List.set_cons_zero, List.set_cons_succ]
        refine wpAnyH_take (i := 10) (oi := _) (v := ?_) rfl (by kernel_rfl) (by kernel_rfl) (by kernel_rfl) (fun _ _ _ h => h) (Or.inl ⟨by rfl, ?_⟩) (by assumption) ?_
        rotate_left 1
        · intro wq hSw; (try dsimp only at hSw); go_simp; try (with_reducible rfl)
        try simp only [Act.put, List.getElem_toArray, List.getElem_cons_succ, List.getElem_cons_zero, List.setIfInBounds_toArray, List.set_cons_zero, List.set_cons_succ]
        refine wpAnyH_take (i := 11) (oi := _) (v := ?_) rfl (by kernel_rfl) (by kernel_rfl) (by kernel_rfl) (fun _ _ _ h => h) (Or.inl ⟨by rfl, ?_⟩) (by assumption) ?_
        rotate_left 1
        · intro wq hSw; (try dsimp only at hSw); go_simp; try (with_reducible rfl)
        try simp only [Act.put, List.getElem_toArray, List.getElem_cons_succ, List.getElem_cons_zero, List.setIfInBounds_toArray, List.set_cons_zero, List.set_cons_succ]
        refine wpAnyH_done (by kernel_rfl) ?_ _
        clear PT HS
        have LK := hidIt (looked_any CR H2.out.1 CA.out.1 (show 10 + 210 * k + 3 + 200 ≤ 1099511627776 by omega))
        have H5 : Hid (∀ y3, Kd F0 y2 y3 → ∀ w7, Below y3.heap.size y3 w7 → w7.cell? ⟨wr.heap.size, 4, none⟩ = some (.slice va x.b.length vc)) := H4.out
        have H6 : Hid (Below W.heap.size wr y2) := H2.out.2
        have HQ1 := CA.out.2.1
        have HQ3 := hidIt CA.out.2.2.1
        have HQ4 := hidIt CA.out.2.2.2
        clear CA H2 H4
        generalize hR : take (opApp x.nm x.b) (some (opPart x.nm x.b)) D = RR at *
        obtain ⟨DR, re, q, rb, rs⟩ := RR
        dsimp only at *
        clear hR
        rcases H1.out with ⟨he, rfl⟩ | ⟨he, qq, hqq, rfl, hqc⟩
        · subst he
          clear H1
          have hn0 : ¬ ((q : Nat) : Int) < 0 := by omega
          have hn1 : ¬ (x.b.length : Int) < ((q : Nat) : Int) := by omega
          have hq : q = x.b.length := HQ3.out rfl
          subst hq
          go_upto_region 17 with (go_at_call 22; refine LK.out.mono ?_; rintro e y3 ⟨na, nc, da, dc, sa, sc, rfl, _, ⟨D3, c3, st3, d3⟩, k3, u3⟩; have C3 := hidIt c3; have D3' := hidIt d3; have K3 := hidIt k3; have U3 := hidIt u3; clear c3 d3 k3 u3 st3; (try dsimp only))
          obtain ⟨w7, hw7, hb7, s0, s1, s2⟩ := shot_box y3 (.slice na DR.se.length nc) (.slice da DR.se.length dc) (.slice sa DR.se.length sc)
          rw [hw7]
          have HB7 := hidIt hb7
          have US := hidIt (U3.out w7 hb7)
          clear hw7 hb7 U3
          have b4 : w7.cell? ⟨wr.heap.size, 4, none⟩ = some (.slice va x.b.length vc) := H5.out y3 K3.out w7 HB7.out
          have FIN : Hid (∀ w', Below w7.heap.size w7 w' → ∃ D', Calm s D' ∧ Dsk F0 (10 + 210 * (k + 1)) w' d D' ∧ Below W.heap.size W w') := fun w' hb => ⟨D3, C3.out, ((D3'.out.ext HB7.out).ext hb).monoN (by omega) (by omega), by
            subst hF0
            have z1 := HBW.out.trans H6.out
            have z2 := z1.trans (K3.out.below0 z1.size)
            exact z2.trans ((HB7.out.trans (hb.mono HB7.out.size)).mono z2.size)⟩
          by_cases h0 : 0 < x.b.length
          · have h0' : (0 : Int) < (x.b.length : Int) := by omega
            have hlt' : ¬ (x.b.length : Int) < (x.b.length : Int) := by omega
            go_wp2_with fail
            go_roundw
            case rel => exact ⟨k + 1, by omega, by go_num, FIN.out w7 (Below.refl _ _)⟩
            case measure => simp [RowKit.intOf]; omega
          · have h0' : ¬ (0 : Int) < (x.b.length : Int) := by omega
            go_wp2_with fail
            go_roundw
            case rel => exact ⟨k + 1, by omega, by go_num, FIN.out w7 (Below.refl _ _)⟩
            case measure => simp [RowKit.intOf]; omega
        · clear hqq hqc H1 HQ3
          have hn0 : ¬ ((q : Nat) : Int) < 0 := by omega
          have hn1 : ¬ (x.b.length : Int) < ((q : Nat) : Int) := by omega
          go_upto_region 17 with (go_at_call 22; refine LK.out.mono ?_; rintro e y3 ⟨na, nc, da, dc, sa, sc, rfl, _, ⟨D3, c3, st3, d3⟩, k3, u3⟩; have C3 := hidIt c3; have D3' := hidIt d3; have K3 := hidIt k3; have U3 := hidIt u3; clear c3 d3 k3 u3 st3; (try dsimp only))
          obtain ⟨w7, hw7, hb7, s0, s1, s2⟩ := shot_box y3 (.slice na DR.se.length nc) (.slice da DR.se.length dc) (.slice sa DR.se.length sc)
          rw [hw7]
          have HB7 := hidIt hb7
          have US := hidIt (U3.out w7 hb7)
          clear hw7 hb7 U3
          have b4 : w7.cell? ⟨wr.heap.size, 4, none⟩ = some (.slice va x.b.length vc) := H5.out y3 K3.out w7 HB7.out
          have FIN : Hid (∀ w', Below w7.heap.size w7 w' → ∃ D', Calm s D' ∧ Dsk F0 (10 + 210 * (k + 1)) w' d D' ∧ Below W.heap.size W w') := fun w' hb => ⟨D3, C3.out, ((D3'.out.ext HB7.out).ext hb).monoN (by omega) (by omega), by
            subst hF0
            have z1 := HBW.out.trans H6.out
            have z2 := z1.trans (K3.out.below0 z1.size)
            exact z2.trans ((HB7.out.trans (hb.mono HB7.out.size)).mono z2.size)⟩
          by_cases h0 : 0 < q
          · have h0' : (0 : Int) < (q : Int) := by omega
            by_cases hlt2 : q < x.b.length
            · have hlt' : (q : Int) < (x.b.length : Int) := by omega
              have hus : usd DR.fi DR.se = s := HQ4.out h0 hlt2
              rw [hus] at US
              go_wp2_with (go_at_call 24; refine US.out.mono ?_; rintro e y4 ⟨rfl, hb4⟩; have HB4 := hidIt hb4; clear hb4)
              go_roundw
              case rel => exact ⟨k + 1, by omega, by go_num, FIN.out y4 HB4.out⟩
              case measure => simp [RowKit.intOf]; omega
            · have hlt' : ¬ (q : Int) < (x.b.length : Int) := by omega
              go_wp2_with fail
              go_roundw
              case rel => exact ⟨k + 1, by omega, by go_num, FIN.out w7 (Below.refl _ _)⟩
              case measure => simp [RowKit.intOf]; omega
          · have h0' : ¬ (0 : Int) < (q : Int) := by omega
            go_wp2_with fail
            go_roundw
            case rel => exact ⟨k + 1, by omega, by go_num, FIN.out w7 (Below.refl _ _)⟩
            case measure => simp [RowKit.intOf]; omega

      · have DO : Hid (Calls Try.prog 21 #[pp d, .agg #[.int .i64 x.k, .int .i64 x.who, sv x.nm, sv x.tn, .slice va x.b.length vc, .slice x.fa x.fn x.fc, .int .i64 x.cn, .slice x.ca x.cl x.cc]] w5 (DoC s F0 (10 + 210 * k + 3) w5 d)) := by
          have := do_calm CR (HDK.out.ext HB5.out) HC.out (by omega) x HXO.out (by rw [hv]; exact HR.out) (by omega) h2 h10 h11
          unfold opV at this
          rw [hv] at this
          exact this
        have HBX : Hid (Below W.heap.size W w5) := HBW.out.trans (HB5.out.mono HBW.out.size)
        have hb11 : (x.k == 11) = false := by simp [h11]
        have hb10 : (x.k == 10) = false := by simp [h10]
        have hb2 : (x.k == 2) = false := by simp [h2]
        clear HC HDK HK5 HB5 HR HXO HOK
        go_upto_region 20 with (go_at_call 21; refine DO.out.mono ?_; rintro e y2 ⟨⟨r2, rfl⟩, DR, hc, hd, hk2⟩; have HC2 := hidIt hc; have HD2 := hidIt hd; have HK2 := hidIt hk2; clear hc hd hk2)
        have LK := hidIt (looked_any CR HD2.out HC2.out (show 10 + 210 * k + 3 + 200 ≤ 1099511627776 by omega))
        go_upto_region 21 with (go_at_call 22; refine LK.out.mono ?_; rintro e y3 ⟨na, nc, da, dc, sa, sc, rfl, _, ⟨D3, c3, st3, d3⟩, k3, u3⟩; have C3 := hidIt c3; have D3' := hidIt d3; have K3 := hidIt k3; have U3 := hidIt u3; clear c3 d3 k3 u3 st3; (try dsimp only))
        have hus := HC2.out.us
        have hfw := HD2.out.wf.seen.few
        obtain ⟨w7, hw7, hb7, s0, s1, s2⟩ := shot_box y3 (.slice na DR.se.length nc) (.slice da DR.se.length dc) (.slice sa DR.se.length sc)
        rw [hw7]
        have HB7 := hidIt hb7
        have US := hidIt (U3.out w7 hb7)
        clear hw7 hb7 U3

        have FIN : Hid (∀ w', Below w7.heap.size w7 w' → ∃ D', Calm s D' ∧ Dsk F0 (10 + 210 * (k + 1)) w' d D' ∧ Below W.heap.size W w') := fun w' hb => ⟨D3, C3.out, ((D3'.out.ext HB7.out).ext hb).monoN (by omega) (by omega), by
          subst hF0
          have z1 := HBX.out.trans (HK2.out.below0 HBX.out.size)
          have z2 := z1.trans (K3.out.below0 z1.size)
          exact z2.trans ((HB7.out.trans (hb.mono HB7.out.size)).mono z2.size)⟩
        have FIX : Hid (∀ w', Below w7.heap.size w7 w' → w'.cell? ⟨y3.heap.size, 0, none⟩ = some (.slice na DR.se.length nc)) := fun w' hb => (hb.cell (p := ⟨y3.heap.size, 0, none⟩) (cell_lt s0)).trans s0
        generalize hu : usd DR.fi DR.se = us at *
        generalize hl : DR.se.length = ln at *
        have hus' : ¬ (s : Int) < (us : Int) := by omega
        have hln : ¬ (16 : Int) < (ln : Int) := by omega
        clear hu hl C3 D3' K3 HC2 HD2 HK2 LK DO
        go_wp2_with (go_at_call 24; refine US.out.mono ?_; rintro e y4 ⟨rfl, hb4⟩; have HB4 := hidIt hb4; have s9 := FIX.out y4 hb4; clear hb4)
        go_roundw
        case rel => exact ⟨k + 1, by omega, by go_num, FIN.out y4 HB4.out⟩
        case measure => simp [RowKit.intOf]; omega
    · have ejk : xs.length = k := by omega
      subst ejk
      have hge : ¬ (xs.length : Int) < (xs.length : Int) := by omega
      have LK := hidIt (looked_any CR HDK.out HC.out (show 10 + 210 * xs.length + 200 ≤ 1099511627776 by omega))
      go_upto_region 24 with (go_at_call 22; refine LK.out.mono ?_; rintro e y3 ⟨na, nc, da, dc, sa, sc, rfl, _, ⟨D3, c3, st3, d3⟩, k3, u3⟩; have C3 := hidIt c3; have D3' := hidIt d3; have K3 := hidIt k3; have U3 := hidIt u3; clear c3 d3 k3 u3 st3; (try dsimp only))
      have hus := HC.out.us
      obtain ⟨w7, hw7, hb7, s0, s1, s2⟩ := shot_box y3 (.slice na D.se.length nc) (.slice da D.se.length dc) (.slice sa D.se.length sc)
      rw [hw7]
      have HB7 := hidIt hb7
      have US := hidIt (U3.out w7 hb7)
      clear hw7 hb7 U3

      generalize hu : usd D.fi D.se = us at *
      have hus' : (us : Int) ≤ (s : Int) := by omega
      have FIN : Hid (∀ w', Below w7.heap.size w7 w' → Below W.heap.size W w') := fun w' hb => by
        subst hF0
        have z2 := HBW.out.trans (K3.out.below0 HBW.out.size)
        exact z2.trans ((HB7.out.trans (hb.mono HB7.out.size)).mono z2.size)
      clear hu C3 D3' K3 HC HDK
      go_wp2_with (go_at_call 24; refine US.out.mono ?_; rintro e y4 ⟨rfl, hb4⟩; have HB4 := hidIt hb4; clear hb4)
      go_ret
      exact ⟨rfl, FIN.out y4 HB4.out⟩
end Go.Proofs.Ytlcgagapkkdocaa
