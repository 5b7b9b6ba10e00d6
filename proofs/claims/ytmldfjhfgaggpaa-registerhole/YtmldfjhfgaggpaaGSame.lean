/- The law's sameShown. -/
import Derived.Test.YtmldfjhfgaggpaaGShow
namespace Go.Proofs.Ytmldfjhfgaggpaa
open Go.RowKit

theorem OwnG.row {w : World} {base : Nat} {v e : Value} {gs : List Rg} (h : OwnG w base v gs e) (hn : gs ≠ []) : ∃ g cap, v = .slice (some ⟨g, 0, none⟩) gs.length cap ∧ gs.length ≤ cap ∧ cap ≤ 9223372036854775807 ∧ g < w.heap.size ∧ ∀ (i : Nat) (x : Rg), gs[i]? = some x → w.cell? ⟨g, i * 2, none⟩ = some (.int .i64 x.k) ∧ ∃ u, w.cell? ⟨g, i * 2 + 1, none⟩ = some u ∧ OwnI w base u x.t := by
  obtain ⟨l, h1, h2, h3⟩ := h
  have hll : l.length = gs.length := by rw [← h1, List.length_map]
  rcases id h2.2 with ⟨_, h5⟩ | ⟨g, cap, cur, rfl, _, hg, hc, hm, _⟩
  · exact absurd (List.length_eq_zero_iff.1 (by omega)) hn
  · refine ⟨g, cap, by rw [hll], by omega, by unfold maxLen at hm; exact hm, (Array.getElem?_eq_some_iff.1 hg).1, fun i x hx => ?_⟩
    rw [← h1, List.getElem?_map] at hx
    obtain ⟨p, hp, rfl⟩ := Option.map_eq_some_iff.1 hx
    obtain ⟨q1, q2⟩ := fl2_at l i p hp
    have hcs := World.ownsRow.cells h2 (g := g) (by simp [Value.ownBlock])
    have r1 := hcs (i * 2) _ q1
    have r2 := hcs (i * 2 + 1) _ q2
    rw [Addr.add_lit, Nat.zero_add] at r1 r2
    exact ⟨r1, p.2, r2, (h3 p (List.mem_of_getElem? hp)).1⟩
theorem OwnG.kb {F : Nat → Prop} {b bm N base : Nat} {m : Int → Option Rg} {p : Int} {w w' : World} {v e : Value} {gs : List Rg} (h : OwnG w base v gs e) (k : Kb b bm w w') (hB : Bk F w b bm N m p) : OwnG w' base v gs e := by
  obtain ⟨l, h1, h2, h3⟩ := h
  refine ⟨l, h1, ?_, fun q hq => ⟨(h3 q hq).1.kb k hB, (h3 q hq).2⟩⟩
  obtain ⟨e1, e2⟩ := h2
  refine ⟨e1, ?_⟩
  rcases e2 with e2 | ⟨g, cap, cur, hv, hb, hg, r⟩
  · exact .inl e2
  · refine .inr ⟨g, cap, cur, hv, hb, (k.block (Array.getElem?_eq_some_iff.1 hg).1 (fun e => ?_) (fun e => ?_)).trans hg, r⟩
    · subst e
      rw [hB.1] at hg
      cases hg
    · subst e
      obtain ⟨_, _, _, _, ⟨_, _, hm, _⟩, _⟩ := hB
      rw [hm] at hg
      cases hg
theorem shG_len (m : Int → Option Rg) (p : Int) (k : Nat) : (shG m p k).length = k := by unfold shG; simp

set_option maxRecDepth 100000 in
set_option maxHeartbeats 8000000 in
theorem sameShown_any {F : Nat → Prop} (w : World) (b bm N base : Nat) (m : Int → Option Rg) (p : Int) (l ev : Value) (h : Bk F w b bm N m p) (hl : OwnG w base l (shG m p 132) ev) (he : OwnI w base ev (shE m p 132)) : Calls Try.prog 19 #[.pointer (some ⟨b, 0, none⟩), l, ev] w fun e w' => e = .returned (.bool true) ∧ Below w.heap.size w w' := by
  have SH := hidIt (shown_any w b bm N m p h)
  have hne : shG m p 132 ≠ [] := by intro e; have := congrArg List.length e; rw [shG_len] at this; simp at this
  obtain ⟨g1, cap1, rfl, hcp1, _, hg1, hr1⟩ := hl.row hne
  rw [shG_len] at *
  have HR1 := hidIt hr1
  have HE := hidIt he
  clear h hl he hr1
  go_enter Try.func19, Try.ntmps19
  go_upto_region 2 with (go_at_call 17; refine SH.out.mono ?_; rintro e w1 ⟨l2, ev2, rfl, hog, hoe, hb1⟩; obtain ⟨g2, cap2, hl2, hcp2, _, hg2, hr2⟩ := hog.row hne; rw [shG_len] at hl2 hcp2; subst hl2; have HR2 := hidIt hr2; have HE2 := hidIt hoe; have HB1 := hidIt hb1; clear hog hoe hb1 hr2; (try dsimp only))
  go_wp2_with fail
  go_loopw [9] (fun i wr => ∃ k : Nat, k ≤ 132 ∧ i = .int .i64 k ∧ Below w1.heap.size w1 wr) (fun i _ => 132 - (RowKit.intOf i).toNat)
  case atStart => exact ⟨0, Nat.zero_le _, rfl, Below.refl _ _⟩
  case round =>
    obtain ⟨k, hk, rfl, hbw⟩ := hrel
    have HBW := hidIt hbw
    clear hbw
    by_cases hlt : (k : Int) < 132
    · obtain ⟨x, hx⟩ : ∃ x, (shG m p 132)[k]? = some x := ⟨_, List.getElem?_eq_getElem (by rw [shG_len]; omega)⟩
      obtain ⟨q1, u1, q2, q3⟩ := HR1.out k x hx
      obtain ⟨r1, u2, r2, r3⟩ := HR2.out k x hx
      obtain ⟨a1, n1, c1, e1⟩ := q3.form
      obtain ⟨a2, n2, c2, e2⟩ := r3.form
      subst e1 e2
      have hbb := ext_trans HB1.out HBW.out
      have HS : Hid (∀ w', Below wr.heap.size wr w' → w'.cell? ⟨g1, k * 2, none⟩ = some (.int .i64 x.k) ∧ w'.cell? ⟨g1, k * 2 + 1, none⟩ = some (.slice a1 n1 c1) ∧ w'.cell? ⟨g2, k * 2, none⟩ = some (.int .i64 x.k) ∧ w'.cell? ⟨g2, k * 2 + 1, none⟩ = some (.slice a2 n2 c2)) := fun w' hb => by
        have b1 := ext_trans hbb hb
        have b2 := ext_trans HBW.out hb
        exact ⟨(b1.cell (p := ⟨g1, k * 2, none⟩) hg1).trans q1, (b1.cell (p := ⟨g1, k * 2 + 1, none⟩) hg1).trans q2, (b2.cell (p := ⟨g2, k * 2, none⟩) hg2).trans r1, (b2.cell (p := ⟨g2, k * 2 + 1, none⟩) hg2).trans r2⟩
      have SI : Hid (∀ w', Below wr.heap.size wr w' → Calls Try.prog 26 #[.slice a1 n1 c1, .slice a2 n2 c2] w' fun e w'' => e = .returned (.bool true) ∧ Below w'.heap.size w' w'') := fun w' hb => sameInts_any _ _ x.t w' (q3.ext (ext_trans hbb hb)).rd (r3.ext (ext_trans HBW.out hb)).rd
      have ks := HS.out wr (Below.refl _ _)
      have hkk : (x.k != x.k) = false := by simp
      clear q1 q2 q3 r1 r2 r3 hx hbb
      go_upto_region 5 with fail
      refine wp_region_held_drew (S := fun w'' => w''.cell? ⟨g1, k * 2, none⟩ = some (.int .i64 x.k) ∧ w''.cell? ⟨g1, k * 2 + 1, none⟩ = some (.slice a1 n1 c1) ∧ w''.cell? ⟨g2, k * 2, none⟩ = some (.int .i64 x.k) ∧ w''.cell? ⟨g2, k * 2 + 1, none⟩ = some (.slice a2 n2 c2)) (by kernel_rfl) (ks) (fun hHeld => ?_)
      refine wpAnyH_take (i := 0) (oi := _) (v := ?_) rfl (by kernel_rfl) (by kernel_rfl) (by kernel_rfl) (fun _ _ _ h => h) (Or.inl ⟨by rfl, ?_⟩) (by assumption) ?_
      rotate_left 1
      · intro wq hSw; (try dsimp only at hSw); go_simp; try (with_reducible rfl)
      try simp only [Act.put, List.getElem_toArray, List.getElem_cons_zero, List.setIfInBounds_toArray, List.set_cons_zero, List.set_cons_succ]
      refine wpAnyH_take (i := 1) (oi := _) (v := ?_) rfl (by kernel_rfl) (by kernel_rfl) (by kernel_rfl) (fun _ _ _ h => h) (Or.inl ⟨by rfl, ?_⟩) (by assumption) ?_
      rotate_left 1
      · intro wq hSw; (try dsimp only at hSw); go_simp; try (with_reducible rfl)
      try simp only [Act.put, List.getElem_toArray, List.getElem_cons_succ, List.getElem_cons_zero, List.setIfInBounds_toArray, List.set_cons_zero, List.set_cons_succ]
      refine wpAnyH_take (i := 2) (oi := _) (v := ?_) rfl (by kernel_rfl) (by kernel_rfl) (by kernel_rfl) (fun _ _ _ h => h) (Or.inl ⟨by rfl, ?_⟩) (by assumption) ?_
      rotate_left 1
      · intro wq hSw; (try dsimp only at hSw); go_simp; try (with_reducible rfl)
      try simp only [Act.put, List.getElem_toArray, List.getElem_cons_succ, List.getElem_cons_zero, List.setIfInBounds_toArray, List.set_cons_zero, List.set_cons_succ]
      refine wpAnyH_take (i := 3) (oi := _) (v := ?_) rfl (by kernel_rfl) (by kernel_rfl) (by kernel_rfl) (fun _ _ _ h => h) (Or.inl ⟨by rfl, ?_⟩) (by assumption) ?_
      rotate_left 1
      · intro wq hSw; (try dsimp only at hSw); go_simp; try (with_reducible rfl)
      try simp only [Act.put, List.getElem_toArray, List.getElem_cons_succ, List.getElem_cons_zero, List.setIfInBounds_toArray, List.set_cons_zero, List.set_cons_succ]
      refine wpAnyH_take (i := 4) (oi := _) (v := ?_) rfl (by kernel_rfl) (by kernel_rfl) (by kernel_rfl) (fun _ _ _ h => h) (Or.inl ⟨by rfl, ?_⟩) (by assumption) ?_
      rotate_left 1
      · intro wq hSw; (try dsimp only at hSw); go_simp; try (with_reducible rfl)
      try simp only [Act.put, List.getElem_toArray, List.getElem_cons_succ, List.getElem_cons_zero, List.setIfInBounds_toArray, List.set_cons_zero, List.set_cons_succ]
      refine wpAnyH_take (i := 5) (oi := _) (v := ?_) rfl (by kernel_rfl) (by kernel_rfl) (by kernel_rfl) (fun _ _ _ h => h) (Or.inl ⟨by rfl, ?_⟩) (by assumption) ?_
      rotate_left 1
      · intro wq hSw; (try dsimp only at hSw); go_simp; try (with_reducible rfl)
      try simp only [Act.put, List.getElem_toArray, List.getElem_cons_succ, List.getElem_cons_zero, List.setIfInBounds_toArray, List.set_cons_zero, List.set_cons_succ]
      refine wpAnyH_take (i := 6) (oi := _) (v := ?_) rfl (by kernel_rfl) (by kernel_rfl) (by kernel_rfl) (fun _ _ _ h => h) (Or.inl ⟨by rfl, ?_⟩) (by assumption) ?_
      rotate_left 1
      · intro wq hSw; (try dsimp only at hSw); go_simp; try (with_reducible rfl)
      try simp only [Act.put, List.getElem_toArray, List.getElem_cons_succ, List.getElem_cons_zero, List.setIfInBounds_toArray, List.set_cons_zero, List.set_cons_succ]
      refine wpAnyH_take (i := 7) (oi := _) (v := ?_) rfl (by kernel_rfl) (by kernel_rfl) (by kernel_rfl) (fun _ _ _ h => h) (Or.inl ⟨by rfl, ?_⟩) (by assumption) ?_
      rotate_left 1
      · intro wq hSw; (try dsimp only at hSw); go_simp; try (with_reducible rfl)
      try simp only [Act.put, List.getElem_toArray, List.getElem_cons_succ, List.getElem_cons_zero, List.setIfInBounds_toArray, List.set_cons_zero, List.set_cons_succ]
      refine wpAnyH_take (i := 8) (oi := _) (v := ?_) rfl (by kernel_rfl) (by kernel_rfl) (by kernel_rfl) (fun _ _ _ h => h) (Or.inl ⟨by rfl, ?_⟩) (by assumption) ?_
      rotate_left 1
      · intro wq hSw; (try dsimp only at hSw); go_simp; try (with_reducible rfl)
      try simp only [Act.put, List.getElem_toArray, List.getElem_cons_succ, List.getElem_cons_zero, List.setIfInBounds_toArray, List.set_cons_zero, List.set_cons_succ]
      refine wpAnyH_take (i := 9) (oi := _) (v := ?_) rfl (by kernel_rfl) (by kernel_rfl) (by kernel_rfl) (fun _ _ _ h => h) (Or.inl ⟨by rfl, ?_⟩) (by assumption) ?_
      rotate_left 1
      · intro wq hSw; (try dsimp only at hSw); go_simp; try (with_reducible rfl)
      try simp only [Act.put, List.getElem_toArray, List.getElem_cons_succ, List.getElem_cons_zero, List.setIfInBounds_toArray, List.set_cons_zero, List.set_cons_succ]
      refine wpAnyH_take (i := 10) (oi := _) (v := ?_) rfl (by kernel_rfl) (by kernel_rfl) (by kernel_rfl) (fun _ _ _ h => h) (Or.inl ⟨by rfl, ?_⟩) (by assumption) ?_
      rotate_left 1
      · intro wq hSw; (try dsimp only at hSw); go_simp; try (with_reducible rfl)
      try simp only [Act.put, List.getElem_toArray, List.getElem_cons_succ, List.getElem_cons_zero, List.setIfInBounds_toArray, List.set_cons_zero, List.set_cons_succ]
      refine wpAnyH_take (i := 11) (oi := _) (v := ?_) rfl (by kernel_rfl) (by kernel_rfl) (by kernel_rfl) (fun _ _ _ h => h) (Or.inl ⟨by rfl, ?_⟩) (by assumption) ?_
      rotate_left 1
      · intro wq hSw; (try dsimp only at hSw); go_simp; try (with_reducible rfl)
      try simp only [Act.put, List.getElem_toArray, List.getElem_cons_succ, List.getElem_cons_zero, List.setIfInBounds_toArray, List.set_cons_zero, List.set_cons_succ]
      refine wpAnyH_take (i := 12) (oi := _) (v := ?_) rfl (by kernel_rfl) (by kernel_rfl) (by kernel_rfl) (fun _ _ _ h => h) (Or.inl ⟨by rfl, ?_⟩) (by assumption) ?_
      rotate_left 1
      · intro wq hSw; (try dsimp only at hSw); go_simp; try (with_reducible rfl)
      try simp only [Act.put, List.getElem_toArray, List.getElem_cons_succ, List.getElem_cons_zero, List.setIfInBounds_toArray, List.set_cons_zero, List.set_cons_succ]
      refine wpAnyH_take (i := 13) (oi := _) (v := ?_) rfl (by kernel_rfl) (by kernel_rfl) (by kernel_rfl) (fun _ _ _ h => h) (Or.inl ⟨by rfl, ?_⟩) (by assumption) ?_
      rotate_left 1
      · intro wq hSw; (try dsimp only at hSw); go_simp; try (with_reducible rfl)
      try simp only [Act.put, List.getElem_toArray, List.getElem_cons_succ, List.getElem_cons_zero, List.setIfInBounds_toArray, List.set_cons_zero, List.set_cons_succ]
      refine wpAnyH_take (i := 14) (oi := _) (v := ?_) rfl (by kernel_rfl) (by kernel_rfl) (by kernel_rfl) (fun _ _ _ h => h) (Or.inl ⟨by rfl, ?_⟩) (by assumption) ?_
      rotate_left 1
      · intro wq hSw; (try dsimp only at hSw); go_simp; try (with_reducible rfl)
      try simp only [Act.put, List.getElem_toArray, List.getElem_cons_succ, List.getElem_cons_zero, List.setIfInBounds_toArray, List.set_cons_zero, List.set_cons_succ]
      refine wpAnyH_take (i := 15) (oi := _) (v := ?_) rfl (by kernel_rfl) (by kernel_rfl) (by kernel_rfl) (fun _ _ _ h => h) (Or.inl ⟨by rfl, ?_⟩) (by assumption) ?_
      rotate_left 1
      · intro wq hSw; (try dsimp only at hSw); go_simp; try (with_reducible rfl)
      try simp only [Act.put, List.getElem_toArray, List.getElem_cons_succ, List.getElem_cons_zero, List.setIfInBounds_toArray, List.set_cons_zero, List.set_cons_succ]
      refine wpAnyH_take (i := 16) (oi := _) (v := ?_) rfl (by kernel_rfl) (by kernel_rfl) (by kernel_rfl) (fun _ _ _ h => h) (Or.inl ⟨by rfl, ?_⟩) (by assumption) ?_
      rotate_left 1
      · intro wq hSw; (try dsimp only at hSw); go_simp; try (with_reducible rfl)
      try simp only [Act.put, List.getElem_toArray, List.getElem_cons_succ, List.getElem_cons_zero, List.setIfInBounds_toArray, List.set_cons_zero, List.set_cons_succ]
      refine wpAnyH_take (i := 17) (oi := _) (v := ?_) rfl (by kernel_rfl) (by kernel_rfl) (by kernel_rfl) (fun _ _ _ h => h) (Or.inl ⟨by rfl, ?_⟩) (by assumption) ?_
      rotate_left 1
      · intro wq hSw; (try dsimp only at hSw); go_simp; try (with_reducible rfl)
      try simp only [Act.put, List.getElem_toArray, List.getElem_cons_succ, List.getElem_cons_zero, List.setIfInBounds_toArray, List.set_cons_zero, List.set_cons_succ]
      refine wpAnyH_take (i := 18) (oi := _) (v := ?_) rfl (by kernel_rfl) (by kernel_rfl) (by kernel_rfl) (fun _ _ _ h => h) (Or.inl ⟨by rfl, ?_⟩) (by assumption) ?_
      rotate_left 1
      · intro wq hSw; (try dsimp only at hSw); go_simp; try (with_reducible rfl)
      try simp only [Act.put, List.getElem_toArray, List.getElem_cons_succ, List.getElem_cons_zero, List.setIfInBounds_toArray, List.set_cons_zero, List.set_cons_succ]
      refine wpAnyH_take (i := 19) (oi := _) (v := ?_) rfl (by kernel_rfl) (by kernel_rfl) (by kernel_rfl) (fun _ _ _ h => h) (Or.inl ⟨by rfl, ?_⟩) (by assumption) ?_
      rotate_left 1
      · intro wq hSw; (try dsimp only at hSw); go_simp; try (with_reducible rfl)
      try simp only [Act.put, List.getElem_toArray, List.getElem_cons_succ, List.getElem_cons_zero, List.setIfInBounds_toArray, List.set_cons_zero, List.set_cons_succ]
      refine wpAnyH_take (i := 20) (oi := _) (v := ?_) rfl (by kernel_rfl) (by kernel_rfl) (by kernel_rfl) (fun _ _ _ h => h) (Or.inl ⟨by rfl, ?_⟩) (by assumption) ?_
      rotate_left 1
      · intro wq hSw; (try dsimp only at hSw); go_simp; try (with_reducible rfl)
      try simp only [Act.put, List.getElem_toArray, List.getElem_cons_succ, List.getElem_cons_zero, List.setIfInBounds_toArray, List.set_cons_zero, List.set_cons_succ]
      refine wpAnyH_take (i := 21) (oi := _) (v := ?_) rfl (by kernel_rfl) (by kernel_rfl) (by kernel_rfl) (fun _ _ _ h => h) (Or.inl ⟨by rfl, ?_⟩) (by assumption) ?_
      rotate_left 1
      · intro wq hSw; (try dsimp only at hSw); go_simp; try (with_reducible rfl)
      try simp only [Act.put, List.getElem_toArray, List.getElem_cons_succ, List.getElem_cons_zero, List.setIfInBounds_toArray, List.set_cons_zero, List.set_cons_succ]
      refine wpAnyH_ready (rs := [22]) (by kernel_rfl) (by simp) ?_
      refine AllReadyH.cons (o := _) rfl (fun K hK => ?_) AllReadyH.nil
      go_simp
      refine (SI.out _ (Below.drew (Below.refl _ _))).mono ?_; rintro e y2 ⟨rfl, hb2⟩; have HB2 := hidIt (ext_trans (Below.drew (Below.refl wr.heap.size wr)) hb2); clear hb2 ks; have ks := HS.out y2 HB2.out; try dsimp only
      refine hK.out _ _ ?_ (fun hHeld => ?_)
      · (try simp only [World.cell?_drew]); exact ks
      clear hK K
      try simp only [Act.put, List.getElem_toArray, List.getElem_cons_succ, List.getElem_cons_zero, List.setIfInBounds_toArray, List.set_cons_zero, List.set_cons_succ]
      refine wpAnyH_take (i := 23) (oi := _) (v := ?_) rfl (by kernel_rfl) (by kernel_rfl) (by kernel_rfl) (fun _ _ _ h => h) (Or.inl ⟨by rfl, ?_⟩) (by assumption) ?_
      rotate_left 1
      · intro wq hSw; (try dsimp only at hSw); go_simp; try (with_reducible rfl)
      try simp only [Act.put, List.getElem_toArray, List.getElem_cons_succ, List.getElem_cons_zero, List.setIfInBounds_toArray, List.set_cons_zero, List.set_cons_succ]
      refine wpAnyH_take (i := 24) (oi := _) (v := ?_) rfl (by kernel_rfl) (by kernel_rfl) (by kernel_rfl) (fun _ _ _ h => h) (Or.inl ⟨by rfl, ?_⟩) (by assumption) ?_
      rotate_left 1
      · intro wq hSw; (try dsimp only at hSw); go_simp; try (with_reducible rfl)
      try simp only [Act.put, List.getElem_toArray, List.getElem_cons_succ, List.getElem_cons_zero, List.setIfInBounds_toArray, List.set_cons_zero, List.set_cons_succ]
      refine wpAnyH_done (by kernel_rfl) ?_ _
      go_wp2_with fail
      go_roundw
      case rel => exact ⟨k + 1, by omega, by go_num, ext_trans HBW.out HB2.out⟩
      case measure => simp [RowKit.intOf]; omega

    · have hk2 : k = 132 := by omega
      subst hk2
      clear hlt
      have SI := hidIt (sameInts_any _ _ (shE m p 132) wr (HE.out.ext (ext_trans HB1.out HBW.out)).rd (HE2.out.ext HBW.out).rd)
      go_wp2_with (go_at_call 26; refine SI.out.mono ?_; rintro e w3 ⟨rfl, hb3⟩; have HB3 := hidIt hb3; clear hb3; (try dsimp only))
      go_ret
      exact ⟨rfl, ext_trans (ext_trans HB1.out HBW.out) HB3.out⟩
end Go.Proofs.Ytmldfjhfgaggpaa
