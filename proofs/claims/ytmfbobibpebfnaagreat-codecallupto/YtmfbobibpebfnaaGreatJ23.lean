import Derived.Test.YtmfbobibpebfnaaGreatJ22
import Derived.Deep.CutRange
/- ends: the crowd goes on, and ends. -/
namespace Go.Proofs.YtmfbobibpebfnaaGreat
open Go.RowKit

/-- The places of a crowd's pairs stay. -/
def Lik (C D : List Pq) : Prop := C.map Pq.g = D.map Pq.g ∧ C.map Pq.q = D.map Pq.q
theorem Lik.len {C D : List Pq} (h : Lik C D) : C.length = D.length := by simpa using congrArg List.length h.1
theorem Lik.at {C D : List Pq} (h : Lik C D) {i : Nat} {p r : Pq} (hp : C[i]? = some p) (hr : D[i]? = some r) : p.g = r.g ∧ p.q = r.q := by
  have h1 := congrArg (·[i]?) h.1
  have h2 := congrArg (·[i]?) h.2
  simp only [List.getElem?_map, hp, hr, Option.map_some, Option.some.injEq] at h1 h2
  exact ⟨h1, h2⟩
theorem Lik.set {C D : List Pq} (h : Lik C D) {i : Nat} {p r : Pq} (hp : C[i]? = some p) (hg : r.g = p.g) (hq : r.q = p.q) : Lik (C.set i r) D := by
  refine ⟨Eq.trans ?_ h.1, Eq.trans ?_ h.2⟩
  · apply List.ext_getElem?
    intro k
    rw [List.getElem?_map, List.getElem?_map, List.getElem?_set]
    split
    · rename_i e
      subst e
      split
      · rw [hp]; simp [hg]
      · rename_i e2
        rw [List.getElem?_eq_none (by omega)]
    · rfl
  · apply List.ext_getElem?
    intro k
    rw [List.getElem?_map, List.getElem?_map, List.getElem?_set]
    split
    · rename_i e
      subst e
      split
      · rw [hp]; simp [hq]
      · rename_i e2
        rw [List.getElem?_eq_none (by omega)]
    · rfl

set_option maxRecDepth 100000 in
set_option maxHeartbeats 16000000 in
theorem ends_any (w : World) (N : Nat → Prop) (S T : Option Pq) (base c : Nat) (C0 : List Pq) (sv rv : Value) (hd : Cwd base w c C0 sv rv) (hn : CwN N c sv rv) (hc : Crw w N (LL S T C0)) (hl : C0.length ≤ 5) (hs : ∀ p ∈ C0, p.all.length ≤ 3) :
    Calls Tryz.prog 11 #[.pointer (some ⟨c, 0, none⟩)] w fun e w' => e = .returned (.bool true) ∧ Kps (fun k => ¬ N k) w w' := by
  have HD := hidIt hd
  have HN := hidIt hn
  have HC0 := hidIt hc
  have HS0 := hidIt hs
  obtain ⟨sa, sc, rfl⟩ := form_own hd.2.2.1
  obtain ⟨ra, rc, rfl⟩ := form_own hd.2.2.2
  have HCC : Hid (∀ y, Kps (fun k => ¬ N k) w y → y.cell? ⟨c, 0, none⟩ = some (.slice sa C0.length sc) ∧ y.cell? ⟨c, 1, none⟩ = some (.slice ra C0.length rc)) := fun y k => cells2 (HD.out.kps HN.out k (fun i e e2 => e2 e)).1
  clear hd hn hc hs
  go_enter Tryz.func11, Tryz.ntmps11
  go_wp2_with fail
  go_loopw [3] (fun i wr => ∃ (j : Nat) (C : List Pq), j ≤ C0.length ∧ i = .int .i64 j ∧ Hid (Lik C C0) ∧ Hid (∀ p ∈ C, p.all.length ≤ 3) ∧ Hid (Crw wr N (LL S T C)) ∧ Hid (Kps (fun k => ¬ N k) w wr)) (fun i _ => C0.length - (intOf i).toNat)
  case atStart => exact ⟨0, C0, Nat.zero_le _, rfl, ⟨rfl, rfl⟩, HS0.out, HC0.out, Kps.refl _ _⟩
  case round =>
    obtain ⟨j, C, hj, rfl, HLK, HSM, HCR, KW⟩ := hrel
    clear HC0 HS0
    obtain ⟨c0, c1⟩ := HCC.out wr KW.out
    by_cases hjl : j < C0.length
    · have hd1 : decide ((j : Int) < (C0.length : Int)) = true := by simp; omega
      have hji : (j : Int) < (C0.length : Int) := by omega
      obtain ⟨r, hr⟩ : ∃ r, C0[j]? = some r := ⟨_, List.getElem?_eq_getElem hjl⟩
      obtain ⟨p, hp⟩ : ∃ p, C[j]? = some p := ⟨_, List.getElem?_eq_getElem (by rw [HLK.out.len]; exact hjl)⟩
      obtain ⟨hpg, hpq⟩ := HLK.out.at hp hr
      obtain ⟨sb, _, hsv, _⟩ := own_some HD.out.2.2.1 (by omega)
      obtain ⟨rb, _, hrv, _⟩ := own_some HD.out.2.2.2 (by omega)
      cases hsv
      cases hrv
      obtain ⟨g, q, K, all⟩ := p
      have HES : Hid (∀ y, Kps (fun k => ¬ N k) w y → y.cell? ⟨c, 0, none⟩ = some (.slice (some ⟨sb, 0, none⟩) C0.length sc) ∧ y.cell? ⟨c, 1, none⟩ = some (.slice (some ⟨rb, 0, none⟩) C0.length rc) ∧ y.cell? ⟨sb, j, none⟩ = some (.pointer (some ⟨g, 0, none⟩)) ∧ y.cell? ⟨rb, j, none⟩ = some (.pointer (some ⟨q, 0, none⟩))) := fun y k => by
        have hd := HD.out.kps HN.out k (fun i e e2 => e2 e)
        refine ⟨(HCC.out y k).1, (HCC.out y k).2, ?_, ?_⟩
        · rw [hd.2.2.1.cellAt j (by omega), List.getElem?_map, hr]
          simp only [Option.map_some]
          rw [← hpg]
        · rw [hd.2.2.2.cellAt j (by omega), List.getElem?_map, hr]
          simp only [Option.map_some]
          rw [← hpq]
      have HAL : Hid (all.length ≤ 3) := HSM.out _ (List.mem_of_getElem? hp)
      have HPJ := hidIt hp
      clear hpg hpq hr hp
      have HAT : Hid (∀ (y : World) (D : List Pq) (al : List Int), Crw y N (LL S T D) → D[j]? = some (Pq.mk g q K al) → ∃ P : Nat → Prop, Pr P y g q K al ∧ (∀ k, P k → k < y.heap.size) ∧ (∀ k, P k → ¬ N k) ∧ ∀ (w' : World) (al' : List Int), Kps P y w' → Pr (fun k => P k ∨ y.heap.size ≤ k) w' g q K al' → Crw w' N (LL S T (D.set j (Pq.mk g q K al')))) := fun y D al hcr hD => by
        obtain ⟨P, p1, p2, p3, p4⟩ := hcr.at (j + 2) (Pq.mk g q K al) hD
        exact ⟨P, p1, p2, p3, fun w' al' k h => (p4 w' (Pq.mk g q K al') k h).same (LL_set S T D j _)⟩
      obtain ⟨P, pr, pl, pn, pc⟩ := HAT.out wr C all HCR.out HPJ.out
      have HH1 : Hid (∀ y, Below wr.heap.size wr y → Calls Tryz.prog 28 #[.pointer (some ⟨g, 0, none⟩)] y fun e w' => e = .returned (.int .i64 (Cx.fd K all).2.length) ∧ w' = y) := fun y hb => pr_held (pr.ext hb)
      have HH2 : Hid (∀ y, Below wr.heap.size wr y → Calls Tryz.prog 29 #[.pointer (some ⟨q, 0, none⟩)] y fun e w' => e = .returned (.int .i64 (Cx.fd K all).2.length) ∧ Below y.heap.size y w') := fun y hb => pr_rheld (pr.ext hb) (by have := HAL.out; omega)
      have hne : (((Cx.fd K all).2.length : Int) != ((Cx.fd K all).2.length : Int)) = false := by simp
      clear pr pl pn pc
      obtain ⟨_, _, c2, c3⟩ := HES.out wr KW.out
      generalize (Cx.fd K all).2.length = hn at *
      go_upto_region 4 with fail
      go_cut [32] from 16 to 32 (fun x wF => x = .bool false ∧ Hid (Below wr.heap.size wr wF))
      case first =>
        refine wp_region_held_drew (S := fun w' => w'.cell? ⟨c, 0, none⟩ = some (.slice (some ⟨sb, 0, none⟩) C0.length sc) ∧ w'.cell? ⟨c, 1, none⟩ = some (.slice (some ⟨rb, 0, none⟩) C0.length rc) ∧ w'.cell? ⟨sb, j, none⟩ = some (.pointer (some ⟨g, 0, none⟩)) ∧ w'.cell? ⟨rb, j, none⟩ = some (.pointer (some ⟨q, 0, none⟩))) (by kernel_rfl) (HES.out _ (KW.out.trans (Kps.of_below (fun _ => False) (Below.refl _ _).drew) (fun _ _ e => e.elim))) (fun hHeld => ?_)
        refine wpAnyH_take (i := 0) (oi := _) (v := ?_) rfl (by kernel_rfl) (by kernel_rfl) (by kernel_rfl) (fun _ _ _ h => h) (Or.inl ⟨by rfl, ?_⟩) (by assumption) ?_
        rotate_left 1
        · intro wq hSw; (try dsimp only at hSw); go_simp; try (with_reducible rfl)
        try simp only [Act.put, List.getElem_toArray, List.getElem_cons_zero, List.setIfInBounds_toArray, List.set_cons_zero, List.set_cons_succ]
        refine wpAnyH_take (i := 1) (oi := _) (v := ?_) rfl (by kernel_rfl) (by kernel_rfl) (by kernel_rfl) (fun _ _ _ h => h) (Or.inl ⟨by rfl, ?_⟩) (by assumption) ?_
        rotate_left 1
        · intro wq hSw; (try dsimp only at hSw); go_simp; try (with_reducible rfl)
        try simp only [Act.put, List.getElem_toArray, List.getElem_cons_succ, List.getElem_cons_zero, List.setIfInBounds_toArray, List.set_cons_zero, List.set_cons_succ]
        refine wpAnyH_take (i := 2) (oi := _) (v := ?_) rfl (by kernel_rfl) (by kernel_rfl) (by kernel_rfl) (fun _ _ _ h => h) (Or.inl ⟨by rfl, ?_⟩) (by assumption) ?_
        rotate_left 1
        · intro wq hSw; (try dsimp only at hSw); go_simp; try (with_reducible rfl)
        try simp only [Act.put, List.getElem_toArray, List.getElem_cons_succ, List.getElem_cons_zero, List.setIfInBounds_toArray, List.set_cons_zero, List.set_cons_succ]
        refine wpAnyH_take (i := 3) (oi := _) (v := ?_) rfl (by kernel_rfl) (by kernel_rfl) (by kernel_rfl) (fun _ _ _ h => h) (Or.inl ⟨by rfl, ?_⟩) (by assumption) ?_
        rotate_left 1
        · intro wq hSw; (try dsimp only at hSw); go_simp; try (with_reducible rfl)
        try simp only [Act.put, List.getElem_toArray, List.getElem_cons_succ, List.getElem_cons_zero, List.setIfInBounds_toArray, List.set_cons_zero, List.set_cons_succ]
        refine wpAnyH_take (i := 4) (oi := _) (v := ?_) rfl (by kernel_rfl) (by kernel_rfl) (by kernel_rfl) (fun _ _ _ h => h) (Or.inl ⟨by rfl, ?_⟩) (by assumption) ?_
        rotate_left 1
        · intro wq hSw; (try dsimp only at hSw); go_simp; try (with_reducible rfl)
        try simp only [Act.put, List.getElem_toArray, List.getElem_cons_succ, List.getElem_cons_zero, List.setIfInBounds_toArray, List.set_cons_zero, List.set_cons_succ]
        refine wpAnyH_take (i := 5) (oi := _) (v := ?_) rfl (by kernel_rfl) (by kernel_rfl) (by kernel_rfl) (fun _ _ _ h => h) (Or.inl ⟨by rfl, ?_⟩) (by assumption) ?_
        rotate_left 1
        · intro wq hSw; (try dsimp only at hSw); go_simp; try (with_reducible rfl)
        try simp only [Act.put, List.getElem_toArray, List.getElem_cons_succ, List.getElem_cons_zero, List.setIfInBounds_toArray, List.set_cons_zero, List.set_cons_succ]
        refine wpAnyH_take (i := 6) (oi := _) (v := ?_) rfl (by kernel_rfl) (by kernel_rfl) (by kernel_rfl) (fun _ _ _ h => h) (Or.inl ⟨by rfl, ?_⟩) (by assumption) ?_
        rotate_left 1
        · intro wq hSw; (try dsimp only at hSw); go_simp; try (with_reducible rfl)
        try simp only [Act.put, List.getElem_toArray, List.getElem_cons_succ, List.getElem_cons_zero, List.setIfInBounds_toArray, List.set_cons_zero, List.set_cons_succ]
        refine wpAnyH_take (i := 8) (oi := _) (v := ?_) rfl (by kernel_rfl) (by kernel_rfl) (by kernel_rfl) (fun _ _ _ h => h) (Or.inl ⟨by rfl, ?_⟩) (by assumption) ?_
        rotate_left 1
        · intro wq hSw; (try dsimp only at hSw); go_simp; try (with_reducible rfl)
        try simp only [Act.put, List.getElem_toArray, List.getElem_cons_succ, List.getElem_cons_zero, List.setIfInBounds_toArray, List.set_cons_zero, List.set_cons_succ]
        refine wpAnyH_take (i := 9) (oi := _) (v := ?_) rfl (by kernel_rfl) (by kernel_rfl) (by kernel_rfl) (fun _ _ _ h => h) (Or.inl ⟨by rfl, ?_⟩) (by assumption) ?_
        rotate_left 1
        · intro wq hSw; (try dsimp only at hSw); go_simp; try (with_reducible rfl)
        try simp only [Act.put, List.getElem_toArray, List.getElem_cons_succ, List.getElem_cons_zero, List.setIfInBounds_toArray, List.set_cons_zero, List.set_cons_succ]
        refine wpAnyH_take (i := 10) (oi := _) (v := ?_) rfl (by kernel_rfl) (by kernel_rfl) (by kernel_rfl) (fun _ _ _ h => h) (Or.inl ⟨by rfl, ?_⟩) (by assumption) ?_
        rotate_left 1
        · intro wq hSw; (try dsimp only at hSw); go_simp; try (with_reducible rfl)
        try simp only [Act.put, List.getElem_toArray, List.getElem_cons_succ, List.getElem_cons_zero, List.setIfInBounds_toArray, List.set_cons_zero, List.set_cons_succ]
        refine wpAnyH_take (i := 11) (oi := _) (v := ?_) rfl (by kernel_rfl) (by kernel_rfl) (by kernel_rfl) (fun _ _ _ h => h) (Or.inl ⟨by rfl, ?_⟩) (by assumption) ?_
        rotate_left 1
        · intro wq hSw; (try dsimp only at hSw); go_simp; try (with_reducible rfl)
        try simp only [Act.put, List.getElem_toArray, List.getElem_cons_succ, List.getElem_cons_zero, List.setIfInBounds_toArray, List.set_cons_zero, List.set_cons_succ]
        refine wpAnyH_take (i := 12) (oi := _) (v := ?_) rfl (by kernel_rfl) (by kernel_rfl) (by kernel_rfl) (fun _ _ _ h => h) (Or.inl ⟨by rfl, ?_⟩) (by assumption) ?_
        rotate_left 1
        · intro wq hSw; (try dsimp only at hSw); go_simp; try (with_reducible rfl)
        try simp only [Act.put, List.getElem_toArray, List.getElem_cons_succ, List.getElem_cons_zero, List.setIfInBounds_toArray, List.set_cons_zero, List.set_cons_succ]
        refine wpAnyH_take (i := 13) (oi := _) (v := ?_) rfl (by kernel_rfl) (by kernel_rfl) (by kernel_rfl) (fun _ _ _ h => h) (Or.inl ⟨by rfl, ?_⟩) (by assumption) ?_
        rotate_left 1
        · intro wq hSw; (try dsimp only at hSw); go_simp; try (with_reducible rfl)
        try simp only [Act.put, List.getElem_toArray, List.getElem_cons_succ, List.getElem_cons_zero, List.setIfInBounds_toArray, List.set_cons_zero, List.set_cons_succ]
        refine wpAnyH_take (i := 14) (oi := _) (v := ?_) rfl (by kernel_rfl) (by kernel_rfl) (by kernel_rfl) (fun _ _ _ h => h) (Or.inl ⟨by rfl, ?_⟩) (by assumption) ?_
        rotate_left 1
        · intro wq hSw; (try dsimp only at hSw); go_simp; try (with_reducible rfl)
        try simp only [Act.put, List.getElem_toArray, List.getElem_cons_succ, List.getElem_cons_zero, List.setIfInBounds_toArray, List.set_cons_zero, List.set_cons_succ]
        refine wpAnyH_ready (rs := [7]) (by kernel_rfl) (by simp) ?_
        refine AllReadyH.cons (o := _) rfl (fun K hK => ?_) AllReadyH.nil
        go_simp
        refine (HH1.out _ (Below.refl _ _).drew).mono ?_
        rintro e h7 ⟨rfl, h9⟩
        subst h9
        (try dsimp only)
        refine hK.out _ _ ?_ (fun hHeld => ?_)
        · exact HES.out _ (KW.out.trans (Kps.of_below (fun _ => False) (Below.refl _ _).drew) (fun _ _ e => e.elim))
        clear hK K
        try simp only [Act.put, List.getElem_toArray, List.getElem_cons_succ, List.getElem_cons_zero, List.setIfInBounds_toArray, List.set_cons_zero, List.set_cons_succ]
        refine wpAnyH_ready (rs := [15]) (by kernel_rfl) (by simp) ?_
        refine AllReadyH.cons (o := _) rfl (fun K hK => ?_) AllReadyH.nil
        go_simp
        refine (HH2.out _ (Below.refl _ _).drew).mono ?_
        rintro e hw ⟨rfl, hb⟩
        have HBH : Hid (Below wr.heap.size wr hw) := ext_trans (Below.refl _ _).drew hb
        clear hb
        (try dsimp only)
        refine hK.out _ _ ?_ (fun hHeld => ?_)
        · exact HES.out _ (KW.out.trans (Kps.of_below (fun _ => False) HBH.out) (fun _ _ e => e.elim))
        clear hK K
        try simp only [Act.put, List.getElem_toArray, List.getElem_cons_succ, List.getElem_cons_zero, List.setIfInBounds_toArray, List.set_cons_zero, List.set_cons_succ]
        refine wpAnyH_take (i := 16) (oi := _) (v := ?_) rfl (by kernel_rfl) (by kernel_rfl) (by kernel_rfl) (fun _ _ _ h => h) (Or.inl ⟨by rfl, ?_⟩) (by assumption) ?_
        rotate_left 1
        · intro wq hSw; (try dsimp only at hSw); go_simp; try (with_reducible rfl)
        try simp only [Act.put, List.getElem_toArray, List.getElem_cons_succ, List.getElem_cons_zero, List.setIfInBounds_toArray, List.set_cons_zero, List.set_cons_succ]
        refine wpAnyH_done (by kernel_rfl) ?_ _
        go_wp2_with fail
        go_meet
        case rel => exact ⟨rfl, HBH.out⟩
      case rest =>
        obtain ⟨rfl, HBH⟩ := hcut
        rename World => y2
        have KW2 : Hid (Kps (fun k => ¬ N k) w y2) := KW.out.trans (Kps.of_below (fun _ => False) HBH.out) (fun _ _ e => e.elim)
        have CR2 := hidIt (HCR.out.ext HBH.out)
        clear HH1 HH2 hne c0 c1 c2 c3
        obtain ⟨d, hd⟩ : ∃ d : List Int, d = [130 + (j : Int), 195] := ⟨_, rfl⟩
        have s2 : IntKind.i64.wrap (130 + (j : Int)) = 130 + (j : Int) := by rw [IntKind.wrap_i64]; omega
        have s4 : IntKind.u8.wrap (130 + (j : Int)) = 130 + (j : Int) := by rw [IntKind.wrap_u8]; omega
        have HDL : Hid (d.length = 2) := by rw [hd]; rfl
        have HDB : Hid (Byt d) := by rw [hd]; intro z hz; simp at hz; omega
        have hdm : (#[.int .u8 (130 + (j : Int)), .int .u8 195] : Array Value) = (d.map (Value.int .u8)).toArray := by rw [hd]; rfl
        go_upto_region 7 with fail
        try rw [hdm]
        obtain ⟨y3, hy3⟩ : ∃ y3, y3 = y2.alloc (.cells (d.map (Value.int .u8)).toArray 5) := ⟨_, rfl⟩
        rw [← hy3]
        have RL3 : Hid (Rd .u8 y3 (.slice (some ⟨y2.heap.size, 0, none⟩) 2 2) d) := by
          have := rd_lit .u8 y2 5 d (by rw [HDL.out]; unfold maxLen; omega)
          rw [← hy3, HDL.out] at this
          exact this
        have B3 : Hid (Below y2.heap.size y2 y3) := by unfold Hid; rw [hy3]; exact ext_alloc (Below.refl _ _) _
        have Z3 : Hid (y2.heap.size < y3.heap.size) := by unfold Hid; rw [hy3]; simp
        clear hy3 hd hdm
        have KW3 : Hid (Kps (fun k => ¬ N k) w y3) := KW2.out.trans (Kps.of_below (fun _ => False) B3.out) (fun _ _ e => e.elim)
        have HCB : Hid (∀ y, Below y3.heap.size y3 y → Calls Tryz.prog 15 #[.slice (some ⟨y2.heap.size, 0, none⟩) 2 2] y fun e w' => ∃ v', e = .returned v' ∧ w'.ownsRow y.heap.size 5 1 v' d.length (d.map (Value.int .u8)) ∧ Below y.heap.size y w') := fun y hb => copyBytes_any _ d y (RL3.out.ext hb) (by rw [HDL.out]; omega)
        have CR3 : Hid (Crw y3 (fun k => N k ∨ k = y2.heap.size) (LL S T C)) := by
          refine CR2.out.turn (Kps.of_below _ B3.out) (fun k e => ?_)
          rcases e with e | e
          · exact ⟨.inl e, Nat.lt_of_lt_of_le (CR2.out.1 k e) B3.out.size⟩
          · subst e; exact ⟨.inr (Nat.le_refl _), Z3.out⟩
        have HFF : Hid (∀ (y4 : World) (v4 : Value), Below y3.heap.size y3 y4 → y4.ownsRow y3.drew.heap.size 5 1 v4 d.length (d.map (Value.int .u8)) → ∃ P : Nat → Prop, (∀ k, P k → k < y4.heap.size ∧ k ≠ y2.heap.size ∧ ¬ N k) ∧ (∀ y6, Kps P y4 y6 → Pr (fun k => P k ∨ y4.heap.size ≤ k) y6 g q K (all ++ d) → Crw y6 N (LL S T (C.set j (Pq.mk g q K (all ++ d))))) ∧ Calls Tryz.prog 14 #[.pointer (some ⟨g, 0, none⟩), v4] y4 fun e w' => ∃ v', e = .returned v' ∧ w'.ownsRow y4.heap.size 3 1 v' ((Cx.fd K (all ++ d)).1.drop (Cx.fd K all).1.length).length (((Cx.fd K (all ++ d)).1.drop (Cx.fd K all).1.length).map (Value.int .i64)) ∧ Ph P w' g q K all d ∧ y4.grownBy w' (some g)) := fun y4 v4 hb4 ho4 => by
          obtain ⟨P, p1, p2, p3, p4⟩ := (CR3.out.ext hb4).at (j + 2) (Pq.mk g q K all) HPJ.out
          exact ⟨P, fun k e => ⟨p2 k e, fun e2 => p3 k e (.inr e2), fun e2 => p3 k e (.inl e2)⟩, fun y6 k6 h6 => ((p4 y6 (Pq.mk g q K (all ++ d)) k6 h6).same (LL_set S T C j _)).less (fun k e => .inl e), pr_feed p1 (Rd.of_own ho4) (Sl.of_own ho4) HDB.out (by rw [HDL.out]; omega)⟩
        generalize hZS : (Cx.fd K (all ++ d)).1.drop (Cx.fd K all).1.length = zs at *
        refine wp_region_held_drew (S := fun w' => w'.cell? ⟨c, 0, none⟩ = some (.slice (some ⟨sb, 0, none⟩) C0.length sc) ∧ w'.cell? ⟨c, 1, none⟩ = some (.slice (some ⟨rb, 0, none⟩) C0.length rc) ∧ w'.cell? ⟨sb, j, none⟩ = some (.pointer (some ⟨g, 0, none⟩)) ∧ w'.cell? ⟨rb, j, none⟩ = some (.pointer (some ⟨q, 0, none⟩))) (by kernel_rfl) (HES.out _ (KW3.out.trans (Kps.of_below (fun _ => False) (Below.refl _ _).drew) (fun _ _ e => e.elim))) (fun hHeld => ?_)
        refine wpAnyH_take (i := 0) (oi := _) (v := ?_) rfl (by kernel_rfl) (by kernel_rfl) (by kernel_rfl) (fun _ _ _ h => h) (Or.inl ⟨by rfl, ?_⟩) (by assumption) ?_
        rotate_left 1
        · intro wq hSw; (try dsimp only at hSw); go_simp; try (with_reducible rfl)
        try simp only [Act.put, List.getElem_toArray, List.getElem_cons_zero, List.setIfInBounds_toArray, List.set_cons_zero, List.set_cons_succ]
        refine wpAnyH_take (i := 1) (oi := _) (v := ?_) rfl (by kernel_rfl) (by kernel_rfl) (by kernel_rfl) (fun _ _ _ h => h) (Or.inl ⟨by rfl, ?_⟩) (by assumption) ?_
        rotate_left 1
        · intro wq hSw; (try dsimp only at hSw); go_simp; try (with_reducible rfl)
        try simp only [Act.put, List.getElem_toArray, List.getElem_cons_succ, List.getElem_cons_zero, List.setIfInBounds_toArray, List.set_cons_zero, List.set_cons_succ]
        refine wpAnyH_take (i := 2) (oi := _) (v := ?_) rfl (by kernel_rfl) (by kernel_rfl) (by kernel_rfl) (fun _ _ _ h => h) (Or.inl ⟨by rfl, ?_⟩) (by assumption) ?_
        rotate_left 1
        · intro wq hSw; (try dsimp only at hSw); go_simp; try (with_reducible rfl)
        try simp only [Act.put, List.getElem_toArray, List.getElem_cons_succ, List.getElem_cons_zero, List.setIfInBounds_toArray, List.set_cons_zero, List.set_cons_succ]
        refine wpAnyH_take (i := 3) (oi := _) (v := ?_) rfl (by kernel_rfl) (by kernel_rfl) (by kernel_rfl) (fun _ _ _ h => h) (Or.inl ⟨by rfl, ?_⟩) (by assumption) ?_
        rotate_left 1
        · intro wq hSw; (try dsimp only at hSw); go_simp; try (with_reducible rfl)
        try simp only [Act.put, List.getElem_toArray, List.getElem_cons_succ, List.getElem_cons_zero, List.setIfInBounds_toArray, List.set_cons_zero, List.set_cons_succ]
        refine wpAnyH_take (i := 4) (oi := _) (v := ?_) rfl (by kernel_rfl) (by kernel_rfl) (by kernel_rfl) (fun _ _ _ h => h) (Or.inl ⟨by rfl, ?_⟩) (by assumption) ?_
        rotate_left 1
        · intro wq hSw; (try dsimp only at hSw); go_simp; try (with_reducible rfl)
        try simp only [Act.put, List.getElem_toArray, List.getElem_cons_succ, List.getElem_cons_zero, List.setIfInBounds_toArray, List.set_cons_zero, List.set_cons_succ]
        refine wpAnyH_take (i := 5) (oi := _) (v := ?_) rfl (by kernel_rfl) (by kernel_rfl) (by kernel_rfl) (fun _ _ _ h => h) (Or.inl ⟨by rfl, ?_⟩) (by assumption) ?_
        rotate_left 1
        · intro wq hSw; (try dsimp only at hSw); go_simp; try (with_reducible rfl)
        try simp only [Act.put, List.getElem_toArray, List.getElem_cons_succ, List.getElem_cons_zero, List.setIfInBounds_toArray, List.set_cons_zero, List.set_cons_succ]
        refine wpAnyH_take (i := 6) (oi := _) (v := ?_) rfl (by kernel_rfl) (by kernel_rfl) (by kernel_rfl) (fun _ _ _ h => h) (Or.inl ⟨by rfl, ?_⟩) (by assumption) ?_
        rotate_left 1
        · intro wq hSw; (try dsimp only at hSw); go_simp; try (with_reducible rfl)
        try simp only [Act.put, List.getElem_toArray, List.getElem_cons_succ, List.getElem_cons_zero, List.setIfInBounds_toArray, List.set_cons_zero, List.set_cons_succ]
        refine wpAnyH_take (i := 7) (oi := _) (v := ?_) rfl (by kernel_rfl) (by kernel_rfl) (by kernel_rfl) (fun _ _ _ h => h) (Or.inl ⟨by rfl, ?_⟩) (by assumption) ?_
        rotate_left 1
        · intro wq hSw; (try dsimp only at hSw); go_simp; try (with_reducible rfl)
        try simp only [Act.put, List.getElem_toArray, List.getElem_cons_succ, List.getElem_cons_zero, List.setIfInBounds_toArray, List.set_cons_zero, List.set_cons_succ]
        refine wpAnyH_ready (rs := [8]) (by kernel_rfl) (by simp) ?_
        refine AllReadyH.cons (o := _) rfl (fun K hK => ?_) AllReadyH.nil
        go_simp
        refine (HCB.out _ (Below.refl _ _).drew).mono ?_
        rintro e y4 ⟨v4, rfl, ho4, hb4⟩
        have B4 : Hid (Below y3.heap.size y3 y4) := ext_trans (Below.refl _ _).drew hb4
        obtain ⟨P, hP, hJ, hF⟩ := HFF.out y4 v4 B4.out ho4
        have HPP := hidIt hP
        have HJJ := hidIt hJ
        have HFC := hidIt hF
        clear hP hJ hF ho4 hb4
        (try dsimp only)
        refine hK.out _ _ ?_ (fun hHeld => ?_)
        · exact HES.out _ (KW3.out.trans (Kps.of_below (fun _ => False) B4.out) (fun _ _ e => e.elim))
        clear hK K
        try simp only [Act.put, List.getElem_toArray, List.getElem_cons_succ, List.getElem_cons_zero, List.setIfInBounds_toArray, List.set_cons_zero, List.set_cons_succ]
        refine wpAnyH_ready (rs := [9]) (by kernel_rfl) (by simp) ?_
        refine AllReadyH.cons (o := _) rfl (fun K hK => ?_) AllReadyH.nil
        go_simp
        refine HFC.out.mono ?_
        rintro e y5 ⟨l, rfl, ho5, hp5, hg5⟩
        have O5 := hidIt ho5
        have P5 := hidIt hp5
        have G5 := hidIt hg5
        have K45 : Hid (Kps P y4 y5) := Kps.grown G5.out (fun k e _ => by cases e; exact P5.out.2.2.1)
        have KW5 : Hid (Kps (fun k => ¬ N k) w y5) := (KW3.out.trans (Kps.of_below (fun _ => False) B4.out) (fun _ _ e => e.elim)).trans K45.out (fun k _ e => (HPP.out k e).2.2)
        clear ho5 hp5 hg5
        (try dsimp only)
        refine hK.out _ _ ?_ (fun hHeld => ?_)
        · exact HES.out _ KW5.out
        clear hK K
        try simp only [Act.put, List.getElem_toArray, List.getElem_cons_succ, List.getElem_cons_zero, List.setIfInBounds_toArray, List.set_cons_zero, List.set_cons_succ]
        refine wpAnyH_take (i := 10) (oi := _) (v := ?_) rfl (by kernel_rfl) (by kernel_rfl) (by kernel_rfl) (fun _ _ _ h => h) (Or.inl ⟨by rfl, ?_⟩) (by assumption) ?_
        rotate_left 1
        · intro wq hSw; (try dsimp only at hSw); go_simp; try (with_reducible rfl)
        try simp only [Act.put, List.getElem_toArray, List.getElem_cons_succ, List.getElem_cons_zero, List.setIfInBounds_toArray, List.set_cons_zero, List.set_cons_succ]
        refine wpAnyH_done (by kernel_rfl) ?_ _
        skip
        have HF6 : Hid (∀ y : World, y.heap = y5.heap → y.os = y5.os → y.tape = y5.tape → y.output = y5.output → Calls Tryz.prog 17 #[.pointer (some ⟨q, 0, none⟩), .slice (some ⟨y2.heap.size, 0, none⟩) 2 2] y fun e w' => ∃ v', e = .returned v' ∧ Rd .i64 w' v' zs ∧ Pr (fun k => P k ∨ y5.heap.size ≤ k) w' g q K (all ++ d) ∧ Kps (fun k => P k ∧ k ≠ g) y5 w') := fun y h1 h2 h3 h4 => by
          have hb : Below y5.heap.size y5 y := ⟨h2, h3, h4, by rw [h1]; exact Nat.le_refl _, fun k hk => by rw [h1]⟩
          have ph : Ph P y g q K all d := ⟨P5.out.1, P5.out.2.1, P5.out.2.2.1, P5.out.2.2.2.1.ext hb, P5.out.2.2.2.2.ext hb⟩
          refine (ph_feed (v := .slice (some ⟨y2.heap.size, 0, none⟩) 2 2) ph (fun w' k => rd_kps (RL3.out.ext B4.out) ((K45.out.trans (Kps.of_below (fun _ => False) hb) (fun _ _ e => e.elim)).trans k (fun _ _ e => e)) (fun b off n c e _ e2 => by cases e; exact (HPP.out _ e2).2.1 rfl)) (by have := HAL.out; rw [HDL.out]; omega)).mono ?_
          rintro e w' ⟨v', rfl, a1, a2, a3⟩
          rw [hZS] at a1
          exact ⟨v', rfl, a1, by rw [h1] at a2; exact a2, (Kps.of_below _ hb).trans a3 (fun _ _ e => e)⟩
        clear HFF HCB HFC
        have HSI : Hid (∀ y6 m, Kps (fun k => P k ∧ k ≠ g) y5 y6 → Rd .i64 y6 m zs → Calls Tryz.prog 16 #[l, m] y6 fun e w' => e = .returned (.bool true) ∧ Below y6.heap.size y6 w') := fun y6 m k h => sameInts_any _ _ _ y6 (rdi_stay O5.out k (fun i h1 _ e => by have := (HPP.out _ e.1).1; omega)) h
        obtain ⟨hm, hhm⟩ : ∃ hm : Nat, hm = (Cx.fd K (all ++ d)).2.length := ⟨_, rfl⟩
        have HHM := hidIt hhm
        clear hhm
        have hne2 : ((hm : Int) != (hm : Int)) = false := by simp
        have c5 := HES.out _ KW5.out
        go_upto_region 8 with fail
        go_cut [77] from 47 to 77 (fun x wF => x = .bool false ∧ Hid (Crw wF N (LL S T (C.set j (Pq.mk g q K (all ++ d)))) ∧ Kps (fun k => ¬ N k) w wF))
        case first =>
          refine wp_region_held_drew (S := fun w' => w'.cell? ⟨c, 0, none⟩ = some (.slice (some ⟨sb, 0, none⟩) C0.length sc) ∧ w'.cell? ⟨c, 1, none⟩ = some (.slice (some ⟨rb, 0, none⟩) C0.length rc) ∧ w'.cell? ⟨sb, j, none⟩ = some (.pointer (some ⟨g, 0, none⟩)) ∧ w'.cell? ⟨rb, j, none⟩ = some (.pointer (some ⟨q, 0, none⟩))) (by kernel_rfl) (HES.out _ (KW5.out.trans (Kps.of_below (fun _ => False) (Below.refl _ _).drew) (fun _ _ e => e.elim))) (fun hHeld => ?_)
          refine wpAnyH_take (i := 0) (oi := _) (v := ?_) rfl (by kernel_rfl) (by kernel_rfl) (by kernel_rfl) (fun _ _ _ h => h) (Or.inl ⟨by rfl, ?_⟩) (by assumption) ?_
          rotate_left 1
          · intro wq hSw; (try dsimp only at hSw); go_simp; try (with_reducible rfl)
          try simp only [Act.put, List.getElem_toArray, List.getElem_cons_zero, List.setIfInBounds_toArray, List.set_cons_zero, List.set_cons_succ]
          refine wpAnyH_take (i := 1) (oi := _) (v := ?_) rfl (by kernel_rfl) (by kernel_rfl) (by kernel_rfl) (fun _ _ _ h => h) (Or.inl ⟨by rfl, ?_⟩) (by assumption) ?_
          rotate_left 1
          · intro wq hSw; (try dsimp only at hSw); go_simp; try (with_reducible rfl)
          try simp only [Act.put, List.getElem_toArray, List.getElem_cons_succ, List.getElem_cons_zero, List.setIfInBounds_toArray, List.set_cons_zero, List.set_cons_succ]
          refine wpAnyH_take (i := 2) (oi := _) (v := ?_) rfl (by kernel_rfl) (by kernel_rfl) (by kernel_rfl) (fun _ _ _ h => h) (Or.inl ⟨by rfl, ?_⟩) (by assumption) ?_
          rotate_left 1
          · intro wq hSw; (try dsimp only at hSw); go_simp; try (with_reducible rfl)
          try simp only [Act.put, List.getElem_toArray, List.getElem_cons_succ, List.getElem_cons_zero, List.setIfInBounds_toArray, List.set_cons_zero, List.set_cons_succ]
          refine wpAnyH_take (i := 3) (oi := _) (v := ?_) rfl (by kernel_rfl) (by kernel_rfl) (by kernel_rfl) (fun _ _ _ h => h) (Or.inl ⟨by rfl, ?_⟩) (by assumption) ?_
          rotate_left 1
          · intro wq hSw; (try dsimp only at hSw); go_simp; try (with_reducible rfl)
          try simp only [Act.put, List.getElem_toArray, List.getElem_cons_succ, List.getElem_cons_zero, List.setIfInBounds_toArray, List.set_cons_zero, List.set_cons_succ]
          refine wpAnyH_take (i := 4) (oi := _) (v := ?_) rfl (by kernel_rfl) (by kernel_rfl) (by kernel_rfl) (fun _ _ _ h => h) (Or.inl ⟨by rfl, ?_⟩) (by assumption) ?_
          rotate_left 1
          · intro wq hSw; (try dsimp only at hSw); go_simp; try (with_reducible rfl)
          try simp only [Act.put, List.getElem_toArray, List.getElem_cons_succ, List.getElem_cons_zero, List.setIfInBounds_toArray, List.set_cons_zero, List.set_cons_succ]
          refine wpAnyH_take (i := 5) (oi := _) (v := ?_) rfl (by kernel_rfl) (by kernel_rfl) (by kernel_rfl) (fun _ _ _ h => h) (Or.inl ⟨by rfl, ?_⟩) (by assumption) ?_
          rotate_left 1
          · intro wq hSw; (try dsimp only at hSw); go_simp; try (with_reducible rfl)
          try simp only [Act.put, List.getElem_toArray, List.getElem_cons_succ, List.getElem_cons_zero, List.setIfInBounds_toArray, List.set_cons_zero, List.set_cons_succ]
          refine wpAnyH_take (i := 6) (oi := _) (v := ?_) rfl (by kernel_rfl) (by kernel_rfl) (by kernel_rfl) (fun _ _ _ h => h) (Or.inl ⟨by rfl, ?_⟩) (by assumption) ?_
          rotate_left 1
          · intro wq hSw; (try dsimp only at hSw); go_simp; try (with_reducible rfl)
          try simp only [Act.put, List.getElem_toArray, List.getElem_cons_succ, List.getElem_cons_zero, List.setIfInBounds_toArray, List.set_cons_zero, List.set_cons_succ]
          refine wpAnyH_take (i := 7) (oi := _) (v := ?_) rfl (by kernel_rfl) (by kernel_rfl) (by kernel_rfl) (fun _ _ _ h => h) (Or.inl ⟨by rfl, ?_⟩) (by assumption) ?_
          rotate_left 1
          · intro wq hSw; (try dsimp only at hSw); go_simp; try (with_reducible rfl)
          try simp only [Act.put, List.getElem_toArray, List.getElem_cons_succ, List.getElem_cons_zero, List.setIfInBounds_toArray, List.set_cons_zero, List.set_cons_succ]
          refine wpAnyH_take (i := 8) (oi := _) (v := ?_) rfl (by kernel_rfl) (by kernel_rfl) (by kernel_rfl) (fun _ _ _ h => h) (Or.inl ⟨by rfl, ?_⟩) (by assumption) ?_
          rotate_left 1
          · intro wq hSw; (try dsimp only at hSw); go_simp; try (with_reducible rfl)
          try simp only [Act.put, List.getElem_toArray, List.getElem_cons_succ, List.getElem_cons_zero, List.setIfInBounds_toArray, List.set_cons_zero, List.set_cons_succ]
          refine wpAnyH_ready (rs := [9]) (by kernel_rfl) (by simp) ?_
          refine AllReadyH.cons (o := _) rfl (fun K hK => ?_) AllReadyH.nil
          go_simp
          refine (HF6.out y5.drew rfl rfl rfl rfl).mono ?_
          rintro e y6 ⟨m, rfl, hm6, hp6, hk6⟩
          have Z6 := hidIt (HSI.out y6 m hk6 hm6)
          have P6 := hidIt hp6
          have K56 := hidIt hk6
          have KW6 : Hid (Kps (fun k => ¬ N k) w y6) := KW5.out.trans K56.out (fun k _ e => (HPP.out k e.1).2.2)
          clear hm6 hp6 hk6
          (try dsimp only)
          refine hK.out _ _ ?_ (fun hHeld => ?_)
          · exact HES.out _ KW6.out
          clear hK K
          try simp only [Act.put, List.getElem_toArray, List.getElem_cons_succ, List.getElem_cons_zero, List.setIfInBounds_toArray, List.set_cons_zero, List.set_cons_succ]
          refine wpAnyH_ready (rs := [10]) (by kernel_rfl) (by simp) ?_
          refine AllReadyH.cons (o := _) rfl (fun K hK => ?_) AllReadyH.nil
          go_simp
          refine Z6.out.mono ?_
          rintro e y7 ⟨rfl, hb7⟩
          have B7 := hidIt hb7
          clear hb7
          have KW7 : Hid (Kps (fun k => ¬ N k) w y7) := KW6.out.trans (Kps.of_below (fun _ => False) B7.out) (fun _ _ e => e.elim)
          have CR6 := hidIt (HJJ.out y6 (K45.out.trans K56.out (fun _ _ e => e.1)) (P6.out.mono (fun k _ e => e.imp id (fun h => by have := G5.out.size; omega))))
          have CR7 := hidIt (CR6.out.ext B7.out)
          have P7 := hidIt (P6.out.ext B7.out)
          have HX1 : Hid (∀ y, Below y7.heap.size y7 y → Calls Tryz.prog 28 #[.pointer (some ⟨g, 0, none⟩)] y fun e w' => e = .returned (.int .i64 hm) ∧ w' = y) := fun y hb => by rw [HHM.out]; exact pr_held (P7.out.ext hb)
          have HX2 : Hid (∀ y, Below y7.heap.size y7 y → Calls Tryz.prog 29 #[.pointer (some ⟨q, 0, none⟩)] y fun e w' => e = .returned (.int .i64 hm) ∧ Below y.heap.size y w') := fun y hb => by rw [HHM.out]; exact pr_rheld (P7.out.ext hb) (by have := HAL.out; have := HDL.out; rw [List.length_append]; omega)
          (try dsimp only)
          refine hK.out _ _ ?_ (fun hHeld => ?_)
          · exact HES.out _ KW7.out
          clear hK K
          try simp only [Act.put, List.getElem_toArray, List.getElem_cons_succ, List.getElem_cons_zero, List.setIfInBounds_toArray, List.set_cons_zero, List.set_cons_succ]
          refine wpAnyH_take (i := 11) (oi := _) (v := ?_) rfl (by kernel_rfl) (by kernel_rfl) (by kernel_rfl) (fun _ _ _ h => h) (Or.inl ⟨by rfl, ?_⟩) (by assumption) ?_
          rotate_left 1
          · intro wq hSw; (try dsimp only at hSw); go_simp; try (with_reducible rfl)
          try simp only [Act.put, List.getElem_toArray, List.getElem_cons_succ, List.getElem_cons_zero, List.setIfInBounds_toArray, List.set_cons_zero, List.set_cons_succ]
          refine wpAnyH_take (i := 12) (oi := _) (v := ?_) rfl (by kernel_rfl) (by kernel_rfl) (by kernel_rfl) (fun _ _ _ h => h) (Or.inl ⟨by rfl, ?_⟩) (by assumption) ?_
          rotate_left 1
          · intro wq hSw; (try dsimp only at hSw); go_simp; try (with_reducible rfl)
          try simp only [Act.put, List.getElem_toArray, List.getElem_cons_succ, List.getElem_cons_zero, List.setIfInBounds_toArray, List.set_cons_zero, List.set_cons_succ]
          refine wpAnyH_take (i := 13) (oi := _) (v := ?_) rfl (by kernel_rfl) (by kernel_rfl) (by kernel_rfl) (fun _ _ _ h => h) (Or.inl ⟨by rfl, ?_⟩) (by assumption) ?_
          rotate_left 1
          · intro wq hSw; (try dsimp only at hSw); go_simp; try (with_reducible rfl)
          try simp only [Act.put, List.getElem_toArray, List.getElem_cons_succ, List.getElem_cons_zero, List.setIfInBounds_toArray, List.set_cons_zero, List.set_cons_succ]
          refine wpAnyH_take (i := 14) (oi := _) (v := ?_) rfl (by kernel_rfl) (by kernel_rfl) (by kernel_rfl) (fun _ _ _ h => h) (Or.inl ⟨by rfl, ?_⟩) (by assumption) ?_
          rotate_left 1
          · intro wq hSw; (try dsimp only at hSw); go_simp; try (with_reducible rfl)
          try simp only [Act.put, List.getElem_toArray, List.getElem_cons_succ, List.getElem_cons_zero, List.setIfInBounds_toArray, List.set_cons_zero, List.set_cons_succ]
          refine wpAnyH_take (i := 15) (oi := _) (v := ?_) rfl (by kernel_rfl) (by kernel_rfl) (by kernel_rfl) (fun _ _ _ h => h) (Or.inl ⟨by rfl, ?_⟩) (by assumption) ?_
          rotate_left 1
          · intro wq hSw; (try dsimp only at hSw); go_simp; try (with_reducible rfl)
          try simp only [Act.put, List.getElem_toArray, List.getElem_cons_succ, List.getElem_cons_zero, List.setIfInBounds_toArray, List.set_cons_zero, List.set_cons_succ]
          refine wpAnyH_take (i := 16) (oi := _) (v := ?_) rfl (by kernel_rfl) (by kernel_rfl) (by kernel_rfl) (fun _ _ _ h => h) (Or.inl ⟨by rfl, ?_⟩) (by assumption) ?_
          rotate_left 1
          · intro wq hSw; (try dsimp only at hSw); go_simp; try (with_reducible rfl)
          try simp only [Act.put, List.getElem_toArray, List.getElem_cons_succ, List.getElem_cons_zero, List.setIfInBounds_toArray, List.set_cons_zero, List.set_cons_succ]
          refine wpAnyH_take (i := 17) (oi := _) (v := ?_) rfl (by kernel_rfl) (by kernel_rfl) (by kernel_rfl) (fun _ _ _ h => h) (Or.inl ⟨by rfl, ?_⟩) (by assumption) ?_
          rotate_left 1
          · intro wq hSw; (try dsimp only at hSw); go_simp; try (with_reducible rfl)
          try simp only [Act.put, List.getElem_toArray, List.getElem_cons_succ, List.getElem_cons_zero, List.setIfInBounds_toArray, List.set_cons_zero, List.set_cons_succ]
          refine wpAnyH_take (i := 18) (oi := _) (v := ?_) rfl (by kernel_rfl) (by kernel_rfl) (by kernel_rfl) (fun _ _ _ h => h) (Or.inl ⟨by rfl, ?_⟩) (by assumption) ?_
          rotate_left 1
          · intro wq hSw; (try dsimp only at hSw); go_simp; try (with_reducible rfl)
          try simp only [Act.put, List.getElem_toArray, List.getElem_cons_succ, List.getElem_cons_zero, List.setIfInBounds_toArray, List.set_cons_zero, List.set_cons_succ]
          refine wpAnyH_take (i := 19) (oi := _) (v := ?_) rfl (by kernel_rfl) (by kernel_rfl) (by kernel_rfl) (fun _ _ _ h => h) (Or.inl ⟨by rfl, ?_⟩) (by assumption) ?_
          rotate_left 1
          · intro wq hSw; (try dsimp only at hSw); go_simp; try (with_reducible rfl)
          try simp only [Act.put, List.getElem_toArray, List.getElem_cons_succ, List.getElem_cons_zero, List.setIfInBounds_toArray, List.set_cons_zero, List.set_cons_succ]
          refine wpAnyH_take (i := 21) (oi := _) (v := ?_) rfl (by kernel_rfl) (by kernel_rfl) (by kernel_rfl) (fun _ _ _ h => h) (Or.inl ⟨by rfl, ?_⟩) (by assumption) ?_
          rotate_left 1
          · intro wq hSw; (try dsimp only at hSw); go_simp; try (with_reducible rfl)
          try simp only [Act.put, List.getElem_toArray, List.getElem_cons_succ, List.getElem_cons_zero, List.setIfInBounds_toArray, List.set_cons_zero, List.set_cons_succ]
          refine wpAnyH_take (i := 22) (oi := _) (v := ?_) rfl (by kernel_rfl) (by kernel_rfl) (by kernel_rfl) (fun _ _ _ h => h) (Or.inl ⟨by rfl, ?_⟩) (by assumption) ?_
          rotate_left 1
          · intro wq hSw; (try dsimp only at hSw); go_simp; try (with_reducible rfl)
          try simp only [Act.put, List.getElem_toArray, List.getElem_cons_succ, List.getElem_cons_zero, List.setIfInBounds_toArray, List.set_cons_zero, List.set_cons_succ]
          refine wpAnyH_take (i := 23) (oi := _) (v := ?_) rfl (by kernel_rfl) (by kernel_rfl) (by kernel_rfl) (fun _ _ _ h => h) (Or.inl ⟨by rfl, ?_⟩) (by assumption) ?_
          rotate_left 1
          · intro wq hSw; (try dsimp only at hSw); go_simp; try (with_reducible rfl)
          try simp only [Act.put, List.getElem_toArray, List.getElem_cons_succ, List.getElem_cons_zero, List.setIfInBounds_toArray, List.set_cons_zero, List.set_cons_succ]
          refine wpAnyH_take (i := 24) (oi := _) (v := ?_) rfl (by kernel_rfl) (by kernel_rfl) (by kernel_rfl) (fun _ _ _ h => h) (Or.inl ⟨by rfl, ?_⟩) (by assumption) ?_
          rotate_left 1
          · intro wq hSw; (try dsimp only at hSw); go_simp; try (with_reducible rfl)
          try simp only [Act.put, List.getElem_toArray, List.getElem_cons_succ, List.getElem_cons_zero, List.setIfInBounds_toArray, List.set_cons_zero, List.set_cons_succ]
          refine wpAnyH_take (i := 25) (oi := _) (v := ?_) rfl (by kernel_rfl) (by kernel_rfl) (by kernel_rfl) (fun _ _ _ h => h) (Or.inl ⟨by rfl, ?_⟩) (by assumption) ?_
          rotate_left 1
          · intro wq hSw; (try dsimp only at hSw); go_simp; try (with_reducible rfl)
          try simp only [Act.put, List.getElem_toArray, List.getElem_cons_succ, List.getElem_cons_zero, List.setIfInBounds_toArray, List.set_cons_zero, List.set_cons_succ]
          refine wpAnyH_take (i := 26) (oi := _) (v := ?_) rfl (by kernel_rfl) (by kernel_rfl) (by kernel_rfl) (fun _ _ _ h => h) (Or.inl ⟨by rfl, ?_⟩) (by assumption) ?_
          rotate_left 1
          · intro wq hSw; (try dsimp only at hSw); go_simp; try (with_reducible rfl)
          try simp only [Act.put, List.getElem_toArray, List.getElem_cons_succ, List.getElem_cons_zero, List.setIfInBounds_toArray, List.set_cons_zero, List.set_cons_succ]
          refine wpAnyH_take (i := 27) (oi := _) (v := ?_) rfl (by kernel_rfl) (by kernel_rfl) (by kernel_rfl) (fun _ _ _ h => h) (Or.inl ⟨by rfl, ?_⟩) (by assumption) ?_
          rotate_left 1
          · intro wq hSw; (try dsimp only at hSw); go_simp; try (with_reducible rfl)
          try simp only [Act.put, List.getElem_toArray, List.getElem_cons_succ, List.getElem_cons_zero, List.setIfInBounds_toArray, List.set_cons_zero, List.set_cons_succ]
          refine wpAnyH_ready (rs := [20]) (by kernel_rfl) (by simp) ?_
          refine AllReadyH.cons (o := _) rfl (fun K hK => ?_) AllReadyH.nil
          go_simp
          refine (HX1.out _ (Below.refl _ _)).mono ?_
          rintro e h7 ⟨rfl, h9⟩
          obtain rfl := h9.symm
          (try dsimp only)
          refine hK.out _ _ ?_ (fun hHeld => ?_)
          · exact HES.out _ KW7.out
          clear hK K
          try simp only [Act.put, List.getElem_toArray, List.getElem_cons_succ, List.getElem_cons_zero, List.setIfInBounds_toArray, List.set_cons_zero, List.set_cons_succ]
          refine wpAnyH_ready (rs := [28]) (by kernel_rfl) (by simp) ?_
          refine AllReadyH.cons (o := _) rfl (fun K hK => ?_) AllReadyH.nil
          go_simp
          refine (HX2.out _ (Below.refl _ _)).mono ?_
          rintro e hw ⟨rfl, hb⟩
          have HBH : Hid (Below y7.heap.size y7 hw) := ext_trans (Below.refl _ _) hb
          clear hb
          (try dsimp only)
          refine hK.out _ _ ?_ (fun hHeld => ?_)
          · exact HES.out _ (KW7.out.trans (Kps.of_below (fun _ => False) HBH.out) (fun _ _ e => e.elim))
          clear hK K
          try simp only [Act.put, List.getElem_toArray, List.getElem_cons_succ, List.getElem_cons_zero, List.setIfInBounds_toArray, List.set_cons_zero, List.set_cons_succ]
          refine wpAnyH_take (i := 29) (oi := _) (v := ?_) rfl (by kernel_rfl) (by kernel_rfl) (by kernel_rfl) (fun _ _ _ h => h) (Or.inl ⟨by rfl, ?_⟩) (by assumption) ?_
          rotate_left 1
          · intro wq hSw; (try dsimp only at hSw); go_simp; try (with_reducible rfl)
          try simp only [Act.put, List.getElem_toArray, List.getElem_cons_succ, List.getElem_cons_zero, List.setIfInBounds_toArray, List.set_cons_zero, List.set_cons_succ]
          refine wpAnyH_take (i := 30) (oi := _) (v := ?_) rfl (by kernel_rfl) (by kernel_rfl) (by kernel_rfl) (fun _ _ _ h => h) (Or.inl ⟨by rfl, ?_⟩) (by assumption) ?_
          rotate_left 1
          · intro wq hSw; (try dsimp only at hSw); go_simp; try (with_reducible rfl)
          try simp only [Act.put, List.getElem_toArray, List.getElem_cons_succ, List.getElem_cons_zero, List.setIfInBounds_toArray, List.set_cons_zero, List.set_cons_succ]
          refine wpAnyH_done (by kernel_rfl) ?_ _
          go_wp2_with fail
          go_meet
          case rel => exact ⟨rfl, ⟨CR7.out.ext HBH.out, KW7.out.trans (Kps.of_below (fun _ => False) HBH.out) (fun _ _ e => e.elim)⟩⟩
        case rest =>
          obtain ⟨rfl, HX⟩ := hcut
          have CR8 := hidIt HX.out.1
          have KW8 := hidIt HX.out.2
          clear HX c5 HSI HF6 O5 P5 G5 K45 KW5 B4 HPP HJJ CR3 RL3 KW3 B3 Z3
          have HDJ : Hid ((C.set j (Pq.mk g q K (all ++ d)))[j]? = some (Pq.mk g q K (all ++ d))) := by
            unfold Hid
            rw [List.getElem?_set, if_pos rfl, if_pos (by rw [HLK.out.len]; exact hjl)]
          obtain ⟨P, pr, pl, pn, pc⟩ := HAT.out wc _ (all ++ d) CR8.out HDJ.out
          have HCL := hidIt (pr_close pr)
          have PN := hidIt pn
          have PL := hidIt pl
          have PC := hidIt pc
          generalize hZT : (Cx.dec K (all ++ d)).drop (Cx.fd K (all ++ d)).1.length = zt at *
          obtain ⟨a0, a1, a2, a3⟩ := HES.out _ KW8.out
          clear pr pl pn pc
          go_upto_region 11 with (go_at_call 30; refine HCL.out.mono ?_; rintro e y9 ⟨l9, rfl, ho9, hp9, hg9⟩; have O9 := hidIt ho9; have P9 := hidIt hp9; have G9 := hidIt hg9; clear ho9 hp9 hg9; (try dsimp only))
          have K89 : Hid (Kps P wc y9) := Kps.grown G9.out (fun k e _ => by cases e; exact P9.out.2.2.1)
          have KW9 : Hid (Kps (fun k => ¬ N k) w y9) := KW8.out.trans K89.out (fun k _ e => PN.out k e)
          clear a0 a1 a2 a3
          obtain ⟨a0, a1, a2, a3⟩ := HES.out _ KW9.out
          have HC9 := hidIt (pe_close P9.out (by have := HAL.out; have := HDL.out; rw [List.length_append]; omega))
          rw [hZT] at HC9
          clear hZT HCL
          have HSI : Hid (∀ y6 m, Kps (fun k => P k ∧ k ≠ g) y9 y6 → Rd .i64 y6 m zt → Calls Tryz.prog 16 #[l9, m] y6 fun e w' => e = .returned (.bool true) ∧ Below y6.heap.size y6 w') := fun y6 m k h => sameInts_any _ _ _ y6 (rdi_stay O9.out k (fun i h1 _ e => by have := PL.out _ e.1; omega)) h
          go_upto_region 3 with (first | (go_at_call 31; refine HC9.out.mono ?_; rintro e y10 ⟨m, rfl, hm6, hp6, hk6⟩; have Z6 := hidIt (HSI.out y10 m hk6 hm6); have P10 := hidIt hp6; have K910 := hidIt hk6; clear hm6 hp6 hk6; (try dsimp only)) | (go_at_call 16; refine Z6.out.mono ?_; rintro e y11 ⟨rfl, hb7⟩; have B11 := hidIt hb7; clear hb7; (try dsimp only)))
          have CR10 := hidIt (PC.out y10 [] (K89.out.trans K910.out (fun _ _ e => e.1)) (P10.out.mono (fun k _ e => .inl e)))
          have CR11 := hidIt (CR10.out.ext B11.out)
          have KW11 : Hid (Kps (fun k => ¬ N k) w y11) := (KW9.out.trans K910.out (fun k _ e => PN.out k e.1)).trans (Kps.of_below (fun _ => False) B11.out) (fun _ _ e => e.elim)
          have LK2 : Hid (Lik ((C.set j (Pq.mk g q K (all ++ d))).set j (Pq.mk g q K [])) C0) := (HLK.out.set (r := Pq.mk g q K (all ++ d)) HPJ.out rfl rfl).set (r := Pq.mk g q K []) HDJ.out rfl rfl
          have SM2 : Hid (∀ p ∈ (C.set j (Pq.mk g q K (all ++ d))).set j (Pq.mk g q K []), p.all.length ≤ 3) := fun p hp => by
            rw [List.set_set] at hp
            rcases List.mem_or_eq_of_mem_set hp with h | h
            · exact HSM.out p h
            · rw [h]; simp
          clear CR10 P10 K910 HC9 HSI K89 G9 P9 O9 PC PL PN HCR HSM HLK CR8 KW8 KW9 a0 a1 a2 a3
          go_wp2_with fail
          go_roundw
          case rel => exact ⟨j + 1, _, by omega, by go_num, LK2.out, SM2.out, CR11.out, KW11.out⟩
          case measure => simp [intOf]; omega
    · obtain rfl : j = C0.length := by omega
      have hd1 : decide ((C0.length : Int) < (C0.length : Int)) = false := by simp
      go_wp2_with fail
      go_ret
      exact ⟨rfl, KW.out⟩
end Go.Proofs.YtmfbobibpebfnaaGreat
