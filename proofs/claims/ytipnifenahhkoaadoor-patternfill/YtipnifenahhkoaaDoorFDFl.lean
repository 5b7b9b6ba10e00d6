/- The document's Fill. -/
import Derived.Test.YtipnifenahhkoaaDoorFDoc
import Derived.Test.YtipnifenahhkoaaDoorFHxd
namespace Go.Proofs.YtipnifenahhkoaaDoor
open Go.RowKit

theorem par_on {line mt rep : List Int} {done : List Od} {j q : Nat} {o : Od} (hj : j < rep.length) (hs : ste line mt rep j = some (o, q)) (hp : par line mt rep 0 = (par line mt rep j).map (done ++ ·)) : par line mt rep 0 = (par line mt rep q).map ((done ++ [o]) ++ ·) := by
  rw [hp, par_step line mt rep j hj, hs]
  simp only
  cases par line mt rep q with
  | none => rfl
  | some r => simp
theorem par_off {line mt rep : List Int} {done : List Od} {j : Nat} (hj : j < rep.length) (hs : ste line mt rep j = none) (hp : par line mt rep 0 = (par line mt rep j).map (done ++ ·)) : par line mt rep 0 = none := by
  rw [hp, par_step line mt rep j hj, hs]
  rfl
theorem par_fin {line mt rep : List Int} {done : List Od} {j : Nat} (hj : rep.length ≤ j) (hp : par line mt rep 0 = (par line mt rep j).map (done ++ ·)) : par line mt rep 0 = some done := by
  rw [hp, par_end line mt rep j hj]
  simp
theorem esc_one {c : Int} {o : Od} (h : esc c = some o) : o.gives.length ≤ 1 := by
  unfold esc at h
  split at h
  · cases h; simp
  split at h
  · cases h; simp
  split at h
  · cases h; simp
  split at h
  · cases h; simp
  split at h
  · cases h
  · cases h; simp
/-- What holds ahead of a round at the place j. -/
def FdI (w1 : World) (lo g : Nat) (line mt rep : List Int) (j : Nat) (wr : World) (done : List Od) (out : List Int) (once stay : Int) : Prop :=
  j ≤ rep.length ∧ par line mt rep 0 = (par line mt rep j).map (done ++ ·) ∧ Inv done out once stay ∧ done.length ≤ j ∧ Df lo wr g out once stay ∧ Below lo w1 wr
section
variable {w1 wr w' : World} {lo g : Nat} {line mt rep : List Int} {j q : Nat} {done : List Od} {out : List Int} {once stay : Int} {o : Od}
theorem FdI.one (h : FdI w1 lo g line mt rep j wr done out once stay) (hj : j < rep.length) (hs : ste line mt rep j = some (o, q)) (ho : o.gives.length ≤ 1) (hn : Dn lo g wr w' out once stay o) : j < q ∧ q ≤ rep.length ∧ ∃ done' out' once' stay', FdI w1 lo g line mt rep q w' done' out' once' stay' := by
  obtain ⟨_, hp, hI, hd, hD, hb⟩ := h
  have hq := ste_le hs hj
  refine ⟨hq.1, hq.2, done ++ [o], _, _, _, hq.2, par_on hj hs hp, hI.full ho, ?_, hn.1, hb.trans hn.2⟩
  rw [List.length_append, List.length_singleton]
  omega
theorem FdI.tak {T : List Int} {e : Ending} (h : FdI w1 lo g line mt rep j wr done out once stay) (hj : j < rep.length) (hs : ste line mt rep j = some (⟨T, 0⟩, q)) (hn : TkR lo g wr.drew out once stay T e w') : j < q ∧ q ≤ rep.length ∧ ∃ done' out' once' stay', FdI w1 lo g line mt rep q w' done' out' once' stay' := by
  obtain ⟨_, hp, hI, hd, hD, hb⟩ := h
  obtain ⟨_, k, hk, hD', hor, hm, hb'⟩ := hn
  have hq := ste_le hs hj
  refine ⟨hq.1, hq.2, done ++ [⟨T, 0⟩], _, _, _, hq.2, par_on hj hs hp, hI.taken hk hor hm, ?_, hD', hb.trans ((Below.refl lo wr).drew.trans hb')⟩
  rw [List.length_append, List.length_singleton]
  omega
theorem FdI.bad (h : FdI w1 lo g line mt rep j wr done out once stay) (hr : ¬ 256 < rep.length) (hj : j < rep.length) (hs : ste line mt rep j = none) : fll rep line mt = ([], 102) := by
  unfold fll
  rw [if_neg hr, par_off hj hs h.2.1]
theorem FdI.end (h : FdI w1 lo g line mt rep j wr done out once stay) (hr : ¬ 256 < rep.length) (hj : rep.length ≤ j) : fll rep line mt = if 140000 < out.length then ([], 3) else (out, 0) := h.2.2.1.fin hr (par_fin hj h.2.1)
theorem FdI.len (h : FdI w1 lo g line mt rep j wr done out once stay) (hr : ¬ 256 < rep.length) : out.length ≤ 140300 := by
  have := h.2.2.1.len
  have := h.2.2.2.1
  have := h.1
  omega
end
/-- One cell of the boxed row. -/
theorem box_cell {w : World} {B : Nat} {mt : List Int} {T : TypeId} (hg : w.heap[B]? = some (.cells (mt.map (Value.int .i64)).toArray T (0, 0))) (i : Nat) (hi : i < mt.length) : w.cell? ⟨B, i, none⟩ = some (.int .i64 (mt[i]?.getD 0)) := by
  rw [cell_of_row _ _ i _ _ _ hg]
  simp [hi]

set_option maxRecDepth 100000 in
set_option maxHeartbeats 8000000 in
theorem rFill_any (w : World) (sv lv : Value) (rep line mt : List Int) (hmt : mt.length = 20) (hr : Rd .i64 w sv rep) (hl : Rd .i64 w lv line) (h64 : In64 rep) :
    Calls Tryd.prog 8 #[sv, lv, .agg (mt.map (Value.int .i64)).toArray] w fun e w' => FiR w rep line mt e w' := by
  obtain ⟨sa, sc, rfl, _⟩ := id hr
  obtain ⟨la, lc, rfl, _⟩ := id hl
  have HR := hidIt hr
  have HL := hidIt hl
  have H6 := hidIt h64
  obtain ⟨M, hM⟩ : ∃ M, M = (mt.map (Value.int .i64)).toArray := ⟨_, rfl⟩
  rw [← hM]
  have HM := hidIt hM
  clear hr hl h64 hM
  obtain ⟨w1, hw1⟩ : ∃ w1, w1 = w.alloc (.cells M 23) := ⟨_, rfl⟩
  go_enter Tryd.func8, Tryd.ntmps8
  go_upto_region 1 with fail
  rw [← hw1]
  have HB1 : Hid (Below w.heap.size w w1) := by unfold Hid; rw [hw1]; exact ext_alloc (Below.refl _ _) _
  have HZ1 : Hid (w1.heap.size = w.heap.size + 1) := by unfold Hid; rw [hw1]; simp
  have K0 : Hid (w1.heap[w.heap.size]? = some (.cells (mt.map (Value.int .i64)).toArray 23 (0, 0))) := by unfold Hid; rw [hw1, ← HM.out]; exact heap_alloc_new _ _
  clear hw1 HM
  by_cases hbig : 256 < rep.length
  · have hd : decide ((256 : Int) < (rep.length : Int)) = true := by simp; omega
    have HP : Hid (fll rep line mt = ([], 3)) := by unfold Hid fll; rw [if_pos hbig]
    clear hbig
    go_wp2_with fail
    go_ret2
    exact ⟨.slice none 0 0, by rw [HP.out]; rfl, by rw [HP.out]; exact ⟨none, 0, rfl, Nat.le_refl _, by simp [maxLen], fun h => absurd rfl h⟩, HB1.out, nw_nil _⟩
  have hd : decide ((256 : Int) < (rep.length : Int)) = false := by simp; omega
  have HBG := hidIt hbig
  clear hbig
  obtain ⟨g, hg⟩ : ∃ g, g = w1.heap.size := ⟨_, rfl⟩
  obtain ⟨w2, hw2⟩ : ∃ w2, w2 = w1.alloc (.cells #[.slice none 0 0, .int .i64 0, .int .i64 0] 44) := ⟨_, rfl⟩
  have HLO : Hid (w.heap.size < g) := by unfold Hid; rw [hg, HZ1.out]; omega
  have HI2 : Hid (FdI w1 g g line mt rep 0 w2 [] [] 0 0) := by
    unfold Hid
    refine ⟨Nat.zero_le _, ?_, Inv.nil, Nat.zero_le _, ⟨.slice none 0 0, ?_, Nat.le_refl _, ?_⟩, ?_⟩
    · cases par line mt rep 0 <;> simp
    · rw [hg, hw2]; exact heap_alloc_new _ _
    · exact ⟨rfl, .inl ⟨rfl, rfl⟩⟩
    · rw [hg, hw2]; exact ext_alloc (Below.refl _ _) _
  have RD : Hid (∀ w', Below g w1 w' → Rd .i64 w' (.slice sa rep.length sc) rep ∧ Rd .i64 w' (.slice la line.length lc) line ∧ w'.heap[w.heap.size]? = some (.cells (mt.map (Value.int .i64)).toArray 23 (0, 0)) ∧ Below w.heap.size w w') := fun w' hb => by
    have hb2 : Below w.heap.size w w' := HB1.out.trans (hb.mono (by have := HLO.out; omega))
    exact ⟨HR.out.ext hb2, HL.out.ext hb2, (hb.block _ HLO.out).trans K0.out, hb2⟩
  have BAD : Hid (∀ w', Below g w1 w' → fll rep line mt = ([], 102) → FiR w rep line mt (.returned (.tuple #[.slice none 0 0, .int .i64 102])) w') := fun w' hb HP => ⟨.slice none 0 0, by rw [HP], by rw [HP]; exact ⟨none, 0, rfl, Nat.le_refl _, by simp [maxLen], fun h => absurd rfl h⟩, (RD.out w' hb).2.2.2, nw_nil _⟩
  clear HB1 HZ1 K0 HR HL
  go_upto_region 4 with fail
  rw [← hg, ← hw2]
  clear hg hw2 hd
  go_wp2_with fail
  go_loopw [9] (fun i wr => ∃ (j : Nat) (done : List Od) (out : List Int) (once stay : Int), i = .int .i64 (j : Int) ∧ Hid (FdI w1 g g line mt rep j wr done out once stay)) (fun i _ => rep.length - (intOf i).toNat)
  case atStart => exact ⟨0, [], [], 0, 0, rfl, HI2.out⟩
  case round =>
    obtain ⟨j, done, out, once, stay, rfl, HI⟩ := hrel
    clear HI2
    have HLEN := hidIt (HI.out.len HBG.out)
    by_cases hjl : j < rep.length
    case neg =>
      have hd1 : decide ((j : Int) < (rep.length : Int)) = false := by simp; omega
      have HP := hidIt (HI.out.end HBG.out (by omega))
      obtain ⟨_, _, _, _, ⟨v, hq, hlo, how⟩, hb⟩ := HI.out
      obtain ⟨oa, oc, rfl⟩ := form_own how
      have RO := hidIt (rd_own how)
      have NW := hidIt (nw_own how (Nat.le_of_lt HLO.out))
      have c0 := (cells3 hq).1
      have HBW := hidIt (RD.out wr hb).2.2.2
      clear hq hlo how hb
      by_cases ho : 140000 < out.length
      · have hd2 : decide ((140000 : Int) < (out.length : Int)) = true := by simp; omega
        rw [if_pos ho] at HP
        clear ho
        go_wp2_with fail
        go_ret2
        exact ⟨.slice none 0 0, by rw [HP.out]; rfl, by rw [HP.out]; exact ⟨none, 0, rfl, Nat.le_refl _, by simp [maxLen], fun h => absurd rfl h⟩, HBW.out, nw_nil _⟩
      · have hd2 : decide ((140000 : Int) < (out.length : Int)) = false := by simp; omega
        rw [if_neg ho] at HP
        clear ho
        go_wp2_with fail
        go_ret2
        exact ⟨.slice oa out.length oc, by rw [HP.out]; rfl, by rw [HP.out]; exact RO.out, HBW.out, NW.out⟩
    case pos =>
      have hd1 : decide ((j : Int) < (rep.length : Int)) = true := by simp; omega
      have HD : Hid (Df g wr g out once stay) := HI.out.2.2.2.2.1
      have HBL : Hid (Below g w1 wr) := HI.out.2.2.2.2.2
      have hrl := HBG.out
      obtain ⟨sa', sc', hv', _, hcp, hcl⟩ := (RD.out wr HBL.out).1
      obtain ⟨sb, so, rfl, _, hcc⟩ := hcl (List.length_pos_iff.1 (by omega))
      cases hv'
      have hcj := hcc j hjl
      have HCC := hidIt hcc
      have HS : Hid (ste line mt rep j = ste line mt rep j) := rfl
      have GV : Hid (∀ x : Int, Calls Tryd.prog 16 #[.pointer (some ⟨g, 0, none⟩), .int .i64 x] wr fun e w' => GiR g g wr out once stay x e w') := fun x => rgive_any x HD.out (by have := HLEN.out; omega)
      have MAT : Hid (∀ k, k < 20 → wr.cell? ⟨w.heap.size, k, none⟩ = some (.int .i64 (mt[k]?.getD 0))) := fun k hk => box_cell (RD.out wr HBL.out).2.2.1 k (by omega)
      have TK0 : Hid (∀ fr tt : Int, Calls Tryd.prog 19 #[.pointer (some ⟨g, 0, none⟩), .slice la line.length lc, .int .i64 fr, .int .i64 tt] wr.drew fun e w' => TkR g g wr.drew out once stay (btw line fr tt) e w') := fun fr tt => rtaken_any _ line fr tt (HD.out.ext (Below.refl _ _).drew) (by have := HLEN.out; omega) (fun w' hb => (RD.out w' (HBL.out.trans ((Below.refl g wr).drew.trans hb))).2.1)
      have CE0 : Hid (∀ (a b : Nat) (fr tt : Int) (e : Ending) (T : List Int) (w' : World), wr.cell? ⟨w.heap.size, a, none⟩ = some (.int .i64 fr) → wr.cell? ⟨w.heap.size, b, none⟩ = some (.int .i64 tt) → TkR g g wr.drew out once stay T e w' → w'.cell? ⟨w.heap.size, a, none⟩ = some (.int .i64 fr) ∧ w'.cell? ⟨w.heap.size, b, none⟩ = some (.int .i64 tt)) := fun a b fr tt e T w' ha hb hn => by
        obtain ⟨_, k, _, _, _, _, hbl⟩ := hn
        have hbl2 : Below g wr w' := (Below.refl g wr).drew.trans hbl
        have e1 := hbl2.block w.heap.size HLO.out
        constructor
        · rw [← ha]; unfold World.cell?; simp only [e1]
        · rw [← hb]; unfold World.cell?; simp only [e1]
      obtain ⟨c, hc⟩ : ∃ c, c = rep[j]?.getD 0 := ⟨_, rfl⟩
      rw [← hc] at hcj
      have HC := hidIt hc
      obtain ⟨j1, hj1⟩ : ∃ j1 : Nat, j1 = j + 1 := ⟨_, rfl⟩
      have x1 : IntKind.i64.wrap ((j : Int) + 1) = (j1 : Int) := by rw [IntKind.wrap_i64]; omega
      have hji : (j : Int) < (rep.length : Int) := by omega
      have HJ1 := hidIt hj1
      clear hcl hcc hc hj1 HS hcp
      by_cases hA : c = 38
      · subst hA
        have HST : Hid (ste line mt rep j = some (⟨btw line (mt[0]?.getD 0) (mt[1]?.getD 0), 0⟩, j1)) := by
          unfold Hid ste
          rw [if_pos HC.out.symm, tak_btw, HJ1.out]
        have d0 := MAT.out 0 (by omega)
        have d1 := MAT.out 1 (by omega)
        generalize mt[0]?.getD 0 = fr at *
        generalize mt[1]?.getD 0 = tt at *
        have TKN := hidIt (TK0.out fr tt)
        have CEL : Hid (∀ w' , TkR g g wr.drew out once stay (btw line fr tt) (.returned (.tuple #[])) w' → w'.cell? ⟨w.heap.size, 0, none⟩ = some (.int .i64 fr) ∧ w'.cell? ⟨w.heap.size, 1, none⟩ = some (.int .i64 tt)) := fun w' hn => CE0.out 0 1 fr tt _ _ w' d0 d1 hn
        have y0 : IntKind.i64.wrap 0 = 0 := by rw [IntKind.wrap_i64]; omega
        have y1 : IntKind.i64.wrap 1 = 1 := by rw [IntKind.wrap_i64]; omega
        clear TK0 CE0 MAT GV
        go_upto_region 29 with fail
        refine wp_region_held_drew (S := fun w' => w'.cell? ⟨w.heap.size, 0, none⟩ = some (.int .i64 fr) ∧ w'.cell? ⟨w.heap.size, 1, none⟩ = some (.int .i64 tt)) (by kernel_rfl) (⟨d0, d1⟩) (fun hHeld => ?_)
        refine wpAnyH_take (i := 0) (oi := _) (v := ?_) rfl (by kernel_rfl) (by kernel_rfl) (by kernel_rfl) (fun _ _ _ h => h) (Or.inl ⟨by rfl, ?_⟩) (by assumption) ?_
        rotate_left 1
        · intro wq hSw; (try dsimp only at hSw); go_simp; try (with_reducible rfl)
        try simp only [Act.put, List.getElem_toArray, List.getElem_cons_zero, List.setIfInBounds_toArray, List.set_cons_zero, List.set_cons_succ]
        refine wpAnyH_take (i := 1) (oi := _) (v := ?_) rfl (by kernel_rfl) (by kernel_rfl) (by kernel_rfl) (fun _ _ _ h => h) (Or.inl ⟨by rfl, ?_⟩) (by assumption) ?_
        rotate_left 1
        · intro wq hSw; (try dsimp only at hSw); go_simp; try (with_reducible rfl)
        try simp only [Act.put, List.getElem_toArray, List.getElem_cons_succ, List.getElem_cons_zero, List.setIfInBounds_toArray, List.set_cons_zero, List.set_cons_succ]
        refine wpAnyH_take (i := 2) (oi := _) (v := ?_) rfl (by kernel_rfl) (by kernel_rfl) (by kernel_rfl) (fun _ _ _ h => h) (Or.inl ⟨by rfl, ?_⟩) (by assumption) ?_
        rotate_left 1
        · intro wq hSw; (try dsimp only at hSw); go_simp; try (with_reducible rfl)
        try simp only [Act.put, List.getElem_toArray, List.getElem_cons_succ, List.getElem_cons_zero, List.setIfInBounds_toArray, List.set_cons_zero, List.set_cons_succ]
        refine wpAnyH_take (i := 3) (oi := _) (v := ?_) rfl (by kernel_rfl) (by kernel_rfl) (by kernel_rfl) (fun _ _ _ h => h) (Or.inl ⟨by rfl, ?_⟩) (by assumption) ?_
        rotate_left 1
        · intro wq hSw; (try dsimp only at hSw); go_simp; try (with_reducible rfl)
        try simp only [Act.put, List.getElem_toArray, List.getElem_cons_succ, List.getElem_cons_zero, List.setIfInBounds_toArray, List.set_cons_zero, List.set_cons_succ]
        refine wpAnyH_take (i := 4) (oi := _) (v := ?_) rfl (by kernel_rfl) (by kernel_rfl) (by kernel_rfl) (fun _ _ _ h => h) (Or.inl ⟨by rfl, ?_⟩) (by assumption) ?_
        rotate_left 1
        · intro wq hSw; (try dsimp only at hSw); go_simp; try (with_reducible rfl)
        try simp only [Act.put, List.getElem_toArray, List.getElem_cons_succ, List.getElem_cons_zero, List.setIfInBounds_toArray, List.set_cons_zero, List.set_cons_succ]
        refine wpAnyH_take (i := 5) (oi := _) (v := ?_) rfl (by kernel_rfl) (by kernel_rfl) (by kernel_rfl) (fun _ _ _ h => h) (Or.inl ⟨by rfl, ?_⟩) (by assumption) ?_
        rotate_left 1
        · intro wq hSw; (try dsimp only at hSw); go_simp; try (with_reducible rfl)
        try simp only [Act.put, List.getElem_toArray, List.getElem_cons_succ, List.getElem_cons_zero, List.setIfInBounds_toArray, List.set_cons_zero, List.set_cons_succ]
        refine wpAnyH_take (i := 6) (oi := _) (v := ?_) rfl (by kernel_rfl) (by kernel_rfl) (by kernel_rfl) (fun _ _ _ h => h) (Or.inl ⟨by rfl, ?_⟩) (by assumption) ?_
        rotate_left 1
        · intro wq hSw; (try dsimp only at hSw); go_simp; try (with_reducible rfl)
        try simp only [Act.put, List.getElem_toArray, List.getElem_cons_succ, List.getElem_cons_zero, List.setIfInBounds_toArray, List.set_cons_zero, List.set_cons_succ]
        refine wpAnyH_take (i := 7) (oi := _) (v := ?_) rfl (by kernel_rfl) (by kernel_rfl) (by kernel_rfl) (fun _ _ _ h => h) (Or.inl ⟨by rfl, ?_⟩) (by assumption) ?_
        rotate_left 1
        · intro wq hSw; (try dsimp only at hSw); go_simp; try (with_reducible rfl)
        try simp only [Act.put, List.getElem_toArray, List.getElem_cons_succ, List.getElem_cons_zero, List.setIfInBounds_toArray, List.set_cons_zero, List.set_cons_succ]
        refine wpAnyH_take (i := 8) (oi := _) (v := ?_) rfl (by kernel_rfl) (by kernel_rfl) (by kernel_rfl) (fun _ _ _ h => h) (Or.inl ⟨by rfl, ?_⟩) (by assumption) ?_
        rotate_left 1
        · intro wq hSw; (try dsimp only at hSw); go_simp; try (with_reducible rfl)
        try simp only [Act.put, List.getElem_toArray, List.getElem_cons_succ, List.getElem_cons_zero, List.setIfInBounds_toArray, List.set_cons_zero, List.set_cons_succ]
        refine wpAnyH_take (i := 9) (oi := _) (v := ?_) rfl (by kernel_rfl) (by kernel_rfl) (by kernel_rfl) (fun _ _ _ h => h) (Or.inl ⟨by rfl, ?_⟩) (by assumption) ?_
        rotate_left 1
        · intro wq hSw; (try dsimp only at hSw); go_simp; try (with_reducible rfl)
        try simp only [Act.put, List.getElem_toArray, List.getElem_cons_succ, List.getElem_cons_zero, List.setIfInBounds_toArray, List.set_cons_zero, List.set_cons_succ]
        refine wpAnyH_take (i := 10) (oi := _) (v := ?_) rfl (by kernel_rfl) (by kernel_rfl) (by kernel_rfl) (fun _ _ _ h => h) (Or.inl ⟨by rfl, ?_⟩) (by assumption) ?_
        rotate_left 1
        · intro wq hSw; (try dsimp only at hSw); go_simp; try (with_reducible rfl)
        try simp only [Act.put, List.getElem_toArray, List.getElem_cons_succ, List.getElem_cons_zero, List.setIfInBounds_toArray, List.set_cons_zero, List.set_cons_succ]
        refine wpAnyH_ready (rs := [11]) (by kernel_rfl) (by simp) ?_
        refine AllReadyH.cons (o := _) rfl (fun K hK => ?_) AllReadyH.nil
        go_simp
        refine TKN.out.mono ?_
        rintro e w3 hn3
        have N3 := hidIt hn3
        obtain ⟨rfl, _⟩ := hn3
        dsimp only
        refine hK.out _ _ ?_ (fun hHeld => ?_)
        · exact CEL.out _ N3.out
        clear hK K
        try simp only [Act.put, List.getElem_toArray, List.getElem_cons_succ, List.getElem_cons_zero, List.setIfInBounds_toArray, List.set_cons_zero, List.set_cons_succ]
        refine wpAnyH_done (by kernel_rfl) ?_ _
        go_wp2_with fail
        obtain ⟨hq1, hq2, done', out', once', stay', HF⟩ := HI.out.tak hjl HST.out N3.out
        refine ⟨⟨_, done', out', once', stay', by go_num, HF⟩, ?_⟩
        simp only [intOf]
        omega
      have hAb : (c == 38) = false := by simpa using hA
      by_cases hB : c = 92
      case neg =>
        have hBb : (c == 92) = false := by simpa using hB
        have HST : Hid (ste line mt rep j = some (⟨[c], 0⟩, j1)) := by
          unfold Hid ste
          rw [← HC.out, if_neg hA, if_neg hB, HJ1.out]
        clear hA hB TK0 CE0 MAT
        go_wp2_with (go_at_call 16; refine (GV.out _).mono ?_; rintro e w3 hg3; have N3 := hidIt (dn_one hg3); obtain ⟨rfl, _⟩ := hg3; (try dsimp only))
        obtain ⟨hq1, hq2, done', out', once', stay', HF⟩ := HI.out.one hjl HST.out (by simp) N3.out
        refine ⟨⟨_, done', out', once', stay', by go_num, HF⟩, ?_⟩
        simp only [intOf]
        omega

      case pos =>
        subst hB
        clear hAb
        have hSB : ste line mt rep j = bsl line mt rep j1 := by
          unfold ste
          rw [if_neg (by rw [← HC.out]; decide), if_pos HC.out.symm, HJ1.out]
        have hj1v := HJ1.out
        by_cases hl1 : rep.length ≤ j1
        · have hd3 : decide ((rep.length : Int) ≤ (j1 : Int)) = true := by simp; omega
          have HST : Hid (ste line mt rep j = none) := by unfold Hid; rw [hSB]; unfold bsl; rw [if_pos hl1]
          clear hSB hj1v
          go_wp2_with fail
          go_ret2
          exact BAD.out _ HBL.out (HI.out.bad HBG.out hjl HST.out)

        have hd3 : decide ((rep.length : Int) ≤ (j1 : Int)) = false := by simp; omega
        have hcj1 := HCC.out j1 (by omega)
        have hji1 : (j1 : Int) < (rep.length : Int) := by omega
        obtain ⟨c', hc'⟩ : ∃ c', c' = rep[j1]?.getD 0 := ⟨_, rfl⟩
        rw [← hc'] at hcj1
        obtain ⟨j2, hj2⟩ : ∃ j2 : Nat, j2 = j1 + 1 := ⟨_, rfl⟩
        have x2 : IntKind.i64.wrap ((j1 : Int) + 1) = (j2 : Int) := by rw [IntKind.wrap_i64]; omega
        have HC' := hidIt hc'
        have H64 := hidIt (H6.out j1)
        rw [← hc'] at H64
        have HJ2 := hidIt hj2
        clear hc'
        by_cases hdg : 48 ≤ c' ∧ c' ≤ 57
        · obtain ⟨g1, g2⟩ := hdg
          have dg1 : decide ((48 : Int) ≤ c') = true := by simpa using g1
          have dg2 : decide (c' ≤ (57 : Int)) = true := by simpa using g2
          obtain ⟨k, hk⟩ : ∃ k : Nat, k = (c' - 48).toNat := ⟨_, rfl⟩
          have s0 : IntKind.i64.wrap (c' - 48) = (k : Int) := by rw [IntKind.wrap_i64]; omega
          have HST : Hid (ste line mt rep j = some (⟨btw line (mt[2 * k]?.getD 0) (mt[2 * k + 1]?.getD 0), 0⟩, j2)) := by
            unfold Hid
            rw [hSB]
            unfold bsl
            rw [← HC'.out, if_neg hl1, if_neg (by omega), if_neg (by omega), if_neg (by unfold isL; simp; omega), if_pos (by unfold isD; simp; omega), tak_btw, ← hk, HJ2.out]
          have d0 := MAT.out (2 * k) (by omega)
          have d1 := MAT.out (2 * k + 1) (by omega)
          generalize mt[2 * k]?.getD 0 = fr at *
          generalize mt[2 * k + 1]?.getD 0 = tt at *
          have hk9 : k ≤ 9 := by omega
          obtain ⟨i, hi⟩ : ∃ i, i = 2 * k := ⟨_, rfl⟩
          rw [← hi] at d0 d1
          have s1 : 2 * (k : Int) = (i : Int) := by omega
          have s2 : IntKind.i64.wrap (i : Int) = (i : Int) := by rw [IntKind.wrap_i64]; omega
          have s3 : IntKind.i64.wrap ((i : Int) + 1) = ((i + 1 : Nat) : Int) := by rw [IntKind.wrap_i64]; omega
          have hi20 : (i : Int) < 20 := by omega
          have hi21 : (i : Int) + 1 < 20 := by omega
          have hi22 : (0 : Int) ≤ (i : Int) + 1 := by omega
          have TKN := hidIt (TK0.out fr tt)
          have CEL : Hid (∀ w' , TkR g g wr.drew out once stay (btw line fr tt) (.returned (.tuple #[])) w' → w'.cell? ⟨w.heap.size, i, none⟩ = some (.int .i64 fr) ∧ w'.cell? ⟨w.heap.size, i + 1, none⟩ = some (.int .i64 tt)) := fun w' hn => CE0.out i (i + 1) fr tt _ _ w' d0 d1 hn
          clear TK0 CE0 MAT GV hSB hi hk9 hk hj1v hj2
          go_upto_region 29 with fail
          refine wp_region_held_drew (S := fun w' => w'.cell? ⟨w.heap.size, i, none⟩ = some (.int .i64 fr) ∧ w'.cell? ⟨w.heap.size, i + 1, none⟩ = some (.int .i64 tt)) (by kernel_rfl) (⟨d0, d1⟩) (fun hHeld => ?_)
          refine wpAnyH_take (i := 0) (oi := _) (v := ?_) rfl (by kernel_rfl) (by kernel_rfl) (by kernel_rfl) (fun _ _ _ h => h) (Or.inl ⟨by rfl, ?_⟩) (by assumption) ?_
          rotate_left 1
          · intro wq hSw; (try dsimp only at hSw); go_simp; try (with_reducible rfl)
          try simp only [Act.put, List.getElem_toArray, List.getElem_cons_zero, List.setIfInBounds_toArray, List.set_cons_zero, List.set_cons_succ]
          refine wpAnyH_take (i := 1) (oi := _) (v := ?_) rfl (by kernel_rfl) (by kernel_rfl) (by kernel_rfl) (fun _ _ _ h => h) (Or.inl ⟨by rfl, ?_⟩) (by assumption) ?_
          rotate_left 1
          · intro wq hSw; (try dsimp only at hSw); go_simp; try (with_reducible rfl)
          try simp only [Act.put, List.getElem_toArray, List.getElem_cons_succ, List.getElem_cons_zero, List.setIfInBounds_toArray, List.set_cons_zero, List.set_cons_succ]
          refine wpAnyH_take (i := 2) (oi := _) (v := ?_) rfl (by kernel_rfl) (by kernel_rfl) (by kernel_rfl) (fun _ _ _ h => h) (Or.inl ⟨by rfl, ?_⟩) (by assumption) ?_
          rotate_left 1
          · intro wq hSw; (try dsimp only at hSw); go_simp; try (with_reducible rfl)
          try simp only [Act.put, List.getElem_toArray, List.getElem_cons_succ, List.getElem_cons_zero, List.setIfInBounds_toArray, List.set_cons_zero, List.set_cons_succ]
          refine wpAnyH_take (i := 3) (oi := _) (v := ?_) rfl (by kernel_rfl) (by kernel_rfl) (by kernel_rfl) (fun _ _ _ h => h) (Or.inl ⟨by rfl, ?_⟩) (by assumption) ?_
          rotate_left 1
          · intro wq hSw; (try dsimp only at hSw); go_simp; try (with_reducible rfl)
          try simp only [Act.put, List.getElem_toArray, List.getElem_cons_succ, List.getElem_cons_zero, List.setIfInBounds_toArray, List.set_cons_zero, List.set_cons_succ]
          refine wpAnyH_take (i := 4) (oi := _) (v := ?_) rfl (by kernel_rfl) (by kernel_rfl) (by kernel_rfl) (fun _ _ _ h => h) (Or.inl ⟨by rfl, ?_⟩) (by assumption) ?_
          rotate_left 1
          · intro wq hSw; (try dsimp only at hSw); go_simp; try (with_reducible rfl)
          try simp only [Act.put, List.getElem_toArray, List.getElem_cons_succ, List.getElem_cons_zero, List.setIfInBounds_toArray, List.set_cons_zero, List.set_cons_succ]
          refine wpAnyH_take (i := 5) (oi := _) (v := ?_) rfl (by kernel_rfl) (by kernel_rfl) (by kernel_rfl) (fun _ _ _ h => h) (Or.inl ⟨by rfl, ?_⟩) (by assumption) ?_
          rotate_left 1
          · intro wq hSw; (try dsimp only at hSw); go_simp; try (with_reducible rfl)
          try simp only [Act.put, List.getElem_toArray, List.getElem_cons_succ, List.getElem_cons_zero, List.setIfInBounds_toArray, List.set_cons_zero, List.set_cons_succ]
          refine wpAnyH_take (i := 6) (oi := _) (v := ?_) rfl (by kernel_rfl) (by kernel_rfl) (by kernel_rfl) (fun _ _ _ h => h) (Or.inl ⟨by rfl, ?_⟩) (by assumption) ?_
          rotate_left 1
          · intro wq hSw; (try dsimp only at hSw); go_simp; try (with_reducible rfl)
          try simp only [Act.put, List.getElem_toArray, List.getElem_cons_succ, List.getElem_cons_zero, List.setIfInBounds_toArray, List.set_cons_zero, List.set_cons_succ]
          refine wpAnyH_take (i := 7) (oi := _) (v := ?_) rfl (by kernel_rfl) (by kernel_rfl) (by kernel_rfl) (fun _ _ _ h => h) (Or.inl ⟨by rfl, ?_⟩) (by assumption) ?_
          rotate_left 1
          · intro wq hSw; (try dsimp only at hSw); go_simp; try (with_reducible rfl)
          try simp only [Act.put, List.getElem_toArray, List.getElem_cons_succ, List.getElem_cons_zero, List.setIfInBounds_toArray, List.set_cons_zero, List.set_cons_succ]
          refine wpAnyH_take (i := 8) (oi := _) (v := ?_) rfl (by kernel_rfl) (by kernel_rfl) (by kernel_rfl) (fun _ _ _ h => h) (Or.inl ⟨by rfl, ?_⟩) (by assumption) ?_
          rotate_left 1
          · intro wq hSw; (try dsimp only at hSw); go_simp; try (with_reducible rfl)
          try simp only [Act.put, List.getElem_toArray, List.getElem_cons_succ, List.getElem_cons_zero, List.setIfInBounds_toArray, List.set_cons_zero, List.set_cons_succ]
          refine wpAnyH_take (i := 9) (oi := _) (v := ?_) rfl (by kernel_rfl) (by kernel_rfl) (by kernel_rfl) (fun _ _ _ h => h) (Or.inl ⟨by rfl, ?_⟩) (by assumption) ?_
          rotate_left 1
          · intro wq hSw; (try dsimp only at hSw); go_simp; try (with_reducible rfl)
          try simp only [Act.put, List.getElem_toArray, List.getElem_cons_succ, List.getElem_cons_zero, List.setIfInBounds_toArray, List.set_cons_zero, List.set_cons_succ]
          refine wpAnyH_take (i := 10) (oi := _) (v := ?_) rfl (by kernel_rfl) (by kernel_rfl) (by kernel_rfl) (fun _ _ _ h => h) (Or.inl ⟨by rfl, ?_⟩) (by assumption) ?_
          rotate_left 1
          · intro wq hSw; (try dsimp only at hSw); go_simp; try (with_reducible rfl)
          try simp only [Act.put, List.getElem_toArray, List.getElem_cons_succ, List.getElem_cons_zero, List.setIfInBounds_toArray, List.set_cons_zero, List.set_cons_succ]
          refine wpAnyH_ready (rs := [11]) (by kernel_rfl) (by simp) ?_
          refine AllReadyH.cons (o := _) rfl (fun K hK => ?_) AllReadyH.nil
          go_simp
          refine TKN.out.mono ?_
          rintro e w3 hn3
          have N3 := hidIt hn3
          obtain ⟨rfl, _⟩ := hn3
          dsimp only
          refine hK.out _ _ ?_ (fun hHeld => ?_)
          · exact CEL.out _ N3.out
          clear hK K
          try simp only [Act.put, List.getElem_toArray, List.getElem_cons_succ, List.getElem_cons_zero, List.setIfInBounds_toArray, List.set_cons_zero, List.set_cons_succ]
          refine wpAnyH_done (by kernel_rfl) ?_ _
          go_wp2_with fail
          obtain ⟨hq1, hq2, done', out', once', stay', HF⟩ := HI.out.tak hjl HST.out N3.out
          refine ⟨⟨_, done', out', once', stay', by go_num, HF⟩, ?_⟩
          simp only [intOf]
          omega
        have hid : isD c' = false := by unfold isD; simp; omega
        have dgs : (decide ((48 : Int) ≤ c') = false) ∨ (decide ((48 : Int) ≤ c') = true ∧ decide (c' ≤ (57 : Int)) = false) := by
          by_cases h : 48 ≤ c'
          · exact .inr ⟨by simpa using h, by simp; omega⟩
          · exact .inl (by simpa using h)
        by_cases hx : c' = 120
        · subst hx
          clear dgs hid hdg
          have hsx : ste line mt rep j = (hx2 rep j2).map (fun v => (⟨[-1 - v], 0⟩, j1 + 3)) := by
            rw [hSB]
            unfold bsl sgn
            rw [← HC'.out, if_neg hl1, if_neg (by omega), if_neg (by omega), if_pos (by decide), if_neg (by omega), if_neg (by omega), if_pos rfl, HJ2.out]
            cases hx2 rep (j1 + 1) <;> rfl
          have HX := hidIt (rhexed_any (p := j2) (RD.out wr HBL.out).1 H6.out (by omega))
          cases hh : hx2 rep j2 with
          | none =>
            rw [hh] at hsx HX
            have HST : Hid (ste line mt rep j = none) := hsx
            clear hsx hh hSB TK0 CE0 MAT GV hj1v hj2
            go_wp2_with (go_at_call 17; refine HX.out.mono ?_; rintro e w3 ⟨rfl, b3⟩; (try dsimp only); have B3 := hidIt b3; clear b3)
            go_ret2
            exact BAD.out _ (HBL.out.trans (B3.out.mono (Nat.le_of_lt HD.out.lt))) (HI.out.bad HBG.out hjl HST.out)
          | some v =>
            rw [hh] at hsx HX
            have hv := hx2_r hh
            obtain ⟨j3, hj3⟩ : ∃ j3 : Nat, j3 = j1 + 2 := ⟨_, rfl⟩
            obtain ⟨j4, hj4⟩ : ∃ j4 : Nat, j4 = j1 + 3 := ⟨_, rfl⟩
            have x3 : IntKind.i64.wrap ((j1 : Int) + 2) = (j3 : Int) := by rw [IntKind.wrap_i64]; omega
            have x4 : IntKind.i64.wrap ((j3 : Int) + 1) = (j4 : Int) := by rw [IntKind.wrap_i64]; omega
            have x5 : IntKind.i64.wrap (-1 - v) = -1 - v := by rw [IntKind.wrap_i64]; omega
            have dv : decide (v < (0 : Int)) = false := by simp; omega
            rw [← hj4] at hsx
            have HST : Hid (ste line mt rep j = some (⟨[-1 - v], 0⟩, j4)) := hsx
            have GV3 : Hid (∀ (x : Int) (w3 : World), Below wr.heap.size wr w3 → Calls Tryd.prog 16 #[.pointer (some ⟨g, 0, none⟩), .int .i64 x] w3 fun e w' => e = .returned (.tuple #[]) ∧ Dn g g wr w' out once stay ⟨[x], 0⟩) := fun x w3 hb3 => by
              refine (rgive_any x (HD.out.ext hb3) (by have := HLEN.out; omega)).mono ?_
              intro e w' hg3
              have hn := dn_one hg3
              exact ⟨hg3.1, hn.1, (hb3.mono (Nat.le_of_lt HD.out.lt)).trans hn.2⟩
            clear hsx hh hSB TK0 CE0 MAT GV hj1v hj2 hj3 hj4 hv
            go_wp2_with (first | (go_at_call 17; refine HX.out.mono ?_; rintro e w3 ⟨rfl, b3⟩; (try dsimp only [Option.getD_some]); have G3 := hidIt (GV3.out (-1 - v) w3 b3); clear b3) | (go_at_call 16; refine G3.out.mono ?_; rintro e w4 ⟨rfl, hn4⟩; have N3 := hidIt hn4; clear hn4; (try dsimp only)))
            obtain ⟨hq1, hq2, done', out', once', stay', HF⟩ := HI.out.one hjl HST.out (by simp) N3.out
            refine ⟨⟨_, done', out', once', stay', by go_num, HF⟩, ?_⟩
            simp only [intOf]
            omega

        · have hxb : (c' == 120) = false := by simpa using hx
          have hse : ste line mt rep j = (esc c').map (·, j2) := by
            rw [hSB, bsl_esc line mt rep j1 (by omega) (by rw [← HC'.out]; exact hid) (by rw [← HC'.out]; exact hx), ← HC'.out, HJ2.out]
          have ES := hidIt (rescaped_any c' HD.out (by have := HLEN.out; omega))
          unfold EsR at ES
          clear hSB TK0 CE0 MAT GV hj1v hj2 hid hdg hx H64
          cases he : esc c' with
          | none =>
            rw [he] at hse ES
            have HST : Hid (ste line mt rep j = none) := hse
            clear hse he
            rcases dgs with dg1 | ⟨dg1, dg2⟩
            all_goals
              go_wp2_with (go_at_call 18; refine ES.out.mono ?_; rintro e w3 ⟨rfl, rfl⟩; (try dsimp only))
              go_ret2
              exact BAD.out _ HBL.out (HI.out.bad HBG.out hjl HST.out)
          | some o =>
            rw [he] at hse ES
            have HST : Hid (ste line mt rep j = some (o, j2)) := hse
            have HO := hidIt (esc_one he)
            clear hse he
            rcases dgs with dg1 | ⟨dg1, dg2⟩
            all_goals
              go_wp2_with (go_at_call 18; refine ES.out.mono ?_; rintro e w3 ⟨rfl, hn3⟩; have N3 := hidIt hn3; clear hn3; (try dsimp only))
              obtain ⟨hq1, hq2, done', out', once', stay', HF⟩ := HI.out.one hjl HST.out HO.out N3.out
              refine ⟨⟨_, done', out', once', stay', by go_num, HF⟩, ?_⟩
              simp only [intOf]
              omega

end Go.Proofs.YtipnifenahhkoaaDoor
