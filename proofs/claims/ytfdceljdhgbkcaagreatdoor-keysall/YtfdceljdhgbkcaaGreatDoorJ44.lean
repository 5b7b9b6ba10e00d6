import Derived.Test.YtfdceljdhgbkcaaGreatDoorJ43
import Derived.Deep.CutBlock
/- The document's Spell. -/
namespace Go.Proofs.YtfdceljdhgbkcaaGreatDoor
open Go.RowKit
theorem optI_form {w : World} {base : Nat} {v : Value} {o : Option (List Int)} (h : OptI w base v o) : ∃ a n c, v = .slice a n c := by
  cases o with
  | none => exact ⟨_, _, _, h⟩
  | some l => obtain ⟨a, n, c, e, _⟩ := h.some; exact ⟨_, _, _, e⟩
theorem fold_next {α : Type} {f : α → List (List Int)} {g : Option (List Int) → List Int → Option (List Int)} {L : List α} {p : Nat} {x : α} (h : L[p]? = some x) (b : Option (List Int)) : ((L.take (p + 1)).flatMap f).foldl g b = (f x).foldl g (((L.take p).flatMap f).foldl g b) := by
  rw [List.take_add_one, h, List.flatMap_append, List.foldl_append]
  simp
theorem nmK_len (r : Int) : (nmK r).length ≤ 2 := by unfold nmK; split <;> simp
theorem nbK_len (c : Int) : (nbK c).length ≤ 20 := by
  unfold nbK
  split
  · exact dg_len _ _
  · simp
theorem TlM.at {w : World} {ta : Option Addr} {n tc : Nat} {os : List DRw} (h : TlM w (.slice ta n tc) os) {p : Nat} {o : DRw} (ho : os[p]? = some o) : ∃ g u zs, ta = some ⟨g, 0, none⟩ ∧ w.cell? ⟨g, p, none⟩ = some u ∧ OwnD w 0 u zs ∧ zs.map Prod.fst = dTls o := by
  obtain ⟨ta', tc', e, _, _, h⟩ := h.ex
  injection e with e1 e2 e3
  subst e1
  obtain ⟨g, u, zs, q1, _, q2⟩ := h p o ho
  exact ⟨g, u, zs, q1, q2⟩
theorem whl_len (r : DRw) (a : Int) : (dWhl r a).length ≤ r.ks.length + 1 := by unfold dWhl; split <;> simp
set_option maxRecDepth 100000 in
set_option maxHeartbeats 16000000 in
theorem r_Spell_any {b : Nat} {sl : Bool} (c : Cm) (w : World) (hT : TbM w b sl) :
    Calls Tryz.prog 13 #[.pointer (some ⟨b, 0, none⟩), cmV c] w fun e w' => ∃ v, e = .returned v ∧ OptI w' 0 v (dSpl sl c) ∧ Below w.heap.size w w' := by
  obtain ⟨cr, cc, cv, cm, ca⟩ := c
  have HX := hidIt (show dSpl sl (⟨cr, cc, cv, cm, ca⟩ : Cm) = if cc < 0 ∨ cc > 9999 then none else (cnd sl (⟨cr, cc, cv, cm, ca⟩ : Cm)).foldl (dBtr sl (⟨cr, cc, cv, cm, ca⟩ : Cm)) none from rfl)
  generalize dSpl sl (⟨cr, cc, cv, cm, ca⟩ : Cm) = RES at HX ⊢
  obtain ⟨rv, ov, tv, xs, os, t1, t2, t3, t4, t5, t6⟩ := hT.ex
  obtain ⟨ra, rn, rc, rfl⟩ := t2.form
  obtain ⟨oa, on, oc, rfl⟩ := t4.form
  obtain ⟨ta, tc, rfl, t7, t8, t9⟩ := t6.ex
  obtain ⟨hrn, hrc⟩ : rn = xs.length ∧ xs.length ≤ rc := by
    obtain ⟨⟨ao', cap', e, r1, _⟩, _⟩ := t2.rd
    injection e with e1 e2 e3
    exact ⟨e2, by omega⟩
  obtain ⟨hon, hoc⟩ : on = os.length ∧ os.length ≤ oc := by
    obtain ⟨⟨ao', cap', e, r1, _⟩, _⟩ := t4.rd
    injection e with e1 e2 e3
    exact ⟨e2, by omega⟩
  subst hrn
  subst hon
  have hol : (dOpl sl).length = os.length := by rw [← t5, List.length_map]
  have hO8 : os.length ≤ 8 := by rw [← hol]; cases sl <;> decide
  have hX9 : xs.length ≤ 1000 := by
    have : xs.length = (dRws sl).length := by rw [← t3, List.length_map]
    rw [this]
    cases sl
    · exact rows_len.2.1
    · exact rows_len.1
  have HRL : Hid (∀ r ∈ dRws sl, r.ks.length ≤ 100) := by cases sl; exact rows_ks.2.1; exact rows_ks.1
  have HOM : Hid (∀ o ∈ dOpl sl, o ∈ dOps) := by
    cases sl
    · exact fun o h => h
    · exact fun o h => by cases h
  rw [hol] at t6 t7
  have HTC : Hid (∀ y, Below w.heap.size w y → y.cell? ⟨b, 0, none⟩ = some (.slice ra xs.length rc) ∧ y.cell? ⟨b, 1, none⟩ = some (.slice oa os.length oc) ∧ y.cell? ⟨b, 2, none⟩ = some (.slice ta os.length tc) ∧ b < y.heap.size) := fun y hy => by
    have := cells3 ((hy.block _ (Array.getElem?_eq_some_iff.1 t1).1).trans t1)
    rw [hol] at this
    exact this
  have HTB := hidIt hT
  have HXO := hidIt t2
  have HXM := hidIt t3
  have HOO := hidIt t4
  have HOP := hidIt t5
  have HTL := hidIt t6
  have HOL := hidIt hol
  obtain ⟨w0, hw0⟩ : ∃ w0, w0 = w.alloc (.cells #[.int .i64 cr, .int .i64 cc, .int .i64 cv, .int .i64 cm, .int .i64 ca] 33) := ⟨_, rfl⟩
  have HB0 : Hid (Below w.heap.size w w0) := by unfold Hid; rw [hw0]; exact ext_alloc (Below.refl _ _) _
  have HR0 : Hid (w0.heap[w.heap.size]? = some (.cells #[.int .i64 cr, .int .i64 cc, .int .i64 cv, .int .i64 cm, .int .i64 ca] 33 (0, 0))) := by unfold Hid; rw [hw0]; exact heap_alloc_new _ _
  have HSC : Hid (∀ y, Below w0.heap.size w0 y → y.cell? ⟨w.heap.size, 0, none⟩ = some (.int .i64 cr) ∧ y.cell? ⟨w.heap.size, 1, none⟩ = some (.int .i64 cc) ∧ y.cell? ⟨w.heap.size, 2, none⟩ = some (.int .i64 cv) ∧ y.cell? ⟨w.heap.size, 3, none⟩ = some (.int .i64 cm) ∧ y.cell? ⟨w.heap.size, 4, none⟩ = some (.int .i64 ca)) := fun y hy => by
    obtain ⟨_, e0, e1, e2, e3, e4, _⟩ := cells5 ((hy.block _ (Array.getElem?_eq_some_iff.1 HR0.out).1).trans HR0.out)
    exact ⟨e0, e1, e2, e3, e4⟩
  clear hT t1 t2 t3 t4 t5 t6 t9 hol
  obtain ⟨q0, q1, q2, q3, q4⟩ := HSC.out w0 (Below.refl _ _)
  by_cases h1 : cc < 0
  · go_enter Tryz.func13, Tryz.ntmps13
    go_upto_region 1 with fail
    rw [← hw0]
    clear hw0
    go_wp2_with fail
    go_ret
    exact ⟨_, rfl, by have := HX.out; rw [if_pos (.inl h1)] at this; rw [this]; rfl, HB0.out⟩
  by_cases h2 : cc > 9999
  · go_enter Tryz.func13, Tryz.ntmps13
    go_upto_region 1 with fail
    rw [← hw0]
    clear hw0
    go_wp2_with fail
    go_ret
    exact ⟨_, rfl, by have := HX.out; rw [if_pos (.inr h2)] at this; rw [this]; rfl, HB0.out⟩
  rw [if_neg (fun h => h.elim h1 h2)] at HX
  have HDG := hidIt (r_digits_any cc w0 (by omega) (by omega))
  go_enter Tryz.func13, Tryz.ntmps13
  go_upto_region 1 with fail
  rw [← hw0]
  clear hw0
  go_upto_region 4 with (go_at_call 26; refine HDG.out.mono ?_; rintro e y ⟨dv, rfl, ho, hb⟩; obtain ⟨na, nc, rfl, _⟩ := ho.rds.len; (try dsimp only); have HNB0 := hidIt (ho.le (Nat.zero_le _)); have HBY := hidIt hb; clear ho hb HDG)
  clear h1 h2 q0 q1 q2 q3 q4
  obtain ⟨q0, q1, q2, q3, q4⟩ := HSC.out y HBY.out
  go_upto_if 27 with fail
  go_cut [6] from 25 to 30 (fun rv wF => ∃ (ra9 : Option Addr) (n9 c9 : Nat), rv = .slice ra9 n9 c9 ∧ Hid (OwnI wF 0 (.slice ra9 n9 c9) (nmK cr)) ∧ Hid (Below y.heap.size y wF))
  case first =>
    by_cases hc : cr = 0
    · have hcb : (cr != 0) = false := by simpa using hc
      have HE : Hid (nmK cr = []) := by unfold Hid nmK; rw [if_pos hc]
      clear hc
      go_wp2_with fail
      go_meet
      case rel => exact ⟨_, _, _, rfl, by rw [HE.out]; exact OwnI.nil _ _, Below.refl _ _⟩
    · have hcb : (cr != 0) = true := by simpa using hc
      have HE : Hid (nmK cr = [34, cr]) := by unfold Hid nmK; rw [if_neg hc]
      clear hc
      go_wp2_with fail
      go_meet
      case rel => exact ⟨_, _, _, rfl, by rw [HE.out]; exact own_lit2 _ _ _ _ (Nat.zero_le _), ext_alloc (Below.refl _ _) _⟩
  case rest =>
    obtain ⟨ma, mn, mc, rfl, HNM, HBM⟩ := hcut
    obtain ⟨w2, hw2⟩ : ∃ w2, w2 = wc := ⟨_, rfl⟩
    rw [← hw2] at HNM HBM ⊢
    clear hw2
    have HB2 : Hid (Below w0.heap.size w0 w2) := ext_trans HBY.out HBM.out
    have HBW2 : Hid (Below w.heap.size w w2) := ext_trans HB0.out HB2.out
    have HNB := hidIt (HNB0.out.ext HBM.out)
    clear HNB0 HBM HBY q0 q1 q2 q3 q4
    go_wp2_with fail
    go_loopw [7, 8] (fun bv iv wr => ∃ (p : Nat) (ao : Option Addr) (n c : Nat) (bo : Option (List Int)), p ≤ xs.length ∧ iv = .int .i64 p ∧ bv = .slice ao n c ∧ Hid (OptI wr 0 (.slice ao n c) bo) ∧ Hid (((((dRws sl).take p).flatMap (cnR (⟨cr, cc, cv, cm, ca⟩ : Cm))).foldl (dBtr sl (⟨cr, cc, cv, cm, ca⟩ : Cm)) none) = bo) ∧ Hid (Below w2.heap.size w2 wr)) (fun _ iv _ => xs.length - (RowKit.intOf iv).toNat)
    case atStart => exact ⟨0, none, 0, 0, none, Nat.zero_le _, rfl, rfl, rfl, rfl, Below.refl _ _⟩
    case round =>
      obtain ⟨p, ao, n, c, bo, hp, rfl, rfl, HO, HM, HB⟩ := hrel
      have HBW : Hid (Below w.heap.size w wr) := ext_trans HBW2.out HB.out
      have HB02 : Hid (Below w0.heap.size w0 wr) := ext_trans HB2.out HB.out
      obtain ⟨c0, c1, c2, cb⟩ := HTC.out wr HBW.out
      by_cases hlt : p < xs.length
      · have hltI : (p : Int) < (xs.length : Int) := by omega
        obtain ⟨_, _, g, rfl, x, hx, hxk, d0, d1, d2, d3, d4⟩ := (HXO.out.ext HBW.out).at hlt
        have hTp : (dRws sl)[p]? = some x.1 := by rw [← HXM.out, List.getElem?_map, hx]; rfl
        have HFN := hidIt (fold_next (f := cnR (⟨cr, cc, cv, cm, ca⟩ : Cm)) (g := dBtr sl (⟨cr, cc, cv, cm, ca⟩ : Cm)) hTp none)
        rw [HM.out] at HFN
        have HKY := hidIt (keys_doc (List.mem_of_getElem? hTp))
        have HKL := hidIt (HRL.out x.1 (List.mem_of_getElem? hTp))
        obtain ⟨⟨rk, rv, rm, ra, ras⟩, kv⟩ := x
        dsimp only at *
        obtain ⟨xa, xc, rfl, _⟩ := hxk.1.len
        have HXK := hidIt hxk
        have HSA : Hid (∀ y, Below wr.heap.size wr y → y.cell? ⟨b, 0, none⟩ = some (.slice (some ⟨g, 0, none⟩) xs.length rc) ∧ y.cell? ⟨g, p * 5, none⟩ = some (.slice xa rk.length xc) ∧ y.cell? ⟨g, p * 5 + 1, none⟩ = some (.int .i64 rv) ∧ y.cell? ⟨g, p * 5 + 2, none⟩ = some (.int .i64 rm) ∧ y.cell? ⟨g, p * 5 + 3, none⟩ = some (.int .i64 ra) ∧ y.cell? ⟨g, p * 5 + 4, none⟩ = some (.bool ras) ∧ y.cell? ⟨w.heap.size, 0, none⟩ = some (.int .i64 cr) ∧ y.cell? ⟨w.heap.size, 1, none⟩ = some (.int .i64 cc) ∧ y.cell? ⟨w.heap.size, 2, none⟩ = some (.int .i64 cv) ∧ y.cell? ⟨w.heap.size, 3, none⟩ = some (.int .i64 cm) ∧ y.cell? ⟨w.heap.size, 4, none⟩ = some (.int .i64 ca)) := fun y hy => by
          have lt : g < wr.heap.size := cell_lt d1
          obtain ⟨f0, _, _, _⟩ := HTC.out y (ext_trans HBW.out hy)
          exact ⟨f0, (hy.cell (p := ⟨g, p * 5, none⟩) lt).trans d0, (hy.cell (p := ⟨g, p * 5 + 1, none⟩) lt).trans d1, (hy.cell (p := ⟨g, p * 5 + 2, none⟩) lt).trans d2, (hy.cell (p := ⟨g, p * 5 + 3, none⟩) lt).trans d3, (hy.cell (p := ⟨g, p * 5 + 4, none⟩) lt).trans d4, HSC.out y (ext_trans HB02.out hy)⟩
        obtain ⟨q0, q1, q2, q3, q4⟩ := HSC.out wr HB02.out
        clear hx hxk hTp
        by_cases hv : rv = cv
        · obtain rfl : cv = rv := hv.symm
          have hvb : (cv != cv) = false := by simp
          go_upto_region 11 with fail
          go_quiet (fail)
          go_upto_region 12 with fail
          generalize hwq : World.drewN wr _ = wq
          have HBQ1 : Hid (Below wr.heap.size wr wq) := by unfold Hid; rw [← hwq]; exact below_drewN (Below.refl _ _) _
          have HBQ : Hid (Below w2.heap.size w2 wq) := ext_trans HB.out HBQ1.out
          have HBQ0 : Hid (Below w0.heap.size w0 wq) := ext_trans HB02.out HBQ1.out
          have HBWQ : Hid (Below w.heap.size w wq) := ext_trans HBW.out HBQ1.out
          clear hwq c0 c1 c2 cb d0 d1 d2 d3 d4 q0 q1 q2 q3 q4
          have HKX := hidIt (HXK.out.ext HBQ1.out)
          have HS : Hid (∀ y, Below wq.heap.size wq y → y.cell? ⟨b, 0, none⟩ = some (.slice (some ⟨g, 0, none⟩) xs.length rc) ∧ y.cell? ⟨g, p * 5, none⟩ = some (.slice xa rk.length xc) ∧ y.cell? ⟨g, p * 5 + 1, none⟩ = some (.int .i64 cv) ∧ y.cell? ⟨g, p * 5 + 2, none⟩ = some (.int .i64 rm) ∧ y.cell? ⟨g, p * 5 + 3, none⟩ = some (.int .i64 ra) ∧ y.cell? ⟨g, p * 5 + 4, none⟩ = some (.bool ras) ∧ y.cell? ⟨w.heap.size, 0, none⟩ = some (.int .i64 cr) ∧ y.cell? ⟨w.heap.size, 1, none⟩ = some (.int .i64 cc) ∧ y.cell? ⟨w.heap.size, 2, none⟩ = some (.int .i64 cv) ∧ y.cell? ⟨w.heap.size, 3, none⟩ = some (.int .i64 cm) ∧ y.cell? ⟨w.heap.size, 4, none⟩ = some (.int .i64 ca)) := fun y hy => HSA.out y (ext_trans HBQ1.out hy)
          refine wp_region_held_drew (S := fun w' => w'.cell? ⟨b, 0, none⟩ = some (.slice (some ⟨g, 0, none⟩) xs.length rc) ∧ w'.cell? ⟨g, p * 5, none⟩ = some (.slice xa rk.length xc) ∧ w'.cell? ⟨g, p * 5 + 1, none⟩ = some (.int .i64 cv) ∧ w'.cell? ⟨g, p * 5 + 2, none⟩ = some (.int .i64 rm) ∧ w'.cell? ⟨g, p * 5 + 3, none⟩ = some (.int .i64 ra) ∧ w'.cell? ⟨g, p * 5 + 4, none⟩ = some (.bool ras) ∧ w'.cell? ⟨w.heap.size, 0, none⟩ = some (.int .i64 cr) ∧ w'.cell? ⟨w.heap.size, 1, none⟩ = some (.int .i64 cc) ∧ w'.cell? ⟨w.heap.size, 2, none⟩ = some (.int .i64 cv) ∧ w'.cell? ⟨w.heap.size, 3, none⟩ = some (.int .i64 cm) ∧ w'.cell? ⟨w.heap.size, 4, none⟩ = some (.int .i64 ca)) (by kernel_rfl) (by first | exact HS.out _ (Below.refl _ _) | exact HS.out _ (Below.refl _ _).drew) (fun hHeld => ?_)
          refine wpAnyH_take (i := 0) (oi := _) (v := ?_) rfl (by kernel_rfl) (by kernel_rfl) (by kernel_rfl) (fun _ _ _ h => h) (Or.inl ⟨by rfl, ?_⟩) (by assumption) ?_
          rotate_left 1
          · intro wq hSw; (try dsimp only at hSw); go_simp; try (with_reducible rfl)
          try simp only [Act.put, List.getElem_toArray, List.getElem_cons_zero, List.setIfInBounds_toArray, List.set_cons_zero, List.set_cons_succ]
          refine wpAnyH_take (i := 1) (oi := _) (v := ?_) rfl (by kernel_rfl) (by kernel_rfl) (by kernel_rfl) (fun _ _ _ h => h) (Or.inl ⟨by rfl, ?_⟩) (by assumption) ?_
          rotate_left 1
          · intro wq hSw; (try dsimp only at hSw); go_simp; try (with_reducible rfl)
          try simp only [Act.put, List.getElem_toArray, List.getElem_cons_succ, List.getElem_cons_zero, List.setIfInBounds_toArray, List.set_cons_zero, List.set_cons_succ]
          refine wpAnyH_take (i := 2) (oi := _) (v := ?_) rfl (by kernel_rfl) (by kernel_rfl) (by kernel_rfl) (fun _ _ _ h => h) (Or.inl ⟨by rfl, ?_⟩) (by assumption) ?_
          rotate_left 1
          · intro wq hSw; (try dsimp only at hSw); go_simp; try (with_reducible rfl)
          try simp only [Act.put, List.getElem_toArray, List.getElem_cons_succ, List.getElem_cons_zero, List.setIfInBounds_toArray, List.set_cons_zero, List.set_cons_succ]
          refine wpAnyH_take (i := 3) (oi := _) (v := ?_) rfl (by kernel_rfl) (by kernel_rfl) (by kernel_rfl) (fun _ _ _ h => h) (Or.inl ⟨by rfl, ?_⟩) (by assumption) ?_
          rotate_left 1
          · intro wq hSw; (try dsimp only at hSw); go_simp; try (with_reducible rfl)
          try simp only [Act.put, List.getElem_toArray, List.getElem_cons_succ, List.getElem_cons_zero, List.setIfInBounds_toArray, List.set_cons_zero, List.set_cons_succ]
          refine wpAnyH_take (i := 4) (oi := _) (v := ?_) rfl (by kernel_rfl) (by kernel_rfl) (by kernel_rfl) (fun _ _ _ h => h) (Or.inl ⟨by rfl, ?_⟩) (by assumption) ?_
          rotate_left 1
          · intro wq hSw; (try dsimp only at hSw); go_simp; try (with_reducible rfl)
          try simp only [Act.put, List.getElem_toArray, List.getElem_cons_succ, List.getElem_cons_zero, List.setIfInBounds_toArray, List.set_cons_zero, List.set_cons_succ]
          refine wpAnyH_take (i := 5) (oi := _) (v := ?_) rfl (by kernel_rfl) (by kernel_rfl) (by kernel_rfl) (fun _ _ _ h => h) (Or.inl ⟨by rfl, ?_⟩) (by assumption) ?_
          rotate_left 1
          · intro wq hSw; (try dsimp only at hSw); go_simp; try (with_reducible rfl)
          try simp only [Act.put, List.getElem_toArray, List.getElem_cons_succ, List.getElem_cons_zero, List.setIfInBounds_toArray, List.set_cons_zero, List.set_cons_succ]
          refine wpAnyH_take (i := 6) (oi := _) (v := ?_) rfl (by kernel_rfl) (by kernel_rfl) (by kernel_rfl) (fun _ _ _ h => h) (Or.inl ⟨by rfl, ?_⟩) (by assumption) ?_
          rotate_left 1
          · intro wq hSw; (try dsimp only at hSw); go_simp; try (with_reducible rfl)
          try simp only [Act.put, List.getElem_toArray, List.getElem_cons_succ, List.getElem_cons_zero, List.setIfInBounds_toArray, List.set_cons_zero, List.set_cons_succ]
          refine wpAnyH_take (i := 7) (oi := _) (v := ?_) rfl (by kernel_rfl) (by kernel_rfl) (by kernel_rfl) (fun _ _ _ h => h) (Or.inl ⟨by rfl, ?_⟩) (by assumption) ?_
          rotate_left 1
          · intro wq hSw; (try dsimp only at hSw); go_simp; try (with_reducible rfl)
          try simp only [Act.put, List.getElem_toArray, List.getElem_cons_succ, List.getElem_cons_zero, List.setIfInBounds_toArray, List.set_cons_zero, List.set_cons_succ]
          refine wpAnyH_take (i := 8) (oi := _) (v := ?_) rfl (by kernel_rfl) (by kernel_rfl) (by kernel_rfl) (fun _ _ _ h => h) (Or.inl ⟨by rfl, ?_⟩) (by assumption) ?_
          rotate_left 1
          · intro wq hSw; (try dsimp only at hSw); go_simp; try (with_reducible rfl)
          try simp only [Act.put, List.getElem_toArray, List.getElem_cons_succ, List.getElem_cons_zero, List.setIfInBounds_toArray, List.set_cons_zero, List.set_cons_succ]
          refine wpAnyH_ready (rs := [9]) (by kernel_rfl) (by simp) ?_
          refine AllReadyH.cons (o := _) rfl (fun K hK => ?_) AllReadyH.nil
          go_simp
          (first | refine (r_whole_any ⟨rk, cv, rm, ra, ras⟩ _ ca _ (HKX.out.1.ext (Below.refl _ _)) HKL.out).mono ?_ | refine (r_whole_any ⟨rk, cv, rm, ra, ras⟩ _ ca _ (HKX.out.1.ext (Below.refl _ _).drew) HKL.out).mono ?_); rintro e y1 ⟨v1, rfl, hr1, hb1⟩; obtain ⟨a1, c1, rfl, _⟩ := hr1.len; have HW1 := hidIt hr1; have HB1 : Hid (Below wq.heap.size wq y1) := (by first | exact ext_trans (Below.refl _ _) hb1 | exact ext_trans (Below.refl _ _).drew hb1); clear hr1 hb1; (try dsimp only)
          refine hK.out _ _ ?_ (fun hHeld => ?_)
          · exact HS.out _ HB1.out
          clear hK K
          try simp only [Act.put, List.getElem_toArray, List.getElem_cons_succ, List.getElem_cons_zero, List.setIfInBounds_toArray, List.set_cons_zero, List.set_cons_succ]
          refine wpAnyH_take (i := 10) (oi := _) (v := ?_) rfl (by kernel_rfl) (by kernel_rfl) (by kernel_rfl) (fun _ _ _ h => h) (Or.inl ⟨by rfl, ?_⟩) (by assumption) ?_
          rotate_left 1
          · intro wq hSw; (try dsimp only at hSw); go_simp; try (with_reducible rfl)
          try simp only [Act.put, List.getElem_toArray, List.getElem_cons_succ, List.getElem_cons_zero, List.setIfInBounds_toArray, List.set_cons_zero, List.set_cons_succ]
          refine wpAnyH_done (by kernel_rfl) ?_ _
          clear HS
          have HJK : Hid (cnR (⟨cr, cc, cv, cm, ca⟩ : Cm) ⟨rk, cv, rm, ra, ras⟩ = [nmK cr ++ nbK cc ++ dWhl ⟨rk, cv, rm, ra, ras⟩ ca, nbK cc ++ nmK cr ++ dWhl ⟨rk, cv, rm, ra, ras⟩ ca]) := by unfold Hid cnR; rw [if_pos rfl]
          have hwl := whl_len ⟨rk, cv, rm, ra, ras⟩ ca
          have hwn : dWhl ⟨rk, cv, rm, ra, ras⟩ ca ≠ [] := by unfold dWhl; split; simp; exact HKY.out.1
          have hnm := nmK_len cr
          have hnb := nbK_len cc
          generalize dWhl ⟨rk, cv, rm, ra, ras⟩ ca = RW at HJK HW1 hwl hwn ⊢
          dsimp only at hwl
          have hkl9 := HKL.out
          have HJL1 : Hid ((nmK cr).length + (nbK cc).length + RW.length ≤ 20000) := by unfold Hid; omega
          have HJL2 : Hid ((nbK cc).length + (nmK cr).length + RW.length ≤ 20000) := by unfold Hid; omega
          have HKN1 : Hid (nmK cr ++ nbK cc ++ RW ≠ []) := by unfold Hid; simp [hwn]
          have HKN2 : Hid (nbK cc ++ nmK cr ++ RW ≠ []) := by unfold Hid; simp [hwn]
          have HKM1 : Hid ((nmK cr ++ nbK cc ++ RW).length ≤ 20000) := by unfold Hid; rw [List.length_append, List.length_append]; omega
          have HKM2 : Hid ((nbK cc ++ nmK cr ++ RW).length ≤ 20000) := by unfold Hid; rw [List.length_append, List.length_append]; omega
          rw [HJK.out, List.foldl_cons, List.foldl_cons, List.foldl_nil] at HFN
          obtain ⟨KA, HKE1⟩ : ∃ K, Hid (K = nmK cr ++ nbK cc ++ RW) := ⟨_, hidIt rfl⟩
          obtain ⟨KB, HKE2⟩ : ∃ K, Hid (K = nbK cc ++ nmK cr ++ RW) := ⟨_, hidIt rfl⟩
          rw [← HKE1.out] at HKN1 HKM1 HFN
          rw [← HKE2.out] at HKN2 HKM2 HFN
          generalize hbo1 : dBtr sl (⟨cr, cc, cv, cm, ca⟩ : Cm) bo KA = bo1 at HFN
          generalize hbo2 : dBtr sl (⟨cr, cc, cv, cm, ca⟩ : Cm) bo1 KB = bo2 at HFN
          replace hbo1 := hidIt hbo1
          replace hbo2 := hidIt hbo2
          clear hwl hwn hnm hnb hkl9 HJK HSA
          go_upto_region 13 with fail
          have HS : Hid (∀ y, Below y1.heap.size y1 y → y.cell? ⟨w.heap.size, 0, none⟩ = some (.int .i64 cr) ∧ y.cell? ⟨w.heap.size, 1, none⟩ = some (.int .i64 cc) ∧ y.cell? ⟨w.heap.size, 2, none⟩ = some (.int .i64 cv) ∧ y.cell? ⟨w.heap.size, 3, none⟩ = some (.int .i64 cm) ∧ y.cell? ⟨w.heap.size, 4, none⟩ = some (.int .i64 ca)) := fun y hy => HSC.out y (ext_trans (ext_trans HBQ0.out HB1.out) hy)
          refine wp_region_held_drew (S := fun w' => w'.cell? ⟨w.heap.size, 0, none⟩ = some (.int .i64 cr) ∧ w'.cell? ⟨w.heap.size, 1, none⟩ = some (.int .i64 cc) ∧ w'.cell? ⟨w.heap.size, 2, none⟩ = some (.int .i64 cv) ∧ w'.cell? ⟨w.heap.size, 3, none⟩ = some (.int .i64 cm) ∧ w'.cell? ⟨w.heap.size, 4, none⟩ = some (.int .i64 ca)) (by kernel_rfl) (by first | exact HS.out _ (Below.refl _ _) | exact HS.out _ (Below.refl _ _).drew) (fun hHeld => ?_)
          refine wpAnyH_take (i := 0) (oi := _) (v := ?_) rfl (by kernel_rfl) (by kernel_rfl) (by kernel_rfl) (fun _ _ _ h => h) (Or.inl ⟨by rfl, ?_⟩) (by assumption) ?_
          rotate_left 1
          · intro wq hSw; (try dsimp only at hSw); go_simp; try (with_reducible rfl)
          try simp only [Act.put, List.getElem_toArray, List.getElem_cons_zero, List.setIfInBounds_toArray, List.set_cons_zero, List.set_cons_succ]
          refine wpAnyH_take (i := 1) (oi := _) (v := ?_) rfl (by kernel_rfl) (by kernel_rfl) (by kernel_rfl) (fun _ _ _ h => h) (Or.inl ⟨by rfl, ?_⟩) (by assumption) ?_
          rotate_left 1
          · intro wq hSw; (try dsimp only at hSw); go_simp; try (with_reducible rfl)
          try simp only [Act.put, List.getElem_toArray, List.getElem_cons_succ, List.getElem_cons_zero, List.setIfInBounds_toArray, List.set_cons_zero, List.set_cons_succ]
          refine wpAnyH_take (i := 2) (oi := _) (v := ?_) rfl (by kernel_rfl) (by kernel_rfl) (by kernel_rfl) (fun _ _ _ h => h) (Or.inl ⟨by rfl, ?_⟩) (by assumption) ?_
          rotate_left 1
          · intro wq hSw; (try dsimp only at hSw); go_simp; try (with_reducible rfl)
          try simp only [Act.put, List.getElem_toArray, List.getElem_cons_succ, List.getElem_cons_zero, List.setIfInBounds_toArray, List.set_cons_zero, List.set_cons_succ]
          refine wpAnyH_take (i := 3) (oi := _) (v := ?_) rfl (by kernel_rfl) (by kernel_rfl) (by kernel_rfl) (fun _ _ _ h => h) (Or.inl ⟨by rfl, ?_⟩) (by assumption) ?_
          rotate_left 1
          · intro wq hSw; (try dsimp only at hSw); go_simp; try (with_reducible rfl)
          try simp only [Act.put, List.getElem_toArray, List.getElem_cons_succ, List.getElem_cons_zero, List.setIfInBounds_toArray, List.set_cons_zero, List.set_cons_succ]
          refine wpAnyH_take (i := 4) (oi := _) (v := ?_) rfl (by kernel_rfl) (by kernel_rfl) (by kernel_rfl) (fun _ _ _ h => h) (Or.inl ⟨by rfl, ?_⟩) (by assumption) ?_
          rotate_left 1
          · intro wq hSw; (try dsimp only at hSw); go_simp; try (with_reducible rfl)
          try simp only [Act.put, List.getElem_toArray, List.getElem_cons_succ, List.getElem_cons_zero, List.setIfInBounds_toArray, List.set_cons_zero, List.set_cons_succ]
          refine wpAnyH_take (i := 6) (oi := _) (v := ?_) rfl (by kernel_rfl) (by kernel_rfl) (by kernel_rfl) (fun _ _ _ h => h) (Or.inl ⟨by rfl, ?_⟩) (by assumption) ?_
          rotate_left 1
          · intro wq hSw; (try dsimp only at hSw); go_simp; try (with_reducible rfl)
          try simp only [Act.put, List.getElem_toArray, List.getElem_cons_succ, List.getElem_cons_zero, List.setIfInBounds_toArray, List.set_cons_zero, List.set_cons_succ]
          refine wpAnyH_ready (rs := [5]) (by kernel_rfl) (by simp) ?_
          refine AllReadyH.cons (o := _) rfl (fun K hK => ?_) AllReadyH.nil
          go_simp
          (first | refine (r_joined_any _ _ _ (nmK cr) (nbK cc) RW _ ((HNM.out.ext (ext_trans HBQ.out HB1.out)).rds.ext (Below.refl _ _)) ((HNB.out.ext (ext_trans HBQ.out HB1.out)).rds.ext (Below.refl _ _)) (HW1.out.ext (Below.refl _ _)) HJL1.out).mono ?_ | refine (r_joined_any _ _ _ (nmK cr) (nbK cc) RW _ ((HNM.out.ext (ext_trans HBQ.out HB1.out)).rds.ext (Below.refl _ _).drew) ((HNB.out.ext (ext_trans HBQ.out HB1.out)).rds.ext (Below.refl _ _).drew) (HW1.out.ext (Below.refl _ _).drew) HJL1.out).mono ?_); rintro e y2 ⟨v2, rfl, ho2, hb2⟩; rw [← HKE1.out] at ho2; obtain ⟨a2, c2, rfl, _⟩ := ho2.rds.len; have HJ2 := hidIt ho2; have HB2 : Hid (Below y1.heap.size y1 y2) := (by first | exact ext_trans (Below.refl _ _) hb2 | exact ext_trans (Below.refl _ _).drew hb2); clear ho2 hb2; (try dsimp only)
          refine hK.out _ _ ?_ (fun hHeld => ?_)
          · exact HS.out _ HB2.out
          clear hK K
          try simp only [Act.put, List.getElem_toArray, List.getElem_cons_succ, List.getElem_cons_zero, List.setIfInBounds_toArray, List.set_cons_zero, List.set_cons_succ]
          refine wpAnyH_ready (rs := [7]) (by kernel_rfl) (by simp) ?_
          refine AllReadyH.cons (o := _) rfl (fun K hK => ?_) AllReadyH.nil
          go_simp
          (first | refine (r_better_any _ _ bo (KA) (⟨cr, cc, cv, cm, ca⟩ : Cm) _ (HTB.out.ext (ext_trans (ext_trans (ext_trans HBWQ.out HB1.out) HB2.out) (Below.refl _ _))) ((HO.out.ext (ext_trans HBQ1.out HB1.out)).ext (ext_trans HB2.out (Below.refl _ _))) ((HJ2.out.le (Nat.zero_le _)).ext (Below.refl _ _)) HKN1.out HKM1.out).mono ?_ | refine (r_better_any _ _ bo (KA) (⟨cr, cc, cv, cm, ca⟩ : Cm) _ (HTB.out.ext (ext_trans (ext_trans (ext_trans HBWQ.out HB1.out) HB2.out) (Below.refl _ _).drew)) ((HO.out.ext (ext_trans HBQ1.out HB1.out)).ext (ext_trans HB2.out (Below.refl _ _).drew)) ((HJ2.out.le (Nat.zero_le _)).ext (Below.refl _ _).drew) HKN1.out HKM1.out).mono ?_); rintro e y3 ⟨v3, rfl, ho3, hb3⟩; obtain ⟨a3, n3, c3, rfl⟩ := optI_form ho3; have HObo1 := hidIt ho3; have HBy3 : Hid (Below y1.heap.size y1 y3) := (by first | exact ext_trans (ext_trans HB2.out (Below.refl _ _)) hb3 | exact ext_trans (ext_trans HB2.out (Below.refl _ _).drew) hb3); clear ho3 hb3 HJ2 HB2; (try dsimp only)
          refine hK.out _ _ ?_ (fun hHeld => ?_)
          · exact HS.out _ HBy3.out
          clear hK K
          try simp only [Act.put, List.getElem_toArray, List.getElem_cons_succ, List.getElem_cons_zero, List.setIfInBounds_toArray, List.set_cons_zero, List.set_cons_succ]
          refine wpAnyH_take (i := 8) (oi := _) (v := ?_) rfl (by kernel_rfl) (by kernel_rfl) (by kernel_rfl) (fun _ _ _ h => h) (Or.inl ⟨by rfl, ?_⟩) (by assumption) ?_
          rotate_left 1
          · intro wq hSw; (try dsimp only at hSw); go_simp; try (with_reducible rfl)
          try simp only [Act.put, List.getElem_toArray, List.getElem_cons_succ, List.getElem_cons_zero, List.setIfInBounds_toArray, List.set_cons_zero, List.set_cons_succ]
          refine wpAnyH_done (by kernel_rfl) ?_ _
          clear HS
          rw [hbo1.out] at HObo1
          go_upto_region 14 with fail
          have HS : Hid (∀ y, Below y3.heap.size y3 y → y.cell? ⟨w.heap.size, 0, none⟩ = some (.int .i64 cr) ∧ y.cell? ⟨w.heap.size, 1, none⟩ = some (.int .i64 cc) ∧ y.cell? ⟨w.heap.size, 2, none⟩ = some (.int .i64 cv) ∧ y.cell? ⟨w.heap.size, 3, none⟩ = some (.int .i64 cm) ∧ y.cell? ⟨w.heap.size, 4, none⟩ = some (.int .i64 ca)) := fun y hy => HSC.out y (ext_trans (ext_trans (ext_trans HBQ0.out HB1.out) HBy3.out) hy)
          refine wp_region_held_drew (S := fun w' => w'.cell? ⟨w.heap.size, 0, none⟩ = some (.int .i64 cr) ∧ w'.cell? ⟨w.heap.size, 1, none⟩ = some (.int .i64 cc) ∧ w'.cell? ⟨w.heap.size, 2, none⟩ = some (.int .i64 cv) ∧ w'.cell? ⟨w.heap.size, 3, none⟩ = some (.int .i64 cm) ∧ w'.cell? ⟨w.heap.size, 4, none⟩ = some (.int .i64 ca)) (by kernel_rfl) (by first | exact HS.out _ (Below.refl _ _) | exact HS.out _ (Below.refl _ _).drew) (fun hHeld => ?_)
          refine wpAnyH_take (i := 0) (oi := _) (v := ?_) rfl (by kernel_rfl) (by kernel_rfl) (by kernel_rfl) (fun _ _ _ h => h) (Or.inl ⟨by rfl, ?_⟩) (by assumption) ?_
          rotate_left 1
          · intro wq hSw; (try dsimp only at hSw); go_simp; try (with_reducible rfl)
          try simp only [Act.put, List.getElem_toArray, List.getElem_cons_zero, List.setIfInBounds_toArray, List.set_cons_zero, List.set_cons_succ]
          refine wpAnyH_take (i := 1) (oi := _) (v := ?_) rfl (by kernel_rfl) (by kernel_rfl) (by kernel_rfl) (fun _ _ _ h => h) (Or.inl ⟨by rfl, ?_⟩) (by assumption) ?_
          rotate_left 1
          · intro wq hSw; (try dsimp only at hSw); go_simp; try (with_reducible rfl)
          try simp only [Act.put, List.getElem_toArray, List.getElem_cons_succ, List.getElem_cons_zero, List.setIfInBounds_toArray, List.set_cons_zero, List.set_cons_succ]
          refine wpAnyH_take (i := 2) (oi := _) (v := ?_) rfl (by kernel_rfl) (by kernel_rfl) (by kernel_rfl) (fun _ _ _ h => h) (Or.inl ⟨by rfl, ?_⟩) (by assumption) ?_
          rotate_left 1
          · intro wq hSw; (try dsimp only at hSw); go_simp; try (with_reducible rfl)
          try simp only [Act.put, List.getElem_toArray, List.getElem_cons_succ, List.getElem_cons_zero, List.setIfInBounds_toArray, List.set_cons_zero, List.set_cons_succ]
          refine wpAnyH_take (i := 3) (oi := _) (v := ?_) rfl (by kernel_rfl) (by kernel_rfl) (by kernel_rfl) (fun _ _ _ h => h) (Or.inl ⟨by rfl, ?_⟩) (by assumption) ?_
          rotate_left 1
          · intro wq hSw; (try dsimp only at hSw); go_simp; try (with_reducible rfl)
          try simp only [Act.put, List.getElem_toArray, List.getElem_cons_succ, List.getElem_cons_zero, List.setIfInBounds_toArray, List.set_cons_zero, List.set_cons_succ]
          refine wpAnyH_take (i := 4) (oi := _) (v := ?_) rfl (by kernel_rfl) (by kernel_rfl) (by kernel_rfl) (fun _ _ _ h => h) (Or.inl ⟨by rfl, ?_⟩) (by assumption) ?_
          rotate_left 1
          · intro wq hSw; (try dsimp only at hSw); go_simp; try (with_reducible rfl)
          try simp only [Act.put, List.getElem_toArray, List.getElem_cons_succ, List.getElem_cons_zero, List.setIfInBounds_toArray, List.set_cons_zero, List.set_cons_succ]
          refine wpAnyH_take (i := 6) (oi := _) (v := ?_) rfl (by kernel_rfl) (by kernel_rfl) (by kernel_rfl) (fun _ _ _ h => h) (Or.inl ⟨by rfl, ?_⟩) (by assumption) ?_
          rotate_left 1
          · intro wq hSw; (try dsimp only at hSw); go_simp; try (with_reducible rfl)
          try simp only [Act.put, List.getElem_toArray, List.getElem_cons_succ, List.getElem_cons_zero, List.setIfInBounds_toArray, List.set_cons_zero, List.set_cons_succ]
          refine wpAnyH_ready (rs := [5]) (by kernel_rfl) (by simp) ?_
          refine AllReadyH.cons (o := _) rfl (fun K hK => ?_) AllReadyH.nil
          go_simp
          (first | refine (r_joined_any _ _ _ (nbK cc) (nmK cr) RW _ ((HNB.out.ext (ext_trans (ext_trans HBQ.out HB1.out) HBy3.out)).rds.ext (Below.refl _ _)) ((HNM.out.ext (ext_trans (ext_trans HBQ.out HB1.out) HBy3.out)).rds.ext (Below.refl _ _)) ((HW1.out.ext HBy3.out).ext (Below.refl _ _)) HJL2.out).mono ?_ | refine (r_joined_any _ _ _ (nbK cc) (nmK cr) RW _ ((HNB.out.ext (ext_trans (ext_trans HBQ.out HB1.out) HBy3.out)).rds.ext (Below.refl _ _).drew) ((HNM.out.ext (ext_trans (ext_trans HBQ.out HB1.out) HBy3.out)).rds.ext (Below.refl _ _).drew) ((HW1.out.ext HBy3.out).ext (Below.refl _ _).drew) HJL2.out).mono ?_); rintro e y2 ⟨v2, rfl, ho2, hb2⟩; rw [← HKE2.out] at ho2; obtain ⟨a2, c2, rfl, _⟩ := ho2.rds.len; have HJ2 := hidIt ho2; have HB2 : Hid (Below y3.heap.size y3 y2) := (by first | exact ext_trans (Below.refl _ _) hb2 | exact ext_trans (Below.refl _ _).drew hb2); clear ho2 hb2; (try dsimp only)
          refine hK.out _ _ ?_ (fun hHeld => ?_)
          · exact HS.out _ HB2.out
          clear hK K
          try simp only [Act.put, List.getElem_toArray, List.getElem_cons_succ, List.getElem_cons_zero, List.setIfInBounds_toArray, List.set_cons_zero, List.set_cons_succ]
          refine wpAnyH_ready (rs := [7]) (by kernel_rfl) (by simp) ?_
          refine AllReadyH.cons (o := _) rfl (fun K hK => ?_) AllReadyH.nil
          go_simp
          (first | refine (r_better_any _ _ bo1 (KB) (⟨cr, cc, cv, cm, ca⟩ : Cm) _ (HTB.out.ext (ext_trans (ext_trans (ext_trans (ext_trans HBWQ.out HB1.out) HBy3.out) HB2.out) (Below.refl _ _))) (HObo1.out.ext (ext_trans HB2.out (Below.refl _ _))) ((HJ2.out.le (Nat.zero_le _)).ext (Below.refl _ _)) HKN2.out HKM2.out).mono ?_ | refine (r_better_any _ _ bo1 (KB) (⟨cr, cc, cv, cm, ca⟩ : Cm) _ (HTB.out.ext (ext_trans (ext_trans (ext_trans (ext_trans HBWQ.out HB1.out) HBy3.out) HB2.out) (Below.refl _ _).drew)) (HObo1.out.ext (ext_trans HB2.out (Below.refl _ _).drew)) ((HJ2.out.le (Nat.zero_le _)).ext (Below.refl _ _).drew) HKN2.out HKM2.out).mono ?_); rintro e y4 ⟨v3, rfl, ho3, hb3⟩; obtain ⟨a3, n3, c3, rfl⟩ := optI_form ho3; have HObo2 := hidIt ho3; have HBy4 : Hid (Below y3.heap.size y3 y4) := (by first | exact ext_trans (ext_trans HB2.out (Below.refl _ _)) hb3 | exact ext_trans (ext_trans HB2.out (Below.refl _ _).drew) hb3); clear ho3 hb3 HJ2 HB2; (try dsimp only)
          refine hK.out _ _ ?_ (fun hHeld => ?_)
          · exact HS.out _ HBy4.out
          clear hK K
          try simp only [Act.put, List.getElem_toArray, List.getElem_cons_succ, List.getElem_cons_zero, List.setIfInBounds_toArray, List.set_cons_zero, List.set_cons_succ]
          refine wpAnyH_take (i := 8) (oi := _) (v := ?_) rfl (by kernel_rfl) (by kernel_rfl) (by kernel_rfl) (fun _ _ _ h => h) (Or.inl ⟨by rfl, ?_⟩) (by assumption) ?_
          rotate_left 1
          · intro wq hSw; (try dsimp only at hSw); go_simp; try (with_reducible rfl)
          try simp only [Act.put, List.getElem_toArray, List.getElem_cons_succ, List.getElem_cons_zero, List.setIfInBounds_toArray, List.set_cons_zero, List.set_cons_succ]
          refine wpAnyH_done (by kernel_rfl) ?_ _
          clear HS
          rw [hbo2.out] at HObo2
          have HBF : Hid (Below w2.heap.size w2 y4) := ext_trans (ext_trans (ext_trans HBQ.out HB1.out) HBy3.out) HBy4.out
          go_wp2_with fail
          go_roundw
          case rel => exact ⟨p + 1, _, _, _, _, by omega, by go_num, rfl, HObo2.out, HFN.out, HBF.out⟩
          case measure => simp [RowKit.intOf]; omega

        · have hvb : (rv != cv) = true := by simpa using hv
          go_upto_region 11 with fail
          go_quiet (fail)
          go_wp2_with fail
          have HFX : Hid (((((dRws sl).take (p + 1)).flatMap (cnR (⟨cr, cc, cv, cm, ca⟩ : Cm))).foldl (dBtr sl (⟨cr, cc, cv, cm, ca⟩ : Cm)) none) = bo) := by
            have := HFN.out
            rw [show cnR (⟨cr, cc, cv, cm, ca⟩ : Cm) ⟨rk, rv, rm, ra, ras⟩ = [] by unfold cnR; rw [if_neg hv]] at this
            exact this
          go_roundw
          case rel => exact ⟨p + 1, _, _, _, bo, by omega, by go_num, rfl, HO.out.ext (below_drewN (Below.refl _ _) _), HFX.out, below_drewN HB.out _⟩
          case measure => simp [RowKit.intOf]; omega
      · obtain rfl : p = xs.length := by omega
        have hge : ¬ (xs.length : Int) < (xs.length : Int) := by omega
        obtain ⟨wl, rfl⟩ : ∃ wl, wl = wr := ⟨_, rfl⟩
        obtain ⟨bo0, hbo0⟩ : ∃ bo0, bo0 = bo := ⟨_, rfl⟩
        have HXR : Hid (RES = (((dOpl sl).flatMap (cnO (⟨cr, cc, cv, cm, ca⟩ : Cm))).foldl (dBtr sl (⟨cr, cc, cv, cm, ca⟩ : Cm)) bo0)) := by
          have h1 := HX.out
          rw [show cnd sl (⟨cr, cc, cv, cm, ca⟩ : Cm) = (dRws sl).flatMap (cnR (⟨cr, cc, cv, cm, ca⟩ : Cm)) ++ (dOpl sl).flatMap (cnO (⟨cr, cc, cv, cm, ca⟩ : Cm)) from rfl, List.foldl_append] at h1
          have h2 := HM.out
          rw [List.take_of_length_le (by rw [← HXM.out, List.length_map]; omega)] at h2
          rw [h2, ← hbo0] at h1
          exact h1
        rw [← hbo0] at HO
        have HO9 := HO
        clear HM HX hbo0 HO
        go_wp2_with fail
        go_loopw [7, 10] (fun bv iv wr => ∃ (p : Nat) (ao : Option Addr) (n c : Nat) (bo : Option (List Int)), p ≤ os.length ∧ iv = .int .i64 p ∧ bv = .slice ao n c ∧ Hid (OptI wr 0 (.slice ao n c) bo) ∧ Hid ((((dOpl sl).take p).flatMap (cnO (⟨cr, cc, cv, cm, ca⟩ : Cm))).foldl (dBtr sl (⟨cr, cc, cv, cm, ca⟩ : Cm)) bo0 = bo) ∧ Hid (Below wl.heap.size wl wr)) (fun _ iv _ => os.length - (RowKit.intOf iv).toNat)
        case atStart => exact ⟨0, _, _, _, bo0, Nat.zero_le _, rfl, rfl, HO9.out, rfl, Below.refl _ _⟩
        case round =>
          clear c0 c1 c2 cb HO9
          obtain ⟨p, ao, n, c, bo, hp, rfl, rfl, HO, HM, HBL⟩ := hrel
          obtain ⟨wo, rfl⟩ : ∃ wo, wo = wr := ⟨_, rfl⟩
          have HBWO : Hid (Below w.heap.size w wo) := ext_trans HBW.out HBL.out
          have HB0O : Hid (Below w0.heap.size w0 wo) := ext_trans HB02.out HBL.out
          have HB2O : Hid (Below w2.heap.size w2 wo) := ext_trans HB.out HBL.out
          obtain ⟨c0, c1, c2, cb⟩ := HTC.out wo HBWO.out
          by_cases hlt : p < os.length
          · have hltI : (p : Int) < (os.length : Int) := by omega
            obtain ⟨_, _, g, rfl, x, hx, hxk, d0, d1, d2, d3, d4⟩ := (HOO.out.ext HBWO.out).at hlt
            have hTp : (dOpl sl)[p]? = some x.1 := by rw [← HOP.out, List.getElem?_map, hx]; rfl
            have HFN := hidIt (fold_next (f := cnO (⟨cr, cc, cv, cm, ca⟩ : Cm)) (g := dBtr sl (⟨cr, cc, cv, cm, ca⟩ : Cm)) hTp bo0)
            rw [HM.out] at HFN
            have HOX := hidIt (HOM.out _ (List.mem_of_getElem? hTp))
            have HRK : Hid (x.1.ks.length ≤ 100) := by have := (rows_ks.2.2 x.1 HOX.out).1; unfold Hid; omega
            have HTO := hidIt ((HTL.out.ext HBWO.out).at hTp)
            obtain ⟨⟨rk, rv, rm, ra, ras⟩, kv⟩ := x
            dsimp only at *
            obtain ⟨xa, xc, rfl, _⟩ := hxk.1.len
            have HXK := hidIt hxk
            have lt : g < wo.heap.size := cell_lt d1
            have HSO : Hid (∀ y, Below wo.heap.size wo y → y.cell? ⟨b, 1, none⟩ = some (.slice (some ⟨g, 0, none⟩) os.length oc) ∧ y.cell? ⟨g, p * 5, none⟩ = some (.slice xa rk.length xc) ∧ y.cell? ⟨w.heap.size, 0, none⟩ = some (.int .i64 cr) ∧ y.cell? ⟨w.heap.size, 1, none⟩ = some (.int .i64 cc) ∧ y.cell? ⟨w.heap.size, 2, none⟩ = some (.int .i64 cv) ∧ y.cell? ⟨w.heap.size, 3, none⟩ = some (.int .i64 cm) ∧ y.cell? ⟨w.heap.size, 4, none⟩ = some (.int .i64 ca)) := fun y hy => by
              obtain ⟨_, f1, _, _⟩ := HTC.out y (ext_trans HBWO.out hy)
              exact ⟨f1, (hy.cell (p := ⟨g, p * 5, none⟩) lt).trans d0, HSC.out y (ext_trans HB0O.out hy)⟩
            obtain ⟨q0, q1, q2, q3, q4⟩ := HSC.out wo HB0O.out
            clear hx hxk hTp lt
            by_cases hv : rv = cv
            · obtain rfl : cv = rv := hv.symm
              have hvb : (cv != cv) = false := by simp
              go_upto_region 18 with fail
              go_quiet (fail)
              go_upto_region 19 with fail
              generalize hwq : World.drewN wo _ = wq
              have HBQ : Hid (Below wo.heap.size wo wq) := by unfold Hid; rw [← hwq]; exact below_drewN (Below.refl _ _) _
              have HO0 := hidIt (HO.out.ext HBQ.out)
              clear hwq c0 c1 c2 cb d0 d1 d2 d3 d4 q0 q1 q2 q3 q4 HO
              obtain ⟨tg, u, zs, hta, hu, huz, hum⟩ := HTO.out
              subst hta
              obtain ⟨ua, un, uc, rfl⟩ := huz.form
              obtain ⟨hun, huc⟩ : un = zs.length ∧ zs.length ≤ uc := by
                obtain ⟨⟨ao', cap', e, r1, _⟩, _⟩ := huz.rd
                injection e with e1 e2 e3
                exact ⟨e2, by omega⟩
              subst hun
              have HUO : Hid (∀ y, Below wo.heap.size wo y → y.cell? ⟨tg, p, none⟩ = some (.slice ua zs.length uc)) := fun y hy => (hy.cell (p := ⟨tg, p, none⟩) (cell_lt hu)).trans hu
              have HUZ := hidIt huz
              have HUM := hidIt hum
              have hz9 : zs.length ≤ 1000 := by
                have h := List.all_eq_true.1 rows_len.2.2 _ HOX.out
                have h2 : zs.length = (dTls ⟨rk, cv, rm, ra, ras⟩).length := by rw [← hum, List.length_map]
                rw [h2]
                simpa using h
              clear hu huz hum HTO
              go_wp2_with fail
              go_loopw [7, 11] (fun bv iv wr => ∃ (q : Nat) (ao : Option Addr) (n c : Nat) (boq : Option (List Int)), q ≤ zs.length ∧ iv = .int .i64 q ∧ bv = .slice ao n c ∧ Hid (OptI wr 0 (.slice ao n c) boq) ∧ Hid ((((dTls ⟨rk, cv, rm, ra, ras⟩).take q).flatMap (cnT (⟨cr, cc, cv, cm, ca⟩ : Cm) ⟨rk, cv, rm, ra, ras⟩)).foldl (dBtr sl (⟨cr, cc, cv, cm, ca⟩ : Cm)) bo = boq) ∧ Hid (Below wo.heap.size wo wr)) (fun _ iv _ => zs.length - (RowKit.intOf iv).toNat)
              case atStart => exact ⟨0, _, _, _, bo, Nat.zero_le _, rfl, rfl, HO0.out, rfl, HBQ.out⟩
              case round =>
                obtain ⟨q, ao, n, c, boq, hq, rfl, rfl, HO, HMQ, HB3⟩ := hrel
                have HBW3 : Hid (Below w.heap.size w wr) := ext_trans HBWO.out HB3.out
                obtain ⟨c0, c1, c2, cb⟩ := HTC.out wr HBW3.out
                have hu3 := HUO.out wr HB3.out
                by_cases hlt : q < zs.length
                · have hltI : (q : Int) < (zs.length : Int) := by omega
                  obtain ⟨_, _, gz, rfl, x, hx, hxk, d0, d1, d2, d3, d4⟩ := (HUZ.out.ext HB3.out).at hlt
                  have hTp : (dTls ⟨rk, cv, rm, ra, ras⟩)[q]? = some x.1 := by rw [← HUM.out, List.getElem?_map, hx]; rfl
                  have HFN2 := hidIt (fold_next (f := cnT (⟨cr, cc, cv, cm, ca⟩ : Cm) ⟨rk, cv, rm, ra, ras⟩) (g := dBtr sl (⟨cr, cc, cv, cm, ca⟩ : Cm)) hTp bo)
                  rw [HMQ.out] at HFN2
                  have HKT := hidIt (keys_tls HOX.out (List.mem_of_getElem? hTp))
                  have HKL : Hid (x.1.ks.length ≤ 100) := by unfold Hid; have h := List.all_eq_true.1 tls_ks _ HOX.out; have := List.all_eq_true.1 h x.1 (List.mem_of_getElem? hTp); simpa using this
                  obtain ⟨⟨sk, sv, sm, sa, sas⟩, kv⟩ := x
                  dsimp only at *
                  obtain ⟨za, zc, rfl, _⟩ := hxk.1.len
                  have HZK := hidIt hxk
                  clear hx hxk hTp
                  obtain ⟨w12, hw12⟩ : ∃ w12, w12 = wr.alloc (.cells #[.slice za sk.length zc, .int .i64 sv, .int .i64 sm, .int .i64 sa, .bool sas] 71) := ⟨_, rfl⟩
                  have HB12 : Hid (Below wr.heap.size wr w12) := by unfold Hid; rw [hw12]; exact ext_alloc (Below.refl _ _) _
                  have HC12 : Hid (w12.heap[wr.heap.size]? = some (.cells #[.slice za sk.length zc, .int .i64 sv, .int .i64 sm, .int .i64 sa, .bool sas] 71 (0, 0))) := by unfold Hid; rw [hw12]; exact heap_alloc_new _ _
                  go_upto_region 23 with fail
                  rw [← hw12]
                  clear hw12 c0 c1 c2 cb d0 d1 d2 d3 d4 hu3
                  generalize wr.heap.size = gr at HC12 ⊢
                  obtain ⟨_, e0, e1, e2, e3, e4, _⟩ := cells5 HC12.out
                  have HB12O : Hid (Below wo.heap.size wo w12) := ext_trans HB3.out HB12.out
                  obtain ⟨q0, q1, q2, q3, q4⟩ := HSC.out w12 (ext_trans HB0O.out HB12O.out)
                  go_cut [133] from 119 to 133 (fun tv wF => ∃ t : Bool, tv = .bool t ∧ Hid (t = false ↔ (sm = cm ∨ (sm = 33 ∧ cm = 18))) ∧ wF = w12)
                  case first =>
                    by_cases k1 : sm = cm
                    · have k1b : (sm != cm) = false := by simpa using k1
                      have HK : Hid (sm = cm ∨ (sm = 33 ∧ cm = 18)) := .inl k1
                      clear k1
                      go_wp2_with fail
                      go_meet
                      case rel => exact ⟨_, rfl, ⟨fun _ => HK.out, fun _ => rfl⟩, rfl⟩
                    · have k1b : (sm != cm) = true := by simpa using k1
                      by_cases k2 : sm = 33
                      · have k2b : (sm != 33) = false := by simpa using k2
                        by_cases k3 : cm = 18
                        · have k3b : (cm != 18) = false := by simpa using k3
                          have HK : Hid (sm = cm ∨ (sm = 33 ∧ cm = 18)) := .inr ⟨k2, k3⟩
                          clear k1 k2 k3
                          go_wp2_with fail
                          go_meet
                          case rel => exact ⟨_, rfl, ⟨fun _ => HK.out, fun _ => rfl⟩, rfl⟩
                        · have k3b : (cm != 18) = true := by simpa using k3
                          have HN : Hid (¬ (sm = cm ∨ (sm = 33 ∧ cm = 18))) := fun e => e.elim k1 (fun e => k3 e.2)
                          clear k1 k2 k3
                          go_wp2_with fail
                          go_meet
                          case rel => exact ⟨_, rfl, ⟨fun e => (by cases e), fun e => absurd e HN.out⟩, rfl⟩
                      · have k2b : (sm != 33) = true := by simpa using k2
                        have HN : Hid (¬ (sm = cm ∨ (sm = 33 ∧ cm = 18))) := fun e => e.elim k1 (fun e => k2 e.1)
                        clear k1 k2
                        go_wp2_with fail
                        go_meet
                        case rel => exact ⟨_, rfl, ⟨fun e => (by cases e), fun e => absurd e HN.out⟩, rfl⟩
                  case rest =>
                    obtain ⟨t, rfl, HK, hwc⟩ := hcut
                    rw [hwc]
                    clear hwc
                    cases t with
                    | true =>
                      have HFX : Hid ((((dTls ⟨rk, cv, rm, ra, ras⟩).take (q + 1)).flatMap (cnT (⟨cr, cc, cv, cm, ca⟩ : Cm) ⟨rk, cv, rm, ra, ras⟩)).foldl (dBtr sl (⟨cr, cc, cv, cm, ca⟩ : Cm)) bo = boq) := by
                        have := HFN2.out
                        rw [show cnT (⟨cr, cc, cv, cm, ca⟩ : Cm) ⟨rk, cv, rm, ra, ras⟩ ⟨sk, sv, sm, sa, sas⟩ = [] by unfold cnT; rw [if_neg (fun e => by have := HK.out.2 e; cases this)]] at this
                        exact this
                      go_wp2_with fail
                      go_roundw
                      case rel => exact ⟨q + 1, _, _, _, boq, by omega, by go_num, rfl, HO.out.ext HB12.out, HFX.out, HB12O.out⟩
                      case measure => simp [RowKit.intOf]; omega
                    | false =>
                      have HJK : Hid (cnT (⟨cr, cc, cv, cm, ca⟩ : Cm) ⟨rk, cv, rm, ra, ras⟩ ⟨sk, sv, sm, sa, sas⟩ = [nmK cr ++ nbK cc ++ (rk ++ dWhl ⟨sk, sv, sm, sa, sas⟩ ca), nbK cc ++ nmK cr ++ (rk ++ dWhl ⟨sk, sv, sm, sa, sas⟩ ca), nmK cr ++ rk ++ (nbK cc ++ dWhl ⟨sk, sv, sm, sa, sas⟩ ca)]) := by unfold Hid cnT; rw [if_pos (HK.out.1 rfl)]
                      have HWH := hidIt (r_whole_any ⟨sk, sv, sm, sa, sas⟩ _ ca w12 (HZK.out.1.ext HB12.out) HKL.out)
                      have hwl := whl_len ⟨sk, sv, sm, sa, sas⟩ ca
                      have hwn : dWhl ⟨sk, sv, sm, sa, sas⟩ ca ≠ [] := by unfold dWhl; split; simp; exact HKT.out.1
                      have hnm := nmK_len cr
                      have hnb := nbK_len cc
                      generalize dWhl ⟨sk, sv, sm, sa, sas⟩ ca = RW at HJK HWH hwl hwn
                      dsimp only at hwl
                      have hkl9 := HKL.out
                      have hrk9 := HRK.out
                      have HJA : Hid (rk.length + RW.length + ([] : List Int).length ≤ 20000) := by unfold Hid; simp only [List.length_nil]; omega
                      have HJB : Hid ((nbK cc).length + RW.length + ([] : List Int).length ≤ 20000) := by unfold Hid; simp only [List.length_nil]; omega
                      obtain ⟨RA, HIA⟩ : ∃ K, Hid (K = rk ++ RW) := ⟨_, hidIt rfl⟩
                      obtain ⟨RB, HIB⟩ : ∃ K, Hid (K = nbK cc ++ RW) := ⟨_, hidIt rfl⟩
                      have hra : RA.length = rk.length + RW.length := by rw [HIA.out, List.length_append]
                      have hrb : RB.length = (nbK cc).length + RW.length := by rw [HIB.out, List.length_append]
                      have hna : RA ≠ [] := by rw [HIA.out]; simp [hwn]
                      have hnn : RB ≠ [] := by rw [HIB.out]; simp [hwn]
                      rw [HJK.out, List.foldl_cons, List.foldl_cons, List.foldl_cons, List.foldl_nil, ← HIA.out, ← HIB.out] at HFN2
                      obtain ⟨KA, HKE1⟩ : ∃ K, Hid (K = nmK cr ++ nbK cc ++ RA) := ⟨_, hidIt rfl⟩
                      obtain ⟨KB, HKE2⟩ : ∃ K, Hid (K = nbK cc ++ nmK cr ++ RA) := ⟨_, hidIt rfl⟩
                      obtain ⟨KC, HKE3⟩ : ∃ K, Hid (K = nmK cr ++ rk ++ RB) := ⟨_, hidIt rfl⟩
                      rw [← HKE1.out, ← HKE2.out, ← HKE3.out] at HFN2
                      have HJL1 : Hid ((nmK cr).length + (nbK cc).length + RA.length ≤ 20000) := by unfold Hid; omega
                      have HJL2 : Hid ((nbK cc).length + (nmK cr).length + RA.length ≤ 20000) := by unfold Hid; omega
                      have HJL3 : Hid ((nmK cr).length + rk.length + RB.length ≤ 20000) := by unfold Hid; omega
                      have HKN1 : Hid (KA ≠ []) := by unfold Hid; rw [HKE1.out]; simp [hna]
                      have HKN2 : Hid (KB ≠ []) := by unfold Hid; rw [HKE2.out]; simp [hna]
                      have HKN3 : Hid (KC ≠ []) := by unfold Hid; rw [HKE3.out]; simp [hnn]
                      have HKM1 : Hid (KA.length ≤ 20000) := by unfold Hid; rw [HKE1.out]; simp only [List.length_append]; omega
                      have HKM2 : Hid (KB.length ≤ 20000) := by unfold Hid; rw [HKE2.out]; simp only [List.length_append]; omega
                      have HKM3 : Hid (KC.length ≤ 20000) := by unfold Hid; rw [HKE3.out]; simp only [List.length_append]; omega
                      generalize hbo1 : dBtr sl (⟨cr, cc, cv, cm, ca⟩ : Cm) boq KA = bo1 at HFN2
                      generalize hbo2 : dBtr sl (⟨cr, cc, cv, cm, ca⟩ : Cm) bo1 KB = bo2 at HFN2
                      generalize hbo3 : dBtr sl (⟨cr, cc, cv, cm, ca⟩ : Cm) bo2 KC = bo3 at HFN2
                      replace hbo1 := hidIt hbo1
                      replace hbo2 := hidIt hbo2
                      replace hbo3 := hidIt hbo3
                      clear hwl hwn hnm hnb hkl9 hrk9 HJK HK hra hrb hna hnn
                      go_upto_region 25 with (go_at_call 27; refine HWH.out.mono ?_; rintro e y1 ⟨v1, rfl, hr1, hb1⟩; obtain ⟨a1, c1, rfl, _⟩ := hr1.len; (try dsimp only); have HW1 := hidIt hr1; have HBW1 := hidIt hb1; clear hr1 hb1 HWH)
                      clear e0 e1 e2 e3 e4 q0 q1 q2 q3 q4
                      have HBO1 : Hid (Below wo.heap.size wo y1) := ext_trans HB12O.out HBW1.out
                      have HS : Hid (∀ y, Below y1.heap.size y1 y → y.cell? ⟨b, 1, none⟩ = some (.slice (some ⟨g, 0, none⟩) os.length oc) ∧ y.cell? ⟨g, p * 5, none⟩ = some (.slice xa rk.length xc) ∧ y.cell? ⟨w.heap.size, 0, none⟩ = some (.int .i64 cr) ∧ y.cell? ⟨w.heap.size, 1, none⟩ = some (.int .i64 cc) ∧ y.cell? ⟨w.heap.size, 2, none⟩ = some (.int .i64 cv) ∧ y.cell? ⟨w.heap.size, 3, none⟩ = some (.int .i64 cm) ∧ y.cell? ⟨w.heap.size, 4, none⟩ = some (.int .i64 ca)) := fun y hy => HSO.out y (ext_trans HBO1.out hy)
                      refine wp_region_held_drew (S := fun w' => w'.cell? ⟨b, 1, none⟩ = some (.slice (some ⟨g, 0, none⟩) os.length oc) ∧ w'.cell? ⟨g, p * 5, none⟩ = some (.slice xa rk.length xc) ∧ w'.cell? ⟨w.heap.size, 0, none⟩ = some (.int .i64 cr) ∧ w'.cell? ⟨w.heap.size, 1, none⟩ = some (.int .i64 cc) ∧ w'.cell? ⟨w.heap.size, 2, none⟩ = some (.int .i64 cv) ∧ w'.cell? ⟨w.heap.size, 3, none⟩ = some (.int .i64 cm) ∧ w'.cell? ⟨w.heap.size, 4, none⟩ = some (.int .i64 ca)) (by kernel_rfl) (by first | exact HS.out _ (Below.refl _ _) | exact HS.out _ (Below.refl _ _).drew) (fun hHeld => ?_)
                      refine wpAnyH_take (i := 0) (oi := _) (v := ?_) rfl (by kernel_rfl) (by kernel_rfl) (by kernel_rfl) (fun _ _ _ h => h) (Or.inl ⟨by rfl, ?_⟩) (by assumption) ?_
                      rotate_left 1
                      · intro wq hSw; (try dsimp only at hSw); go_simp; try (with_reducible rfl)
                      try simp only [Act.put, List.getElem_toArray, List.getElem_cons_zero, List.setIfInBounds_toArray, List.set_cons_zero, List.set_cons_succ]
                      refine wpAnyH_take (i := 1) (oi := _) (v := ?_) rfl (by kernel_rfl) (by kernel_rfl) (by kernel_rfl) (fun _ _ _ h => h) (Or.inl ⟨by rfl, ?_⟩) (by assumption) ?_
                      rotate_left 1
                      · intro wq hSw; (try dsimp only at hSw); go_simp; try (with_reducible rfl)
                      try simp only [Act.put, List.getElem_toArray, List.getElem_cons_succ, List.getElem_cons_zero, List.setIfInBounds_toArray, List.set_cons_zero, List.set_cons_succ]
                      refine wpAnyH_take (i := 2) (oi := _) (v := ?_) rfl (by kernel_rfl) (by kernel_rfl) (by kernel_rfl) (fun _ _ _ h => h) (Or.inl ⟨by rfl, ?_⟩) (by assumption) ?_
                      rotate_left 1
                      · intro wq hSw; (try dsimp only at hSw); go_simp; try (with_reducible rfl)
                      try simp only [Act.put, List.getElem_toArray, List.getElem_cons_succ, List.getElem_cons_zero, List.setIfInBounds_toArray, List.set_cons_zero, List.set_cons_succ]
                      refine wpAnyH_take (i := 3) (oi := _) (v := ?_) rfl (by kernel_rfl) (by kernel_rfl) (by kernel_rfl) (fun _ _ _ h => h) (Or.inl ⟨by rfl, ?_⟩) (by assumption) ?_
                      rotate_left 1
                      · intro wq hSw; (try dsimp only at hSw); go_simp; try (with_reducible rfl)
                      try simp only [Act.put, List.getElem_toArray, List.getElem_cons_succ, List.getElem_cons_zero, List.setIfInBounds_toArray, List.set_cons_zero, List.set_cons_succ]
                      refine wpAnyH_take (i := 4) (oi := _) (v := ?_) rfl (by kernel_rfl) (by kernel_rfl) (by kernel_rfl) (fun _ _ _ h => h) (Or.inl ⟨by rfl, ?_⟩) (by assumption) ?_
                      rotate_left 1
                      · intro wq hSw; (try dsimp only at hSw); go_simp; try (with_reducible rfl)
                      try simp only [Act.put, List.getElem_toArray, List.getElem_cons_succ, List.getElem_cons_zero, List.setIfInBounds_toArray, List.set_cons_zero, List.set_cons_succ]
                      refine wpAnyH_take (i := 5) (oi := _) (v := ?_) rfl (by kernel_rfl) (by kernel_rfl) (by kernel_rfl) (fun _ _ _ h => h) (Or.inl ⟨by rfl, ?_⟩) (by assumption) ?_
                      rotate_left 1
                      · intro wq hSw; (try dsimp only at hSw); go_simp; try (with_reducible rfl)
                      try simp only [Act.put, List.getElem_toArray, List.getElem_cons_succ, List.getElem_cons_zero, List.setIfInBounds_toArray, List.set_cons_zero, List.set_cons_succ]
                      refine wpAnyH_take (i := 6) (oi := _) (v := ?_) rfl (by kernel_rfl) (by kernel_rfl) (by kernel_rfl) (fun _ _ _ h => h) (Or.inl ⟨by rfl, ?_⟩) (by assumption) ?_
                      rotate_left 1
                      · intro wq hSw; (try dsimp only at hSw); go_simp; try (with_reducible rfl)
                      try simp only [Act.put, List.getElem_toArray, List.getElem_cons_succ, List.getElem_cons_zero, List.setIfInBounds_toArray, List.set_cons_zero, List.set_cons_succ]
                      refine wpAnyH_take (i := 7) (oi := _) (v := ?_) rfl (by kernel_rfl) (by kernel_rfl) (by kernel_rfl) (fun _ _ _ h => h) (Or.inl ⟨by rfl, ?_⟩) (by assumption) ?_
                      rotate_left 1
                      · intro wq hSw; (try dsimp only at hSw); go_simp; try (with_reducible rfl)
                      try simp only [Act.put, List.getElem_toArray, List.getElem_cons_succ, List.getElem_cons_zero, List.setIfInBounds_toArray, List.set_cons_zero, List.set_cons_succ]
                      refine wpAnyH_take (i := 8) (oi := _) (v := ?_) rfl (by kernel_rfl) (by kernel_rfl) (by kernel_rfl) (fun _ _ _ h => h) (Or.inl ⟨by rfl, ?_⟩) (by assumption) ?_
                      rotate_left 1
                      · intro wq hSw; (try dsimp only at hSw); go_simp; try (with_reducible rfl)
                      try simp only [Act.put, List.getElem_toArray, List.getElem_cons_succ, List.getElem_cons_zero, List.setIfInBounds_toArray, List.set_cons_zero, List.set_cons_succ]
                      refine wpAnyH_take (i := 9) (oi := _) (v := ?_) rfl (by kernel_rfl) (by kernel_rfl) (by kernel_rfl) (fun _ _ _ h => h) (Or.inl ⟨by rfl, ?_⟩) (by assumption) ?_
                      rotate_left 1
                      · intro wq hSw; (try dsimp only at hSw); go_simp; try (with_reducible rfl)
                      try simp only [Act.put, List.getElem_toArray, List.getElem_cons_succ, List.getElem_cons_zero, List.setIfInBounds_toArray, List.set_cons_zero, List.set_cons_succ]
                      refine wpAnyH_take (i := 10) (oi := _) (v := ?_) rfl (by kernel_rfl) (by kernel_rfl) (by kernel_rfl) (fun _ _ _ h => h) (Or.inl ⟨by rfl, ?_⟩) (by assumption) ?_
                      rotate_left 1
                      · intro wq hSw; (try dsimp only at hSw); go_simp; try (with_reducible rfl)
                      try simp only [Act.put, List.getElem_toArray, List.getElem_cons_succ, List.getElem_cons_zero, List.setIfInBounds_toArray, List.set_cons_zero, List.set_cons_succ]
                      refine wpAnyH_take (i := 11) (oi := _) (v := ?_) rfl (by kernel_rfl) (by kernel_rfl) (by kernel_rfl) (fun _ _ _ h => h) (Or.inl ⟨by rfl, ?_⟩) (by assumption) ?_
                      rotate_left 1
                      · intro wq hSw; (try dsimp only at hSw); go_simp; try (with_reducible rfl)
                      try simp only [Act.put, List.getElem_toArray, List.getElem_cons_succ, List.getElem_cons_zero, List.setIfInBounds_toArray, List.set_cons_zero, List.set_cons_succ]
                      refine wpAnyH_take (i := 12) (oi := _) (v := ?_) rfl (by kernel_rfl) (by kernel_rfl) (by kernel_rfl) (fun _ _ _ h => h) (Or.inl ⟨by rfl, ?_⟩) (by assumption) ?_
                      rotate_left 1
                      · intro wq hSw; (try dsimp only at hSw); go_simp; try (with_reducible rfl)
                      try simp only [Act.put, List.getElem_toArray, List.getElem_cons_succ, List.getElem_cons_zero, List.setIfInBounds_toArray, List.set_cons_zero, List.set_cons_succ]
                      refine wpAnyH_take (i := 15) (oi := _) (v := ?_) rfl (by kernel_rfl) (by kernel_rfl) (by kernel_rfl) (fun _ _ _ h => h) (Or.inl ⟨by rfl, ?_⟩) (by assumption) ?_
                      rotate_left 1
                      · intro wq hSw; (try dsimp only at hSw); go_simp; try (with_reducible rfl)
                      try simp only [Act.put, List.getElem_toArray, List.getElem_cons_succ, List.getElem_cons_zero, List.setIfInBounds_toArray, List.set_cons_zero, List.set_cons_succ]
                      refine wpAnyH_ready (rs := [13]) (by kernel_rfl) (by simp) ?_
                      refine AllReadyH.cons (o := _) rfl (fun K hK => ?_) AllReadyH.nil
                      go_simp
                      (first | refine (r_joined_any _ _ _ rk RW [] _ ((HXK.out.1.ext HBO1.out).ext (Below.refl _ _)) (HW1.out.ext (Below.refl _ _)) (OwnI.nil _ 0).rds HJA.out).mono ?_ | refine (r_joined_any _ _ _ rk RW [] _ ((HXK.out.1.ext HBO1.out).ext (Below.refl _ _).drew) (HW1.out.ext (Below.refl _ _).drew) (OwnI.nil _ 0).rds HJA.out).mono ?_); rintro e yj ⟨vj, rfl, hoj, hbj⟩; rw [List.append_nil, ← HIA.out] at hoj; obtain ⟨aj, cj, rfl, _⟩ := hoj.rds.len; have HJ1 := hidIt hoj; have HBJ : Hid (Below y1.heap.size y1 yj) := (by first | exact ext_trans (Below.refl _ _) hbj | exact ext_trans (Below.refl _ _).drew hbj); clear hoj hbj; (try dsimp only)
                      refine hK.out _ _ ?_ (fun hHeld => ?_)
                      · exact HS.out _ HBJ.out
                      clear hK K
                      try simp only [Act.put, List.getElem_toArray, List.getElem_cons_succ, List.getElem_cons_zero, List.setIfInBounds_toArray, List.set_cons_zero, List.set_cons_succ]
                      refine wpAnyH_ready (rs := [14]) (by kernel_rfl) (by simp) ?_
                      refine AllReadyH.cons (o := _) rfl (fun K hK => ?_) AllReadyH.nil
                      go_simp
                      (first | refine (r_joined_any _ _ _ (nmK cr) (nbK cc) RA _ ((HNM.out.ext (ext_trans HB2O.out HBO1.out)).rds.ext (ext_trans HBJ.out (Below.refl _ _))) ((HNB.out.ext (ext_trans HB2O.out HBO1.out)).rds.ext (ext_trans HBJ.out (Below.refl _ _))) (HJ1.out.rds.ext (Below.refl _ _)) HJL1.out).mono ?_ | refine (r_joined_any _ _ _ (nmK cr) (nbK cc) RA _ ((HNM.out.ext (ext_trans HB2O.out HBO1.out)).rds.ext (ext_trans HBJ.out (Below.refl _ _).drew)) ((HNB.out.ext (ext_trans HB2O.out HBO1.out)).rds.ext (ext_trans HBJ.out (Below.refl _ _).drew)) (HJ1.out.rds.ext (Below.refl _ _).drew) HJL1.out).mono ?_); rintro e y2 ⟨v2, rfl, ho2, hb2⟩; rw [← HKE1.out] at ho2; obtain ⟨a2, c2, rfl, _⟩ := ho2.rds.len; have HJ2 := hidIt ho2; have HB2 : Hid (Below y1.heap.size y1 y2) := (by first | exact ext_trans (ext_trans HBJ.out (Below.refl _ _)) hb2 | exact ext_trans (ext_trans HBJ.out (Below.refl _ _).drew) hb2); clear ho2 hb2 HJ1 HBJ; (try dsimp only)
                      refine hK.out _ _ ?_ (fun hHeld => ?_)
                      · exact HS.out _ HB2.out
                      clear hK K
                      try simp only [Act.put, List.getElem_toArray, List.getElem_cons_succ, List.getElem_cons_zero, List.setIfInBounds_toArray, List.set_cons_zero, List.set_cons_succ]
                      refine wpAnyH_ready (rs := [16]) (by kernel_rfl) (by simp) ?_
                      refine AllReadyH.cons (o := _) rfl (fun K hK => ?_) AllReadyH.nil
                      go_simp
                      (first | refine (r_better_any _ _ boq (KA) (⟨cr, cc, cv, cm, ca⟩ : Cm) _ (HTB.out.ext (ext_trans (ext_trans (ext_trans HBWO.out HBO1.out) HB2.out) (Below.refl _ _))) ((HO.out.ext (ext_trans HB12.out HBW1.out)).ext (ext_trans HB2.out (Below.refl _ _))) ((HJ2.out.le (Nat.zero_le _)).ext (Below.refl _ _)) HKN1.out HKM1.out).mono ?_ | refine (r_better_any _ _ boq (KA) (⟨cr, cc, cv, cm, ca⟩ : Cm) _ (HTB.out.ext (ext_trans (ext_trans (ext_trans HBWO.out HBO1.out) HB2.out) (Below.refl _ _).drew)) ((HO.out.ext (ext_trans HB12.out HBW1.out)).ext (ext_trans HB2.out (Below.refl _ _).drew)) ((HJ2.out.le (Nat.zero_le _)).ext (Below.refl _ _).drew) HKN1.out HKM1.out).mono ?_); rintro e y3 ⟨v3, rfl, ho3, hb3⟩; obtain ⟨a3, n3, c3, rfl⟩ := optI_form ho3; have HObo1 := hidIt ho3; have HBy3 : Hid (Below y1.heap.size y1 y3) := (by first | exact ext_trans (ext_trans HB2.out (Below.refl _ _)) hb3 | exact ext_trans (ext_trans HB2.out (Below.refl _ _).drew) hb3); clear ho3 hb3 HJ2 HB2; (try dsimp only)
                      refine hK.out _ _ ?_ (fun hHeld => ?_)
                      · exact HS.out _ HBy3.out
                      clear hK K
                      try simp only [Act.put, List.getElem_toArray, List.getElem_cons_succ, List.getElem_cons_zero, List.setIfInBounds_toArray, List.set_cons_zero, List.set_cons_succ]
                      refine wpAnyH_take (i := 17) (oi := _) (v := ?_) rfl (by kernel_rfl) (by kernel_rfl) (by kernel_rfl) (fun _ _ _ h => h) (Or.inl ⟨by rfl, ?_⟩) (by assumption) ?_
                      rotate_left 1
                      · intro wq hSw; (try dsimp only at hSw); go_simp; try (with_reducible rfl)
                      try simp only [Act.put, List.getElem_toArray, List.getElem_cons_succ, List.getElem_cons_zero, List.setIfInBounds_toArray, List.set_cons_zero, List.set_cons_succ]
                      refine wpAnyH_done (by kernel_rfl) ?_ _
                      clear HS
                      rw [hbo1.out] at HObo1
                      go_upto_region 26 with fail
                      have HS : Hid (∀ y, Below y3.heap.size y3 y → y.cell? ⟨b, 1, none⟩ = some (.slice (some ⟨g, 0, none⟩) os.length oc) ∧ y.cell? ⟨g, p * 5, none⟩ = some (.slice xa rk.length xc) ∧ y.cell? ⟨w.heap.size, 0, none⟩ = some (.int .i64 cr) ∧ y.cell? ⟨w.heap.size, 1, none⟩ = some (.int .i64 cc) ∧ y.cell? ⟨w.heap.size, 2, none⟩ = some (.int .i64 cv) ∧ y.cell? ⟨w.heap.size, 3, none⟩ = some (.int .i64 cm) ∧ y.cell? ⟨w.heap.size, 4, none⟩ = some (.int .i64 ca)) := fun y hy => HSO.out y (ext_trans (ext_trans HBO1.out HBy3.out) hy)
                      refine wp_region_held_drew (S := fun w' => w'.cell? ⟨b, 1, none⟩ = some (.slice (some ⟨g, 0, none⟩) os.length oc) ∧ w'.cell? ⟨g, p * 5, none⟩ = some (.slice xa rk.length xc) ∧ w'.cell? ⟨w.heap.size, 0, none⟩ = some (.int .i64 cr) ∧ w'.cell? ⟨w.heap.size, 1, none⟩ = some (.int .i64 cc) ∧ w'.cell? ⟨w.heap.size, 2, none⟩ = some (.int .i64 cv) ∧ w'.cell? ⟨w.heap.size, 3, none⟩ = some (.int .i64 cm) ∧ w'.cell? ⟨w.heap.size, 4, none⟩ = some (.int .i64 ca)) (by kernel_rfl) (by first | exact HS.out _ (Below.refl _ _) | exact HS.out _ (Below.refl _ _).drew) (fun hHeld => ?_)
                      refine wpAnyH_take (i := 0) (oi := _) (v := ?_) rfl (by kernel_rfl) (by kernel_rfl) (by kernel_rfl) (fun _ _ _ h => h) (Or.inl ⟨by rfl, ?_⟩) (by assumption) ?_
                      rotate_left 1
                      · intro wq hSw; (try dsimp only at hSw); go_simp; try (with_reducible rfl)
                      try simp only [Act.put, List.getElem_toArray, List.getElem_cons_zero, List.setIfInBounds_toArray, List.set_cons_zero, List.set_cons_succ]
                      refine wpAnyH_take (i := 1) (oi := _) (v := ?_) rfl (by kernel_rfl) (by kernel_rfl) (by kernel_rfl) (fun _ _ _ h => h) (Or.inl ⟨by rfl, ?_⟩) (by assumption) ?_
                      rotate_left 1
                      · intro wq hSw; (try dsimp only at hSw); go_simp; try (with_reducible rfl)
                      try simp only [Act.put, List.getElem_toArray, List.getElem_cons_succ, List.getElem_cons_zero, List.setIfInBounds_toArray, List.set_cons_zero, List.set_cons_succ]
                      refine wpAnyH_take (i := 2) (oi := _) (v := ?_) rfl (by kernel_rfl) (by kernel_rfl) (by kernel_rfl) (fun _ _ _ h => h) (Or.inl ⟨by rfl, ?_⟩) (by assumption) ?_
                      rotate_left 1
                      · intro wq hSw; (try dsimp only at hSw); go_simp; try (with_reducible rfl)
                      try simp only [Act.put, List.getElem_toArray, List.getElem_cons_succ, List.getElem_cons_zero, List.setIfInBounds_toArray, List.set_cons_zero, List.set_cons_succ]
                      refine wpAnyH_take (i := 3) (oi := _) (v := ?_) rfl (by kernel_rfl) (by kernel_rfl) (by kernel_rfl) (fun _ _ _ h => h) (Or.inl ⟨by rfl, ?_⟩) (by assumption) ?_
                      rotate_left 1
                      · intro wq hSw; (try dsimp only at hSw); go_simp; try (with_reducible rfl)
                      try simp only [Act.put, List.getElem_toArray, List.getElem_cons_succ, List.getElem_cons_zero, List.setIfInBounds_toArray, List.set_cons_zero, List.set_cons_succ]
                      refine wpAnyH_take (i := 4) (oi := _) (v := ?_) rfl (by kernel_rfl) (by kernel_rfl) (by kernel_rfl) (fun _ _ _ h => h) (Or.inl ⟨by rfl, ?_⟩) (by assumption) ?_
                      rotate_left 1
                      · intro wq hSw; (try dsimp only at hSw); go_simp; try (with_reducible rfl)
                      try simp only [Act.put, List.getElem_toArray, List.getElem_cons_succ, List.getElem_cons_zero, List.setIfInBounds_toArray, List.set_cons_zero, List.set_cons_succ]
                      refine wpAnyH_take (i := 5) (oi := _) (v := ?_) rfl (by kernel_rfl) (by kernel_rfl) (by kernel_rfl) (fun _ _ _ h => h) (Or.inl ⟨by rfl, ?_⟩) (by assumption) ?_
                      rotate_left 1
                      · intro wq hSw; (try dsimp only at hSw); go_simp; try (with_reducible rfl)
                      try simp only [Act.put, List.getElem_toArray, List.getElem_cons_succ, List.getElem_cons_zero, List.setIfInBounds_toArray, List.set_cons_zero, List.set_cons_succ]
                      refine wpAnyH_take (i := 6) (oi := _) (v := ?_) rfl (by kernel_rfl) (by kernel_rfl) (by kernel_rfl) (fun _ _ _ h => h) (Or.inl ⟨by rfl, ?_⟩) (by assumption) ?_
                      rotate_left 1
                      · intro wq hSw; (try dsimp only at hSw); go_simp; try (with_reducible rfl)
                      try simp only [Act.put, List.getElem_toArray, List.getElem_cons_succ, List.getElem_cons_zero, List.setIfInBounds_toArray, List.set_cons_zero, List.set_cons_succ]
                      refine wpAnyH_take (i := 7) (oi := _) (v := ?_) rfl (by kernel_rfl) (by kernel_rfl) (by kernel_rfl) (fun _ _ _ h => h) (Or.inl ⟨by rfl, ?_⟩) (by assumption) ?_
                      rotate_left 1
                      · intro wq hSw; (try dsimp only at hSw); go_simp; try (with_reducible rfl)
                      try simp only [Act.put, List.getElem_toArray, List.getElem_cons_succ, List.getElem_cons_zero, List.setIfInBounds_toArray, List.set_cons_zero, List.set_cons_succ]
                      refine wpAnyH_take (i := 8) (oi := _) (v := ?_) rfl (by kernel_rfl) (by kernel_rfl) (by kernel_rfl) (fun _ _ _ h => h) (Or.inl ⟨by rfl, ?_⟩) (by assumption) ?_
                      rotate_left 1
                      · intro wq hSw; (try dsimp only at hSw); go_simp; try (with_reducible rfl)
                      try simp only [Act.put, List.getElem_toArray, List.getElem_cons_succ, List.getElem_cons_zero, List.setIfInBounds_toArray, List.set_cons_zero, List.set_cons_succ]
                      refine wpAnyH_take (i := 9) (oi := _) (v := ?_) rfl (by kernel_rfl) (by kernel_rfl) (by kernel_rfl) (fun _ _ _ h => h) (Or.inl ⟨by rfl, ?_⟩) (by assumption) ?_
                      rotate_left 1
                      · intro wq hSw; (try dsimp only at hSw); go_simp; try (with_reducible rfl)
                      try simp only [Act.put, List.getElem_toArray, List.getElem_cons_succ, List.getElem_cons_zero, List.setIfInBounds_toArray, List.set_cons_zero, List.set_cons_succ]
                      refine wpAnyH_take (i := 10) (oi := _) (v := ?_) rfl (by kernel_rfl) (by kernel_rfl) (by kernel_rfl) (fun _ _ _ h => h) (Or.inl ⟨by rfl, ?_⟩) (by assumption) ?_
                      rotate_left 1
                      · intro wq hSw; (try dsimp only at hSw); go_simp; try (with_reducible rfl)
                      try simp only [Act.put, List.getElem_toArray, List.getElem_cons_succ, List.getElem_cons_zero, List.setIfInBounds_toArray, List.set_cons_zero, List.set_cons_succ]
                      refine wpAnyH_take (i := 11) (oi := _) (v := ?_) rfl (by kernel_rfl) (by kernel_rfl) (by kernel_rfl) (fun _ _ _ h => h) (Or.inl ⟨by rfl, ?_⟩) (by assumption) ?_
                      rotate_left 1
                      · intro wq hSw; (try dsimp only at hSw); go_simp; try (with_reducible rfl)
                      try simp only [Act.put, List.getElem_toArray, List.getElem_cons_succ, List.getElem_cons_zero, List.setIfInBounds_toArray, List.set_cons_zero, List.set_cons_succ]
                      refine wpAnyH_take (i := 12) (oi := _) (v := ?_) rfl (by kernel_rfl) (by kernel_rfl) (by kernel_rfl) (fun _ _ _ h => h) (Or.inl ⟨by rfl, ?_⟩) (by assumption) ?_
                      rotate_left 1
                      · intro wq hSw; (try dsimp only at hSw); go_simp; try (with_reducible rfl)
                      try simp only [Act.put, List.getElem_toArray, List.getElem_cons_succ, List.getElem_cons_zero, List.setIfInBounds_toArray, List.set_cons_zero, List.set_cons_succ]
                      refine wpAnyH_take (i := 15) (oi := _) (v := ?_) rfl (by kernel_rfl) (by kernel_rfl) (by kernel_rfl) (fun _ _ _ h => h) (Or.inl ⟨by rfl, ?_⟩) (by assumption) ?_
                      rotate_left 1
                      · intro wq hSw; (try dsimp only at hSw); go_simp; try (with_reducible rfl)
                      try simp only [Act.put, List.getElem_toArray, List.getElem_cons_succ, List.getElem_cons_zero, List.setIfInBounds_toArray, List.set_cons_zero, List.set_cons_succ]
                      refine wpAnyH_ready (rs := [13]) (by kernel_rfl) (by simp) ?_
                      refine AllReadyH.cons (o := _) rfl (fun K hK => ?_) AllReadyH.nil
                      go_simp
                      (first | refine (r_joined_any _ _ _ rk RW [] _ ((HXK.out.1.ext (ext_trans HBO1.out HBy3.out)).ext (Below.refl _ _)) ((HW1.out.ext HBy3.out).ext (Below.refl _ _)) (OwnI.nil _ 0).rds HJA.out).mono ?_ | refine (r_joined_any _ _ _ rk RW [] _ ((HXK.out.1.ext (ext_trans HBO1.out HBy3.out)).ext (Below.refl _ _).drew) ((HW1.out.ext HBy3.out).ext (Below.refl _ _).drew) (OwnI.nil _ 0).rds HJA.out).mono ?_); rintro e yj ⟨vj, rfl, hoj, hbj⟩; rw [List.append_nil, ← HIA.out] at hoj; obtain ⟨aj, cj, rfl, _⟩ := hoj.rds.len; have HJ1 := hidIt hoj; have HBJ : Hid (Below y3.heap.size y3 yj) := (by first | exact ext_trans (Below.refl _ _) hbj | exact ext_trans (Below.refl _ _).drew hbj); clear hoj hbj; (try dsimp only)
                      refine hK.out _ _ ?_ (fun hHeld => ?_)
                      · exact HS.out _ HBJ.out
                      clear hK K
                      try simp only [Act.put, List.getElem_toArray, List.getElem_cons_succ, List.getElem_cons_zero, List.setIfInBounds_toArray, List.set_cons_zero, List.set_cons_succ]
                      refine wpAnyH_ready (rs := [14]) (by kernel_rfl) (by simp) ?_
                      refine AllReadyH.cons (o := _) rfl (fun K hK => ?_) AllReadyH.nil
                      go_simp
                      (first | refine (r_joined_any _ _ _ (nbK cc) (nmK cr) RA _ ((HNB.out.ext (ext_trans HB2O.out (ext_trans HBO1.out HBy3.out))).rds.ext (ext_trans HBJ.out (Below.refl _ _))) ((HNM.out.ext (ext_trans HB2O.out (ext_trans HBO1.out HBy3.out))).rds.ext (ext_trans HBJ.out (Below.refl _ _))) (HJ1.out.rds.ext (Below.refl _ _)) HJL2.out).mono ?_ | refine (r_joined_any _ _ _ (nbK cc) (nmK cr) RA _ ((HNB.out.ext (ext_trans HB2O.out (ext_trans HBO1.out HBy3.out))).rds.ext (ext_trans HBJ.out (Below.refl _ _).drew)) ((HNM.out.ext (ext_trans HB2O.out (ext_trans HBO1.out HBy3.out))).rds.ext (ext_trans HBJ.out (Below.refl _ _).drew)) (HJ1.out.rds.ext (Below.refl _ _).drew) HJL2.out).mono ?_); rintro e y2 ⟨v2, rfl, ho2, hb2⟩; rw [← HKE2.out] at ho2; obtain ⟨a2, c2, rfl, _⟩ := ho2.rds.len; have HJ2 := hidIt ho2; have HB2 : Hid (Below y3.heap.size y3 y2) := (by first | exact ext_trans (ext_trans HBJ.out (Below.refl _ _)) hb2 | exact ext_trans (ext_trans HBJ.out (Below.refl _ _).drew) hb2); clear ho2 hb2 HJ1 HBJ; (try dsimp only)
                      refine hK.out _ _ ?_ (fun hHeld => ?_)
                      · exact HS.out _ HB2.out
                      clear hK K
                      try simp only [Act.put, List.getElem_toArray, List.getElem_cons_succ, List.getElem_cons_zero, List.setIfInBounds_toArray, List.set_cons_zero, List.set_cons_succ]
                      refine wpAnyH_ready (rs := [16]) (by kernel_rfl) (by simp) ?_
                      refine AllReadyH.cons (o := _) rfl (fun K hK => ?_) AllReadyH.nil
                      go_simp
                      (first | refine (r_better_any _ _ bo1 (KB) (⟨cr, cc, cv, cm, ca⟩ : Cm) _ (HTB.out.ext (ext_trans (ext_trans (ext_trans HBWO.out (ext_trans HBO1.out HBy3.out)) HB2.out) (Below.refl _ _))) (HObo1.out.ext (ext_trans HB2.out (Below.refl _ _))) ((HJ2.out.le (Nat.zero_le _)).ext (Below.refl _ _)) HKN2.out HKM2.out).mono ?_ | refine (r_better_any _ _ bo1 (KB) (⟨cr, cc, cv, cm, ca⟩ : Cm) _ (HTB.out.ext (ext_trans (ext_trans (ext_trans HBWO.out (ext_trans HBO1.out HBy3.out)) HB2.out) (Below.refl _ _).drew)) (HObo1.out.ext (ext_trans HB2.out (Below.refl _ _).drew)) ((HJ2.out.le (Nat.zero_le _)).ext (Below.refl _ _).drew) HKN2.out HKM2.out).mono ?_); rintro e y4 ⟨v3, rfl, ho3, hb3⟩; obtain ⟨a3, n3, c3, rfl⟩ := optI_form ho3; have HObo2 := hidIt ho3; have HBy4 : Hid (Below y3.heap.size y3 y4) := (by first | exact ext_trans (ext_trans HB2.out (Below.refl _ _)) hb3 | exact ext_trans (ext_trans HB2.out (Below.refl _ _).drew) hb3); clear ho3 hb3 HJ2 HB2; (try dsimp only)
                      refine hK.out _ _ ?_ (fun hHeld => ?_)
                      · exact HS.out _ HBy4.out
                      clear hK K
                      try simp only [Act.put, List.getElem_toArray, List.getElem_cons_succ, List.getElem_cons_zero, List.setIfInBounds_toArray, List.set_cons_zero, List.set_cons_succ]
                      refine wpAnyH_take (i := 17) (oi := _) (v := ?_) rfl (by kernel_rfl) (by kernel_rfl) (by kernel_rfl) (fun _ _ _ h => h) (Or.inl ⟨by rfl, ?_⟩) (by assumption) ?_
                      rotate_left 1
                      · intro wq hSw; (try dsimp only at hSw); go_simp; try (with_reducible rfl)
                      try simp only [Act.put, List.getElem_toArray, List.getElem_cons_succ, List.getElem_cons_zero, List.setIfInBounds_toArray, List.set_cons_zero, List.set_cons_succ]
                      refine wpAnyH_done (by kernel_rfl) ?_ _
                      clear HS
                      rw [hbo2.out] at HObo2
                      go_upto_region 27 with fail
                      have HS : Hid (∀ y, Below y4.heap.size y4 y → y.cell? ⟨b, 1, none⟩ = some (.slice (some ⟨g, 0, none⟩) os.length oc) ∧ y.cell? ⟨g, p * 5, none⟩ = some (.slice xa rk.length xc) ∧ y.cell? ⟨w.heap.size, 0, none⟩ = some (.int .i64 cr) ∧ y.cell? ⟨w.heap.size, 1, none⟩ = some (.int .i64 cc) ∧ y.cell? ⟨w.heap.size, 2, none⟩ = some (.int .i64 cv) ∧ y.cell? ⟨w.heap.size, 3, none⟩ = some (.int .i64 cm) ∧ y.cell? ⟨w.heap.size, 4, none⟩ = some (.int .i64 ca)) := fun y hy => HSO.out y (ext_trans (ext_trans (ext_trans HBO1.out HBy3.out) HBy4.out) hy)
                      refine wp_region_held_drew (S := fun w' => w'.cell? ⟨b, 1, none⟩ = some (.slice (some ⟨g, 0, none⟩) os.length oc) ∧ w'.cell? ⟨g, p * 5, none⟩ = some (.slice xa rk.length xc) ∧ w'.cell? ⟨w.heap.size, 0, none⟩ = some (.int .i64 cr) ∧ w'.cell? ⟨w.heap.size, 1, none⟩ = some (.int .i64 cc) ∧ w'.cell? ⟨w.heap.size, 2, none⟩ = some (.int .i64 cv) ∧ w'.cell? ⟨w.heap.size, 3, none⟩ = some (.int .i64 cm) ∧ w'.cell? ⟨w.heap.size, 4, none⟩ = some (.int .i64 ca)) (by kernel_rfl) (by first | exact HS.out _ (Below.refl _ _) | exact HS.out _ (Below.refl _ _).drew) (fun hHeld => ?_)
                      refine wpAnyH_take (i := 0) (oi := _) (v := ?_) rfl (by kernel_rfl) (by kernel_rfl) (by kernel_rfl) (fun _ _ _ h => h) (Or.inl ⟨by rfl, ?_⟩) (by assumption) ?_
                      rotate_left 1
                      · intro wq hSw; (try dsimp only at hSw); go_simp; try (with_reducible rfl)
                      try simp only [Act.put, List.getElem_toArray, List.getElem_cons_zero, List.setIfInBounds_toArray, List.set_cons_zero, List.set_cons_succ]
                      refine wpAnyH_take (i := 1) (oi := _) (v := ?_) rfl (by kernel_rfl) (by kernel_rfl) (by kernel_rfl) (fun _ _ _ h => h) (Or.inl ⟨by rfl, ?_⟩) (by assumption) ?_
                      rotate_left 1
                      · intro wq hSw; (try dsimp only at hSw); go_simp; try (with_reducible rfl)
                      try simp only [Act.put, List.getElem_toArray, List.getElem_cons_succ, List.getElem_cons_zero, List.setIfInBounds_toArray, List.set_cons_zero, List.set_cons_succ]
                      refine wpAnyH_take (i := 2) (oi := _) (v := ?_) rfl (by kernel_rfl) (by kernel_rfl) (by kernel_rfl) (fun _ _ _ h => h) (Or.inl ⟨by rfl, ?_⟩) (by assumption) ?_
                      rotate_left 1
                      · intro wq hSw; (try dsimp only at hSw); go_simp; try (with_reducible rfl)
                      try simp only [Act.put, List.getElem_toArray, List.getElem_cons_succ, List.getElem_cons_zero, List.setIfInBounds_toArray, List.set_cons_zero, List.set_cons_succ]
                      refine wpAnyH_take (i := 3) (oi := _) (v := ?_) rfl (by kernel_rfl) (by kernel_rfl) (by kernel_rfl) (fun _ _ _ h => h) (Or.inl ⟨by rfl, ?_⟩) (by assumption) ?_
                      rotate_left 1
                      · intro wq hSw; (try dsimp only at hSw); go_simp; try (with_reducible rfl)
                      try simp only [Act.put, List.getElem_toArray, List.getElem_cons_succ, List.getElem_cons_zero, List.setIfInBounds_toArray, List.set_cons_zero, List.set_cons_succ]
                      refine wpAnyH_take (i := 4) (oi := _) (v := ?_) rfl (by kernel_rfl) (by kernel_rfl) (by kernel_rfl) (fun _ _ _ h => h) (Or.inl ⟨by rfl, ?_⟩) (by assumption) ?_
                      rotate_left 1
                      · intro wq hSw; (try dsimp only at hSw); go_simp; try (with_reducible rfl)
                      try simp only [Act.put, List.getElem_toArray, List.getElem_cons_succ, List.getElem_cons_zero, List.setIfInBounds_toArray, List.set_cons_zero, List.set_cons_succ]
                      refine wpAnyH_take (i := 5) (oi := _) (v := ?_) rfl (by kernel_rfl) (by kernel_rfl) (by kernel_rfl) (fun _ _ _ h => h) (Or.inl ⟨by rfl, ?_⟩) (by assumption) ?_
                      rotate_left 1
                      · intro wq hSw; (try dsimp only at hSw); go_simp; try (with_reducible rfl)
                      try simp only [Act.put, List.getElem_toArray, List.getElem_cons_succ, List.getElem_cons_zero, List.setIfInBounds_toArray, List.set_cons_zero, List.set_cons_succ]
                      refine wpAnyH_take (i := 6) (oi := _) (v := ?_) rfl (by kernel_rfl) (by kernel_rfl) (by kernel_rfl) (fun _ _ _ h => h) (Or.inl ⟨by rfl, ?_⟩) (by assumption) ?_
                      rotate_left 1
                      · intro wq hSw; (try dsimp only at hSw); go_simp; try (with_reducible rfl)
                      try simp only [Act.put, List.getElem_toArray, List.getElem_cons_succ, List.getElem_cons_zero, List.setIfInBounds_toArray, List.set_cons_zero, List.set_cons_succ]
                      refine wpAnyH_take (i := 7) (oi := _) (v := ?_) rfl (by kernel_rfl) (by kernel_rfl) (by kernel_rfl) (fun _ _ _ h => h) (Or.inl ⟨by rfl, ?_⟩) (by assumption) ?_
                      rotate_left 1
                      · intro wq hSw; (try dsimp only at hSw); go_simp; try (with_reducible rfl)
                      try simp only [Act.put, List.getElem_toArray, List.getElem_cons_succ, List.getElem_cons_zero, List.setIfInBounds_toArray, List.set_cons_zero, List.set_cons_succ]
                      refine wpAnyH_take (i := 8) (oi := _) (v := ?_) rfl (by kernel_rfl) (by kernel_rfl) (by kernel_rfl) (fun _ _ _ h => h) (Or.inl ⟨by rfl, ?_⟩) (by assumption) ?_
                      rotate_left 1
                      · intro wq hSw; (try dsimp only at hSw); go_simp; try (with_reducible rfl)
                      try simp only [Act.put, List.getElem_toArray, List.getElem_cons_succ, List.getElem_cons_zero, List.setIfInBounds_toArray, List.set_cons_zero, List.set_cons_succ]
                      refine wpAnyH_take (i := 9) (oi := _) (v := ?_) rfl (by kernel_rfl) (by kernel_rfl) (by kernel_rfl) (fun _ _ _ h => h) (Or.inl ⟨by rfl, ?_⟩) (by assumption) ?_
                      rotate_left 1
                      · intro wq hSw; (try dsimp only at hSw); go_simp; try (with_reducible rfl)
                      try simp only [Act.put, List.getElem_toArray, List.getElem_cons_succ, List.getElem_cons_zero, List.setIfInBounds_toArray, List.set_cons_zero, List.set_cons_succ]
                      refine wpAnyH_take (i := 10) (oi := _) (v := ?_) rfl (by kernel_rfl) (by kernel_rfl) (by kernel_rfl) (fun _ _ _ h => h) (Or.inl ⟨by rfl, ?_⟩) (by assumption) ?_
                      rotate_left 1
                      · intro wq hSw; (try dsimp only at hSw); go_simp; try (with_reducible rfl)
                      try simp only [Act.put, List.getElem_toArray, List.getElem_cons_succ, List.getElem_cons_zero, List.setIfInBounds_toArray, List.set_cons_zero, List.set_cons_succ]
                      refine wpAnyH_take (i := 11) (oi := _) (v := ?_) rfl (by kernel_rfl) (by kernel_rfl) (by kernel_rfl) (fun _ _ _ h => h) (Or.inl ⟨by rfl, ?_⟩) (by assumption) ?_
                      rotate_left 1
                      · intro wq hSw; (try dsimp only at hSw); go_simp; try (with_reducible rfl)
                      try simp only [Act.put, List.getElem_toArray, List.getElem_cons_succ, List.getElem_cons_zero, List.setIfInBounds_toArray, List.set_cons_zero, List.set_cons_succ]
                      refine wpAnyH_take (i := 12) (oi := _) (v := ?_) rfl (by kernel_rfl) (by kernel_rfl) (by kernel_rfl) (fun _ _ _ h => h) (Or.inl ⟨by rfl, ?_⟩) (by assumption) ?_
                      rotate_left 1
                      · intro wq hSw; (try dsimp only at hSw); go_simp; try (with_reducible rfl)
                      try simp only [Act.put, List.getElem_toArray, List.getElem_cons_succ, List.getElem_cons_zero, List.setIfInBounds_toArray, List.set_cons_zero, List.set_cons_succ]
                      refine wpAnyH_take (i := 15) (oi := _) (v := ?_) rfl (by kernel_rfl) (by kernel_rfl) (by kernel_rfl) (fun _ _ _ h => h) (Or.inl ⟨by rfl, ?_⟩) (by assumption) ?_
                      rotate_left 1
                      · intro wq hSw; (try dsimp only at hSw); go_simp; try (with_reducible rfl)
                      try simp only [Act.put, List.getElem_toArray, List.getElem_cons_succ, List.getElem_cons_zero, List.setIfInBounds_toArray, List.set_cons_zero, List.set_cons_succ]
                      refine wpAnyH_ready (rs := [13]) (by kernel_rfl) (by simp) ?_
                      refine AllReadyH.cons (o := _) rfl (fun K hK => ?_) AllReadyH.nil
                      go_simp
                      (first | refine (r_joined_any _ _ _ (nbK cc) RW [] _ ((HNB.out.ext (ext_trans HB2O.out (ext_trans (ext_trans HBO1.out HBy3.out) HBy4.out))).rds.ext (Below.refl _ _)) ((HW1.out.ext (ext_trans HBy3.out HBy4.out)).ext (Below.refl _ _)) (OwnI.nil _ 0).rds HJB.out).mono ?_ | refine (r_joined_any _ _ _ (nbK cc) RW [] _ ((HNB.out.ext (ext_trans HB2O.out (ext_trans (ext_trans HBO1.out HBy3.out) HBy4.out))).rds.ext (Below.refl _ _).drew) ((HW1.out.ext (ext_trans HBy3.out HBy4.out)).ext (Below.refl _ _).drew) (OwnI.nil _ 0).rds HJB.out).mono ?_); rintro e yj ⟨vj, rfl, hoj, hbj⟩; rw [List.append_nil, ← HIB.out] at hoj; obtain ⟨aj, cj, rfl, _⟩ := hoj.rds.len; have HJ1 := hidIt hoj; have HBJ : Hid (Below y4.heap.size y4 yj) := (by first | exact ext_trans (Below.refl _ _) hbj | exact ext_trans (Below.refl _ _).drew hbj); clear hoj hbj; (try dsimp only)
                      refine hK.out _ _ ?_ (fun hHeld => ?_)
                      · exact HS.out _ HBJ.out
                      clear hK K
                      try simp only [Act.put, List.getElem_toArray, List.getElem_cons_succ, List.getElem_cons_zero, List.setIfInBounds_toArray, List.set_cons_zero, List.set_cons_succ]
                      refine wpAnyH_ready (rs := [14]) (by kernel_rfl) (by simp) ?_
                      refine AllReadyH.cons (o := _) rfl (fun K hK => ?_) AllReadyH.nil
                      go_simp
                      (first | refine (r_joined_any _ _ _ (nmK cr) rk RB _ ((HNM.out.ext (ext_trans HB2O.out (ext_trans (ext_trans HBO1.out HBy3.out) HBy4.out))).rds.ext (ext_trans HBJ.out (Below.refl _ _))) ((HXK.out.1.ext (ext_trans (ext_trans HBO1.out HBy3.out) HBy4.out)).ext (ext_trans HBJ.out (Below.refl _ _))) (HJ1.out.rds.ext (Below.refl _ _)) HJL3.out).mono ?_ | refine (r_joined_any _ _ _ (nmK cr) rk RB _ ((HNM.out.ext (ext_trans HB2O.out (ext_trans (ext_trans HBO1.out HBy3.out) HBy4.out))).rds.ext (ext_trans HBJ.out (Below.refl _ _).drew)) ((HXK.out.1.ext (ext_trans (ext_trans HBO1.out HBy3.out) HBy4.out)).ext (ext_trans HBJ.out (Below.refl _ _).drew)) (HJ1.out.rds.ext (Below.refl _ _).drew) HJL3.out).mono ?_); rintro e y2 ⟨v2, rfl, ho2, hb2⟩; rw [← HKE3.out] at ho2; obtain ⟨a2, c2, rfl, _⟩ := ho2.rds.len; have HJ2 := hidIt ho2; have HB2 : Hid (Below y4.heap.size y4 y2) := (by first | exact ext_trans (ext_trans HBJ.out (Below.refl _ _)) hb2 | exact ext_trans (ext_trans HBJ.out (Below.refl _ _).drew) hb2); clear ho2 hb2 HJ1 HBJ; (try dsimp only)
                      refine hK.out _ _ ?_ (fun hHeld => ?_)
                      · exact HS.out _ HB2.out
                      clear hK K
                      try simp only [Act.put, List.getElem_toArray, List.getElem_cons_succ, List.getElem_cons_zero, List.setIfInBounds_toArray, List.set_cons_zero, List.set_cons_succ]
                      refine wpAnyH_ready (rs := [16]) (by kernel_rfl) (by simp) ?_
                      refine AllReadyH.cons (o := _) rfl (fun K hK => ?_) AllReadyH.nil
                      go_simp
                      (first | refine (r_better_any _ _ bo2 (KC) (⟨cr, cc, cv, cm, ca⟩ : Cm) _ (HTB.out.ext (ext_trans (ext_trans (ext_trans HBWO.out (ext_trans (ext_trans HBO1.out HBy3.out) HBy4.out)) HB2.out) (Below.refl _ _))) (HObo2.out.ext (ext_trans HB2.out (Below.refl _ _))) ((HJ2.out.le (Nat.zero_le _)).ext (Below.refl _ _)) HKN3.out HKM3.out).mono ?_ | refine (r_better_any _ _ bo2 (KC) (⟨cr, cc, cv, cm, ca⟩ : Cm) _ (HTB.out.ext (ext_trans (ext_trans (ext_trans HBWO.out (ext_trans (ext_trans HBO1.out HBy3.out) HBy4.out)) HB2.out) (Below.refl _ _).drew)) (HObo2.out.ext (ext_trans HB2.out (Below.refl _ _).drew)) ((HJ2.out.le (Nat.zero_le _)).ext (Below.refl _ _).drew) HKN3.out HKM3.out).mono ?_); rintro e y5 ⟨v3, rfl, ho3, hb3⟩; obtain ⟨a3, n3, c3, rfl⟩ := optI_form ho3; have HObo3 := hidIt ho3; have HBy5 : Hid (Below y4.heap.size y4 y5) := (by first | exact ext_trans (ext_trans HB2.out (Below.refl _ _)) hb3 | exact ext_trans (ext_trans HB2.out (Below.refl _ _).drew) hb3); clear ho3 hb3 HJ2 HB2; (try dsimp only)
                      refine hK.out _ _ ?_ (fun hHeld => ?_)
                      · exact HS.out _ HBy5.out
                      clear hK K
                      try simp only [Act.put, List.getElem_toArray, List.getElem_cons_succ, List.getElem_cons_zero, List.setIfInBounds_toArray, List.set_cons_zero, List.set_cons_succ]
                      refine wpAnyH_take (i := 17) (oi := _) (v := ?_) rfl (by kernel_rfl) (by kernel_rfl) (by kernel_rfl) (fun _ _ _ h => h) (Or.inl ⟨by rfl, ?_⟩) (by assumption) ?_
                      rotate_left 1
                      · intro wq hSw; (try dsimp only at hSw); go_simp; try (with_reducible rfl)
                      try simp only [Act.put, List.getElem_toArray, List.getElem_cons_succ, List.getElem_cons_zero, List.setIfInBounds_toArray, List.set_cons_zero, List.set_cons_succ]
                      refine wpAnyH_done (by kernel_rfl) ?_ _
                      clear HS
                      rw [hbo3.out] at HObo3
                      have HBF : Hid (Below wo.heap.size wo y5) := ext_trans (ext_trans (ext_trans HBO1.out HBy3.out) HBy4.out) HBy5.out
                      go_wp2_with fail
                      go_roundw
                      case rel => exact ⟨q + 1, _, _, _, _, by omega, by go_num, rfl, HObo3.out, HFN2.out, HBF.out⟩
                      case measure => simp [RowKit.intOf]; omega
                · obtain rfl : q = zs.length := by omega
                  have hge : ¬ (zs.length : Int) < (zs.length : Int) := by omega
                  have HFX : Hid ((((dOpl sl).take (p + 1)).flatMap (cnO (⟨cr, cc, cv, cm, ca⟩ : Cm))).foldl (dBtr sl (⟨cr, cc, cv, cm, ca⟩ : Cm)) bo0 = boq) := by
                    have h1 := HFN.out
                    have h2 := HMQ.out
                    rw [List.take_of_length_le (by rw [← HUM.out, List.length_map]; omega)] at h2
                    rw [show cnO (⟨cr, cc, cv, cm, ca⟩ : Cm) ⟨rk, cv, rm, ra, ras⟩ = (dTls ⟨rk, cv, rm, ra, ras⟩).flatMap (cnT (⟨cr, cc, cv, cm, ca⟩ : Cm) ⟨rk, cv, rm, ra, ras⟩) by unfold cnO; rw [if_pos rfl]] at h1
                    exact h1.trans h2
                  go_wp2_with fail
                  go_roundw
                  case rel => exact ⟨p + 1, _, _, _, boq, by omega, by go_num, rfl, HO.out, HFX.out, ext_trans HBL.out HB3.out⟩
                  case measure => simp [RowKit.intOf]; omega
            · have hvb : (rv != cv) = true := by simpa using hv
              go_upto_region 18 with fail
              go_quiet (fail)
              go_wp2_with fail
              have HFX : Hid (((((dOpl sl).take (p + 1)).flatMap (cnO (⟨cr, cc, cv, cm, ca⟩ : Cm))).foldl (dBtr sl (⟨cr, cc, cv, cm, ca⟩ : Cm)) bo0) = bo) := by
                have := HFN.out
                rw [show cnO (⟨cr, cc, cv, cm, ca⟩ : Cm) ⟨rk, rv, rm, ra, ras⟩ = [] by unfold cnO; rw [if_neg hv]] at this
                exact this
              go_roundw
              case rel => exact ⟨p + 1, _, _, _, bo, by omega, by go_num, rfl, HO.out.ext (below_drewN (Below.refl _ _) _), HFX.out, below_drewN HBL.out _⟩
              case measure => simp [RowKit.intOf]; omega
          · obtain rfl : p = os.length := by omega
            have hge : ¬ (os.length : Int) < (os.length : Int) := by omega
            have HXX : Hid (RES = bo) := by
              have h1 := HXR.out
              have h2 := HM.out
              rw [List.take_of_length_le (by rw [HOL.out]; omega)] at h2
              exact h1.trans h2
            go_wp2_with fail
            go_ret
            exact ⟨.slice ao n c, rfl, by rw [HXX.out]; exact HO.out, HBWO.out⟩
end Go.Proofs.YtfdceljdhgbkcaaGreatDoor
