import Derived.Test.YtfdceljdhgbkcaaGreatDoorJ36
import Derived.Test.YtfdceljdhgbkcaaGreatDoorJ23
/- The document's Of: its table laid. -/
namespace Go.Proofs.YtfdceljdhgbkcaaGreatDoor
open Go.RowKit
/-- Blocks that are neither rows nor ints. -/
def Othr (w : World) (o : Nat → Prop) : Prop := ∀ k, o k → ∃ cur T, w.heap[k]? = some (.cells cur T (0, 0)) ∧ T ≠ 3 ∧ T ≠ 71
theorem KI.keep {w w' : World} {o : Nat → Prop} {v : Value} {ks : List Int} (h : KI w v ks) (hk : Kps o w w') (ho : Othr w o) : KI w' v ks := by
  have hne : ∀ a n c, v = .slice (some a) n c → w'.heap[a.block]? = w.heap[a.block]? := fun a n c e => by
    obtain ⟨cur, r2, h3⟩ := h.2 a n c e
    refine hk.same _ (Array.getElem?_eq_some_iff.1 h3).1 (fun e2 => ?_)
    obtain ⟨cur2, T, hr, h4, _⟩ := ho _ e2
    rw [h3] at hr
    injection hr with hr
    injection hr with _ h5
    exact absurd h5.symm h4
  refine ⟨?_, fun a n c e => ?_⟩
  · obtain ⟨⟨ao, cap, hv, q1, q2, q3⟩, hs⟩ := h.1
    refine ⟨⟨ao, cap, hv, q1, q2, fun hn => ?_⟩, hs⟩
    obtain ⟨b, off, e1, hb1, hc1⟩ := q3 hn
    refine ⟨b, off, e1, Nat.lt_of_lt_of_le hb1 hk.size, fun i hi => ?_⟩
    rw [← hc1 i hi]
    unfold World.cell?
    have := hne ⟨b, off, none⟩ _ _ (by rw [hv, e1])
    simp only at this
    simp only [this]
  · obtain ⟨cur, r2, h3⟩ := h.2 a n c e
    exact ⟨cur, r2, (hne a n c e).trans h3⟩
theorem OwnD.keep {w w' : World} {o : Nat → Prop} {base : Nat} {v : Value} {xs : List (DRw × Value)} (h : OwnD w base v xs) (hk : Kps o w w') (ho : Othr w o) : OwnD w' base v xs := by
  refine ⟨⟨h.1.1, ?_⟩, fun x hx => (h.2 x hx).keep hk ho⟩
  rcases h.1.2 with e | ⟨g, cap, cur, e, h1, h2, h3⟩
  · exact .inl e
  · refine .inr ⟨g, cap, cur, e, h1, (hk.same _ (Array.getElem?_eq_some_iff.1 h2).1 (fun e2 => ?_)).trans h2, h3⟩
    obtain ⟨cur2, T, hr, _, h4⟩ := ho _ e2
    rw [h2] at hr
    injection hr with hr
    injection hr with _ h5
    exact absurd h5.symm h4
theorem lenTE : dMot.length ≤ 60 ∧ dObj.length ≤ 60 ∧ dNor.length ≤ 60 ∧ dSel.length ≤ 60 ∧ dOps.length = 8 := by decide
theorem tab3 {w : World} {b : Nat} {v0 v1 v2 : Value} (h : w.heap[b]? = some (.cells #[v0, v1, v2] 69 (0, 0))) (i : Nat) (v : Value) : (w.setCell ⟨b, i, none⟩ v).heap[b]? = some (.cells (#[v0, v1, v2].setIfInBounds i v) 69 (0, 0)) ∧ Kps (fun k => k = b) w (w.setCell ⟨b, i, none⟩ v) ∧ Othr w (fun k => k = b) := by
  obtain ⟨h1, h2⟩ := set1 h i v
  exact ⟨h1, Kps.grown h2 (fun k e _ => (Option.some.inj e).symm), fun k (e : k = b) => ⟨#[v0, v1, v2], 69, by subst e; exact h, by decide, by decide⟩⟩
theorem cells3f {w : World} {b : Nat} {T : TypeId} {v0 v1 v2 : Value} (h : w.heap[b]? = some (.cells #[v0, v1, v2] T (0, 0))) : w.cell? ⟨b, 0, none⟩ = some v0 ∧ w.cell? ⟨b, 1, none⟩ = some v1 ∧ w.cell? ⟨b, 2, none⟩ = some v2 ∧ ∀ i, w.frozen? ⟨b, i, none⟩ = false :=
  ⟨(cells3 h).1, (cells3 h).2.1, (cells3 h).2.2.1, fun i => by simp [World.frozen?, h]⟩
/-- The tails as they grow. -/
structure TlG (w : World) (base : Nat) (v : Value) (L : List DRw) : Prop where
  ex : ∃ us : List Value, w.ownsRow base 66 1 v L.length us ∧ us.length = L.length ∧ ∀ (i : Nat) (o : DRw), L[i]? = some o → ∃ u zs, us[i]? = some u ∧ OwnD w 0 u zs ∧ zs.map Prod.fst = dTls o
theorem Tryz.info_rows : (Tryz.prog.info? 66).map (fun i => (i.zero, i.size, i.bytes)) = some (some (.slice none 0 0), 1, 24) := by kernel_rfl
section
variable {P : Program} (W : World)
/-- append(v, s), of one row of rows. -/
theorem wp_append_sl {op : Oper} {a : Act} {K : Act → World → Prop} {Q : Exit → Act → World → Prop} (s x : Operand) (ho : op.op = .call { callee := .builtin .append, args := #[s, x], argTypes := #[67, 67] })
    (base : Nat) (v : Value) (n : Nat) (us : List Value) (hs : a.eval s = v) (hown : W.ownsRow base 66 1 v n us) (hul : us.length = n) (u : Value) (ad : Addr) (c : Nat) (hx : a.eval x = .slice (some ad) 1 c) (hu : W.cell? ad = some u) (had : ad.add 0 = ad) (h1 : u.oneCell' = true) (hl : n ≤ 1000) (hbase : base ≤ W.heap.size)
    (h : ∀ v' w', w'.ownsRow base 66 1 v' (n + 1) (us ++ [u]) → W.grownBy w' v.ownBlock → (v'.ownBlock = v.ownBlock ∨ v'.ownBlock = some W.heap.size) → K (a.put op.dst v') w') : op.wp Tryz.prog a W K Q := by
  obtain ⟨i0, hi, hz0, hz1, hz2⟩ := info_parts Tryz.info_rows
  obtain ⟨v', w', hr, h2, h3, h4⟩ := run_append_blk (P := Tryz.prog) W base 67 op.type 66 i0 (.slice none 0 0) 1 24 Tryz.underlying67 hi hz0 hz1 hz2 rfl (by decide) v n us hown ad 1 c [u] rfl (fun j q hj => by
    rcases j with _ | j
    · cases hj; rw [had]; exact hu
    · simp at hj) (fun q hq => by rw [List.mem_singleton.1 hq]; exact h1) (by unfold maxLen; omega) (by omega) hbase (by decide)
  unfold Oper.wp execOp
  simp only [ho, resolve, invoke, builtin, Sem.run_bind, Sem.run_pure, Result.andThen_ok, List.map_toArray, List.map_cons, List.map_nil, hs, hx, hr]
  exact h v' w' h2 h3 h4
end
/-- While the tails are laid. -/
structure OfI (w6 wr : World) (b : Nat) (rv ov tv : Value) (xs os : List (DRw × Value)) (p : Nat) : Prop where
  hr : wr.heap[b]? = some (.cells #[rv, ov, tv] 69 (0, 0))
  xr : OwnD wr 0 rv xs
  xo : OwnD wr 0 ov os
  tl : TlG wr w6.heap.size tv (dOps.take p)
  kp : Kps (fun k => k = b) w6 wr
theorem OwnD.one {w : World} {base : Nat} {v : Value} {xs : List (DRw × Value)} (h : OwnD w base v xs) : v.oneCell' = true := by
  obtain ⟨a, n, c, rfl⟩ := h.form
  rfl
theorem TlG.ext {w w' : World} {base : Nat} {v : Value} {L : List DRw} (h : TlG w base v L) (hb : Below w.heap.size w w') : TlG w' base v L := by
  obtain ⟨us, h1, h2, h3⟩ := h.ex
  refine ⟨us, own_ext h1 hb, h2, fun i o hi => ?_⟩
  obtain ⟨u, zs, k1, k2, k3⟩ := h3 i o hi
  exact ⟨u, zs, k1, k2.ext hb, k3⟩
theorem OfI.ext {w6 wr y : World} {b : Nat} {rv ov tv : Value} {xs os : List (DRw × Value)} {p : Nat} (h : OfI w6 wr b rv ov tv xs os p) (hb : Below wr.heap.size wr y) : OfI w6 y b rv ov tv xs os p :=
  ⟨(hb.block _ (Array.getElem?_eq_some_iff.1 h.hr).1).trans h.hr, h.xr.ext hb, h.xo.ext hb, h.tl.ext hb, Kps.trans h.kp (Kps.of_below (fun k => k = b) hb) (fun _ _ e => e)⟩
/-- The row of rows has grown. -/
theorem OfI.grow {w6 wr y : World} {b : Nat} {rv ov tv tv' u : Value} {xs os zs : List (DRw × Value)} {p : Nat} {o : DRw} {us : List Value} (h : OfI w6 wr b rv ov tv xs os p) (hp : dOps[p]? = some o) (hu1 : wr.ownsRow w6.heap.size 66 1 tv (dOps.take p).length us) (hu2 : us.length = (dOps.take p).length) (hu3 : ∀ (i : Nat) (q : DRw), (dOps.take p)[i]? = some q → ∃ u zs, us[i]? = some u ∧ OwnD wr 0 u zs ∧ zs.map Prod.fst = dTls q) (hz : OwnD wr 0 u zs) (hzm : zs.map Prod.fst = dTls o)
    (ho : y.ownsRow w6.heap.size 66 1 tv' ((dOps.take p).length + 1) (us ++ [u])) (hg : wr.grownBy y tv.ownBlock) : (y.heap[b]? = some (.cells #[rv, ov, tv] 69 (0, 0)) ∧ OwnD y 0 ov os) ∧ OfI w6 (y.setCell ⟨b, 2, none⟩ tv') b rv ov tv' xs os (p + 1) := by
  have htyp : Othr wr (fun k => tv.ownBlock = some k) := fun k e => by
    rcases hu1.2 with ⟨e2, _⟩ | ⟨g, cap, cur, e2, _, hgg, _⟩
    · rw [e2] at e; cases e
    · rw [e2] at e; cases e; exact ⟨cur, 66, hgg, by decide, by decide⟩
  have hnb : ¬ tv.ownBlock = some b := fun e => by
    rcases hu1.2 with ⟨e2, _⟩ | ⟨g, cap, cur, e2, _, hgg, _⟩
    · rw [e2] at e; cases e
    · rw [e2] at e; cases e
      rw [h.hr] at hgg
      injection hgg with hgg
      injection hgg with _ h3
      exact absurd h3 (by decide)
  have hk1 : Kps (fun k => tv.ownBlock = some k) wr y := Kps.grown hg (fun k e _ => e)
  have hb : y.heap[b]? = some (.cells #[rv, ov, tv] 69 (0, 0)) := (hk1.same b (Array.getElem?_eq_some_iff.1 h.hr).1 hnb).trans h.hr
  obtain ⟨t1, t2, t3⟩ := tab3 hb 2 tv'
  refine ⟨⟨hb, h.xo.keep hk1 htyp⟩, t1, (h.xr.keep hk1 htyp).keep t2 t3, (h.xo.keep hk1 htyp).keep t2 t3, ⟨us ++ [u], ?_, ?_, ?_⟩, ?_⟩
  · have hl : (dOps.take (p + 1)).length = (dOps.take p).length + 1 := by rw [List.take_add_one, hp, List.length_append]; rfl
    rw [hl]
    refine ⟨ho.1, ?_⟩
    rcases ho.2 with e | ⟨g, cap, cur, e, h1, h2, h3⟩
    · exact .inl e
    · refine .inr ⟨g, cap, cur, e, h1, (t2.same g (Array.getElem?_eq_some_iff.1 h2).1 (fun e2 => ?_)).trans h2, h3⟩
      rw [e2, hb] at h2
      injection h2 with h2
      injection h2 with _ h4
      exact absurd h4 (by decide)
  · rw [List.length_append, hu2, List.take_add_one, hp, List.length_append]
    rfl
  · intro i q hi
    rw [List.take_add_one, hp] at hi
    by_cases hlt : i < (dOps.take p).length
    · rw [List.getElem?_append_left hlt] at hi
      obtain ⟨u2, z2, k1, k2, k3⟩ := hu3 i q hi
      exact ⟨u2, z2, by rw [List.getElem?_append_left (by omega)]; exact k1, (k2.keep hk1 htyp).keep t2 t3, k3⟩
    · rw [List.getElem?_append_right (by omega)] at hi
      have hi0 : i = (dOps.take p).length := by
        obtain ⟨h9, _⟩ := List.getElem?_eq_some_iff.1 hi
        have : (some o).toList.length = 1 := rfl
        omega
      subst hi0
      rw [Nat.sub_self] at hi
      cases hi
      exact ⟨u, zs, by rw [List.getElem?_append_right (by omega), hu2, Nat.sub_self]; rfl, (hz.keep hk1 htyp).keep t2 t3, hzm⟩
  · refine Kps.trans (Kps.trans h.kp hk1 (fun i hi e => ?_)) t2 (fun _ _ e => e)
    have := (World.ownsRow.lt hu1 i e).1
    omega
set_option maxRecDepth 100000 in
set_option maxHeartbeats 8000000 in
theorem r_Of_true (w : World) : Calls Tryz.prog 15 #[.bool true] w fun e w' => ∃ b, e = .returned (.pointer (some ⟨b, 0, none⟩)) ∧ w.heap.size ≤ b ∧ TbM w' b true ∧ Below w.heap.size w w' := by
  obtain ⟨w1, hw1⟩ : ∃ w1, w1 = w.alloc (.cells #[.slice none 0 0, .slice none 0 0, .slice none 0 0] 69) := ⟨_, rfl⟩
  have HB0 : Hid (Below w.heap.size w w1) := by unfold Hid; rw [hw1]; exact ext_alloc (Below.refl _ _) _
  have HR0 : Hid (w1.heap[w.heap.size]? = some (.cells #[.slice none 0 0, .slice none 0 0, .slice none 0 0] 69 (0, 0))) := by unfold Hid; rw [hw1]; exact heap_alloc_new _ _
  have HLT := hidIt (Array.getElem?_eq_some_iff.1 HR0.out).1
  go_enter Tryz.func15, Tryz.ntmps15
  go_upto_region 2 with fail
  rw [← hw1]
  clear hw1
  go_wp2_with (first | (go_at_call 31; refine (r_motions_any _).mono ?_; rintro e y1 ⟨mv, ms, rfl, ho1, hm1, hb1⟩; (try dsimp only); obtain ⟨ma, mn, mc, rfl⟩ := ho1.form; have HO1 := hidIt ho1; have HM1 := hidIt hm1.out; have HB1 := hidIt hb1; clear ho1 hm1 hb1) | (go_at_call 32; refine (r_objects_any _).mono ?_; rintro e y2 ⟨v2, x2, rfl, ho2, hm2, hb2⟩; (try dsimp only); obtain ⟨a2, n2, c2, rfl⟩ := ho2.form; have HO2 := hidIt ho2; have HM2 := hidIt hm2.out; have HB2 := hidIt hb2; clear ho2 hm2 hb2))
  go_at_call 30; refine (r_both_any y2 w1.heap.size y1.heap.size _ _ ms x2 (HO1.out.ext HB2.out) HO2.out (fun k e1 e2 => by have := (HO1.out.blk e1).2; have := (HO2.out.blk e2).1; omega) (Nat.le_trans HB1.out.size HB2.out.size) ⟨by have := drp_len HM1.out lenTE.1; omega, by have := drp_len HM2.out lenTE.2.1; omega⟩).mono ?_; rintro e y3 ⟨v3, rfl, hg3⟩; (try dsimp only); obtain ⟨a3, n3, c3, rfl⟩ := hg3.ow.form; have HG3 := hidIt hg3; clear hg3
  go_wp2_with (go_at_call 33; refine (r_selected_any _).mono ?_; rintro e y4 ⟨v4, x4, rfl, ho4, hm4, hb4⟩; (try dsimp only); obtain ⟨a4, n4, c4, rfl⟩ := ho4.form; have HO4 := hidIt ho4; have HM4 := hidIt hm4.out; have HB4 := hidIt hb4; clear ho4 hm4 hb4)
  go_at_call 30; refine (r_both_any y4 w1.heap.size y3.heap.size _ _ (ms ++ x2) x4 (HG3.out.ow.ext HB4.out) HO4.out (fun k e1 e2 => by have := (HG3.out.ow.blk e1).2; have := (HO4.out.blk e2).1; omega) (Nat.le_trans HB1.out.size (Nat.le_trans HB2.out.size (Nat.le_trans HG3.out.kp.size HB4.out.size))) ⟨by have h1 := drp_len HM1.out lenTE.1; have h2 := drp_len HM2.out lenTE.2.1; rw [List.length_append]; omega, by have := drp_len HM4.out lenTE.2.2.2.1; omega⟩).mono ?_; rintro e y5 ⟨v5, rfl, hg5⟩; (try dsimp only); obtain ⟨a5, n5, c5, rfl⟩ := hg5.ow.form; have HG5 := hidIt hg5; clear hg5
  have HT3 : Hid (Below w1.heap.size w1 y3) := (ext_trans HB1.out HB2.out).trans (HG3.out.below (HO1.out.ext HB2.out) (Nat.le_trans HB1.out.size HB2.out.size))
  have HT4 : Hid (Below w1.heap.size w1 y4) := ext_trans HT3.out HB4.out
  have HT5 : Hid (Below w1.heap.size w1 y5) := HT4.out.trans (HG5.out.below (HG3.out.ow.ext HB4.out) HT4.out.size)
  have HR5 := hidIt ((HT5.out.block _ HLT.out).trans HR0.out)
  obtain ⟨k1, k2, k3⟩ := tab3 HR5.out 0 (.slice a5 n5 c5)
  obtain ⟨e0, e1, e2, ef⟩ := cells3f HR5.out
  have hbl : w.heap.size < y5.heap.size := (Array.getElem?_eq_some_iff.1 HR5.out).1
  have HTB : Hid (TbM (y5.setCell ⟨w.heap.size, 0, none⟩ (.slice a5 n5 c5)) w.heap.size true) := ⟨_, _, _, _, [], k1, (HG5.out.ow.keep k2 k3).le (Nat.zero_le _), by rw [List.map_append, List.map_append, HM1.out, HM2.out, HM4.out]; rfl, OwnD.nil _ _, rfl, ⟨none, 0, rfl, Nat.le_refl _, by omega, fun i o h => by simp [dOpl] at h⟩⟩
  have HBF : Hid (Below w.heap.size w (y5.setCell ⟨w.heap.size, 0, none⟩ (.slice a5 n5 c5))) := (ext_trans HB0.out HT5.out).trans (k2.below (Nat.le_of_lt hbl) (fun k e => Nat.le_of_eq e.symm))
  clear k1 k2 k3 HG3 HG5 HO1 HO2 HO4
  go_wp2_with fail
  go_ret
  exact ⟨w.heap.size, rfl, Nat.le_refl _, HTB.out, HBF.out⟩
set_option maxRecDepth 100000 in
set_option maxHeartbeats 8000000 in
theorem r_Of_false (w : World) : Calls Tryz.prog 15 #[.bool false] w fun e w' => ∃ b, e = .returned (.pointer (some ⟨b, 0, none⟩)) ∧ w.heap.size ≤ b ∧ TbM w' b false ∧ Below w.heap.size w w' := by
  obtain ⟨w1, hw1⟩ : ∃ w1, w1 = w.alloc (.cells #[.slice none 0 0, .slice none 0 0, .slice none 0 0] 69) := ⟨_, rfl⟩
  have HB0 : Hid (Below w.heap.size w w1) := by unfold Hid; rw [hw1]; exact ext_alloc (Below.refl _ _) _
  have HR0 : Hid (w1.heap[w.heap.size]? = some (.cells #[.slice none 0 0, .slice none 0 0, .slice none 0 0] 69 (0, 0))) := by unfold Hid; rw [hw1]; exact heap_alloc_new _ _
  have HLT := hidIt (Array.getElem?_eq_some_iff.1 HR0.out).1
  go_enter Tryz.func15, Tryz.ntmps15
  go_upto_region 2 with fail
  rw [← hw1]
  clear hw1
  go_wp2_with (first | (go_at_call 31; refine (r_motions_any _).mono ?_; rintro e y1 ⟨mv, ms, rfl, ho1, hm1, hb1⟩; (try dsimp only); obtain ⟨ma, mn, mc, rfl⟩ := ho1.form; have HO1 := hidIt ho1; have HM1 := hidIt hm1.out; have HB1 := hidIt hb1; clear ho1 hm1 hb1) | (go_at_call 34; refine (r_normal_any _).mono ?_; rintro e y2 ⟨v2, x2, rfl, ho2, hm2, hb2⟩; (try dsimp only); obtain ⟨a2, n2, c2, rfl⟩ := ho2.form; have HO2 := hidIt ho2; have HM2 := hidIt hm2.out; have HB2 := hidIt hb2; clear ho2 hm2 hb2))
  go_at_call 30; refine (r_both_any y2 w1.heap.size y1.heap.size _ _ ms x2 (HO1.out.ext HB2.out) HO2.out (fun k e1 e2 => by have := (HO1.out.blk e1).2; have := (HO2.out.blk e2).1; omega) (Nat.le_trans HB1.out.size HB2.out.size) ⟨by have := drp_len HM1.out lenTE.1; omega, by have := drp_len HM2.out lenTE.2.2.1; omega⟩).mono ?_; rintro e y3 ⟨v3, rfl, hg3⟩; (try dsimp only); obtain ⟨a3, n3, c3, rfl⟩ := hg3.ow.form; have HG3 := hidIt hg3; clear hg3
  have HT3 : Hid (Below w1.heap.size w1 y3) := (ext_trans HB1.out HB2.out).trans (HG3.out.below (HO1.out.ext HB2.out) (Nat.le_trans HB1.out.size HB2.out.size))
  have HR3 := hidIt ((HT3.out.block _ HLT.out).trans HR0.out)
  obtain ⟨k1, k2, k3⟩ := tab3 HR3.out 0 (.slice a3 n3 c3)
  obtain ⟨e0, e1, e2, ef⟩ := cells3f HR3.out
  have hbl : w.heap.size < y3.heap.size := (Array.getElem?_eq_some_iff.1 HR3.out).1
  obtain ⟨w4, hw4⟩ : ∃ w4, w4 = y3.setCell ⟨w.heap.size, 0, none⟩ (.slice a3 n3 c3) := ⟨_, rfl⟩
  rw [← hw4] at k1 k2
  have HR4 : Hid (w4.heap[w.heap.size]? = some (.cells #[.slice a3 n3 c3, .slice none 0 0, .slice none 0 0] 69 (0, 0))) := k1
  have HX4 : Hid (OwnD w4 0 (.slice a3 n3 c3) (ms ++ x2)) := (HG3.out.ow.keep k2 k3).le (Nat.zero_le _)
  have HBF4 : Hid (Below w.heap.size w w4) := (ext_trans HB0.out HT3.out).trans (k2.below (Nat.le_of_lt hbl) (fun k e => Nat.le_of_eq e.symm))
  have HXM : Hid ((ms ++ x2).map Prod.fst = dRws false) := by unfold Hid; rw [List.map_append, HM1.out, HM2.out]; rfl
  generalize ms ++ x2 = xs at HX4 HXM
  clear k1 k2 k3 HG3 HO1 HO2 HR3 HT3 HB1 HB2 HM1 HM2
  go_upto_region 6 with fail
  rw [← hw4]
  clear hw4 e0 e1 e2 ef hbl
  obtain ⟨e0, e1, e2, ef⟩ := cells3f HR4.out
  go_upto_region 7 with (go_at_call 35; refine (r_operators_any _).mono ?_; rintro e y5 ⟨v5, x5, rfl, ho5, hm5, hb5⟩; (try dsimp only); obtain ⟨a5, n5, c5, rfl⟩ := ho5.form; have HO5 := hidIt ho5; have HM5 := hidIt hm5.out; have HB5 := hidIt hb5; clear ho5 hm5 hb5; have HR5 := hidIt ((HB5.out.block _ (Array.getElem?_eq_some_iff.1 HR4.out).1).trans HR4.out); clear e0 e1 e2 ef; obtain ⟨e0, e1, e2, ef⟩ := cells3f HR5.out)
  obtain ⟨k1, k2, k3⟩ := tab3 HR5.out 1 (.slice a5 n5 c5)
  obtain ⟨w6, hw6⟩ : ∃ w6, w6 = y5.setCell ⟨w.heap.size, 1, none⟩ (.slice a5 n5 c5) := ⟨_, rfl⟩
  rw [← hw6] at k1 k2 ⊢
  clear hw6
  have hx5 : x5.length = 8 := by have := congrArg List.length HM5.out; rw [List.length_map, lenTE.2.2.2.2] at this; exact this
  obtain ⟨hn5, hc5⟩ : n5 = 8 ∧ 8 ≤ c5 := by
    obtain ⟨⟨ao', cap', e, r1, _⟩, _⟩ := HO5.out.rd
    injection e with e1 e2 e3
    exact ⟨by omega, by omega⟩
  subst hn5
  have hbl : w.heap.size < y5.heap.size := (Array.getElem?_eq_some_iff.1 HR5.out).1
  have HBF6 : Hid (Below w.heap.size w w6) := (ext_trans HBF4.out HB5.out).trans (k2.below (Nat.le_of_lt hbl) (fun k e => Nat.le_of_eq e.symm))
  have HI0 : Hid (OfI w6 w6 w.heap.size (.slice a3 n3 c3) (.slice a5 8 c5) (.slice none 0 0) xs x5 0) := ⟨k1, (HX4.out.ext HB5.out).keep k2 k3, (HO5.out.keep k2 k3).le (Nat.zero_le _), ⟨[], ⟨rfl, .inl ⟨rfl, rfl⟩⟩, rfl, fun i o hi => by simp at hi⟩, Kps.refl _ _⟩
  have HX5 := hidIt hx5
  have hbl6 : w.heap.size < w6.heap.size := (Array.getElem?_eq_some_iff.1 HI0.out.hr).1
  clear e0 e1 e2 ef k1 k2 k3 hx5 hbl HX4 HO5 HB5 HR5 HR4 HBF4
  go_wp2_with fail
  go_loopw [4] (fun iv wr => ∃ p : Nat, p ≤ 8 ∧ iv = .int .i64 p ∧ ∃ ta tn tc, Hid (OfI w6 wr w.heap.size (.slice a3 n3 c3) (.slice a5 8 c5) (.slice ta tn tc) xs x5 p)) (fun iv _ => 8 - (RowKit.intOf iv).toNat)
  case atStart => exact ⟨0, Nat.zero_le _, rfl, none, 0, 0, HI0.out⟩
  case round =>
    obtain ⟨p, hp, rfl, ta, tn, tc, HI⟩ := hrel
    obtain ⟨c0, c1, c2, cf⟩ := cells3f HI.out.hr
    by_cases hlt : p < 8
    · have hltI : (p : Int) < 8 := by omega
      obtain ⟨hq9, hq8, g, rfl, x, hx, hxk, d0, d1, d2, d3, d4⟩ := HI.out.xo.at (p := p) (by have := HX5.out; omega)
      have HOP : Hid (dOps[p]? = some x.1) := by unfold Hid; rw [← HM5.out, List.getElem?_map, hx]; rfl
      have hks := rows_ks.2.2 x.1 (List.mem_of_getElem? HOP.out)
      have HL12 : Hid (x.1.ks = [] ∨ x.1.ks.length = 1 ∨ x.1.ks.length = 2) := by unfold Hid; omega
      have HNE : Hid (x.1.ks ≠ []) := fun e => by rw [e] at hks; simp at hks
      have HSX : Hid (∀ W tvx, W.heap[w.heap.size]? = some (.cells #[.slice a3 n3 c3, .slice (some ⟨g, 0, none⟩) 8 c5, tvx] 69 (0, 0)) → OwnD W 0 (.slice (some ⟨g, 0, none⟩) 8 c5) x5 → W.cell? ⟨w.heap.size, 1, none⟩ = some (.slice (some ⟨g, 0, none⟩) 8 c5) ∧ W.cell? ⟨g, p * 5, none⟩ = some x.2 ∧ W.cell? ⟨g, p * 5 + 1, none⟩ = some (.int .i64 x.1.v) ∧ W.cell? ⟨g, p * 5 + 2, none⟩ = some (.int .i64 x.1.m) ∧ W.cell? ⟨g, p * 5 + 3, none⟩ = some (.int .i64 x.1.a) ∧ W.cell? ⟨g, p * 5 + 4, none⟩ = some (.bool x.1.asks)) := fun W tvx h1 h2 => by
        obtain ⟨_, _, g', e', x', hx', _, q0, q1, q2, q3, q4⟩ := h2.at (p := p) (by have := HX5.out; omega)
        cases e'
        rw [hx] at hx'
        cases hx'
        exact ⟨(cells3f h1).2.1, q0, q1, q2, q3, q4⟩
      obtain ⟨⟨okk, ov1, om1, oa1, oas1⟩, kv⟩ := x
      dsimp only at *
      obtain ⟨xa, xc, rfl, _⟩ := hxk.1.len
      have HXK := hidIt hxk
      have HSO : Hid (∀ W tvx, W.heap[w.heap.size]? = some (.cells #[.slice a3 n3 c3, .slice (some ⟨g, 0, none⟩) 8 c5, tvx] 69 (0, 0)) → OwnD W 0 (.slice (some ⟨g, 0, none⟩) 8 c5) x5 → W.cell? ⟨w.heap.size, 1, none⟩ = some (.slice (some ⟨g, 0, none⟩) 8 c5) ∧ W.cell? ⟨g, p * 5, none⟩ = some (.slice xa okk.length xc) ∧ W.cell? ⟨g, p * 5 + 1, none⟩ = some (.int .i64 ov1) ∧ W.cell? ⟨g, p * 5 + 2, none⟩ = some (.int .i64 om1) ∧ W.cell? ⟨g, p * 5 + 3, none⟩ = some (.int .i64 oa1) ∧ W.cell? ⟨g, p * 5 + 4, none⟩ = some (.bool oas1)) := HSX.out
      clear hx hxk hks hq9 hq8 HSX d0 d1 d2 d3 d4
      go_upto_region 10 with fail
      refine wp_region_held_drew (S := fun w' => w'.cell? ⟨w.heap.size, 1, none⟩ = some (.slice (some ⟨g, 0, none⟩) 8 c5) ∧ w'.cell? ⟨g, p * 5, none⟩ = some (.slice xa okk.length xc) ∧ w'.cell? ⟨g, p * 5 + 1, none⟩ = some (.int .i64 ov1) ∧ w'.cell? ⟨g, p * 5 + 2, none⟩ = some (.int .i64 om1) ∧ w'.cell? ⟨g, p * 5 + 3, none⟩ = some (.int .i64 oa1) ∧ w'.cell? ⟨g, p * 5 + 4, none⟩ = some (.bool oas1)) (by kernel_rfl) (by first | exact HSO.out _ _ (HI.out.ext (Below.refl _ _)).hr (HI.out.ext (Below.refl _ _)).xo | exact HSO.out _ _ (HI.out.ext (Below.refl _ _).drew).hr (HI.out.ext (Below.refl _ _).drew).xo) (fun hHeld => ?_)
      refine wpAnyH_take (i := 0) (oi := _) (v := ?_) rfl (by kernel_rfl) (by kernel_rfl) (by kernel_rfl) (fun _ _ _ h => h) (Or.inl ⟨by rfl, ?_⟩) (by assumption) ?_
      rotate_left 1
      · intro wq hSw; (try dsimp only at hSw); go_simp; try (with_reducible rfl)
      try simp only [Act.put, List.getElem_toArray, List.getElem_cons_zero, List.setIfInBounds_toArray, List.set_cons_zero, List.set_cons_succ]
      refine wpAnyH_take (i := 1) (oi := _) (v := ?_) rfl (by kernel_rfl) (by kernel_rfl) (by kernel_rfl) (fun _ _ _ h => h) (Or.inl ⟨by rfl, ?_⟩) (by assumption) ?_
      rotate_left 1
      · intro wq hSw; (try dsimp only at hSw); go_simp; try (with_reducible rfl)
      try simp only [Act.put, List.getElem_toArray, List.getElem_cons_succ, List.getElem_cons_zero, List.setIfInBounds_toArray, List.set_cons_zero, List.set_cons_succ]
      refine wpAnyH_take (i := 2) (oi := _) (v := ?_) rfl (by kernel_rfl) (by kernel_rfl) (by kernel_rfl) (fun _ _ _ h => h) (Or.inl ⟨by rfl, ?_⟩) (by assumption) ?_
      rotate_left 1
      · intro wq hSw; (try dsimp only at hSw); go_simp; try (with_reducible rfl)
      try simp only [Act.put, List.getElem_toArray, List.getElem_cons_succ, List.getElem_cons_zero, List.setIfInBounds_toArray, List.set_cons_zero, List.set_cons_succ]
      refine wpAnyH_take (i := 3) (oi := _) (v := ?_) rfl (by kernel_rfl) (by kernel_rfl) (by kernel_rfl) (fun _ _ _ h => h) (Or.inl ⟨by rfl, ?_⟩) (by assumption) ?_
      rotate_left 1
      · intro wq hSw; (try dsimp only at hSw); go_simp; try (with_reducible rfl)
      try simp only [Act.put, List.getElem_toArray, List.getElem_cons_succ, List.getElem_cons_zero, List.setIfInBounds_toArray, List.set_cons_zero, List.set_cons_succ]
      refine wpAnyH_take (i := 5) (oi := _) (v := ?_) rfl (by kernel_rfl) (by kernel_rfl) (by kernel_rfl) (fun _ _ _ h => h) (Or.inl ⟨by rfl, ?_⟩) (by assumption) ?_
      rotate_left 1
      · intro wq hSw; (try dsimp only at hSw); go_simp; try (with_reducible rfl)
      try simp only [Act.put, List.getElem_toArray, List.getElem_cons_succ, List.getElem_cons_zero, List.setIfInBounds_toArray, List.set_cons_zero, List.set_cons_succ]
      refine wpAnyH_take (i := 6) (oi := _) (v := ?_) rfl (by kernel_rfl) (by kernel_rfl) (by kernel_rfl) (fun _ _ _ h => h) (Or.inl ⟨by rfl, ?_⟩) (by assumption) ?_
      rotate_left 1
      · intro wq hSw; (try dsimp only at hSw); go_simp; try (with_reducible rfl)
      try simp only [Act.put, List.getElem_toArray, List.getElem_cons_succ, List.getElem_cons_zero, List.setIfInBounds_toArray, List.set_cons_zero, List.set_cons_succ]
      refine wpAnyH_take (i := 7) (oi := _) (v := ?_) rfl (by kernel_rfl) (by kernel_rfl) (by kernel_rfl) (fun _ _ _ h => h) (Or.inl ⟨by rfl, ?_⟩) (by assumption) ?_
      rotate_left 1
      · intro wq hSw; (try dsimp only at hSw); go_simp; try (with_reducible rfl)
      try simp only [Act.put, List.getElem_toArray, List.getElem_cons_succ, List.getElem_cons_zero, List.setIfInBounds_toArray, List.set_cons_zero, List.set_cons_succ]
      refine wpAnyH_take (i := 8) (oi := _) (v := ?_) rfl (by kernel_rfl) (by kernel_rfl) (by kernel_rfl) (fun _ _ _ h => h) (Or.inl ⟨by rfl, ?_⟩) (by assumption) ?_
      rotate_left 1
      · intro wq hSw; (try dsimp only at hSw); go_simp; try (with_reducible rfl)
      try simp only [Act.put, List.getElem_toArray, List.getElem_cons_succ, List.getElem_cons_zero, List.setIfInBounds_toArray, List.set_cons_zero, List.set_cons_succ]
      refine wpAnyH_take (i := 9) (oi := _) (v := ?_) rfl (by kernel_rfl) (by kernel_rfl) (by kernel_rfl) (fun _ _ _ h => h) (Or.inl ⟨by rfl, ?_⟩) (by assumption) ?_
      rotate_left 1
      · intro wq hSw; (try dsimp only at hSw); go_simp; try (with_reducible rfl)
      try simp only [Act.put, List.getElem_toArray, List.getElem_cons_succ, List.getElem_cons_zero, List.setIfInBounds_toArray, List.set_cons_zero, List.set_cons_succ]
      refine wpAnyH_take (i := 10) (oi := _) (v := ?_) rfl (by kernel_rfl) (by kernel_rfl) (by kernel_rfl) (fun _ _ _ h => h) (Or.inl ⟨by rfl, ?_⟩) (by assumption) ?_
      rotate_left 1
      · intro wq hSw; (try dsimp only at hSw); go_simp; try (with_reducible rfl)
      try simp only [Act.put, List.getElem_toArray, List.getElem_cons_succ, List.getElem_cons_zero, List.setIfInBounds_toArray, List.set_cons_zero, List.set_cons_succ]
      refine wpAnyH_take (i := 11) (oi := _) (v := ?_) rfl (by kernel_rfl) (by kernel_rfl) (by kernel_rfl) (fun _ _ _ h => h) (Or.inl ⟨by rfl, ?_⟩) (by assumption) ?_
      rotate_left 1
      · intro wq hSw; (try dsimp only at hSw); go_simp; try (with_reducible rfl)
      try simp only [Act.put, List.getElem_toArray, List.getElem_cons_succ, List.getElem_cons_zero, List.setIfInBounds_toArray, List.set_cons_zero, List.set_cons_succ]
      refine wpAnyH_ready (rs := [4, 12]) (by kernel_rfl) (by simp) ?_
      refine (AllReadyH.cons (o := _) rfl (fun K hK => ?_) (AllReadyH.cons (o := _) rfl (fun K hK => ?_) AllReadyH.nil))
      · skip
        go_simp
        refine hK.out _ _ ?_ (fun hHeld => ?_)
        · first | exact HSO.out _ _ (HI.out.ext (Below.refl _ _)).hr (HI.out.ext (Below.refl _ _)).xo | exact HSO.out _ _ (HI.out.ext (Below.refl _ _).drew).hr (HI.out.ext (Below.refl _ _).drew).xo
        clear hK K
        try simp only [Act.put, List.getElem_toArray, List.getElem_cons_succ, List.getElem_cons_zero, List.setIfInBounds_toArray, List.set_cons_zero, List.set_cons_succ]
        refine wpAnyH_ready (rs := [12]) (by kernel_rfl) (by simp) ?_
        refine AllReadyH.cons (o := _) rfl (fun K hK => ?_) AllReadyH.nil
        go_simp
        (first | refine (r_tails_any ⟨okk, ov1, om1, oa1, oas1⟩ (.slice xa okk.length xc) _ (HXK.out.ext (Below.refl _ _)) HL12.out HNE.out).mono ?_ | refine (r_tails_any ⟨okk, ov1, om1, oa1, oas1⟩ (.slice xa okk.length xc) _ (HXK.out.ext (Below.refl _ _).drew) HL12.out HNE.out).mono ?_); rintro e y ⟨zv, zs, rfl, hoz, hmz, hbz⟩; obtain ⟨za, zn, zc, rfl⟩ := hoz.form; (try dsimp only); have HBY : Hid (Below wr.heap.size wr y) := (by first | exact ext_trans (Below.refl _ _) hbz | exact ext_trans (Below.refl _ _).drew hbz); have HOZ := hidIt hoz; have HMZ := hidIt hmz.out; clear hoz hmz hbz; have HIY := hidIt (HI.out.ext HBY.out); have HIZ := hidIt (HI.out.ext (ext_alloc HBY.out (.cells #[.slice za zn zc] 66))); have c2y := (cells3f HIY.out.hr).2.2.1; have c2z := (cells3f HIZ.out.hr).2.2.1; obtain ⟨us, u1, u2, u3⟩ := HIZ.out.tl.ex; have U1 := hidIt u1; have U2 := hidIt u2; have U3 := hidIt u3; clear u1 u2 u3
        refine hK.out _ _ ?_ (fun hHeld => ?_)
        · exact HSO.out _ _ HIY.out.hr HIY.out.xo
        clear hK K
        try simp only [Act.put, List.getElem_toArray, List.getElem_cons_succ, List.getElem_cons_zero, List.setIfInBounds_toArray, List.set_cons_zero, List.set_cons_succ]
        refine wpAnyH_ready (rs := [13]) (by kernel_rfl) (by simp) ?_
        refine AllReadyH.cons (o := _) rfl (fun K hK => ?_) AllReadyH.nil
        go_simp
        refine hK.out _ _ ?_ (fun hHeld => ?_)
        · exact HSO.out _ _ HIZ.out.hr HIZ.out.xo
        clear hK K
        try simp only [Act.put, List.getElem_toArray, List.getElem_cons_succ, List.getElem_cons_zero, List.setIfInBounds_toArray, List.set_cons_zero, List.set_cons_succ]
        refine wpAnyH_ready (rs := [14]) (by kernel_rfl) (by simp) ?_
        refine AllReadyH.cons (o := _) rfl (fun K hK => ?_) AllReadyH.nil
        rw [if_pos (by rfl)]
        refine wp_append_sl (y.alloc (.cells #[.slice za zn zc] 66)) _ _ (by rfl) w6.heap.size (.slice ta tn tc) _ us (by rfl) U1.out U2.out (.slice za zn zc) ⟨y.heap.size, 0, none⟩ 1 (by rfl) (by simp) rfl rfl (by rw [List.length_take]; omega) HIZ.out.kp.size ?_; intro v9 w9 ho9 hg9 hn9; have HG9 := hidIt (HIZ.out.grow HOP.out U1.out U2.out U3.out ((HOZ.out.ext (ext_alloc (Below.refl _ _) _)).le (Nat.zero_le _)) HMZ.out ho9 hg9); clear hg9 hn9; obtain ⟨a9, n9, c9, rfl⟩ : ∃ a n c, v9 = Value.slice a n c := (by rcases ho9.2 with ⟨e2, _⟩ | ⟨g9, cap9, cur9, e2, _⟩; exact ⟨_, _, _, e2⟩; exact ⟨_, _, _, e2⟩); clear ho9; obtain ⟨q0, q1, q2, qf⟩ := cells3f HG9.out.1.1; (try dsimp only)
        refine hK.out _ _ ?_ (fun hHeld => ?_)
        · exact HSO.out _ _ HG9.out.1.1 HG9.out.1.2
        clear hK K
        try simp only [Act.put, List.getElem_toArray, List.getElem_cons_succ, List.getElem_cons_zero, List.setIfInBounds_toArray, List.set_cons_zero, List.set_cons_succ]
        refine wpAnyH_take (i := 15) (oi := _) (v := ?_) rfl (by kernel_rfl) (by kernel_rfl) (by kernel_rfl) (fun _ _ _ h => h) (Or.inl ⟨by rfl, ?_⟩) (by assumption) ?_
        rotate_left 1
        · intro wq hSw; (try dsimp only at hSw); go_simp; try (with_reducible rfl)
        try simp only [Act.put, List.getElem_toArray, List.getElem_cons_succ, List.getElem_cons_zero, List.setIfInBounds_toArray, List.set_cons_zero, List.set_cons_succ]
        refine wpAnyH_take (i := 16) (oi := _) (v := ?_) rfl (by kernel_rfl) (by kernel_rfl) (by kernel_rfl) (fun _ _ _ h => h) (Or.inl ⟨by rfl, ?_⟩) (by assumption) ?_
        rotate_left 1
        · intro wq hSw; (try dsimp only at hSw); go_simp; try (with_reducible rfl)
        try simp only [Act.put, List.getElem_toArray, List.getElem_cons_succ, List.getElem_cons_zero, List.setIfInBounds_toArray, List.set_cons_zero, List.set_cons_succ]
        refine wpAnyH_ready (rs := [17]) (by kernel_rfl) (by simp) ?_
        refine AllReadyH.cons (o := _) rfl (fun K hK => ?_) AllReadyH.nil
        go_simp
        refine hK.out _ _ ?_ (fun hHeld => ?_)
        · exact HSO.out _ _ HG9.out.2.hr HG9.out.2.xo
        clear hK K
        try simp only [Act.put, List.getElem_toArray, List.getElem_cons_succ, List.getElem_cons_zero, List.setIfInBounds_toArray, List.set_cons_zero, List.set_cons_succ]
        refine wpAnyH_done (by kernel_rfl) ?_ _
        go_wp2_with fail
        go_roundw
        case rel => exact ⟨p + 1, by omega, by go_num, _, _, _, HG9.out.2⟩
        case measure => simp [RowKit.intOf]; omega
      · skip
        go_simp
        (first | refine (r_tails_any ⟨okk, ov1, om1, oa1, oas1⟩ (.slice xa okk.length xc) _ (HXK.out.ext (Below.refl _ _)) HL12.out HNE.out).mono ?_ | refine (r_tails_any ⟨okk, ov1, om1, oa1, oas1⟩ (.slice xa okk.length xc) _ (HXK.out.ext (Below.refl _ _).drew) HL12.out HNE.out).mono ?_); rintro e y ⟨zv, zs, rfl, hoz, hmz, hbz⟩; obtain ⟨za, zn, zc, rfl⟩ := hoz.form; (try dsimp only); have HBY : Hid (Below wr.heap.size wr y) := (by first | exact ext_trans (Below.refl _ _) hbz | exact ext_trans (Below.refl _ _).drew hbz); have HOZ := hidIt hoz; have HMZ := hidIt hmz.out; clear hoz hmz hbz; have HIY := hidIt (HI.out.ext HBY.out); have HIZ := hidIt (HI.out.ext (ext_alloc HBY.out (.cells #[.slice za zn zc] 66))); have c2y := (cells3f HIY.out.hr).2.2.1; have c2z := (cells3f HIZ.out.hr).2.2.1; obtain ⟨us, u1, u2, u3⟩ := HIZ.out.tl.ex; have U1 := hidIt u1; have U2 := hidIt u2; have U3 := hidIt u3; clear u1 u2 u3
        refine hK.out _ _ ?_ (fun hHeld => ?_)
        · exact HSO.out _ _ HIY.out.hr HIY.out.xo
        clear hK K
        try simp only [Act.put, List.getElem_toArray, List.getElem_cons_succ, List.getElem_cons_zero, List.setIfInBounds_toArray, List.set_cons_zero, List.set_cons_succ]
        refine wpAnyH_ready (rs := [4, 13]) (by kernel_rfl) (by simp) ?_
        refine (AllReadyH.cons (o := _) rfl (fun K hK => ?_) (AllReadyH.cons (o := _) rfl (fun K hK => ?_) AllReadyH.nil))
        · skip
          go_simp
          refine hK.out _ _ ?_ (fun hHeld => ?_)
          · exact HSO.out _ _ HIY.out.hr HIY.out.xo
          clear hK K
          try simp only [Act.put, List.getElem_toArray, List.getElem_cons_succ, List.getElem_cons_zero, List.setIfInBounds_toArray, List.set_cons_zero, List.set_cons_succ]
          refine wpAnyH_ready (rs := [13]) (by kernel_rfl) (by simp) ?_
          refine AllReadyH.cons (o := _) rfl (fun K hK => ?_) AllReadyH.nil
          go_simp
          refine hK.out _ _ ?_ (fun hHeld => ?_)
          · exact HSO.out _ _ HIZ.out.hr HIZ.out.xo
          clear hK K
          try simp only [Act.put, List.getElem_toArray, List.getElem_cons_succ, List.getElem_cons_zero, List.setIfInBounds_toArray, List.set_cons_zero, List.set_cons_succ]
          refine wpAnyH_ready (rs := [14]) (by kernel_rfl) (by simp) ?_
          refine AllReadyH.cons (o := _) rfl (fun K hK => ?_) AllReadyH.nil
          rw [if_pos (by rfl)]
          refine wp_append_sl (y.alloc (.cells #[.slice za zn zc] 66)) _ _ (by rfl) w6.heap.size (.slice ta tn tc) _ us (by rfl) U1.out U2.out (.slice za zn zc) ⟨y.heap.size, 0, none⟩ 1 (by rfl) (by simp) rfl rfl (by rw [List.length_take]; omega) HIZ.out.kp.size ?_; intro v9 w9 ho9 hg9 hn9; have HG9 := hidIt (HIZ.out.grow HOP.out U1.out U2.out U3.out ((HOZ.out.ext (ext_alloc (Below.refl _ _) _)).le (Nat.zero_le _)) HMZ.out ho9 hg9); clear hg9 hn9; obtain ⟨a9, n9, c9, rfl⟩ : ∃ a n c, v9 = Value.slice a n c := (by rcases ho9.2 with ⟨e2, _⟩ | ⟨g9, cap9, cur9, e2, _⟩; exact ⟨_, _, _, e2⟩; exact ⟨_, _, _, e2⟩); clear ho9; obtain ⟨q0, q1, q2, qf⟩ := cells3f HG9.out.1.1; (try dsimp only)
          refine hK.out _ _ ?_ (fun hHeld => ?_)
          · exact HSO.out _ _ HG9.out.1.1 HG9.out.1.2
          clear hK K
          try simp only [Act.put, List.getElem_toArray, List.getElem_cons_succ, List.getElem_cons_zero, List.setIfInBounds_toArray, List.set_cons_zero, List.set_cons_succ]
          refine wpAnyH_take (i := 15) (oi := _) (v := ?_) rfl (by kernel_rfl) (by kernel_rfl) (by kernel_rfl) (fun _ _ _ h => h) (Or.inl ⟨by rfl, ?_⟩) (by assumption) ?_
          rotate_left 1
          · intro wq hSw; (try dsimp only at hSw); go_simp; try (with_reducible rfl)
          try simp only [Act.put, List.getElem_toArray, List.getElem_cons_succ, List.getElem_cons_zero, List.setIfInBounds_toArray, List.set_cons_zero, List.set_cons_succ]
          refine wpAnyH_take (i := 16) (oi := _) (v := ?_) rfl (by kernel_rfl) (by kernel_rfl) (by kernel_rfl) (fun _ _ _ h => h) (Or.inl ⟨by rfl, ?_⟩) (by assumption) ?_
          rotate_left 1
          · intro wq hSw; (try dsimp only at hSw); go_simp; try (with_reducible rfl)
          try simp only [Act.put, List.getElem_toArray, List.getElem_cons_succ, List.getElem_cons_zero, List.setIfInBounds_toArray, List.set_cons_zero, List.set_cons_succ]
          refine wpAnyH_ready (rs := [17]) (by kernel_rfl) (by simp) ?_
          refine AllReadyH.cons (o := _) rfl (fun K hK => ?_) AllReadyH.nil
          go_simp
          refine hK.out _ _ ?_ (fun hHeld => ?_)
          · exact HSO.out _ _ HG9.out.2.hr HG9.out.2.xo
          clear hK K
          try simp only [Act.put, List.getElem_toArray, List.getElem_cons_succ, List.getElem_cons_zero, List.setIfInBounds_toArray, List.set_cons_zero, List.set_cons_succ]
          refine wpAnyH_done (by kernel_rfl) ?_ _
          go_wp2_with fail
          go_roundw
          case rel => exact ⟨p + 1, by omega, by go_num, _, _, _, HG9.out.2⟩
          case measure => simp [RowKit.intOf]; omega
        · skip
          go_simp
          refine hK.out _ _ ?_ (fun hHeld => ?_)
          · exact HSO.out _ _ HIZ.out.hr HIZ.out.xo
          clear hK K
          try simp only [Act.put, List.getElem_toArray, List.getElem_cons_succ, List.getElem_cons_zero, List.setIfInBounds_toArray, List.set_cons_zero, List.set_cons_succ]
          refine wpAnyH_ready (rs := [4]) (by kernel_rfl) (by simp) ?_
          refine AllReadyH.cons (o := _) rfl (fun K hK => ?_) AllReadyH.nil
          go_simp
          refine hK.out _ _ ?_ (fun hHeld => ?_)
          · exact HSO.out _ _ HIZ.out.hr HIZ.out.xo
          clear hK K
          try simp only [Act.put, List.getElem_toArray, List.getElem_cons_succ, List.getElem_cons_zero, List.setIfInBounds_toArray, List.set_cons_zero, List.set_cons_succ]
          refine wpAnyH_ready (rs := [14]) (by kernel_rfl) (by simp) ?_
          refine AllReadyH.cons (o := _) rfl (fun K hK => ?_) AllReadyH.nil
          rw [if_pos (by rfl)]
          refine wp_append_sl (y.alloc (.cells #[.slice za zn zc] 66)) _ _ (by rfl) w6.heap.size (.slice ta tn tc) _ us (by rfl) U1.out U2.out (.slice za zn zc) ⟨y.heap.size, 0, none⟩ 1 (by rfl) (by simp) rfl rfl (by rw [List.length_take]; omega) HIZ.out.kp.size ?_; intro v9 w9 ho9 hg9 hn9; have HG9 := hidIt (HIZ.out.grow HOP.out U1.out U2.out U3.out ((HOZ.out.ext (ext_alloc (Below.refl _ _) _)).le (Nat.zero_le _)) HMZ.out ho9 hg9); clear hg9 hn9; obtain ⟨a9, n9, c9, rfl⟩ : ∃ a n c, v9 = Value.slice a n c := (by rcases ho9.2 with ⟨e2, _⟩ | ⟨g9, cap9, cur9, e2, _⟩; exact ⟨_, _, _, e2⟩; exact ⟨_, _, _, e2⟩); clear ho9; obtain ⟨q0, q1, q2, qf⟩ := cells3f HG9.out.1.1; (try dsimp only)
          refine hK.out _ _ ?_ (fun hHeld => ?_)
          · exact HSO.out _ _ HG9.out.1.1 HG9.out.1.2
          clear hK K
          try simp only [Act.put, List.getElem_toArray, List.getElem_cons_succ, List.getElem_cons_zero, List.setIfInBounds_toArray, List.set_cons_zero, List.set_cons_succ]
          refine wpAnyH_take (i := 15) (oi := _) (v := ?_) rfl (by kernel_rfl) (by kernel_rfl) (by kernel_rfl) (fun _ _ _ h => h) (Or.inl ⟨by rfl, ?_⟩) (by assumption) ?_
          rotate_left 1
          · intro wq hSw; (try dsimp only at hSw); go_simp; try (with_reducible rfl)
          try simp only [Act.put, List.getElem_toArray, List.getElem_cons_succ, List.getElem_cons_zero, List.setIfInBounds_toArray, List.set_cons_zero, List.set_cons_succ]
          refine wpAnyH_take (i := 16) (oi := _) (v := ?_) rfl (by kernel_rfl) (by kernel_rfl) (by kernel_rfl) (fun _ _ _ h => h) (Or.inl ⟨by rfl, ?_⟩) (by assumption) ?_
          rotate_left 1
          · intro wq hSw; (try dsimp only at hSw); go_simp; try (with_reducible rfl)
          try simp only [Act.put, List.getElem_toArray, List.getElem_cons_succ, List.getElem_cons_zero, List.setIfInBounds_toArray, List.set_cons_zero, List.set_cons_succ]
          refine wpAnyH_ready (rs := [17]) (by kernel_rfl) (by simp) ?_
          refine AllReadyH.cons (o := _) rfl (fun K hK => ?_) AllReadyH.nil
          go_simp
          refine hK.out _ _ ?_ (fun hHeld => ?_)
          · exact HSO.out _ _ HG9.out.2.hr HG9.out.2.xo
          clear hK K
          try simp only [Act.put, List.getElem_toArray, List.getElem_cons_succ, List.getElem_cons_zero, List.setIfInBounds_toArray, List.set_cons_zero, List.set_cons_succ]
          refine wpAnyH_done (by kernel_rfl) ?_ _
          go_wp2_with fail
          go_roundw
          case rel => exact ⟨p + 1, by omega, by go_num, _, _, _, HG9.out.2⟩
          case measure => simp [RowKit.intOf]; omega
    · obtain rfl : p = 8 := by omega
      have hge : ¬ ((8 : Nat) : Int) < 8 := by omega
      have HTB : Hid (TbM wr w.heap.size false) := ⟨_, _, _, xs, x5, HI.out.hr, HI.out.xr, HXM.out, HI.out.xo, HM5.out, by
        obtain ⟨us, u1, u2, u3⟩ := HI.out.tl.ex
        have h8 : dOps.take 8 = dOps := rfl
        rw [h8] at u1 u2 u3
        rcases u1.2 with ⟨_, e2⟩ | ⟨g9, cap9, cur9, e2, _, hg9, e3, e4, _, e5⟩
        · rw [lenTE.2.2.2.2] at e2; cases e2
        · refine ⟨_, cap9, e2, e3, by unfold maxLen at e4; exact e4, fun i o hi => ?_⟩
          obtain ⟨u, zs, v1, v2, v3⟩ := u3 i o hi
          refine ⟨g9, u, zs, rfl, ⟨cur9, hg9⟩, ?_, v2, v3⟩
          rw [cell_of_row _ _ _ _ _ _ hg9]
          rw [← e5, List.getElem?_take] at v1
          split at v1
          · simpa using v1
          · cases v1⟩
      have HBF : Hid (Below w.heap.size w wr) := HBF6.out.trans (HI.out.kp.below (Nat.le_of_lt hbl6) (fun k e => Nat.le_of_eq e.symm))
      go_wp2_with fail
      go_ret
      exact ⟨w.heap.size, rfl, Nat.le_refl _, HTB.out, HBF.out⟩
end Go.Proofs.YtfdceljdhgbkcaaGreatDoor
