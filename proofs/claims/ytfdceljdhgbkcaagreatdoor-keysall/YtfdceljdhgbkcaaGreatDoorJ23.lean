import Derived.Test.YtfdceljdhgbkcaaGreatDoorJ22
/- The document's both, tails, Of: its functions. -/
namespace Go.Proofs.YtfdceljdhgbkcaaGreatDoor
open Go.RowKit
/-- A block of rows is none of ints. -/
theorem OwnD.typ {w : World} {base : Nat} {v : Value} {xs : List (DRw × Value)} (h : OwnD w base v xs) {k : Nat} (e : v.ownBlock = some k) : ∃ cur, w.heap[k]? = some (.cells cur 71 (0, 0)) := by
  rcases h.1.2 with ⟨e2, _⟩ | ⟨g, cap, cur, e2, _, hg, _⟩
  · rw [e2] at e; cases e
  · rw [e2] at e; cases e; exact ⟨cur, hg⟩
/-- Keys stay where only rows turn. -/
theorem KI.rows {w w' : World} {o : Nat → Prop} {v : Value} {ks : List Int} (h : KI w v ks) (hk : Kps o w w') (ho : ∀ k, o k → ∃ cur, w.heap[k]? = some (.cells cur 71 (0, 0))) : KI w' v ks := by
  have hne : ∀ a n c, v = .slice (some a) n c → w'.heap[a.block]? = w.heap[a.block]? := fun a n c e => by
    obtain ⟨cur, r2, h3⟩ := h.2 a n c e
    refine hk.same _ (Array.getElem?_eq_some_iff.1 h3).1 (fun e2 => ?_)
    obtain ⟨cur2, hr⟩ := ho _ e2
    rw [h3] at hr
    injection hr with hr
    injection hr with _ h4
    exact absurd h4 (by decide)
  refine ⟨?_, fun a n c e => ?_⟩
  · obtain ⟨⟨ao, cap, hv, q1, q2, q3⟩, hs⟩ := h.1
    refine ⟨⟨ao, cap, hv, q1, q2, fun hn => ?_⟩, hs⟩
    obtain ⟨b, off, e1, hb1, hc1⟩ := q3 hn
    refine ⟨b, off, e1, Nat.lt_of_lt_of_le hb1 hk.size, fun i hi => ?_⟩
    rw [← hc1 i hi]
    unfold World.cell?
    have := hne ⟨b, off, none⟩ _ _ (by rw [hv, e1])
    simp only at this
    simp only [this]
  · obtain ⟨cur, r2, h3⟩ := h.2 a n c e
    exact ⟨cur, r2, (hne a n c e).trans h3⟩
theorem OwnD.rows {w w' : World} {o : Nat → Prop} {base : Nat} {v : Value} {xs : List (DRw × Value)} (h : OwnD w base v xs) (hk : Kps o w w') (ho : ∀ k, o k → ∃ cur, w.heap[k]? = some (.cells cur 71 (0, 0))) (hd : ∀ k, o k → ¬ v.ownBlock = some k) : OwnD w' base v xs := by
  refine ⟨⟨h.1.1, ?_⟩, fun x hx => (h.2 x hx).rows hk ho⟩
  rcases h.1.2 with e | ⟨g, cap, cur, e, h1, h2, h3⟩
  · exact .inl e
  · exact .inr ⟨g, cap, cur, e, h1, (hk.same _ (Array.getElem?_eq_some_iff.1 h2).1 (fun e2 => hd _ e2 (by rw [e]; rfl))).trans h2, h3⟩
set_option maxRecDepth 100000 in
set_option maxHeartbeats 4000000 in
theorem r_both_any (w : World) (base base2 : Nat) (va vb : Value) (xs ys : List (DRw × Value)) (ha : OwnD w base va xs) (hb : OwnD w base2 vb ys) (hd : ∀ k, va.ownBlock = some k → ¬ vb.ownBlock = some k) (hbase : base ≤ w.heap.size) (hl : xs.length ≤ 300 ∧ ys.length ≤ 300) :
    Calls Tryz.prog 30 #[va, vb] w fun e w' => ∃ v, e = .returned v ∧ Gro w va base w' v (xs ++ ys) := by
  obtain ⟨a0, n0, c0, rfl⟩ := ha.form
  obtain ⟨a1, n1, c1, rfl⟩ := hb.form
  obtain ⟨hn1, hc1⟩ : n1 = ys.length ∧ ys.length ≤ c1 := by
    obtain ⟨⟨ao', cap', e, r1, _⟩, _⟩ := hb.rd
    injection e with e1 e2 e3
    exact ⟨e2, by omega⟩
  subst hn1
  have HB : Hid (∀ wr, Kps (fun k => (Value.slice a0 n0 c0).ownBlock = some k) w wr → OwnD wr base2 (.slice a1 ys.length c1) ys) := fun wr hk => hb.rows hk (fun k e => ha.typ e) hd
  have HA := hidIt ha
  have HL := hidIt hl
  have HBS := hidIt hbase
  have hy9 : ys.length ≤ 300 := hl.2
  clear ha hb hd hl hbase
  go_enter Tryz.func30, Tryz.ntmps30
  go_wp2_with fail
  go_loopw [0, 5] (fun rv iv wr => ∃ (p : Nat) (ao : Option Addr) (n c : Nat), p ≤ ys.length ∧ iv = .int .i64 p ∧ rv = .slice ao n c ∧ Hid (Gro w (.slice a0 n0 c0) base wr (.slice ao n c) (xs ++ ys.take p))) (fun _ iv _ => ys.length - (RowKit.intOf iv).toNat)
  case atStart => exact ⟨0, a0, n0, c0, Nat.zero_le _, rfl, rfl, by rw [List.take_zero, List.append_nil]; exact Gro.init HA.out⟩
  case round =>
    obtain ⟨p, ao, n, c, hp, rfl, rfl, HG⟩ := hrel
    by_cases hlt : p < ys.length
    · have hltI : (p : Int) < (ys.length : Int) := by omega
      obtain ⟨_, _, g, rfl, x, hx, hxk, d0, d1, d2, d3, d4⟩ := (HB.out wr HG.out.kp).at hlt
      have HNX : Hid (xs ++ ys.take (p + 1) = (xs ++ ys.take p) ++ [x]) := by unfold Hid; rw [List.take_add_one, hx, List.append_assoc]; rfl
      have HTL : Hid ((xs ++ ys.take p).length ≤ 600) := by unfold Hid; rw [List.length_append, List.length_take]; have := HL.out; omega
      obtain ⟨⟨tk, tv, tm, ta, tas⟩, kv⟩ := x
      dsimp only at *
      obtain ⟨xa, xc, rfl, _⟩ := hxk.1.len
      have HXK := hidIt hxk
      clear hx hxk
      generalize xs ++ ys.take p = zs at HG HNX HTL
      go_wp2_with (at_builtin; refine wpl_drows rfl _ _ rfl base (.slice ao n c) zs rfl (HG.out.ext (ext_alloc (Below.refl _ _) _)).ow _ [(⟨tk, tv, tm, ta, tas⟩, .slice xa tk.length xc)] rfl (drow_lit ⟨tk, tv, tm, ta, tas⟩ _ HXK.out) (by have := HTL.out; simp; omega) (Nat.le_trans HBS.out (HG.out.ext (ext_alloc (Below.refl _ _) _)).kp.size) (by simp) ?_; intro v9 w9 ho9 hb9 hg9 hn9; clear hb9; rw [← HNX.out] at ho9; obtain ⟨ao9, n9, c9, rfl⟩ := ho9.form; have HG9 := hidIt ((HG.out.ext (ext_alloc (Below.refl _ _) _)).push ho9 hg9 hn9); clear ho9 hg9 hn9; (try dsimp only))
      go_roundw
      case rel => exact ⟨p + 1, ao9, n9, c9, by omega, rfl, rfl, HG9.out⟩
      case measure => simp [RowKit.intOf]; omega
    · obtain rfl : p = ys.length := by omega
      have hge : ¬ (ys.length : Int) < (ys.length : Int) := by omega
      go_wp2_with fail
      go_ret
      refine ⟨_, rfl, ?_⟩
      have := HG.out
      rwa [List.take_length] at this
/-! tails -/
def svD (q : Int) (x : DRw × Value) : DRw × Value := ({ x.1 with v := q }, x.2)
theorem fd_set (q : Int) : ∀ (xs : List (DRw × Value)) (p : Nat) (x : DRw × Value), xs[p]? = some x → (fd xs).set (p * 5 + 1) (.int .i64 q) = fd (xs.set p (svD q x))
  | [], p, x, h => by simp at h
  | y :: ys, 0, x, h => by
    have : y = x := by simpa using h
    subst this
    rw [List.set_cons_zero, fd_cons, fd_cons]
    rfl
  | y :: ys, p + 1, x, h => by
    have ih := fd_set q ys p x (by simpa using h)
    rw [List.set_cons_succ, fd_cons, fd_cons, ← ih, show (p + 1) * 5 + 1 = p * 5 + 1 + 1 + 1 + 1 + 1 + 1 by omega]
    rfl
theorem OwnD.set {w : World} {base : Nat} {v : Value} {xs : List (DRw × Value)} (h : OwnD w base v xs) {p g : Nat} {x : DRw × Value} (hx : xs[p]? = some x) (hg : v.ownBlock = some g) (q : Int) :
    OwnD (w.setCell ⟨g, p * 5 + 1, none⟩ (.int .i64 q)) base v (xs.set p (svD q x)) ∧ w.grownBy (w.setCell ⟨g, p * 5 + 1, none⟩ (.int .i64 q)) (some g) := by
  obtain ⟨⟨h1, h2⟩, h3⟩ := h
  rcases h2 with ⟨e, _⟩ | ⟨g', cap, cur, e, hb, hc, hn, hm, hs, ht⟩
  · rw [e] at hg; cases hg
  · have eg : g' = g := by rw [e] at hg; exact Option.some.inj hg
    subst eg
    obtain ⟨s1, s2⟩ := set1 hc (p * 5 + 1) (.int .i64 q)
    refine ⟨⟨⟨by rw [fd_len], .inr ⟨g', cap, _, by rw [e, List.length_set], hb, s1, by rw [List.length_set]; exact hn, hm, by rw [Array.size_setIfInBounds]; exact hs, ?_⟩⟩, fun y hy => ?_⟩, s2⟩
    · rw [List.length_set, ← fd_set q xs p x hx, ← ht, Array.toList_setIfInBounds, List.take_set]
    · rcases List.mem_or_eq_of_mem_set hy with hy | hy
      · exact (h3 y hy).poke s2 hc
      · subst hy
        exact (h3 x (List.mem_of_getElem? hx)).poke s2 hc
theorem set_step {q : Int} {xs : List (DRw × Value)} {p : Nat} {x : DRw × Value} (h : xs[p]? = some x) : ((xs.take p).map (svD q) ++ xs.drop p)[p]? = some x ∧ ((xs.take p).map (svD q) ++ xs.drop p).set p (svD q x) = (xs.take (p + 1)).map (svD q) ++ xs.drop (p + 1) := by
  obtain ⟨hp, e⟩ := List.getElem?_eq_some_iff.1 h
  have hl : ((xs.take p).map (svD q)).length = p := by rw [List.length_map, List.length_take]; omega
  have hd : xs.drop p = x :: xs.drop (p + 1) := by rw [List.drop_eq_getElem_cons hp, e]
  constructor
  · rw [List.getElem?_append_right (by omega), hl, Nat.sub_self, hd]
    rfl
  · rw [List.set_append_right _ _ (by omega), hl, Nat.sub_self, hd, List.set_cons_zero, List.take_add_one, h, List.map_append, List.append_assoc]
    rfl
/-- A rest of keys. -/
theorem KI.rest {w : World} {b off n c : Nat} {zs : List Int} (h : KI w (.slice (some ⟨b, off, none⟩) n c) zs) (k : Nat) (hk : k < zs.length) : KI w (.slice (some ⟨b, off + k, none⟩) (n - k) (c - k)) (zs.drop k) :=
  ⟨h.1.rest k hk, fun a n' c' e => by cases e; exact h.2 ⟨b, off, none⟩ _ _ rfl⟩
theorem two_of {l : List Int} (h : l.length = 2) : ∃ x y, l = [x, y] := by
  match l, h with
  | [x, y], _ => exact ⟨x, y, rfl⟩
theorem lenTD : dMot.length ≤ 200 ∧ dObj.length ≤ 200 ∧ dNor.length ≤ 200 ∧ dSel.length ≤ 200 ∧ dOps.length ≤ 200 := by decide
theorem drp_len {xs : List (DRw × Value)} {L : List DRw} (h : xs.map Prod.fst = L) {n : Nat} (hl : L.length ≤ n) : xs.length ≤ n := by
  have := congrArg List.length h
  rw [List.length_map] at this
  omega
set_option maxRecDepth 100000 in
set_option maxHeartbeats 8000000 in
theorem r_tails_any (o : DRw) (kv : Value) (w : World) (hki : KI w kv o.ks) (hk1 : o.ks = [] ∨ o.ks.length = 1 ∨ o.ks.length = 2) (hk0 : o.ks ≠ []) :
    Calls Tryz.prog 36 #[.agg #[kv, .int .i64 o.v, .int .i64 o.m, .int .i64 o.a, .bool o.asks]] w fun e w' => DrP w w' (dTls o) e := by
  have HDT := hidIt (show dTls o = ((dMot ++ dObj) ++ ([⟨o.ks.drop (o.ks.length - 1), 0, 60, 0, false⟩] : List DRw) ++ (if 1 < o.ks.length then ([⟨o.ks, 0, 60, 0, false⟩] : List DRw) else [])).map (fun (r : DRw) => { r with v := o.v }) from rfl)
  generalize dTls o = LT at HDT ⊢
  obtain ⟨ok, ov, om, oa, oas⟩ := o
  dsimp only at *
  obtain ⟨ka, kc, rfl, hkc⟩ := hki.1.len
  obtain ⟨w0, hw0⟩ : ∃ w0, w0 = w.alloc (.cells #[.slice ka ok.length kc, .int .i64 ov, .int .i64 om, .int .i64 oa, .bool oas] 71) := ⟨_, rfl⟩
  have HB0 : Hid (Below w.heap.size w w0) := by unfold Hid; rw [hw0]; exact ext_alloc (Below.refl _ _) _
  have HR0 : Hid (w0.heap[w.heap.size]? = some (.cells #[.slice ka ok.length kc, .int .i64 ov, .int .i64 om, .int .i64 oa, .bool oas] 71 (0, 0))) := by unfold Hid; rw [hw0]; exact heap_alloc_new _ _
  have HKI := hidIt hki
  clear hki
  go_enter Tryz.func36, Tryz.ntmps36
  go_upto_region 1 with fail
  rw [← hw0]
  clear hw0
  have HBW : Hid (w.heap.size < w0.heap.size) := (Array.getElem?_eq_some_iff.1 HR0.out).1
  go_upto_region 2 with (first | (go_at_call 31; refine (r_motions_any _).mono ?_; rintro e w1 ⟨mv, ms, rfl, ho1, hm1, hb1⟩; (try dsimp only); obtain ⟨ma, mn, mc, rfl⟩ := ho1.form; have HO1 := hidIt ho1; have HM1 := hidIt hm1.out; have HB1 := hidIt hb1; clear ho1 hm1 hb1) | (go_at_call 32; refine (r_objects_any _).mono ?_; rintro e w2 ⟨bv, bs, rfl, ho2, hm2, hb2⟩; (try dsimp only); obtain ⟨ba, bn, bc, rfl⟩ := ho2.form; have HO2 := hidIt ho2; have HM2 := hidIt hm2.out; have HB2 := hidIt hb2; clear ho2 hm2 hb2) | (go_at_call 30; refine (r_both_any w2 w0.heap.size w1.heap.size _ _ ms bs (HO1.out.ext HB2.out) HO2.out (fun k e1 e2 => by have := (HO1.out.blk e1).2; have := (HO2.out.blk e2).1; omega) (Nat.le_trans HB1.out.size HB2.out.size) ⟨by have := drp_len HM1.out lenTD.1; omega, by have := drp_len HM2.out lenTD.2.1; omega⟩).mono ?_; rintro e w3 ⟨v3, rfl, hg3⟩; (try dsimp only); obtain ⟨a3, n3, c3, rfl⟩ := hg3.ow.form; have HG3 := hidIt hg3; clear hg3))
  obtain ⟨B1, hB1⟩ : ∃ B1, B1 = w0.heap.size := ⟨_, rfl⟩
  have HO3 : Hid (OwnD w3 B1 (.slice a3 n3 c3) (ms ++ bs)) := by unfold Hid; rw [hB1]; exact HG3.out.ow
  have HT3 : Hid (Below B1 w0 w3) := by
    unfold Hid
    rw [hB1]
    exact (ext_trans HB1.out HB2.out).trans (HG3.out.below (HO1.out.ext HB2.out) (Nat.le_trans HB1.out.size HB2.out.size))
  have HS3 : Hid (B1 ≤ w3.heap.size) := by unfold Hid; rw [hB1]; exact HT3.out.size
  have HWB : Hid (w.heap.size < B1) := by unfold Hid; rw [hB1]; exact HBW.out
  have HBB : Hid (Below w.heap.size w w3) := HB0.out.trans (HT3.out.mono (Nat.le_of_lt HWB.out))
  obtain ⟨xs3, HX3⟩ : ∃ xs3, Hid (xs3 = ms ++ bs) := ⟨_, hidIt rfl⟩
  rw [← HX3.out] at HO3
  have HM3 : Hid (xs3.map Prod.fst = dMot ++ dObj) := by unfold Hid; rw [HX3.out, List.map_append, HM1.out, HM2.out]
  have HL3 : Hid (xs3.length ≤ 400) := by have h1 := drp_len HM1.out lenTD.1; have h2 := drp_len HM2.out lenTD.2.1; unfold Hid; rw [HX3.out, List.length_append]; omega
  have HR3 := hidIt ((HT3.out.block _ HWB.out).trans HR0.out)
  have HK3 := hidIt (KI.ext HKI.out HBB.out)
  clear HG3 HO1 HO2 HB1 HB2 HM1 HM2 HX3 HR0 HKI hB1 HBW HB0 HT3
  generalize ms ++ bs = q0 at *
  obtain ⟨_, e0, e1, e2, e3, e4, ef⟩ := cells5 HR3.out
  obtain ⟨kb, ko, rfl, hc0⟩ := rd_at HK3.out.1 (List.length_pos_iff.2 hk0)
  clear hc0
  have hcap : ok.length ≤ kc := by
    obtain ⟨⟨ao', cap', e, g1, _⟩, _⟩ := HK3.out.1
    injection e with _ e2 e3
    omega
  rcases hk1 with e | e | e
  · exact absurd e hk0
  · obtain ⟨x, rfl⟩ := List.length_eq_one_iff.1 e
    have hcap1 : 1 ≤ kc := hcap
    go_upto_region 4 with (at_builtin; refine wpl_drows rfl _ _ rfl B1 (.slice a3 n3 c3) xs3 rfl (HO3.out.ext (ext_alloc (Below.refl _ _) _)) _ [(⟨[x], 0, 60, 0, false⟩, .slice (some ⟨kb, ko, none⟩) 1 kc)] rfl (drow_lit ⟨[x], 0, 60, 0, false⟩ _ (HK3.out)) (by have := HL3.out; simp; omega) (Nat.le_trans HS3.out (by simp)) (by simp) ?_; intro v9 w4 ho9 hb9 hg9 hn9; clear hn9; have HQ4 : Hid (∀ kv ks, KI w3 kv ks → KI w4 kv ks) := fun kv ks h => (h.ext (ext_alloc (Below.refl _ _) _)).rows (Kps.grown (o := fun k => (Value.slice a3 n3 c3).ownBlock = some k) hg9 (fun k e _ => e)) (fun k e => (HO3.out.ext (ext_alloc (Below.refl _ _) _)).typ e); clear hg9; have HT4 : Hid (Below B1 w3 w4) := (ext_alloc (Below.refl _ _) _ : Below w3.heap.size w3 _).mono HS3.out |>.trans hb9; obtain ⟨ao4, n4, c4, rfl⟩ := ho9.form; have HO4 := hidIt ho9; clear ho9 hb9; (try dsimp only))
    obtain ⟨xs4, HX4⟩ : ∃ xs4, Hid (xs4 = xs3 ++ [((⟨[x], 0, 60, 0, false⟩ : DRw), Value.slice (some ⟨kb, ko, none⟩) 1 kc)]) := ⟨_, hidIt rfl⟩
    rw [← HX4.out] at HO4
    have HS4 : Hid (B1 ≤ w4.heap.size) := Nat.le_trans HS3.out HT4.out.size
    have HL4 : Hid (xs4.length ≤ 401) := by unfold Hid; rw [HX4.out, List.length_append, List.length_singleton]; have := HL3.out; omega
    have HR4 := hidIt ((HT4.out.block _ HWB.out).trans HR3.out)
    clear e0 e1 e2 e3 e4 ef
    obtain ⟨_, e0, e1, e2, e3, e4, ef⟩ := cells5 HR4.out
    have HBB5 : Hid (Below w.heap.size w w4) := HBB.out.trans (HT4.out.mono (Nat.le_of_lt HWB.out))
    have HM5 : Hid (xs4.map Prod.fst = (dMot ++ dObj) ++ ([⟨[x], 0, 60, 0, false⟩] : List DRw)) := by unfold Hid; rw [HX4.out, List.map_append, HM3.out]; rfl
    have HDT5 : Hid (LT = (xs4.map Prod.fst).map (fun (r : DRw) => { r with v := ov })) := by unfold Hid; rw [HDT.out, HM5.out]; rfl
    obtain ⟨hnn, hcc⟩ : n4 = xs4.length ∧ xs4.length ≤ c4 := by
      obtain ⟨⟨ao', cap', e, r1, _⟩, _⟩ := HO4.out.rd
      injection e with e1 e2 e3
      exact ⟨e2, by omega⟩
    subst hnn
    have hx9 : xs4.length ≤ 402 := by have h := HM5.out; have h1 := lenTD.1; have h2 := lenTD.2.1; have := congrArg List.length h; simp only [List.length_map, List.length_append, List.length_cons, List.length_nil] at this; omega
    clear e0 e1 e2 e3 e4 ef
    obtain ⟨_, e0, e1, e2, e3, e4, ef⟩ := cells5 HR4.out
    go_upto_region 7 with fail
    go_loopw [5] (fun iv wr => ∃ (p : Nat), p ≤ xs4.length ∧ iv = .int .i64 p ∧ Hid (OwnD wr B1 (.slice ao4 xs4.length c4) ((xs4.take p).map (svD ov) ++ xs4.drop p)) ∧ Hid (Below B1 w4 wr)) (fun iv _ => xs4.length - (RowKit.intOf iv).toNat)
    case atStart => exact ⟨0, Nat.zero_le _, rfl, HO4.out, Below.refl _ _⟩
    case round =>
      obtain ⟨p, hp, rfl, HO9, HB9⟩ := hrel
      clear e0 e1 e2 e3 e4 ef
      obtain ⟨_, e0, e1, e2, e3, e4, ef⟩ := cells5 ((HB9.out.block _ HWB.out).trans HR4.out)
      by_cases hlt : p < xs4.length
      · have hltI : (p : Int) < (xs4.length : Int) := by omega
        obtain ⟨s1, s2⟩ := set_step (q := ov) (List.getElem?_eq_getElem hlt)
        have hlt2 : p < ((xs4.take p).map (svD ov) ++ xs4.drop p).length := by rw [List.length_append, List.length_map, List.length_take, List.length_drop]; omega
        obtain ⟨hq1, _, g, rfl, x9, hx9', _, d0, d1, d2, d3, d4⟩ := HO9.out.at hlt2
        have hfz : wr.frozen? ⟨g, p * 5 + 1, none⟩ = false := by
          rcases HO9.out.1.2 with ⟨e, _⟩ | ⟨g', cap, cur, e, _, hg, _⟩
          · cases e
          · injection e with e _ _
            injection e with e
            cases e
            simp [World.frozen?, hg]
        obtain ⟨o1, o2⟩ := HO9.out.set s1 (g := g) rfl ov
        rw [s2] at o1
        have HO10 := hidIt o1
        have HB10 : Hid (Below B1 w4 (wr.setCell ⟨g, p * 5 + 1, none⟩ (.int .i64 ov))) := below_put HB9.out (Nat.le_trans HS4.out HB9.out.size) o2 (HO9.out.blk (k := g) rfl).1
        clear o1 o2 s1 s2 hx9' hlt2 hq1
        go_wp2_with fail
        go_roundw
        case rel => exact ⟨p + 1, by omega, rfl, HO10.out, HB10.out⟩
        case measure => simp [RowKit.intOf]; omega
      · obtain rfl : p = xs4.length := by omega
        have hge : ¬ (xs4.length : Int) < (xs4.length : Int) := by omega
        go_wp2_with fail
        go_ret
        refine ⟨_, _, rfl, HO9.out.le (Nat.le_of_lt HWB.out), ?_, HBB5.out.trans (HB9.out.mono (Nat.le_of_lt HWB.out))⟩
        unfold Hid
        rw [HDT5.out, List.take_length, List.drop_length, List.append_nil, List.map_map, List.map_map]
        rfl
  · obtain ⟨x, y, rfl⟩ := two_of e
    have hcap1 : 2 ≤ kc := hcap
    have HKL : Hid (KI w3 (.slice (some ⟨kb, ko + 1, none⟩) 1 (kc - 1)) [y]) := KI.rest HK3.out 1 (by simp)
    go_upto_region 4 with (at_builtin; refine wpl_drows rfl _ _ rfl B1 (.slice a3 n3 c3) xs3 rfl (HO3.out.ext (ext_alloc (Below.refl _ _) _)) _ [(⟨[y], 0, 60, 0, false⟩, .slice (some ⟨kb, ko + 1, none⟩) 1 (kc - 1))] rfl (drow_lit ⟨[y], 0, 60, 0, false⟩ _ (HKL.out)) (by have := HL3.out; simp; omega) (Nat.le_trans HS3.out (by simp)) (by simp) ?_; intro v9 w4 ho9 hb9 hg9 hn9; clear hn9; have HQ4 : Hid (∀ kv ks, KI w3 kv ks → KI w4 kv ks) := fun kv ks h => (h.ext (ext_alloc (Below.refl _ _) _)).rows (Kps.grown (o := fun k => (Value.slice a3 n3 c3).ownBlock = some k) hg9 (fun k e _ => e)) (fun k e => (HO3.out.ext (ext_alloc (Below.refl _ _) _)).typ e); clear hg9; have HT4 : Hid (Below B1 w3 w4) := (ext_alloc (Below.refl _ _) _ : Below w3.heap.size w3 _).mono HS3.out |>.trans hb9; obtain ⟨ao4, n4, c4, rfl⟩ := ho9.form; have HO4 := hidIt ho9; clear ho9 hb9; (try dsimp only))
    obtain ⟨xs4, HX4⟩ : ∃ xs4, Hid (xs4 = xs3 ++ [((⟨[y], 0, 60, 0, false⟩ : DRw), Value.slice (some ⟨kb, ko + 1, none⟩) 1 (kc - 1))]) := ⟨_, hidIt rfl⟩
    rw [← HX4.out] at HO4
    have HS4 : Hid (B1 ≤ w4.heap.size) := Nat.le_trans HS3.out HT4.out.size
    have HL4 : Hid (xs4.length ≤ 401) := by unfold Hid; rw [HX4.out, List.length_append, List.length_singleton]; have := HL3.out; omega
    have HR4 := hidIt ((HT4.out.block _ HWB.out).trans HR3.out)
    clear e0 e1 e2 e3 e4 ef
    obtain ⟨_, e0, e1, e2, e3, e4, ef⟩ := cells5 HR4.out
    have HK4 : Hid (KI w4 (.slice (some ⟨kb, ko, none⟩) 2 kc) [x, y]) := HQ4.out _ _ HK3.out
    go_upto_region 6 with (at_builtin; refine wpl_drows rfl _ _ rfl B1 (.slice ao4 n4 c4) xs4 rfl (HO4.out.ext (ext_alloc (Below.refl _ _) _)) _ [(⟨[x, y], 0, 60, 0, false⟩, .slice (some ⟨kb, ko, none⟩) 2 kc)] rfl (drow_lit ⟨[x, y], 0, 60, 0, false⟩ _ (HK4.out)) (by have := HL4.out; simp; omega) (Nat.le_trans HS4.out (by simp)) (by simp) ?_; intro v9 w5 ho9 hb9 hg9 hn9; clear hn9; have HQ5 : Hid (∀ kv ks, KI w4 kv ks → KI w5 kv ks) := fun kv ks h => (h.ext (ext_alloc (Below.refl _ _) _)).rows (Kps.grown (o := fun k => (Value.slice ao4 n4 c4).ownBlock = some k) hg9 (fun k e _ => e)) (fun k e => (HO4.out.ext (ext_alloc (Below.refl _ _) _)).typ e); clear hg9; have HT5 : Hid (Below B1 w4 w5) := (ext_alloc (Below.refl _ _) _ : Below w4.heap.size w4 _).mono HS4.out |>.trans hb9; obtain ⟨ao5, n5, c5, rfl⟩ := ho9.form; have HO5 := hidIt ho9; clear ho9 hb9; (try dsimp only))
    obtain ⟨xs5, HX5⟩ : ∃ xs5, Hid (xs5 = xs4 ++ [((⟨[x, y], 0, 60, 0, false⟩ : DRw), Value.slice (some ⟨kb, ko, none⟩) 2 kc)]) := ⟨_, hidIt rfl⟩
    rw [← HX5.out] at HO5
    have HS5 : Hid (B1 ≤ w5.heap.size) := Nat.le_trans HS4.out HT5.out.size
    have HR5 := hidIt ((HT5.out.block _ HWB.out).trans HR4.out)
    have HBB5 : Hid (Below w.heap.size w w5) := HBB.out.trans ((HT4.out.trans HT5.out).mono (Nat.le_of_lt HWB.out))
    have HM5 : Hid (xs5.map Prod.fst = (dMot ++ dObj) ++ ([⟨[y], 0, 60, 0, false⟩] : List DRw) ++ ([⟨[x, y], 0, 60, 0, false⟩] : List DRw)) := by unfold Hid; rw [HX5.out, List.map_append, HX4.out, List.map_append, HM3.out]; rfl
    have HDT5 : Hid (LT = (xs5.map Prod.fst).map (fun (r : DRw) => { r with v := ov })) := by unfold Hid; rw [HDT.out, HM5.out]; rfl
    obtain ⟨hnn, hcc⟩ : n5 = xs5.length ∧ xs5.length ≤ c5 := by
      obtain ⟨⟨ao', cap', e, r1, _⟩, _⟩ := HO5.out.rd
      injection e with e1 e2 e3
      exact ⟨e2, by omega⟩
    subst hnn
    have hx9 : xs5.length ≤ 402 := by have h := HM5.out; have h1 := lenTD.1; have h2 := lenTD.2.1; have := congrArg List.length h; simp only [List.length_map, List.length_append, List.length_cons, List.length_nil] at this; omega
    clear e0 e1 e2 e3 e4 ef
    obtain ⟨_, e0, e1, e2, e3, e4, ef⟩ := cells5 HR5.out
    go_upto_region 7 with fail
    go_loopw [5] (fun iv wr => ∃ (p : Nat), p ≤ xs5.length ∧ iv = .int .i64 p ∧ Hid (OwnD wr B1 (.slice ao5 xs5.length c5) ((xs5.take p).map (svD ov) ++ xs5.drop p)) ∧ Hid (Below B1 w5 wr)) (fun iv _ => xs5.length - (RowKit.intOf iv).toNat)
    case atStart => exact ⟨0, Nat.zero_le _, rfl, HO5.out, Below.refl _ _⟩
    case round =>
      obtain ⟨p, hp, rfl, HO9, HB9⟩ := hrel
      clear e0 e1 e2 e3 e4 ef
      obtain ⟨_, e0, e1, e2, e3, e4, ef⟩ := cells5 ((HB9.out.block _ HWB.out).trans HR5.out)
      by_cases hlt : p < xs5.length
      · have hltI : (p : Int) < (xs5.length : Int) := by omega
        obtain ⟨s1, s2⟩ := set_step (q := ov) (List.getElem?_eq_getElem hlt)
        have hlt2 : p < ((xs5.take p).map (svD ov) ++ xs5.drop p).length := by rw [List.length_append, List.length_map, List.length_take, List.length_drop]; omega
        obtain ⟨hq1, _, g, rfl, x9, hx9', _, d0, d1, d2, d3, d4⟩ := HO9.out.at hlt2
        have hfz : wr.frozen? ⟨g, p * 5 + 1, none⟩ = false := by
          rcases HO9.out.1.2 with ⟨e, _⟩ | ⟨g', cap, cur, e, _, hg, _⟩
          · cases e
          · injection e with e _ _
            injection e with e
            cases e
            simp [World.frozen?, hg]
        obtain ⟨o1, o2⟩ := HO9.out.set s1 (g := g) rfl ov
        rw [s2] at o1
        have HO10 := hidIt o1
        have HB10 : Hid (Below B1 w5 (wr.setCell ⟨g, p * 5 + 1, none⟩ (.int .i64 ov))) := below_put HB9.out (Nat.le_trans HS5.out HB9.out.size) o2 (HO9.out.blk (k := g) rfl).1
        clear o1 o2 s1 s2 hx9' hlt2 hq1
        go_wp2_with fail
        go_roundw
        case rel => exact ⟨p + 1, by omega, rfl, HO10.out, HB10.out⟩
        case measure => simp [RowKit.intOf]; omega
      · obtain rfl : p = xs5.length := by omega
        have hge : ¬ (xs5.length : Int) < (xs5.length : Int) := by omega
        go_wp2_with fail
        go_ret
        refine ⟨_, _, rfl, HO9.out.le (Nat.le_of_lt HWB.out), ?_, HBB5.out.trans (HB9.out.mono (Nat.le_of_lt HWB.out))⟩
        unfold Hid
        rw [HDT5.out, List.take_length, List.drop_length, List.append_nil, List.map_map, List.map_map]
        rfl
end Go.Proofs.YtfdceljdhgbkcaaGreatDoor
