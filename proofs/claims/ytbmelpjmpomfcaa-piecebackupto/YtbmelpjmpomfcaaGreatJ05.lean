import Derived.Test.YtbmelpjmpomfcaaGreatJ04
namespace Go.Proofs.YtbmelpjmpomfcaaGreat.P
open Go.RowKit

theorem Rd.mid {k : IntKind} {w : World} {b o n c : Nat} {zs : List Int} (h : Rd k w (.slice (some ⟨b, o, none⟩) n c) zs) (i m : Nat) (hi : i + m ≤ zs.length) : Rd k w (.slice (some ⟨b, o + i, none⟩) m (c - i)) ((zs.drop i).take m) := by
  obtain ⟨ao, cap, hv, h1, h2, h3⟩ := h
  simp only [Value.slice.injEq] at hv
  obtain ⟨rfl, hn, hc⟩ := hv
  subst hc
  have hl : ((zs.drop i).take m).length = m := by rw [List.length_take, List.length_drop]; omega
  refine ⟨_, c - i, by rw [hl], by rw [hl]; omega, by omega, fun hne => ?_⟩
  obtain ⟨b', o', e, hb, hc⟩ := h3 (by intro e; subst e; simp at hne)
  simp only [Option.some.injEq, Addr.mk.injEq] at e
  obtain ⟨rfl, rfl, _⟩ := e
  refine ⟨b, o + i, rfl, hb, fun j hj => ?_⟩
  rw [hl] at hj
  have := hc (i + j) (by omega)
  rw [Nat.add_assoc, this, List.getElem?_take, if_pos hj, List.getElem?_drop]
theorem pcs_one (x : It) : ∀ u ∈ pcs x, u.oneCell' = true := fun u hu => flat_one [x] u (by simpa [flat] using hu)
theorem cell7_new (w : World) (T : TypeId) (x : It) : ∀ j u, (pcs x)[j]? = some u → (w.alloc (.cells #[.slice x.p x.n x.c, .int .i64 x.pl, .int .i64 x.sp.a, .int .i64 x.sp.s, .int .i64 x.sp.b, .bool x.sp.lf, .bool x.sp.cr] T)).cell? ((⟨w.heap.size, 0, none⟩ : Addr).add j) = some u := by
  intro j u hj
  rw [Addr.add_lit, cell_of_row (w.alloc (.cells #[.slice x.p x.n x.c, .int .i64 x.pl, .int .i64 x.sp.a, .int .i64 x.sp.s, .int .i64 x.sp.b, .bool x.sp.lf, .bool x.sp.cr] T)) w.heap.size (0 + j) _ T (0, 0) (heap_alloc_new _ _), Nat.zero_add]
  simpa [pcs] using hj
theorem alloc_size (w : World) (o : Obj) : (w.alloc o).heap.size = w.heap.size + 1 := by simp

theorem OwnR.other {w w' : World} {base : Nat} {v : Value} {xs : List It} (h : OwnR w base 122 v xs) {g : Nat} (hg : w.grownBy w' (some g)) (hb : g < base) : OwnR w' base 122 v xs :=
  World.ownsRow.kept h hg (.inr fun e => Nat.not_le_of_lt hb (World.ownsRow.lt h g e).1)
theorem lit7 (w : World) (T : TypeId) (x : It) : ∀ j u, (pcs x)[j]? = some u → ((w.alloc (.cells #[.slice x.p x.n x.c, .int .i64 x.pl, .int .i64 x.sp.a, .int .i64 x.sp.s, .int .i64 x.sp.b, .bool x.sp.lf, .bool x.sp.cr] T)).drew).cell? ((⟨w.heap.size, 0, none⟩ : Addr).add j) = some u := fun j u h => by
  rw [World.cell?_drew]
  exact cell7_new w T x j u h
section
variable {P : Program} {W : World}
theorem wp_append_piece {op : Oper} {a : Act} {K : Act → World → Prop} {Q : Exit → Act → World → Prop} (s x : Operand) (t : TypeId)
    (ho : op.op = .call { callee := .builtin .append, args := #[s, x], argTypes := #[t, t] })
    (base : Nat) (e : TypeId) (hinf : (P.info? e).map (fun i => (i.zero, i.size, i.bytes)) = some (some (.agg #[.slice It.zero.p It.zero.n It.zero.c, .int .i64 It.zero.pl, .int .i64 It.zero.sp.a, .int .i64 It.zero.sp.s, .int .i64 It.zero.sp.b, .bool It.zero.sp.lf, .bool It.zero.sp.cr]), 7, 64)) (ht : P.underlying t = some (.slice e))
    (v : Value) (xs : List It) (hs : a.eval s = v) (hown : OwnR W base e v xs) (y : It) (g : Nat) (hx : a.eval x = .slice (some ⟨g, 0, none⟩) 1 1) (hnew : ∀ j u, (pcs y)[j]? = some u → W.cell? ((⟨g, 0, none⟩ : Addr).add j) = some u)
    (hbytes : xs.length + 1 ≤ 1099511627776) (hbase : base ≤ W.heap.size)
    (h : ∀ v' w', OwnR w' base e v' (xs ++ [y]) → W.grownBy w' v.ownBlock → K (a.put op.dst v') w') : op.wp P a W K Q := by
  obtain ⟨i0, hi, hz0, hz1, hz2⟩ := info_parts hinf
  refine wp_append_own _ s x t ho base e i0 _ 7 64 ht hi hz0 hz1 hz2 rfl (by decide) v xs.length (flat xs) hs hown ⟨g, 0, none⟩ 1 1 (pcs y) hx rfl hnew (pcs_one y) (by unfold maxLen; omega) (by omega) hbase ?_
  intro v' w' hown' hg _
  refine h v' w' ?_ hg
  unfold OwnR
  rw [List.length_append, flat_app, show flat [y] = pcs y by simp [flat]]
  exact hown'
end
theorem size_alloc_le (w : World) (o : Obj) : w.heap.size ≤ (w.alloc o).heap.size := by rw [alloc_size]; omega
theorem below_append {B base : Nat} {w wr W w' : World} {v : Value} {xs : List It} (hown : OwnR wr base 122 v xs) (hb : Below B w wr) (hs : B ≤ base) (hw : B ≤ wr.heap.size) (hW : Below wr.heap.size wr W) (hg : W.grownBy w' v.ownBlock) : Below B w w' :=
  (hb.trans (hW.mono hw)).grown hg (Nat.le_trans hw hW.size) (fun k hk => Nat.le_trans hs (World.ownsRow.lt hown k hk).1)
theorem blk_append {base g : Nat} {wr W w' : World} {v : Value} {xs : List It} {T : TypeId} {s : Rs} (hown : OwnR wr base 122 v xs) (hB : Blk T wr g s) (hs : g < base) (hW : Below wr.heap.size wr W) (hg : W.grownBy w' v.ownBlock) : Blk T w' g s := by
  have h := hB.ext hW
  unfold Blk at h ⊢
  rw [hg.block g (Blk.lt h) (fun e => by have := (World.ownsRow.lt hown _ e.symm).1; omega)]
  exact h
theorem new_drew (w : World) (o : Obj) : Below w.heap.size w ((w.alloc o).drew) := (ext_alloc (Below.refl _ _) o).drew

theorem vi {a b : Int} (h : a = b) : Value.int .i64 a = Value.int .i64 b := by rw [h]
structure CtI (enc : Int) (al : List Int) (j : Nat) (gs : List (List Int)) (cur : List Int) : Prop where
  all : gs.flatten ++ cur = al.take j
  gr : ∀ g ∈ gs, Gr enc g
  cu : cur = [] ∧ j = 0 ∨ Gr enc cur
theorem CtI.len {enc : Int} {al : List Int} {j : Nat} {gs : List (List Int)} {cur : List Int} (h : CtI enc al j gs cur) : gs.length ≤ al.length ∧ ln enc gs.flatten + ln enc cur ≤ ln enc al := by
  have e := h.all
  constructor
  · have h1 : ∀ gs : List (List Int), (∀ g ∈ gs, Gr enc g) → gs.length ≤ gs.flatten.length := by
      intro gs
      induction gs with
      | nil => intro _; exact Nat.le_refl _
      | cons g gs ih =>
        intro k
        have := (k g List.mem_cons_self).pos
        have := ih fun x hx => k x (List.mem_cons_of_mem _ hx)
        rw [List.flatten_cons, List.length_append, List.length_cons]
        omega
    have h2 := congrArg List.length e
    rw [List.length_append, List.length_take] at h2
    have := h1 gs h.gr
    omega
  · rw [← ln_app, e]
    have := ln_app enc (al.take j) (al.drop j)
    rw [List.take_append_drop] at this
    omega

set_option maxRecDepth 100000 in
set_option maxHeartbeats 4000000 in
theorem cut_any (enc : Int) (he : Cx.En enc) (va vb : Value) (al : List Int) (b o : Nat) (w : World) (hA : Rd .i64 w va al) (hfit : ∀ a ∈ al, Cx.fits enc a = true) (hR : Rd .u8 w vb (Cx.encB enc al)) (hp : al ≠ [] → ∀ p n c, vb = .slice p n c → p = some ⟨b, o, none⟩) (hl : al.length ≤ 1073741824) :
    Calls Tryz.prog 75 #[.int .i64 enc, va, vb] w fun e w' => ∃ v gs, e = .returned v ∧ Hid (gs.flatten = al ∧ (∀ g ∈ gs, Gr enc g) ∧ OwnR w' w.heap.size 122 v (mks enc b o 0 gs)) ∧ Below w.heap.size w w' := by
  obtain ⟨i0, hi, hz0, hz1, hz2⟩ := info_parts Tryz.info_piece
  obtain ⟨pb, cb, hvb, hb1, hb2, hb3⟩ := id hR
  clear hb3
  subst hvb
  have hP : al ≠ [] → pb = some ⟨b, o, none⟩ := fun h => hp h _ _ _ rfl
  obtain ⟨pa, ca, hva, ha1, ha2, ha3⟩ := id hA
  subst hva
  have hln : ln enc al ≤ 4 * al.length := ln_le enc al
  have eL : (Cx.encB enc al).length = ln enc al := rfl
  rw [eL] at hb1 hR ⊢
  obtain ⟨w0, hw0⟩ : ∃ w0, w0 = w.alloc (.cells #[.int .i64 0, .int .i64 0, .int .i64 0, .bool false, .bool false] 119) := ⟨_, rfl⟩
  have hs0 : w0.heap.size = w.heap.size + 1 := by rw [hw0]; simp
  have HB0 : Hid (Below w.heap.size w w0) := by unfold Hid; rw [hw0]; exact ext_alloc (Below.refl _ _) _
  have K0 : Hid (Blk 119 w0 w.heap.size Rs.zero) := by unfold Hid; rw [hw0]; exact heap_alloc_new _ _
  have HAT : Hid (∀ wr, Below w.heap.size w wr → ∀ j (h : j < al.length), ∃ ba oa, pa = some ⟨ba, oa, none⟩ ∧ wr.cell? ⟨ba, oa + j, none⟩ = some (.int .i64 (al[j]?.getD 0))) := fun wr hb j h => by
    obtain ⟨ba, oa, h1, h2, h3⟩ := ha3 (by intro e; subst e; simp at h)
    exact ⟨ba, oa, h1, (hb.cell (p := ⟨ba, oa + j, none⟩) h2).trans (h3 j h)⟩
  have HRD : Hid (∀ wr, Below w.heap.size w wr → al ≠ [] → Rd .u8 wr (.slice (some ⟨b, o, none⟩) (ln enc al) cb) (Cx.encB enc al)) := fun wr hb hne => by
    have := hP hne
    subst this
    exact hR.ext hb
  have HEN := hidIt he
  have HFIT := hidIt hfit
  have hca : al.length ≤ 9223372036854775807 := by omega
  unfold maxLen at hb2 ha2
  clear hA hR he hfit hp ha3
  go_enter Tryz.func75, Tryz.ntmps75
  go_upto_block 0 with fail
  rw [← hw0]
  clear hw0
  go_cut [7, 9, 10] from 12 to 62 (fun pv sv ev wF => ∃ gs cur, sv = .int .i64 (ln enc gs.flatten : Nat) ∧ ev = .int .i64 ((ln enc gs.flatten : Nat) + (ln enc cur : Nat) : Int) ∧ Hid (CtI enc al al.length gs cur) ∧ Hid (OwnR wF w0.heap.size 122 pv (mks enc b o 0 gs)) ∧ Hid (Blk 119 wF w.heap.size (spn enc cur)) ∧ Hid (Below w.heap.size w wF))
  case first =>
    go_wp2_with fail
    go_loopg [7, 9, 10, 16] al.length (fun gk pv sv ev p wr => ∃ (j : Nat) (gs : List (List Int)) (cur : List Int), j + gk = al.length ∧ p = .int .i64 (j : Nat) ∧ sv = .int .i64 (ln enc gs.flatten : Nat) ∧ ev = .int .i64 ((ln enc gs.flatten : Nat) + (ln enc cur : Nat) : Int) ∧ Hid (CtI enc al j gs cur) ∧ Hid (OwnR wr w0.heap.size 122 pv (mks enc b o 0 gs)) ∧ Hid (Blk 119 wr w.heap.size (spn enc cur)) ∧ Hid (Below w.heap.size w wr) ∧ w0.heap.size ≤ wr.heap.size)
    case atStart => exact ⟨0, [], [], by omega, rfl, rfl, rfl, ⟨rfl, (fun g hg => by cases hg), .inl ⟨rfl, rfl⟩⟩, OwnR.nil _ _ _, K0.out, HB0.out, Nat.le_refl _⟩
    case round =>
      obtain ⟨j, gs, cur, hj, rfl, rfl, rfl, HC, HOW, HBL, HBW, hw0r⟩ := hrel
      by_cases hi' : j < al.length
      case neg =>
        have hi2 : ¬ (j : Int) < (al.length : Int) := by omega
        obtain rfl : j = al.length := by omega
        go_wp2_with fail
        go_meet
        case rel => exact ⟨gs, cur, rfl, rfl, HC, HOW, HBL, HBW⟩
      have hi2 : (j : Int) < (al.length : Int) := by omega
      have hne : al ≠ [] := by intro e; subst e; simp at hi'
      obtain rfl : pb = some ⟨b, o, none⟩ := hP hne
      obtain ⟨ba, oa, rfl, c0⟩ := HAT.out wr HBW.out j hi'
      obtain ⟨a, haj⟩ : ∃ a, al[j]? = some a := ⟨_, List.getElem?_eq_getElem hi'⟩
      rw [haj, Option.getD_some] at c0
      have hfa : Cx.fits enc a = true := HFIT.out a (List.mem_of_getElem? haj)
      obtain ⟨p1, p2⟩ := Cx.put_len enc a
      have hsz : Cx.size enc a = ((Cx.put enc a).length : Nat) := size_fit enc a hfa
      have hll := HC.out.len
      have hsum : ln enc gs.flatten + ln enc cur + (Cx.put enc a).length ≤ ln enc al := by
        have e1 := HC.out.all
        have e2 : al.take (j + 1) = al.take j ++ [a] := by rw [List.take_add_one, haj]; rfl
        have e3 := congrArg (ln enc) e2
        rw [← e1, ln_app, ln_app, ln_one] at e3
        have e4 := ln_app enc (al.take (j + 1)) (al.drop (j + 1))
        rw [List.take_append_drop] at e4
        omega
      have hmid : ((Cx.encB enc al).drop (ln enc gs.flatten)).take (ln enc cur + (Cx.put enc a).length) = Cx.encB enc (cur ++ [a]) := by
        have e1 := HC.out.all
        have e2 : al = gs.flatten ++ ((cur ++ [a]) ++ al.drop (j + 1)) := by
          rw [← List.append_assoc, ← List.append_assoc, e1]
          have : al.take (j + 1) = al.take j ++ [a] := by rw [List.take_add_one, haj]; rfl
          rw [← this, List.take_append_drop]
        rw [e2, Cx.encB_app, Cx.encB_app enc (cur ++ [a]), List.drop_left' (show (Cx.encB enc gs.flatten).length = ln enc gs.flatten from rfl), List.take_left' (by show ln enc (cur ++ [a]) = _; rw [ln_app, ln_one])]
      have SZ := hidIt (Go.Proofs.YtbmelpjmpomfcaaGreat.Size_any enc a wr)
      rw [hsz] at SZ
      have EW : Hid (∀ w1, Below wr.heap.size wr w1 → Calls Tryz.prog 106 #[.int .i64 enc, .slice (some ⟨b, o + ln enc gs.flatten, none⟩) (ln enc gs.flatten + ln enc cur + (Cx.put enc a).length - ln enc gs.flatten) (cb - ln enc gs.flatten), .int .i64 a] w1 fun e w' => e = .returned (.bool (decide ((Cx.lst enc (Cx.encB enc (cur ++ [a]))).1 = a))) ∧ Below w1.heap.size w1 w') := fun w1 hb => by
        have h1 := Rd.mid (HRD.out w1 (ext_trans HBW.out hb) hne) (ln enc gs.flatten) (ln enc cur + (Cx.put enc a).length) (by rw [eL]; omega)
        rw [hmid] at h1
        rw [show ln enc gs.flatten + ln enc cur + (Cx.put enc a).length - ln enc gs.flatten = ln enc cur + (Cx.put enc a).length by omega]
        refine endsWith_any enc HEN.out _ _ a w1 h1 (encB_byt enc _ (fun x hx => ?_)) ?_
        · rcases List.mem_append.1 hx with h | h
          · rcases HC.out.cu with ⟨e, _⟩ | g
            · subst e; cases h
            · exact g.fit x h
          · rw [List.mem_singleton] at h; subst h; exact hfa
        · show 0 < ln enc (cur ++ [a]); rw [ln_app, ln_one]; omega
      generalize hq : decide ((Cx.lst enc (Cx.encB enc (cur ++ [a]))).1 = a) = qb at EW
      have HQB := hidIt hq
      have HLN := hidIt (show ln enc (cur ++ [a]) = ln enc cur + (Cx.put enc a).length by rw [ln_app, ln_one])
      clear hq hmid hsz
      generalize hszz : (Cx.put enc a).length = sz at *
      generalize hstt : ln enc gs.flatten = st at *
      generalize hcuu : ln enc cur = cu at *
      have HSZ := hidIt hszz
      have HST := hidIt hstt
      have HCU := hidIt hcuu
      clear hszz hstt hcuu
      go_upto_region 8 with (go_at_call 53; refine SZ.out.mono ?_; clear c0; rintro e w1 ⟨rfl, hb1⟩; have HB1 := hidIt hb1; clear hb1)
      go_cut [40] from 23 to 40 (fun c wF => ∃ cx : Bool, c = .bool cx ∧ Hid ((cx = true → Gr enc cur) ∧ (cx = false → CtI enc al (j + 1) gs (cur ++ [a]))) ∧ Hid (Below wr.heap.size wr wF))
      case first =>
        have hgm : cur = [] → cu ≤ 0 ∧ qb = true := fun e => by
          subst e
          refine ⟨by rw [← HCU.out]; exact Nat.le_refl _, ?_⟩
          rw [← HQB.out]
          have := Cx.lst_put enc a HEN.out hfa
          simp only [List.nil_append, show Cx.encB enc [a] = Cx.put enc a by simp [Cx.encB]]
          exact decide_eq_true this
        have HG := hidIt hgm
        have STAY : Hid (qb = true → CtI enc al (j + 1) gs (cur ++ [a])) := fun h => ⟨by rw [List.take_add_one, haj, Option.toList_some, ← HC.out.all]; simp, HC.out.gr, .inr (by
          rw [← HQB.out, decide_eq_true_eq] at h
          rcases HC.out.cu with ⟨e, _⟩ | g
          · subst e; exact Gr.one HEN.out hfa
          · exact g.snoc HEN.out hfa h)⟩
        clear hgm
        by_cases hbig : (256 : Int) < (st : Int) + cu + sz - st
        case pos =>
          have HGR := hidIt (show Gr enc cur from (HC.out.cu).elim (fun h => by have := HG.out h.1; omega) id)
          go_wp2_with fail
          go_meet
          case rel => exact ⟨true, rfl, ⟨fun _ => HGR.out, fun h => by cases h⟩, HB1.out⟩
        case neg =>
          cases qb
          case false =>
            go_wp2_with (go_at_call 106; refine (EW.out w1 HB1.out).mono ?_; rintro e w2 ⟨rfl, hb2⟩; have HB2 := hidIt (ext_trans HB1.out hb2); clear hb2)
            go_meet
            case rel => exact ⟨true, rfl, ⟨fun _ => (HC.out.cu).elim (fun h => by have := (HG.out h.1).2; cases this) id, fun h => by cases h⟩, HB2.out⟩
          case true =>
            go_wp2_with (go_at_call 106; refine (EW.out w1 HB1.out).mono ?_; rintro e w2 ⟨rfl, hb2⟩; have HB2 := hidIt (ext_trans HB1.out hb2); clear hb2)
            go_meet
            case rel => exact ⟨false, rfl, ⟨(fun h => by cases h), fun _ => STAY.out (by first | trivial | rfl)⟩, HB2.out⟩
      obtain ⟨cx, rfl, HX, HBc⟩ := hcut
      generalize hwc : wc = wr2 at *
      clear hwc EW SZ
      have HOW2 := hidIt (HOW.out.ext HBc.out)
      have HBL2 := hidIt (HBL.out.ext HBc.out)
      have HBW2 := hidIt (ext_trans HBW.out HBc.out)
      have hw02 := Nat.le_trans hw0r HBc.out.size
      have SG : Hid (∀ w', Calls Tryz.prog 71 #[.int .i64 a, .int .i64 sz] w' fun e w'' => e = .returned (.agg #[.int .i64 (sg a sz).a, .int .i64 (sg a sz).s, .int .i64 (sg a sz).b, .bool (sg a sz).lf, .bool (sg a sz).cr]) ∧ Below w'.heap.size w' w'') := fun w' => single_any a sz w'
      have ADD : Hid (∀ c', (∀ x ∈ c', Cx.fits enc x = true) → ln enc c' ≤ ln enc al → ∀ w', Calls Tryz.prog 69 #[.agg #[.int .i64 (spn enc c').a, .int .i64 (spn enc c').s, .int .i64 (spn enc c').b, .bool (spn enc c').lf, .bool (spn enc c').cr], .agg #[.int .i64 (sg a sz).a, .int .i64 (sg a sz).s, .int .i64 (sg a sz).b, .bool (sg a sz).lf, .bool (sg a sz).cr]] w' fun e w'' => ∃ r, Hid (r = spn enc (c' ++ [a])) ∧ e = .returned (.agg #[.int .i64 r.a, .int .i64 r.s, .int .i64 r.b, .bool r.lf, .bool r.cr]) ∧ Below w'.heap.size w' w'') := fun c' hfc hlc w' => by
        have k1 := spn_ok enc c'
        have k2 := sg_ok a sz (by omega)
        have k3 := spn_a enc c' hfc
        have k4 := ln_ge enc c'
        have k6 : (spn enc c').b ≤ c'.length := spn_b enc _
        have k7 : (sg a sz).a = 1 := rfl
        have k8 : (sg a sz).s = sz := rfl
        have k9 : (sg a sz).b ≤ 1 := by unfold sg; simp only; split <;> omega
        refine (Add_any _ _ w' k1.a0 k2.a0 k1.s0 k2.s0 k1.b0 k2.b0 (by omega) (by omega) (by omega)).mono fun e w'' ⟨r, h1, h2, h3⟩ => ⟨r, ?_, h2, h3⟩
        unfold Hid
        rw [h1.out, spn_snoc, size_fit enc a hfa, HSZ.out]
      clear HOW HBL HBW hw0r
      cases cx
      case false =>
        have HC' := hidIt (HX.out.2 rfl)
        have HL' := hidIt (show ln enc gs.flatten = st ∧ ln enc cur = cu from ⟨HST.out, HCU.out⟩)
        have AD := hidIt (ADD.out cur (fun x hx => by
          rcases HC.out.cu with ⟨e, _⟩ | g
          · subst e; cases hx
          · exact g.fit x hx) (by rw [HCU.out]; omega))
        clear ADD HX
        have HP : Hid (∀ w', Below wr2.heap.size wr2 w' → (w'.cell? ⟨w.heap.size, 0, none⟩ = some (.int .i64 (spn enc cur).a) ∧ w'.cell? ⟨w.heap.size, 1, none⟩ = some (.int .i64 (spn enc cur).s) ∧ w'.cell? ⟨w.heap.size, 2, none⟩ = some (.int .i64 (spn enc cur).b) ∧ w'.cell? ⟨w.heap.size, 3, none⟩ = some (.bool (spn enc cur).lf) ∧ w'.cell? ⟨w.heap.size, 4, none⟩ = some (.bool (spn enc cur).cr)) ∧ ∀ i, w'.frozen? ⟨w.heap.size, i, none⟩ = false) := fun w' hb => ⟨(HBL2.out.ext hb).cells.1, (HBL2.out.ext hb).cells.2.2.2.2⟩
        have hzx : w.heap.size < wr2.heap.size := HBL2.out.lt
        have FIN : Hid (∀ w' r, Below wr2.heap.size wr2 w' → r = spn enc (cur ++ [a]) → OwnR (((((w'.setCell ⟨w.heap.size, 0, none⟩ (.int .i64 r.a)).setCell ⟨w.heap.size, 1, none⟩ (.int .i64 r.s)).setCell ⟨w.heap.size, 2, none⟩ (.int .i64 r.b)).setCell ⟨w.heap.size, 3, none⟩ (.bool r.lf)).setCell ⟨w.heap.size, 4, none⟩ (.bool r.cr)) w0.heap.size 122 u7 (mks enc b o 0 gs) ∧ Blk 119 (((((w'.setCell ⟨w.heap.size, 0, none⟩ (.int .i64 r.a)).setCell ⟨w.heap.size, 1, none⟩ (.int .i64 r.s)).setCell ⟨w.heap.size, 2, none⟩ (.int .i64 r.b)).setCell ⟨w.heap.size, 3, none⟩ (.bool r.lf)).setCell ⟨w.heap.size, 4, none⟩ (.bool r.cr)) w.heap.size (spn enc (cur ++ [a])) ∧ Below w.heap.size w (((((w'.setCell ⟨w.heap.size, 0, none⟩ (.int .i64 r.a)).setCell ⟨w.heap.size, 1, none⟩ (.int .i64 r.s)).setCell ⟨w.heap.size, 2, none⟩ (.int .i64 r.b)).setCell ⟨w.heap.size, 3, none⟩ (.bool r.lf)).setCell ⟨w.heap.size, 4, none⟩ (.bool r.cr)) ∧ w0.heap.size ≤ (((((w'.setCell ⟨w.heap.size, 0, none⟩ (.int .i64 r.a)).setCell ⟨w.heap.size, 1, none⟩ (.int .i64 r.s)).setCell ⟨w.heap.size, 2, none⟩ (.int .i64 r.b)).setCell ⟨w.heap.size, 3, none⟩ (.bool r.lf)).setCell ⟨w.heap.size, 4, none⟩ (.bool r.cr)).heap.size) := fun w' r hb hr => by
          subst hr
          obtain ⟨p1, p2⟩ := (HBL2.out.ext hb).put (spn enc (cur ++ [a]))
          exact ⟨(HOW2.out.ext hb).other p2 (by omega), p1, below_put (ext_trans HBW2.out hb) (ext_trans HBW2.out hb).size p2 (Nat.le_refl _), Nat.le_trans hw02 (Nat.le_trans hb.size p2.size)⟩
        obtain ⟨z0, zf⟩ := HP.out wr2 (Below.refl _ _)
        generalize spn enc cur = sd at AD HP z0
        go_upto_region 12 with fail
        refine wp_region_held_drew (S := fun _ => True) (by kernel_rfl) (trivial) (fun hHeld => ?_)
        refine tkH (v := ?_) 1 rfl ?_ ?_; rotate_left 1
        · intro wq hSw; (try dsimp only at hSw); go_simp; try (with_reducible rfl)
        try simp only [Act.put, sA4]
        refine tkH (v := ?_) 2 rfl ?_ ?_; rotate_left 1
        · intro wq hSw; (try dsimp only at hSw); go_simp; try (with_reducible rfl)
        try simp only [Act.put]
        refine wpAnyH_ready (rs := [0, 3]) (by kernel_rfl) (by simp) ?_
        refine (AllReadyH.cons (o := _) rfl (fun K hK => ?_) (AllReadyH.cons (o := _) rfl (fun K hK => ?_) AllReadyH.nil))
        · skip
          go_simp
          refine hK.out _ _ ?_ (fun hHeld => ?_)
          · trivial
          clear hK K
          try simp only [Act.put, sA4, sA5, sA6]
          refine wpAnyH_ready (rs := [3]) (by kernel_rfl) (by simp) ?_
          refine AllReadyH.cons (o := _) rfl (fun K hK => ?_) AllReadyH.nil
          go_simp
          refine (SG.out _).mono ?_; clear z0; rintro e w4 ⟨rfl, hb⟩; have HB4 : Hid (Below wr2.heap.size wr2 w4) := ext_trans (by repeat (first | exact HB5.out | exact HB4.out | exact Below.refl _ _ | apply Below.drew | refine ext_alloc ?_ _)) hb; obtain ⟨z0, zf⟩ := HP.out w4 HB4.out; clear hb; try go_wp2_with fail
          refine hK.out _ _ ?_ (fun hHeld => ?_)
          · trivial
          clear hK K
          try simp only [Act.put, sA4, sA5, sA6]
          refine wpAnyH_ready (rs := [4]) (by kernel_rfl) (by simp) ?_
          refine AllReadyH.cons (o := _) rfl (fun K hK => ?_) AllReadyH.nil
          go_simp
          refine (AD.out _).mono ?_; clear z0; rintro e w5 ⟨q5, HQ5, rfl, hb⟩; have HB5 : Hid (Below wr2.heap.size wr2 w5) := ext_trans (by repeat (first | exact HB5.out | exact HB4.out | exact Below.refl _ _ | apply Below.drew | refine ext_alloc ?_ _)) hb; obtain ⟨z0, zf⟩ := HP.out w5 HB5.out; have hz5 : w.heap.size < w5.heap.size := Nat.lt_of_lt_of_le hzx HB5.out.size; clear hb; try go_wp2_with fail
          refine hK.out _ _ ?_ (fun hHeld => ?_)
          · trivial
          clear hK K
          try simp only [Act.put, sA4, sA5, sA6]
          refine wpAnyH_ready (rs := [5]) (by kernel_rfl) (by simp) ?_
          refine AllReadyH.cons (o := _) rfl (fun K hK => ?_) AllReadyH.nil
          go_simp
          refine hK.out _ _ ?_ (fun hHeld => ?_)
          · trivial
          clear hK K
          try simp only [Act.put, sA4, sA5, sA6]
          refine wpAnyH_done (by kernel_rfl) ?_ _
          go_wp2_with fail
          go_roundg (al.length - (j + 1))
          case rel => exact ⟨j + 1, gs, cur ++ [a], by omega, by go_num, vi (by have h1 := HL'.out.1; first | omega | (have := HEN2.out; omega)), vi (by have h1 := HL'.out.1; have h2 := HL'.out.2; have h3 := ln_app enc cur [a]; have h4 := ln_one enc a; have h5 := HSZ.out; first | omega | (have := HEN2.out; omega)), HC', (FIN.out _ _ HB5.out HQ5.out).1, (FIN.out _ _ HB5.out HQ5.out).2.1, (FIN.out _ _ HB5.out HQ5.out).2.2.1, (FIN.out _ _ HB5.out HQ5.out).2.2.2⟩
          case measure => omega
        · skip
          go_simp
          refine (SG.out _).mono ?_; clear z0; rintro e w4 ⟨rfl, hb⟩; have HB4 : Hid (Below wr2.heap.size wr2 w4) := ext_trans (by repeat (first | exact HB5.out | exact HB4.out | exact Below.refl _ _ | apply Below.drew | refine ext_alloc ?_ _)) hb; obtain ⟨z0, zf⟩ := HP.out w4 HB4.out; clear hb; try go_wp2_with fail
          refine hK.out _ _ ?_ (fun hHeld => ?_)
          · trivial
          clear hK K
          try simp only [Act.put, sA4, sA5, sA6]
          refine wpAnyH_ready (rs := [0]) (by kernel_rfl) (by simp) ?_
          refine AllReadyH.cons (o := _) rfl (fun K hK => ?_) AllReadyH.nil
          go_simp
          refine hK.out _ _ ?_ (fun hHeld => ?_)
          · trivial
          clear hK K
          try simp only [Act.put, sA4, sA5, sA6]
          refine wpAnyH_ready (rs := [4]) (by kernel_rfl) (by simp) ?_
          refine AllReadyH.cons (o := _) rfl (fun K hK => ?_) AllReadyH.nil
          go_simp
          refine (AD.out _).mono ?_; clear z0; rintro e w5 ⟨q5, HQ5, rfl, hb⟩; have HB5 : Hid (Below wr2.heap.size wr2 w5) := ext_trans (by repeat (first | exact HB5.out | exact HB4.out | exact Below.refl _ _ | apply Below.drew | refine ext_alloc ?_ _)) hb; obtain ⟨z0, zf⟩ := HP.out w5 HB5.out; have hz5 : w.heap.size < w5.heap.size := Nat.lt_of_lt_of_le hzx HB5.out.size; clear hb; try go_wp2_with fail
          refine hK.out _ _ ?_ (fun hHeld => ?_)
          · trivial
          clear hK K
          try simp only [Act.put, sA4, sA5, sA6]
          refine wpAnyH_ready (rs := [5]) (by kernel_rfl) (by simp) ?_
          refine AllReadyH.cons (o := _) rfl (fun K hK => ?_) AllReadyH.nil
          go_simp
          refine hK.out _ _ ?_ (fun hHeld => ?_)
          · trivial
          clear hK K
          try simp only [Act.put, sA4, sA5, sA6]
          refine wpAnyH_done (by kernel_rfl) ?_ _
          go_wp2_with fail
          go_roundg (al.length - (j + 1))
          case rel => exact ⟨j + 1, gs, cur ++ [a], by omega, by go_num, vi (by have h1 := HL'.out.1; first | omega | (have := HEN2.out; omega)), vi (by have h1 := HL'.out.1; have h2 := HL'.out.2; have h3 := ln_app enc cur [a]; have h4 := ln_one enc a; have h5 := HSZ.out; first | omega | (have := HEN2.out; omega)), HC', (FIN.out _ _ HB5.out HQ5.out).1, (FIN.out _ _ HB5.out HQ5.out).2.1, (FIN.out _ _ HB5.out HQ5.out).2.2.1, (FIN.out _ _ HB5.out HQ5.out).2.2.2⟩
          case measure => omega
      case true =>
        have HGR := hidIt (HX.out.1 rfl)
        have HC' : Hid (CtI enc al (j + 1) (gs ++ [cur]) ([] ++ [a])) := ⟨by rw [List.take_add_one, haj, Option.toList_some, ← HC.out.all]; simp, fun x hx => (List.mem_append.1 hx).elim (HC.out.gr x) (fun h => by rw [List.mem_singleton] at h; subst h; exact HGR.out), .inr (Gr.one HEN.out hfa)⟩
        have HL' := hidIt (show ln enc (gs ++ [cur]).flatten = st + cu ∧ ln enc ([] : List Int) = 0 from ⟨by rw [List.flatten_append, ln_app, HST.out]; simp [HCU.out], rfl⟩)
        have AD := hidIt (ADD.out [] (fun x hx => by cases hx) (by rw [ln_nil]; omega))
        obtain ⟨en, hen⟩ : ∃ en : Nat, (en : Int) = (st : Int) + cu := ⟨st + cu, by omega⟩
        have hes : ¬ en = st := by have := HGR.out.lpos; rw [HCU.out] at this; omega
        have hse : st ≤ en := by omega
        have hec : en ≤ cb := by omega
        have hen4 : en + sz ≤ ln enc al := by omega
        obtain ⟨su, oks, hPX, hsu⟩ : ∃ (su : Rs) (ok : Rs.Ok su), mkx enc b o st cur = ⟨some ⟨b, o + st, none⟩, en - st, en - st, (st : Int), su, ok⟩ ∧ spn enc cur = su := ⟨_, spn_ok enc cur, by rw [mkx, show en - st = cu by omega, HCU.out], rfl⟩
        have HKS := hidIt oks
        have HMS := hidIt (show mks enc b o 0 (gs ++ [cur]) = mks enc b o 0 gs ++ [⟨some ⟨b, o + st, none⟩, en - st, en - st, (st : Int), su, oks⟩] by rw [mks_snoc, Nat.zero_add, HST.out, hPX])
        have HEN2 := hidIt hen
        rw [← hen]
        clear hen
        rw [hsu] at HBL2
        have z0 := HBL2.out.cells.1
        have HML := hidIt (show (mks enc b o 0 gs).length + 1 ≤ 1099511627776 by rw [mks_len]; have := hll.1; omega)
        clear hPX hsu ADD HX
        go_upto_region 9 with fail
        go_cut [7] from 41 to 51 (fun pv' wF => Hid (OwnR wF w0.heap.size 122 pv' (mks enc b o 0 (gs ++ [cur]))) ∧ Hid (Blk 119 wF w.heap.size su) ∧ Hid (Below w.heap.size w wF) ∧ w0.heap.size ≤ wF.heap.size)
        case first =>
          refine wp_region_held_drew (S := fun w'' => (w''.cell? ⟨w.heap.size, 0, none⟩ = some (.int .i64 su.a) ∧ w''.cell? ⟨w.heap.size, 1, none⟩ = some (.int .i64 su.s) ∧ w''.cell? ⟨w.heap.size, 2, none⟩ = some (.int .i64 su.b) ∧ w''.cell? ⟨w.heap.size, 3, none⟩ = some (.bool su.lf) ∧ w''.cell? ⟨w.heap.size, 4, none⟩ = some (.bool su.cr))) (by kernel_rfl) (by first | exact z0 | (dsimp only; go_keep)) (fun hHeld => ?_)
          refine tkH (v := ?_) 0 rfl ?_ ?_; rotate_left 1
          · intro wq hSw; (try dsimp only at hSw); go_simp; try (with_reducible rfl)
          try simp only [Act.put, sA4]
          refine tkH (v := ?_) 1 rfl ?_ ?_; rotate_left 1
          · intro wq hSw; (try dsimp only at hSw); go_simp; try (with_reducible rfl)
          try simp only [Act.put]
          refine tkH (v := ?_) 2 rfl ?_ ?_; rotate_left 1
          · intro wq hSw; (try dsimp only at hSw); go_simp; try (with_reducible rfl)
          try simp only [Act.put]
          refine tkH (v := ?_) 3 rfl ?_ ?_; rotate_left 1
          · intro wq hSw; (try dsimp only at hSw); go_simp; try (with_reducible rfl)
          try simp only [Act.put]
          refine tkH (v := ?_) 4 rfl ?_ ?_; rotate_left 1
          · intro wq hSw; (try dsimp only at hSw); go_simp; try (with_reducible rfl)
          try simp only [Act.put]
          refine tkH (v := ?_) 5 rfl ?_ ?_; rotate_left 1
          · intro wq hSw; (try dsimp only at hSw); go_simp; try (with_reducible rfl)
          try simp only [Act.put]
          refine tkH (v := ?_) 6 rfl ?_ ?_; rotate_left 1
          · intro wq hSw; (try dsimp only at hSw); go_simp; try (with_reducible rfl)
          try simp only [Act.put]
          refine tkH (v := ?_) 7 rfl ?_ ?_; rotate_left 1
          · intro wq hSw; (try dsimp only at hSw); go_simp; try (with_reducible rfl)
          try simp only [Act.put]
          refine tkH (v := ?_) 8 rfl ?_ ?_; rotate_left 1
          · intro wq hSw; (try dsimp only at hSw); go_simp; try (with_reducible rfl)
          try simp only [Act.put]
          refine wpAnyH_ready (rs := [9]) (by kernel_rfl) (by simp) ?_
          refine AllReadyH.cons (o := _) rfl (fun K hK => ?_) AllReadyH.nil
          go_simp
          refine hK.out _ _ ?_ (fun hHeld => ?_)
          · first | exact z0 | exact z9 | ((try dsimp only); go_keep)
          clear hK K
          try simp only [Act.put, sA4, sA5, sA6]
          refine wpAnyH_ready (rs := [10]) (by kernel_rfl) (by simp) ?_
          refine AllReadyH.cons (o := _) rfl (fun K hK => ?_) AllReadyH.nil
          rw [if_pos (by rfl)]
          refine wp_append_piece _ _ 147 (by rfl) w0.heap.size 122 Tryz.info_piece Tryz.underlying147 u7 (mks enc b o 0 gs) (by rfl) (HOW2.out.ext (new_drew _ _)) ⟨some ⟨b, o + st, none⟩, en - st, en - st, (st : Int), su, oks⟩ wr2.heap.size (by rfl) (lit7 wr2 122 ⟨some ⟨b, o + st, none⟩, en - st, en - st, (st : Int), su, oks⟩) HML.out (Nat.le_trans hw02 (new_drew _ _).size) ?_; intro v' w9 hown' hg'; have HB9 := hidIt (below_append HOW2.out HBW2.out (by omega) HBW2.out.size (new_drew _ _) hg'); have HBL9 := hidIt (blk_append HOW2.out HBL2.out (by omega) (new_drew _ _) hg'); have HOW9 := hidIt hown'; have hs9 := Nat.le_trans hw02 (Nat.le_trans (new_drew _ _).size hg'.size); have z9 := HBL9.out.cells.1; clear hown' hg'; change K (Act.put _ (some 51) v') w9
          refine hK.out _ _ ?_ (fun hHeld => ?_)
          · first | exact z0 | exact z9 | ((try dsimp only); go_keep)
          clear hK K
          try simp only [Act.put, sA4, sA5, sA6]
          refine wpAnyH_ready (rs := [11]) (by kernel_rfl) (by simp) ?_
          refine AllReadyH.cons (o := _) rfl (fun K hK => ?_) AllReadyH.nil
          go_simp
          refine hK.out _ _ ?_ (fun hHeld => ?_)
          · first | exact z0 | exact z9 | ((try dsimp only); go_keep)
          clear hK K
          try simp only [Act.put, sA4, sA5, sA6]
          refine wpAnyH_done (by kernel_rfl) ?_ _
          go_wp2_with fail
          go_meet
          case rel => exact ⟨by rw [HMS.out]; exact HOW9, HBL9, HB9, hs9⟩
        obtain ⟨HOW3, HBL3, HBW3, hw03⟩ := hcut
        generalize hwc : wc = w9 at *
        clear hwc z0
        have z9 := HBL3.out.cells
        have lz9 := HBL3.out.lt
        obtain ⟨p1, p2⟩ := HBL3.out.put Rs.zero
        have HBL4 := hidIt p1
        have HOW4 := hidIt (HOW3.out.other p2 (by omega))
        have HBW4 := hidIt (below_put HBW3.out HBW3.out.size p2 (Nat.le_refl _))
        have hw04 := Nat.le_trans hw03 p2.size
        clear p1 p2
        obtain ⟨z91, _, _, _, zf9⟩ := z9
        obtain ⟨wz, hwz⟩ : ∃ wz, wz = (((((w9.setCell ⟨w.heap.size, 0, none⟩ (.int .i64 Rs.zero.a)).setCell ⟨w.heap.size, 1, none⟩ (.int .i64 Rs.zero.s)).setCell ⟨w.heap.size, 2, none⟩ (.int .i64 Rs.zero.b)).setCell ⟨w.heap.size, 3, none⟩ (.bool Rs.zero.lf)).setCell ⟨w.heap.size, 4, none⟩ (.bool Rs.zero.cr)) := ⟨_, rfl⟩
        rw [← hwz] at HBL4 HOW4 HBW4 hw04
        go_upto_region 11 with fail
        change Code.wp _ _ _ _ (((((w9.setCell ⟨w.heap.size, 0, none⟩ (.int .i64 Rs.zero.a)).setCell ⟨w.heap.size, 1, none⟩ (.int .i64 Rs.zero.s)).setCell ⟨w.heap.size, 2, none⟩ (.int .i64 Rs.zero.b)).setCell ⟨w.heap.size, 3, none⟩ (.bool Rs.zero.lf)).setCell ⟨w.heap.size, 4, none⟩ (.bool Rs.zero.cr))
        rw [← hwz]
        clear hwz z91 zf9 lz9
        have HP : Hid (∀ w', Below wz.heap.size wz w' → (w'.cell? ⟨w.heap.size, 0, none⟩ = some (.int .i64 (spn enc []).a) ∧ w'.cell? ⟨w.heap.size, 1, none⟩ = some (.int .i64 (spn enc []).s) ∧ w'.cell? ⟨w.heap.size, 2, none⟩ = some (.int .i64 (spn enc []).b) ∧ w'.cell? ⟨w.heap.size, 3, none⟩ = some (.bool (spn enc []).lf) ∧ w'.cell? ⟨w.heap.size, 4, none⟩ = some (.bool (spn enc []).cr)) ∧ ∀ i, w'.frozen? ⟨w.heap.size, i, none⟩ = false) := fun w' hb => ⟨(HBL4.out.ext hb).cells.1, (HBL4.out.ext hb).cells.2.2.2.2⟩
        have hzx : w.heap.size < wz.heap.size := HBL4.out.lt
        have FIN : Hid (∀ w' r, Below wz.heap.size wz w' → r = spn enc ([] ++ [a]) → OwnR (((((w'.setCell ⟨w.heap.size, 0, none⟩ (.int .i64 r.a)).setCell ⟨w.heap.size, 1, none⟩ (.int .i64 r.s)).setCell ⟨w.heap.size, 2, none⟩ (.int .i64 r.b)).setCell ⟨w.heap.size, 3, none⟩ (.bool r.lf)).setCell ⟨w.heap.size, 4, none⟩ (.bool r.cr)) w0.heap.size 122 u7 (mks enc b o 0 (gs++[cur])) ∧ Blk 119 (((((w'.setCell ⟨w.heap.size, 0, none⟩ (.int .i64 r.a)).setCell ⟨w.heap.size, 1, none⟩ (.int .i64 r.s)).setCell ⟨w.heap.size, 2, none⟩ (.int .i64 r.b)).setCell ⟨w.heap.size, 3, none⟩ (.bool r.lf)).setCell ⟨w.heap.size, 4, none⟩ (.bool r.cr)) w.heap.size (spn enc ([] ++ [a])) ∧ Below w.heap.size w (((((w'.setCell ⟨w.heap.size, 0, none⟩ (.int .i64 r.a)).setCell ⟨w.heap.size, 1, none⟩ (.int .i64 r.s)).setCell ⟨w.heap.size, 2, none⟩ (.int .i64 r.b)).setCell ⟨w.heap.size, 3, none⟩ (.bool r.lf)).setCell ⟨w.heap.size, 4, none⟩ (.bool r.cr)) ∧ w0.heap.size ≤ (((((w'.setCell ⟨w.heap.size, 0, none⟩ (.int .i64 r.a)).setCell ⟨w.heap.size, 1, none⟩ (.int .i64 r.s)).setCell ⟨w.heap.size, 2, none⟩ (.int .i64 r.b)).setCell ⟨w.heap.size, 3, none⟩ (.bool r.lf)).setCell ⟨w.heap.size, 4, none⟩ (.bool r.cr)).heap.size) := fun w' r hb hr => by
          subst hr
          obtain ⟨p1, p2⟩ := (HBL4.out.ext hb).put (spn enc ([] ++ [a]))
          exact ⟨(HOW4.out.ext hb).other p2 (by omega), p1, below_put (ext_trans HBW4.out hb) (ext_trans HBW4.out hb).size p2 (Nat.le_refl _), Nat.le_trans hw04 (Nat.le_trans hb.size p2.size)⟩
        obtain ⟨z0, zf⟩ := HP.out wz (Below.refl _ _)
        generalize spn enc [] = sd at AD HP z0
        go_upto_region 12 with fail
        refine wp_region_held_drew (S := fun _ => True) (by kernel_rfl) (trivial) (fun hHeld => ?_)
        refine tkH (v := ?_) 1 rfl ?_ ?_; rotate_left 1
        · intro wq hSw; (try dsimp only at hSw); go_simp; try (with_reducible rfl)
        try simp only [Act.put, sA4]
        refine tkH (v := ?_) 2 rfl ?_ ?_; rotate_left 1
        · intro wq hSw; (try dsimp only at hSw); go_simp; try (with_reducible rfl)
        try simp only [Act.put]
        refine wpAnyH_ready (rs := [0, 3]) (by kernel_rfl) (by simp) ?_
        refine (AllReadyH.cons (o := _) rfl (fun K hK => ?_) (AllReadyH.cons (o := _) rfl (fun K hK => ?_) AllReadyH.nil))
        · skip
          go_simp
          refine hK.out _ _ ?_ (fun hHeld => ?_)
          · trivial
          clear hK K
          try simp only [Act.put, sA4, sA5, sA6]
          refine wpAnyH_ready (rs := [3]) (by kernel_rfl) (by simp) ?_
          refine AllReadyH.cons (o := _) rfl (fun K hK => ?_) AllReadyH.nil
          go_simp
          refine (SG.out _).mono ?_; clear z0; rintro e w4 ⟨rfl, hb⟩; have HB4 : Hid (Below wz.heap.size wz w4) := ext_trans (by repeat (first | exact HB5.out | exact HB4.out | exact Below.refl _ _ | apply Below.drew | refine ext_alloc ?_ _)) hb; obtain ⟨z0, zf⟩ := HP.out w4 HB4.out; clear hb; try go_wp2_with fail
          refine hK.out _ _ ?_ (fun hHeld => ?_)
          · trivial
          clear hK K
          try simp only [Act.put, sA4, sA5, sA6]
          refine wpAnyH_ready (rs := [4]) (by kernel_rfl) (by simp) ?_
          refine AllReadyH.cons (o := _) rfl (fun K hK => ?_) AllReadyH.nil
          go_simp
          refine (AD.out _).mono ?_; clear z0; rintro e w5 ⟨q5, HQ5, rfl, hb⟩; have HB5 : Hid (Below wz.heap.size wz w5) := ext_trans (by repeat (first | exact HB5.out | exact HB4.out | exact Below.refl _ _ | apply Below.drew | refine ext_alloc ?_ _)) hb; obtain ⟨z0, zf⟩ := HP.out w5 HB5.out; have hz5 : w.heap.size < w5.heap.size := Nat.lt_of_lt_of_le hzx HB5.out.size; clear hb; try go_wp2_with fail
          refine hK.out _ _ ?_ (fun hHeld => ?_)
          · trivial
          clear hK K
          try simp only [Act.put, sA4, sA5, sA6]
          refine wpAnyH_ready (rs := [5]) (by kernel_rfl) (by simp) ?_
          refine AllReadyH.cons (o := _) rfl (fun K hK => ?_) AllReadyH.nil
          go_simp
          refine hK.out _ _ ?_ (fun hHeld => ?_)
          · trivial
          clear hK K
          try simp only [Act.put, sA4, sA5, sA6]
          refine wpAnyH_done (by kernel_rfl) ?_ _
          go_wp2_with fail
          go_roundg (al.length - (j + 1))
          case rel => exact ⟨j + 1, (gs++[cur]), [] ++ [a], by omega, by go_num, vi (by have h1 := HL'.out.1; first | omega | (have := HEN2.out; omega)), vi (by have h1 := HL'.out.1; have h2 := HL'.out.2; have h3 := ln_app enc [] [a]; have h4 := ln_one enc a; have h5 := HSZ.out; first | omega | (have := HEN2.out; omega)), HC', (FIN.out _ _ HB5.out HQ5.out).1, (FIN.out _ _ HB5.out HQ5.out).2.1, (FIN.out _ _ HB5.out HQ5.out).2.2.1, (FIN.out _ _ HB5.out HQ5.out).2.2.2⟩
          case measure => omega
        · skip
          go_simp
          refine (SG.out _).mono ?_; clear z0; rintro e w4 ⟨rfl, hb⟩; have HB4 : Hid (Below wz.heap.size wz w4) := ext_trans (by repeat (first | exact HB5.out | exact HB4.out | exact Below.refl _ _ | apply Below.drew | refine ext_alloc ?_ _)) hb; obtain ⟨z0, zf⟩ := HP.out w4 HB4.out; clear hb; try go_wp2_with fail
          refine hK.out _ _ ?_ (fun hHeld => ?_)
          · trivial
          clear hK K
          try simp only [Act.put, sA4, sA5, sA6]
          refine wpAnyH_ready (rs := [0]) (by kernel_rfl) (by simp) ?_
          refine AllReadyH.cons (o := _) rfl (fun K hK => ?_) AllReadyH.nil
          go_simp
          refine hK.out _ _ ?_ (fun hHeld => ?_)
          · trivial
          clear hK K
          try simp only [Act.put, sA4, sA5, sA6]
          refine wpAnyH_ready (rs := [4]) (by kernel_rfl) (by simp) ?_
          refine AllReadyH.cons (o := _) rfl (fun K hK => ?_) AllReadyH.nil
          go_simp
          refine (AD.out _).mono ?_; clear z0; rintro e w5 ⟨q5, HQ5, rfl, hb⟩; have HB5 : Hid (Below wz.heap.size wz w5) := ext_trans (by repeat (first | exact HB5.out | exact HB4.out | exact Below.refl _ _ | apply Below.drew | refine ext_alloc ?_ _)) hb; obtain ⟨z0, zf⟩ := HP.out w5 HB5.out; have hz5 : w.heap.size < w5.heap.size := Nat.lt_of_lt_of_le hzx HB5.out.size; clear hb; try go_wp2_with fail
          refine hK.out _ _ ?_ (fun hHeld => ?_)
          · trivial
          clear hK K
          try simp only [Act.put, sA4, sA5, sA6]
          refine wpAnyH_ready (rs := [5]) (by kernel_rfl) (by simp) ?_
          refine AllReadyH.cons (o := _) rfl (fun K hK => ?_) AllReadyH.nil
          go_simp
          refine hK.out _ _ ?_ (fun hHeld => ?_)
          · trivial
          clear hK K
          try simp only [Act.put, sA4, sA5, sA6]
          refine wpAnyH_done (by kernel_rfl) ?_ _
          go_wp2_with fail
          go_roundg (al.length - (j + 1))
          case rel => exact ⟨j + 1, (gs++[cur]), [] ++ [a], by omega, by go_num, vi (by have h1 := HL'.out.1; first | omega | (have := HEN2.out; omega)), vi (by have h1 := HL'.out.1; have h2 := HL'.out.2; have h3 := ln_app enc [] [a]; have h4 := ln_one enc a; have h5 := HSZ.out; first | omega | (have := HEN2.out; omega)), HC', (FIN.out _ _ HB5.out HQ5.out).1, (FIN.out _ _ HB5.out HQ5.out).2.1, (FIN.out _ _ HB5.out HQ5.out).2.2.1, (FIN.out _ _ HB5.out HQ5.out).2.2.2⟩
          case measure => omega
  obtain ⟨gs, cur, rfl, rfl, HC, HOW, HBL, HBW⟩ := hcut
  generalize hwc : wc = wl at *
  clear hwc
  have hll := HC.out.len
  by_cases hcur : cur = []
  · have hc0 : ln enc cur = 0 := by rw [hcur]; rfl
    have HFL := hidIt (show gs.flatten = al by have e := HC.out.all; rw [hcur, List.append_nil, List.take_length] at e; exact e)
    have HGS := hidIt HC.out.gr
    clear hcur
    rw [hc0]
    generalize ln enc gs.flatten = st at *
    go_wp2_with fail
    go_ret
    exact ⟨_, gs, rfl, ⟨HFL.out, HGS.out, HOW.out.le (by omega)⟩, HBW.out⟩
  · have hGr : Gr enc cur := HC.out.cu.elim (fun h => absurd h.1 hcur) id
    have HGR := hidIt hGr
    have e0 := HC.out.all
    rw [List.take_length] at e0
    have hne : al ≠ [] := fun e => hcur (by rw [e] at e0; exact (List.append_eq_nil_iff.1 e0).2)
    obtain rfl : pb = some ⟨b, o, none⟩ := hP hne
    have HFL := hidIt (show (gs ++ [cur]).flatten = al ∧ (∀ g ∈ gs ++ [cur], Gr enc g) from ⟨by rw [← e0]; simp, fun x hx => (List.mem_append.1 hx).elim (HC.out.gr x) (fun h => by rw [List.mem_singleton] at h; subst h; exact HGR.out)⟩)
    have hw02 : w0.heap.size ≤ wl.heap.size := by have := HBL.out.lt; omega
    generalize hstt : ln enc gs.flatten = st at *
    generalize hcuu : ln enc cur = cu at *
    have HST := hidIt hstt
    have HCU := hidIt hcuu
    clear hstt hcuu hGr e0 hP
    obtain ⟨en, hen⟩ : ∃ en : Nat, (en : Int) = (st : Int) + cu := ⟨st + cu, by omega⟩
    have hes : ¬ en = st := by have := HGR.out.lpos; rw [HCU.out] at this; omega
    have hes' : ((st : Int) == (en : Int)) = false := by simp; omega
    have hse : st ≤ en := by omega
    have hec : en ≤ cb := by omega
    obtain ⟨su, oks, hPX, hsu⟩ : ∃ (su : Rs) (ok : Rs.Ok su), mkx enc b o st cur = ⟨some ⟨b, o + st, none⟩, en - st, en - st, (st : Int), su, ok⟩ ∧ spn enc cur = su := ⟨_, spn_ok enc cur, by rw [mkx, show en - st = cu by omega, HCU.out], rfl⟩
    have HMS := hidIt (show mks enc b o 0 (gs ++ [cur]) = mks enc b o 0 gs ++ [⟨some ⟨b, o + st, none⟩, en - st, en - st, (st : Int), su, oks⟩] by rw [mks_snoc, Nat.zero_add, HST.out, hPX])
    rw [← hen]
    rw [hsu] at HBL
    have z0 := HBL.out.cells.1
    have HML := hidIt (show (mks enc b o 0 gs).length + 1 ≤ 1099511627776 by rw [mks_len]; have := hll.1; omega)
    clear hPX hsu hen
    go_upto_region 16 with fail
    refine wp_region_held_drew (S := fun w'' => (w''.cell? ⟨w.heap.size, 0, none⟩ = some (.int .i64 su.a) ∧ w''.cell? ⟨w.heap.size, 1, none⟩ = some (.int .i64 su.s) ∧ w''.cell? ⟨w.heap.size, 2, none⟩ = some (.int .i64 su.b) ∧ w''.cell? ⟨w.heap.size, 3, none⟩ = some (.bool su.lf) ∧ w''.cell? ⟨w.heap.size, 4, none⟩ = some (.bool su.cr))) (by kernel_rfl) (by first | exact z0 | (dsimp only; go_keep)) (fun hHeld => ?_)
    refine tkH (v := ?_) 0 rfl ?_ ?_; rotate_left 1
    · intro wq hSw; (try dsimp only at hSw); go_simp; try (with_reducible rfl)
    try simp only [Act.put, sA4]
    refine tkH (v := ?_) 1 rfl ?_ ?_; rotate_left 1
    · intro wq hSw; (try dsimp only at hSw); go_simp; try (with_reducible rfl)
    try simp only [Act.put]
    refine tkH (v := ?_) 2 rfl ?_ ?_; rotate_left 1
    · intro wq hSw; (try dsimp only at hSw); go_simp; try (with_reducible rfl)
    try simp only [Act.put]
    refine tkH (v := ?_) 3 rfl ?_ ?_; rotate_left 1
    · intro wq hSw; (try dsimp only at hSw); go_simp; try (with_reducible rfl)
    try simp only [Act.put]
    refine tkH (v := ?_) 4 rfl ?_ ?_; rotate_left 1
    · intro wq hSw; (try dsimp only at hSw); go_simp; try (with_reducible rfl)
    try simp only [Act.put]
    refine tkH (v := ?_) 5 rfl ?_ ?_; rotate_left 1
    · intro wq hSw; (try dsimp only at hSw); go_simp; try (with_reducible rfl)
    try simp only [Act.put]
    refine tkH (v := ?_) 6 rfl ?_ ?_; rotate_left 1
    · intro wq hSw; (try dsimp only at hSw); go_simp; try (with_reducible rfl)
    try simp only [Act.put]
    refine tkH (v := ?_) 7 rfl ?_ ?_; rotate_left 1
    · intro wq hSw; (try dsimp only at hSw); go_simp; try (with_reducible rfl)
    try simp only [Act.put]
    refine tkH (v := ?_) 8 rfl ?_ ?_; rotate_left 1
    · intro wq hSw; (try dsimp only at hSw); go_simp; try (with_reducible rfl)
    try simp only [Act.put]
    refine wpAnyH_ready (rs := [9]) (by kernel_rfl) (by simp) ?_
    refine AllReadyH.cons (o := _) rfl (fun K hK => ?_) AllReadyH.nil
    go_simp
    refine hK.out _ _ ?_ (fun hHeld => ?_)
    · first | exact z0 | exact z9 | ((try dsimp only); go_keep)
    clear hK K
    try simp only [Act.put, sA4, sA5, sA6]
    refine wpAnyH_ready (rs := [10]) (by kernel_rfl) (by simp) ?_
    refine AllReadyH.cons (o := _) rfl (fun K hK => ?_) AllReadyH.nil
    rw [if_pos (by rfl)]
    refine wp_append_piece _ _ 147 (by rfl) w0.heap.size 122 Tryz.info_piece Tryz.underlying147 u7 (mks enc b o 0 gs) (by rfl) (HOW.out.ext (new_drew _ _)) ⟨some ⟨b, o + st, none⟩, en - st, en - st, (st : Int), su, oks⟩ wl.heap.size (by rfl) (lit7 wl 122 ⟨some ⟨b, o + st, none⟩, en - st, en - st, (st : Int), su, oks⟩) HML.out (Nat.le_trans hw02 (new_drew _ _).size) ?_; intro v' w9 hown' hg'; have HB9 := hidIt (below_append HOW.out HBW.out (by omega) HBW.out.size (new_drew _ _) hg'); have HBL9 := hidIt (blk_append HOW.out HBL.out (by omega) (new_drew _ _) hg'); have HOW9 := hidIt hown'; have hs9 := Nat.le_trans hw02 (Nat.le_trans (new_drew _ _).size hg'.size); have z9 := HBL9.out.cells.1; clear hown' hg'; change K (Act.put _ (some 77) v') w9
    refine hK.out _ _ ?_ (fun hHeld => ?_)
    · first | exact z0 | exact z9 | ((try dsimp only); go_keep)
    clear hK K
    try simp only [Act.put, sA4, sA5, sA6]
    refine wpAnyH_ready (rs := [11]) (by kernel_rfl) (by simp) ?_
    refine AllReadyH.cons (o := _) rfl (fun K hK => ?_) AllReadyH.nil
    go_simp
    refine hK.out _ _ ?_ (fun hHeld => ?_)
    · first | exact z0 | exact z9 | ((try dsimp only); go_keep)
    clear hK K
    try simp only [Act.put, sA4, sA5, sA6]
    refine wpAnyH_done (by kernel_rfl) ?_ _
    go_wp2_with fail
    go_ret
    exact ⟨_, gs ++ [cur], rfl, ⟨HFL.out.1, HFL.out.2, by rw [HMS.out]; exact HOW9.out.le (by omega)⟩, HB9.out⟩
end Go.Proofs.YtbmelpjmpomfcaaGreat.P

namespace Go.Proofs.YtbmelpjmpomfcaaGreat.P
open Go.RowKit

def LdR (w : World) (lv : Value) (L : List Int) : Prop := ∃ bl ol cl, lv = .slice (some ⟨bl, ol, none⟩) L.length cl ∧ L.length ≤ cl ∧ cl ≤ 9223372036854775807 ∧ RwU w bl ol L
theorem LdR.same {w w' : World} {lv : Value} {L : List Int} (h : LdR w lv L) (hb : ∀ b, Typ 5 w b → w'.heap[b]? = w.heap[b]?) : LdR w' lv L := by
  obtain ⟨bl, ol, cl, h1, h2, h3, h4⟩ := h
  exact ⟨bl, ol, cl, h1, h2, h3, h4.same (hb bl h4.typ)⟩
theorem LdR.ext {w w' : World} {lv : Value} {L : List Int} (h : LdR w lv L) (hb : Below w.heap.size w w') : LdR w' lv L := h.same fun b hb' => hb.block b hb'.lt
theorem load_two {enc : Int} (he : Cx.En enc) {L : List Int} (hL : Byt L) {g h : List Int} {i j : Nat} (hg : ((Cx.dec enc L).drop i).take g.length = g) (hi : i + g.length ≤ (Cx.dec enc L).length) (gn : g ≠ []) (hh : ((Cx.dec enc L).drop j).take h.length = h) (hj : j + h.length ≤ (Cx.dec enc L).length) (e : off enc L j = off enc L i + ln enc g) :
    ((Cx.dec enc L).drop i).take (g ++ h).length = g ++ h ∧ i + (g ++ h).length ≤ (Cx.dec enc L).length := by
  obtain ⟨_, _, k3, _⟩ := Gr.load he hL hg hi gn
  obtain ⟨a1, a2, _⟩ := Cx.dec_cut enc he j L hL (by omega)
  obtain ⟨b1, b2, _⟩ := Cx.dec_cut enc he (i + g.length) L hL hi
  have e1 : (Cx.encB enc ((Cx.dec enc L).take j)).length = off enc L j := rfl
  have e2 : (Cx.encB enc ((Cx.dec enc L).take (i + g.length))).length = off enc L (i + g.length) := rfl
  rw [e1, e, k3] at a2
  rw [e2] at b2
  have e3 := congrArg List.length (a2.symm.trans b2)
  rw [List.length_drop, List.length_drop] at e3
  have hji : j = i + g.length := by omega
  subst hji
  rw [List.length_append]
  refine ⟨?_, by omega⟩
  rw [List.take_add, hg, List.drop_drop, hh]
def UnR (enc : Int) (L : List Int) (w : World) (xl yl : Int) (g h : List Int) (e : Ending) (w' : World) : Prop := ∃ (z : It) (ok : Bool), e = .returned (.tuple #[.agg #[.slice z.p z.n z.c, .int .i64 z.pl, .int .i64 z.sp.a, .int .i64 z.sp.s, .int .i64 z.sp.b, .bool z.sp.lf, .bool z.sp.cr], .bool ok]) ∧ Hid (ok = true → Pc enc L w' z (g ++ h) ∧ ctn enc z.pl (g ++ h) = ctn enc xl g ++ ctn enc yl h) ∧ Below w.heap.size w w'

set_option maxRecDepth 100000 in
set_option maxHeartbeats 4000000 in
theorem unite_any (enc : Int) (he : Cx.En enc) (L : List Int) (hL : Byt L) (hLl : L.length ≤ 1073741824) (gw : Nat) (lv : Value) (x y : It) (g h : List Int) (w : World) (hw : w.cell? ⟨gw, 0, none⟩ = some (.int .i64 enc) ∧ w.cell? ⟨gw, 1, none⟩ = some lv) (hgw : gw < w.heap.size) (hlv : LdR w lv L) (hx : Pc enc L w x g) (hy : Pc enc L w y h) (hl : ln enc g + ln enc h ≤ 1073741824) :
    Calls Tryz.prog 122 #[.pointer (some ⟨gw, 0, none⟩), .agg #[.slice x.p x.n x.c, .int .i64 x.pl, .int .i64 x.sp.a, .int .i64 x.sp.s, .int .i64 x.sp.b, .bool x.sp.lf, .bool x.sp.cr], .agg #[.slice y.p y.n y.c, .int .i64 y.pl, .int .i64 y.sp.a, .int .i64 y.sp.s, .int .i64 y.sp.b, .bool y.sp.lf, .bool y.sp.cr]] w fun e w' => UnR enc L w x.pl y.pl g h e w' := by
  obtain ⟨n, hn⟩ : ∃ n, n = ln enc g := ⟨_, rfl⟩
  obtain ⟨m, hm⟩ : ∃ m, m = ln enc h := ⟨_, rfl⟩
  obtain ⟨w0, hw0, k1, k2, k3, hb0, hs0⟩ := three_blocks w x y
  have n1 := hx.gr.lpos
  have m1 := hy.gr.lpos
  rw [← hn] at n1 hl
  rw [← hm] at m1 hl
  have x0 := hx.low
  have y0 := hy.low
  have xe := hx.end he hL
  have ye := hy.end he hL
  rw [← hn] at xe
  rw [← hm] at ye
  have xs : x.sp.s = (n : Nat) := by rw [hx.sp, (spn_a enc g hx.gr.fit).2, hn]
  have ys : y.sp.s = (m : Nat) := by rw [hy.sp, (spn_a enc h hy.gr.fit).2, hm]
  have HP : Hid (∀ w', Below w0.heap.size w0 w' → (w'.cell? ⟨gw, 0, none⟩ = some (.int .i64 enc) ∧ w'.cell? ⟨gw, 1, none⟩ = some lv) ∧ (w'.cell? ⟨w.heap.size, 0, none⟩ = some (.slice x.p x.n x.c) ∧ w'.cell? ⟨w.heap.size, 1, none⟩ = some (.int .i64 x.pl) ∧ w'.cell? ⟨w.heap.size, 2, none⟩ = some (.int .i64 x.sp.a) ∧ w'.cell? ⟨w.heap.size, 3, none⟩ = some (.int .i64 x.sp.s) ∧ w'.cell? ⟨w.heap.size, 4, none⟩ = some (.int .i64 x.sp.b) ∧ w'.cell? ⟨w.heap.size, 5, none⟩ = some (.bool x.sp.lf) ∧ w'.cell? ⟨w.heap.size, 6, none⟩ = some (.bool x.sp.cr)) ∧ (w'.cell? ⟨w.heap.size + 1, 0, none⟩ = some (.slice y.p y.n y.c) ∧ w'.cell? ⟨w.heap.size + 1, 1, none⟩ = some (.int .i64 y.pl) ∧ w'.cell? ⟨w.heap.size + 1, 2, none⟩ = some (.int .i64 y.sp.a) ∧ w'.cell? ⟨w.heap.size + 1, 3, none⟩ = some (.int .i64 y.sp.s) ∧ w'.cell? ⟨w.heap.size + 1, 4, none⟩ = some (.int .i64 y.sp.b) ∧ w'.cell? ⟨w.heap.size + 1, 5, none⟩ = some (.bool y.sp.lf) ∧ w'.cell? ⟨w.heap.size + 1, 6, none⟩ = some (.bool y.sp.cr))) := fun w' hb => by
    have hb' : Below w.heap.size w w' := ext_trans hb0 hb
    exact ⟨⟨(hb'.cell (p := ⟨gw, 0, none⟩) hgw).trans hw.1, (hb'.cell (p := ⟨gw, 1, none⟩) hgw).trans hw.2⟩, (k1.ext hb).cells.1, (k2.ext hb).cells.1⟩
  have HZ : Hid (∀ w', Below w0.heap.size w0 w' → (w'.cell? ⟨w.heap.size + 2, 0, none⟩ = some (.slice It.zero.p It.zero.n It.zero.c) ∧ w'.cell? ⟨w.heap.size + 2, 1, none⟩ = some (.int .i64 It.zero.pl) ∧ w'.cell? ⟨w.heap.size + 2, 2, none⟩ = some (.int .i64 It.zero.sp.a) ∧ w'.cell? ⟨w.heap.size + 2, 3, none⟩ = some (.int .i64 It.zero.sp.s) ∧ w'.cell? ⟨w.heap.size + 2, 4, none⟩ = some (.int .i64 It.zero.sp.b) ∧ w'.cell? ⟨w.heap.size + 2, 5, none⟩ = some (.bool It.zero.sp.lf) ∧ w'.cell? ⟨w.heap.size + 2, 6, none⟩ = some (.bool It.zero.sp.cr)) ∧ (∀ i, w'.frozen? ⟨w.heap.size + 2, i, none⟩ = false) ∧ w.heap.size + 2 < w'.heap.size) := fun w' hb => ⟨(k3.ext hb).cells.1, (k3.ext hb).cells.2.2, (k3.ext hb).lt⟩
  have HNO : Hid (∀ w', Below w0.heap.size w0 w' → UnR enc L w x.pl y.pl g h (.returned (.tuple #[.agg #[.slice It.zero.p It.zero.n It.zero.c, .int .i64 It.zero.pl, .int .i64 It.zero.sp.a, .int .i64 It.zero.sp.s, .int .i64 It.zero.sp.b, .bool It.zero.sp.lf, .bool It.zero.sp.cr], .bool false])) (((((((w'.setCell ⟨w.heap.size + 2, 0, none⟩ (.slice It.zero.p It.zero.n It.zero.c)).setCell ⟨w.heap.size + 2, 1, none⟩ (.int .i64 It.zero.pl)).setCell ⟨w.heap.size + 2, 2, none⟩ (.int .i64 It.zero.sp.a)).setCell ⟨w.heap.size + 2, 3, none⟩ (.int .i64 It.zero.sp.s)).setCell ⟨w.heap.size + 2, 4, none⟩ (.int .i64 It.zero.sp.b)).setCell ⟨w.heap.size + 2, 5, none⟩ (.bool It.zero.sp.lf)).setCell ⟨w.heap.size + 2, 6, none⟩ (.bool It.zero.sp.cr))) := fun w' hb => by
    obtain ⟨p1, p2⟩ := (k3.ext hb).put It.zero
    exact ⟨It.zero, false, rfl, (fun h => by cases h), below_put (ext_trans hb0 hb) (ext_trans hb0 hb).size p2 (by omega)⟩
  have HPX := hidIt hx
  have HPY := hidIt hy
  have HEN := hidIt he
  have HB0 := hidIt hb0
  have HK3 := hidIt k3
  have HN := hidIt hn
  have HM := hidIt hm
  have HLV := hidIt hlv
  have HLB := hidIt hL
  clear k1 k2 k3 hb0 hx hy he hn hm hw hlv hL
  have hgn2 : ¬ gw = w.heap.size + 1 + 1 := by omega
  have hgn3 : ¬ w.heap.size = w.heap.size + 1 + 1 := by omega
  have hgn4 : ¬ w.heap.size + 1 = w.heap.size + 1 + 1 := by omega
  obtain ⟨xp, xn, xc, xl, ⟨xa, xS, xb, xf, xr⟩, xok⟩ := x
  obtain ⟨yp, yn, yc, yl, ⟨ya, yS, yb, yf, yr⟩, yok⟩ := y
  simp only at *
  subst xs
  subst ys
  go_enter Tryz.func122, Tryz.ntmps122
  go_upto_region 1 with fail
  rw [← hw0]
  clear hw0
  obtain ⟨⟨c0, c1⟩, d0, d1⟩ := HP.out w0 (Below.refl _ _)
  obtain ⟨z0, zf, zl⟩ := HZ.out w0 (Below.refl _ _)
  by_cases hbig : (256 : Int) < (n : Int) + m
  · go_wp2_with fail
    exact bodyPost_ret (v := .tuple #[.agg #[.slice It.zero.p It.zero.n It.zero.c, .int .i64 It.zero.pl, .int .i64 It.zero.sp.a, .int .i64 It.zero.sp.s, .int .i64 It.zero.sp.b, .bool It.zero.sp.lf, .bool It.zero.sp.cr], .bool false]) (by simp [results, Tryz.results122, go_sem, z0, It.zero, Rs.zero]) rfl (HNO.out w0 (Below.refl _ _))
  by_cases hx1 : xl = -1
  · subst hx1
    by_cases hy1 : yl = -1
    · subst hy1
      have GL : Hid (∀ w', Below w0.heap.size w0 w' → Calls Tryz.prog 139 #[.int .i64 enc, .agg #[.slice xp xn xc, .int .i64 (-1), .int .i64 xa, .int .i64 (n : Nat), .int .i64 xb, .bool xf, .bool xr], .agg #[.slice yp yn yc, .int .i64 (-1), .int .i64 ya, .int .i64 (m : Nat), .int .i64 yb, .bool yf, .bool yr]] w' fun e w'' => ∃ z ok, e = .returned (.tuple #[.agg #[.slice z.p z.n z.c, .int .i64 z.pl, .int .i64 z.sp.a, .int .i64 z.sp.s, .int .i64 z.sp.b, .bool z.sp.lf, .bool z.sp.cr], .bool ok]) ∧ Hid (ok = true → Pc enc L w'' z (g ++ h) ∧ z.pl = -1) ∧ Below w'.heap.size w' w'') := fun w' hb => by
        have hb' := ext_trans HB0.out hb
        exact glue_any enc HEN.out L ⟨xp, xn, xc, -1, ⟨xa, (n : Nat), xb, xf, xr⟩, xok⟩ ⟨yp, yn, yc, -1, ⟨ya, (m : Nat), yb, yf, yr⟩, yok⟩ g h w' (HPX.out.ext hb') (HPY.out.ext hb') (by rw [← HN.out, ← HM.out]; exact hl)
      go_upto_region 5 with fail
      refine wp_region_held_drew (S := fun w'' => (w''.cell? ⟨gw, 0, none⟩ = some (.int .i64 enc) ∧ w''.cell? ⟨gw, 1, none⟩ = some lv) ∧ (w''.cell? ⟨w.heap.size, 0, none⟩ = some (.slice xp xn xc) ∧ w''.cell? ⟨w.heap.size, 1, none⟩ = some (.int .i64 (-1)) ∧ w''.cell? ⟨w.heap.size, 2, none⟩ = some (.int .i64 xa) ∧ w''.cell? ⟨w.heap.size, 3, none⟩ = some (.int .i64 (n : Nat)) ∧ w''.cell? ⟨w.heap.size, 4, none⟩ = some (.int .i64 xb) ∧ w''.cell? ⟨w.heap.size, 5, none⟩ = some (.bool xf) ∧ w''.cell? ⟨w.heap.size, 6, none⟩ = some (.bool xr)) ∧ (w''.cell? ⟨w.heap.size + 1, 0, none⟩ = some (.slice yp yn yc) ∧ w''.cell? ⟨w.heap.size + 1, 1, none⟩ = some (.int .i64 (-1)) ∧ w''.cell? ⟨w.heap.size + 1, 2, none⟩ = some (.int .i64 ya) ∧ w''.cell? ⟨w.heap.size + 1, 3, none⟩ = some (.int .i64 (m : Nat)) ∧ w''.cell? ⟨w.heap.size + 1, 4, none⟩ = some (.int .i64 yb) ∧ w''.cell? ⟨w.heap.size + 1, 5, none⟩ = some (.bool yf) ∧ w''.cell? ⟨w.heap.size + 1, 6, none⟩ = some (.bool yr))) (by kernel_rfl) (by first | exact ⟨⟨c0, c1⟩, d0, d1⟩ | (dsimp only; go_keep)) (fun hHeld => ?_)
      refine tkH (v := ?_) 0 rfl ?_ ?_; rotate_left 1
      · intro wq hSw; (try dsimp only at hSw); go_simp; try (with_reducible rfl)
      try simp only [Act.put, sA4]
      refine tkH (v := ?_) 1 rfl ?_ ?_; rotate_left 1
      · intro wq hSw; (try dsimp only at hSw); go_simp; try (with_reducible rfl)
      try simp only [Act.put]
      refine tkH (v := ?_) 2 rfl ?_ ?_; rotate_left 1
      · intro wq hSw; (try dsimp only at hSw); go_simp; try (with_reducible rfl)
      try simp only [Act.put]
      refine tkH (v := ?_) 3 rfl ?_ ?_; rotate_left 1
      · intro wq hSw; (try dsimp only at hSw); go_simp; try (with_reducible rfl)
      try simp only [Act.put]
      refine tkH (v := ?_) 4 rfl ?_ ?_; rotate_left 1
      · intro wq hSw; (try dsimp only at hSw); go_simp; try (with_reducible rfl)
      try simp only [Act.put]
      refine wpAnyH_ready (rs := [5]) (by kernel_rfl) (by simp) ?_
      refine AllReadyH.cons (o := _) rfl (fun K hK => ?_) AllReadyH.nil
      go_simp
      refine hK.out _ _ ?_ (fun hHeld => ?_)
      · (try dsimp only); (try simp only [World.cell?_drew]); exact ⟨⟨c0, c1⟩, d0, d1⟩
      clear hK K
      try simp only [Act.put, sA4, sA5, sA6]
      refine wpAnyH_ready (rs := [6]) (by kernel_rfl) (by simp) ?_
      refine AllReadyH.cons (o := _) rfl (fun K hK => ?_) AllReadyH.nil
      go_simp
      refine (GL.out _ (by repeat (first | exact Below.refl _ _ | apply Below.drew))).mono ?_; clear c0 c1 d0 d1 z0 zf zl; rintro e w5 ⟨z, ok, rfl, HZK, hb⟩; have HB5 : Hid (Below w0.heap.size w0 w5) := ext_trans (by repeat (first | exact Below.refl _ _ | apply Below.drew)) hb; obtain ⟨⟨c0, c1⟩, d0, d1⟩ := HP.out w5 HB5.out; obtain ⟨z0, zf, zl⟩ := HZ.out w5 HB5.out; clear hb; try go_wp2_with fail
      refine hK.out _ _ ?_ (fun hHeld => ?_)
      · (try dsimp only); (try simp only [World.cell?_drew]); exact ⟨⟨c0, c1⟩, d0, d1⟩
      clear hK K
      try simp only [Act.put, sA4, sA5, sA6]
      refine tkH (v := ?_) 7 rfl ?_ ?_; rotate_left 1
      · intro wq hSw; (try dsimp only at hSw); go_simp; try (with_reducible rfl)
      try simp only [Act.put, sA4]
      refine tkH (v := ?_) 8 rfl ?_ ?_; rotate_left 1
      · intro wq hSw; (try dsimp only at hSw); go_simp; try (with_reducible rfl)
      try simp only [Act.put]
      refine wpAnyH_ready (rs := [9]) (by kernel_rfl) (by simp) ?_
      refine AllReadyH.cons (o := _) rfl (fun K hK => ?_) AllReadyH.nil
      go_simp
      refine hK.out _ _ ?_ (fun hHeld => ?_)
      · (try dsimp only); simp only [cell_set_other hgn2, cell_set_other hgn3, cell_set_other hgn4]; exact ⟨⟨c0, c1⟩, d0, d1⟩
      clear hK K
      try simp only [Act.put, sA4, sA5, sA6]
      refine wpAnyH_ready (rs := [10]) (by kernel_rfl) (by simp) ?_
      refine AllReadyH.cons (o := _) rfl (fun K hK => ?_) AllReadyH.nil
      go_simp
      refine hK.out _ _ ?_ (fun hHeld => ?_)
      · (try dsimp only); simp only [cell_set_other hgn2, cell_set_other hgn3, cell_set_other hgn4]; exact ⟨⟨c0, c1⟩, d0, d1⟩
      clear hK K
      try simp only [Act.put, sA4, sA5, sA6]
      refine wpAnyH_done (by kernel_rfl) ?_ _
      go_wp2_with fail
      obtain ⟨p1, p2⟩ := (HK3.out.ext HB5.out).put z
      have FB := hidIt (below_put (ext_trans HB0.out HB5.out) (ext_trans HB0.out HB5.out).size p2 (by omega))
      have FP : Hid (ok = true → Pc enc L (((((((w5.setCell ⟨w.heap.size + 2, 0, none⟩ (.slice z.p z.n z.c)).setCell ⟨w.heap.size + 2, 1, none⟩ (.int .i64 z.pl)).setCell ⟨w.heap.size + 2, 2, none⟩ (.int .i64 z.sp.a)).setCell ⟨w.heap.size + 2, 3, none⟩ (.int .i64 z.sp.s)).setCell ⟨w.heap.size + 2, 4, none⟩ (.int .i64 z.sp.b)).setCell ⟨w.heap.size + 2, 5, none⟩ (.bool z.sp.lf)).setCell ⟨w.heap.size + 2, 6, none⟩ (.bool z.sp.cr)) z (g ++ h) ∧ z.pl = -1) := fun hk => ⟨(HZK.out hk).1.same (fun b hb => p2.block b hb.lt (fun e => (by simp only [Option.some.injEq] at e; subst e; exact absurd (hb.uniq ⟨_, HK3.out.ext HB5.out⟩) (by decide)))), (HZK.out hk).2⟩
      exact bodyPost_ret (v := .tuple #[.agg #[.slice z.p z.n z.c, .int .i64 z.pl, .int .i64 z.sp.a, .int .i64 z.sp.s, .int .i64 z.sp.b, .bool z.sp.lf, .bool z.sp.cr], .bool ok]) (by simp [results, Tryz.results122, go_sem, z0, It.zero, Rs.zero]) rfl ⟨z, ok, rfl, fun hk => ⟨(FP.out hk).1, by rw [(FP.out hk).2, ctn_app enc _ _ _ (by omega), tg_new]⟩, FB.out⟩
    · have hyb : (yl == -1) = false := by simp [hy1]
      go_wp2_with fail
      exact bodyPost_ret (v := .tuple #[.agg #[.slice It.zero.p It.zero.n It.zero.c, .int .i64 It.zero.pl, .int .i64 It.zero.sp.a, .int .i64 It.zero.sp.s, .int .i64 It.zero.sp.b, .bool It.zero.sp.lf, .bool It.zero.sp.cr], .bool false]) (by simp [results, Tryz.results122, go_sem, z0, It.zero, Rs.zero]) rfl (HNO.out w0 (Below.refl _ _))
  have hxb : (xl == -1) = false := by simp [hx1]
  have hxb' : (xl != -1) = true := by simp [hx1]
  by_cases hadj : yl = xl + n
  · subst hadj
    have hab : (xl + (n : Int) == xl + n) = true := by simp
    obtain ⟨px, hpx⟩ : ∃ px : Nat, xl = px := ⟨xl.toNat, by omega⟩
    subst hpx
    obtain ⟨en, hen⟩ : ∃ en : Nat, (en : Int) = (px : Int) + n + m := ⟨px + n + m, by omega⟩
    obtain ⟨bl, ol, cl, hlv, hl1, hl2, hl3⟩ := HLV.out
    subst hlv
    have TWO : Hid (((∃ i : Nat, (px : Int) = (off enc L i : Nat) ∧ ((Cx.dec enc L).drop i).take (g ++ h).length = g ++ h ∧ i + (g ++ h).length ≤ (Cx.dec enc L).length) ∧ RwU w bl (ol + px) (Cx.encB enc (g ++ h))) ∧ Gr enc (g ++ h) ∧ ln enc (g ++ h) = en - px ∧ en ≤ L.length) := by
      rcases HPX.out.pl with e | ⟨i, e1, e2, e3⟩
      · exact absurd e hx1
      rcases HPY.out.pl with e | ⟨j, f1, f2, f3⟩
      · simp only at e; omega
      simp only at e1 f1
      have hn' := HN.out
      have hm' := HM.out
      obtain ⟨t1, t2⟩ := load_two HEN.out HLB.out e2 e3 HPX.out.gr.ne f2 f3 (by omega)
      obtain ⟨q1, q2, q3, q4⟩ := Gr.load HEN.out HLB.out t1 t2 (by simp [HPX.out.gr.ne])
      have q5 := ln_app enc g h
      refine ⟨⟨⟨i, e1, t1, t2⟩, ?_⟩, q1, by omega, by omega⟩
      have q6 := hl3.part px (ln enc (g ++ h)) (by omega)
      rw [show px = off enc L i by omega, q2] at q6
      rw [show px = off enc L i by omega]
      exact q6
    have hel := TWO.out.2.2.2
    have hec : en ≤ cl := by omega
    have hpe : px ≤ en := by omega
    have hep : ¬ en = px := by omega
    have HEI := hidIt hen
    have AD : Hid (∀ w', Calls Tryz.prog 69 #[.agg #[.int .i64 xa, .int .i64 (n : Nat), .int .i64 xb, .bool xf, .bool xr], .agg #[.int .i64 ya, .int .i64 (m : Nat), .int .i64 yb, .bool yf, .bool yr]] w' fun e w'' => ∃ r, Hid (r = spn enc (g ++ h)) ∧ e = .returned (.agg #[.int .i64 r.a, .int .i64 r.s, .int .i64 r.b, .bool r.lf, .bool r.cr]) ∧ Below w'.heap.size w' w'') := fun w' => by
      have k1 := spn_ok enc g
      have k2 := spn_ok enc h
      have k3 := spn_a enc g HPX.out.gr.fit
      have k4 := spn_a enc h HPY.out.gr.fit
      have k5 := ln_ge enc g
      have k6 := ln_ge enc h
      have k7 := spn_b enc g
      have k8 := spn_b enc h
      have k9 := HN.out
      have k10 := HM.out
      have s1 := HPX.out.sp
      have s2 := HPY.out.sp
      simp only at s1 s2
      have A := Add_any (spn enc g) (spn enc h) w' k1.a0 k2.a0 k1.s0 k2.s0 k1.b0 k2.b0 (by omega) (by omega) (by omega)
      rw [← s1, ← s2] at A
      exact A.mono fun e w'' ⟨r, h1, h2, h3⟩ => ⟨r, by unfold Hid; rw [h1.out, s1, s2, spn_app], h2, h3⟩
    clear hen HLV
    go_upto_region 7 with fail
    rw [← HEI.out]
    refine wp_region_held_drew (S := fun w'' => (w''.cell? ⟨gw, 0, none⟩ = some (.int .i64 enc) ∧ w''.cell? ⟨gw, 1, none⟩ = some (.slice (some ⟨bl, ol, none⟩) L.length cl)) ∧ (w''.cell? ⟨w.heap.size, 0, none⟩ = some (.slice xp xn xc) ∧ w''.cell? ⟨w.heap.size, 1, none⟩ = some (.int .i64 (px : Nat)) ∧ w''.cell? ⟨w.heap.size, 2, none⟩ = some (.int .i64 xa) ∧ w''.cell? ⟨w.heap.size, 3, none⟩ = some (.int .i64 (n : Nat)) ∧ w''.cell? ⟨w.heap.size, 4, none⟩ = some (.int .i64 xb) ∧ w''.cell? ⟨w.heap.size, 5, none⟩ = some (.bool xf) ∧ w''.cell? ⟨w.heap.size, 6, none⟩ = some (.bool xr)) ∧ (w''.cell? ⟨w.heap.size + 1, 0, none⟩ = some (.slice yp yn yc) ∧ w''.cell? ⟨w.heap.size + 1, 1, none⟩ = some (.int .i64 ((px : Int) + n)) ∧ w''.cell? ⟨w.heap.size + 1, 2, none⟩ = some (.int .i64 ya) ∧ w''.cell? ⟨w.heap.size + 1, 3, none⟩ = some (.int .i64 (m : Nat)) ∧ w''.cell? ⟨w.heap.size + 1, 4, none⟩ = some (.int .i64 yb) ∧ w''.cell? ⟨w.heap.size + 1, 5, none⟩ = some (.bool yf) ∧ w''.cell? ⟨w.heap.size + 1, 6, none⟩ = some (.bool yr))) (by kernel_rfl) (by first | exact ⟨⟨c0, c1⟩, d0, d1⟩ | (dsimp only; go_keep)) (fun hHeld => ?_)
    refine tkH (v := ?_) 0 rfl ?_ ?_; rotate_left 1
    · intro wq hSw; (try dsimp only at hSw); go_simp; try (with_reducible rfl)
    try simp only [Act.put, sA4]
    refine tkH (v := ?_) 1 rfl ?_ ?_; rotate_left 1
    · intro wq hSw; (try dsimp only at hSw); go_simp; try (with_reducible rfl)
    try simp only [Act.put]
    refine tkH (v := ?_) 2 rfl ?_ ?_; rotate_left 1
    · intro wq hSw; (try dsimp only at hSw); go_simp; try (with_reducible rfl)
    try simp only [Act.put]
    refine tkH (v := ?_) 3 rfl ?_ ?_; rotate_left 1
    · intro wq hSw; (try dsimp only at hSw); go_simp; try (with_reducible rfl)
    try simp only [Act.put]
    refine tkH (v := ?_) 4 rfl ?_ ?_; rotate_left 1
    · intro wq hSw; (try dsimp only at hSw); go_simp; try (with_reducible rfl)
    try simp only [Act.put]
    refine tkH (v := ?_) 5 rfl ?_ ?_; rotate_left 1
    · intro wq hSw; (try dsimp only at hSw); go_simp; try (with_reducible rfl)
    try simp only [Act.put]
    refine tkH (v := ?_) 6 rfl ?_ ?_; rotate_left 1
    · intro wq hSw; (try dsimp only at hSw); go_simp; try (with_reducible rfl)
    try simp only [Act.put]
    refine tkH (v := ?_) 7 rfl ?_ ?_; rotate_left 1
    · intro wq hSw; (try dsimp only at hSw); go_simp; try (with_reducible rfl)
    try simp only [Act.put]
    refine tkH (v := ?_) 8 rfl ?_ ?_; rotate_left 1
    · intro wq hSw; (try dsimp only at hSw); go_simp; try (with_reducible rfl)
    try simp only [Act.put]
    refine tkH (v := ?_) 9 rfl ?_ ?_; rotate_left 1
    · intro wq hSw; (try dsimp only at hSw); go_simp; try (with_reducible rfl)
    try simp only [Act.put]
    refine tkH (v := ?_) 10 rfl ?_ ?_; rotate_left 1
    · intro wq hSw; (try dsimp only at hSw); go_simp; try (with_reducible rfl)
    try simp only [Act.put]
    refine tkH (v := ?_) 11 rfl ?_ ?_; rotate_left 1
    · intro wq hSw; (try dsimp only at hSw); go_simp; try (with_reducible rfl)
    try simp only [Act.put]
    refine tkH (v := ?_) 12 rfl ?_ ?_; rotate_left 1
    · intro wq hSw; (try dsimp only at hSw); go_simp; try (with_reducible rfl)
    try simp only [Act.put]
    refine tkH (v := ?_) 13 rfl ?_ ?_; rotate_left 1
    · intro wq hSw; (try dsimp only at hSw); go_simp; try (with_reducible rfl)
    try simp only [Act.put]
    refine wpAnyH_ready (rs := [14]) (by kernel_rfl) (by simp) ?_
    refine AllReadyH.cons (o := _) rfl (fun K hK => ?_) AllReadyH.nil
    go_simp
    refine hK.out _ _ ?_ (fun hHeld => ?_)
    · (try dsimp only); (try simp only [World.cell?_drew]); exact ⟨⟨c0, c1⟩, d0, d1⟩
    clear hK K
    try simp only [Act.put, sA4, sA5, sA6]
    refine wpAnyH_ready (rs := [15]) (by kernel_rfl) (by simp) ?_
    refine AllReadyH.cons (o := _) rfl (fun K hK => ?_) AllReadyH.nil
    go_simp
    refine (AD.out _).mono ?_; clear c0 c1 d0 d1 z0 zf zl; rintro e w5 ⟨r, HR, rfl, hb⟩; have HB5 : Hid (Below w0.heap.size w0 w5) := ext_trans (by repeat (first | exact Below.refl _ _ | apply Below.drew)) hb; obtain ⟨⟨c0, c1⟩, d0, d1⟩ := HP.out w5 HB5.out; obtain ⟨z0, zf, zl⟩ := HZ.out w5 HB5.out; clear hb; try go_wp2_with fail
    refine hK.out _ _ ?_ (fun hHeld => ?_)
    · (try dsimp only); (try simp only [World.cell?_drew]); exact ⟨⟨c0, c1⟩, d0, d1⟩
    clear hK K
    try simp only [Act.put, sA4, sA5, sA6]
    refine tkH (v := ?_) 16 rfl ?_ ?_; rotate_left 1
    · intro wq hSw; (try dsimp only at hSw); go_simp; try (with_reducible rfl)
    try simp only [Act.put, sA4]
    refine wpAnyH_ready (rs := [17]) (by kernel_rfl) (by simp) ?_
    refine AllReadyH.cons (o := _) rfl (fun K hK => ?_) AllReadyH.nil
    go_simp
    refine hK.out _ _ ?_ (fun hHeld => ?_)
    · (try dsimp only); simp only [cell_set_other hgn2, cell_set_other hgn3, cell_set_other hgn4]; exact ⟨⟨c0, c1⟩, d0, d1⟩
    clear hK K
    try simp only [Act.put, sA4, sA5, sA6]
    refine wpAnyH_ready (rs := [18]) (by kernel_rfl) (by simp) ?_
    refine AllReadyH.cons (o := _) rfl (fun K hK => ?_) AllReadyH.nil
    go_simp
    refine hK.out _ _ ?_ (fun hHeld => ?_)
    · (try dsimp only); simp only [cell_set_other hgn2, cell_set_other hgn3, cell_set_other hgn4]; exact ⟨⟨c0, c1⟩, d0, d1⟩
    clear hK K
    try simp only [Act.put, sA4, sA5, sA6]
    refine wpAnyH_done (by kernel_rfl) ?_ _
    go_wp2_with fail
    have HRO : Rs.Ok r := by rw [HR.out]; exact spn_ok _ _
    obtain ⟨p1, p2⟩ := (HK3.out.ext HB5.out).put (⟨some ⟨bl, ol + px, none⟩, en - px, en - px, (px : Int), r, HRO⟩ : It)
    have FB := hidIt (below_put (ext_trans HB0.out HB5.out) (ext_trans HB0.out HB5.out).size p2 (by omega))
    exact bodyPost_ret (v := .tuple #[.agg #[.slice (some ⟨bl, ol + px, none⟩) (en - px) (en - px), .int .i64 (px : Nat), .int .i64 r.a, .int .i64 r.s, .int .i64 r.b, .bool r.lf, .bool r.cr], .bool true]) (by simp [results, Tryz.results122, go_sem, z0]) rfl ⟨⟨some ⟨bl, ol + px, none⟩, en - px, en - px, (px : Int), r, HRO⟩, true, rfl, fun _ => ⟨⟨TWO.out.2.1, ⟨_, _, rfl, TWO.out.1.2.ext FB.out⟩, TWO.out.2.2.1.symm, TWO.out.2.2.1.symm, HR.out, .inr TWO.out.1.1⟩, by rw [ctn_app enc _ _ _ (by omega), show tg (px : Int) (ln enc g : Nat) = (px : Int) + n by unfold tg; rw [if_neg (by omega), HN.out]]⟩, FB.out⟩
  · have hab : (yl == xl + n) = false := by simp [hadj]
    go_wp2_with fail
    exact bodyPost_ret (v := .tuple #[.agg #[.slice It.zero.p It.zero.n It.zero.c, .int .i64 It.zero.pl, .int .i64 It.zero.sp.a, .int .i64 It.zero.sp.s, .int .i64 It.zero.sp.b, .bool It.zero.sp.lf, .bool It.zero.sp.cr], .bool false]) (by simp [results, Tryz.results122, go_sem, z0, It.zero, Rs.zero]) rfl (HNO.out w0 (Below.refl _ _))
end Go.Proofs.YtbmelpjmpomfcaaGreat.P

namespace Go.Proofs.YtbmelpjmpomfcaaGreat
open Go.RowKit
section
variable {P : Program} (w : World)

theorem run_append_blk (base : Nat) (t ty e : TypeId) (i : TypeInfo) (z : Value) (size bytes : Nat) (ht : P.underlying t = some (.slice e)) (hi : P.info? e = some i) (hz : i.zero = some z)
    (hsize : i.size = size) (hby : i.bytes = bytes) (hzs : z.cells.size = size) (hsz : 0 < size)
    (v : Value) (n : Nat) (xs : List Value) (hown : w.ownsRow base e size v n xs)
    (a : Addr) (m c : Nat) (news : List Value) (hl : news.length = m * size) (hnews : ∀ j u, news[j]? = some u → w.cell? (a.add j) = some u) (h1 : ∀ u ∈ news, u.oneCell' = true)
    (h63 : n + m ≤ maxLen) (hbytes : (n + m) * bytes ≤ 140737488355328) (hbase : base ≤ w.heap.size) (hm : 0 < m) :
    ∃ v' w', (Builtin.append_ #[t, t] ty #[v, .slice (some a) m c]).run P w = .ok v' w' ∧ w'.ownsRow base e size v' (n + m) (xs ++ news) ∧ w.grownBy w' v.ownBlock ∧
      (v'.ownBlock = v.ownBlock ∨ v'.ownBlock = some w.heap.size) := by
  obtain ⟨v', w', hr, h2, h3, _⟩ := run_append_own (P := P) w base t ty e i z size bytes ht hi hz hsize hby hzs hsz v n xs hown a m c news hl hnews h1 h63 hbytes hbase
  refine ⟨v', w', hr, h2, h3, ?_⟩
  subst hsize
  subst hby
  have hsmall : n + m ≤ 9223372036854775807 := by simp only [maxLen] at h63; omega
  rcases hown.2 with ⟨rfl, rfl⟩ | ⟨g, cap, cur, rfl, hbg, hg, hnc, hcm, hcs, htake⟩
  · have h := run_append_nil (P := P) w t ty e i z ht hi hz a m c news hl hnews hm (by omega) (by simp only [Nat.zero_add] at hbytes; omega)
    rw [h] at hr
    cases hr
    exact .inr rfl
  · by_cases hroom : n + m ≤ cap
    · have hfit : n * i.size + news.length ≤ cur.size := by rw [hl, hcs, ← Nat.add_mul]; exact Nat.mul_le_mul_right _ hroom
      have h := run_append_room (P := P) w t ty e i ht hi g n cap cur hg a m c news hl hnews h1 hroom hfit
      rw [h] at hr
      cases hr
      exact .inl rfl
    · have holds : ∀ j u, xs[j]? = some u → w.cell? ((⟨g, 0, none⟩ : Addr).add j) = some u := hown.cells (g := g) rfl
      have h := run_append_grow (P := P) w t ty e i z ht hi hz ⟨g, 0, none⟩ n cap xs hown.1 holds a m c news hl hnews (by omega) (by omega) (growslice_fits (by omega) hbytes)
      rw [h] at hr
      cases hr
      exact .inr rfl

theorem wpList_append_blk {ops : Array Oper} {rest : List Oper} {o : Oper} {a : Act} {Q : Exit → Act → World → Prop} (hgd : o.guard = none) (s x : Operand) (t : TypeId)
    (ho : o.op = .call { callee := .builtin .append, args := #[s, x], argTypes := #[t, t] })
    (base : Nat) (e : TypeId) (i : TypeInfo) (z : Value) (size bytes : Nat) (ht : P.underlying t = some (.slice e)) (hi : P.info? e = some i) (hz : i.zero = some z)
    (hsize : i.size = size) (hby : i.bytes = bytes) (hzs : z.cells.size = size) (hsz : 0 < size)
    (v : Value) (n : Nat) (xs : List Value) (hs : a.eval s = v) (hown : w.ownsRow base e size v n xs)
    (ad : Addr) (m c : Nat) (news : List Value) (hx : a.eval x = .slice (some ad) m c) (hl : news.length = m * size) (hnews : ∀ j u, news[j]? = some u → w.cell? (ad.add j) = some u) (h1 : ∀ u ∈ news, u.oneCell' = true)
    (h63 : n + m ≤ maxLen) (hbytes : (n + m) * bytes ≤ 140737488355328) (hbase : base ≤ w.heap.size) (hm : 0 < m)
    (h : ∀ v' w', w'.ownsRow base e size v' (n + m) (xs ++ news) → w.grownBy w' v.ownBlock → (v'.ownBlock = v.ownBlock ∨ v'.ownBlock = some w.heap.size) → wpList P ops Q rest (a.put o.dst v') w') : wpList P ops Q (o :: rest) a w :=
  wpList_plain hgd fun K hK => by
    obtain ⟨v', w', hr, h2, h3, h4⟩ := run_append_blk (P := P) w base t o.type e i z size bytes ht hi hz hsize hby hzs hsz v n xs hown ad m c news hl hnews h1 h63 hbytes hbase hm
    unfold Oper.wp execOp
    simp only [ho, resolve, invoke, builtin, Sem.run_bind, Sem.run_pure, Result.andThen_ok, List.map_toArray, List.map_cons, List.map_nil, hs, hx, hr]
    exact hK _ _ (h v' w' h2 h3 h4)
end
end Go.Proofs.YtbmelpjmpomfcaaGreat

namespace Go.Proofs.YtbmelpjmpomfcaaGreat.P
open Go.RowKit

def OldR (w : World) (bo : Nat) (v : Value) (xs : List It) : Prop :=
  (xs = [] ∧ ∃ p c, v = .slice p 0 c) ∨ ∃ o c, v = .slice (some ⟨bo, o, none⟩) xs.length c ∧ xs.length ≤ c ∧ c ≤ 9223372036854775807 ∧ RwP w bo o xs
theorem OldR.same {w w' : World} {bo : Nat} {v : Value} {xs : List It} (h : OldR w bo v xs) (hb : w'.heap[bo]? = w.heap[bo]?) : OldR w' bo v xs := by
  rcases h with h | ⟨o, c, h1, h2, h3, h4⟩
  · exact .inl h
  · exact .inr ⟨o, c, h1, h2, h3, h4.same hb⟩
def ow (g bo : Nat) (vm : Value) (k : Nat) : Prop := k = g ∨ k = bo ∨ vm.ownBlock = some k
structure Wr (enc : Int) (L : List Int) (g bo : Nat) (w : World) (lv vo vm : Value) (os ms : List PG) : Prop where
  blk : w.heap[g]? = some (.cells #[.int .i64 enc, lv, vo, vm] 168 (0, 0))
  ld : LdR w lv L
  old : OldR w bo vo (xsOf os)
  made : OwnR w 0 122 vm (xsOf ms)
  po : Pcs enc L w os
  pm : Pcs enc L w ms
  bl : bo < w.heap.size
  nb : vm.ownBlock ≠ some bo
  nu : ¬ Typ 5 w bo
theorem OwnR.typ {w : World} {base : Nat} {v : Value} {xs : List It} (h : OwnR w base 122 v xs) {k : Nat} (hk : v.ownBlock = some k) : Typ 122 w k := by
  rcases h.2 with ⟨rfl, _⟩ | ⟨g, cap, cur, rfl, hb, hg, _⟩
  · simp [Value.ownBlock] at hk
  · simp [Value.ownBlock] at hk
    subst hk
    exact ⟨_, hg⟩
section
variable {enc : Int} {L : List Int} {g bo : Nat} {w : World} {lv vo vm : Value} {os ms : List PG}
theorem Wr.typ (h : Wr enc L g bo w lv vo vm os ms) : Typ 168 w g := ⟨_, h.blk⟩
theorem Wr.lt (h : Wr enc L g bo w lv vo vm os ms) : g < w.heap.size := h.typ.lt
theorem Wr.own_nu (h : Wr enc L g bo w lv vo vm os ms) {k : Nat} (hk : ow g bo vm k) : ¬ Typ 5 w k := by
  rcases hk with rfl | rfl | hk
  · exact fun e => absurd (e.uniq h.typ) (by decide)
  · exact h.nu
  · exact fun e => absurd (e.uniq (h.made.typ hk)) (by decide)
theorem Wr.own_lt (h : Wr enc L g bo w lv vo vm os ms) {k : Nat} (hk : ow g bo vm k) : k < w.heap.size := by
  rcases hk with rfl | rfl | hk
  · exact h.lt
  · exact h.bl
  · exact (h.made.typ hk).lt
theorem Wr.ng (h : Wr enc L g bo w lv vo vm os ms) : vm.ownBlock ≠ some g := fun e => absurd ((h.made.typ e).uniq h.typ) (by decide)
theorem Wr.kps {own : Nat → Prop} {w' : World} (h : Wr enc L g bo w lv vo vm os ms) (hk : Kps own w w') (ho : ∀ k, own k → k < w.heap.size → ¬ ow g bo vm k ∧ ¬ Typ 5 w k) : Wr enc L g bo w' lv vo vm os ms := by
  have hu : ∀ b, Typ 5 w b → w'.heap[b]? = w.heap[b]? := fun b hb => hk.same b hb.lt (fun e => (ho b e hb.lt).2 hb)
  have hs : ∀ k, ow g bo vm k → w'.heap[k]? = w.heap[k]? := fun k hk' => hk.same k (h.own_lt hk') (fun e => (ho k e (h.own_lt hk')).1 hk')
  refine ⟨by rw [hs g (.inl rfl)]; exact h.blk, h.ld.same hu, h.old.same (hs bo (.inr (.inl rfl))), ?_, h.po.same hu, h.pm.same hu, Nat.lt_of_lt_of_le h.bl hk.size, h.nb, fun ⟨cs, e⟩ => h.nu ⟨cs, by rw [← hs bo (.inr (.inl rfl))]; exact e⟩⟩
  obtain ⟨h1, h2⟩ := h.made
  refine ⟨h1, ?_⟩
  rcases h2 with h2 | ⟨k, cap, cur, rfl, hb, hg, r⟩
  · exact .inl h2
  · exact .inr ⟨k, cap, cur, rfl, hb, by rw [hs k (.inr (.inr (by simp [Value.ownBlock])))]; exact hg, r⟩
theorem Wr.ext {w' : World} (h : Wr enc L g bo w lv vo vm os ms) (hb : Below w.heap.size w w') : Wr enc L g bo w' lv vo vm os ms := h.kps (Kps.of_below (fun _ => False) hb) fun _ e => e.elim
theorem Wr.other {w' : World} {k : Nat} (h : Wr enc L g bo w lv vo vm os ms) (hg : w.grownBy w' (some k)) (h1 : ¬ ow g bo vm k) (h2 : ¬ Typ 5 w k) : Wr enc L g bo w' lv vo vm os ms :=
  h.kps (own := fun j => j = k) (Kps.grown hg fun j e _ => (Option.some.inj e).symm) fun j e _ => by subst e; exact ⟨h1, h2⟩
theorem Wr.cells (h : Wr enc L g bo w lv vo vm os ms) : (w.cell? ⟨g, 0, none⟩ = some (.int .i64 enc) ∧ w.cell? ⟨g, 1, none⟩ = some lv ∧ w.cell? ⟨g, 2, none⟩ = some vo ∧ w.cell? ⟨g, 3, none⟩ = some vm) ∧ ∀ i, w.frozen? ⟨g, i, none⟩ = false := by
  refine ⟨⟨?_, ?_, ?_, ?_⟩, fun i => by simp [World.frozen?, h.blk]⟩ <;> (rw [cell_of_row w g _ _ _ _ h.blk]; rfl)
theorem u8_kept {own : Nat → Prop} {w' : World} (hk : Kps own w w') (ho : ∀ k, own k → ¬ Typ 5 w k) : ∀ b, Typ 5 w b → w'.heap[b]? = w.heap[b]? := fun b hb => hk.same b hb.lt (fun e => ho b e hb)
theorem kps_put {k : Nat} {w' : World} (hg : w.grownBy w' (some k)) (ho : ow g bo vm k) : Kps (ow g bo vm) w w' := Kps.grown hg fun j e _ => by cases e; exact ho
theorem Wr.adv {q : PG} {vo' : Value} (h : Wr enc L g bo w lv vo vm (q :: os) ms) (ho : OldR w bo vo' (xsOf os)) :
    Wr enc L g bo (w.setCell ⟨g, 2, none⟩ vo') lv vo' vm os ms ∧ Kps (ow g bo vm) w (w.setCell ⟨g, 2, none⟩ vo') := by
  obtain ⟨p1, p2⟩ := set1 h.blk 2 vo'
  have hk : Kps (ow g bo vm) w (w.setCell ⟨g, 2, none⟩ vo') := kps_put p2 (.inl rfl)
  have hu := u8_kept hk (fun k => h.own_nu)
  have hbg : bo = g ∨ bo ≠ g := Nat.eq_or_lt_of_le (Nat.le_refl bo) |>.elim (fun _ => Decidable.em _) (fun _ => Decidable.em _)
  refine ⟨⟨p1, h.ld.same hu, ?_, World.ownsRow.kept h.made p2 (.inr h.ng), fun r hr => (h.po r (List.mem_cons_of_mem _ hr)).same hu, h.pm.same hu, Nat.lt_of_lt_of_le h.bl p2.size, h.nb, ?_⟩, hk⟩
  · rcases ho with e | ⟨o, c, e1, e2, e3, e4⟩
    · exact .inl e
    · have hne : bo ≠ g := fun e => by subst e; exact absurd (e4.typ.uniq h.typ) (by decide)
      exact .inr ⟨o, c, e1, e2, e3, e4.same (p2.block bo h.bl (by simpa using hne))⟩
  · rintro ⟨cs, e⟩
    rcases hbg with rfl | hne
    · rw [p1] at e; simp only [Option.some.injEq, Obj.cells.injEq] at e; exact absurd e.2.1 (by decide)
    · rw [p2.block bo h.bl (by simpa using hne)] at e; exact h.nu ⟨cs, e⟩
theorem Wr.rep {q : PG} {o n c : Nat} (h : Wr enc L g bo w lv (.slice (some ⟨bo, o, none⟩) n c) vm (q :: os) ms) (y : It) (gy : List Int) (hy : Pc enc L w y gy) :
    let w' := (((((((w.setCell ⟨bo, o + 0 * 7, none⟩ (.slice y.p y.n y.c)).setCell ⟨bo, o + 0 * 7 + 1, none⟩ (.int .i64 y.pl)).setCell ⟨bo, o + 0 * 7 + 2, none⟩ (.int .i64 y.sp.a)).setCell ⟨bo, o + 0 * 7 + 3, none⟩ (.int .i64 y.sp.s)).setCell ⟨bo, o + 0 * 7 + 4, none⟩ (.int .i64 y.sp.b)).setCell ⟨bo, o + 0 * 7 + 5, none⟩ (.bool y.sp.lf)).setCell ⟨bo, o + 0 * 7 + 6, none⟩ (.bool y.sp.cr))
    Wr enc L g bo w' lv (.slice (some ⟨bo, o, none⟩) n c) vm ((y, gy) :: os) ms ∧ Kps (ow g bo vm) w w' := by
  rcases h.old with ⟨e, _⟩ | ⟨o', c', e1, e2, e3, e4⟩
  · exact absurd e (by simp [xsOf])
  simp only [Value.slice.injEq, Option.some.injEq, Addr.mk.injEq] at e1
  obtain ⟨⟨_, ho, _⟩, hn, hc⟩ := e1
  subst ho
  subst hc
  obtain ⟨p1, p2⟩ := e4.put 0 (by simp [xsOf]) y
  have hk := kps_put (g := g) (bo := bo) (vm := vm) p2 (.inr (.inl rfl))
  have hu := u8_kept hk (fun k => h.own_nu)
  have hne : g ≠ bo := fun e => by subst e; exact absurd (e4.typ.uniq h.typ) (by decide)
  refine ⟨⟨by rw [p2.block g h.lt (by simpa using hne)]; exact h.blk, h.ld.same hu, .inr ⟨o, c, ?_, ?_, e3, ?_⟩, World.ownsRow.kept h.made p2 (.inr h.nb), ?_, h.pm.same hu, Nat.lt_of_lt_of_le h.bl p2.size, h.nb, fun e => absurd (e.uniq p1.typ) (by decide)⟩, hk⟩
  · rw [hn, xsOf_len, xsOf_len]; rfl
  · rw [xsOf_len] at e2 ⊢; exact e2
  · exact p1
  · intro r hr
    rcases List.mem_cons.1 hr with rfl | hr
    · exact hy.same hu
    · exact (h.po r (List.mem_cons_of_mem _ hr)).same hu
theorem Wr.last {k c : Nat} {q : PG} (h : Wr enc L g bo w lv vo (.slice (some ⟨k, 0, none⟩) (ms ++ [q]).length c) os (ms ++ [q])) (y : It) (gy : List Int) (hy : Pc enc L w y gy) :
    let w' := (((((((w.setCell ⟨k, 0 + ms.length * 7, none⟩ (.slice y.p y.n y.c)).setCell ⟨k, 0 + ms.length * 7 + 1, none⟩ (.int .i64 y.pl)).setCell ⟨k, 0 + ms.length * 7 + 2, none⟩ (.int .i64 y.sp.a)).setCell ⟨k, 0 + ms.length * 7 + 3, none⟩ (.int .i64 y.sp.s)).setCell ⟨k, 0 + ms.length * 7 + 4, none⟩ (.int .i64 y.sp.b)).setCell ⟨k, 0 + ms.length * 7 + 5, none⟩ (.bool y.sp.lf)).setCell ⟨k, 0 + ms.length * 7 + 6, none⟩ (.bool y.sp.cr))
    Wr enc L g bo w' lv vo (.slice (some ⟨k, 0, none⟩) (ms ++ [q]).length c) os (ms ++ [(y, gy)]) ∧ Kps (ow g bo (.slice (some ⟨k, 0, none⟩) (ms ++ [q]).length c)) w w' := by
  have hm := h.made
  rw [← xsOf_len] at hm
  obtain ⟨p1, p2⟩ := OwnR.set hm ms.length (by rw [xsOf_len]; simp) y
  have hk := kps_put (g := g) (bo := bo) (vm := .slice (some ⟨k, 0, none⟩) (ms ++ [q]).length c) p2 (.inr (.inr rfl))
  have hu := u8_kept hk (fun k => h.own_nu)
  have hne : g ≠ k := fun e => by subst e; exact h.ng rfl
  have hnb : bo ≠ k := fun e => by subst e; exact h.nb rfl
  refine ⟨⟨by rw [p2.block g h.lt (by simpa using hne)]; exact h.blk, h.ld.same hu, h.old.same (p2.block bo h.bl (by simpa using hnb)), ?_, h.po.same hu, ?_, Nat.lt_of_lt_of_le h.bl p2.size, h.nb, ?_⟩, hk⟩
  · have e : (xsOf (ms ++ [q])).set ms.length y = xsOf (ms ++ [(y, gy)]) := by
      rw [xsOf_app, xsOf_app, List.set_append_right _ _ (by rw [xsOf_len]; exact Nat.le_refl _), xsOf_len, Nat.sub_self]
      rfl
    rw [e, xsOf_len] at p1
    exact p1
  · intro r hr
    rcases List.mem_append.1 hr with hr | hr
    · exact (h.pm r (List.mem_append_left _ hr)).same hu
    · rw [List.mem_singleton] at hr; subst hr; exact hy.same hu
  · rintro ⟨cs, e⟩
    rw [p2.block bo h.bl (by simpa using hnb)] at e
    exact h.nu ⟨cs, e⟩
theorem Wr.push {w1 : World} {vm' : Value} {y : It} {gy : List Int} (h : Wr enc L g bo w lv vo vm os ms) (hy : Pc enc L w y gy) (hown : OwnR w1 0 122 vm' (xsOf ms ++ [y])) (hg : w.grownBy w1 vm.ownBlock) (hb : vm'.ownBlock = vm.ownBlock ∨ vm'.ownBlock = some w.heap.size) :
    Wr enc L g bo (w1.setCell ⟨g, 3, none⟩ vm') lv vo vm' os (ms ++ [(y, gy)]) ∧ Kps (ow g bo vm) w (w1.setCell ⟨g, 3, none⟩ vm') := by
  have k1 : Kps (ow g bo vm) w w1 := Kps.grown hg fun j e _ => .inr (.inr e)
  have hgb : w1.heap[g]? = some (.cells #[.int .i64 enc, lv, vo, vm] 168 (0, 0)) := by rw [hg.block g h.lt (fun e => h.ng e.symm)]; exact h.blk
  obtain ⟨p1, p2⟩ := set1 hgb 3 vm'
  have hk : Kps (ow g bo vm) w (w1.setCell ⟨g, 3, none⟩ vm') := k1.trans (kps_put p2 (.inl rfl)) fun i _ e => e
  have hu := u8_kept hk (fun k => h.own_nu)
  have hng : vm'.ownBlock ≠ some g := fun e => by
    rcases hb with e1 | e1
    · exact h.ng (e1 ▸ e)
    · rw [e1] at e; have := h.lt; cases e; omega
  have hnb : vm'.ownBlock ≠ some bo := fun e => by
    rcases hb with e1 | e1
    · exact h.nb (e1 ▸ e)
    · rw [e1] at e; have := h.bl; cases e; omega
  have hob : w1.heap[bo]? = w.heap[bo]? := hg.block bo h.bl (fun e => h.nb e.symm)
  refine ⟨⟨p1, h.ld.same hu, ?_, ?_, h.po.same hu, ?_, Nat.lt_of_lt_of_le h.bl hk.size, hnb, ?_⟩, hk⟩
  · rcases h.old with e | ⟨o, c, e1, e2, e3, e4⟩
    · exact .inl e
    · have hne : bo ≠ g := fun e => by subst e; exact absurd (e4.typ.uniq h.typ) (by decide)
      exact .inr ⟨o, c, e1, e2, e3, e4.same ((p2.block bo (Nat.lt_of_lt_of_le h.bl hg.size) (by simpa using hne)).trans hob)⟩
  · have := World.ownsRow.kept hown p2 (.inr hng)
    unfold OwnR
    rw [xsOf_app]
    exact this
  · intro r hr
    rcases List.mem_append.1 hr with hr | hr
    · exact (h.pm r hr).same hu
    · rw [List.mem_singleton] at hr; subst hr; exact hy.same hu
  · rintro ⟨cs, e⟩
    by_cases hne : bo = g
    · subst hne; rw [p1] at e; simp only [Option.some.injEq, Obj.cells.injEq] at e; exact absurd e.2.1 (by decide)
    · rw [p2.block bo (Nat.lt_of_lt_of_le h.bl hg.size) (by simpa using hne), hob] at e; exact h.nu ⟨cs, e⟩
end
end Go.Proofs.YtbmelpjmpomfcaaGreat.P
