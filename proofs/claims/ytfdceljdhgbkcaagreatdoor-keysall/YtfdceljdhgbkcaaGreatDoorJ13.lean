import Derived.Test.YtfdceljdhgbkcaaGreatDoorJ12
import Derived.Test.YtfdceljdhgbkcaaGreatDoorJ10
/- filled: a trie of bindings is filled when it is first asked. -/
namespace Go.Proofs.YtfdceljdhgbkcaaGreatDoor
open Go.RowKit
/-- The rows, put one behind the other. -/
def putR (L : List (List Int × Bd)) (r : Rw) : List (List Int × Bd) := if can L r.ks = true then L ++ [(r.ks, r.b)] else L
def fil (rs : List Rw) : List (List Int × Bd) := rs.foldl putR []
theorem fil_succ (rs : List Rw) (i : Nat) (h : i < rs.length) : fil (rs.take (i + 1)) = putR (fil (rs.take i)) rs[i] := by
  unfold fil
  rw [List.take_succ_eq_append_getElem h, List.foldl_append]
  rfl
theorem set4 (cs : Array Value) (o : Nat) (m s m' s' : Value) : ((((cs.setIfInBounds o m).setIfInBounds (o + 1) s).setIfInBounds o m').setIfInBounds (o + 1) s') = (cs.setIfInBounds o m').setIfInBounds (o + 1) s' := by
  apply Array.ext_getElem?
  intro j
  by_cases h1 : j = o + 1
  · subst h1
    simp [Array.getElem?_setIfInBounds]
  · have h1' : ¬ o + 1 = j := fun e => h1 e.symm
    by_cases h2 : j = o
    · subst h2
      simp [Array.getElem?_setIfInBounds]
    · have h2' : ¬ o = j := fun e => h2 e.symm
      simp [h1', h2']
theorem get_o {cs : Array Value} {o : Nat} (h : o + 1 < cs.size) (m s : Value) : ((cs.setIfInBounds o m).setIfInBounds (o + 1) s)[o]? = some m ∧ ((cs.setIfInBounds o m).setIfInBounds (o + 1) s)[o + 1]? = some s := by
  constructor
  · rw [Array.getElem?_setIfInBounds_ne (by omega), Array.getElem?_setIfInBounds_self_of_lt (by omega)]
  · rw [Array.getElem?_setIfInBounds_self_of_lt (by simpa using h)]
/-- A trie at two cells of a parser's block. -/
def Fl (w w' : World) (b o : Nat) (cs : Array Value) (L : List (List Int × Bd)) (N : Nat) : Prop :=
  ∃ own m s ns vs, w'.heap[b]? = some (.cells ((cs.setIfInBounds o m).setIfInBounds (o + 1) s) 52 (0, 0)) ∧ TeB w' own N ns vs m s ∧ Tri ns vs L ∧ ns.length ≤ N ∧ (∀ k, own k → w.heap.size ≤ k ∧ k < w'.heap.size) ∧ Kps (fun k => k = b) w w'
theorem KI.kps {w w' : World} {v : Value} {ks : List Int} {b : Nat} {cs : Array Value} (h : KI w v ks) (hk : Kps (fun k => k = b) w w') (hb : w.heap[b]? = some (.cells cs 52 (0, 0))) : KI w' v ks := by
  obtain ⟨⟨⟨ao, cap, hv, q1, q2, q3⟩, hs⟩, hty⟩ := h
  have hne : ∀ a n c, v = .slice (some a) n c → w'.heap[a.block]? = w.heap[a.block]? := fun a n c e => by
    obtain ⟨cur, r, h3⟩ := hty a n c e
    refine hk.same _ (Array.getElem?_eq_some_iff.1 h3).1 (fun e2 => ?_)
    rw [e2, hb] at h3
    injection h3 with h3
    injection h3 with _ h4
    exact absurd h4 (by decide)
  refine ⟨⟨⟨ao, cap, hv, q1, q2, fun hn => ?_⟩, hs⟩, fun a n c e => ?_⟩
  · obtain ⟨b', off, e1, hb1, hc1⟩ := q3 hn
    refine ⟨b', off, e1, Nat.lt_of_lt_of_le hb1 hk.size, fun i hi => ?_⟩
    rw [← hc1 i hi]
    unfold World.cell?
    have := hne ⟨b', off, none⟩ _ _ (by rw [hv, e1])
    simp only at this
    simp only [this]
  · obtain ⟨cur, r, h3⟩ := hty a n c e
    exact ⟨cur, r, (hne a n c e).trans h3⟩
theorem rowsN : ∀ r ∈ tNor, r.ks.length ≤ 2 ∧ ∀ k ∈ r.ks, 0 ≤ k ∧ k ≤ 127 := by decide
theorem lenN : (tNor).length ≤ 200 := by decide
set_option maxRecDepth 100000 in
set_option maxHeartbeats 4000000 in
theorem filledN_new (b o : Nat) (cs : Array Value) (w : World) (hb : w.heap[b]? = some (.cells cs 52 (0, 0))) (hm : cs[o]? = some (.map none)) (hs : cs[o + 1]? = some (.slice none 0 0)) :
    Calls Tryz.prog 61 #[.pointer (some ⟨b, o, none⟩), .func (.func 49) #[] #[]] w fun e w' => e = .returned (.pointer (some ⟨b, o, none⟩)) ∧ Fl w w' b o cs (fil tNor) 1000 := by
  have hos : o + 1 < cs.size := (Array.getElem?_eq_some_iff.1 hs).1
  have hbl : b < w.heap.size := (Array.getElem?_eq_some_iff.1 hb).1
  have HLK := hidIt (lookB_any b o 52 cs w (.map none) (.slice none 0 0) (fun _ => False) 0 [] [] [] (.slice none 0 0) [] hb hm hs (TeB.empty _ _ _) Tri.empty (by simp) (OwnI.nil w 0).rd (fun k hk => by cases hk))
  have HBK := hidIt hb
  have HM := hidIt hm
  have HS := hidIt hs
  clear hb hm hs
  go_enter Tryz.func61, Tryz.ntmps61
  go_upto_region 3 with (go_at_call 60; refine HLK.out.mono ?_; rintro e y1 ⟨rfl, hy1⟩; (try simp only [lkV, lkS, List.find?_nil, List.any_nil, Option.map_none, vlB]); (try dsimp only); have HY1 := hidIt hy1; clear hy1)
  generalize hyA : World.alloc y1 _ = yA
  have HYA : Hid (Below w.heap.size w yA) := by unfold Hid; rw [← hyA]; exact ext_alloc HY1.out _
  clear hyA HY1 HLK
  go_wp2_with (go_at_call 49; refine (normalRows_any _).mono ?_; rintro e y2 ⟨v2, xs, rfl, ho2, hm2, hb2⟩; (try dsimp only); obtain ⟨a2, n2, c2, e2⟩ := ho2.form; subst e2; have HO2 := hidIt ho2; have HM2 := hidIt (show xs.map Prod.fst = tNor from hm2); have HY2 := hidIt (ext_trans HYA.out hb2); clear ho2 hm2 hb2)
  have hxl : xs.length = (tNor).length := by have := congrArg List.length HM2.out; rwa [List.length_map] at this
  have hx200 : xs.length ≤ 200 := by rw [hxl]; exact lenN
  obtain ⟨⟨ra, rc, rv, r1, r2, r3⟩, racc, _⟩ := HO2.out.rd
  injection rv with ea en ec
  subst ea en ec
  have HB2 : Hid (y2.heap[b]? = some (.cells cs 52 (0, 0))) := (HY2.out.block b hbl).trans HBK.out
  have HR3 : Hid (∀ wr, Kps (fun k => k = b) y2 wr → ∀ j u, (fr xs)[j]? = some u → ∃ g, a2 = some ⟨g, 0, none⟩ ∧ wr.cell? ⟨g, j, none⟩ = some u) := fun wr hkp j u hj => by
    rcases HO2.out.1.2 with ⟨e, hn⟩ | ⟨g, cap, cur, e, hbg, hg, _⟩
    · rw [List.length_eq_zero_iff] at hn; subst hn; simp [fr] at hj
    · cases e
      refine ⟨g, rfl, ?_⟩
      obtain ⟨b', off, e1, _, k3⟩ := r3 (by intro e; subst e; simp [fr] at hj)
      cases e1
      have h1 := k3 j u hj
      rw [Nat.zero_add] at h1
      rw [← h1]
      unfold World.cell?
      simp only [hkp.same g (Array.getElem?_eq_some_iff.1 hg).1 (fun e => by have := HY2.out.size; have := HYA.out.size; subst e; omega)]
  have HACC := hidIt racc
  clear r3 racc
  go_wp2
  go_loopw [19] (fun i wr => ∃ (p : Nat) (own : Nat → Prop) (m s : Value) (ns : List (List Int)) (vs : List (Option Bd)), p ≤ xs.length ∧ i = .int .i64 p ∧ Hid (wr.heap[b]? = some (.cells ((cs.setIfInBounds o m).setIfInBounds (o + 1) s) 52 (0, 0)) ∧ TeB wr own (3 * p) ns vs m s ∧ Tri ns vs (fil ((tNor).take p)) ∧ ns.length ≤ 3 * p ∧ (∀ k, own k → y2.heap.size ≤ k ∧ k < wr.heap.size) ∧ Kps (fun k => k = b) y2 wr)) (fun i _ => xs.length - (RowKit.intOf i).toNat)
  case atStart => exact ⟨0, fun _ => False, .map none, .slice none 0 0, [], [], Nat.zero_le _, rfl, by rw [set_same HM.out HS.out]; exact HB2.out, TeB.empty _ _ _, Tri.empty, Nat.le_refl _, fun _ e => e.elim, Kps.refl _ _⟩
  case round =>
    obtain ⟨p, own, m, s, ns, vs, hp, rfl, HI⟩ := hrel
    by_cases hlt : p < xs.length
    · obtain ⟨i1, i2, i3, i4, i5, i6⟩ := HI.out
      have hT : p < (tNor).length := by rw [← hxl]; exact hlt
      have hrow : xs[p].1 = (tNor)[p] := by
        have : (xs.map Prod.fst)[p]? = (tNor)[p]? := by rw [HM2.out]
        rw [List.getElem?_map, List.getElem?_eq_getElem hlt, List.getElem?_eq_getElem hT] at this
        exact Option.some.inj this
      obtain ⟨hk2, hk127⟩ := rowsN _ (List.getElem_mem hT)
      rw [← hrow] at hk2 hk127
      have hfs := fil_succ tNor p hT
      rw [← hrow] at hfs
      have hki := (HACC.out xs[p] (List.getElem_mem hlt))
      have hat := fr_at xs p xs[p] (List.getElem?_eq_getElem hlt)
      have hi1 : (p : Int) < (xs.length : Int) := by omega
      obtain ⟨xa, xc, hxv⟩ : ∃ xa xc, xs[p].2 = .slice xa xs[p].1.ks.length xc := by obtain ⟨⟨ao, cap, e, _⟩, _⟩ := hki.1; exact ⟨ao, cap, e⟩
      generalize hxe : xs[p] = x at *
      obtain ⟨⟨⟨bv, bmv, ba, bt⟩, ks⟩, xv⟩ := x
      dsimp only at hxv hki hk2 hk127 hfs
      subst hxv
      obtain ⟨g, rfl, d0⟩ := HR3.out wr i6 _ _ ((hat 0 (by omega)).trans rfl)
      obtain ⟨g1, e1, d1⟩ := HR3.out wr i6 _ _ ((hat 1 (by omega)).trans rfl)
      cases e1
      obtain ⟨g2, e2, d2⟩ := HR3.out wr i6 _ _ ((hat 2 (by omega)).trans rfl)
      cases e2
      obtain ⟨g3, e3, d3⟩ := HR3.out wr i6 _ _ ((hat 3 (by omega)).trans rfl)
      cases e3
      obtain ⟨g4, e4, d4⟩ := HR3.out wr i6 _ _ ((hat 4 (by omega)).trans rfl)
      cases e4
      replace d0 : wr.cell? ⟨g, p * 5, none⟩ = some (.int .i64 bv) := d0
      replace d1 : wr.cell? ⟨g, p * 5 + 1, none⟩ = some (.int .i64 bmv) := d1
      replace d2 : wr.cell? ⟨g, p * 5 + 2, none⟩ = some (.int .i64 ba) := d2
      replace d3 : wr.cell? ⟨g, p * 5 + 3, none⟩ = some (.int .i64 bt) := d3
      replace d4 : wr.cell? ⟨g, p * 5 + 4, none⟩ = some (.slice xa ks.length xc) := d4
      have hz := HY2.out.size
      have hs6 := i6.size
      have HPT : Hid (∀ ob, Calls Tryz.prog 78 #[.pointer (some ⟨b, o, none⟩), .agg #[.int .i64 bv, .int .i64 bmv, .int .i64 ba, .int .i64 bt], .slice xa ks.length xc] (wr.alloc ob) fun e w' => (∃ q, e = .returned (.bool q)) ∧ ∃ own m s ns vs, Hid (w'.heap[b]? = some (.cells ((cs.setIfInBounds o m).setIfInBounds (o + 1) s) 52 (0, 0)) ∧ TeB w' own (3 * (p + 1)) ns vs m s ∧ Tri ns vs (fil ((tNor).take (p + 1))) ∧ ns.length ≤ 3 * (p + 1) ∧ (∀ k, own k → y2.heap.size ≤ k ∧ k < w'.heap.size) ∧ Kps (fun k => k = b) y2 w')) := fun ob => by
        have hba : Below wr.heap.size wr (wr.alloc ob) := ext_alloc (Below.refl _ _) _
        have hbb : b < wr.heap.size := (Array.getElem?_eq_some_iff.1 i1).1
        obtain ⟨q1, q2⟩ := get_o hos m s
        have kix := (hki.kps i6 HB2.out)
        refine (putB_any b o 52 _ (wr.alloc ob) m s own (3 * p) ns vs (fil ((tNor).take p)) (.slice xa ks.length xc) ks ⟨bv, bmv, ba, bt⟩ ((hba.block b hbb).trans i1) q1 q2 (i2.ext hba) i3 (by omega) (by omega) (kix.ext hba).1.1 (fun k hk => In64.of (by have := hk127 k hk; omega) (by have := hk127 k hk; omega)) (fun e => by have := (i5 b e).1; omega) (fun k hk => by have := (i5 k hk).2; have := hba.size; omega) (fun k off nn c e => ?_)).mono ?_
        · cases e
          obtain ⟨cur, r, h3⟩ := hki.2 _ _ _ rfl
          refine ⟨fun e2 => ?_, fun e2 => ?_⟩
          · subst e2
            have := HB2.out
            simp only at h3
            rw [this] at h3
            injection h3 with h3
            injection h3 with _ h4
            exact absurd h4 (by decide)
          · have h5 := (i5 k e2).1
            have h6 := (Array.getElem?_eq_some_iff.1 h3).1
            simp only at h6
            omega
        · rintro e w' ⟨rfl, m', s', own', ns', vs', g1, g2, g3, g4, g5, g6, g7⟩
          refine ⟨⟨_, rfl⟩, own', m', s', ns', vs', ?_, g2.mono (fun _ h => h) (by omega), ?_, by omega, fun k hk => ⟨?_, g7 k hk⟩, ?_⟩
          · rw [set4] at g1; exact g1
          · rw [hfs]; exact g3
          · rcases g6 k hk with h | h
            · exact (i5 k h).1
            · have := hba.size; omega
          · refine Kps.trans (Kps.trans i6 (Kps.of_below (fun _ => False) hba) (fun _ _ e => e.elim)) g5 (fun k hk e => ?_)
            rcases e with e | e
            · exact e
            · have := (i5 k e).1; omega
      have HLT := hidIt hlt
      clear HI i1 i2 i3 i4 i5 i6 hki hat hxe hfs hk2 hk127 hrow hT
      go_wp2_with (go_at_call 78; refine (HPT.out _).mono ?_; rintro e y3 ⟨⟨q, rfl⟩, own3, m3, s3, ns3, vs3, H3⟩; (try dsimp only))
      go_roundw
      case rel => exact ⟨p + 1, own3, m3, s3, ns3, vs3, by have := HLT.out; omega, by go_num, H3⟩
      case measure => have := HLT.out; simp [RowKit.intOf]; omega
    · obtain rfl : p = xs.length := by omega
      go_wp2
      go_ret
      obtain ⟨i1, i2, i3, i4, i5, i6⟩ := HI.out
      rw [hxl, List.take_length] at i3
      have hz := HY2.out.size
      exact ⟨rfl, own, m, s, ns, vs, i1, i2.mono (fun _ h => h) (by omega), i3, by omega, fun k hk => ⟨by have := (i5 k hk).1; omega, (i5 k hk).2⟩, Kps.trans (Kps.of_below _ HY2.out) i6 (fun _ _ e => e)⟩
theorem rowsS : ∀ r ∈ tSln, r.ks.length ≤ 2 ∧ ∀ k ∈ r.ks, 0 ≤ k ∧ k ≤ 127 := by decide
theorem lenS : (tSln).length ≤ 200 := by decide
set_option maxRecDepth 100000 in
set_option maxHeartbeats 4000000 in
theorem filledS_new (b o : Nat) (cs : Array Value) (w : World) (hb : w.heap[b]? = some (.cells cs 52 (0, 0))) (hm : cs[o]? = some (.map none)) (hs : cs[o + 1]? = some (.slice none 0 0)) :
    Calls Tryz.prog 61 #[.pointer (some ⟨b, o, none⟩), .func (.func 50) #[] #[]] w fun e w' => e = .returned (.pointer (some ⟨b, o, none⟩)) ∧ Fl w w' b o cs (fil tSln) 1000 := by
  have hos : o + 1 < cs.size := (Array.getElem?_eq_some_iff.1 hs).1
  have hbl : b < w.heap.size := (Array.getElem?_eq_some_iff.1 hb).1
  have HLK := hidIt (lookB_any b o 52 cs w (.map none) (.slice none 0 0) (fun _ => False) 0 [] [] [] (.slice none 0 0) [] hb hm hs (TeB.empty _ _ _) Tri.empty (by simp) (OwnI.nil w 0).rd (fun k hk => by cases hk))
  have HBK := hidIt hb
  have HM := hidIt hm
  have HS := hidIt hs
  clear hb hm hs
  go_enter Tryz.func61, Tryz.ntmps61
  go_upto_region 3 with (go_at_call 60; refine HLK.out.mono ?_; rintro e y1 ⟨rfl, hy1⟩; (try simp only [lkV, lkS, List.find?_nil, List.any_nil, Option.map_none, vlB]); (try dsimp only); have HY1 := hidIt hy1; clear hy1)
  generalize hyA : World.alloc y1 _ = yA
  have HYA : Hid (Below w.heap.size w yA) := by unfold Hid; rw [← hyA]; exact ext_alloc HY1.out _
  clear hyA HY1 HLK
  go_wp2_with (go_at_call 50; refine (selectionRows_any _).mono ?_; rintro e y2 ⟨v2, xs, rfl, ho2, hm2, hb2⟩; (try dsimp only); obtain ⟨a2, n2, c2, e2⟩ := ho2.form; subst e2; have HO2 := hidIt ho2; have HM2 := hidIt (show xs.map Prod.fst = tSln from hm2); have HY2 := hidIt (ext_trans HYA.out hb2); clear ho2 hm2 hb2)
  have hxl : xs.length = (tSln).length := by have := congrArg List.length HM2.out; rwa [List.length_map] at this
  have hx200 : xs.length ≤ 200 := by rw [hxl]; exact lenS
  obtain ⟨⟨ra, rc, rv, r1, r2, r3⟩, racc, _⟩ := HO2.out.rd
  injection rv with ea en ec
  subst ea en ec
  have HB2 : Hid (y2.heap[b]? = some (.cells cs 52 (0, 0))) := (HY2.out.block b hbl).trans HBK.out
  have HR3 : Hid (∀ wr, Kps (fun k => k = b) y2 wr → ∀ j u, (fr xs)[j]? = some u → ∃ g, a2 = some ⟨g, 0, none⟩ ∧ wr.cell? ⟨g, j, none⟩ = some u) := fun wr hkp j u hj => by
    rcases HO2.out.1.2 with ⟨e, hn⟩ | ⟨g, cap, cur, e, hbg, hg, _⟩
    · rw [List.length_eq_zero_iff] at hn; subst hn; simp [fr] at hj
    · cases e
      refine ⟨g, rfl, ?_⟩
      obtain ⟨b', off, e1, _, k3⟩ := r3 (by intro e; subst e; simp [fr] at hj)
      cases e1
      have h1 := k3 j u hj
      rw [Nat.zero_add] at h1
      rw [← h1]
      unfold World.cell?
      simp only [hkp.same g (Array.getElem?_eq_some_iff.1 hg).1 (fun e => by have := HY2.out.size; have := HYA.out.size; subst e; omega)]
  have HACC := hidIt racc
  clear r3 racc
  go_wp2
  go_loopw [19] (fun i wr => ∃ (p : Nat) (own : Nat → Prop) (m s : Value) (ns : List (List Int)) (vs : List (Option Bd)), p ≤ xs.length ∧ i = .int .i64 p ∧ Hid (wr.heap[b]? = some (.cells ((cs.setIfInBounds o m).setIfInBounds (o + 1) s) 52 (0, 0)) ∧ TeB wr own (3 * p) ns vs m s ∧ Tri ns vs (fil ((tSln).take p)) ∧ ns.length ≤ 3 * p ∧ (∀ k, own k → y2.heap.size ≤ k ∧ k < wr.heap.size) ∧ Kps (fun k => k = b) y2 wr)) (fun i _ => xs.length - (RowKit.intOf i).toNat)
  case atStart => exact ⟨0, fun _ => False, .map none, .slice none 0 0, [], [], Nat.zero_le _, rfl, by rw [set_same HM.out HS.out]; exact HB2.out, TeB.empty _ _ _, Tri.empty, Nat.le_refl _, fun _ e => e.elim, Kps.refl _ _⟩
  case round =>
    obtain ⟨p, own, m, s, ns, vs, hp, rfl, HI⟩ := hrel
    by_cases hlt : p < xs.length
    · obtain ⟨i1, i2, i3, i4, i5, i6⟩ := HI.out
      have hT : p < (tSln).length := by rw [← hxl]; exact hlt
      have hrow : xs[p].1 = (tSln)[p] := by
        have : (xs.map Prod.fst)[p]? = (tSln)[p]? := by rw [HM2.out]
        rw [List.getElem?_map, List.getElem?_eq_getElem hlt, List.getElem?_eq_getElem hT] at this
        exact Option.some.inj this
      obtain ⟨hk2, hk127⟩ := rowsS _ (List.getElem_mem hT)
      rw [← hrow] at hk2 hk127
      have hfs := fil_succ tSln p hT
      rw [← hrow] at hfs
      have hki := (HACC.out xs[p] (List.getElem_mem hlt))
      have hat := fr_at xs p xs[p] (List.getElem?_eq_getElem hlt)
      have hi1 : (p : Int) < (xs.length : Int) := by omega
      obtain ⟨xa, xc, hxv⟩ : ∃ xa xc, xs[p].2 = .slice xa xs[p].1.ks.length xc := by obtain ⟨⟨ao, cap, e, _⟩, _⟩ := hki.1; exact ⟨ao, cap, e⟩
      generalize hxe : xs[p] = x at *
      obtain ⟨⟨⟨bv, bmv, ba, bt⟩, ks⟩, xv⟩ := x
      dsimp only at hxv hki hk2 hk127 hfs
      subst hxv
      obtain ⟨g, rfl, d0⟩ := HR3.out wr i6 _ _ ((hat 0 (by omega)).trans rfl)
      obtain ⟨g1, e1, d1⟩ := HR3.out wr i6 _ _ ((hat 1 (by omega)).trans rfl)
      cases e1
      obtain ⟨g2, e2, d2⟩ := HR3.out wr i6 _ _ ((hat 2 (by omega)).trans rfl)
      cases e2
      obtain ⟨g3, e3, d3⟩ := HR3.out wr i6 _ _ ((hat 3 (by omega)).trans rfl)
      cases e3
      obtain ⟨g4, e4, d4⟩ := HR3.out wr i6 _ _ ((hat 4 (by omega)).trans rfl)
      cases e4
      replace d0 : wr.cell? ⟨g, p * 5, none⟩ = some (.int .i64 bv) := d0
      replace d1 : wr.cell? ⟨g, p * 5 + 1, none⟩ = some (.int .i64 bmv) := d1
      replace d2 : wr.cell? ⟨g, p * 5 + 2, none⟩ = some (.int .i64 ba) := d2
      replace d3 : wr.cell? ⟨g, p * 5 + 3, none⟩ = some (.int .i64 bt) := d3
      replace d4 : wr.cell? ⟨g, p * 5 + 4, none⟩ = some (.slice xa ks.length xc) := d4
      have hz := HY2.out.size
      have hs6 := i6.size
      have HPT : Hid (∀ ob, Calls Tryz.prog 78 #[.pointer (some ⟨b, o, none⟩), .agg #[.int .i64 bv, .int .i64 bmv, .int .i64 ba, .int .i64 bt], .slice xa ks.length xc] (wr.alloc ob) fun e w' => (∃ q, e = .returned (.bool q)) ∧ ∃ own m s ns vs, Hid (w'.heap[b]? = some (.cells ((cs.setIfInBounds o m).setIfInBounds (o + 1) s) 52 (0, 0)) ∧ TeB w' own (3 * (p + 1)) ns vs m s ∧ Tri ns vs (fil ((tSln).take (p + 1))) ∧ ns.length ≤ 3 * (p + 1) ∧ (∀ k, own k → y2.heap.size ≤ k ∧ k < w'.heap.size) ∧ Kps (fun k => k = b) y2 w')) := fun ob => by
        have hba : Below wr.heap.size wr (wr.alloc ob) := ext_alloc (Below.refl _ _) _
        have hbb : b < wr.heap.size := (Array.getElem?_eq_some_iff.1 i1).1
        obtain ⟨q1, q2⟩ := get_o hos m s
        have kix := (hki.kps i6 HB2.out)
        refine (putB_any b o 52 _ (wr.alloc ob) m s own (3 * p) ns vs (fil ((tSln).take p)) (.slice xa ks.length xc) ks ⟨bv, bmv, ba, bt⟩ ((hba.block b hbb).trans i1) q1 q2 (i2.ext hba) i3 (by omega) (by omega) (kix.ext hba).1.1 (fun k hk => In64.of (by have := hk127 k hk; omega) (by have := hk127 k hk; omega)) (fun e => by have := (i5 b e).1; omega) (fun k hk => by have := (i5 k hk).2; have := hba.size; omega) (fun k off nn c e => ?_)).mono ?_
        · cases e
          obtain ⟨cur, r, h3⟩ := hki.2 _ _ _ rfl
          refine ⟨fun e2 => ?_, fun e2 => ?_⟩
          · subst e2
            have := HB2.out
            simp only at h3
            rw [this] at h3
            injection h3 with h3
            injection h3 with _ h4
            exact absurd h4 (by decide)
          · have h5 := (i5 k e2).1
            have h6 := (Array.getElem?_eq_some_iff.1 h3).1
            simp only at h6
            omega
        · rintro e w' ⟨rfl, m', s', own', ns', vs', g1, g2, g3, g4, g5, g6, g7⟩
          refine ⟨⟨_, rfl⟩, own', m', s', ns', vs', ?_, g2.mono (fun _ h => h) (by omega), ?_, by omega, fun k hk => ⟨?_, g7 k hk⟩, ?_⟩
          · rw [set4] at g1; exact g1
          · rw [hfs]; exact g3
          · rcases g6 k hk with h | h
            · exact (i5 k h).1
            · have := hba.size; omega
          · refine Kps.trans (Kps.trans i6 (Kps.of_below (fun _ => False) hba) (fun _ _ e => e.elim)) g5 (fun k hk e => ?_)
            rcases e with e | e
            · exact e
            · have := (i5 k e).1; omega
      have HLT := hidIt hlt
      clear HI i1 i2 i3 i4 i5 i6 hki hat hxe hfs hk2 hk127 hrow hT
      go_wp2_with (go_at_call 78; refine (HPT.out _).mono ?_; rintro e y3 ⟨⟨q, rfl⟩, own3, m3, s3, ns3, vs3, H3⟩; (try dsimp only))
      go_roundw
      case rel => exact ⟨p + 1, own3, m3, s3, ns3, vs3, by have := HLT.out; omega, by go_num, H3⟩
      case measure => have := HLT.out; simp [RowKit.intOf]; omega
    · obtain rfl : p = xs.length := by omega
      go_wp2
      go_ret
      obtain ⟨i1, i2, i3, i4, i5, i6⟩ := HI.out
      rw [hxl, List.take_length] at i3
      have hz := HY2.out.size
      exact ⟨rfl, own, m, s, ns, vs, i1, i2.mono (fun _ h => h) (by omega), i3, by omega, fun k hk => ⟨by have := (i5 k hk).1; omega, (i5 k hk).2⟩, Kps.trans (Kps.of_below _ HY2.out) i6 (fun _ _ e => e)⟩
theorem rowsT : ∀ r ∈ tTar, r.ks.length ≤ 2 ∧ ∀ k ∈ r.ks, 0 ≤ k ∧ k ≤ 127 := by decide
theorem lenT : (tTar).length ≤ 200 := by decide
set_option maxRecDepth 100000 in
set_option maxHeartbeats 4000000 in
theorem filledT_new (b o : Nat) (cs : Array Value) (w : World) (hb : w.heap[b]? = some (.cells cs 52 (0, 0))) (hm : cs[o]? = some (.map none)) (hs : cs[o + 1]? = some (.slice none 0 0)) :
    Calls Tryz.prog 61 #[.pointer (some ⟨b, o, none⟩), .func (.func 62) #[] #[]] w fun e w' => e = .returned (.pointer (some ⟨b, o, none⟩)) ∧ Fl w w' b o cs (fil tTar) 1000 := by
  have hos : o + 1 < cs.size := (Array.getElem?_eq_some_iff.1 hs).1
  have hbl : b < w.heap.size := (Array.getElem?_eq_some_iff.1 hb).1
  have HLK := hidIt (lookB_any b o 52 cs w (.map none) (.slice none 0 0) (fun _ => False) 0 [] [] [] (.slice none 0 0) [] hb hm hs (TeB.empty _ _ _) Tri.empty (by simp) (OwnI.nil w 0).rd (fun k hk => by cases hk))
  have HBK := hidIt hb
  have HM := hidIt hm
  have HS := hidIt hs
  clear hb hm hs
  go_enter Tryz.func61, Tryz.ntmps61
  go_upto_region 3 with (go_at_call 60; refine HLK.out.mono ?_; rintro e y1 ⟨rfl, hy1⟩; (try simp only [lkV, lkS, List.find?_nil, List.any_nil, Option.map_none, vlB]); (try dsimp only); have HY1 := hidIt hy1; clear hy1)
  generalize hyA : World.alloc y1 _ = yA
  have HYA : Hid (Below w.heap.size w yA) := by unfold Hid; rw [← hyA]; exact ext_alloc HY1.out _
  clear hyA HY1 HLK
  go_wp2_with (go_at_call 62; refine (targetRows_any _).mono ?_; rintro e y2 ⟨v2, xs, rfl, ho2, hm2, hb2⟩; (try dsimp only); obtain ⟨a2, n2, c2, e2⟩ := ho2.form; subst e2; have HO2 := hidIt ho2; have HM2 := hidIt (show xs.map Prod.fst = tTar from hm2); have HY2 := hidIt (ext_trans HYA.out hb2); clear ho2 hm2 hb2)
  have hxl : xs.length = (tTar).length := by have := congrArg List.length HM2.out; rwa [List.length_map] at this
  have hx200 : xs.length ≤ 200 := by rw [hxl]; exact lenT
  obtain ⟨⟨ra, rc, rv, r1, r2, r3⟩, racc, _⟩ := HO2.out.rd
  injection rv with ea en ec
  subst ea en ec
  have HB2 : Hid (y2.heap[b]? = some (.cells cs 52 (0, 0))) := (HY2.out.block b hbl).trans HBK.out
  have HR3 : Hid (∀ wr, Kps (fun k => k = b) y2 wr → ∀ j u, (fr xs)[j]? = some u → ∃ g, a2 = some ⟨g, 0, none⟩ ∧ wr.cell? ⟨g, j, none⟩ = some u) := fun wr hkp j u hj => by
    rcases HO2.out.1.2 with ⟨e, hn⟩ | ⟨g, cap, cur, e, hbg, hg, _⟩
    · rw [List.length_eq_zero_iff] at hn; subst hn; simp [fr] at hj
    · cases e
      refine ⟨g, rfl, ?_⟩
      obtain ⟨b', off, e1, _, k3⟩ := r3 (by intro e; subst e; simp [fr] at hj)
      cases e1
      have h1 := k3 j u hj
      rw [Nat.zero_add] at h1
      rw [← h1]
      unfold World.cell?
      simp only [hkp.same g (Array.getElem?_eq_some_iff.1 hg).1 (fun e => by have := HY2.out.size; have := HYA.out.size; subst e; omega)]
  have HACC := hidIt racc
  clear r3 racc
  go_wp2
  go_loopw [19] (fun i wr => ∃ (p : Nat) (own : Nat → Prop) (m s : Value) (ns : List (List Int)) (vs : List (Option Bd)), p ≤ xs.length ∧ i = .int .i64 p ∧ Hid (wr.heap[b]? = some (.cells ((cs.setIfInBounds o m).setIfInBounds (o + 1) s) 52 (0, 0)) ∧ TeB wr own (3 * p) ns vs m s ∧ Tri ns vs (fil ((tTar).take p)) ∧ ns.length ≤ 3 * p ∧ (∀ k, own k → y2.heap.size ≤ k ∧ k < wr.heap.size) ∧ Kps (fun k => k = b) y2 wr)) (fun i _ => xs.length - (RowKit.intOf i).toNat)
  case atStart => exact ⟨0, fun _ => False, .map none, .slice none 0 0, [], [], Nat.zero_le _, rfl, by rw [set_same HM.out HS.out]; exact HB2.out, TeB.empty _ _ _, Tri.empty, Nat.le_refl _, fun _ e => e.elim, Kps.refl _ _⟩
  case round =>
    obtain ⟨p, own, m, s, ns, vs, hp, rfl, HI⟩ := hrel
    by_cases hlt : p < xs.length
    · obtain ⟨i1, i2, i3, i4, i5, i6⟩ := HI.out
      have hT : p < (tTar).length := by rw [← hxl]; exact hlt
      have hrow : xs[p].1 = (tTar)[p] := by
        have : (xs.map Prod.fst)[p]? = (tTar)[p]? := by rw [HM2.out]
        rw [List.getElem?_map, List.getElem?_eq_getElem hlt, List.getElem?_eq_getElem hT] at this
        exact Option.some.inj this
      obtain ⟨hk2, hk127⟩ := rowsT _ (List.getElem_mem hT)
      rw [← hrow] at hk2 hk127
      have hfs := fil_succ tTar p hT
      rw [← hrow] at hfs
      have hki := (HACC.out xs[p] (List.getElem_mem hlt))
      have hat := fr_at xs p xs[p] (List.getElem?_eq_getElem hlt)
      have hi1 : (p : Int) < (xs.length : Int) := by omega
      obtain ⟨xa, xc, hxv⟩ : ∃ xa xc, xs[p].2 = .slice xa xs[p].1.ks.length xc := by obtain ⟨⟨ao, cap, e, _⟩, _⟩ := hki.1; exact ⟨ao, cap, e⟩
      generalize hxe : xs[p] = x at *
      obtain ⟨⟨⟨bv, bmv, ba, bt⟩, ks⟩, xv⟩ := x
      dsimp only at hxv hki hk2 hk127 hfs
      subst hxv
      obtain ⟨g, rfl, d0⟩ := HR3.out wr i6 _ _ ((hat 0 (by omega)).trans rfl)
      obtain ⟨g1, e1, d1⟩ := HR3.out wr i6 _ _ ((hat 1 (by omega)).trans rfl)
      cases e1
      obtain ⟨g2, e2, d2⟩ := HR3.out wr i6 _ _ ((hat 2 (by omega)).trans rfl)
      cases e2
      obtain ⟨g3, e3, d3⟩ := HR3.out wr i6 _ _ ((hat 3 (by omega)).trans rfl)
      cases e3
      obtain ⟨g4, e4, d4⟩ := HR3.out wr i6 _ _ ((hat 4 (by omega)).trans rfl)
      cases e4
      replace d0 : wr.cell? ⟨g, p * 5, none⟩ = some (.int .i64 bv) := d0
      replace d1 : wr.cell? ⟨g, p * 5 + 1, none⟩ = some (.int .i64 bmv) := d1
      replace d2 : wr.cell? ⟨g, p * 5 + 2, none⟩ = some (.int .i64 ba) := d2
      replace d3 : wr.cell? ⟨g, p * 5 + 3, none⟩ = some (.int .i64 bt) := d3
      replace d4 : wr.cell? ⟨g, p * 5 + 4, none⟩ = some (.slice xa ks.length xc) := d4
      have hz := HY2.out.size
      have hs6 := i6.size
      have HPT : Hid (∀ ob, Calls Tryz.prog 78 #[.pointer (some ⟨b, o, none⟩), .agg #[.int .i64 bv, .int .i64 bmv, .int .i64 ba, .int .i64 bt], .slice xa ks.length xc] (wr.alloc ob) fun e w' => (∃ q, e = .returned (.bool q)) ∧ ∃ own m s ns vs, Hid (w'.heap[b]? = some (.cells ((cs.setIfInBounds o m).setIfInBounds (o + 1) s) 52 (0, 0)) ∧ TeB w' own (3 * (p + 1)) ns vs m s ∧ Tri ns vs (fil ((tTar).take (p + 1))) ∧ ns.length ≤ 3 * (p + 1) ∧ (∀ k, own k → y2.heap.size ≤ k ∧ k < w'.heap.size) ∧ Kps (fun k => k = b) y2 w')) := fun ob => by
        have hba : Below wr.heap.size wr (wr.alloc ob) := ext_alloc (Below.refl _ _) _
        have hbb : b < wr.heap.size := (Array.getElem?_eq_some_iff.1 i1).1
        obtain ⟨q1, q2⟩ := get_o hos m s
        have kix := (hki.kps i6 HB2.out)
        refine (putB_any b o 52 _ (wr.alloc ob) m s own (3 * p) ns vs (fil ((tTar).take p)) (.slice xa ks.length xc) ks ⟨bv, bmv, ba, bt⟩ ((hba.block b hbb).trans i1) q1 q2 (i2.ext hba) i3 (by omega) (by omega) (kix.ext hba).1.1 (fun k hk => In64.of (by have := hk127 k hk; omega) (by have := hk127 k hk; omega)) (fun e => by have := (i5 b e).1; omega) (fun k hk => by have := (i5 k hk).2; have := hba.size; omega) (fun k off nn c e => ?_)).mono ?_
        · cases e
          obtain ⟨cur, r, h3⟩ := hki.2 _ _ _ rfl
          refine ⟨fun e2 => ?_, fun e2 => ?_⟩
          · subst e2
            have := HB2.out
            simp only at h3
            rw [this] at h3
            injection h3 with h3
            injection h3 with _ h4
            exact absurd h4 (by decide)
          · have h5 := (i5 k e2).1
            have h6 := (Array.getElem?_eq_some_iff.1 h3).1
            simp only at h6
            omega
        · rintro e w' ⟨rfl, m', s', own', ns', vs', g1, g2, g3, g4, g5, g6, g7⟩
          refine ⟨⟨_, rfl⟩, own', m', s', ns', vs', ?_, g2.mono (fun _ h => h) (by omega), ?_, by omega, fun k hk => ⟨?_, g7 k hk⟩, ?_⟩
          · rw [set4] at g1; exact g1
          · rw [hfs]; exact g3
          · rcases g6 k hk with h | h
            · exact (i5 k h).1
            · have := hba.size; omega
          · refine Kps.trans (Kps.trans i6 (Kps.of_below (fun _ => False) hba) (fun _ _ e => e.elim)) g5 (fun k hk e => ?_)
            rcases e with e | e
            · exact e
            · have := (i5 k e).1; omega
      have HLT := hidIt hlt
      clear HI i1 i2 i3 i4 i5 i6 hki hat hxe hfs hk2 hk127 hrow hT
      go_wp2_with (go_at_call 78; refine (HPT.out _).mono ?_; rintro e y3 ⟨⟨q, rfl⟩, own3, m3, s3, ns3, vs3, H3⟩; (try dsimp only))
      go_roundw
      case rel => exact ⟨p + 1, own3, m3, s3, ns3, vs3, by have := HLT.out; omega, by go_num, H3⟩
      case measure => have := HLT.out; simp [RowKit.intOf]; omega
    · obtain rfl : p = xs.length := by omega
      go_wp2
      go_ret
      obtain ⟨i1, i2, i3, i4, i5, i6⟩ := HI.out
      rw [hxl, List.take_length] at i3
      have hz := HY2.out.size
      exact ⟨rfl, own, m, s, ns, vs, i1, i2.mono (fun _ h => h) (by omega), i3, by omega, fun k hk => ⟨by have := (i5 k hk).1; omega, (i5 k hk).2⟩, Kps.trans (Kps.of_below _ HY2.out) i6 (fun _ _ e => e)⟩
set_option maxRecDepth 100000 in
theorem filled_old (b o : Nat) (cs : Array Value) (w : World) (m s : Value) (own : Nat → Prop) (n : Nat) (ns : List (List Int)) (vs : List (Option Bd)) (L : List (List Int × Bd)) (fv : Value)
    (hb : w.heap[b]? = some (.cells cs 52 (0, 0))) (hm : cs[o]? = some m) (hs : cs[o + 1]? = some s) (ht : TeB w own n ns vs m s) (hT : Tri ns vs L) (hns : ns.length ≤ 1000) (hsay : lkS L [] = 0) :
    Calls Tryz.prog 61 #[.pointer (some ⟨b, o, none⟩), fv] w fun e w' => e = .returned (.pointer (some ⟨b, o, none⟩)) ∧ Below w.heap.size w w' := by
  have HLK := hidIt (lookB_any b o 52 cs w m s own n ns vs L (.slice none 0 0) [] hb hm hs ht hT (by omega) (OwnI.nil w 0).rd (fun k hk => by cases hk))
  rw [hsay] at HLK
  obtain ⟨x, hx⟩ : ∃ x, vlB (lkV L []) = x := ⟨_, rfl⟩
  have hxf : ∃ x0 x1 x2 x3, x = .agg #[.int .i64 x0, .int .i64 x1, .int .i64 x2, .int .i64 x3] := by
    rw [← hx]
    cases lkV L [] with
    | none => exact ⟨0, 0, 0, 0, rfl⟩
    | some v => exact ⟨_, _, _, _, rfl⟩
  rw [hx] at HLK
  obtain ⟨x0, x1, x2, x3, rfl⟩ := hxf
  clear hb hm hs ht hT hsay hx
  go_enter Tryz.func61, Tryz.ntmps61
  go_wp2_with (go_at_call 60; refine HLK.out.mono ?_; rintro e y1 ⟨rfl, hy1⟩; (try dsimp only); have HY1 := hidIt hy1; clear hy1)
  go_ret
  exact ⟨rfl, ext_alloc HY1.out _⟩
theorem filN_eq : fil tNor = tNor.map (fun r => (r.ks, r.b)) := by kernel_rfl
theorem filS_eq : fil tSln = tSln.map (fun r => (r.ks, r.b)) := by kernel_rfl
theorem filT_eq : fil tTar = tTar.map (fun r => (r.ks, r.b)) := by kernel_rfl
theorem sayN : lkS (fil tNor) [] = 0 := by kernel_rfl
theorem sayS : lkS (fil tSln) [] = 0 := by kernel_rfl
theorem sayT : lkS (fil tTar) [] = 0 := by kernel_rfl
end Go.Proofs.YtfdceljdhgbkcaaGreatDoor
