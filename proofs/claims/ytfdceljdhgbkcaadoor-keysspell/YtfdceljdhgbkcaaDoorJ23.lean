import Derived.Test.YtfdceljdhgbkcaaDoorJ19
import Derived.Test.YtfdceljdhgbkcaaDoorJ22
import Derived.Test.YtfdceljdhgbkcaaDoorJ21
import Derived.Laws.Cover3
/- Spell: the shortest and least keys of a command. -/
namespace Go.Proofs.YtfdceljdhgbkcaaDoor
open Go.RowKit
theorem OptI.ext {w w' : World} {base : Nat} {v : Value} {o : Option (List Int)} (h : OptI w base v o) (hb : Below w.heap.size w w') : OptI w' base v o := by
  cases o
  · exact h
  · exact ⟨h.1.ext hb, h.2⟩
theorem OptI.some {w : World} {base : Nat} {v : Value} {l : List Int} (h : OptI w base v (some l)) : ∃ a n c, v = .slice (some a) n c ∧ RdS w v l := by
  obtain ⟨h1, h2⟩ := h
  rcases h1.2 with ⟨_, e⟩ | ⟨g, cap, cur, rfl, _⟩
  · exact absurd (List.length_eq_zero_iff.1 e) h2
  · exact ⟨_, _, _, rfl, h1.rds⟩
theorem fold_take {c : Cm} {L : List Rw} {p : Nat} {x : Rw} (h : L[p]? = some x) : (L.take (p + 1)).foldl (bstF c) none = bstF c ((L.take p).foldl (bstF c) none) x := by
  rw [List.take_add_one, h, List.foldl_append]
  rfl
set_option maxRecDepth 100000 in
set_option maxHeartbeats 8000000 in
theorem Spell_any (mode : Int) (c : Cm) (w : World) (hT : Tb w) :
    Calls Tryd.prog 6 #[.int .i64 mode, cmV c] w fun e w' => ∃ u, e = .returned u ∧ OptI w' w.heap.size u (spell mode c) ∧ Below w.heap.size w w' := by
  obtain ⟨cr, cc, cv, cm, ca⟩ := c
  have HSE := hidIt (show spell mode ⟨cr, cc, cv, cm, ca⟩ = if cc < 0 ∨ cc > 9999 ∨ cr = 27 then none else (rwsOf (isl mode) cv).foldl (bstF ⟨cr, cc, cv, cm, ca⟩) none from rfl)
  generalize spell mode ⟨cr, cc, cv, cm, ca⟩ = RES at HSE ⊢
  have HTb := hidIt hT
  obtain ⟨w0, hw0⟩ : ∃ w0, w0 = w.alloc (.cells #[.int .i64 cr, .int .i64 cc, .int .i64 cv, .int .i64 cm, .int .i64 ca] 23) := ⟨_, rfl⟩
  have HB0 : Hid (Below w.heap.size w w0) := by unfold Hid; rw [hw0]; exact ext_alloc (Below.refl _ _) _
  have HR0 : Hid (w0.heap[w.heap.size]? = some (.cells #[.int .i64 cr, .int .i64 cc, .int .i64 cv, .int .i64 cm, .int .i64 ca] 23 (0, 0))) := by unfold Hid; rw [hw0]; exact heap_alloc_new _ _
  clear hT
  obtain ⟨_, q0, q1, q2, q3, q4, qf⟩ := cells5 HR0.out
  by_cases h1 : cc < 0
  · rw [if_pos (.inl h1)] at HSE
    go_enter Tryd.func6, Tryd.ntmps6
    go_upto_region 1 with fail
    rw [← hw0]
    clear hw0
    go_wp2_with fail
    go_ret
    refine ⟨_, rfl, ?_, HB0.out⟩
    rw [HSE.out]
    rfl
  by_cases h2 : cc > 9999
  · rw [if_pos (.inr (.inl h2))] at HSE
    go_enter Tryd.func6, Tryd.ntmps6
    go_upto_region 1 with fail
    rw [← hw0]
    clear hw0
    go_wp2_with fail
    go_ret
    refine ⟨_, rfl, ?_, HB0.out⟩
    rw [HSE.out]
    rfl
  by_cases h3 : cr = 27
  · rw [if_pos (.inr (.inr h3))] at HSE
    have h3b : (cr == 27) = true := by simpa using h3
    clear h3
    go_enter Tryd.func6, Tryd.ntmps6
    go_upto_region 1 with fail
    rw [← hw0]
    clear hw0
    go_wp2_with fail
    go_ret
    refine ⟨_, rfl, ?_, HB0.out⟩
    rw [HSE.out]
    rfl
  rw [if_neg (fun h => h.elim h1 (fun h => h.elim h2 h3))] at HSE
  have h3b : (cr == 27) = false := by simpa using h3
  have HC0 : Hid (0 ≤ cc ∧ cc ≤ 9999) := by unfold Hid; omega
  have HRO := hidIt (fun w => rowsOf_any mode cv w)
  have HKO := hidIt (rwsOf_ok (isl mode) cv)
  generalize rwsOf (isl mode) cv = TT at HSE HRO HKO
  go_enter Tryd.func6, Tryd.ntmps6
  go_upto_region 1 with fail
  rw [← hw0]
  clear hw0
  go_upto_region 5 with (go_at_call 16; refine (HRO.out _).mono ?_; rintro e y ⟨tv, ts, rfl, ho, hm, hb⟩; (try dsimp only); obtain ⟨ta, tn, tc, rfl⟩ := ho.form; have HTO := hidIt ho; have HTM := hidIt hm.out; have HBY := hidIt (ext_trans HB0.out hb); have HRY := hidIt ((hb.block _ (Array.getElem?_eq_some_iff.1 HR0.out).1).trans HR0.out); clear ho hm hb)
  clear h1 h2 h3 h3b q0 q1 q2 q3 q4 qf HRO
  obtain ⟨hnt, htc⟩ : tn = ts.length ∧ ts.length ≤ tc := by
    obtain ⟨⟨ao', cap', e, r1, _⟩, _⟩ := HTO.out.rd
    injection e with e1 e2 e3
    exact ⟨e2, by omega⟩
  subst hnt
  have HLT : Hid (tc ≤ 9223372036854775807) := by
    obtain ⟨⟨ao', cap', e, r1, r2, _⟩, _⟩ := HTO.out.rd
    injection e with e1 e2 e3
    unfold Hid
    omega
  have hwy : w.heap.size < y.heap.size := (Array.getElem?_eq_some_iff.1 HRY.out).1
  have hlt2 : ts.length ≤ 9223372036854775807 := by have := HLT.out; omega
  go_loopw [5, 27] (fun rv iv wr => ∃ (p : Nat) (ao : Option Addr) (n c : Nat) (bo : Option (List Int)), p ≤ ts.length ∧ iv = .int .i64 p ∧ rv = .slice ao n c ∧ Hid (OptI wr y.heap.size (.slice ao n c) bo) ∧ Hid (bo = (TT.take p).foldl (bstF ⟨cr, cc, cv, cm, ca⟩) none) ∧ Hid (Below y.heap.size y wr)) (fun _ iv _ => ts.length - (RowKit.intOf iv).toNat)
  case atStart => exact ⟨0, none, 0, 0, none, Nat.zero_le _, rfl, rfl, rfl, rfl, Below.refl _ _⟩
  case round =>
    obtain ⟨p, ao, n, c, bo, hp, rfl, rfl, HO, HM, HB⟩ := hrel
    by_cases hlt : p < ts.length
    · have hltI : (p : Int) < (ts.length : Int) := by omega
      obtain ⟨_, _, g, rfl, x, hx, hxk, d0, d1, d2, d3, d4⟩ := (HTO.out.ext HB.out).at hlt
      have hTp : TT[p]? = some x.1 := by rw [← HTM.out, List.getElem?_map, hx]; rfl
      have HKX := hidIt (HKO.out _ (List.mem_of_getElem? hTp))
      have HNX := hidIt (fold_take (c := ⟨cr, cc, cv, cm, ca⟩) hTp)
      rw [← HM.out] at HNX
      obtain ⟨⟨⟨tv, tm, ta, tt⟩, tks⟩, tkv⟩ := x
      dsimp only at *
      obtain ⟨xa, xc, rfl, _⟩ := hxk.1.len
      have HXK := hidIt hxk
      have lr : w.heap.size < wr.heap.size := Nat.lt_of_lt_of_le hwy HB.out.size
      obtain ⟨w5, hw5⟩ : ∃ w5, w5 = wr.alloc (.cells #[.int .i64 tv, .int .i64 tm, .int .i64 ta, .int .i64 tt, .slice xa tks.length xc] 50) := ⟨_, rfl⟩
      have hb5 : Below wr.heap.size wr w5 := by rw [hw5]; exact ext_alloc (Below.refl _ _) _
      have HC5 : Hid (w5.heap[wr.heap.size]? = some (.cells #[.int .i64 tv, .int .i64 tm, .int .i64 ta, .int .i64 tt, .slice xa tks.length xc] 50 (0, 0))) := by unfold Hid; rw [hw5]; exact heap_alloc_new _ _
      have HR5 := hidIt ((hb5.block _ lr).trans ((HB.out.block _ hwy).trans HRY.out))
      have HB5 := hidIt hb5
      clear hx hxk hTp hb5
      go_upto_region 7 with fail
      rw [← hw5]
      clear hw5 d0 d1 d2 d3 d4
      obtain ⟨_, e0, e1, e2, e3, e4, ef⟩ := cells5 HC5.out
      obtain ⟨_, r0, r1, r2, r3, r4, rf⟩ := cells5 HR5.out
      have HBW5 : Hid (Below w.heap.size w w5) := ext_trans (HBY.out.trans (HB.out.mono HBY.out.size)) HB5.out
      have HSR := hidIt (rspell_any tv tm ta tt tks (.slice xa tks.length xc) ⟨cr, cc, cv, cm, ca⟩ w5 (HXK.out.1.ext HB5.out) HKX.out.1 (by have := HKX.out.2; omega) HC0.out.1 HC0.out.2 (HTb.out.ext HBW5.out))
      have HBF : Hid (∀ b, bstF ⟨cr, cc, cv, cm, ca⟩ b ⟨⟨tv, tm, ta, tt⟩, tks⟩ = match spR ⟨cr, cc, cv, cm, ca⟩ ⟨⟨tv, tm, ta, tt⟩, tks⟩, b with | none, b => b | some k, none => some k | some k, some b => if bfr k b = true then some k else some b) := fun b => rfl
      generalize spR ⟨cr, cc, cv, cm, ca⟩ ⟨⟨tv, tm, ta, tt⟩, tks⟩ = SR at HSR HBF
      rw [HBF.out] at HNX
      clear HBF
      go_upto_region 8 with (go_at_call 17; refine HSR.out.mono ?_; rintro e y6 ⟨kv, rfl, ho6, hb6⟩; (try dsimp only); have HO6 := hidIt ho6; have HB6 := hidIt (ext_trans HB5.out hb6); clear ho6 hb6 e0 e1 e2 e3 e4 ef r0 r1 r2 r3 r4 rf)
      have HBN : Hid (Below y.heap.size y y6) := ext_trans HB.out HB6.out
      have HLW : Hid (y.heap.size ≤ w5.heap.size) := Nat.le_trans HB.out.size HB5.out.size
      cases SR with
      | none =>
        obtain rfl : kv = .slice none 0 0 := HO6.out
        go_wp2_with fail
        go_roundw
        case rel => exact ⟨p + 1, ao, n, c, bo, by omega, rfl, rfl, HO.out.ext HB6.out, HNX.out.symm, HBN.out⟩
        case measure => simp [RowKit.intOf]; omega
      | some k =>
        obtain ⟨ka, kn, kc, rfl, hkr⟩ := HO6.out.some
        have HKR := hidIt hkr
        clear hkr
        cases bo with
        | none =>
          obtain ⟨rfl, rfl, rfl⟩ : ao = none ∧ n = 0 ∧ c = 0 := by have := HO.out; injection (show Value.slice ao n c = .slice none 0 0 from this) with a b d; exact ⟨a, b, d⟩
          have he := Lib.run_eql_slice_nil (P := Tryd.prog) y6 25 3 none 0 0 0 0 Tryd.underlying25
          go_wp2_with fail
          go_roundw
          case rel => exact ⟨p + 1, some ka, kn, kc, some k, by omega, rfl, rfl, HO6.out.le HLW.out, HNX.out.symm, HBN.out⟩
          case measure => simp [RowKit.intOf]; omega
        | some b =>
          obtain ⟨ba, bn, bc, hbe, hbr⟩ := HO.out.some
          injection hbe with f1 f2 f3
          subst f1 f2 f3
          have HIB := hidIt (isBefore_any _ _ k b y6 HKR.out (hbr.ext HB6.out))
          clear hbr
          have HNY : Hid ((TT.take (p + 1)).foldl (bstF ⟨cr, cc, cv, cm, ca⟩) none = if bfr k b = true then some k else some b) := HNX.out
          clear HNX
          generalize bfr k b = bb at HIB HNY
          have he := Lib.run_eql_slice_nil (P := Tryd.prog) y6 25 3 (some ba) n c 0 0 Tryd.underlying25
          cases bb
          · rw [if_neg (by decide)] at HNY
            go_wp2_with (go_at_call 18; refine HIB.out.mono ?_; rintro e y9 ⟨rfl, rfl⟩; (try dsimp only))
            go_roundw
            case rel => exact ⟨p + 1, some ba, n, c, some b, by omega, rfl, rfl, HO.out.ext HB6.out, HNY.out.symm, HBN.out⟩
            case measure => simp [RowKit.intOf]; omega
          · rw [if_pos rfl] at HNY
            go_wp2_with (go_at_call 18; refine HIB.out.mono ?_; rintro e y9 ⟨rfl, rfl⟩; (try dsimp only))
            go_roundw
            case rel => exact ⟨p + 1, some ka, kn, kc, some k, by omega, rfl, rfl, HO6.out.le HLW.out, HNY.out.symm, HBN.out⟩
            case measure => simp [RowKit.intOf]; omega
    · have hltI : ¬ (p : Int) < (ts.length : Int) := by omega
      have HE : Hid (bo = RES) := by
        have h1 := congrArg List.length HTM.out
        rw [List.length_map] at h1
        unfold Hid
        rw [HSE.out, HM.out, List.take_of_length_le (by omega)]
      go_wp2_with fail
      go_ret
      refine ⟨_, rfl, ?_, HBY.out.trans (HB.out.mono HBY.out.size)⟩
      rw [← HE.out]
      exact HO.out.le HBY.out.size
end Go.Proofs.YtfdceljdhgbkcaaDoor
