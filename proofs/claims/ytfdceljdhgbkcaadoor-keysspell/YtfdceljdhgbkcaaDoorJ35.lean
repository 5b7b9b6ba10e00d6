import Derived.Test.YtfdceljdhgbkcaaDoorJ23
import Derived.Test.YtfdceljdhgbkcaaDoorJ32
import Derived.Test.YtfdceljdhgbkcaaDoorJ34
/- The document's Reads. -/
namespace Go.Proofs.YtfdceljdhgbkcaaDoor
open Go.RowKit
theorem dNum_rng : ∀ (l : List Int) (n : Int), 0 ≤ n ∧ n ≤ 9999 → 0 ≤ (dNum n l).1 ∧ (dNum n l).1 ≤ 9999
  | [], _, h => h
  | k :: r, n, h => by
    rw [dNum]
    split
    · rename_i hk
      have := (dDig_iff k).1 hk
      exact dNum_rng r _ (by omega)
    · exact h
theorem dPre_rng : ∀ (f : Nat) (reg count : Int) (l : List Int), 0 ≤ count ∧ count ≤ 9999 → 0 ≤ (dPre f reg count l).2.1 ∧ (dPre f reg count l).2.1 ≤ 9999
  | 0, _, _, _, h => h
  | _ + 1, _, _, [], h => h
  | f + 1, reg, count, k :: r, h => by
    by_cases h34 : k = 34
    · subst h34
      cases r with
      | nil => simp only [dPre]; exact h
      | cons x r' =>
        by_cases hx : x = 0
        · simp only [dPre, if_pos hx]; exact h
        · simp only [dPre, if_pos, if_neg hx]
          exact dPre_rng f x count r' h
    · by_cases hd : dDig k = false ∨ k = 48
      · simp only [dPre, if_neg h34, if_pos hd]; exact h
      · simp only [dPre, if_neg h34, if_neg hd]
        exact dPre_rng f reg _ _ (dTms_rng h (dNum_rng _ _ (by omega)))
theorem dPrf_rng (l : List Int) : 0 ≤ (dPrf l).2.1 ∧ (dPrf l).2.1 ≤ 9999 := dPre_rng _ _ _ _ (by omega)
theorem range_drop {n p : Nat} (h : p < n) : (List.range n).drop p = p :: (List.range n).drop (p + 1) := by
  rw [List.drop_eq_getElem_cons (by simpa using h), List.getElem_range]
set_option maxRecDepth 100000 in
set_option maxHeartbeats 8000000 in
theorem r_Reads_any {b : Nat} {sl : Bool} (kv : Value) (l : List Int) (w : World) (hT : TbM w b sl) (hk : RdS w kv l) (hl0 : l ≠ []) (hll : l.length ≤ 1152921504606846976) :
    Calls Tryd.prog 47 #[.pointer (some ⟨b, 0, none⟩), kv] w fun e w' => e = .returned (.tuple #[cmV (dRds sl l).1, .int .i64 (dRds sl l).2]) ∧ Below w.heap.size w w' := by
  have hX : dRdi sl l (if ((dPrf l).2.2.1 || (dPrf l).2.2.2) = true then 0 else 2) (List.range l.length) = dRds sl l := rfl
  generalize dRds sl l = X at hX ⊢
  obtain ⟨la, lc, rfl, _⟩ := hk.len
  have hcap : l.length ≤ lc := by
    obtain ⟨⟨ao', cap', e, g1, _⟩, _⟩ := hk
    injection e with _ e2 e3
    omega
  obtain ⟨lb, lo, rfl, _⟩ := rd_at hk (List.length_pos_iff.2 hl0)
  have HT := hidIt hT
  have HK := hidIt hk
  have HX := hidIt hX
  obtain ⟨w0, hw0⟩ : ∃ w0, w0 = w.alloc (.cells #[.int .i64 0, .int .i64 0, .int .i64 0, .int .i64 0, .int .i64 0] 23) := ⟨_, rfl⟩
  have HB0 : Hid (Below w.heap.size w w0) := by unfold Hid; rw [hw0]; exact ext_alloc (Below.refl _ _) _
  have HR0 : Hid (w0.heap[w.heap.size]? = some (.cells #[.int .i64 0, .int .i64 0, .int .i64 0, .int .i64 0, .int .i64 0] 23 (0, 0))) := by unfold Hid; rw [hw0]; exact heap_alloc_new _ _
  have HPX := hidIt (r_prefixes_any _ l w0 (HK.out.ext HB0.out) hll)
  generalize dPrf l = P at HX HPX
  obtain ⟨p1, p2, p3, p4⟩ := P
  clear hX hT hk hl0
  go_enter Tryd.func47, Tryd.ntmps47
  go_upto_region 1 with fail
  rw [← hw0]
  clear hw0
  go_upto_region 3 with (go_at_call 61; refine HPX.out.mono ?_; rintro e y ⟨rfl, hb⟩; unfold PrV; (try dsimp only); have HBY := hidIt hb; clear hb HPX)
  dsimp only at HX
  go_cut [28] from 25 to 28 (fun cv wF => cv = .bool (p3 || p4) ∧ wF = y)
  case first =>
    cases p3
    · go_wp2_with fail
      go_meet
      case rel => exact ⟨rfl, rfl⟩
    · go_wp2_with fail
      go_meet
      case rel => exact ⟨rfl, rfl⟩
  case rest =>
   obtain ⟨rfl, hwc⟩ := hcut
   rw [hwc]
   clear hwc
   generalize (p3 || p4) = pp at HX ⊢
   cases pp
   all_goals
    go_wp2_with fail
    go_loopw [6, 11] (fun sv iv wr => ∃ (p : Nat) (s : Int), p ≤ l.length ∧ iv = .int .i64 p ∧ sv = .int .i64 s ∧ Hid (dRdi sl l s ((List.range l.length).drop p) = X) ∧ Hid (Below w0.heap.size w0 wr)) (fun _ iv _ => l.length - (RowKit.intOf iv).toNat)
    case atStart => exact ⟨0, _, Nat.zero_le _, rfl, rfl, by rw [List.drop_zero]; exact HX.out, HBY.out⟩
    case round =>
      obtain ⟨p, s, hp, rfl, rfl, HD, HBO⟩ := hrel
      have HBN : Hid (Below w.heap.size w wr) := ext_trans HB0.out HBO.out
      by_cases hlt : p < l.length
      · have hltI : (p : Int) < (l.length : Int) := by omega
        have hlcp : ¬ lc = p := by omega
        have hple : p ≤ lc := by omega
        rw [range_drop hlt, dRdi] at HD
        obtain ⟨b9, o9, e9, cp⟩ := rd_at (HK.out.ext HBN.out) hlt
        cases e9
        have HPX := hidIt (r_prefixes_any _ (l.take p) wr ((HK.out.ext HBN.out).upto (Nat.le_of_lt hlt)) (by rw [List.length_take]; omega))
        have HCT := hidIt (dPrf_rng (l.take p))
        have HEN : Hid (∀ y, Below w.heap.size w y → l.take p ≠ [] → Calls Tryd.prog 63 #[.slice (some ⟨lb, lo, none⟩) p lc] y fun e w' => e = .returned (.bool (dEnd (l.take p))) ∧ Below y.heap.size y w') := fun y hy hn => r_endsIn_any _ (l.take p) y ((HK.out.ext hy).upto (Nat.le_of_lt hlt)) (by rw [List.length_take]; omega) hn
        have HDG := hidIt (fun y => r_isDigit_any (l[p]?.getD 0) y)
        have HNE : Hid (0 < p → l.take p ≠ []) := fun h e => by have := congrArg List.length e; rw [List.length_take, List.length_nil] at this; omega
        generalize dPrf (l.take p) = P at HD HPX HCT
        obtain ⟨rg, ct, ok, op⟩ := P
        dsimp only at HD HCT
        have HCP : Hid (∀ y, Below wr.heap.size wr y → y.cell? ⟨lb, lo + p, none⟩ = some (.int .i64 (l[p]?.getD 0))) := fun y hy => (hy.cell (p := ⟨lb, lo + p, none⟩) (cell_lt cp)).trans cp
        clear cp
        go_upto_region 9 with (go_at_call 61; refine HPX.out.mono ?_; rintro e y ⟨rfl, hb⟩; unfold PrV; (try dsimp only); have HBY2 := hidIt hb; clear hb HPX)
        have cp := HCP.out y HBY2.out
        clear HCP
        cases ok
        · rw [if_pos (.inl rfl)] at HD
          go_wp2_with fail
          go_roundw
          case rel => exact ⟨p + 1, s, by omega, by go_num, rfl, HD.out, ext_trans HBO.out HBY2.out⟩
          case measure => simp [RowKit.intOf]; omega
        · by_cases hp0 : p = 0
          · have hpI : ¬ (p : Int) > 0 := by omega
            rw [if_neg (by rintro (h | ⟨h, _⟩); cases h; omega)] at HD
            clear hp0
            go_upto_region 10 with fail
            have HBW9 : Hid (Below w.heap.size w y) := ext_trans HBN.out HBY2.out
            have HBO9 : Hid (Below w0.heap.size w0 y) := ext_trans HBO.out HBY2.out
            have HROW := hidIt (r_row_any (.slice (some ⟨lb, lo + p, none⟩) (l.length - p) (lc - p)) (l.drop p) rg ct y (HT.out.ext HBW9.out) ((HK.out.ext HBW9.out).rest p hlt) (fun e => by have := congrArg List.length e; rw [List.length_drop, List.length_nil] at this; omega) (by rw [List.length_drop]; omega) HCT.out)
            generalize dRow sl (l.drop p) rg ct = x9 at HD HROW
            obtain ⟨⟨d0, d1, d2, d3, d4⟩, s9⟩ := x9
            dsimp only at HD HROW
            go_upto_region 11 with (go_at_call 64; refine HROW.out.mono ?_; rintro e y9 ⟨rfl, hb9⟩; (try dsimp only); have HB9 := hidIt hb9; clear hb9 HROW)
            obtain ⟨w5, hw5⟩ : ∃ w5, w5 = y9.alloc (.cells #[.int .i64 d0, .int .i64 d1, .int .i64 d2, .int .i64 d3, .int .i64 d4] 23) := ⟨_, rfl⟩
            rw [← hw5]
            have HB5 : Hid (Below w0.heap.size w0 w5) := by unfold Hid; rw [hw5]; exact ext_trans HBO9.out (ext_alloc HB9.out _)
            have HC5 : Hid (w5.heap[y9.heap.size]? = some (.cells #[.int .i64 d0, .int .i64 d1, .int .i64 d2, .int .i64 d3, .int .i64 d4] 23 (0, 0))) := by unfold Hid; rw [hw5]; exact heap_alloc_new _ _
            clear hw5 HB9
            generalize y9.heap.size = g5 at HC5 ⊢
            by_cases h1 : s9 = 1
            · subst h1
              rw [if_pos rfl] at HD
              have HRZ := hidIt ((HB5.out.block _ (Array.getElem?_eq_some_iff.1 HR0.out).1).trans HR0.out)
              obtain ⟨_, f0, f1, f2, f3, f4, ff⟩ := cells5 HC5.out
              obtain ⟨_, r0, r1, r2, r3, r4, rf⟩ := cells5 HRZ.out
              have HP := hidIt (put5 HRZ.out (.int .i64 d0) (.int .i64 d1) (.int .i64 d2) (.int .i64 d3) (.int .i64 d4))
              have HBF : Hid (Below w.heap.size w w5) := ext_trans HB0.out HB5.out
              go_wp2_with fail
              refine bodyPost_ret (v := .tuple #[.agg #[.int .i64 d0, .int .i64 d1, .int .i64 d2, .int .i64 d3, .int .i64 d4], .int .i64 1]) (by simp [results, Tryd.results47, go_sem, r0, r1, r2, r3, r4]) rfl ⟨by rw [← HD.out], ?_⟩
              exact below_put HBF.out HBF.out.size HP.out.2 (Nat.le_refl _)
            · have h1b : (s9 == 1) = false := by simpa using h1
              rw [if_neg h1] at HD
              by_cases h0 : s9 = 0
              · subst h0
                rw [if_pos rfl] at HD
                clear h1
                go_wp2_with fail
                go_roundw
                case rel => exact ⟨p + 1, 0, by omega, by go_num, rfl, HD.out, HB5.out⟩
                case measure => simp [RowKit.intOf]; omega
              · have h0b : (s9 == 0) = false := by simpa using h0
                rw [if_neg h0] at HD
                clear h1 h0
                go_wp2_with fail
                go_roundw
                case rel => exact ⟨p + 1, s, by omega, by go_num, rfl, HD.out, HB5.out⟩
                case measure => simp [RowKit.intOf]; omega
          · have hpI : (p : Int) > 0 := by omega
            clear hp0
            cases hdg : dDig (l[p]?.getD 0) with
            | false =>
              rw [hdg] at HDG
              rw [if_neg (by rintro (h | ⟨_, h, _⟩); cases h; rw [hdg] at h; cases h)] at HD
              generalize l[p]?.getD 0 = z at HDG cp
              clear hdg
              go_upto_region 10 with (go_at_call 62; refine (HDG.out _).mono ?_; rintro e y2 ⟨rfl, hy⟩; rw [hy]; clear hy; (try dsimp only))
              have HBW9 : Hid (Below w.heap.size w y) := ext_trans HBN.out HBY2.out
              have HBO9 : Hid (Below w0.heap.size w0 y) := ext_trans HBO.out HBY2.out
              have HROW := hidIt (r_row_any (.slice (some ⟨lb, lo + p, none⟩) (l.length - p) (lc - p)) (l.drop p) rg ct y (HT.out.ext HBW9.out) ((HK.out.ext HBW9.out).rest p hlt) (fun e => by have := congrArg List.length e; rw [List.length_drop, List.length_nil] at this; omega) (by rw [List.length_drop]; omega) HCT.out)
              generalize dRow sl (l.drop p) rg ct = x9 at HD HROW
              obtain ⟨⟨d0, d1, d2, d3, d4⟩, s9⟩ := x9
              dsimp only at HD HROW
              go_upto_region 11 with (go_at_call 64; refine HROW.out.mono ?_; rintro e y9 ⟨rfl, hb9⟩; (try dsimp only); have HB9 := hidIt hb9; clear hb9 HROW)
              obtain ⟨w5, hw5⟩ : ∃ w5, w5 = y9.alloc (.cells #[.int .i64 d0, .int .i64 d1, .int .i64 d2, .int .i64 d3, .int .i64 d4] 23) := ⟨_, rfl⟩
              rw [← hw5]
              have HB5 : Hid (Below w0.heap.size w0 w5) := by unfold Hid; rw [hw5]; exact ext_trans HBO9.out (ext_alloc HB9.out _)
              have HC5 : Hid (w5.heap[y9.heap.size]? = some (.cells #[.int .i64 d0, .int .i64 d1, .int .i64 d2, .int .i64 d3, .int .i64 d4] 23 (0, 0))) := by unfold Hid; rw [hw5]; exact heap_alloc_new _ _
              clear hw5 HB9
              generalize y9.heap.size = g5 at HC5 ⊢
              by_cases h1 : s9 = 1
              · subst h1
                rw [if_pos rfl] at HD
                have HRZ := hidIt ((HB5.out.block _ (Array.getElem?_eq_some_iff.1 HR0.out).1).trans HR0.out)
                obtain ⟨_, f0, f1, f2, f3, f4, ff⟩ := cells5 HC5.out
                obtain ⟨_, r0, r1, r2, r3, r4, rf⟩ := cells5 HRZ.out
                have HP := hidIt (put5 HRZ.out (.int .i64 d0) (.int .i64 d1) (.int .i64 d2) (.int .i64 d3) (.int .i64 d4))
                have HBF : Hid (Below w.heap.size w w5) := ext_trans HB0.out HB5.out
                go_wp2_with fail
                refine bodyPost_ret (v := .tuple #[.agg #[.int .i64 d0, .int .i64 d1, .int .i64 d2, .int .i64 d3, .int .i64 d4], .int .i64 1]) (by simp [results, Tryd.results47, go_sem, r0, r1, r2, r3, r4]) rfl ⟨by rw [← HD.out], ?_⟩
                exact below_put HBF.out HBF.out.size HP.out.2 (Nat.le_refl _)
              · have h1b : (s9 == 1) = false := by simpa using h1
                rw [if_neg h1] at HD
                by_cases h0 : s9 = 0
                · subst h0
                  rw [if_pos rfl] at HD
                  clear h1
                  go_wp2_with fail
                  go_roundw
                  case rel => exact ⟨p + 1, 0, by omega, by go_num, rfl, HD.out, HB5.out⟩
                  case measure => simp [RowKit.intOf]; omega
                · have h0b : (s9 == 0) = false := by simpa using h0
                  rw [if_neg h0] at HD
                  clear h1 h0
                  go_wp2_with fail
                  go_roundw
                  case rel => exact ⟨p + 1, s, by omega, by go_num, rfl, HD.out, HB5.out⟩
                  case measure => simp [RowKit.intOf]; omega
            | true =>
              rw [hdg] at HDG
              have HE2 := hidIt (HEN.out y (ext_trans HBN.out HBY2.out) (HNE.out (by omega)))
              cases hen : dEnd (l.take p) with
              | true =>
                rw [hen] at HE2
                rw [if_pos (.inr ⟨by omega, hdg, hen⟩)] at HD
                generalize l[p]?.getD 0 = z at HDG cp
                clear hdg hen
                go_wp2_with (first | (go_at_call 62; refine (HDG.out _).mono ?_; rintro e y2 ⟨rfl, hy⟩; rw [hy]; clear hy; (try dsimp only)) | (go_at_call 63; refine HE2.out.mono ?_; rintro e y3 ⟨rfl, hb3⟩; (try dsimp only); have HB3 := hidIt (ext_trans HBY2.out hb3); clear hb3))
                go_roundw
                case rel => exact ⟨p + 1, s, by omega, by go_num, rfl, HD.out, ext_trans HBO.out HB3.out⟩
                case measure => simp [RowKit.intOf]; omega
              | false =>
                rw [hen] at HE2
                rw [if_neg (by rintro (h | ⟨_, _, h⟩); cases h; rw [hen] at h; cases h)] at HD
                generalize l[p]?.getD 0 = z at HDG cp
                clear hdg hen
                go_upto_region 10 with (first | (go_at_call 62; refine (HDG.out _).mono ?_; rintro e y2 ⟨rfl, hy⟩; rw [hy]; clear hy; (try dsimp only)) | (go_at_call 63; refine HE2.out.mono ?_; rintro e y3 ⟨rfl, hb3⟩; (try dsimp only); have HB3 := hidIt (ext_trans HBY2.out hb3); clear hb3))
                have HBW9 : Hid (Below w.heap.size w y3) := ext_trans HBN.out HB3.out
                have HBO9 : Hid (Below w0.heap.size w0 y3) := ext_trans HBO.out HB3.out
                have HROW := hidIt (r_row_any (.slice (some ⟨lb, lo + p, none⟩) (l.length - p) (lc - p)) (l.drop p) rg ct y3 (HT.out.ext HBW9.out) ((HK.out.ext HBW9.out).rest p hlt) (fun e => by have := congrArg List.length e; rw [List.length_drop, List.length_nil] at this; omega) (by rw [List.length_drop]; omega) HCT.out)
                generalize dRow sl (l.drop p) rg ct = x9 at HD HROW
                obtain ⟨⟨d0, d1, d2, d3, d4⟩, s9⟩ := x9
                dsimp only at HD HROW
                go_upto_region 11 with (go_at_call 64; refine HROW.out.mono ?_; rintro e y9 ⟨rfl, hb9⟩; (try dsimp only); have HB9 := hidIt hb9; clear hb9 HROW)
                obtain ⟨w5, hw5⟩ : ∃ w5, w5 = y9.alloc (.cells #[.int .i64 d0, .int .i64 d1, .int .i64 d2, .int .i64 d3, .int .i64 d4] 23) := ⟨_, rfl⟩
                rw [← hw5]
                have HB5 : Hid (Below w0.heap.size w0 w5) := by unfold Hid; rw [hw5]; exact ext_trans HBO9.out (ext_alloc HB9.out _)
                have HC5 : Hid (w5.heap[y9.heap.size]? = some (.cells #[.int .i64 d0, .int .i64 d1, .int .i64 d2, .int .i64 d3, .int .i64 d4] 23 (0, 0))) := by unfold Hid; rw [hw5]; exact heap_alloc_new _ _
                clear hw5 HB9
                generalize y9.heap.size = g5 at HC5 ⊢
                by_cases h1 : s9 = 1
                · subst h1
                  rw [if_pos rfl] at HD
                  have HRZ := hidIt ((HB5.out.block _ (Array.getElem?_eq_some_iff.1 HR0.out).1).trans HR0.out)
                  obtain ⟨_, f0, f1, f2, f3, f4, ff⟩ := cells5 HC5.out
                  obtain ⟨_, r0, r1, r2, r3, r4, rf⟩ := cells5 HRZ.out
                  have HP := hidIt (put5 HRZ.out (.int .i64 d0) (.int .i64 d1) (.int .i64 d2) (.int .i64 d3) (.int .i64 d4))
                  have HBF : Hid (Below w.heap.size w w5) := ext_trans HB0.out HB5.out
                  go_wp2_with fail
                  refine bodyPost_ret (v := .tuple #[.agg #[.int .i64 d0, .int .i64 d1, .int .i64 d2, .int .i64 d3, .int .i64 d4], .int .i64 1]) (by simp [results, Tryd.results47, go_sem, r0, r1, r2, r3, r4]) rfl ⟨by rw [← HD.out], ?_⟩
                  exact below_put HBF.out HBF.out.size HP.out.2 (Nat.le_refl _)
                · have h1b : (s9 == 1) = false := by simpa using h1
                  rw [if_neg h1] at HD
                  by_cases h0 : s9 = 0
                  · subst h0
                    rw [if_pos rfl] at HD
                    clear h1
                    go_wp2_with fail
                    go_roundw
                    case rel => exact ⟨p + 1, 0, by omega, by go_num, rfl, HD.out, HB5.out⟩
                    case measure => simp [RowKit.intOf]; omega
                  · have h0b : (s9 == 0) = false := by simpa using h0
                    rw [if_neg h0] at HD
                    clear h1 h0
                    go_wp2_with fail
                    go_roundw
                    case rel => exact ⟨p + 1, s, by omega, by go_num, rfl, HD.out, HB5.out⟩
                    case measure => simp [RowKit.intOf]; omega
      · have hltI : ¬ (p : Int) < (l.length : Int) := by omega
        have HDX : Hid (X = (cmZ, s)) := by
          have := HD.out
          rw [List.drop_of_length_le (by rw [List.length_range]; omega), dRdi] at this
          exact this.symm
        have HRZ := hidIt ((HBO.out.block _ (Array.getElem?_eq_some_iff.1 HR0.out).1).trans HR0.out)
        obtain ⟨_, r0, r1, r2, r3, r4, rf⟩ := cells5 HRZ.out
        have HP := hidIt (put5 HRZ.out (.int .i64 0) (.int .i64 0) (.int .i64 0) (.int .i64 0) (.int .i64 0))
        go_wp2_with fail
        refine bodyPost_ret (v := .tuple #[.agg #[.int .i64 0, .int .i64 0, .int .i64 0, .int .i64 0, .int .i64 0], .int .i64 s]) (by simp [results, Tryd.results47, go_sem, r0, r1, r2, r3, r4]) rfl ⟨by rw [HDX.out]; rfl, ?_⟩
        exact below_put HBN.out HBN.out.size HP.out.2 (Nat.le_refl _)
end Go.Proofs.YtfdceljdhgbkcaaDoor

/- The document's better. -/
namespace Go.Proofs.YtfdceljdhgbkcaaDoor
open Go.RowKit
theorem btr_27 {sl : Bool} {c : Cm} {o : Option (List Int)} {K : List Int} (h : 27 ∈ K) : dBtr sl c o K = o := by unfold dBtr; rw [if_pos h]
theorem btr_n {sl : Bool} {c : Cm} {K : List Int} (h : 27 ∉ K) : dBtr sl c none K = if eqC (dRds sl K).1 c = true ∧ (dRds sl K).2 = 1 then some K else none := by unfold dBtr; rw [if_neg h]
theorem btr_s {sl : Bool} {c : Cm} {K : List Int} (l : List Int) (h : 27 ∉ K) : dBtr sl c (some l) K = if bfr K l = true then (if eqC (dRds sl K).1 c = true ∧ (dRds sl K).2 = 1 then some K else some l) else some l := by unfold dBtr; rw [if_neg h]
set_option maxRecDepth 100000 in
set_option maxHeartbeats 8000000 in
theorem r_better_any {b : Nat} {sl : Bool} (bv kv : Value) (o : Option (List Int)) (K : List Int) (c : Cm) (w : World) (hT : TbM w b sl) (hb : OptI w 0 bv o) (hk : OwnI w 0 kv K) (hK0 : K ≠ []) (hKl : K.length ≤ 20000) :
    Calls Tryd.prog 28 #[.pointer (some ⟨b, 0, none⟩), bv, kv, cmV c] w fun e w' => ∃ v, e = .returned v ∧ OptI w' 0 v (dBtr sl c o K) ∧ Below w.heap.size w w' := by
  obtain ⟨cr, cc, cv, cm, ca⟩ := c
  obtain ⟨RES, HX⟩ : ∃ R, Hid (R = dBtr sl ⟨cr, cc, cv, cm, ca⟩ o K) := ⟨_, hidIt rfl⟩
  rw [← HX.out]
  obtain ⟨ka, kc, rfl, _⟩ := hk.rds.len
  have HT := hidIt hT
  have HBV := hidIt hb
  have HK := hidIt hk
  have HK0 := hidIt hK0
  have HKL := hidIt hKl
  have hk9 : K.length ≤ 9223372036854775807 := by omega
  obtain ⟨w0, hw0⟩ : ∃ w0, w0 = w.alloc (.cells #[.int .i64 cr, .int .i64 cc, .int .i64 cv, .int .i64 cm, .int .i64 ca] 23) := ⟨_, rfl⟩
  have HB0 : Hid (Below w.heap.size w w0) := by unfold Hid; rw [hw0]; exact ext_alloc (Below.refl _ _) _
  have HR0 : Hid (w0.heap[w.heap.size]? = some (.cells #[.int .i64 cr, .int .i64 cc, .int .i64 cv, .int .i64 cm, .int .i64 ca] 23 (0, 0))) := by unfold Hid; rw [hw0]; exact heap_alloc_new _ _
  clear hT hb hk hK0 hKl
  go_enter Tryd.func28, Tryd.ntmps28
  go_upto_region 1 with fail
  rw [← hw0]
  clear hw0
  go_wp2_with fail
  go_loopw [9] (fun iv wr => ∃ p : Nat, p ≤ K.length ∧ iv = .int .i64 p ∧ Hid (27 ∉ K.take p) ∧ Hid (Below w0.heap.size w0 wr)) (fun iv _ => K.length - (RowKit.intOf iv).toNat)
  case atStart => exact ⟨0, Nat.zero_le _, rfl, by unfold Hid; simp, Below.refl _ _⟩
  case round =>
    obtain ⟨p, hp, rfl, HN, HBW⟩ := hrel
    by_cases hlt : p < K.length
    · have hltI : (p : Int) < (K.length : Int) := by omega
      obtain ⟨kb, ko, rfl, ck⟩ := rd_at (HK.out.ext (ext_trans HB0.out HBW.out)).rds hlt
      by_cases h27 : K[p]?.getD 0 = 27
      · have HXX : Hid (RES = o) := HX.out.trans (btr_27 (List.mem_of_getElem? (i := p) (by rw [List.getElem?_eq_getElem hlt] at h27 ⊢; exact congrArg some h27)))
        rw [h27] at ck
        clear h27
        have HBX := HBW
        go_wp2_with fail
        go_ret
        exact ⟨_, rfl, by rw [HXX.out]; exact HBV.out.ext (HB0.out.trans (HBX.out.mono HB0.out.size)), ext_trans HB0.out HBX.out⟩
      · have h27b : (K[p]?.getD 0 == 27) = false := by simpa using h27
        have HN2 : Hid (27 ∉ K.take (p + 1)) := by
          unfold Hid
          rw [List.take_add_one, List.getElem?_eq_getElem hlt]
          intro h
          rcases List.mem_append.1 h with h | h
          · exact HN.out h
          · rw [List.getElem?_eq_getElem hlt] at h27
            simp at h
            exact h27 h.symm
        generalize K[p]?.getD 0 = z at ck h27b
        clear h27
        go_wp2_with fail
        go_roundw
        case rel => exact ⟨p + 1, by omega, by go_num, HN2.out, HBW.out⟩
        case measure => simp [RowKit.intOf]; omega
    · obtain rfl : p = K.length := by omega
      have hge : ¬ (K.length : Int) < (K.length : Int) := by omega
      have HN2 : Hid (27 ∉ K) := by have := HN.out; rw [List.take_length] at this; exact this
      clear HN
      cases o with
      | none =>
        obtain rfl : bv = .slice none 0 0 := HBV.out
        replace HX := hidIt (HX.out.trans (btr_n HN2.out))
        go_upto_region 8 with fail
        have HRE := hidIt (r_Reads_any (.slice ka K.length kc) K wr (HT.out.ext (ext_trans HB0.out HBW.out)) (HK.out.ext (ext_trans HB0.out HBW.out)).rds HK0.out (by have := HKL.out; omega))
        generalize dRds sl K = X at HX HRE
        obtain ⟨⟨d0, d1, d2, d3, d4⟩, s9⟩ := X
        dsimp only at HX HRE
        go_upto_region 9 with (go_at_call 47; refine HRE.out.mono ?_; rintro e y ⟨rfl, hb⟩; (try dsimp only); have HBY := hidIt (ext_trans HBW.out hb); clear hb HRE)
        obtain ⟨w5, hw5⟩ : ∃ w5, w5 = y.alloc (.cells #[.int .i64 d0, .int .i64 d1, .int .i64 d2, .int .i64 d3, .int .i64 d4] 23) := ⟨_, rfl⟩
        rw [← hw5]
        have HBX : Hid (Below w0.heap.size w0 w5) := by unfold Hid; rw [hw5]; exact ext_alloc HBY.out _
        have HC5 : Hid (w5.heap[y.heap.size]? = some (.cells #[.int .i64 d0, .int .i64 d1, .int .i64 d2, .int .i64 d3, .int .i64 d4] 23 (0, 0))) := by unfold Hid; rw [hw5]; exact heap_alloc_new _ _
        have HR5 := hidIt ((HBX.out.block _ (Array.getElem?_eq_some_iff.1 HR0.out).1).trans HR0.out)
        clear hw5 HBY
        generalize y.heap.size = g5 at HC5 ⊢
        obtain ⟨_, e0, e1, e2, e3, e4, ef⟩ := cells5 HC5.out
        obtain ⟨_, r0, r1, r2, r3, r4, rf⟩ := cells5 HR5.out
        by_cases hs : s9 = 1
        · subst hs
          by_cases he : d0 = cr ∧ d1 = cc ∧ d2 = cv ∧ d3 = cm ∧ d4 = ca
          · obtain ⟨rfl, rfl, rfl, rfl, rfl⟩ := he
            have HXX : Hid (RES = some K) := by
              have := HX.out
              rw [if_pos ⟨eqC_iff.2 rfl, rfl⟩] at this
              exact this
            go_wp2_with fail
            go_ret
            exact ⟨.slice ka K.length kc, rfl, by rw [HXX.out]; exact ⟨HK.out.ext (ext_trans HB0.out HBX.out), HK0.out⟩, ext_trans HB0.out HBX.out⟩
          · have HXX : Hid (RES = none) := by
              have := HX.out
              rw [if_neg (fun h => he (by have := eqC_iff.1 h.1; injection this with a b c d e; exact ⟨a, b, c, d, e⟩))] at this
              exact this
            have HEN := hidIt he
            clear he
            go_wp2_with fail
            · exact absurd ⟨by assumption, by assumption, by assumption, by assumption, by assumption⟩ HEN.out
            all_goals
              go_ret
              exact ⟨(.slice none 0 0), rfl, by rw [HXX.out]; exact HBV.out.ext (HB0.out.trans (HBX.out.mono HB0.out.size)), ext_trans HB0.out HBX.out⟩
        · have hsb : (s9 != 1) = true := by simpa using hs
          have HXX : Hid (RES = none) := by
            have := HX.out
            rw [if_neg (fun h => hs h.2)] at this
            exact this
          clear hs
          go_wp2_with fail
          go_ret
          exact ⟨(.slice none 0 0), rfl, by rw [HXX.out]; exact HBV.out.ext (HB0.out.trans (HBX.out.mono HB0.out.size)), ext_trans HB0.out HBX.out⟩
      | some l =>
        obtain ⟨ba, bn, bc, rfl, hbr⟩ := HBV.out.some
        have HLE := hidIt (r_less_any (.slice ka K.length kc) (.slice (some ba) bn bc) K l wr (HK.out.ext (ext_trans HB0.out HBW.out)).rds (hbr.ext (ext_trans HB0.out HBW.out)))
        clear hbr
        replace HX := hidIt (HX.out.trans (btr_s l HN2.out))
        cases hbf : bfr K l with
        | false =>
          rw [hbf] at HX HLE
          have HXX : Hid (RES = some l) := HX.out
          clear hbf
          go_wp2_with (go_at_call 46; refine HLE.out.mono ?_; rintro e y ⟨rfl, hb⟩; (try dsimp only); have HBX := hidIt (ext_trans HBW.out hb); clear hb HLE)
          go_ret
          exact ⟨_, rfl, by rw [HXX.out]; exact HBV.out.ext (HB0.out.trans (HBX.out.mono HB0.out.size)), ext_trans HB0.out HBX.out⟩
        | true =>
          rw [hbf, if_pos rfl] at HX
          rw [hbf] at HLE
          clear hbf
          go_upto_region 8 with (go_at_call 46; refine HLE.out.mono ?_; rintro e y ⟨rfl, hb⟩; (try dsimp only); have HBX := hidIt (ext_trans HBW.out hb); clear hb HLE)
          clear HBW
          have HBW := HBX
          clear HBX
          obtain ⟨wr, rfl⟩ : ∃ wr, wr = y := ⟨_, rfl⟩
          have HRE := hidIt (r_Reads_any (.slice ka K.length kc) K wr (HT.out.ext (ext_trans HB0.out HBW.out)) (HK.out.ext (ext_trans HB0.out HBW.out)).rds HK0.out (by have := HKL.out; omega))
          generalize dRds sl K = X at HX HRE
          obtain ⟨⟨d0, d1, d2, d3, d4⟩, s9⟩ := X
          dsimp only at HX HRE
          go_upto_region 9 with (go_at_call 47; refine HRE.out.mono ?_; rintro e y ⟨rfl, hb⟩; (try dsimp only); have HBY := hidIt (ext_trans HBW.out hb); clear hb HRE)
          obtain ⟨w5, hw5⟩ : ∃ w5, w5 = y.alloc (.cells #[.int .i64 d0, .int .i64 d1, .int .i64 d2, .int .i64 d3, .int .i64 d4] 23) := ⟨_, rfl⟩
          rw [← hw5]
          have HBX : Hid (Below w0.heap.size w0 w5) := by unfold Hid; rw [hw5]; exact ext_alloc HBY.out _
          have HC5 : Hid (w5.heap[y.heap.size]? = some (.cells #[.int .i64 d0, .int .i64 d1, .int .i64 d2, .int .i64 d3, .int .i64 d4] 23 (0, 0))) := by unfold Hid; rw [hw5]; exact heap_alloc_new _ _
          have HR5 := hidIt ((HBX.out.block _ (Array.getElem?_eq_some_iff.1 HR0.out).1).trans HR0.out)
          clear hw5 HBY
          generalize y.heap.size = g5 at HC5 ⊢
          obtain ⟨_, e0, e1, e2, e3, e4, ef⟩ := cells5 HC5.out
          obtain ⟨_, r0, r1, r2, r3, r4, rf⟩ := cells5 HR5.out
          by_cases hs : s9 = 1
          · subst hs
            by_cases he : d0 = cr ∧ d1 = cc ∧ d2 = cv ∧ d3 = cm ∧ d4 = ca
            · obtain ⟨rfl, rfl, rfl, rfl, rfl⟩ := he
              have HXX : Hid (RES = some K) := by
                have := HX.out
                rw [if_pos ⟨eqC_iff.2 rfl, rfl⟩] at this
                exact this
              go_wp2_with fail
              go_ret
              exact ⟨.slice ka K.length kc, rfl, by rw [HXX.out]; exact ⟨HK.out.ext (ext_trans HB0.out HBX.out), HK0.out⟩, ext_trans HB0.out HBX.out⟩
            · have HXX : Hid (RES = some l) := by
                have := HX.out
                rw [if_neg (fun h => he (by have := eqC_iff.1 h.1; injection this with a b c d e; exact ⟨a, b, c, d, e⟩))] at this
                exact this
              have HEN := hidIt he
              clear he
              go_wp2_with fail
              · exact absurd ⟨by assumption, by assumption, by assumption, by assumption, by assumption⟩ HEN.out
              all_goals
                go_ret
                exact ⟨(.slice (some ba) bn bc), rfl, by rw [HXX.out]; exact HBV.out.ext (HB0.out.trans (HBX.out.mono HB0.out.size)), ext_trans HB0.out HBX.out⟩
          · have hsb : (s9 != 1) = true := by simpa using hs
            have HXX : Hid (RES = some l) := by
              have := HX.out
              rw [if_neg (fun h => hs h.2)] at this
              exact this
            clear hs
            go_wp2_with fail
            go_ret
            exact ⟨(.slice (some ba) bn bc), rfl, by rw [HXX.out]; exact HBV.out.ext (HB0.out.trans (HBX.out.mono HB0.out.size)), ext_trans HB0.out HBX.out⟩
end Go.Proofs.YtfdceljdhgbkcaaDoor
