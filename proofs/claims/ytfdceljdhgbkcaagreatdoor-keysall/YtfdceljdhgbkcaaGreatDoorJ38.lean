import Derived.Test.YtfdceljdhgbkcaaGreatDoorJ37
import Derived.Test.YtfdceljdhgbkcaaGreatDoorJ36
/- The document's Reads. -/
namespace Go.Proofs.YtfdceljdhgbkcaaGreatDoor
open Go.RowKit
theorem dNum_rng : ∀ (l : List Int) (n : Int), 0 ≤ n ∧ n ≤ 9999 → 0 ≤ (dNum n l).1 ∧ (dNum n l).1 ≤ 9999
  | [], _, h => h
  | k :: r, n, h => by
    rw [dNum]
    split
    · rename_i hk
      have := (dDig_iff k).1 hk
      exact dNum_rng r _ (by omega)
    · exact h
theorem dPre_rng : ∀ (f : Nat) (reg count : Int) (l : List Int), 0 ≤ count ∧ count ≤ 9999 → 0 ≤ (dPre f reg count l).2.1 ∧ (dPre f reg count l).2.1 ≤ 9999
  | 0, _, _, _, h => h
  | _ + 1, _, _, [], h => h
  | f + 1, reg, count, k :: r, h => by
    by_cases h34 : k = 34
    · subst h34
      cases r with
      | nil => simp only [dPre]; exact h
      | cons x r' =>
        by_cases hx : x = 0
        · simp only [dPre, if_pos hx]; exact h
        · simp only [dPre, if_pos, if_neg hx]
          exact dPre_rng f x count r' h
    · by_cases hd : dDig k = false ∨ k = 48
      · simp only [dPre, if_neg h34, if_pos hd]; exact h
      · simp only [dPre, if_neg h34, if_neg hd]
        exact dPre_rng f reg _ _ (dTms_rng h (dNum_rng _ _ (by omega)))
theorem dPrf_rng (l : List Int) : 0 ≤ (dPrf l).2.1 ∧ (dPrf l).2.1 ≤ 9999 := dPre_rng _ _ _ _ (by omega)
theorem range_drop {n p : Nat} (h : p < n) : (List.range n).drop p = p :: (List.range n).drop (p + 1) := by
  rw [List.drop_eq_getElem_cons (by simpa using h), List.getElem_range]
set_option maxRecDepth 100000 in
set_option maxHeartbeats 8000000 in
theorem r_Reads_any {b : Nat} {sl : Bool} (kv : Value) (l : List Int) (w : World) (hT : TbM w b sl) (hk : RdS w kv l) (hl0 : l ≠ []) (hll : l.length ≤ 1152921504606846976) :
    Calls Tryz.prog 22 #[.pointer (some ⟨b, 0, none⟩), kv] w fun e w' => e = .returned (.tuple #[cmV (dRds sl l).1, .int .i64 (dRds sl l).2]) ∧ Below w.heap.size w w' := by
  have hX : dRdi sl l (if ((dPrf l).2.2.1 || (dPrf l).2.2.2) = true then 0 else 2) (List.range l.length) = dRds sl l := rfl
  generalize dRds sl l = X at hX ⊢
  obtain ⟨la, lc, rfl, _⟩ := hk.len
  have hcap : l.length ≤ lc := by
    obtain ⟨⟨ao', cap', e, g1, _⟩, _⟩ := hk
    injection e with _ e2 e3
    omega
  obtain ⟨lb, lo, rfl, _⟩ := rd_at hk (List.length_pos_iff.2 hl0)
  have HT := hidIt hT
  have HK := hidIt hk
  have HX := hidIt hX
  obtain ⟨w0, hw0⟩ : ∃ w0, w0 = w.alloc (.cells #[.int .i64 0, .int .i64 0, .int .i64 0, .int .i64 0, .int .i64 0] 33) := ⟨_, rfl⟩
  have HB0 : Hid (Below w.heap.size w w0) := by unfold Hid; rw [hw0]; exact ext_alloc (Below.refl _ _) _
  have HR0 : Hid (w0.heap[w.heap.size]? = some (.cells #[.int .i64 0, .int .i64 0, .int .i64 0, .int .i64 0, .int .i64 0] 33 (0, 0))) := by unfold Hid; rw [hw0]; exact heap_alloc_new _ _
  have HPX := hidIt (r_prefixes_any _ l w0 (HK.out.ext HB0.out) hll)
  generalize dPrf l = P at HX HPX
  obtain ⟨p1, p2, p3, p4⟩ := P
  clear hX hT hk hl0
  go_enter Tryz.func22, Tryz.ntmps22
  go_upto_region 1 with fail
  rw [← hw0]
  clear hw0
  go_upto_region 3 with (go_at_call 45; refine HPX.out.mono ?_; rintro e y ⟨rfl, hb⟩; unfold PrV; (try dsimp only); have HBY := hidIt hb; clear hb HPX)
  dsimp only at HX
  go_cut [28] from 25 to 28 (fun cv wF => cv = .bool (p3 || p4) ∧ wF = y)
  case first =>
    cases p3
    · go_wp2_with fail
      go_meet
      case rel => exact ⟨rfl, rfl⟩
    · go_wp2_with fail
      go_meet
      case rel => exact ⟨rfl, rfl⟩
  case rest =>
   obtain ⟨rfl, hwc⟩ := hcut
   rw [hwc]
   clear hwc
   generalize (p3 || p4) = pp at HX ⊢
   cases pp
   all_goals
    go_wp2_with fail
    go_loopw [6, 11] (fun sv iv wr => ∃ (p : Nat) (s : Int), p ≤ l.length ∧ iv = .int .i64 p ∧ sv = .int .i64 s ∧ Hid (dRdi sl l s ((List.range l.length).drop p) = X) ∧ Hid (Below w0.heap.size w0 wr)) (fun _ iv _ => l.length - (RowKit.intOf iv).toNat)
    case atStart => exact ⟨0, _, Nat.zero_le _, rfl, rfl, by rw [List.drop_zero]; exact HX.out, HBY.out⟩
    case round =>
      obtain ⟨p, s, hp, rfl, rfl, HD, HBO⟩ := hrel
      have HBN : Hid (Below w.heap.size w wr) := ext_trans HB0.out HBO.out
      by_cases hlt : p < l.length
      · have hltI : (p : Int) < (l.length : Int) := by omega
        have hlcp : ¬ lc = p := by omega
        have hple : p ≤ lc := by omega
        rw [range_drop hlt, dRdi] at HD
        obtain ⟨b9, o9, e9, cp⟩ := rd_at (HK.out.ext HBN.out) hlt
        cases e9
        have HPX := hidIt (r_prefixes_any _ (l.take p) wr ((HK.out.ext HBN.out).upto (Nat.le_of_lt hlt)) (by rw [List.length_take]; omega))
        have HCT := hidIt (dPrf_rng (l.take p))
        have HEN : Hid (∀ y, Below w.heap.size w y → l.take p ≠ [] → Calls Tryz.prog 47 #[.slice (some ⟨lb, lo, none⟩) p lc] y fun e w' => e = .returned (.bool (dEnd (l.take p))) ∧ Below y.heap.size y w') := fun y hy hn => r_endsIn_any _ (l.take p) y ((HK.out.ext hy).upto (Nat.le_of_lt hlt)) (by rw [List.length_take]; omega) hn
        have HDG := hidIt (fun y => r_isDigit_any (l[p]?.getD 0) y)
        have HNE : Hid (0 < p → l.take p ≠ []) := fun h e => by have := congrArg List.length e; rw [List.length_take, List.length_nil] at this; omega
        generalize dPrf (l.take p) = P at HD HPX HCT
        obtain ⟨rg, ct, ok, op⟩ := P
        dsimp only at HD HCT
        have HCP : Hid (∀ y, Below wr.heap.size wr y → y.cell? ⟨lb, lo + p, none⟩ = some (.int .i64 (l[p]?.getD 0))) := fun y hy => (hy.cell (p := ⟨lb, lo + p, none⟩) (cell_lt cp)).trans cp
        clear cp
        go_upto_region 9 with (go_at_call 45; refine HPX.out.mono ?_; rintro e y ⟨rfl, hb⟩; unfold PrV; (try dsimp only); have HBY2 := hidIt hb; clear hb HPX)
        have cp := HCP.out y HBY2.out
        clear HCP
        cases ok
        · rw [if_pos (.inl rfl)] at HD
          go_wp2_with fail
          go_roundw
          case rel => exact ⟨p + 1, s, by omega, by go_num, rfl, HD.out, ext_trans HBO.out HBY2.out⟩
          case measure => simp [RowKit.intOf]; omega
        · by_cases hp0 : p = 0
          · have hpI : ¬ (p : Int) > 0 := by omega
            rw [if_neg (by rintro (h | ⟨h, _⟩); cases h; omega)] at HD
            clear hp0
            go_upto_region 10 with fail
            have HBW9 : Hid (Below w.heap.size w y) := ext_trans HBN.out HBY2.out
            have HBO9 : Hid (Below w0.heap.size w0 y) := ext_trans HBO.out HBY2.out
            have HROW := hidIt (r_row_any (.slice (some ⟨lb, lo + p, none⟩) (l.length - p) (lc - p)) (l.drop p) rg ct y (HT.out.ext HBW9.out) ((HK.out.ext HBW9.out).rest p hlt) (fun e => by have := congrArg List.length e; rw [List.length_drop, List.length_nil] at this; omega) (by rw [List.length_drop]; omega) HCT.out)
            generalize dRow sl (l.drop p) rg ct = x9 at HD HROW
            obtain ⟨⟨d0, d1, d2, d3, d4⟩, s9⟩ := x9
            dsimp only at HD HROW
            go_upto_region 11 with (go_at_call 48; refine HROW.out.mono ?_; rintro e y9 ⟨rfl, hb9⟩; (try dsimp only); have HB9 := hidIt hb9; clear hb9 HROW)
            obtain ⟨w5, hw5⟩ : ∃ w5, w5 = y9.alloc (.cells #[.int .i64 d0, .int .i64 d1, .int .i64 d2, .int .i64 d3, .int .i64 d4] 33) := ⟨_, rfl⟩
            rw [← hw5]
            have HB5 : Hid (Below w0.heap.size w0 w5) := by unfold Hid; rw [hw5]; exact ext_trans HBO9.out (ext_alloc HB9.out _)
            have HC5 : Hid (w5.heap[y9.heap.size]? = some (.cells #[.int .i64 d0, .int .i64 d1, .int .i64 d2, .int .i64 d3, .int .i64 d4] 33 (0, 0))) := by unfold Hid; rw [hw5]; exact heap_alloc_new _ _
            clear hw5 HB9
            generalize y9.heap.size = g5 at HC5 ⊢
            by_cases h1 : s9 = 1
            · subst h1
              rw [if_pos rfl] at HD
              have HRZ := hidIt ((HB5.out.block _ (Array.getElem?_eq_some_iff.1 HR0.out).1).trans HR0.out)
              obtain ⟨_, f0, f1, f2, f3, f4, ff⟩ := cells5 HC5.out
              obtain ⟨_, r0, r1, r2, r3, r4, rf⟩ := cells5 HRZ.out
              have HP := hidIt (put5 HRZ.out (.int .i64 d0) (.int .i64 d1) (.int .i64 d2) (.int .i64 d3) (.int .i64 d4))
              have HBF : Hid (Below w.heap.size w w5) := ext_trans HB0.out HB5.out
              go_wp2_with fail
              refine bodyPost_ret (v := .tuple #[.agg #[.int .i64 d0, .int .i64 d1, .int .i64 d2, .int .i64 d3, .int .i64 d4], .int .i64 1]) (by simp [results, Tryz.results22, go_sem, r0, r1, r2, r3, r4]) rfl ⟨by rw [← HD.out], ?_⟩
              exact below_put HBF.out HBF.out.size HP.out.2 (Nat.le_refl _)
            · have h1b : (s9 == 1) = false := by simpa using h1
              rw [if_neg h1] at HD
              by_cases h0 : s9 = 0
              · subst h0
                rw [if_pos rfl] at HD
                clear h1
                go_wp2_with fail
                go_roundw
                case rel => exact ⟨p + 1, 0, by omega, by go_num, rfl, HD.out, HB5.out⟩
                case measure => simp [RowKit.intOf]; omega
              · have h0b : (s9 == 0) = false := by simpa using h0
                rw [if_neg h0] at HD
                clear h1 h0
                go_wp2_with fail
                go_roundw
                case rel => exact ⟨p + 1, s, by omega, by go_num, rfl, HD.out, HB5.out⟩
                case measure => simp [RowKit.intOf]; omega
          · have hpI : (p : Int) > 0 := by omega
            clear hp0
            cases hdg : dDig (l[p]?.getD 0) with
            | false =>
              rw [hdg] at HDG
              rw [if_neg (by rintro (h | ⟨_, h, _⟩); cases h; rw [hdg] at h; cases h)] at HD
              generalize l[p]?.getD 0 = z at HDG cp
              clear hdg
              go_upto_region 10 with (go_at_call 46; refine (HDG.out _).mono ?_; rintro e y2 ⟨rfl, hy⟩; rw [hy]; clear hy; (try dsimp only))
              have HBW9 : Hid (Below w.heap.size w y) := ext_trans HBN.out HBY2.out
              have HBO9 : Hid (Below w0.heap.size w0 y) := ext_trans HBO.out HBY2.out
              have HROW := hidIt (r_row_any (.slice (some ⟨lb, lo + p, none⟩) (l.length - p) (lc - p)) (l.drop p) rg ct y (HT.out.ext HBW9.out) ((HK.out.ext HBW9.out).rest p hlt) (fun e => by have := congrArg List.length e; rw [List.length_drop, List.length_nil] at this; omega) (by rw [List.length_drop]; omega) HCT.out)
              generalize dRow sl (l.drop p) rg ct = x9 at HD HROW
              obtain ⟨⟨d0, d1, d2, d3, d4⟩, s9⟩ := x9
              dsimp only at HD HROW
              go_upto_region 11 with (go_at_call 48; refine HROW.out.mono ?_; rintro e y9 ⟨rfl, hb9⟩; (try dsimp only); have HB9 := hidIt hb9; clear hb9 HROW)
              obtain ⟨w5, hw5⟩ : ∃ w5, w5 = y9.alloc (.cells #[.int .i64 d0, .int .i64 d1, .int .i64 d2, .int .i64 d3, .int .i64 d4] 33) := ⟨_, rfl⟩
              rw [← hw5]
              have HB5 : Hid (Below w0.heap.size w0 w5) := by unfold Hid; rw [hw5]; exact ext_trans HBO9.out (ext_alloc HB9.out _)
              have HC5 : Hid (w5.heap[y9.heap.size]? = some (.cells #[.int .i64 d0, .int .i64 d1, .int .i64 d2, .int .i64 d3, .int .i64 d4] 33 (0, 0))) := by unfold Hid; rw [hw5]; exact heap_alloc_new _ _
              clear hw5 HB9
              generalize y9.heap.size = g5 at HC5 ⊢
              by_cases h1 : s9 = 1
              · subst h1
                rw [if_pos rfl] at HD
                have HRZ := hidIt ((HB5.out.block _ (Array.getElem?_eq_some_iff.1 HR0.out).1).trans HR0.out)
                obtain ⟨_, f0, f1, f2, f3, f4, ff⟩ := cells5 HC5.out
                obtain ⟨_, r0, r1, r2, r3, r4, rf⟩ := cells5 HRZ.out
                have HP := hidIt (put5 HRZ.out (.int .i64 d0) (.int .i64 d1) (.int .i64 d2) (.int .i64 d3) (.int .i64 d4))
                have HBF : Hid (Below w.heap.size w w5) := ext_trans HB0.out HB5.out
                go_wp2_with fail
                refine bodyPost_ret (v := .tuple #[.agg #[.int .i64 d0, .int .i64 d1, .int .i64 d2, .int .i64 d3, .int .i64 d4], .int .i64 1]) (by simp [results, Tryz.results22, go_sem, r0, r1, r2, r3, r4]) rfl ⟨by rw [← HD.out], ?_⟩
                exact below_put HBF.out HBF.out.size HP.out.2 (Nat.le_refl _)
              · have h1b : (s9 == 1) = false := by simpa using h1
                rw [if_neg h1] at HD
                by_cases h0 : s9 = 0
                · subst h0
                  rw [if_pos rfl] at HD
                  clear h1
                  go_wp2_with fail
                  go_roundw
                  case rel => exact ⟨p + 1, 0, by omega, by go_num, rfl, HD.out, HB5.out⟩
                  case measure => simp [RowKit.intOf]; omega
                · have h0b : (s9 == 0) = false := by simpa using h0
                  rw [if_neg h0] at HD
                  clear h1 h0
                  go_wp2_with fail
                  go_roundw
                  case rel => exact ⟨p + 1, s, by omega, by go_num, rfl, HD.out, HB5.out⟩
                  case measure => simp [RowKit.intOf]; omega
            | true =>
              rw [hdg] at HDG
              have HE2 := hidIt (HEN.out y (ext_trans HBN.out HBY2.out) (HNE.out (by omega)))
              cases hen : dEnd (l.take p) with
              | true =>
                rw [hen] at HE2
                rw [if_pos (.inr ⟨by omega, hdg, hen⟩)] at HD
                generalize l[p]?.getD 0 = z at HDG cp
                clear hdg hen
                go_wp2_with (first | (go_at_call 46; refine (HDG.out _).mono ?_; rintro e y2 ⟨rfl, hy⟩; rw [hy]; clear hy; (try dsimp only)) | (go_at_call 47; refine HE2.out.mono ?_; rintro e y3 ⟨rfl, hb3⟩; (try dsimp only); have HB3 := hidIt (ext_trans HBY2.out hb3); clear hb3))
                go_roundw
                case rel => exact ⟨p + 1, s, by omega, by go_num, rfl, HD.out, ext_trans HBO.out HB3.out⟩
                case measure => simp [RowKit.intOf]; omega
              | false =>
                rw [hen] at HE2
                rw [if_neg (by rintro (h | ⟨_, _, h⟩); cases h; rw [hen] at h; cases h)] at HD
                generalize l[p]?.getD 0 = z at HDG cp
                clear hdg hen
                go_upto_region 10 with (first | (go_at_call 46; refine (HDG.out _).mono ?_; rintro e y2 ⟨rfl, hy⟩; rw [hy]; clear hy; (try dsimp only)) | (go_at_call 47; refine HE2.out.mono ?_; rintro e y3 ⟨rfl, hb3⟩; (try dsimp only); have HB3 := hidIt (ext_trans HBY2.out hb3); clear hb3))
                have HBW9 : Hid (Below w.heap.size w y3) := ext_trans HBN.out HB3.out
                have HBO9 : Hid (Below w0.heap.size w0 y3) := ext_trans HBO.out HB3.out
                have HROW := hidIt (r_row_any (.slice (some ⟨lb, lo + p, none⟩) (l.length - p) (lc - p)) (l.drop p) rg ct y3 (HT.out.ext HBW9.out) ((HK.out.ext HBW9.out).rest p hlt) (fun e => by have := congrArg List.length e; rw [List.length_drop, List.length_nil] at this; omega) (by rw [List.length_drop]; omega) HCT.out)
                generalize dRow sl (l.drop p) rg ct = x9 at HD HROW
                obtain ⟨⟨d0, d1, d2, d3, d4⟩, s9⟩ := x9
                dsimp only at HD HROW
                go_upto_region 11 with (go_at_call 48; refine HROW.out.mono ?_; rintro e y9 ⟨rfl, hb9⟩; (try dsimp only); have HB9 := hidIt hb9; clear hb9 HROW)
                obtain ⟨w5, hw5⟩ : ∃ w5, w5 = y9.alloc (.cells #[.int .i64 d0, .int .i64 d1, .int .i64 d2, .int .i64 d3, .int .i64 d4] 33) := ⟨_, rfl⟩
                rw [← hw5]
                have HB5 : Hid (Below w0.heap.size w0 w5) := by unfold Hid; rw [hw5]; exact ext_trans HBO9.out (ext_alloc HB9.out _)
                have HC5 : Hid (w5.heap[y9.heap.size]? = some (.cells #[.int .i64 d0, .int .i64 d1, .int .i64 d2, .int .i64 d3, .int .i64 d4] 33 (0, 0))) := by unfold Hid; rw [hw5]; exact heap_alloc_new _ _
                clear hw5 HB9
                generalize y9.heap.size = g5 at HC5 ⊢
                by_cases h1 : s9 = 1
                · subst h1
                  rw [if_pos rfl] at HD
                  have HRZ := hidIt ((HB5.out.block _ (Array.getElem?_eq_some_iff.1 HR0.out).1).trans HR0.out)
                  obtain ⟨_, f0, f1, f2, f3, f4, ff⟩ := cells5 HC5.out
                  obtain ⟨_, r0, r1, r2, r3, r4, rf⟩ := cells5 HRZ.out
                  have HP := hidIt (put5 HRZ.out (.int .i64 d0) (.int .i64 d1) (.int .i64 d2) (.int .i64 d3) (.int .i64 d4))
                  have HBF : Hid (Below w.heap.size w w5) := ext_trans HB0.out HB5.out
                  go_wp2_with fail
                  refine bodyPost_ret (v := .tuple #[.agg #[.int .i64 d0, .int .i64 d1, .int .i64 d2, .int .i64 d3, .int .i64 d4], .int .i64 1]) (by simp [results, Tryz.results22, go_sem, r0, r1, r2, r3, r4]) rfl ⟨by rw [← HD.out], ?_⟩
                  exact below_put HBF.out HBF.out.size HP.out.2 (Nat.le_refl _)
                · have h1b : (s9 == 1) = false := by simpa using h1
                  rw [if_neg h1] at HD
                  by_cases h0 : s9 = 0
                  · subst h0
                    rw [if_pos rfl] at HD
                    clear h1
                    go_wp2_with fail
                    go_roundw
                    case rel => exact ⟨p + 1, 0, by omega, by go_num, rfl, HD.out, HB5.out⟩
                    case measure => simp [RowKit.intOf]; omega
                  · have h0b : (s9 == 0) = false := by simpa using h0
                    rw [if_neg h0] at HD
                    clear h1 h0
                    go_wp2_with fail
                    go_roundw
                    case rel => exact ⟨p + 1, s, by omega, by go_num, rfl, HD.out, HB5.out⟩
                    case measure => simp [RowKit.intOf]; omega
      · have hltI : ¬ (p : Int) < (l.length : Int) := by omega
        have HDX : Hid (X = (cmZ, s)) := by
          have := HD.out
          rw [List.drop_of_length_le (by rw [List.length_range]; omega), dRdi] at this
          exact this.symm
        have HRZ := hidIt ((HBO.out.block _ (Array.getElem?_eq_some_iff.1 HR0.out).1).trans HR0.out)
        obtain ⟨_, r0, r1, r2, r3, r4, rf⟩ := cells5 HRZ.out
        have HP := hidIt (put5 HRZ.out (.int .i64 0) (.int .i64 0) (.int .i64 0) (.int .i64 0) (.int .i64 0))
        go_wp2_with fail
        refine bodyPost_ret (v := .tuple #[.agg #[.int .i64 0, .int .i64 0, .int .i64 0, .int .i64 0, .int .i64 0], .int .i64 s]) (by simp [results, Tryz.results22, go_sem, r0, r1, r2, r3, r4]) rfl ⟨by rw [HDX.out]; rfl, ?_⟩
        exact below_put HBN.out HBN.out.size HP.out.2 (Nat.le_refl _)
end Go.Proofs.YtfdceljdhgbkcaaGreatDoor

/- The document's parser: Selects, New, Reset. -/
namespace Go.Proofs.YtfdceljdhgbkcaaGreatDoor
open Go.RowKit
set_option maxRecDepth 100000 in
set_option maxHeartbeats 1000000 in
theorem r_Selects_any (mode : Int) (w : World) : Calls Tryz.prog 21 #[.int .i64 mode] w fun e w' => e = .returned (.bool (isl mode)) ∧ w' = w := by
  by_cases h3 : mode = 3
  · subst h3
    go_enter Tryz.func21, Tryz.ntmps21
    go_wp2
    go_ret
    exact ⟨rfl, rfl⟩
  · have h3b : (mode == 3) = false := by simpa using h3
    have HE : Hid (isl mode = (mode == 4)) := by unfold Hid isl; rw [h3b, Bool.false_or]
    clear h3
    go_enter Tryz.func21, Tryz.ntmps21
    go_wp2
    go_ret
    exact ⟨by rw [HE.out]; rfl, rfl⟩
/-- The document's parser in memory: its two tables, its pending keys, whether they came in a selection. -/
structure DpM (w : World) (b : Nat) (sl : Bool) (pv : Value) (ks : List Int) : Prop where
  ex : ∃ b0 b1, w.heap[b]? = some (.cells #[.pointer (some ⟨b0, 0, none⟩), .pointer (some ⟨b1, 0, none⟩), pv, .bool sl] 40 (0, 0)) ∧ TbM w b0 false ∧ TbM w b1 true
  rd : RdS w pv ks
set_option maxRecDepth 100000 in
set_option maxHeartbeats 2000000 in
theorem r_New_any (w : World) : Calls Tryz.prog 7 #[] w fun e w' => ∃ b, e = .returned (.pointer (some ⟨b, 0, none⟩)) ∧ w.heap.size ≤ b ∧ DpM w' b false (.slice none 0 0) [] ∧ Below w.heap.size w w' := by
  go_enter Tryz.func7, Tryz.ntmps7
  go_wp2_with fail
  go_at_call 15
  refine (r_Of_false _).mono ?_
  rintro e y1 ⟨b0, rfl, hb0, ht0, hl0⟩
  (try dsimp only)
  have HT0 := hidIt ht0
  have HL0 := hidIt hl0
  clear ht0 hl0
  go_wp2_with fail
  go_at_call 15
  refine (r_Of_true _).mono ?_
  rintro e y2 ⟨b1, rfl, hb1, ht1, hl1⟩
  (try dsimp only)
  have HT1 := hidIt ht1
  have HL1 := hidIt hl1
  clear ht1 hl1
  go_wp2_with fail
  go_ret
  have hb : Below y2.heap.size y2 (y2.alloc (.cells #[.pointer (some ⟨b0, 0, none⟩), .pointer (some ⟨b1, 0, none⟩), .slice none 0 0, .bool false] 40)) := ext_alloc (Below.refl _ _) _
  exact ⟨y2.heap.size, rfl, Nat.le_trans HL0.out.size HL1.out.size, ⟨⟨b0, b1, heap_alloc_new _ _, (HT0.out.ext HL1.out).ext hb, HT1.out.ext hb⟩, (OwnI.nil _ 0).rds⟩, ext_trans (ext_trans HL0.out HL1.out) hb⟩
end Go.Proofs.YtfdceljdhgbkcaaGreatDoor
