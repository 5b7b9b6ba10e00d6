/- RegisterLast, as a walk. -/
import Derived.Test.YtmldfjhfgaggpaaGBnk
import Derived.Deep.CutRange
namespace Go.Proofs.Ytmldfjhfgaggpaa
open Go.RowKit

def ownB (n : Int) : Bool := smB n || dgB n || n == 45 || n == 34 || n == 0
theorem own_cases {n : Int} (h : ownB n = true) : (97 ≤ n ∧ n ≤ 122) ∨ (48 ≤ n ∧ n ≤ 57) ∨ n = 45 ∨ n = 34 ∨ n = 0 := by
  unfold ownB smB dgB at h
  simp at h
  omega
theorem not_own {n : Int} (h : ownB n = false) : ¬ (97 ≤ n ∧ n ≤ 122) ∧ ¬ (48 ≤ n ∧ n ≤ 57) ∧ n ≠ 45 ∧ n ≠ 34 ∧ n ≠ 0 := by
  unfold ownB smB dgB at h
  simp at h
  omega
/-- A register that may be named alone: what is in it is found by it and by the unnamed one. -/
theorem plain_name {q : Int} (h : (97 ≤ q ∧ q ≤ 122) ∨ (48 ≤ q ∧ q ≤ 57) ∨ q = 45) : grB q = false ∧ unB q = false ∧ nmB q = true ∧ rdB q = false ∧ sml q = q ∧ (q == 95) = false := by
  have h1 : grB q = false := by unfold grB; simp; omega
  refine ⟨h1, by unfold unB; simp; omega, ?_, by unfold rdB; simp; omega, by unfold sml; rw [h1]; rfl, by simp; omega⟩
  unfold nmB smB dgB
  rcases h with h | h | h
  · simp [h.1, h.2]
  · simp [h.1, h.2]
  · simp [h]
theorem get_plain {m : Int → Option Rg} {q : Int} {x : Rg} (h : (97 ≤ q ∧ q ≤ 122) ∨ (48 ≤ q ∧ q ≤ 57) ∨ q = 45) (hm : m q = some x) : getB m q q = (0, some x) ∧ getB m q 0 = (0, some x) ∧ getB m q 34 = (0, some x) := by
  obtain ⟨h1, h2, h3, _, h5, _⟩ := plain_name h
  refine ⟨?_, ?_, ?_⟩
  · unfold getB; rw [h3, h2]; simp only [if_true, Bool.false_eq_true, if_false]; rw [h5, hm]
  · unfold getB; rw [show nmB 0 = true by decide, show unB 0 = true by decide]; simp only [if_true]; rw [h5, hm]
  · unfold getB; rw [show nmB 34 = true by decide, show unB 34 = true by decide]; simp only [if_true]; rw [h5, hm]
theorem wrtn_plain {m : Int → Option Rg} {q : Int} {r : Rg} (h : grB q = false) (hl : r.t.length ≤ 100000) : wrtn m q r = some ⟨r.k, cls r.k r.t⟩ := by
  have hn : nxt m q r = ⟨r.k, cls r.k r.t⟩ := by
    unfold nxt
    cases m (sml q) with
    | none => rfl
    | some own => simp [h]
  unfold wrtn
  have := (cls_len r.k r.t).2
  rw [hn, if_neg (by dsimp only; omega)]
theorem nil_not {r : Rg} (h : r.t ≠ []) : nil? r = false := by
  unfold nil?
  have : ((r.t.length : Int) == 0) = false := by simp [h]
  rw [this]
  simp
theorem take_plain {s : Bs} {q : Int} {r : Rg} (h : (97 ≤ q ∧ q ≤ 122) ∨ (48 ≤ q ∧ q ≤ 57) ∨ q = 45) (hr : r.t ≠ []) (hl : r.t.length ≤ 100000) : takeB s q r = (0, ⟨upd s.m q (some ⟨r.k, cls r.k r.t⟩), q⟩) := by
  obtain ⟨h1, _, _, _, h5, h6⟩ := plain_name h
  rw [takeB_some (by rw [h6, nil_not hr]; rfl) (wrtn_plain h1 hl), h5]
theorem upd_at (m : Int → Option Rg) (q : Int) (o : Option Rg) : upd m q o q = o := by unfold upd; rw [if_pos rfl]
theorem ref_own {n k : Int} (h : ownB n = true) (hk : k = 0 ∨ k = 1) : refE n k = 0 := by
  have hk' : (k != 0 && k != 1) = false := by rcases hk with rfl | rfl <;> rfl
  unfold refE
  rcases own_cases h with h | h | h | h | h
  · obtain ⟨_, _, h3, h4, _⟩ := plain_name (.inl h); rw [h3, h4, hk']; rfl
  · obtain ⟨_, _, h3, h4, _⟩ := plain_name (.inr (.inl h)); rw [h3, h4, hk']; rfl
  · obtain ⟨_, _, h3, h4, _⟩ := plain_name (.inr (.inr h)); rw [h3, h4, hk']; rfl
  · rw [h, show nmB 34 = true by decide, show rdB 34 = false by decide, hk']; rfl
  · rw [h, show nmB 0 = true by decide, show rdB 0 = false by decide, hk']; rfl
theorem own_split {n : Int} (h : ownB n = true) : (unB n = false ∧ ((97 ≤ n ∧ n ≤ 122) ∨ (48 ≤ n ∧ n ≤ 57) ∨ n = 45)) ∨ (unB n = true ∧ (n = 34 ∨ n = 0)) := by
  rcases own_cases h with h | h | h | h | h
  · exact .inl ⟨(plain_name (.inl h)).2.1, .inl h⟩
  · exact .inl ⟨(plain_name (.inr (.inl h))).2.1, .inr (.inl h)⟩
  · exact .inl ⟨(plain_name (.inr (.inr h))).2.1, .inr (.inr h)⟩
  · exact .inr ⟨by rw [h]; decide, .inl h⟩
  · exact .inr ⟨by rw [h]; decide, .inr h⟩
def fy (n : Int) : Int := if unB n = true then 48 else n
def fd (n k : Int) (t : List Int) : Int := if unB n = true then (if (k == 1 || t.any brB) = true then 49 else 45) else n
theorem last_yank (s : Bs) (n k : Int) (t : List Int) (h : ownB n = true) (hk : k = 0 ∨ k = 1) (ht : t ≠ []) (hl : t.length ≤ 100000) :
    ∃ s' : Bs, yankB s n ⟨k, t⟩ = (0, s') ∧ getB s'.m s'.p (fy n) = (0, some ⟨k, cls k t⟩) ∧ getB s'.m s'.p 0 = (0, some ⟨k, cls k t⟩) ∧ getB s'.m s'.p 34 = (0, some ⟨k, cls k t⟩) := by
  unfold yankB fy
  rw [if_pos (ref_own h hk)]
  rcases own_split h with ⟨hu, hn⟩ | ⟨hu, hn⟩
  · rw [hu]
    simp only [Bool.false_eq_true, if_false]
    rw [take_plain (s := s) (r := ⟨k, t⟩) hn ht hl]
    exact ⟨_, rfl, get_plain hn (upd_at _ _ _)⟩
  · rw [hu]
    simp only [if_true]
    rw [take_plain (s := s) (q := 48) (r := ⟨k, t⟩) (.inr (.inl ⟨by omega, by omega⟩)) ht hl]
    refine ⟨_, rfl, ?_⟩
    dsimp only
    exact get_plain (q := 48) (.inr (.inl ⟨by omega, by omega⟩)) (upd_at _ _ _)
theorem last_del (s : Bs) (n k : Int) (t : List Int) (h : ownB n = true) (hk : k = 0 ∨ k = 1) (ht : t ≠ []) (hl : t.length ≤ 100000) :
    ∃ s' : Bs, deleteB s n ⟨k, t⟩ = (0, s') ∧ getB s'.m s'.p (fd n k t) = (0, some ⟨k, cls k t⟩) ∧ getB s'.m s'.p 0 = (0, some ⟨k, cls k t⟩) ∧ getB s'.m s'.p 34 = (0, some ⟨k, cls k t⟩) := by
  unfold deleteB fd
  rw [if_pos (ref_own h hk)]
  rcases own_split h with ⟨hu, hn⟩ | ⟨hu, hn⟩
  · rw [hu]
    simp only [Bool.false_eq_true, if_false]
    rw [take_plain (s := s) (r := ⟨k, t⟩) hn ht hl]
    exact ⟨_, rfl, get_plain hn (upd_at _ _ _)⟩
  · rw [hu]
    simp only [if_true]
    by_cases hw : (k == 1 || t.any brB) = true
    · rw [if_pos hw, if_pos hw]
      unfold ringB
      rw [wrtn_plain (r := ⟨k, t⟩) (by decide) hl]
      refine ⟨_, rfl, ?_⟩
      dsimp only
      exact get_plain (q := 49) (.inr (.inl ⟨by omega, by omega⟩)) (upd_at _ _ _)
    · rw [if_neg hw, if_neg hw, take_plain (s := s) (q := 45) (r := ⟨k, t⟩) (.inr (.inr rfl)) ht hl]
      refine ⟨_, rfl, ?_⟩
      dsimp only
      exact get_plain (q := 45) (.inr (.inr rfl)) (upd_at _ _ _)

set_option maxRecDepth 100000 in
set_option maxHeartbeats 8000000 in
theorem last_any (v : Value) (xs : List Sv) (n k : Int) (u : Value) (t : List Int) (y : Bool) (w : World) (h : RdT w v xs) (ht : RdS w u t) (hn : In64 n) (htl8 : t.length * 8 ≤ 140737488351232) :
    Calls Try.prog 5 #[v, .int .i64 n, .int .i64 k, u, .bool y] w fun e w' => e = .returned (.bool true) ∧ Below w.heap.size w w' := by
  have AB := hidIt (able_any w)
  have H := hidIt h
  have HT := hidIt ht
  have HNI := hidIt hn
  have HTL := hidIt htl8
  have hxl : xs.length ≤ 140737488351232 := by obtain ⟨_, _, _, _, _, h4, _⟩ := h; exact h4
  obtain ⟨ut, uc, rfl, _⟩ := ht.len
  clear h ht hn
  cases hown : ownB n
  · obtain ⟨e1, e2, e3, e4, e5⟩ := not_own hown
    go_enter Try.func5, Try.ntmps5
    go_upto_region 3 with (go_at_call 12; refine AB.out.mono ?_; rintro e w1 ⟨rfl, hb1⟩; have HB1 := hidIt hb1; clear hb1; (try dsimp only))
    go_cut [11] from 21 to 46 (fun o wF => o = .bool false ∧ w1 = wF)
    case first =>
      have b45 : (n == 45) = false := by simp [e3]
      have b34 : (n == 34) = false := by simp [e4]
      have b0 : (n == 0) = false := by simp [e5]
      clear e3 e4 e5
      by_cases h1 : n ≥ 97
      · have h2 : ¬ n ≤ 122 := by omega
        have h3 : n ≥ 48 := by omega
        have h4 : ¬ n ≤ 57 := by omega
        go_wp2_with fail
        go_meet
        case rel => exact ⟨rfl, rfl⟩
      · by_cases h3 : n ≥ 48
        · have h4 : ¬ n ≤ 57 := by omega
          go_wp2_with fail
          go_meet
          case rel => exact ⟨rfl, rfl⟩
        · go_wp2_with fail
          go_meet
          case rel => exact ⟨rfl, rfl⟩
    obtain ⟨rfl, rfl⟩ := hcut
    go_wp2_with fail
    go_ret
    exact ⟨rfl, HB1.out⟩
  go_enter Try.func5, Try.ntmps5
  go_upto_region 3 with (go_at_call 12; refine AB.out.mono ?_; rintro e w1 ⟨rfl, hb1⟩; have HB1 := hidIt hb1; clear hb1; (try dsimp only))
  go_cut [11] from 21 to 46 (fun o wF => o = .bool true ∧ w1 = wF)
  case first =>
    rcases own_cases hown with hh | hh | hh | hh | hh
    · have h1 : n ≥ 97 := hh.1
      have h2 : n ≤ 122 := hh.2
      clear hh hown
      go_wp2_with fail
      go_meet
      case rel => exact ⟨rfl, rfl⟩
    · have h1 : ¬ n ≥ 97 := by omega
      have h2 : n ≥ 48 := hh.1
      have h3 : n ≤ 57 := hh.2
      clear hh hown
      go_wp2_with fail
      go_meet
      case rel => exact ⟨rfl, rfl⟩
    · subst hh
      go_wp2_with fail
      go_meet
      case rel => exact ⟨rfl, rfl⟩
    · subst hh
      go_wp2_with fail
      go_meet
      case rel => exact ⟨rfl, rfl⟩
    · subst hh
      go_wp2_with fail
      go_meet
      case rel => exact ⟨rfl, rfl⟩
  obtain ⟨rfl, rfl⟩ := hcut
  generalize hgn : t.length = tn at *
  go_upto_region 4 with fail
  go_cut [66] from 47 to 65 (fun o wF => ∃ bb : Bool, o = .bool bb ∧ (bb = false → (k = 0 ∨ k = 1) ∧ tn ≠ 0 ∧ tn ≤ 100000) ∧ w1 = wF)
  case first =>
    have hz : ∃ z : Bool, ((tn : Int) == 0) = z ∧ (z = false → tn ≠ 0) := ⟨_, rfl, fun e => by simpa using e⟩
    obtain ⟨z, hz, hz2⟩ := hz
    have HZ2 := hidIt hz2
    clear hz2
    by_cases hk0 : k = 0
    · subst hk0
      cases z
      · have HZ3 := hidIt (HZ2.out rfl)
        by_cases hbig : (tn : Int) > 100000
        · go_wp2_with fail
          go_meet
          case rel => exact ⟨true, rfl, (fun e => by cases e), rfl⟩
        · go_wp2_with fail
          go_meet
          case rel => exact ⟨false, rfl, (fun _ => ⟨by simp, HZ3.out, by omega⟩), rfl⟩
      · go_wp2_with fail
        go_meet
        case rel => exact ⟨true, rfl, (fun e => by cases e), rfl⟩
    · have hb0 : (k != 0) = true := by simp [hk0]
      by_cases hk1 : k = 1
      · subst hk1
        cases z
        · have HZ3 := hidIt (HZ2.out rfl)
          by_cases hbig : (tn : Int) > 100000
          · go_wp2_with fail
            go_meet
            case rel => exact ⟨true, rfl, (fun e => by cases e), rfl⟩
          · go_wp2_with fail
            go_meet
            case rel => exact ⟨false, rfl, (fun _ => ⟨by simp, HZ3.out, by omega⟩), rfl⟩
        · go_wp2_with fail
          go_meet
          case rel => exact ⟨true, rfl, (fun e => by cases e), rfl⟩
      · have hb1 : (k != 1) = true := by simp [hk1]
        go_wp2_with fail
        go_meet
        case rel => exact ⟨true, rfl, (fun e => by cases e), rfl⟩
  obtain ⟨bb, rfl, hbb, rfl⟩ := hcut
  cases bb
  case true =>
    go_wp2_with fail
    go_ret
    exact ⟨rfl, HB1.out⟩
  obtain ⟨hk, htn0, htn1⟩ := hbb rfl
  clear hbb
  subst hgn
  have htne : t ≠ [] := by intro e; rw [e] at htn0; exact htn0 rfl
  have htl : t.length ≤ 100000 := htn1
  have BA := hidIt (bank_any v xs w1 (H.out.ext HB1.out))
  go_upto_region 9 with (go_at_call 13; refine BA.out.mono ?_; rintro e w2 ⟨b, bm, rfl, ⟨s, hbk⟩, h1, h2, hb⟩; have HB2 := hidIt (ext_trans HB1.out hb); have HBK2 := hidIt hbk; have HBB := hidIt (show w.heap.size ≤ b ∧ w.heap.size ≤ bm from ⟨Nat.le_trans HB1.out.size h1, Nat.le_trans HB1.out.size h2⟩); clear hb hbk h1 h2; (try dsimp only))
  go_upto_region 10 with (at_builtin; refine wpl_ints rfl _ _ 29 rfl w2.heap.size Try.info_i64 Try.underlying29 _ [] rfl (OwnI.nil _ _) _ t rfl (HT.out.ext HB2.out) (by simp; omega) (Nat.le_refl _) ?_; intro v3 w3 own3 hb3; obtain ⟨a3, n3, c3, e3⟩ := own3.form; subst e3; have HV3 := hidIt (show OwnI w3 w2.heap.size (.slice a3 n3 c3) t from own3); have HB3 := hidIt hb3; clear own3 hb3)
  generalize hw4 : World.alloc _ _ = w4
  have HB34 : Hid (Below w3.heap.size w3 w4) := by unfold Hid; rw [← hw4]; exact ext_alloc (Below.refl _ _) _
  have HK4 : Hid (w4.heap[w3.heap.size]? = some (.cells #[.int .i64 k, .slice a3 n3 c3] 31 (0, 0))) := by unfold Hid; rw [← hw4]; exact heap_alloc_new _ _
  clear hw4
  have HB24 := hidIt (ext_trans HB3.out HB34.out)
  have HB4 := hidIt (ext_trans HB2.out HB24.out)
  have HBK4 := hidIt (HBK2.out.ext HB24.out)
  obtain ⟨tb, toff, tc, etv, htb, _, _, hcell⟩ := (HT.out.ext HB4.out).last htne
  cases etv
  have HCELL := hidIt hcell
  clear hcell
  go_wp2_with fail
  go_loopw [14, 15] (fun wh i wr => ∃ j : Nat, j ≤ t.length ∧ i = .int .i64 j ∧ wh = .bool (k == 1 || (t.take j).any brB) ∧ w4 = wr) (fun _ i _ => t.length - (RowKit.intOf i).toNat)
  case atStart => exact ⟨0, Nat.zero_le _, rfl, by simp, rfl⟩
  case round =>
    obtain ⟨j, hj, rfl, rfl, rfl⟩ := hrel
    by_cases hlt : j < t.length
    · have c1 := HCELL.out j hlt
      have hi1 : (j : Int) < (t.length : Int) := by omega
      have HST := hidIt (show (k == 1 || (t.take (j + 1)).any brB) = ((k == 1 || (t.take j).any brB) || brB (t[j]?.getD 0)) by
        rw [List.take_succ_eq_append_getElem hlt, List.any_append, ← Bool.or_assoc]
        simp [hlt])
      generalize t[j]?.getD 0 = x at *
      cases hb : (k == 1 || (t.take j).any brB)
      · rw [hb] at HST
        by_cases h10 : x = 10
        · subst h10
          go_wp2_with fail
          go_roundw
          case rel => exact ⟨j + 1, by omega, by go_num, by rw [HST.out]; rfl, trivial⟩
          case measure => simp [RowKit.intOf]; omega
        · have hb10 : (x == 10) = false := by simp [h10]
          have HX := hidIt (show brB x = (x == 13) by unfold brB; rw [hb10]; simp)
          clear h10
          go_wp2_with fail
          go_roundw
          case rel => exact ⟨j + 1, by omega, by go_num, by rw [HST.out, HX.out]; simp, trivial⟩
          case measure => simp [RowKit.intOf]; omega
      · rw [hb] at HST
        go_wp2_with fail
        go_roundw
        case rel => exact ⟨j + 1, by omega, by go_num, by rw [HST.out]; simp, trivial⟩
        case measure => simp [RowKit.intOf]; omega
    · have hjl : j = t.length := by omega
      subst hjl
      rw [List.take_length]
      clear hlt HCELL htb
      obtain ⟨_, d0, d1, _⟩ := cells2 HK4.out
      cases y
      · obtain ⟨s', hy, hg⟩ := last_del s n k t hown hk htne htl
        have YK : Hid (Calls Try.prog 16 #[.pointer (some ⟨b, 0, none⟩), .int .i64 n, .agg #[.int .i64 k, .slice a3 n3 c3]] w4 (OpR (F1 b) w4 b bm (9 * xs.length + 9) (0, s'))) := by
          have h := Delete_any w4 b bm (9 * xs.length) s n ⟨k, t⟩ (.slice a3 n3 c3) HBK4.out (HV3.out.rds.ext HB34.out) HNI.out (by omega)
          rw [hy] at h
          exact h
        have HG := hidIt hg
        clear hy hg
        go_upto_region 22 with (go_at_call 16; refine YK.out.mono ?_; rintro e w5 ⟨rfl, hbk5, hkb5⟩; have BK5 := hidIt hbk5; have KB5 := hidIt hkb5; clear hbk5 hkb5; (try dsimp only))
        have HB5 := hidIt (HB4.out.trans (KB5.out.below HBB.out.1 HBB.out.2 HB4.out.size))
        have RT5 := hidIt (HT.out.ext HB5.out)
        rcases own_split hown with ⟨hu, hpl⟩ | ⟨hu, hpl⟩
        · have HG2 := hidIt (show getB s'.m s'.p n = (0, some ⟨k, cls k t⟩) ∧ getB s'.m s'.p 0 = (0, some ⟨k, cls k t⟩) ∧ getB s'.m s'.p 34 = (0, some ⟨k, cls k t⟩) by have h := HG.out; rw [show fd n k t = n by unfold fd; rw [hu]; rfl] at h; exact h)
          have b0 : (n == 0) = false := by simp; omega
          have b34 : (n == 34) = false := by simp; omega
          clear hpl hu hown HG
          go_upto_region 26 with fail
          go_upto_region 27 with (go_at_call 21; refine (kept_any k _ t w5 RT5.out HTL.out).mono ?_; rintro e w6 ⟨lv, rfl, hlo, hb6⟩; have HLO := hidIt hlo; have HB6 := hidIt hb6; clear hlo hb6; (try dsimp only))
          have HO : Hid (∀ w', Below w6.heap.size w6 w' → ∀ q, In64 q → getB s'.m s'.p q = (0, some ⟨k, cls k t⟩) → Calls Try.prog 15 #[.pointer (some ⟨b, 0, none⟩), .int .i64 q, .int .i64 k, lv] w' fun e w'' => e = .returned (.bool true) ∧ Below w'.heap.size w' w'') := fun w' hb q hq hg => holds_any w' b bm _ s'.m s'.p q ⟨k, cls k t⟩ lv ((BK5.out.ext HB6.out).ext hb) hq hg ((HLO.out.ext hb).rd)
          have H1 : Hid (∀ w', Below w6.heap.size w6 w' → Calls Try.prog 15 #[.pointer (some ⟨b, 0, none⟩), .int .i64 n, .int .i64 k, lv] w' fun e w'' => e = .returned (.bool true) ∧ Below w'.heap.size w' w'') := fun w' hb => HO.out w' hb n (HNI.out) HG2.out.1
          have H2 : Hid (∀ w', Below w6.heap.size w6 w' → Calls Try.prog 15 #[.pointer (some ⟨b, 0, none⟩), .int .i64 0, .int .i64 k, lv] w' fun e w'' => e = .returned (.bool true) ∧ Below w'.heap.size w' w'') := fun w' hb => HO.out w' hb 0 (In64.of (by omega) (by omega)) HG2.out.2.1
          have H3 : Hid (∀ w', Below w6.heap.size w6 w' → Calls Try.prog 15 #[.pointer (some ⟨b, 0, none⟩), .int .i64 34, .int .i64 k, lv] w' fun e w'' => e = .returned (.bool true) ∧ Below w'.heap.size w' w'') := fun w' hb => HO.out w' hb 34 (In64.of (by omega) (by omega)) HG2.out.2.2
          have B6 := hidIt (Below.refl w6.heap.size w6)
          go_wp2_with (go_at_call 15; first | (refine (H1.out _ B6.out).mono ?_; rintro e w7 ⟨rfl, hb7⟩; have B7 := hidIt (ext_trans B6.out hb7); clear hb7 B6; (try dsimp only)) | (refine (H2.out _ B7.out).mono ?_; rintro e w8 ⟨rfl, hb8⟩; have B8 := hidIt (ext_trans B7.out hb8); clear hb8 B7; (try dsimp only)) | (refine (H3.out _ B8.out).mono ?_; rintro e w9 ⟨rfl, hb9⟩; have B9 := hidIt (ext_trans B8.out hb9); clear hb9; (try dsimp only)))
          go_ret
          exact ⟨rfl, HB5.out.trans ((ext_trans HB6.out B9.out).mono HB5.out.size)⟩
        · rcases hpl with hpl | hpl
          · subst hpl
            cases hwh : (k == 1 || t.any brB)
            · have HG2 := hidIt (show getB s'.m s'.p 45 = (0, some ⟨k, cls k t⟩) ∧ getB s'.m s'.p 0 = (0, some ⟨k, cls k t⟩) ∧ getB s'.m s'.p 34 = (0, some ⟨k, cls k t⟩) by have h := HG.out; rw [show fd 34 k t = 45 by unfold fd; rw [show unB 34 = true by decide, hwh]; rfl] at h; exact h)
              clear HG
              go_upto_region 26 with fail
              go_upto_region 27 with (go_at_call 21; refine (kept_any k _ t w5 RT5.out HTL.out).mono ?_; rintro e w6 ⟨lv, rfl, hlo, hb6⟩; have HLO := hidIt hlo; have HB6 := hidIt hb6; clear hlo hb6; (try dsimp only))
              have HO : Hid (∀ w', Below w6.heap.size w6 w' → ∀ q, In64 q → getB s'.m s'.p q = (0, some ⟨k, cls k t⟩) → Calls Try.prog 15 #[.pointer (some ⟨b, 0, none⟩), .int .i64 q, .int .i64 k, lv] w' fun e w'' => e = .returned (.bool true) ∧ Below w'.heap.size w' w'') := fun w' hb q hq hg => holds_any w' b bm _ s'.m s'.p q ⟨k, cls k t⟩ lv ((BK5.out.ext HB6.out).ext hb) hq hg ((HLO.out.ext hb).rd)
              have H1 : Hid (∀ w', Below w6.heap.size w6 w' → Calls Try.prog 15 #[.pointer (some ⟨b, 0, none⟩), .int .i64 45, .int .i64 k, lv] w' fun e w'' => e = .returned (.bool true) ∧ Below w'.heap.size w' w'') := fun w' hb => HO.out w' hb 45 (In64.of (by omega) (by omega)) HG2.out.1
              have H2 : Hid (∀ w', Below w6.heap.size w6 w' → Calls Try.prog 15 #[.pointer (some ⟨b, 0, none⟩), .int .i64 0, .int .i64 k, lv] w' fun e w'' => e = .returned (.bool true) ∧ Below w'.heap.size w' w'') := fun w' hb => HO.out w' hb 0 (In64.of (by omega) (by omega)) HG2.out.2.1
              have H3 : Hid (∀ w', Below w6.heap.size w6 w' → Calls Try.prog 15 #[.pointer (some ⟨b, 0, none⟩), .int .i64 34, .int .i64 k, lv] w' fun e w'' => e = .returned (.bool true) ∧ Below w'.heap.size w' w'') := fun w' hb => HO.out w' hb 34 (In64.of (by omega) (by omega)) HG2.out.2.2
              have B6 := hidIt (Below.refl w6.heap.size w6)
              go_wp2_with (go_at_call 15; first | (refine (H1.out _ B6.out).mono ?_; rintro e w7 ⟨rfl, hb7⟩; have B7 := hidIt (ext_trans B6.out hb7); clear hb7 B6; (try dsimp only)) | (refine (H2.out _ B7.out).mono ?_; rintro e w8 ⟨rfl, hb8⟩; have B8 := hidIt (ext_trans B7.out hb8); clear hb8 B7; (try dsimp only)) | (refine (H3.out _ B8.out).mono ?_; rintro e w9 ⟨rfl, hb9⟩; have B9 := hidIt (ext_trans B8.out hb9); clear hb9; (try dsimp only)))
              go_ret
              exact ⟨rfl, HB5.out.trans ((ext_trans HB6.out B9.out).mono HB5.out.size)⟩
            · have HG2 := hidIt (show getB s'.m s'.p 49 = (0, some ⟨k, cls k t⟩) ∧ getB s'.m s'.p 0 = (0, some ⟨k, cls k t⟩) ∧ getB s'.m s'.p 34 = (0, some ⟨k, cls k t⟩) by have h := HG.out; rw [show fd 34 k t = 49 by unfold fd; rw [show unB 34 = true by decide, hwh]; rfl] at h; exact h)
              clear HG
              go_upto_region 26 with fail
              go_upto_region 27 with (go_at_call 21; refine (kept_any k _ t w5 RT5.out HTL.out).mono ?_; rintro e w6 ⟨lv, rfl, hlo, hb6⟩; have HLO := hidIt hlo; have HB6 := hidIt hb6; clear hlo hb6; (try dsimp only))
              have HO : Hid (∀ w', Below w6.heap.size w6 w' → ∀ q, In64 q → getB s'.m s'.p q = (0, some ⟨k, cls k t⟩) → Calls Try.prog 15 #[.pointer (some ⟨b, 0, none⟩), .int .i64 q, .int .i64 k, lv] w' fun e w'' => e = .returned (.bool true) ∧ Below w'.heap.size w' w'') := fun w' hb q hq hg => holds_any w' b bm _ s'.m s'.p q ⟨k, cls k t⟩ lv ((BK5.out.ext HB6.out).ext hb) hq hg ((HLO.out.ext hb).rd)
              have H1 : Hid (∀ w', Below w6.heap.size w6 w' → Calls Try.prog 15 #[.pointer (some ⟨b, 0, none⟩), .int .i64 49, .int .i64 k, lv] w' fun e w'' => e = .returned (.bool true) ∧ Below w'.heap.size w' w'') := fun w' hb => HO.out w' hb 49 (In64.of (by omega) (by omega)) HG2.out.1
              have H2 : Hid (∀ w', Below w6.heap.size w6 w' → Calls Try.prog 15 #[.pointer (some ⟨b, 0, none⟩), .int .i64 0, .int .i64 k, lv] w' fun e w'' => e = .returned (.bool true) ∧ Below w'.heap.size w' w'') := fun w' hb => HO.out w' hb 0 (In64.of (by omega) (by omega)) HG2.out.2.1
              have H3 : Hid (∀ w', Below w6.heap.size w6 w' → Calls Try.prog 15 #[.pointer (some ⟨b, 0, none⟩), .int .i64 34, .int .i64 k, lv] w' fun e w'' => e = .returned (.bool true) ∧ Below w'.heap.size w' w'') := fun w' hb => HO.out w' hb 34 (In64.of (by omega) (by omega)) HG2.out.2.2
              have B6 := hidIt (Below.refl w6.heap.size w6)
              go_wp2_with (go_at_call 15; first | (refine (H1.out _ B6.out).mono ?_; rintro e w7 ⟨rfl, hb7⟩; have B7 := hidIt (ext_trans B6.out hb7); clear hb7 B6; (try dsimp only)) | (refine (H2.out _ B7.out).mono ?_; rintro e w8 ⟨rfl, hb8⟩; have B8 := hidIt (ext_trans B7.out hb8); clear hb8 B7; (try dsimp only)) | (refine (H3.out _ B8.out).mono ?_; rintro e w9 ⟨rfl, hb9⟩; have B9 := hidIt (ext_trans B8.out hb9); clear hb9; (try dsimp only)))
              go_ret
              exact ⟨rfl, HB5.out.trans ((ext_trans HB6.out B9.out).mono HB5.out.size)⟩
          · subst hpl
            cases hwh : (k == 1 || t.any brB)
            · have HG2 := hidIt (show getB s'.m s'.p 45 = (0, some ⟨k, cls k t⟩) ∧ getB s'.m s'.p 0 = (0, some ⟨k, cls k t⟩) ∧ getB s'.m s'.p 34 = (0, some ⟨k, cls k t⟩) by have h := HG.out; rw [show fd 0 k t = 45 by unfold fd; rw [show unB 0 = true by decide, hwh]; rfl] at h; exact h)
              clear HG
              go_upto_region 26 with fail
              go_upto_region 27 with (go_at_call 21; refine (kept_any k _ t w5 RT5.out HTL.out).mono ?_; rintro e w6 ⟨lv, rfl, hlo, hb6⟩; have HLO := hidIt hlo; have HB6 := hidIt hb6; clear hlo hb6; (try dsimp only))
              have HO : Hid (∀ w', Below w6.heap.size w6 w' → ∀ q, In64 q → getB s'.m s'.p q = (0, some ⟨k, cls k t⟩) → Calls Try.prog 15 #[.pointer (some ⟨b, 0, none⟩), .int .i64 q, .int .i64 k, lv] w' fun e w'' => e = .returned (.bool true) ∧ Below w'.heap.size w' w'') := fun w' hb q hq hg => holds_any w' b bm _ s'.m s'.p q ⟨k, cls k t⟩ lv ((BK5.out.ext HB6.out).ext hb) hq hg ((HLO.out.ext hb).rd)
              have H1 : Hid (∀ w', Below w6.heap.size w6 w' → Calls Try.prog 15 #[.pointer (some ⟨b, 0, none⟩), .int .i64 45, .int .i64 k, lv] w' fun e w'' => e = .returned (.bool true) ∧ Below w'.heap.size w' w'') := fun w' hb => HO.out w' hb 45 (In64.of (by omega) (by omega)) HG2.out.1
              have H2 : Hid (∀ w', Below w6.heap.size w6 w' → Calls Try.prog 15 #[.pointer (some ⟨b, 0, none⟩), .int .i64 0, .int .i64 k, lv] w' fun e w'' => e = .returned (.bool true) ∧ Below w'.heap.size w' w'') := fun w' hb => HO.out w' hb 0 (In64.of (by omega) (by omega)) HG2.out.2.1
              have H3 : Hid (∀ w', Below w6.heap.size w6 w' → Calls Try.prog 15 #[.pointer (some ⟨b, 0, none⟩), .int .i64 34, .int .i64 k, lv] w' fun e w'' => e = .returned (.bool true) ∧ Below w'.heap.size w' w'') := fun w' hb => HO.out w' hb 34 (In64.of (by omega) (by omega)) HG2.out.2.2
              have B6 := hidIt (Below.refl w6.heap.size w6)
              go_wp2_with (go_at_call 15; first | (refine (H1.out _ B6.out).mono ?_; rintro e w7 ⟨rfl, hb7⟩; have B7 := hidIt (ext_trans B6.out hb7); clear hb7 B6; (try dsimp only)) | (refine (H2.out _ B7.out).mono ?_; rintro e w8 ⟨rfl, hb8⟩; have B8 := hidIt (ext_trans B7.out hb8); clear hb8 B7; (try dsimp only)) | (refine (H3.out _ B8.out).mono ?_; rintro e w9 ⟨rfl, hb9⟩; have B9 := hidIt (ext_trans B8.out hb9); clear hb9; (try dsimp only)))
              go_ret
              exact ⟨rfl, HB5.out.trans ((ext_trans HB6.out B9.out).mono HB5.out.size)⟩
            · have HG2 := hidIt (show getB s'.m s'.p 49 = (0, some ⟨k, cls k t⟩) ∧ getB s'.m s'.p 0 = (0, some ⟨k, cls k t⟩) ∧ getB s'.m s'.p 34 = (0, some ⟨k, cls k t⟩) by have h := HG.out; rw [show fd 0 k t = 49 by unfold fd; rw [show unB 0 = true by decide, hwh]; rfl] at h; exact h)
              clear HG
              go_upto_region 26 with fail
              go_upto_region 27 with (go_at_call 21; refine (kept_any k _ t w5 RT5.out HTL.out).mono ?_; rintro e w6 ⟨lv, rfl, hlo, hb6⟩; have HLO := hidIt hlo; have HB6 := hidIt hb6; clear hlo hb6; (try dsimp only))
              have HO : Hid (∀ w', Below w6.heap.size w6 w' → ∀ q, In64 q → getB s'.m s'.p q = (0, some ⟨k, cls k t⟩) → Calls Try.prog 15 #[.pointer (some ⟨b, 0, none⟩), .int .i64 q, .int .i64 k, lv] w' fun e w'' => e = .returned (.bool true) ∧ Below w'.heap.size w' w'') := fun w' hb q hq hg => holds_any w' b bm _ s'.m s'.p q ⟨k, cls k t⟩ lv ((BK5.out.ext HB6.out).ext hb) hq hg ((HLO.out.ext hb).rd)
              have H1 : Hid (∀ w', Below w6.heap.size w6 w' → Calls Try.prog 15 #[.pointer (some ⟨b, 0, none⟩), .int .i64 49, .int .i64 k, lv] w' fun e w'' => e = .returned (.bool true) ∧ Below w'.heap.size w' w'') := fun w' hb => HO.out w' hb 49 (In64.of (by omega) (by omega)) HG2.out.1
              have H2 : Hid (∀ w', Below w6.heap.size w6 w' → Calls Try.prog 15 #[.pointer (some ⟨b, 0, none⟩), .int .i64 0, .int .i64 k, lv] w' fun e w'' => e = .returned (.bool true) ∧ Below w'.heap.size w' w'') := fun w' hb => HO.out w' hb 0 (In64.of (by omega) (by omega)) HG2.out.2.1
              have H3 : Hid (∀ w', Below w6.heap.size w6 w' → Calls Try.prog 15 #[.pointer (some ⟨b, 0, none⟩), .int .i64 34, .int .i64 k, lv] w' fun e w'' => e = .returned (.bool true) ∧ Below w'.heap.size w' w'') := fun w' hb => HO.out w' hb 34 (In64.of (by omega) (by omega)) HG2.out.2.2
              have B6 := hidIt (Below.refl w6.heap.size w6)
              go_wp2_with (go_at_call 15; first | (refine (H1.out _ B6.out).mono ?_; rintro e w7 ⟨rfl, hb7⟩; have B7 := hidIt (ext_trans B6.out hb7); clear hb7 B6; (try dsimp only)) | (refine (H2.out _ B7.out).mono ?_; rintro e w8 ⟨rfl, hb8⟩; have B8 := hidIt (ext_trans B7.out hb8); clear hb8 B7; (try dsimp only)) | (refine (H3.out _ B8.out).mono ?_; rintro e w9 ⟨rfl, hb9⟩; have B9 := hidIt (ext_trans B8.out hb9); clear hb9; (try dsimp only)))
              go_ret
              exact ⟨rfl, HB5.out.trans ((ext_trans HB6.out B9.out).mono HB5.out.size)⟩
      · obtain ⟨s', hy, hg⟩ := last_yank s n k t hown hk htne htl
        have YK : Hid (Calls Try.prog 14 #[.pointer (some ⟨b, 0, none⟩), .int .i64 n, .agg #[.int .i64 k, .slice a3 n3 c3]] w4 (OpR (F1 b) w4 b bm (9 * xs.length + 9) (0, s'))) := by
          have h := Yank_any w4 b bm (9 * xs.length) s n ⟨k, t⟩ (.slice a3 n3 c3) HBK4.out (HV3.out.rds.ext HB34.out) HNI.out (by omega)
          rw [hy] at h
          exact h
        have HG := hidIt hg
        clear hy hg
        go_upto_region 19 with (go_at_call 14; refine YK.out.mono ?_; rintro e w5 ⟨rfl, hbk5, hkb5⟩; have BK5 := hidIt hbk5; have KB5 := hidIt hkb5; clear hbk5 hkb5; (try dsimp only))
        have HB5 := hidIt (HB4.out.trans (KB5.out.below HBB.out.1 HBB.out.2 HB4.out.size))
        have RT5 := hidIt (HT.out.ext HB5.out)
        rcases own_split hown with ⟨hu, hpl⟩ | ⟨hu, hpl⟩
        · have HG2 := hidIt (show getB s'.m s'.p n = (0, some ⟨k, cls k t⟩) ∧ getB s'.m s'.p 0 = (0, some ⟨k, cls k t⟩) ∧ getB s'.m s'.p 34 = (0, some ⟨k, cls k t⟩) by have h := HG.out; rw [show fy n = n by unfold fy; rw [hu]; rfl] at h; exact h)
          have b0 : (n == 0) = false := by simp; omega
          have b34 : (n == 34) = false := by simp; omega
          clear hpl hu hown HG
          go_upto_region 26 with fail
          go_upto_region 27 with (go_at_call 21; refine (kept_any k _ t w5 RT5.out HTL.out).mono ?_; rintro e w6 ⟨lv, rfl, hlo, hb6⟩; have HLO := hidIt hlo; have HB6 := hidIt hb6; clear hlo hb6; (try dsimp only))
          have HO : Hid (∀ w', Below w6.heap.size w6 w' → ∀ q, In64 q → getB s'.m s'.p q = (0, some ⟨k, cls k t⟩) → Calls Try.prog 15 #[.pointer (some ⟨b, 0, none⟩), .int .i64 q, .int .i64 k, lv] w' fun e w'' => e = .returned (.bool true) ∧ Below w'.heap.size w' w'') := fun w' hb q hq hg => holds_any w' b bm _ s'.m s'.p q ⟨k, cls k t⟩ lv ((BK5.out.ext HB6.out).ext hb) hq hg ((HLO.out.ext hb).rd)
          have H1 : Hid (∀ w', Below w6.heap.size w6 w' → Calls Try.prog 15 #[.pointer (some ⟨b, 0, none⟩), .int .i64 n, .int .i64 k, lv] w' fun e w'' => e = .returned (.bool true) ∧ Below w'.heap.size w' w'') := fun w' hb => HO.out w' hb n (HNI.out) HG2.out.1
          have H2 : Hid (∀ w', Below w6.heap.size w6 w' → Calls Try.prog 15 #[.pointer (some ⟨b, 0, none⟩), .int .i64 0, .int .i64 k, lv] w' fun e w'' => e = .returned (.bool true) ∧ Below w'.heap.size w' w'') := fun w' hb => HO.out w' hb 0 (In64.of (by omega) (by omega)) HG2.out.2.1
          have H3 : Hid (∀ w', Below w6.heap.size w6 w' → Calls Try.prog 15 #[.pointer (some ⟨b, 0, none⟩), .int .i64 34, .int .i64 k, lv] w' fun e w'' => e = .returned (.bool true) ∧ Below w'.heap.size w' w'') := fun w' hb => HO.out w' hb 34 (In64.of (by omega) (by omega)) HG2.out.2.2
          have B6 := hidIt (Below.refl w6.heap.size w6)
          go_wp2_with (go_at_call 15; first | (refine (H1.out _ B6.out).mono ?_; rintro e w7 ⟨rfl, hb7⟩; have B7 := hidIt (ext_trans B6.out hb7); clear hb7 B6; (try dsimp only)) | (refine (H2.out _ B7.out).mono ?_; rintro e w8 ⟨rfl, hb8⟩; have B8 := hidIt (ext_trans B7.out hb8); clear hb8 B7; (try dsimp only)) | (refine (H3.out _ B8.out).mono ?_; rintro e w9 ⟨rfl, hb9⟩; have B9 := hidIt (ext_trans B8.out hb9); clear hb9; (try dsimp only)))
          go_ret
          exact ⟨rfl, HB5.out.trans ((ext_trans HB6.out B9.out).mono HB5.out.size)⟩
        · rcases hpl with hpl | hpl
          · subst hpl
            have HG2 := hidIt (show getB s'.m s'.p 48 = (0, some ⟨k, cls k t⟩) ∧ getB s'.m s'.p 0 = (0, some ⟨k, cls k t⟩) ∧ getB s'.m s'.p 34 = (0, some ⟨k, cls k t⟩) by have h := HG.out; rw [show fy 34 = 48 by decide] at h; exact h)
            clear HG
            go_upto_region 26 with fail
            go_upto_region 27 with (go_at_call 21; refine (kept_any k _ t w5 RT5.out HTL.out).mono ?_; rintro e w6 ⟨lv, rfl, hlo, hb6⟩; have HLO := hidIt hlo; have HB6 := hidIt hb6; clear hlo hb6; (try dsimp only))
            have HO : Hid (∀ w', Below w6.heap.size w6 w' → ∀ q, In64 q → getB s'.m s'.p q = (0, some ⟨k, cls k t⟩) → Calls Try.prog 15 #[.pointer (some ⟨b, 0, none⟩), .int .i64 q, .int .i64 k, lv] w' fun e w'' => e = .returned (.bool true) ∧ Below w'.heap.size w' w'') := fun w' hb q hq hg => holds_any w' b bm _ s'.m s'.p q ⟨k, cls k t⟩ lv ((BK5.out.ext HB6.out).ext hb) hq hg ((HLO.out.ext hb).rd)
            have H1 : Hid (∀ w', Below w6.heap.size w6 w' → Calls Try.prog 15 #[.pointer (some ⟨b, 0, none⟩), .int .i64 48, .int .i64 k, lv] w' fun e w'' => e = .returned (.bool true) ∧ Below w'.heap.size w' w'') := fun w' hb => HO.out w' hb 48 (In64.of (by omega) (by omega)) HG2.out.1
            have H2 : Hid (∀ w', Below w6.heap.size w6 w' → Calls Try.prog 15 #[.pointer (some ⟨b, 0, none⟩), .int .i64 0, .int .i64 k, lv] w' fun e w'' => e = .returned (.bool true) ∧ Below w'.heap.size w' w'') := fun w' hb => HO.out w' hb 0 (In64.of (by omega) (by omega)) HG2.out.2.1
            have H3 : Hid (∀ w', Below w6.heap.size w6 w' → Calls Try.prog 15 #[.pointer (some ⟨b, 0, none⟩), .int .i64 34, .int .i64 k, lv] w' fun e w'' => e = .returned (.bool true) ∧ Below w'.heap.size w' w'') := fun w' hb => HO.out w' hb 34 (In64.of (by omega) (by omega)) HG2.out.2.2
            have B6 := hidIt (Below.refl w6.heap.size w6)
            go_wp2_with (go_at_call 15; first | (refine (H1.out _ B6.out).mono ?_; rintro e w7 ⟨rfl, hb7⟩; have B7 := hidIt (ext_trans B6.out hb7); clear hb7 B6; (try dsimp only)) | (refine (H2.out _ B7.out).mono ?_; rintro e w8 ⟨rfl, hb8⟩; have B8 := hidIt (ext_trans B7.out hb8); clear hb8 B7; (try dsimp only)) | (refine (H3.out _ B8.out).mono ?_; rintro e w9 ⟨rfl, hb9⟩; have B9 := hidIt (ext_trans B8.out hb9); clear hb9; (try dsimp only)))
            go_ret
            exact ⟨rfl, HB5.out.trans ((ext_trans HB6.out B9.out).mono HB5.out.size)⟩
          · subst hpl
            have HG2 := hidIt (show getB s'.m s'.p 48 = (0, some ⟨k, cls k t⟩) ∧ getB s'.m s'.p 0 = (0, some ⟨k, cls k t⟩) ∧ getB s'.m s'.p 34 = (0, some ⟨k, cls k t⟩) by have h := HG.out; rw [show fy 0 = 48 by decide] at h; exact h)
            clear HG
            go_upto_region 26 with fail
            go_upto_region 27 with (go_at_call 21; refine (kept_any k _ t w5 RT5.out HTL.out).mono ?_; rintro e w6 ⟨lv, rfl, hlo, hb6⟩; have HLO := hidIt hlo; have HB6 := hidIt hb6; clear hlo hb6; (try dsimp only))
            have HO : Hid (∀ w', Below w6.heap.size w6 w' → ∀ q, In64 q → getB s'.m s'.p q = (0, some ⟨k, cls k t⟩) → Calls Try.prog 15 #[.pointer (some ⟨b, 0, none⟩), .int .i64 q, .int .i64 k, lv] w' fun e w'' => e = .returned (.bool true) ∧ Below w'.heap.size w' w'') := fun w' hb q hq hg => holds_any w' b bm _ s'.m s'.p q ⟨k, cls k t⟩ lv ((BK5.out.ext HB6.out).ext hb) hq hg ((HLO.out.ext hb).rd)
            have H1 : Hid (∀ w', Below w6.heap.size w6 w' → Calls Try.prog 15 #[.pointer (some ⟨b, 0, none⟩), .int .i64 48, .int .i64 k, lv] w' fun e w'' => e = .returned (.bool true) ∧ Below w'.heap.size w' w'') := fun w' hb => HO.out w' hb 48 (In64.of (by omega) (by omega)) HG2.out.1
            have H2 : Hid (∀ w', Below w6.heap.size w6 w' → Calls Try.prog 15 #[.pointer (some ⟨b, 0, none⟩), .int .i64 0, .int .i64 k, lv] w' fun e w'' => e = .returned (.bool true) ∧ Below w'.heap.size w' w'') := fun w' hb => HO.out w' hb 0 (In64.of (by omega) (by omega)) HG2.out.2.1
            have H3 : Hid (∀ w', Below w6.heap.size w6 w' → Calls Try.prog 15 #[.pointer (some ⟨b, 0, none⟩), .int .i64 34, .int .i64 k, lv] w' fun e w'' => e = .returned (.bool true) ∧ Below w'.heap.size w' w'') := fun w' hb => HO.out w' hb 34 (In64.of (by omega) (by omega)) HG2.out.2.2
            have B6 := hidIt (Below.refl w6.heap.size w6)
            go_wp2_with (go_at_call 15; first | (refine (H1.out _ B6.out).mono ?_; rintro e w7 ⟨rfl, hb7⟩; have B7 := hidIt (ext_trans B6.out hb7); clear hb7 B6; (try dsimp only)) | (refine (H2.out _ B7.out).mono ?_; rintro e w8 ⟨rfl, hb8⟩; have B8 := hidIt (ext_trans B7.out hb8); clear hb8 B7; (try dsimp only)) | (refine (H3.out _ B8.out).mono ?_; rintro e w9 ⟨rfl, hb9⟩; have B9 := hidIt (ext_trans B8.out hb9); clear hb9; (try dsimp only)))
            go_ret
            exact ⟨rfl, HB5.out.trans ((ext_trans HB6.out B9.out).mono HB5.out.size)⟩
end Go.Proofs.Ytmldfjhfgaggpaa
