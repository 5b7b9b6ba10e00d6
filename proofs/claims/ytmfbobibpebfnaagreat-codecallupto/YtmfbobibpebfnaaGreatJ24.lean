import Derived.Test.YtmfbobibpebfnaaGreatJ23
import Derived.Test.YtmfbobibpebfnaaGreatJ14
/- CodecAll: every call in every order. -/
namespace Go.Proofs.YtmfbobibpebfnaaGreat
open Go.RowKit

/-- A call of a script. -/
structure Cst where
  kind : Int
  who : Int
  en : Int
  nn : Int
  ai : Option Addr
  ci : Nat
  d : List Int
  li : Option Addr
  lc : Nat
  l : List Int
/-- The slice v holds the calls. -/
def RdC (w : World) (v : Value) (os : List Cst) : Prop :=
  ∃ ao cap, v = .slice ao os.length cap ∧ (0 < os.length → ∃ b off, ao = some ⟨b, off, none⟩ ∧ ∀ i o, os[i]? = some o → (w.cell? ⟨b, off + i * 6, none⟩ = some (.int .i64 o.kind) ∧ w.cell? ⟨b, off + i * 6 + 1, none⟩ = some (.int .i64 o.who) ∧ w.cell? ⟨b, off + i * 6 + 2, none⟩ = some (.int .i64 o.en) ∧ w.cell? ⟨b, off + i * 6 + 3, none⟩ = some (.int .i64 o.nn) ∧ w.cell? ⟨b, off + i * 6 + 4, none⟩ = some (.slice o.ai o.d.length o.ci) ∧ w.cell? ⟨b, off + i * 6 + 5, none⟩ = some (.slice o.li o.l.length o.lc)) ∧ Rd .u8 w (.slice o.ai o.d.length o.ci) o.d ∧ Rd .i64 w (.slice o.li o.l.length o.lc) o.l)
/-- How many bytes the calls bear. -/
def sl (os : List Cst) : Nat := (os.map fun o => o.d.length).sum
theorem sl_take (os : List Cst) (j : Nat) (o : Cst) (h : os[j]? = some o) : sl (os.take (j + 1)) = sl (os.take j) + o.d.length := by
  unfold sl
  rw [List.take_add_one, h]
  simp
theorem sl_le (os : List Cst) (j : Nat) : sl (os.take j) ≤ sl os := by
  have h : sl os = sl (os.take j) + sl (os.drop j) := by
    unfold sl
    rw [← List.sum_append, ← List.map_append, List.take_append_drop]
  omega
open Classical in
/-- Two pairs to begin with. -/
theorem crw_start {w : World} {N PS PT : Nat → Prop} {S T : Option Pq} (hN : ∀ k, N k → k < w.heap.size) (hS : ∀ p, S = some p → Pr PS w p.g p.q p.enc p.all) (hT : ∀ p, T = some p → Pr PT w p.g p.q p.enc p.all) (h1 : ∀ k, PS k → ¬ PT k) (h2 : ∀ k, PS k → ¬ N k) (h3 : ∀ k, PT k → ¬ N k) : Crw w N (LL S T []) := by
  refine ⟨hN, fun k => if PS k then 1 else if PT k then 2 else 0, fun k e => ?_, fun i p hp => ?_⟩
  · simp only [if_neg (fun h => h2 k h e), if_neg (fun h => h3 k h e)]
  · match i with
    | 0 => exact (hS p hp).mono (fun k hk e => ⟨by simp only [if_pos e], hk⟩)
    | 1 => exact (hT p hp).mono (fun k hk e => ⟨by simp only [if_neg (fun h => h1 k h e), if_pos e], hk⟩)
    | j + 2 => simp [LL] at hp

set_option maxRecDepth 100000 in
set_option maxHeartbeats 16000000 in
theorem all_kk (w : World) (N : Nat → Prop) (enc other : Int) (hke : Cx.known enc = true) (hko : Cx.known other = true) (v : Value) (os : List Cst) (hN : ∀ k, N k → k < w.heap.size) (hr : ∀ y, Kps (fun k => ¬ N k) w y → RdC y v os) (hB : ∀ o ∈ os, Byt o.d ∧ o.d.length ≤ 1048576 ∧ o.l.length ≤ 1048576) (hl : sl os ≤ 1048576) (hn : os.length ≤ 1048576) :
    Calls Tryz.prog 3 #[.int .i64 enc, .int .i64 other, v] w fun e w' => e = .returned (.bool true) ∧ Kps (fun k => ¬ N k) w w' := by
  have HNN := hidIt hN
  have HRO := hidIt hr
  have HBB := hidIt hB
  have HKS := hidIt hke
  have HKT := hidIt hko
  have HSL := hidIt hl
  obtain ⟨ao, cap, rfl, _⟩ := id (hr w (Kps.refl _ _))
  have HNS := hidIt (NewStream_any enc HKS.out w)
  clear hN hr hB hke hko hl
  go_enter Tryz.func3, Tryz.ntmps3
  go_upto_region 2 with (go_at_call 4; refine HNS.out.mono ?_; rintro e w1 ⟨rfl, hs, hb⟩; have SS := hidIt hs; have BS := hidIt hb; clear hs hb; (try dsimp only))
  have HNT := hidIt (NewStream_any other HKT.out w1)
  go_upto_region 3 with (go_at_call 4; refine HNT.out.mono ?_; rintro e w2 ⟨rfl, hs, hb⟩; have ST := hidIt hs; have BT := hidIt hb; clear hs hb; (try dsimp only))
  have HRS := hidIt (rNew_any enc w2)
  go_upto_region 4 with (go_at_call 5; refine HRS.out.mono ?_; rintro e w3 h2; obtain ⟨_, rfl, hr2, hb2⟩ := h2.resolve_right (fun h => by rw [HKS.out] at h; cases h.1); (try dsimp only); have RS := hidIt hr2; have CS := hidIt hb2; clear hr2 hb2 h2)
  have HRT := hidIt (rNew_any other w3)
  go_upto_region 5 with (go_at_call 5; refine HRT.out.mono ?_; rintro e w4 h2; obtain ⟨_, rfl, hr2, hb2⟩ := h2.resolve_right (fun h => by rw [HKT.out] at h; cases h.1); (try dsimp only); have RT := hidIt hr2; have CT := hidIt hb2; clear hr2 hb2 h2)
  have Z1 : Hid (w.heap.size ≤ w1.heap.size ∧ w1.heap.size ≤ w2.heap.size ∧ w2.heap.size ≤ w3.heap.size ∧ w3.heap.size ≤ w4.heap.size) := ⟨BS.out.size, BT.out.size, CS.out.size, CT.out.size⟩
  have ZS : Hid (w.heap.size < w1.heap.size) := SS.out.lt
  have PS : Hid (Pr (fun k => (w.heap.size ≤ k ∧ k < w1.heap.size) ∨ (w2.heap.size ≤ k ∧ k < w3.heap.size)) w4 w.heap.size w2.heap.size enc []) := by
    have z := Z1.out
    have z2 := ZS.out
    refine ⟨HKS.out, (by intro x hx; cases hx), .inl ⟨Nat.le_refl _, z2⟩, ?_, ?_⟩
    · rw [Cx.fd_nil]; exact SS.out.ext (ext_trans BT.out (ext_trans CS.out CT.out))
    · rw [Cx.fd_nil]; exact (RS.out.mono (fun k hk e => ⟨.inr ⟨e, hk⟩, by omega⟩)).ext CT.out
  have ZT : Hid (w1.heap.size < w2.heap.size) := ST.out.lt
  have PT : Hid (Pr (fun k => (w1.heap.size ≤ k ∧ k < w2.heap.size) ∨ w3.heap.size ≤ k) w4 w1.heap.size w3.heap.size other []) := by
    have z := Z1.out
    have z2 := ZT.out
    refine ⟨HKT.out, (by intro x hx; cases hx), .inl ⟨Nat.le_refl _, z2⟩, ?_, ?_⟩
    · rw [Cx.fd_nil]; exact ST.out.ext (ext_trans CS.out CT.out)
    · rw [Cx.fd_nil]; exact RT.out.mono (fun k hk e => ⟨.inr e, by omega⟩)
  have B04 : Hid (Below w.heap.size w w4) := ext_trans BS.out (ext_trans BT.out (ext_trans CS.out CT.out))
  have CR4 : Hid (Crw w4 N (LL (some (Pq.mk w.heap.size w2.heap.size enc [])) (some (Pq.mk w1.heap.size w3.heap.size other [])) [])) := by
    have z := Z1.out
    refine crw_start (PS := (fun k => (w.heap.size ≤ k ∧ k < w1.heap.size) ∨ (w2.heap.size ≤ k ∧ k < w3.heap.size))) (PT := (fun k => (w1.heap.size ≤ k ∧ k < w2.heap.size) ∨ w3.heap.size ≤ k)) (fun k e => by have := HNN.out k e; omega) (fun p e => by cases e; exact PS.out) (fun p e => by cases e; exact PT.out) (fun k e e2 => by omega) (fun k e e2 => by have := HNN.out k e2; omega) (fun k e e2 => by have := HNN.out k e2; omega)
  have HCD := hidIt (crowded_any w4 N _ _ other CR4.out)
  clear HNS HNT HRS HRT
  go_upto_region 8 with (first | (go_at_call 6; refine (num_any _ _).mono ?_; rintro e y9 ⟨rfl, h9⟩; obtain rfl := h9.symm; (try dsimp only)) | (go_at_call 7; refine HCD.out.mono ?_; rintro e w5 ⟨c, C, sv, rv, N', rfl, hcd, hcn, hcr, hup, hkp, hcl, hcs⟩; (try dsimp only); have CD0 := hidIt hcd; have CN5 := hidIt hcn; have CR0 := hidIt hcr; have UP := hidIt hup; have K45 := hidIt hkp; have CL5 := hidIt hcl; have CS5 := hidIt hcs; clear hcd hcn hcr hup hkp hcl hcs))
  have HDE := hidIt (decoded_any 1 _ [195, 169] (w5.alloc (.cells #[.int .u8 195, .int .u8 169] 5)) (rd_lit .u8 w5 5 [195, 169] (by simp [maxLen])) Byt.two2 (by simp))
  go_upto_region 9 with (go_at_call 8; refine HDE.out.mono ?_; rintro e w6 ⟨rfl, hb6⟩; have B56 := hidIt (ext_trans (ext_alloc (Below.refl w5.heap.size w5) _) hb6); clear hb6; (try dsimp only))
  have CD6 := hidIt (CD0.out.ext B56.out)
  have CR6 := hidIt (CR0.out.ext B56.out)
  have KW6 : Hid (Kps (fun k => ¬ N k) w w6) := ((Kps.of_below _ B04.out).trans K45.out (fun _ _ e => e)).trans (Kps.of_below (fun _ => False) B56.out) (fun _ _ e => e.elim)
  have HRD : Hid (∀ y, Kps (fun k => ¬ N' k) w6 y → RdC y (.slice ao os.length cap) os) := fun y k => HRO.out y (KW6.out.trans k (fun i _ e e2 => e (UP.out i e2)))
  clear HCD CR4 HRO B04 PS SS RS PT ST RT BS BT CS CT K45 HDE CD0 CR0 B56
  go_wp2_with fail
  go_loopw [17, 18] (fun ok i wr => ∃ (j : Nat) (aS aT : List Int), j ≤ os.length ∧ ok = .bool true ∧ i = .int .i64 j ∧ Hid (aS.length ≤ 2 * sl (os.take j) ∧ aT.length ≤ 2 * sl (os.take j)) ∧ Hid (Crw wr N' (LL (some (Pq.mk w.heap.size w2.heap.size enc aS)) (some (Pq.mk w1.heap.size w3.heap.size other aT)) C)) ∧ Hid (Kps (fun k => ¬ N' k) w6 wr)) (fun _ i _ => os.length - (intOf i).toNat)
  case atStart => exact ⟨0, [], [], Nat.zero_le _, rfl, rfl, ⟨by simp, by simp⟩, CR6.out, Kps.refl _ _⟩
  case round =>
    obtain ⟨j, aS, aT, hj, rfl, rfl, HLN, HCR, KW⟩ := hrel
    clear CR6
    by_cases hjl : j < os.length
    · have hd1 : decide ((j : Int) < (os.length : Int)) = true := by simp; omega
      have hji : (j : Int) < (os.length : Int) := by omega
      obtain ⟨o, ho⟩ : ∃ o, os[j]? = some o := ⟨_, List.getElem?_eq_getElem hjl⟩
      obtain ⟨ao', cap', hv', hcl'⟩ := HRD.out wr KW.out
      obtain ⟨bb, off, rfl, hcc⟩ := hcl' (by omega)
      cases hv'
      obtain ⟨⟨c0, c1, c2, c3, c4, c5⟩, _⟩ := hcc j o ho
      have HRB : Hid (∀ y, Kps (fun k => ¬ N' k) w6 y → Rd .u8 y (.slice o.ai o.d.length o.ci) o.d ∧ Rd .i64 y (.slice o.li o.l.length o.lc) o.l) := fun y k => by
        obtain ⟨ao2, cap2, hv2, hcl2⟩ := HRD.out y k
        obtain ⟨b2, off2, _, hc2⟩ := hcl2 (by omega)
        exact (hc2 j o ho).2
      have HOB := hidIt (HBB.out o (List.mem_of_getElem? ho))
      have HTK := hidIt (sl_take os j o ho)
      have HTL := hidIt (sl_le os (j + 1))
      clear hcc hcl' ho
      obtain ⟨kd, wh, en, nn, oa, oc, d, la, lc, l⟩ := o
      dsimp only at *
      obtain ⟨w7, hw7⟩ : ∃ w7, w7 = wr.alloc (.cells #[.int .i64 kd, .int .i64 wh, .int .i64 en, .int .i64 nn, .slice oa d.length oc, .slice la l.length lc] 38) := ⟨_, rfl⟩
      have hb7 : Below wr.heap.size wr w7 := by rw [hw7]; exact ext_alloc (Below.refl _ _) _
      have hc7 : w7.heap[wr.heap.size]? = some (.cells #[.int .i64 kd, .int .i64 wh, .int .i64 en, .int .i64 nn, .slice oa d.length oc, .slice la l.length lc] 38 (0, 0)) := by rw [hw7]; exact heap_alloc_new _ _
      have Z7 : Hid (wr.heap.size < w7.heap.size) := (Array.getElem?_eq_some_iff.1 hc7).1
      have HC7 := hidIt hc7
      obtain ⟨k0, k1, k2, k3, k4, k5⟩ := cells6 hc7
      have KW7 : Hid (Kps (fun k => ¬ N' k) w6 w7) := KW.out.trans (Kps.of_below (fun _ => False) hb7) (fun _ _ e => e.elim)
      have CR7 : Hid (Crw w7 (fun k => N' k ∨ k = wr.heap.size) (LL (some (Pq.mk w.heap.size w2.heap.size enc aS)) (some (Pq.mk w1.heap.size w3.heap.size other aT)) C)) := by
        refine HCR.out.turn (Kps.of_below _ hb7) (fun k e => ?_)
        rcases e with e | e
        · exact ⟨.inl e, Nat.lt_of_lt_of_le (HCR.out.1 k e) hb7.size⟩
        · subst e; exact ⟨.inr (Nat.le_refl _), Z7.out⟩
      clear hb7 hc7
      go_upto_region 13 with fail
      rw [← hw7]
      clear hw7 c0 c1 c2 c3 c4 c5
      by_cases hk3 : 3 < kd
      · have e3 : decide (3 < kd) = true := by simp; exact hk3
        have HPL := hidIt (plays_any w7 kd wh en nn oa la oc lc d l (HRB.out w7 KW7.out).1 HOB.out.1 HOB.out.2.1 (HRB.out w7 KW7.out).2 HOB.out.2.2)
        go_wp2_with (go_at_call 9; refine HPL.out.mono ?_; rintro e w8 ⟨rfl, hb8⟩; have B8 := hidIt hb8; clear hb8; (try dsimp only))
        go_roundw
        case rel => exact ⟨j + 1, aS, aT, by omega, rfl, by go_num, (by have := HLN.out; have := HTK.out; exact ⟨by omega, by omega⟩), (CR7.out.ext B8.out).less (fun k e => .inl e), KW7.out.trans (Kps.of_below (fun _ => False) B8.out) (fun _ _ e => e.elim)⟩
        case measure => simp [intOf]; omega
      have e3 : decide (3 < kd) = false := by simp; omega
      clear hk3
      by_cases hpar : Int.tmod wh 2 = 0
      · have e1 : (Int.tmod wh 2 == 0) = true := by simp [hpar]
        have e2 : (Int.tmod wh 2 != 0) = false := by simp [hpar]
        clear hpar
        obtain ⟨P, pr, pl, pn, pc⟩ := CR7.out.at 0 (Pq.mk w.heap.size w2.heap.size enc aS) rfl
        have PN := hidIt pn
        have PC := hidIt pc
        have HPY := hidIt (played_any w7 w.heap.size w2.heap.size enc aS pr pl kd wh (.slice oa d.length oc) d (fun w' k => (HRB.out w' (KW7.out.trans k (fun i _ e e2 => PN.out i e (.inl e2)))).1) HOB.out.1 (by have := HLN.out; have := HTK.out; have := HTL.out; have := HSL.out; omega) HOB.out.2.1)
        clear pr pl pn pc
        go_upto_region 11 with (go_at_call 10; refine HPY.out.mono ?_; rintro e w8 ⟨rfl, al, hal, hpr, hkp⟩; have AL := hidIt hal; have PR8 := hidIt hpr; have K78 := hidIt hkp; clear hal hpr hkp; (try dsimp only))
        have CR8 : Hid (Crw w8 N' (LL (some (Pq.mk w.heap.size w2.heap.size enc al)) (some (Pq.mk w1.heap.size w3.heap.size other aT)) C)) := ((PC.out w8 (Pq.mk w.heap.size w2.heap.size enc al) K78.out PR8.out).less (fun k e => .inl e)).same (fun i p hp => by
          match i with
          | 0 => exact hp
          | 1 => exact hp
          | i + 2 => exact hp)
        have KW8 : Hid (Kps (fun k => ¬ N' k) w6 w8) := KW7.out.trans K78.out (fun i _ e e2 => PN.out i e (.inl e2))
        clear HPY PC PN K78 PR8 CR7 HCR KW HC7
        go_wp2_with fail
        go_roundw
        case rel => exact ⟨j + 1, al, aT, by omega, rfl, by go_num, (by have := HLN.out; have := HTK.out; have := AL.out; exact ⟨by omega, by omega⟩), CR8.out, KW8.out⟩
        case measure => simp [intOf]; omega
      · have e1 : (Int.tmod wh 2 == 0) = false := by simp [hpar]
        have e2 : (Int.tmod wh 2 != 0) = true := by simp [hpar]
        clear hpar
        obtain ⟨P, pr, pl, pn, pc⟩ := CR7.out.at 1 (Pq.mk w1.heap.size w3.heap.size other aT) rfl
        have PN := hidIt pn
        have PC := hidIt pc
        have HPY := hidIt (played_any w7 w1.heap.size w3.heap.size other aT pr pl kd wh (.slice oa d.length oc) d (fun w' k => (HRB.out w' (KW7.out.trans k (fun i _ e e2 => PN.out i e (.inl e2)))).1) HOB.out.1 (by have := HLN.out; have := HTK.out; have := HTL.out; have := HSL.out; omega) HOB.out.2.1)
        clear pr pl pn pc
        go_upto_region 11 with (go_at_call 10; refine HPY.out.mono ?_; rintro e w8 ⟨rfl, al, hal, hpr, hkp⟩; have AL := hidIt hal; have PR8 := hidIt hpr; have K78 := hidIt hkp; clear hal hpr hkp; (try dsimp only))
        have CR8 : Hid (Crw w8 N' (LL (some (Pq.mk w.heap.size w2.heap.size enc aS)) (some (Pq.mk w1.heap.size w3.heap.size other al)) C)) := ((PC.out w8 (Pq.mk w1.heap.size w3.heap.size other al) K78.out PR8.out).less (fun k e => .inl e)).same (fun i p hp => by
          match i with
          | 0 => exact hp
          | 1 => exact hp
          | i + 2 => exact hp)
        have KW8 : Hid (Kps (fun k => ¬ N' k) w6 w8) := KW7.out.trans K78.out (fun i _ e e2 => PN.out i e (.inl e2))
        clear HPY PC PN K78 PR8 CR7 HCR KW HC7
        go_wp2_with fail
        go_roundw
        case rel => exact ⟨j + 1, aS, al, by omega, rfl, by go_num, (by have := HLN.out; have := HTK.out; have := AL.out; exact ⟨by omega, by omega⟩), CR8.out, KW8.out⟩
        case measure => simp [intOf]; omega
    · obtain rfl : j = os.length := by omega
      have hd1 : decide ((os.length : Int) < (os.length : Int)) = false := by simp
      have HEN := hidIt (ends_any wr N' _ _ _ c C sv rv (CD6.out.kps CN5.out KW.out (fun i e e2 => e2 e)) CN5.out HCR.out CL5.out CS5.out)
      go_wp2_with (go_at_call 11; refine HEN.out.mono ?_; rintro e w9 ⟨rfl, hk9⟩; have HK9 := hidIt hk9; clear hk9; (try dsimp only))
      go_ret
      exact ⟨rfl, (KW6.out.trans KW.out (fun i _ e e2 => e (UP.out i e2))).trans HK9.out (fun i _ e e2 => e (UP.out i e2))⟩

set_option maxRecDepth 100000 in
set_option maxHeartbeats 16000000 in
theorem all_kn (w : World) (N : Nat → Prop) (enc other : Int) (hke : Cx.known enc = true) (hko : Cx.known other = false) (v : Value) (os : List Cst) (hN : ∀ k, N k → k < w.heap.size) (hr : ∀ y, Kps (fun k => ¬ N k) w y → RdC y v os) (hB : ∀ o ∈ os, Byt o.d ∧ o.d.length ≤ 1048576 ∧ o.l.length ≤ 1048576) (hl : sl os ≤ 1048576) (hn : os.length ≤ 1048576) :
    Calls Tryz.prog 3 #[.int .i64 enc, .int .i64 other, v] w fun e w' => e = .returned (.bool true) ∧ Kps (fun k => ¬ N k) w w' := by
  have HNN := hidIt hN
  have HRO := hidIt hr
  have HBB := hidIt hB
  have HKS := hidIt hke
  have HKT := hidIt hko
  have HSL := hidIt hl
  obtain ⟨ao, cap, rfl, _⟩ := id (hr w (Kps.refl _ _))
  have HNS := hidIt (NewStream_any enc HKS.out w)
  clear hN hr hB hke hko hl
  go_enter Tryz.func3, Tryz.ntmps3
  go_upto_region 2 with (go_at_call 4; refine HNS.out.mono ?_; rintro e w1 ⟨rfl, hs, hb⟩; have SS := hidIt hs; have BS := hidIt hb; clear hs hb; (try dsimp only))
  have HNT := hidIt (NewStream_no other HKT.out w1)
  go_upto_region 3 with (go_at_call 4; refine HNT.out.mono ?_; rintro e w2 ⟨rfl, h9⟩; have BT : Hid (Below w1.heap.size w1 w2) := (by unfold Hid; rw [h9]; exact Below.refl _ _); clear h9; (try dsimp only))
  have HRS := hidIt (rNew_any enc w2)
  go_upto_region 4 with (go_at_call 5; refine HRS.out.mono ?_; rintro e w3 h2; obtain ⟨_, rfl, hr2, hb2⟩ := h2.resolve_right (fun h => by rw [HKS.out] at h; cases h.1); (try dsimp only); have RS := hidIt hr2; have CS := hidIt hb2; clear hr2 hb2 h2)
  have HRT := hidIt (rNew_any other w3)
  go_upto_region 5 with (go_at_call 5; refine HRT.out.mono ?_; rintro e w4 h2; obtain ⟨_, rfl, hb2⟩ := h2.resolve_left (fun h => by rw [HKT.out] at h; cases h.1); (try dsimp only); have CT := hidIt hb2; clear hb2 h2)
  have Z1 : Hid (w.heap.size ≤ w1.heap.size ∧ w1.heap.size ≤ w2.heap.size ∧ w2.heap.size ≤ w3.heap.size ∧ w3.heap.size ≤ w4.heap.size) := ⟨BS.out.size, BT.out.size, CS.out.size, CT.out.size⟩
  have ZS : Hid (w.heap.size < w1.heap.size) := SS.out.lt
  have PS : Hid (Pr (fun k => (w.heap.size ≤ k ∧ k < w1.heap.size) ∨ (w2.heap.size ≤ k ∧ k < w3.heap.size)) w4 w.heap.size w2.heap.size enc []) := by
    have z := Z1.out
    have z2 := ZS.out
    refine ⟨HKS.out, (by intro x hx; cases hx), .inl ⟨Nat.le_refl _, z2⟩, ?_, ?_⟩
    · rw [Cx.fd_nil]; exact SS.out.ext (ext_trans BT.out (ext_trans CS.out CT.out))
    · rw [Cx.fd_nil]; exact (RS.out.mono (fun k hk e => ⟨.inr ⟨e, hk⟩, by omega⟩)).ext CT.out
  have B04 : Hid (Below w.heap.size w w4) := ext_trans BS.out (ext_trans BT.out (ext_trans CS.out CT.out))
  have CR4 : Hid (Crw w4 N (LL (some (Pq.mk w.heap.size w2.heap.size enc [])) none [])) := by
    have z := Z1.out
    refine crw_start (PS := (fun k => (w.heap.size ≤ k ∧ k < w1.heap.size) ∨ (w2.heap.size ≤ k ∧ k < w3.heap.size))) (PT := (fun k => (w1.heap.size ≤ k ∧ k < w2.heap.size) ∨ w3.heap.size ≤ k)) (fun k e => by have := HNN.out k e; omega) (fun p e => by cases e; exact PS.out) (fun p e => by cases e) (fun k e e2 => by omega) (fun k e e2 => by have := HNN.out k e2; omega) (fun k e e2 => by have := HNN.out k e2; omega)
  have HCD := hidIt (crowded_any w4 N _ _ other CR4.out)
  clear HNS HNT HRS HRT
  go_upto_region 8 with (first | (go_at_call 6; refine (num_any _ _).mono ?_; rintro e y9 ⟨rfl, h9⟩; obtain rfl := h9.symm; (try dsimp only)) | (go_at_call 7; refine HCD.out.mono ?_; rintro e w5 ⟨c, C, sv, rv, N', rfl, hcd, hcn, hcr, hup, hkp, hcl, hcs⟩; (try dsimp only); have CD0 := hidIt hcd; have CN5 := hidIt hcn; have CR0 := hidIt hcr; have UP := hidIt hup; have K45 := hidIt hkp; have CL5 := hidIt hcl; have CS5 := hidIt hcs; clear hcd hcn hcr hup hkp hcl hcs))
  have HDE := hidIt (decoded_any 1 _ [195, 169] (w5.alloc (.cells #[.int .u8 195, .int .u8 169] 5)) (rd_lit .u8 w5 5 [195, 169] (by simp [maxLen])) Byt.two2 (by simp))
  go_upto_region 9 with (go_at_call 8; refine HDE.out.mono ?_; rintro e w6 ⟨rfl, hb6⟩; have B56 := hidIt (ext_trans (ext_alloc (Below.refl w5.heap.size w5) _) hb6); clear hb6; (try dsimp only))
  have CD6 := hidIt (CD0.out.ext B56.out)
  have CR6 := hidIt (CR0.out.ext B56.out)
  have KW6 : Hid (Kps (fun k => ¬ N k) w w6) := ((Kps.of_below _ B04.out).trans K45.out (fun _ _ e => e)).trans (Kps.of_below (fun _ => False) B56.out) (fun _ _ e => e.elim)
  have HRD : Hid (∀ y, Kps (fun k => ¬ N' k) w6 y → RdC y (.slice ao os.length cap) os) := fun y k => HRO.out y (KW6.out.trans k (fun i _ e e2 => e (UP.out i e2)))
  clear HCD CR4 HRO B04 PS SS RS  BS BT CS CT K45 HDE CD0 CR0 B56
  go_wp2_with fail
  go_loopw [17, 18] (fun ok i wr => ∃ (j : Nat) (aS aT : List Int), j ≤ os.length ∧ ok = .bool true ∧ i = .int .i64 j ∧ Hid (aS.length ≤ 2 * sl (os.take j) ∧ aT.length ≤ 2 * sl (os.take j)) ∧ Hid (Crw wr N' (LL (some (Pq.mk w.heap.size w2.heap.size enc aS)) none C)) ∧ Hid (Kps (fun k => ¬ N' k) w6 wr)) (fun _ i _ => os.length - (intOf i).toNat)
  case atStart => exact ⟨0, [], [], Nat.zero_le _, rfl, rfl, ⟨by simp, by simp⟩, CR6.out, Kps.refl _ _⟩
  case round =>
    obtain ⟨j, aS, aT, hj, rfl, rfl, HLN, HCR, KW⟩ := hrel
    clear CR6
    by_cases hjl : j < os.length
    · have hd1 : decide ((j : Int) < (os.length : Int)) = true := by simp; omega
      have hji : (j : Int) < (os.length : Int) := by omega
      obtain ⟨o, ho⟩ : ∃ o, os[j]? = some o := ⟨_, List.getElem?_eq_getElem hjl⟩
      obtain ⟨ao', cap', hv', hcl'⟩ := HRD.out wr KW.out
      obtain ⟨bb, off, rfl, hcc⟩ := hcl' (by omega)
      cases hv'
      obtain ⟨⟨c0, c1, c2, c3, c4, c5⟩, _⟩ := hcc j o ho
      have HRB : Hid (∀ y, Kps (fun k => ¬ N' k) w6 y → Rd .u8 y (.slice o.ai o.d.length o.ci) o.d ∧ Rd .i64 y (.slice o.li o.l.length o.lc) o.l) := fun y k => by
        obtain ⟨ao2, cap2, hv2, hcl2⟩ := HRD.out y k
        obtain ⟨b2, off2, _, hc2⟩ := hcl2 (by omega)
        exact (hc2 j o ho).2
      have HOB := hidIt (HBB.out o (List.mem_of_getElem? ho))
      have HTK := hidIt (sl_take os j o ho)
      have HTL := hidIt (sl_le os (j + 1))
      clear hcc hcl' ho
      obtain ⟨kd, wh, en, nn, oa, oc, d, la, lc, l⟩ := o
      dsimp only at *
      obtain ⟨w7, hw7⟩ : ∃ w7, w7 = wr.alloc (.cells #[.int .i64 kd, .int .i64 wh, .int .i64 en, .int .i64 nn, .slice oa d.length oc, .slice la l.length lc] 38) := ⟨_, rfl⟩
      have hb7 : Below wr.heap.size wr w7 := by rw [hw7]; exact ext_alloc (Below.refl _ _) _
      have hc7 : w7.heap[wr.heap.size]? = some (.cells #[.int .i64 kd, .int .i64 wh, .int .i64 en, .int .i64 nn, .slice oa d.length oc, .slice la l.length lc] 38 (0, 0)) := by rw [hw7]; exact heap_alloc_new _ _
      have Z7 : Hid (wr.heap.size < w7.heap.size) := (Array.getElem?_eq_some_iff.1 hc7).1
      have HC7 := hidIt hc7
      obtain ⟨k0, k1, k2, k3, k4, k5⟩ := cells6 hc7
      have KW7 : Hid (Kps (fun k => ¬ N' k) w6 w7) := KW.out.trans (Kps.of_below (fun _ => False) hb7) (fun _ _ e => e.elim)
      have CR7 : Hid (Crw w7 (fun k => N' k ∨ k = wr.heap.size) (LL (some (Pq.mk w.heap.size w2.heap.size enc aS)) none C)) := by
        refine HCR.out.turn (Kps.of_below _ hb7) (fun k e => ?_)
        rcases e with e | e
        · exact ⟨.inl e, Nat.lt_of_lt_of_le (HCR.out.1 k e) hb7.size⟩
        · subst e; exact ⟨.inr (Nat.le_refl _), Z7.out⟩
      clear hb7 hc7
      go_upto_region 13 with fail
      rw [← hw7]
      clear hw7 c0 c1 c2 c3 c4 c5
      by_cases hk3 : 3 < kd
      · have e3 : decide (3 < kd) = true := by simp; exact hk3
        have HPL := hidIt (plays_any w7 kd wh en nn oa la oc lc d l (HRB.out w7 KW7.out).1 HOB.out.1 HOB.out.2.1 (HRB.out w7 KW7.out).2 HOB.out.2.2)
        go_wp2_with (go_at_call 9; refine HPL.out.mono ?_; rintro e w8 ⟨rfl, hb8⟩; have B8 := hidIt hb8; clear hb8; (try dsimp only))
        go_roundw
        case rel => exact ⟨j + 1, aS, aT, by omega, rfl, by go_num, (by have := HLN.out; have := HTK.out; exact ⟨by omega, by omega⟩), (CR7.out.ext B8.out).less (fun k e => .inl e), KW7.out.trans (Kps.of_below (fun _ => False) B8.out) (fun _ _ e => e.elim)⟩
        case measure => simp [intOf]; omega
      have e3 : decide (3 < kd) = false := by simp; omega
      clear hk3
      by_cases hpar : Int.tmod wh 2 = 0
      · have e1 : (Int.tmod wh 2 == 0) = true := by simp [hpar]
        have e2 : (Int.tmod wh 2 != 0) = false := by simp [hpar]
        clear hpar
        obtain ⟨P, pr, pl, pn, pc⟩ := CR7.out.at 0 (Pq.mk w.heap.size w2.heap.size enc aS) rfl
        have PN := hidIt pn
        have PC := hidIt pc
        have HPY := hidIt (played_any w7 w.heap.size w2.heap.size enc aS pr pl kd wh (.slice oa d.length oc) d (fun w' k => (HRB.out w' (KW7.out.trans k (fun i _ e e2 => PN.out i e (.inl e2)))).1) HOB.out.1 (by have := HLN.out; have := HTK.out; have := HTL.out; have := HSL.out; omega) HOB.out.2.1)
        clear pr pl pn pc
        go_upto_region 11 with (go_at_call 10; refine HPY.out.mono ?_; rintro e w8 ⟨rfl, al, hal, hpr, hkp⟩; have AL := hidIt hal; have PR8 := hidIt hpr; have K78 := hidIt hkp; clear hal hpr hkp; (try dsimp only))
        have CR8 : Hid (Crw w8 N' (LL (some (Pq.mk w.heap.size w2.heap.size enc al)) none C)) := ((PC.out w8 (Pq.mk w.heap.size w2.heap.size enc al) K78.out PR8.out).less (fun k e => .inl e)).same (fun i p hp => by
          match i with
          | 0 => exact hp
          | 1 => exact hp
          | i + 2 => exact hp)
        have KW8 : Hid (Kps (fun k => ¬ N' k) w6 w8) := KW7.out.trans K78.out (fun i _ e e2 => PN.out i e (.inl e2))
        clear HPY PC PN K78 PR8 CR7 HCR KW HC7
        go_wp2_with fail
        go_roundw
        case rel => exact ⟨j + 1, al, aT, by omega, rfl, by go_num, (by have := HLN.out; have := HTK.out; have := AL.out; exact ⟨by omega, by omega⟩), CR8.out, KW8.out⟩
        case measure => simp [intOf]; omega
      · have e1 : (Int.tmod wh 2 == 0) = false := by simp [hpar]
        have e2 : (Int.tmod wh 2 != 0) = true := by simp [hpar]
        clear hpar
        go_wp2_with fail
        go_roundw
        case rel => exact ⟨j + 1, aS, aT, by omega, rfl, by go_num, (by have := HLN.out; have := HTK.out; exact ⟨by omega, by omega⟩), CR7.out.less (fun k e => .inl e), KW7.out⟩
        case measure => simp [intOf]; omega
    · obtain rfl : j = os.length := by omega
      have hd1 : decide ((os.length : Int) < (os.length : Int)) = false := by simp
      have HEN := hidIt (ends_any wr N' _ _ _ c C sv rv (CD6.out.kps CN5.out KW.out (fun i e e2 => e2 e)) CN5.out HCR.out CL5.out CS5.out)
      go_wp2_with (go_at_call 11; refine HEN.out.mono ?_; rintro e w9 ⟨rfl, hk9⟩; have HK9 := hidIt hk9; clear hk9; (try dsimp only))
      go_ret
      exact ⟨rfl, (KW6.out.trans KW.out (fun i _ e e2 => e (UP.out i e2))).trans HK9.out (fun i _ e e2 => e (UP.out i e2))⟩

set_option maxRecDepth 100000 in
set_option maxHeartbeats 16000000 in
theorem all_nk (w : World) (N : Nat → Prop) (enc other : Int) (hke : Cx.known enc = false) (hko : Cx.known other = true) (v : Value) (os : List Cst) (hN : ∀ k, N k → k < w.heap.size) (hr : ∀ y, Kps (fun k => ¬ N k) w y → RdC y v os) (hB : ∀ o ∈ os, Byt o.d ∧ o.d.length ≤ 1048576 ∧ o.l.length ≤ 1048576) (hl : sl os ≤ 1048576) (hn : os.length ≤ 1048576) :
    Calls Tryz.prog 3 #[.int .i64 enc, .int .i64 other, v] w fun e w' => e = .returned (.bool true) ∧ Kps (fun k => ¬ N k) w w' := by
  have HNN := hidIt hN
  have HRO := hidIt hr
  have HBB := hidIt hB
  have HKS := hidIt hke
  have HKT := hidIt hko
  have HSL := hidIt hl
  obtain ⟨ao, cap, rfl, _⟩ := id (hr w (Kps.refl _ _))
  have HNS := hidIt (NewStream_no enc HKS.out w)
  clear hN hr hB hke hko hl
  go_enter Tryz.func3, Tryz.ntmps3
  go_upto_region 2 with (go_at_call 4; refine HNS.out.mono ?_; rintro e w1 ⟨rfl, h9⟩; have BS : Hid (Below w.heap.size w w1) := (by unfold Hid; rw [h9]; exact Below.refl _ _); clear h9; (try dsimp only))
  have HNT := hidIt (NewStream_any other HKT.out w1)
  go_upto_region 3 with (go_at_call 4; refine HNT.out.mono ?_; rintro e w2 ⟨rfl, hs, hb⟩; have ST := hidIt hs; have BT := hidIt hb; clear hs hb; (try dsimp only))
  have HRS := hidIt (rNew_any enc w2)
  go_upto_region 4 with (go_at_call 5; refine HRS.out.mono ?_; rintro e w3 h2; obtain ⟨_, rfl, hb2⟩ := h2.resolve_left (fun h => by rw [HKS.out] at h; cases h.1); (try dsimp only); have CS := hidIt hb2; clear hb2 h2)
  have HRT := hidIt (rNew_any other w3)
  go_upto_region 5 with (go_at_call 5; refine HRT.out.mono ?_; rintro e w4 h2; obtain ⟨_, rfl, hr2, hb2⟩ := h2.resolve_right (fun h => by rw [HKT.out] at h; cases h.1); (try dsimp only); have RT := hidIt hr2; have CT := hidIt hb2; clear hr2 hb2 h2)
  have Z1 : Hid (w.heap.size ≤ w1.heap.size ∧ w1.heap.size ≤ w2.heap.size ∧ w2.heap.size ≤ w3.heap.size ∧ w3.heap.size ≤ w4.heap.size) := ⟨BS.out.size, BT.out.size, CS.out.size, CT.out.size⟩
  have ZT : Hid (w1.heap.size < w2.heap.size) := ST.out.lt
  have PT : Hid (Pr (fun k => (w1.heap.size ≤ k ∧ k < w2.heap.size) ∨ w3.heap.size ≤ k) w4 w1.heap.size w3.heap.size other []) := by
    have z := Z1.out
    have z2 := ZT.out
    refine ⟨HKT.out, (by intro x hx; cases hx), .inl ⟨Nat.le_refl _, z2⟩, ?_, ?_⟩
    · rw [Cx.fd_nil]; exact ST.out.ext (ext_trans CS.out CT.out)
    · rw [Cx.fd_nil]; exact RT.out.mono (fun k hk e => ⟨.inr e, by omega⟩)
  have B04 : Hid (Below w.heap.size w w4) := ext_trans BS.out (ext_trans BT.out (ext_trans CS.out CT.out))
  have CR4 : Hid (Crw w4 N (LL none (some (Pq.mk w1.heap.size w3.heap.size other [])) [])) := by
    have z := Z1.out
    refine crw_start (PS := (fun k => (w.heap.size ≤ k ∧ k < w1.heap.size) ∨ (w2.heap.size ≤ k ∧ k < w3.heap.size))) (PT := (fun k => (w1.heap.size ≤ k ∧ k < w2.heap.size) ∨ w3.heap.size ≤ k)) (fun k e => by have := HNN.out k e; omega) (fun p e => by cases e) (fun p e => by cases e; exact PT.out) (fun k e e2 => by omega) (fun k e e2 => by have := HNN.out k e2; omega) (fun k e e2 => by have := HNN.out k e2; omega)
  have HCD := hidIt (crowded_any w4 N _ _ other CR4.out)
  clear HNS HNT HRS HRT
  go_upto_region 8 with (first | (go_at_call 6; refine (num_any _ _).mono ?_; rintro e y9 ⟨rfl, h9⟩; obtain rfl := h9.symm; (try dsimp only)) | (go_at_call 7; refine HCD.out.mono ?_; rintro e w5 ⟨c, C, sv, rv, N', rfl, hcd, hcn, hcr, hup, hkp, hcl, hcs⟩; (try dsimp only); have CD0 := hidIt hcd; have CN5 := hidIt hcn; have CR0 := hidIt hcr; have UP := hidIt hup; have K45 := hidIt hkp; have CL5 := hidIt hcl; have CS5 := hidIt hcs; clear hcd hcn hcr hup hkp hcl hcs))
  have HDE := hidIt (decoded_any 1 _ [195, 169] (w5.alloc (.cells #[.int .u8 195, .int .u8 169] 5)) (rd_lit .u8 w5 5 [195, 169] (by simp [maxLen])) Byt.two2 (by simp))
  go_upto_region 9 with (go_at_call 8; refine HDE.out.mono ?_; rintro e w6 ⟨rfl, hb6⟩; have B56 := hidIt (ext_trans (ext_alloc (Below.refl w5.heap.size w5) _) hb6); clear hb6; (try dsimp only))
  have CD6 := hidIt (CD0.out.ext B56.out)
  have CR6 := hidIt (CR0.out.ext B56.out)
  have KW6 : Hid (Kps (fun k => ¬ N k) w w6) := ((Kps.of_below _ B04.out).trans K45.out (fun _ _ e => e)).trans (Kps.of_below (fun _ => False) B56.out) (fun _ _ e => e.elim)
  have HRD : Hid (∀ y, Kps (fun k => ¬ N' k) w6 y → RdC y (.slice ao os.length cap) os) := fun y k => HRO.out y (KW6.out.trans k (fun i _ e e2 => e (UP.out i e2)))
  clear HCD CR4 HRO B04  PT ST RT BS BT CS CT K45 HDE CD0 CR0 B56
  go_wp2_with fail
  go_loopw [17, 18] (fun ok i wr => ∃ (j : Nat) (aS aT : List Int), j ≤ os.length ∧ ok = .bool true ∧ i = .int .i64 j ∧ Hid (aS.length ≤ 2 * sl (os.take j) ∧ aT.length ≤ 2 * sl (os.take j)) ∧ Hid (Crw wr N' (LL none (some (Pq.mk w1.heap.size w3.heap.size other aT)) C)) ∧ Hid (Kps (fun k => ¬ N' k) w6 wr)) (fun _ i _ => os.length - (intOf i).toNat)
  case atStart => exact ⟨0, [], [], Nat.zero_le _, rfl, rfl, ⟨by simp, by simp⟩, CR6.out, Kps.refl _ _⟩
  case round =>
    obtain ⟨j, aS, aT, hj, rfl, rfl, HLN, HCR, KW⟩ := hrel
    clear CR6
    by_cases hjl : j < os.length
    · have hd1 : decide ((j : Int) < (os.length : Int)) = true := by simp; omega
      have hji : (j : Int) < (os.length : Int) := by omega
      obtain ⟨o, ho⟩ : ∃ o, os[j]? = some o := ⟨_, List.getElem?_eq_getElem hjl⟩
      obtain ⟨ao', cap', hv', hcl'⟩ := HRD.out wr KW.out
      obtain ⟨bb, off, rfl, hcc⟩ := hcl' (by omega)
      cases hv'
      obtain ⟨⟨c0, c1, c2, c3, c4, c5⟩, _⟩ := hcc j o ho
      have HRB : Hid (∀ y, Kps (fun k => ¬ N' k) w6 y → Rd .u8 y (.slice o.ai o.d.length o.ci) o.d ∧ Rd .i64 y (.slice o.li o.l.length o.lc) o.l) := fun y k => by
        obtain ⟨ao2, cap2, hv2, hcl2⟩ := HRD.out y k
        obtain ⟨b2, off2, _, hc2⟩ := hcl2 (by omega)
        exact (hc2 j o ho).2
      have HOB := hidIt (HBB.out o (List.mem_of_getElem? ho))
      have HTK := hidIt (sl_take os j o ho)
      have HTL := hidIt (sl_le os (j + 1))
      clear hcc hcl' ho
      obtain ⟨kd, wh, en, nn, oa, oc, d, la, lc, l⟩ := o
      dsimp only at *
      obtain ⟨w7, hw7⟩ : ∃ w7, w7 = wr.alloc (.cells #[.int .i64 kd, .int .i64 wh, .int .i64 en, .int .i64 nn, .slice oa d.length oc, .slice la l.length lc] 38) := ⟨_, rfl⟩
      have hb7 : Below wr.heap.size wr w7 := by rw [hw7]; exact ext_alloc (Below.refl _ _) _
      have hc7 : w7.heap[wr.heap.size]? = some (.cells #[.int .i64 kd, .int .i64 wh, .int .i64 en, .int .i64 nn, .slice oa d.length oc, .slice la l.length lc] 38 (0, 0)) := by rw [hw7]; exact heap_alloc_new _ _
      have Z7 : Hid (wr.heap.size < w7.heap.size) := (Array.getElem?_eq_some_iff.1 hc7).1
      have HC7 := hidIt hc7
      obtain ⟨k0, k1, k2, k3, k4, k5⟩ := cells6 hc7
      have KW7 : Hid (Kps (fun k => ¬ N' k) w6 w7) := KW.out.trans (Kps.of_below (fun _ => False) hb7) (fun _ _ e => e.elim)
      have CR7 : Hid (Crw w7 (fun k => N' k ∨ k = wr.heap.size) (LL none (some (Pq.mk w1.heap.size w3.heap.size other aT)) C)) := by
        refine HCR.out.turn (Kps.of_below _ hb7) (fun k e => ?_)
        rcases e with e | e
        · exact ⟨.inl e, Nat.lt_of_lt_of_le (HCR.out.1 k e) hb7.size⟩
        · subst e; exact ⟨.inr (Nat.le_refl _), Z7.out⟩
      clear hb7 hc7
      go_upto_region 13 with fail
      rw [← hw7]
      clear hw7 c0 c1 c2 c3 c4 c5
      by_cases hk3 : 3 < kd
      · have e3 : decide (3 < kd) = true := by simp; exact hk3
        have HPL := hidIt (plays_any w7 kd wh en nn oa la oc lc d l (HRB.out w7 KW7.out).1 HOB.out.1 HOB.out.2.1 (HRB.out w7 KW7.out).2 HOB.out.2.2)
        go_wp2_with (go_at_call 9; refine HPL.out.mono ?_; rintro e w8 ⟨rfl, hb8⟩; have B8 := hidIt hb8; clear hb8; (try dsimp only))
        go_roundw
        case rel => exact ⟨j + 1, aS, aT, by omega, rfl, by go_num, (by have := HLN.out; have := HTK.out; exact ⟨by omega, by omega⟩), (CR7.out.ext B8.out).less (fun k e => .inl e), KW7.out.trans (Kps.of_below (fun _ => False) B8.out) (fun _ _ e => e.elim)⟩
        case measure => simp [intOf]; omega
      have e3 : decide (3 < kd) = false := by simp; omega
      clear hk3
      by_cases hpar : Int.tmod wh 2 = 0
      · have e1 : (Int.tmod wh 2 == 0) = true := by simp [hpar]
        have e2 : (Int.tmod wh 2 != 0) = false := by simp [hpar]
        clear hpar
        go_wp2_with fail
        go_roundw
        case rel => exact ⟨j + 1, aS, aT, by omega, rfl, by go_num, (by have := HLN.out; have := HTK.out; exact ⟨by omega, by omega⟩), CR7.out.less (fun k e => .inl e), KW7.out⟩
        case measure => simp [intOf]; omega
      · have e1 : (Int.tmod wh 2 == 0) = false := by simp [hpar]
        have e2 : (Int.tmod wh 2 != 0) = true := by simp [hpar]
        clear hpar
        obtain ⟨P, pr, pl, pn, pc⟩ := CR7.out.at 1 (Pq.mk w1.heap.size w3.heap.size other aT) rfl
        have PN := hidIt pn
        have PC := hidIt pc
        have HPY := hidIt (played_any w7 w1.heap.size w3.heap.size other aT pr pl kd wh (.slice oa d.length oc) d (fun w' k => (HRB.out w' (KW7.out.trans k (fun i _ e e2 => PN.out i e (.inl e2)))).1) HOB.out.1 (by have := HLN.out; have := HTK.out; have := HTL.out; have := HSL.out; omega) HOB.out.2.1)
        clear pr pl pn pc
        go_upto_region 11 with (go_at_call 10; refine HPY.out.mono ?_; rintro e w8 ⟨rfl, al, hal, hpr, hkp⟩; have AL := hidIt hal; have PR8 := hidIt hpr; have K78 := hidIt hkp; clear hal hpr hkp; (try dsimp only))
        have CR8 : Hid (Crw w8 N' (LL none (some (Pq.mk w1.heap.size w3.heap.size other al)) C)) := ((PC.out w8 (Pq.mk w1.heap.size w3.heap.size other al) K78.out PR8.out).less (fun k e => .inl e)).same (fun i p hp => by
          match i with
          | 0 => exact hp
          | 1 => exact hp
          | i + 2 => exact hp)
        have KW8 : Hid (Kps (fun k => ¬ N' k) w6 w8) := KW7.out.trans K78.out (fun i _ e e2 => PN.out i e (.inl e2))
        clear HPY PC PN K78 PR8 CR7 HCR KW HC7
        go_wp2_with fail
        go_roundw
        case rel => exact ⟨j + 1, aS, al, by omega, rfl, by go_num, (by have := HLN.out; have := HTK.out; have := AL.out; exact ⟨by omega, by omega⟩), CR8.out, KW8.out⟩
        case measure => simp [intOf]; omega
    · obtain rfl : j = os.length := by omega
      have hd1 : decide ((os.length : Int) < (os.length : Int)) = false := by simp
      have HEN := hidIt (ends_any wr N' _ _ _ c C sv rv (CD6.out.kps CN5.out KW.out (fun i e e2 => e2 e)) CN5.out HCR.out CL5.out CS5.out)
      go_wp2_with (go_at_call 11; refine HEN.out.mono ?_; rintro e w9 ⟨rfl, hk9⟩; have HK9 := hidIt hk9; clear hk9; (try dsimp only))
      go_ret
      exact ⟨rfl, (KW6.out.trans KW.out (fun i _ e e2 => e (UP.out i e2))).trans HK9.out (fun i _ e e2 => e (UP.out i e2))⟩

set_option maxRecDepth 100000 in
set_option maxHeartbeats 16000000 in
theorem all_nn (w : World) (N : Nat → Prop) (enc other : Int) (hke : Cx.known enc = false) (hko : Cx.known other = false) (v : Value) (os : List Cst) (hN : ∀ k, N k → k < w.heap.size) (hr : ∀ y, Kps (fun k => ¬ N k) w y → RdC y v os) (hB : ∀ o ∈ os, Byt o.d ∧ o.d.length ≤ 1048576 ∧ o.l.length ≤ 1048576) (hl : sl os ≤ 1048576) (hn : os.length ≤ 1048576) :
    Calls Tryz.prog 3 #[.int .i64 enc, .int .i64 other, v] w fun e w' => e = .returned (.bool true) ∧ Kps (fun k => ¬ N k) w w' := by
  have HNN := hidIt hN
  have HRO := hidIt hr
  have HBB := hidIt hB
  have HKS := hidIt hke
  have HKT := hidIt hko
  have HSL := hidIt hl
  obtain ⟨ao, cap, rfl, _⟩ := id (hr w (Kps.refl _ _))
  have HNS := hidIt (NewStream_no enc HKS.out w)
  clear hN hr hB hke hko hl
  go_enter Tryz.func3, Tryz.ntmps3
  go_upto_region 2 with (go_at_call 4; refine HNS.out.mono ?_; rintro e w1 ⟨rfl, h9⟩; have BS : Hid (Below w.heap.size w w1) := (by unfold Hid; rw [h9]; exact Below.refl _ _); clear h9; (try dsimp only))
  have HNT := hidIt (NewStream_no other HKT.out w1)
  go_upto_region 3 with (go_at_call 4; refine HNT.out.mono ?_; rintro e w2 ⟨rfl, h9⟩; have BT : Hid (Below w1.heap.size w1 w2) := (by unfold Hid; rw [h9]; exact Below.refl _ _); clear h9; (try dsimp only))
  have HRS := hidIt (rNew_any enc w2)
  go_upto_region 4 with (go_at_call 5; refine HRS.out.mono ?_; rintro e w3 h2; obtain ⟨_, rfl, hb2⟩ := h2.resolve_left (fun h => by rw [HKS.out] at h; cases h.1); (try dsimp only); have CS := hidIt hb2; clear hb2 h2)
  have HRT := hidIt (rNew_any other w3)
  go_upto_region 5 with (go_at_call 5; refine HRT.out.mono ?_; rintro e w4 h2; obtain ⟨_, rfl, hb2⟩ := h2.resolve_left (fun h => by rw [HKT.out] at h; cases h.1); (try dsimp only); have CT := hidIt hb2; clear hb2 h2)
  have Z1 : Hid (w.heap.size ≤ w1.heap.size ∧ w1.heap.size ≤ w2.heap.size ∧ w2.heap.size ≤ w3.heap.size ∧ w3.heap.size ≤ w4.heap.size) := ⟨BS.out.size, BT.out.size, CS.out.size, CT.out.size⟩
  have B04 : Hid (Below w.heap.size w w4) := ext_trans BS.out (ext_trans BT.out (ext_trans CS.out CT.out))
  have CR4 : Hid (Crw w4 N (LL none none [])) := by
    have z := Z1.out
    refine crw_start (PS := (fun k => (w.heap.size ≤ k ∧ k < w1.heap.size) ∨ (w2.heap.size ≤ k ∧ k < w3.heap.size))) (PT := (fun k => (w1.heap.size ≤ k ∧ k < w2.heap.size) ∨ w3.heap.size ≤ k)) (fun k e => by have := HNN.out k e; omega) (fun p e => by cases e) (fun p e => by cases e) (fun k e e2 => by omega) (fun k e e2 => by have := HNN.out k e2; omega) (fun k e e2 => by have := HNN.out k e2; omega)
  have HCD := hidIt (crowded_any w4 N _ _ other CR4.out)
  clear HNS HNT HRS HRT
  go_upto_region 8 with (first | (go_at_call 6; refine (num_any _ _).mono ?_; rintro e y9 ⟨rfl, h9⟩; obtain rfl := h9.symm; (try dsimp only)) | (go_at_call 7; refine HCD.out.mono ?_; rintro e w5 ⟨c, C, sv, rv, N', rfl, hcd, hcn, hcr, hup, hkp, hcl, hcs⟩; (try dsimp only); have CD0 := hidIt hcd; have CN5 := hidIt hcn; have CR0 := hidIt hcr; have UP := hidIt hup; have K45 := hidIt hkp; have CL5 := hidIt hcl; have CS5 := hidIt hcs; clear hcd hcn hcr hup hkp hcl hcs))
  have HDE := hidIt (decoded_any 1 _ [195, 169] (w5.alloc (.cells #[.int .u8 195, .int .u8 169] 5)) (rd_lit .u8 w5 5 [195, 169] (by simp [maxLen])) Byt.two2 (by simp))
  go_upto_region 9 with (go_at_call 8; refine HDE.out.mono ?_; rintro e w6 ⟨rfl, hb6⟩; have B56 := hidIt (ext_trans (ext_alloc (Below.refl w5.heap.size w5) _) hb6); clear hb6; (try dsimp only))
  have CD6 := hidIt (CD0.out.ext B56.out)
  have CR6 := hidIt (CR0.out.ext B56.out)
  have KW6 : Hid (Kps (fun k => ¬ N k) w w6) := ((Kps.of_below _ B04.out).trans K45.out (fun _ _ e => e)).trans (Kps.of_below (fun _ => False) B56.out) (fun _ _ e => e.elim)
  have HRD : Hid (∀ y, Kps (fun k => ¬ N' k) w6 y → RdC y (.slice ao os.length cap) os) := fun y k => HRO.out y (KW6.out.trans k (fun i _ e e2 => e (UP.out i e2)))
  clear HCD CR4 HRO B04   BS BT CS CT K45 HDE CD0 CR0 B56
  go_wp2_with fail
  go_loopw [17, 18] (fun ok i wr => ∃ (j : Nat) (aS aT : List Int), j ≤ os.length ∧ ok = .bool true ∧ i = .int .i64 j ∧ Hid (aS.length ≤ 2 * sl (os.take j) ∧ aT.length ≤ 2 * sl (os.take j)) ∧ Hid (Crw wr N' (LL none none C)) ∧ Hid (Kps (fun k => ¬ N' k) w6 wr)) (fun _ i _ => os.length - (intOf i).toNat)
  case atStart => exact ⟨0, [], [], Nat.zero_le _, rfl, rfl, ⟨by simp, by simp⟩, CR6.out, Kps.refl _ _⟩
  case round =>
    obtain ⟨j, aS, aT, hj, rfl, rfl, HLN, HCR, KW⟩ := hrel
    clear CR6
    by_cases hjl : j < os.length
    · have hd1 : decide ((j : Int) < (os.length : Int)) = true := by simp; omega
      have hji : (j : Int) < (os.length : Int) := by omega
      obtain ⟨o, ho⟩ : ∃ o, os[j]? = some o := ⟨_, List.getElem?_eq_getElem hjl⟩
      obtain ⟨ao', cap', hv', hcl'⟩ := HRD.out wr KW.out
      obtain ⟨bb, off, rfl, hcc⟩ := hcl' (by omega)
      cases hv'
      obtain ⟨⟨c0, c1, c2, c3, c4, c5⟩, _⟩ := hcc j o ho
      have HRB : Hid (∀ y, Kps (fun k => ¬ N' k) w6 y → Rd .u8 y (.slice o.ai o.d.length o.ci) o.d ∧ Rd .i64 y (.slice o.li o.l.length o.lc) o.l) := fun y k => by
        obtain ⟨ao2, cap2, hv2, hcl2⟩ := HRD.out y k
        obtain ⟨b2, off2, _, hc2⟩ := hcl2 (by omega)
        exact (hc2 j o ho).2
      have HOB := hidIt (HBB.out o (List.mem_of_getElem? ho))
      have HTK := hidIt (sl_take os j o ho)
      have HTL := hidIt (sl_le os (j + 1))
      clear hcc hcl' ho
      obtain ⟨kd, wh, en, nn, oa, oc, d, la, lc, l⟩ := o
      dsimp only at *
      obtain ⟨w7, hw7⟩ : ∃ w7, w7 = wr.alloc (.cells #[.int .i64 kd, .int .i64 wh, .int .i64 en, .int .i64 nn, .slice oa d.length oc, .slice la l.length lc] 38) := ⟨_, rfl⟩
      have hb7 : Below wr.heap.size wr w7 := by rw [hw7]; exact ext_alloc (Below.refl _ _) _
      have hc7 : w7.heap[wr.heap.size]? = some (.cells #[.int .i64 kd, .int .i64 wh, .int .i64 en, .int .i64 nn, .slice oa d.length oc, .slice la l.length lc] 38 (0, 0)) := by rw [hw7]; exact heap_alloc_new _ _
      have Z7 : Hid (wr.heap.size < w7.heap.size) := (Array.getElem?_eq_some_iff.1 hc7).1
      have HC7 := hidIt hc7
      obtain ⟨k0, k1, k2, k3, k4, k5⟩ := cells6 hc7
      have KW7 : Hid (Kps (fun k => ¬ N' k) w6 w7) := KW.out.trans (Kps.of_below (fun _ => False) hb7) (fun _ _ e => e.elim)
      have CR7 : Hid (Crw w7 (fun k => N' k ∨ k = wr.heap.size) (LL none none C)) := by
        refine HCR.out.turn (Kps.of_below _ hb7) (fun k e => ?_)
        rcases e with e | e
        · exact ⟨.inl e, Nat.lt_of_lt_of_le (HCR.out.1 k e) hb7.size⟩
        · subst e; exact ⟨.inr (Nat.le_refl _), Z7.out⟩
      clear hb7 hc7
      go_upto_region 13 with fail
      rw [← hw7]
      clear hw7 c0 c1 c2 c3 c4 c5
      by_cases hk3 : 3 < kd
      · have e3 : decide (3 < kd) = true := by simp; exact hk3
        have HPL := hidIt (plays_any w7 kd wh en nn oa la oc lc d l (HRB.out w7 KW7.out).1 HOB.out.1 HOB.out.2.1 (HRB.out w7 KW7.out).2 HOB.out.2.2)
        go_wp2_with (go_at_call 9; refine HPL.out.mono ?_; rintro e w8 ⟨rfl, hb8⟩; have B8 := hidIt hb8; clear hb8; (try dsimp only))
        go_roundw
        case rel => exact ⟨j + 1, aS, aT, by omega, rfl, by go_num, (by have := HLN.out; have := HTK.out; exact ⟨by omega, by omega⟩), (CR7.out.ext B8.out).less (fun k e => .inl e), KW7.out.trans (Kps.of_below (fun _ => False) B8.out) (fun _ _ e => e.elim)⟩
        case measure => simp [intOf]; omega
      have e3 : decide (3 < kd) = false := by simp; omega
      clear hk3
      by_cases hpar : Int.tmod wh 2 = 0
      · have e1 : (Int.tmod wh 2 == 0) = true := by simp [hpar]
        have e2 : (Int.tmod wh 2 != 0) = false := by simp [hpar]
        clear hpar
        go_wp2_with fail
        go_roundw
        case rel => exact ⟨j + 1, aS, aT, by omega, rfl, by go_num, (by have := HLN.out; have := HTK.out; exact ⟨by omega, by omega⟩), CR7.out.less (fun k e => .inl e), KW7.out⟩
        case measure => simp [intOf]; omega
      · have e1 : (Int.tmod wh 2 == 0) = false := by simp [hpar]
        have e2 : (Int.tmod wh 2 != 0) = true := by simp [hpar]
        clear hpar
        go_wp2_with fail
        go_roundw
        case rel => exact ⟨j + 1, aS, aT, by omega, rfl, by go_num, (by have := HLN.out; have := HTK.out; exact ⟨by omega, by omega⟩), CR7.out.less (fun k e => .inl e), KW7.out⟩
        case measure => simp [intOf]; omega
    · obtain rfl : j = os.length := by omega
      have hd1 : decide ((os.length : Int) < (os.length : Int)) = false := by simp
      have HEN := hidIt (ends_any wr N' _ _ _ c C sv rv (CD6.out.kps CN5.out KW.out (fun i e e2 => e2 e)) CN5.out HCR.out CL5.out CS5.out)
      go_wp2_with (go_at_call 11; refine HEN.out.mono ?_; rintro e w9 ⟨rfl, hk9⟩; have HK9 := hidIt hk9; clear hk9; (try dsimp only))
      go_ret
      exact ⟨rfl, (KW6.out.trans KW.out (fun i _ e e2 => e (UP.out i e2))).trans HK9.out (fun i _ e e2 => e (UP.out i e2))⟩

theorem RdC.ext {w w' : World} {v : Value} {os : List Cst} (h : RdC w v os) (hb : Below w.heap.size w w') : RdC w' v os := by
  obtain ⟨ao, cap, rfl, hc⟩ := h
  refine ⟨ao, cap, rfl, fun hn => ?_⟩
  obtain ⟨b, off, rfl, hcc⟩ := hc hn
  refine ⟨b, off, rfl, fun i o ho => ?_⟩
  obtain ⟨⟨h0, h1, h2, h3, h4, h5⟩, h6, h7⟩ := hcc i o ho
  have hl : b < w.heap.size := World.block_lt_of_cell? w _ h0
  exact ⟨⟨(hb.cell (p := ⟨b, off + i * 6, none⟩) hl).trans h0, (hb.cell (p := ⟨b, off + i * 6 + 1, none⟩) hl).trans h1, (hb.cell (p := ⟨b, off + i * 6 + 2, none⟩) hl).trans h2, (hb.cell (p := ⟨b, off + i * 6 + 3, none⟩) hl).trans h3, (hb.cell (p := ⟨b, off + i * 6 + 4, none⟩) hl).trans h4, (hb.cell (p := ⟨b, off + i * 6 + 5, none⟩) hl).trans h5⟩, h6.ext hb, h7.ext hb⟩
theorem law_all (enc other : Int) (v : Value) (os : List Cst) (w : World) (hr : RdC w v os) (hB : ∀ o ∈ os, Byt o.d ∧ o.d.length ≤ 1048576 ∧ o.l.length ≤ 1048576) (hl : sl os ≤ 1048576) (hn : os.length ≤ 1048576) :
    Calls Tryz.prog 3 #[.int .i64 enc, .int .i64 other, v] w fun e w' => e = .returned (.bool true) ∧ Below w.heap.size w w' := by
  have hx : Calls Tryz.prog 3 #[.int .i64 enc, .int .i64 other, v] w fun e w' => e = .returned (.bool true) ∧ Kps (fun k => ¬ k < w.heap.size) w w' := by
    have hy : ∀ y, Kps (fun k => ¬ k < w.heap.size) w y → RdC y v os := fun y k => hr.ext (k.below (Nat.le_refl _) (fun i e => Nat.le_of_not_lt e))
    cases h1 : Cx.known enc <;> cases h2 : Cx.known other
    · exact all_nn w (fun k => k < w.heap.size) enc other h1 h2 v os (fun _ h => h) hy hB hl hn
    · exact all_nk w (fun k => k < w.heap.size) enc other h1 h2 v os (fun _ h => h) hy hB hl hn
    · exact all_kn w (fun k => k < w.heap.size) enc other h1 h2 v os (fun _ h => h) hy hB hl hn
    · exact all_kk w (fun k => k < w.heap.size) enc other h1 h2 v os (fun _ h => h) hy hB hl hn
  refine hx.mono ?_
  rintro e w' ⟨rfl, k⟩
  exact ⟨rfl, k.below (Nat.le_refl _) (fun i e => Nat.le_of_not_lt e)⟩
end Go.Proofs.YtmfbobibpebfnaaGreat
