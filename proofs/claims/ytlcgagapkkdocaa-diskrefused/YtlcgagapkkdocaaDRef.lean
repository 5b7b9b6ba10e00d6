/- DiskRefused: the walk. -/
import Derived.Test.YtlcgagapkkdocaaDRe
import Derived.Test.YtlcgagapkkdocaaDLawK
namespace Go.Proofs.Ytlcgagapkkdocaa
open Go.RowKit

/-- The disk with the laws' first file. -/
def zzD (s : Nat) : Dk := (opPut [122, 122] [49, 50, 51, 52] (dk0 s)).d
theorem zz_re (s : Nat) : zzD s = (zzD s).re 0 (fun _ => none) := congrArg Rs.d ((blind_put [122, 122] [49, 50, 51, 52]).re (dk0 s) 0 (fun _ => none))
theorem zz_two {s : Nat} (hs : 8 ≤ s) {F : Nat → Prop} {M : Nat} {w : World} {d : Nat} (h : Dsk F M w d (dk0 s)) (hM : M + 3 ≤ 1099511627776) {v : Value} (ho : RdU w v [49, 50, 51, 52]) (hv : ∀ g, v.ownBlock = some g → F g) :
    Calls Try.prog 10 #[pp d, .string ⟨#[122, 122]⟩, v] w fun x w' => ∃ D', (x = .returned .nilIface ∧ D' = zzD s) ∧ Dsk F (M + 3) w' d D' ∧ Ku True F w w' := by
  refine (Put_any h hM [122, 122] (by simp) v [49, 50, 51, 52] ho (by simp) (by simp) hv).mono ?_
  rintro e w' ⟨u, rfl, p1, p2, p3⟩
  rw [put_zz hs] at p1
  rcases p1 with ⟨_, rfl⟩ | ⟨h0, _⟩
  · exact ⟨_, ⟨rfl, rfl⟩, p2, p3.kd.ku _⟩
  · exact absurd rfl h0
theorem bool_eq {a b : Bool} (h : a = true ↔ b = true) : a = b := by cases a <;> cases b <;> simp_all
theorem and15 (n : Int) : ∃ x : Nat, bits .and .i64 n 15 = (x : Int) ∧ x < 16 := by
  have h3 : (BitVec.ofInt 64 15).toNat = 2 ^ 4 - 1 := by decide
  have key : (BitVec.ofInt 64 n &&& BitVec.ofInt 64 15).toNat = (n % ((2 ^ 64 : Nat) : Int)).toNat % 2 ^ 4 := by
    rw [BitVec.toNat_and, BitVec.toNat_ofInt, h3, Nat.and_two_pow_sub_one_eq_mod]
  refine ⟨(n % ((2 ^ 64 : Nat) : Int)).toNat % 16, ?_, Nat.mod_lt _ (by decide)⟩
  show IntKind.i64.wrap ((BitVec.ofInt 64 n &&& BitVec.ofInt 64 15).toNat : Nat) = _
  rw [key, IntKind.wrap_i64]
  omega
set_option maxRecDepth 100000 in
theorem space_one (n : Int) : ∃ s : Nat, 8 ≤ s ∧ s < 1032 ∧ ∀ w : World, Calls Try.prog 20 #[.int .i64 n] w fun e w' => e = .returned (.int .i64 (s : Int)) ∧ w = w' := by
  obtain ⟨x, ex, lx⟩ := and1023 n
  refine ⟨8 + x, by omega, by omega, fun w => ?_⟩
  go_enter Try.func20, Try.ntmps20
  go_wp2_with fail
  go_ret
  exact ⟨by go_num, rfl⟩
/-- A plan of one fault, as a literal. -/
theorem rd_one (w : World) (k : Int) (hk : In64 k) : ∃ w1, w.alloc (.cells #[.int .i64 k, .int .i64 1, .int .i64 0, .int .i64 0, .slice none 0 0] 62) = w1 ∧ Below w.heap.size w w1 ∧ RdF w1 (.slice (some ⟨w.heap.size, 0, none⟩) 1 1) [⟨k, 1, 0, 0, .slice none 0 0, []⟩] ∧ w1.heap.size = w.heap.size + 1 := by
  have e := heap_alloc_new w (.cells #[.int .i64 k, .int .i64 1, .int .i64 0, .int .i64 0, .slice none 0 0] 62)
  refine ⟨_, rfl, ext_alloc (Below.refl _ _) _, ⟨_, 1, rfl, Nat.le_refl _, by omega, ?_, fun _ => ⟨w.heap.size, 0, rfl, by simp, fun i x hx => ?_⟩⟩, by simp⟩
  · intro x hx
    simp at hx
    subst hx
    exact ⟨hk, In64.of (k := 1) (by omega) (by omega), In64.of (k := 0) (by omega) (by omega), In64.of (k := 0) (by omega) (by omega), by simp, by simp⟩
  · match i, hx with
    | 0, hx =>
      simp at hx
      subst hx
      obtain ⟨c0, c1, c2, c3, c4⟩ := cellsF e
      exact ⟨c0, c1, c2, c3, c4, ⟨⟨none, 0, rfl, Nat.le_refl _, by simp [maxLen], fun h => absurd rfl h⟩, .inl rfl⟩⟩
    | i + 1, hx => simp at hx
theorem rfz_one (k : Nat) (hk : 1 ≤ k) : rfz k 0 (plOf [⟨k, 1, 0, 0, .slice none 0 0, []⟩]) := fun i => by
  simp only [plOf, List.foldl_cons, List.foldl_nil, plAdd]
  rw [if_neg (by simp; omega)]
  simp only [Fa.ft, List.take_nil]
  by_cases e : i = (k : Int)
  · rw [if_pos e, if_pos ⟨e, by omega⟩]
  · rw [if_neg e, if_neg (fun o => e o.1)]
/-- do on the first of two disks, on the second. -/
theorem do_left (CR : CrashOk) {n N : Nat} {w : World} {d e : Nat} {D E : Dk} (h : Two n N w d e D E) (hN : N + 3 ≤ 1099511627776) (hn : n ≤ w.heap.size) (x : So) (hx : x.Ok) (hr : RdU w x.bv x.b) (hbl : x.b.length ≤ 1099511627776) (h10 : x.k ≠ 10) (h11 : x.k ≠ 11) :
    Calls Try.prog 21 #[pp d, opV x] w fun z w' => ∃ D', (DoneE (doP x D).e z ∧ D' = (doP x D).d) ∧ Two n (N + 3) w' d e D' E ∧ Below n w w' ∧ Kc w w' :=
  h.left (P := fun z _ D' => DoneE (doP x D).e z ∧ D' = (doP x D).d) (Below.refl _ _) (Nat.le_add_right N 3) hN hn (fun _ hd _ => (do_any CR hd hN x hx.short.1 hx.short.2 hx.byt hr hbl h10 h11).mono fun _ _ ⟨a, b, c⟩ => ⟨_, ⟨a, rfl⟩, b, c⟩)
theorem do_right (CR : CrashOk) {n N : Nat} {w : World} {d e : Nat} {D E : Dk} (h : Two n N w d e D E) (hN : N + 3 ≤ 1099511627776) (hn : n ≤ w.heap.size) (x : So) (hx : x.Ok) (hr : RdU w x.bv x.b) (hbl : x.b.length ≤ 1099511627776) (h10 : x.k ≠ 10) (h11 : x.k ≠ 11) :
    Calls Try.prog 21 #[pp e, opV x] w fun z w' => ∃ E', (DoneE (doP x E).e z ∧ E' = (doP x E).d) ∧ Two n (N + 3) w' d e D E' ∧ Below n w w' ∧ Kc w w' :=
  h.right (P := fun z _ D' => DoneE (doP x E).e z ∧ D' = (doP x E).d) (Below.refl _ _) (Nat.le_add_right N 3) hN hn (fun _ hd _ => (do_any CR hd hN x hx.short.1 hx.short.2 hx.byt hr hbl h10 h11).mono fun _ _ ⟨a, b, c⟩ => ⟨_, ⟨a, rfl⟩, b, c⟩)
/-- What taken answers of a disk that is up. -/
def TkP (L : Nat) (D : Dk) (x : Ending) (w' : World) (D' : Dk) : Prop := ∃ na nc da dc sa sc, x = .returned (.tuple #[.agg #[.slice na L nc, .slice da L dc, .slice sa L sc], .bool true]) ∧ Shot w' (.slice na L nc) (.slice da L dc) (.slice sa L sc) D ∧ Still D D'
theorem taken_p (CR : CrashOk) {F : Nat → Prop} {M : Nat} {w : World} {d : Nat} {D : Dk} (h : Dsk F M w d D) (hM : M + 200 ≤ 1099511627776) (hdn : D.dn = false) (hpl : ∀ k, D.pl k = none) {L : Nat} (hL : D.se.length = L) :
    Calls Try.prog 22 #[pp d] w fun x w' => ∃ D', TkP L D x w' D' ∧ Dsk F (M + 200) w' d D' ∧ Ku True F w w' := by
  subst hL
  refine (taken_any CR h hM hdn hpl).mono ?_
  rintro e w' ⟨vn, vd, vs, D', rfl, h1, h2, h3, h4⟩
  obtain ⟨na, nc, rfl⟩ := form_n h1.n
  obtain ⟨da, dc, rfl⟩ := form_n h1.d
  obtain ⟨sa, sc, rfl⟩ := form_n h1.s
  exact ⟨D', ⟨na, nc, da, dc, sa, sc, rfl, h1, h2⟩, h3, h4.ku _⟩
theorem plan_none {F : Nat → Prop} {M : Nat} {w : World} {d : Nat} {C : Dk} {m : Nat} {p : Int → Option Ft} (h : Dsk F M w d (C.re m p)) :
    Calls Try.prog 11 #[pp d, .slice none 0 0] w fun z w' => ∃ D', (z = .returned (.tuple #[]) ∧ D' = C.re 0 (fun _ => none)) ∧ Dsk F M w' d D' ∧ Ku True F w w' := by
  have hM : M ≤ 1099511627776 := by obtain ⟨_, _, _, _, _, _, _, _, _, hM⟩ := h; exact hM
  refine (Plan_any h (.slice none 0 0) [] ⟨none, 0, rfl, Nat.le_refl _, by omega, (fun x hx => by cases hx), fun h => absurd rfl h⟩ ⟨(fun g hg => by cases hg), fun x hx => by cases hx⟩ (by simpa using hM)).mono ?_
  rintro z w' ⟨a, b, c⟩
  exact ⟨_, ⟨a, rfl⟩, b, c.ku _⟩
/-- How the two stand: alike, the first with a plan that refuses the k-th step. -/
def Sd (n N : Nat) (k m : Nat) (w : World) (d e : Nat) : Prop := ∃ (C : Dk) (b : Nat) (p q : Int → Option Ft), C.dn = false ∧ (∀ i, q i = none) ∧ rfz k m p ∧ Two n N w d e (C.re m p) (C.re b q)
set_option maxRecDepth 100000 in
set_option maxHeartbeats 8000000 in
theorem lref_any (CR : CrashOk) (n : Int) (v : Value) (xs : List So) (kk : Int) (W : World) (h : RdO W v xs) :
    Calls Try.prog 6 #[.int .i64 n, v, .int .i64 kk] W fun e W' => e = .returned (.bool true) ∧ Below W.heap.size W W' := by
  have FT := hidIt (fits_any h)
  have H := hidIt h
  obtain ⟨ao, cap, rfl, hl1, hl2, hl3, hok, _⟩ := h
  have HOK := hidIt hok
  clear hok
  obtain ⟨s, hs8, hs9, SP⟩ := space_one n
  obtain ⟨q15, e15, l15⟩ := and15 kk
  have SP := hidIt SP
  go_enter Try.func6, Try.ntmps6
  go_upto_region 3 with (go_at_call 19; refine FT.out.mono ?_; rintro e w1 ⟨⟨r, rfl, hr⟩, hb⟩; have HFR := hidIt hr; have HB1 := hidIt hb; clear hr hb)
  · go_ret
    exact ⟨rfl, HB1.out⟩
  have hr1 : r = true := by
    cases r
    · exact absurd (show (!false) = false by assumption) (by decide)
    · rfl
  subst hr1
  obtain ⟨hx1, hx2⟩ := HFR.out rfl
  have HX2 := hidIt hx2
  clear HFR FT hx2
  have MD := hidIt (made_any s (by omega) w1 (fun q => q < W.heap.size) (fun q hq => Nat.lt_of_lt_of_le hq HB1.out.size))
  go_upto_region 4 with (first | (go_at_call 20; refine (SP.out w1).mono ?_; rintro e w2 ⟨rfl, rfl⟩) | (go_at_call 9; refine MD.out.mono ?_; rintro e w3 ⟨d, rfl, hd, hb⟩; have HD := hidIt hd; have HB3 := hidIt (HB1.out.trans (hb.mono HB1.out.size)); clear hd hb))
  clear MD
  have ME := hidIt (made_any s (by omega) w3 (fun q => q < w3.heap.size) (fun q hq => hq))
  go_upto_region 5 with (first | (go_at_call 20; refine (SP.out w3).mono ?_; rintro e w2 ⟨rfl, rfl⟩) | (go_at_call 9; refine ME.out.mono ?_; rintro e w5 ⟨d2, rfl, hd, hb⟩; have HE := hidIt hd; have HB5 := hidIt hb; clear hd hb))
  have T5 : Hid (Two W.heap.size 0 w5 d d2 (dk0 s) (dk0 s)) := ⟨_, _, HD.out.pen HB5.out, HE.out, fun k hk => by
    by_cases hl : k < w3.heap.size
    · exact .inr hl
    · exact .inl (.inr ⟨by omega, hk⟩), fun k hk => ⟨.inl hk, Nat.lt_of_lt_of_le hk HB3.out.size⟩⟩
  have W5 : Hid (Below W.heap.size W w5) := HB3.out.trans (HB5.out.mono HB3.out.size)
  clear ME HD HE HB3 HB5 HB1
  go_upto_region 7 with fail
  obtain ⟨wa, hwa, hba, hoa, hva⟩ : ∃ w', w5.alloc (.cells #[.int .u8 49, .int .u8 50, .int .u8 51, .int .u8 52] 5 (4, 5)) = w' ∧ Below w5.heap.size w5 w' ∧ RdU w' (.slice (some ⟨w5.heap.size, 0, none⟩) 4 4) [49, 50, 51, 52] ∧ ∀ g, (Value.slice (some ⟨w5.heap.size, 0, none⟩) 4 4).ownBlock = some g → w5.heap.size ≤ g ∧ g < w'.heap.size := ⟨_, rfl, ext_alloc (Below.refl _ _) _, rd_zz w5, fun g hg => by cases hg; simp⟩
  have hcva := Lib.run_convert_bytes_const (P := Try.prog) w5 22 5 #[.int .u8 49, .int .u8 50, .int .u8 51, .int .u8 52] 4 4 Try.underlying22 Try.underlying5
  have PZa := hidIt (Two.left (P := fun x _ D' => x = .returned .nilIface ∧ D' = zzD s) T5.out hba (Nat.le_add_right 0 3) (by omega) W5.out.size (fun _ hd hF => zz_two hs8 hd (by omega) hoa (fun g hg => hF g (hva g hg).1 (hva g hg).2)))
  have WLa := hidIt (W5.out.trans (hba.mono W5.out.size))
  rw [← hwa] at PZa WLa
  clear hwa hba hoa hva
  go_upto_region 8 with (go_at_call 10; refine PZa.out.mono ?_; rintro e w7 ⟨D7, ⟨rfl, rfl⟩, hT, hB, _⟩; have T7 := hidIt hT; have W7 := hidIt (WLa.out.trans hB); clear hT hB)
  clear PZa hcva T5 W5 WLa
  obtain ⟨wb, hwb, hbb, hob, hvb⟩ : ∃ w', w7.alloc (.cells #[.int .u8 49, .int .u8 50, .int .u8 51, .int .u8 52] 5 (4, 5)) = w' ∧ Below w7.heap.size w7 w' ∧ RdU w' (.slice (some ⟨w7.heap.size, 0, none⟩) 4 4) [49, 50, 51, 52] ∧ ∀ g, (Value.slice (some ⟨w7.heap.size, 0, none⟩) 4 4).ownBlock = some g → w7.heap.size ≤ g ∧ g < w'.heap.size := ⟨_, rfl, ext_alloc (Below.refl _ _) _, rd_zz w7, fun g hg => by cases hg; simp⟩
  have hcvb := Lib.run_convert_bytes_const (P := Try.prog) w7 22 5 #[.int .u8 49, .int .u8 50, .int .u8 51, .int .u8 52] 4 4 Try.underlying22 Try.underlying5
  have PZb := hidIt (Two.right (P := fun x _ D' => x = .returned .nilIface ∧ D' = zzD s) T7.out hbb (Nat.le_add_right (0 + 3) 3) (by omega) W7.out.size (fun _ hd hF => zz_two hs8 hd (by omega) hob (fun g hg => hF g (hvb g hg).1 (hvb g hg).2)))
  have WLb := hidIt (W7.out.trans (hbb.mono W7.out.size))
  rw [← hwb] at PZb WLb
  clear hwb hbb hob hvb
  go_upto_region 11 with (go_at_call 10; refine PZb.out.mono ?_; rintro e w9 ⟨D9, ⟨rfl, rfl⟩, hT, hB, _⟩; have T9 := hidIt hT; have W9 := hidIt (WLb.out.trans hB); clear hT hB)
  clear PZb hcvb T7 W7 WLb
  have h1k : In64 (1 + (q15 : Int)) := In64.of (by omega) (by omega)
  obtain ⟨wl, hwl, hbl, hrl, hsl⟩ := rd_one w9 (1 + (q15 : Int)) h1k
  have PL := hidIt (T9.out.left (M := 10) (P := fun x _ D' => x = .returned (.tuple #[]) ∧ D' = (zzD s).plan (plOf [⟨1 + (q15 : Int), 1, 0, 0, .slice none 0 0, []⟩])) hbl (by omega) (by omega) W9.out.size (fun _ hd hF => (Plan_any hd _ _ hrl ⟨fun g hg => by cases hg; exact hF _ (Nat.le_refl _) (by show w9.heap.size < _; omega), fun x hx g hg => by simp at hx; subst hx; cases hg⟩ (by simp)).mono fun _ _ ⟨a, b, c⟩ => ⟨_, ⟨a, rfl⟩, b.monoN (by simp) (by omega), c.ku _⟩))
  go_upto_region 13 with (go_at_call 11; refine PL.out.mono ?_; rintro e wa ⟨Da, ⟨rfl, rfl⟩, hT, hB, _⟩; have TA := hidIt hT; have WA := hidIt (W9.out.trans ((hbl.mono W9.out.size).trans hB)); clear hT hB)
  have SA : Hid (Sd W.heap.size (20 + 6 * 0) (1 + q15) 0 wa d d2) := by
    have hz : (zzD s).dn = false := (blind_put [122, 122] [49, 50, 51, 52]).dn (dk0 s)
    have hr := rfz_one (1 + q15) (by omega)
    rw [show (((1 + q15 : Nat)) : Int) = 1 + (q15 : Int) by omega] at hr
    have ht := TA.out
    rw [zz_re s] at ht
    exact ⟨zzD s, 0, _, fun _ => none, hz, fun _ => rfl, hr, ht.mono (by omega) (by omega)⟩
  clear PL TA T9 W9 hwl hbl hrl hsl h1k
  go_wp2_with fail
  go_loopw [11, 12] (fun a b wr => ∃ j m : Nat, j ≤ xs.length ∧ m ≤ j ∧ a = .int .i64 m ∧ b = .int .i64 j ∧ Sd W.heap.size (20 + 6 * j) (1 + q15) m wr d d2 ∧ Below W.heap.size W wr) (fun _ b _ => xs.length - (RowKit.intOf b).toNat)
  case atStart => exact ⟨0, 0, Nat.zero_le _, Nat.le_refl _, rfl, rfl, SA.out, WA.out⟩
  case round =>
    clear SA WA
    obtain ⟨j, m, hj, hm, rfl, rfl, ⟨C, b, p, q, hC, hq, hp, hT⟩, hbw⟩ := hrel
    have HT := hidIt hT
    have HP := hidIt hp
    have HQ := hidIt hq
    have HBW := hidIt hbw
    clear hT hbw hp hq
    by_cases hlt : j < xs.length
    · have hlt' : (j : Int) < (xs.length : Int) := by omega
      obtain ⟨x, hx⟩ : ∃ x, xs[j]? = some x := ⟨_, List.getElem?_eq_getElem hlt⟩
      have HRW : Hid (RdU W x.bv x.b) := by
        obtain ⟨_, _, _, _, _, _, _, h6⟩ := H.out
        obtain ⟨_, _, _, _, hcs⟩ := h6 (by intro e; rw [e] at hlt; simp at hlt)
        exact (hcs j x hx).rd
      obtain ⟨ao', cap', hv', _, _, _, _, h6⟩ := H.out.ext HBW.out
      cases hv'
      obtain ⟨pb, po, ea, hpb, hcs⟩ := h6 (by intro e; rw [e] at hlt; simp at hlt)
      subst ea
      have hcx := hcs j x hx
      obtain ⟨va, vc, hv⟩ := hcx.eight
      obtain ⟨c0, c1, c2, c3, c4, c5, c6, c7, _, _, _⟩ := hcx
      rw [hv] at c4
      have HXO := hidIt (HOK.out x (List.mem_of_getElem? hx))
      have hbk : x.b.length ≤ 4194304 := Nat.le_trans (bulk_mem hx) HX2.out
      clear hcs h6 hx
      go_upto_region 18 with fail
      generalize hw5 : World.alloc _ _ = w5
      have HB5 : Hid (Below wr.heap.size wr w5) := by unfold Hid; rw [← hw5]; exact ext_alloc (Below.refl _ _) _
      have HK5 : Hid (w5.heap[wr.heap.size]? = some (.cells #[.int .i64 x.k, .int .i64 x.who, sv x.nm, sv x.tn, .slice va x.b.length vc, .slice x.fa x.fn x.fc, .int .i64 x.cn, .slice x.ca x.cl x.cc] 48 (0, 0))) := by unfold Hid; rw [← hw5]; exact heap_alloc_new _ _
      clear hw5 c0 c1 c2 c3 c4 c5 c6 c7
      obtain ⟨k0, k1, k2, k3, k4, k5, k6, k7⟩ := cells8 HK5.out
      have HW5 : Hid (Below W.heap.size W w5) := HBW.out.trans (HB5.out.mono HBW.out.size)
      have HT5 := hidIt (HT.out.ext HB5.out)
      by_cases hlo : x.k < 1
      · have FIN : Hid (Sd W.heap.size (20 + 6 * (j + 1)) (1 + q15) m w5 d d2) := ⟨C, b, p, q, hC, HQ.out, HP.out, HT5.out.mono (by omega) (by omega)⟩
        go_wp2_with fail
        go_roundw
        case rel => exact ⟨j + 1, m, by omega, by omega, rfl, by go_num, FIN.out, HW5.out⟩
        case measure => simp [RowKit.intOf]; omega
      by_cases hhi : 9 < x.k
      · have FIN : Hid (Sd W.heap.size (20 + 6 * (j + 1)) (1 + q15) m w5 d d2) := ⟨C, b, p, q, hC, HQ.out, HP.out, HT5.out.mono (by omega) (by omega)⟩
        go_wp2_with fail
        go_roundw
        case rel => exact ⟨j + 1, m, by omega, by omega, rfl, by go_num, FIN.out, HW5.out⟩
        case measure => simp [RowKit.intOf]; omega
      have hb9 := HT5.out
      have DL : Hid (Calls Try.prog 21 #[pp d, .agg #[.int .i64 x.k, .int .i64 x.who, sv x.nm, sv x.tn, .slice va x.b.length vc, .slice x.fa x.fn x.fc, .int .i64 x.cn, .slice x.ca x.cl x.cc]] w5 fun z w' => ∃ D', (DoneE (doP x (C.re m p)).e z ∧ D' = (doP x (C.re m p)).d) ∧ Two W.heap.size (20 + 6 * j + 3) w' d d2 D' (C.re b q) ∧ Below W.heap.size w5 w' ∧ Kc w5 w') := by
        have := do_left CR HT5.out (by omega) HW5.out.size x HXO.out (HRW.out.ext HW5.out) (by omega) (by omega) (by omega)
        unfold opV at this
        rw [hv] at this
        exact this
      clear hb9
      by_cases h9 : x.k = 9
      · have HX9 := hidIt h9
        rw [h9] at HK5 DL k0
        clear h9 hlo hhi
        go_upto_region 22 with (go_at_call 21; refine DL.out.mono ?_; rintro e y2 ⟨D2, ⟨⟨r2, rfl, hr2⟩, rfl⟩, hT2, hB2, hK2⟩; have HR2 := hidIt hr2; have HT2 := hidIt hT2; have HW2 := hidIt (HW5.out.trans hB2); have HK2 := hidIt hK2; clear hr2 hT2 hB2 hK2)
        have e2 := HK2.out _ _ _ HK5.out (by decide) (by decide)
        have HK6 := hidIt (e2.trans HK5.out)
        clear k0 k1 k2 k3 k4 k5 k6 k7 e2
        obtain ⟨k0, k1, k2, k3, k4, k5, k6, k7⟩ := cells8 HK6.out
        have DR : Hid (Calls Try.prog 21 #[pp d2, .agg #[.int .i64 9, .int .i64 x.who, sv x.nm, sv x.tn, .slice va x.b.length vc, .slice x.fa x.fn x.fc, .int .i64 x.cn, .slice x.ca x.cl x.cc]] y2 fun z w' => ∃ E', (DoneE (doP x (C.re b q)).e z ∧ E' = (doP x (C.re b q)).d) ∧ Two W.heap.size (20 + 6 * j + 3 + 3) w' d d2 (doP x (C.re m p)).d E' ∧ Below W.heap.size y2 w' ∧ Kc y2 w') := by
          have := do_right CR HT2.out (by omega) HW2.out.size x HXO.out (HRW.out.ext HW2.out) (by omega) (by rw [HX9.out]; decide) (by rw [HX9.out]; decide)
          unfold opV at this
          rw [hv, HX9.out] at this
          exact this
        by_cases hmk : m = 1 + q15
        · have hmk' : (m : Int) = 1 + (q15 : Int) := by omega
          go_upto_region 26 with (go_at_call 21; refine DR.out.mono ?_; rintro e y3 ⟨E2, ⟨⟨r3, rfl, hr3⟩, rfl⟩, hT3, hB3, _⟩; have HR3 := hidIt hr3; have HT3 := hidIt hT3; have HW3 := hidIt (HW2.out.trans hB3); clear hr3 hT3 hB3)
          have P1 := do_put (x := x) (m := m) (p := p) hC HX9.out
          have P2 := do_put (x := x) (m := b) (p := q) hC HX9.out
          have hr23 : r2 = r3 := by
            have a1 := HR2.out
            have a2 := HR3.out
            rw [P1.1] at a1
            rw [P2.1] at a2
            exact bool_eq (a1.trans a2.symm)
          subst hr23
          have FIN : Hid (Sd W.heap.size (20 + 6 * (j + 1)) (1 + q15) m y3 d d2) := ⟨(opPut x.nm x.b C).d, b, _, _, P1.2.2, HQ.out, HP.out, by rw [← P1.2.1, ← P2.2.1]; exact HT3.out.mono (by omega) (by omega)⟩
          clear P1 P2
          go_wp2_with fail
          go_roundw
          case rel => exact ⟨j + 1, m, by omega, by omega, by first | rfl | rw [hmk'], by go_num, FIN.out, HW3.out⟩
          case measure => simp [RowKit.intOf]; omega
        · have hmk' : ¬ (m : Int) = 1 + (q15 : Int) := by omega
          have bmk : ((m : Int) == 1 + (q15 : Int)) = false := by simpa using hmk'
          go_upto_region 26 with (go_at_call 21; refine DR.out.mono ?_; rintro e y3 ⟨E2, ⟨⟨r3, rfl, hr3⟩, rfl⟩, hT3, hB3, _⟩; have HR3 := hidIt hr3; have HT3 := hidIt hT3; have HW3 := hidIt (HW2.out.trans hB3); clear hr3 hT3 hB3)
          have P1 := do_put (x := x) (m := m) (p := p) hC HX9.out
          have P2 := do_put (x := x) (m := b) (p := q) hC HX9.out
          have hr23 : r2 = r3 := by
            have a1 := HR2.out
            have a2 := HR3.out
            rw [P1.1] at a1
            rw [P2.1] at a2
            exact bool_eq (a1.trans a2.symm)
          subst hr23
          have FIN : Hid (Sd W.heap.size (20 + 6 * (j + 1)) (1 + q15) m y3 d d2) := ⟨(opPut x.nm x.b C).d, b, _, _, P1.2.2, HQ.out, HP.out, by rw [← P1.2.1, ← P2.2.1]; exact HT3.out.mono (by omega) (by omega)⟩
          clear P1 P2
          go_wp2_with fail
          go_roundw
          case rel => exact ⟨j + 1, m, by omega, by omega, by first | rfl | rw [hmk'], by go_num, FIN.out, HW3.out⟩
          case measure => simp [RowKit.intOf]; omega
      · have b9 : (x.k == 9) = false := by simp [h9]
        go_upto_region 22 with (go_at_call 21; refine DL.out.mono ?_; rintro e y2 ⟨D2, ⟨⟨r2, rfl, hr2⟩, rfl⟩, hT2, hB2, hK2⟩; have HR2 := hidIt hr2; have HT2 := hidIt hT2; have HW2 := hidIt (HW5.out.trans hB2); have HK2 := hidIt hK2; clear hr2 hT2 hB2 hK2)
        have e2 := HK2.out _ _ _ HK5.out (by decide) (by decide)
        have HK6 := hidIt (e2.trans HK5.out)
        clear k0 k1 k2 k3 k4 k5 k6 k7 e2
        obtain ⟨k0, k1, k2, k3, k4, k5, k6, k7⟩ := cells8 HK6.out
        by_cases hmk : m + 1 = 1 + q15
        · have hmk' : (m : Int) + 1 = 1 + (q15 : Int) := by omega
          have DF := do_refused (x := x) hC HP.out hmk (by omega) (by omega)
          have hr : r2 = true := HR2.out.2 DF.1
          subst hr
          have FIN : Hid (Sd W.heap.size (20 + 6 * (j + 1)) (1 + q15) (m + 1) y2 d d2) := ⟨C, b, _, q, hC, HQ.out, HP.out.nxt, by rw [← DF.2]; exact HT2.out.mono (by omega) (by omega)⟩
          clear DF
          go_wp2_with fail
          go_roundw
          case rel => exact ⟨j + 1, m + 1, by omega, by omega, by go_num, by go_num, FIN.out, HW2.out⟩
          case measure => simp [RowKit.intOf]; omega
        · have hmk' : ¬ (m : Int) + 1 = 1 + (q15 : Int) := by omega
          have bmk : ((m : Int) + 1 == 1 + (q15 : Int)) = false := by simpa using hmk'
          have DR : Hid (Calls Try.prog 21 #[pp d2, .agg #[.int .i64 x.k, .int .i64 x.who, sv x.nm, sv x.tn, .slice va x.b.length vc, .slice x.fa x.fn x.fc, .int .i64 x.cn, .slice x.ca x.cl x.cc]] y2 fun z w' => ∃ E', (DoneE (doP x (C.re b q)).e z ∧ E' = (doP x (C.re b q)).d) ∧ Two W.heap.size (20 + 6 * j + 3 + 3) w' d d2 (doP x (C.re m p)).d E' ∧ Below W.heap.size y2 w' ∧ Kc y2 w') := by
            have := do_right CR HT2.out (by omega) HW2.out.size x HXO.out (HRW.out.ext HW2.out) (by omega) (by omega) (by omega)
            unfold opV at this
            rw [hv] at this
            exact this
          go_upto_region 26 with (go_at_call 21; refine DR.out.mono ?_; rintro e y3 ⟨E2, ⟨⟨r3, rfl, hr3⟩, rfl⟩, hT3, hB3, _⟩; have HR3 := hidIt hr3; have HT3 := hidIt hT3; have HW3 := hidIt (HW2.out.trans hB3); clear hr3 hT3 hB3)
          have P1 := do_plain (x := x) (m := m) (p := p) hC (by rw [HP.out]; exact if_neg (fun o => hmk (by omega))) (by omega) (by omega)
          have P2 := do_plain (x := x) (m := b) (p := q) hC (HQ.out _) (by omega) (by omega)
          have hr23 : r2 = r3 := by
            have a1 := HR2.out
            have a2 := HR3.out
            rw [P1.1] at a1
            rw [P2.1] at a2
            exact bool_eq (a1.trans a2.symm)
          subst hr23
          have FIN : Hid (Sd W.heap.size (20 + 6 * (j + 1)) (1 + q15) (m + 1) y3 d d2) := ⟨(opOf x C).d, b + 1, nxt m p, nxt b q, P1.2.2, fun i => by unfold nxt; rw [HQ.out]; split <;> rfl, HP.out.nxt, by rw [← P1.2.1, ← P2.2.1]; exact HT3.out.mono (by omega) (by omega)⟩
          clear P1 P2
          go_wp2_with fail
          go_roundw
          case rel => exact ⟨j + 1, m + 1, by omega, by omega, by go_num, by go_num, FIN.out, HW3.out⟩
          case measure => simp [RowKit.intOf]; omega
    · have ejk : xs.length = j := by omega
      subst ejk
      have hge : ¬ (xs.length : Int) < (xs.length : Int) := by omega
      have PN := hidIt (HT.out.left (M := 20 + 6 * xs.length) (P := fun z _ D' => z = .returned (.tuple #[]) ∧ D' = C.re 0 (fun _ => none)) (Below.refl _ _) (Nat.le_refl _) (by omega) HBW.out.size (fun _ hd _ => plan_none hd))
      go_upto_region 29 with (go_at_call 11; refine PN.out.mono ?_; rintro e wa ⟨Da, ⟨rfl, rfl⟩, hT, hB, _⟩; have TA := hidIt hT; have WA := hidIt (HBW.out.trans hB); clear hT hB)
      clear PN
      have hfew : C.se.length ≤ 16 := by obtain ⟨F, G, h1, _⟩ := TA.out; exact h1.wf.seen.few
      have KD := hidIt (TA.out.left (M := 20 + 6 * xs.length + 200) (P := fun z w' D' => TkP C.se.length (C.re 0 (fun _ => none)) z w' D') (Below.refl _ _) (by omega) (by omega) WA.out.size (fun _ hd _ => taken_p CR hd (by omega) hC (fun _ => rfl) rfl))
      go_upto_region 30 with (go_at_call 22; refine KD.out.mono ?_; rintro e wb ⟨Db, ⟨na, nc, da, dc, sa, sc, rfl, sh, _⟩, hT, hB, _⟩; have SH := hidIt sh; have TB := hidIt hT; have WB := hidIt (WA.out.trans hB); clear sh hT hB; (try dsimp only))
      obtain ⟨wc, hwc, hbc, hkc⟩ : ∃ wc, wb.alloc (.cells #[.slice na C.se.length nc, .slice da C.se.length dc, .slice sa C.se.length sc] 51) = wc ∧ Below wb.heap.size wb wc ∧ wc.heap[wb.heap.size]? = some (.cells #[.slice na C.se.length nc, .slice da C.se.length dc, .slice sa C.se.length sc] 51 (0, 0)) := ⟨_, rfl, ext_alloc (Below.refl _ _) _, heap_alloc_new _ _⟩
      rw [hwc]
      have TC := hidIt (TB.out.ext hbc)
      have WC : Hid (Below W.heap.size W wc) := WB.out.trans (hbc.mono WB.out.size)
      have SC := hidIt (SH.out.kc (Kc.of hbc))
      have KC := hidIt hkc
      clear hwc hbc hkc KD TA TB WA WB SH
      have KE := hidIt (TC.out.right (M := 20 + 6 * xs.length + 200 + 200) (P := fun z w' D' => TkP C.se.length (C.re b q) z w' D') (Below.refl _ _) (by omega) (by omega) WC.out.size (fun _ hd _ => taken_p CR hd (by omega) hC HQ.out rfl))
      go_upto_region 31 with (go_at_call 22; refine KE.out.mono ?_; rintro e wd ⟨Dd, ⟨na2, nc2, da2, dc2, sa2, sc2, rfl, sh, _⟩, hT, hB, hK⟩; have SD := hidIt sh; have WD := hidIt (WC.out.trans hB); have KK := hidIt hK; clear sh hT hB hK; (try dsimp only))
      obtain ⟨we, hwe, hbe, s0, s1, s2⟩ := shot_box wd (.slice na2 C.se.length nc2) (.slice da2 C.se.length dc2) (.slice sa2 C.se.length sc2)
      rw [hwe]
      have ebx := (KK.out _ _ _ KC.out (by decide) (by decide)).trans KC.out
      have eby := (hbe.block _ (Array.getElem?_eq_some_iff.1 ebx).1).trans ebx
      have t0 := op_cell eby rfl 0
      have t1 := op_cell eby rfl 1
      have t2 := op_cell eby rfl 2
      simp only [List.getElem?_toArray, List.getElem?_cons_zero, List.getElem?_cons_succ] at t0 t1 t2
      have SM := hidIt (same_any ((SC.out.kc KK.out).kc (Kc.of hbe)) ((SD.out.kc (Kc.of hbe)).as (D := C.re 0 (fun _ => none)) rfl (fun _ _ => ⟨rfl, rfl⟩)) hfew)
      have WE := hidIt (WD.out.trans (hbe.mono WD.out.size))
      clear hwe hbe ebx eby KE KK KC SC SD TC WC WD
      generalize C.se.length = ln at *
      go_wp2_with (go_at_call 25; refine SM.out.mono ?_; rintro e wf ⟨rfl, hbf⟩; have WF := hidIt (WE.out.trans (hbf.mono WE.out.size)); clear hbf)
      go_ret
      exact ⟨rfl, WF.out⟩
end Go.Proofs.Ytlcgagapkkdocaa
