import Derived.Test.YtmfbobibpebfnaaGreatJ05
import Derived.Test.YtmfbobibpebfnaaGreatJ09
import Derived.Test.YtmfbobibpebfnaaGreatJ00
import Derived.WalkLawsBesides
/- Floats made of counts: no quotient of counts is a NaN. No Go in sight. -/
namespace Go.Proofs.YtmfbobibpebfnaaGreat.Fl
open Ieee

theorem sw : double.signWeight = 9223372036854775808 := by decide
theorem ir : double.infRung = 9218868437227405312 := by decide
theorem bi : double.binade = 4503599627370496 := by decide
theorem lp : double.leastPlace = -1074 := by decide

/-- A number or an infinity. -/
def Ok (d : Datum) : Prop := (∃ s m p, d = .number s m p) ∨ ∃ s, d = .infinity s

theorem rung (neg : Bool) (r : Nat) (h : r ≤ double.infRung) : double.word neg r % double.signWeight = r := by
  rw [ir] at h
  unfold Format.word; rw [sw]; split <;> omega
theorem read_word (neg : Bool) (r : Nat) (h : r ≤ double.infRung) : Ok (double.read (double.word neg r)) := by
  unfold Format.read
  simp only [rung neg r h]
  split
  · exact .inl ⟨_, _, _, rfl⟩
  · split
    · exact .inl ⟨_, _, _, rfl⟩
    · split
      · exact .inr ⟨_, rfl⟩
      · exact absurd h (by omega)
theorem nearest_word (neg : Bool) (m : Nat) (p : Int) : ∃ r, r ≤ double.infRung ∧ double.nearest neg m p = double.word neg r := by
  unfold Format.nearest
  split
  · exact ⟨0, Nat.zero_le _, rfl⟩
  · exact ⟨_, Nat.min_le_right _ _, rfl⟩
theorem write_ok (d : Datum) (h : Ok d) : Ok (double.read (double.write d)) := by
  rcases h with ⟨s, m, p, rfl⟩ | ⟨s, rfl⟩
  · obtain ⟨r, hr, e⟩ := nearest_word s m p
    show Ok (double.read (double.nearest s m p))
    rw [e]; exact read_word s r hr
  · exact read_word s _ (Nat.le_refl _)

/-- A word that is no NaN is itself. -/
theorem self_eq (x : Nat) (h : Ok (double.read x)) : double.order x x = some .eq := by
  unfold Format.order
  rcases h with ⟨s, m, p, e⟩ | ⟨s, e⟩
  · rw [e]
    unfold Datum.order
    simp only
    rw [Option.some.injEq]
    exact Std.ReflCmp.compare_self
  · rw [e]
    unfold Datum.order
    simp only
    rw [Option.some.injEq]
    exact Std.ReflCmp.compare_self

/-- The word of a count. -/
def ofN (n : Nat) : Nat := double.nearest false n 0

theorem ofN_ok (n : Nat) : Ok (double.read (ofN n)) := write_ok (.number false n 0) (.inl ⟨_, _, _, rfl⟩)

theorem cut0 (s : Bool) (n : Nat) : Toward.even.cut s n 0 = n := by
  unfold Toward.cut
  simp [Nat.mod_one]

/-- A count that is not 0, and not too great, is a number that is not 0. -/
theorem ofN_pos (n : Nat) (h0 : 0 < n) (h1 : n < 9007199254740992) : ∃ m p, 0 < m ∧ double.read (ofN n) = .number false m p := by
  have hl : n.log2 ≤ 52 := by
    have := (Nat.log2_lt (n := n) (k := 53) (by omega)).2 (by simpa using h1)
    omega
  have hge : 2 ^ n.log2 ≤ n := Nat.log2_self_le (by omega)
  have hlt : n < 2 ^ (n.log2 + 1) := Nat.lt_log2_self
  have e : ofN n = double.word false (min ((n.log2 + 1022) * 4503599627370496 + n <<< (52 - n.log2)) double.infRung) := by
    unfold ofN Format.nearest
    rw [if_neg (by omega)]
    have hlast : max ((0 : Int) + (n.log2 : Int) - (double.fractionBits : Int)) double.leastPlace = (n.log2 : Int) - 52 := by
      rw [lp, show double.fractionBits = 52 from rfl]; omega
    simp only [hlast]
    rw [show ((n.log2 : Int) - 52 - 0).toNat = 0 by omega, cut0, lp, bi, show ((n.log2 : Int) - 52 - (-1074)).toNat = n.log2 + 1022 by omega, show ((0 : Int) - ((n.log2 : Int) - 52)).toNat = 52 - n.log2 by omega]
  have hk : n <<< (52 - n.log2) = n * 2 ^ (52 - n.log2) := Nat.shiftLeft_eq _ _
  have hb1 : 4503599627370496 ≤ n * 2 ^ (52 - n.log2) := by
    calc 4503599627370496 = 2 ^ n.log2 * 2 ^ (52 - n.log2) := by rw [← Nat.pow_add, show n.log2 + (52 - n.log2) = 52 by omega]
      _ ≤ n * 2 ^ (52 - n.log2) := Nat.mul_le_mul_right _ hge
  have hb2 : n * 2 ^ (52 - n.log2) < 9007199254740992 := by
    calc n * 2 ^ (52 - n.log2) < 2 ^ (n.log2 + 1) * 2 ^ (52 - n.log2) := Nat.mul_lt_mul_of_pos_right hlt (Nat.pow_pos (by decide))
      _ = 9007199254740992 := by rw [← Nat.pow_add, show n.log2 + 1 + (52 - n.log2) = 53 by omega]
  generalize n * 2 ^ (52 - n.log2) = K at *
  rw [e, hk, ir, Nat.min_eq_left (by omega)]
  generalize hR : (n.log2 + 1022) * 4503599627370496 + K = R
  have hRl : R < 9218868437227405312 := by omega
  have hRg : 4503599627370496 ≤ R := by omega
  unfold Format.read
  simp only [rung false R (by rw [ir]; omega)]
  rw [bi, ir, if_neg (by omega), if_pos hRl]
  have hs : (double.word false R / double.signWeight % 2 == 1) = false := by
    rw [sw, show double.word false R = R from rfl, show R / 9223372036854775808 = 0 by omega]
    rfl
  rw [hs]
  exact ⟨4503599627370496 + R % 4503599627370496, _, by omega, rfl⟩

/-- The share of counts: a float, no NaN. -/
theorem div_ok (n u : Nat) (h0 : 0 < u) (h1 : u < 9007199254740992) : ∃ q, double.div (ofN n) (ofN u) = some q ∧ Ok (double.read q) := by
  obtain ⟨m, p, hm, e⟩ := ofN_pos u h0 h1
  unfold Format.div
  rw [e]
  rcases ofN_ok n with ⟨s, m', p', e'⟩ | ⟨s, e'⟩
  · rw [e']
    unfold Datum.quotient
    simp only
    rw [if_neg (by omega)]
    exact ⟨_, rfl, write_ok _ (.inl ⟨_, _, _, rfl⟩)⟩
  · rw [e']
    exact ⟨_, rfl, write_ok _ (.inr ⟨_, rfl⟩)⟩

/-- One less a float that is no NaN: no NaN. -/
theorem sub_ok (x q : Nat) (hx : ∃ s m p, double.read x = .number s m p) (hq : Ok (double.read q)) : ∃ r, double.sub x q = some r ∧ Ok (double.read r) := by
  obtain ⟨s, m, p, e⟩ := hx
  unfold Format.sub
  rw [e]
  rcases hq with ⟨s', m', p', e'⟩ | ⟨s', e'⟩
  · rw [e']
    exact ⟨_, rfl, write_ok _ (.inl ⟨_, _, _, rfl⟩)⟩
  · rw [e']
    exact ⟨_, rfl, write_ok _ (.inr ⟨_, rfl⟩)⟩
end Go.Proofs.YtmfbobibpebfnaaGreat.Fl

/- Guess of the code: zeroShare, countHighAndRaw. -/
namespace Go.Proofs.YtmfbobibpebfnaaGreat
open Go.RowKit

/-- How many of the first k units have a zero at place p. -/
def Cx.zc (zs : List Int) (p : Nat) : Nat → Nat
  | 0 => 0
  | k + 1 => Cx.zc zs p k + if zs[2 * k + p]?.getD 0 = 0 then 1 else 0
theorem Cx.zc_le (zs : List Int) (p : Nat) : ∀ k, Cx.zc zs p k ≤ k := by
  intro k
  induction k with
  | zero => exact Nat.le_refl _
  | succ k ih => unfold Cx.zc; split <;> omega

set_option maxRecDepth 100000 in
theorem zeroShare_any (v : Value) (zs : List Int) (p u : Nat) (q : Nat) (w : World) (h : Rd .u8 w v zs) (hp : p ≤ 1) (hu : 2 * u ≤ zs.length) (h0 : 0 < u)
    (hq : floatBits .quo .f64 (floatOfInt .f64 (Cx.zc zs p u : Nat)) (floatOfInt .f64 (u : Nat)) = some q) :
    Calls Tryz.prog 69 #[v, .int .i64 p, .int .i64 u] w fun e w' => e = .returned (.float .f64 q) ∧ Below w.heap.size w w' := by
  have hlen := h.len
  obtain ⟨ao, cap, rfl, hl, hm, hc⟩ := h
  obtain ⟨b, off, rfl, hbl, hc⟩ := hc (List.length_pos_iff.1 (by omega))
  have HC : Hid (∀ i, i < zs.length → w.cell? ⟨b, off + i, none⟩ = some (.int .u8 (zs[i]?.getD 0))) := hc
  have HQ : Hid (floatBits .quo .f64 (floatOfInt .f64 (Cx.zc zs p u : Nat)) (floatOfInt .f64 (u : Nat)) = some q) := hq
  clear hc hq hm
  go_enter Tryz.func69, Tryz.ntmps69
  go_wp2
  go_loopw [7, 10] (fun n i wr => ∃ k : Nat, k ≤ u ∧ i = .int .i64 k ∧ n = .int .i64 (Cx.zc zs p k : Nat) ∧ Below w.heap.size w wr) (fun _ i _ => u - (intOf i).toNat)
  case atStart => exact ⟨0, Nat.zero_le _, rfl, rfl, Below.refl _ _⟩
  case round =>
    obtain ⟨k, hk, rfl, rfl, hbw⟩ := hrel
    by_cases hlt : k < u
    · have hzk := Cx.zc_le zs p k
      have hcx : wr.cell? ⟨b, off + (2 * k + p), none⟩ = some (.int .u8 (zs[2 * k + p]?.getD 0)) := (hbw.cell (p := ⟨b, off + (2 * k + p), none⟩) hbl).trans (HC.out (2 * k + p) (by omega))
      have hix : (2 * (k : Int) + (p : Int)).toNat = 2 * k + p := by omega
      have hiy : 2 * (k : Int) + (p : Int) < (zs.length : Int) := by omega
      have hiz : 0 ≤ 2 * (k : Int) + (p : Int) := by omega
      have HS : Hid (Cx.zc zs p (k + 1) = Cx.zc zs p k + if zs[2 * k + p]?.getD 0 = 0 then 1 else 0) := rfl
      generalize zs[2 * k + p]?.getD 0 = x at *
      generalize Cx.zc zs p k = Z at *
      by_cases hx : x = 0
      · subst hx
        have HS' : Hid (Cx.zc zs p (k + 1) = Z + 1) := HS.out
        clear HS
        go_wp2
        go_roundw
        case rel => exact ⟨k + 1, by omega, by go_num, by rw [HS'.out]; go_num, hbw⟩
        case measure => simp [intOf]; omega
      · have hxb : (x == 0) = false := by simp [hx]
        have HS' : Hid (Cx.zc zs p (k + 1) = Z) := by unfold Hid; rw [HS.out, if_neg hx]; rfl
        clear HS
        go_wp2
        go_roundw
        case rel => exact ⟨k + 1, by omega, by go_num, by rw [HS'.out], hbw⟩
        case measure => simp [intOf]; omega
    · have hke : k = u := by omega
      subst hke
      have hop : ∀ t w, (binOp .quo t (.float .f64 (floatOfInt .f64 (Cx.zc zs p k : Nat))) (.float .f64 (floatOfInt .f64 (k : Nat)))).run Tryz.prog w = .ok (.float .f64 q) w := fun t w => run_float_arith w .quo t .f64 _ _ q HQ.out
      have HOP : Hid (∀ t w, (binOp .quo t (.float .f64 (floatOfInt .f64 (Cx.zc zs p k : Nat))) (.float .f64 (floatOfInt .f64 (k : Nat)))).run Tryz.prog w = .ok (.float .f64 q) w) := hop
      clear HC HQ
      go_wp2
      go_ret
      exact ⟨rfl, hbw⟩
end Go.Proofs.YtmfbobibpebfnaaGreat

/- How many bytes are high, how many atoms are raw. No Go in sight. -/
namespace Go.Proofs.YtmfbobibpebfnaaGreat
open Go.RowKit

def Cx.hi8 (b : List Int) : Nat := b.countP (fun x => decide (128 ≤ x))
def Cx.neg8 (l : List Int) : Nat := l.countP (fun a => decide (a < 0))
def Cx.rw8 (b : List Int) : Nat := Cx.neg8 (Cx.dec 1 b)

theorem Cx.hi8_cut (b : List Int) (n : Nat) : Cx.hi8 b = Cx.hi8 (b.take n) + Cx.hi8 (b.drop n) := by
  unfold Cx.hi8
  rw [← List.countP_append, List.take_append_drop]

/-- One step: raw (and then a high byte), a row of high bytes, or ASCII. -/
theorem Cx.hr_step (b : List Int) (hb : Byt b) (hn : b ≠ []) (a : Int) (n : Nat) (hf : Cx.fst 1 b = (a, (n : Int))) :
    (-256 ≤ a ∧ a ≤ -1 ∧ n = 1 ∧ Cx.hi8 b = 1 + Cx.hi8 (b.drop n) ∧ Cx.rw8 b = 1 + Cx.rw8 (b.drop n)) ∨
    (0 ≤ a ∧ 1 < n ∧ Cx.hi8 b = n + Cx.hi8 (b.drop n) ∧ Cx.rw8 b = Cx.rw8 (b.drop n)) ∨
    (0 ≤ a ∧ n = 1 ∧ Cx.hi8 b = Cx.hi8 (b.drop n) ∧ Cx.rw8 b = Cx.rw8 (b.drop n)) := by
  have hr : Cx.rw8 b = (if a < 0 then 1 else 0) + Cx.rw8 (b.drop n) := by
    unfold Cx.rw8 Cx.neg8
    rw [Cx.dec_cons 1 b hn a n hf, List.countP_cons]
    simp only [decide_eq_true_eq]
    omega
  have hf8 : Cx.first8 b = (a, (n : Int)) := hf
  have hcut := Cx.hi8_cut b n
  have hpos : 0 < b.length := List.length_pos_iff.2 hn
  rcases Cx.fst8_cases b with ⟨h0, hl, e⟩ | ⟨hno, e⟩
  · rw [e, Prod.mk.injEq] at hf8
    obtain ⟨ha, hmn⟩ := hf8
    have htn : (Cx.mtch b).toNat = n := by omega
    have hrow := Cx.row_bytes b hb h0 hl
    rw [htn] at hrow ha
    rcases hrow with ⟨x, ht, hm, h1, h2⟩ | ⟨x, y, ht, hm, h1, h2, h3, h4⟩ | ⟨x, y, z, ht, hm, h1, h2, h3, h4, h5, h6⟩ | ⟨x, y, z, u, ht, hm, h1, h2, h3, h4, h5, h6, h7, h8⟩
    · right; right
      rw [ht] at ha hcut
      have ha' : a = x := ha.symm
      have hc : Cx.hi8 [x] = 0 := by unfold Cx.hi8; simp; omega
      rw [if_neg (by omega)] at hr
      exact ⟨by omega, by omega, by omega, by omega⟩
    · right; left
      rw [ht] at ha hcut
      have ha' : a = (x - 192) * 64 + (y - 128) := ha.symm
      have hc : Cx.hi8 [x, y] = 2 := by unfold Cx.hi8; simp [show (128 : Int) ≤ x by omega, h3]
      rw [if_neg (by omega)] at hr
      exact ⟨by omega, by omega, by omega, by omega⟩
    · right; left
      have hy : 128 ≤ Cx.rowLo x := by unfold Cx.rowLo; repeat' split <;> omega
      rw [ht] at ha hcut
      have ha' : a = ((x - 224) * 64 + (y - 128)) * 64 + (z - 128) := ha.symm
      have hc : Cx.hi8 [x, y, z] = 3 := by unfold Cx.hi8; simp [show (128 : Int) ≤ x by omega, show (128 : Int) ≤ y by omega, h5]
      rw [if_neg (by omega)] at hr
      exact ⟨by omega, by omega, by omega, by omega⟩
    · right; left
      have hy : 128 ≤ Cx.rowLo x := by unfold Cx.rowLo; repeat' split <;> omega
      rw [ht] at ha hcut
      have ha' : a = (((x - 240) * 64 + (y - 128)) * 64 + (z - 128)) * 64 + (u - 128) := ha.symm
      have hc : Cx.hi8 [x, y, z, u] = 4 := by unfold Cx.hi8; simp [show (128 : Int) ≤ x by omega, show (128 : Int) ≤ y by omega, h5, h7]
      rw [if_neg (by omega)] at hr
      exact ⟨by omega, by omega, by omega, by omega⟩
  · left
    rw [e, Prod.mk.injEq] at hf8
    obtain ⟨ha, hmn⟩ := hf8
    have hn1 : n = 1 := by omega
    subst hn1
    have hb0 := hb.at 0
    change 0 ≤ Cx.c0 b ∧ Cx.c0 b ≤ 255 at hb0
    have hc0 : 128 ≤ Cx.c0 b := by
      by_cases hc : Cx.c0 b ≤ 127
      · have r1 : Cx.rowN (Cx.c0 b) = 1 := by unfold Cx.rowN; rw [if_pos hc]
        have := Cx.mtch_yes b 1 (fun j h1 h2 => by omega) (.inl (by rw [r1]; decide))
        rw [r1] at this
        exact absurd ⟨by omega, by omega⟩ hno
      · omega
    rw [Cx.c0_take b hn] at hcut
    have hc : Cx.hi8 [Cx.c0 b] = 1 := by unfold Cx.hi8; simp [hc0]
    rw [if_pos (by omega)] at hr
    exact ⟨by omega, by omega, rfl, by omega, by omega⟩

/-- A raw atom is a high byte. -/
theorem Cx.rw_le : ∀ (m : Nat) (b : List Int), b.length ≤ m → Byt b → Cx.rw8 b ≤ Cx.hi8 b := by
  intro m
  induction m with
  | zero =>
    intro b hm _
    have : b = [] := List.length_eq_zero_iff.1 (by omega)
    subst this
    exact Nat.le_refl _
  | succ m ih =>
    intro b hm hb
    by_cases hn : b = []
    · subst hn; exact Nat.le_refl _
    · have hbd := Cx.fst_bd 1 b hn
      have hp : 0 < b.length := List.length_pos_iff.2 hn
      have e : Cx.fst 1 b = ((Cx.fst 1 b).1, ((Cx.fst 1 b).2.toNat : Int)) := Prod.ext rfl (by simp only; omega)
      have := ih (b.drop (Cx.fst 1 b).2.toNat) (by rw [List.length_drop]; omega) (hb.drop _)
      rcases Cx.hr_step b hb hn _ _ e with ⟨_, _, _, h1, h2⟩ | ⟨_, _, h1, h2⟩ | ⟨_, _, h1, h2⟩ <;> omega
end Go.Proofs.YtmfbobibpebfnaaGreat

/- Guess of the code: countHighAndRaw, guessNarrow. -/
namespace Go.Proofs.YtmfbobibpebfnaaGreat
open Go.RowKit

theorem isRaw_any (a : Int) (w : World) : Calls Tryz.prog 72 #[.int .i64 a] w fun e w' => e = .returned (.bool (decide (-256 ≤ a) && decide (a ≤ -1))) ∧ w' = w := by
  by_cases h : -256 ≤ a
  · rw [decide_eq_true h, Bool.true_and]
    go_enter Tryz.func72, Tryz.ntmps72
    go_wp2
    go_ret
    exact ⟨rfl, rfl⟩
  · have hd : decide (-256 ≤ a) = false := decide_eq_false h
    rw [hd, Bool.false_and]
    go_enter Tryz.func72, Tryz.ntmps72
    go_wp2
    go_ret
    exact ⟨rfl, rfl⟩
theorem isRaw_yes (a : Int) (w : World) (h1 : -256 ≤ a) (h2 : a ≤ -1) : Calls Tryz.prog 72 #[.int .i64 a] w fun e w' => e = .returned (.bool true) ∧ w' = w := by
  have := isRaw_any a w
  rwa [decide_eq_true h1, decide_eq_true h2] at this
theorem isRaw_no (a : Int) (w : World) (h : 0 ≤ a) : Calls Tryz.prog 72 #[.int .i64 a] w fun e w' => e = .returned (.bool false) ∧ w' = w := by
  have := isRaw_any a w
  rwa [decide_eq_false (show ¬ a ≤ -1 by omega), Bool.and_false] at this
theorem Cx.hi8_le (b : List Int) : Cx.hi8 b ≤ b.length := List.countP_le_length

set_option maxRecDepth 100000 in
set_option maxHeartbeats 1000000 in
theorem countHR_any (v : Value) (zs : List Int) (w : World) (h : Rd .u8 w v zs) (hb : Byt zs) :
    Calls Tryz.prog 70 #[v] w fun e w' => e = .returned (.tuple #[.int .i64 (Cx.hi8 zs : Nat), .int .i64 (Cx.rw8 zs : Nat)]) ∧ Below w.heap.size w w' := by
  have HR : Hid (Rd .u8 w v zs) := h
  have HB : Hid (Byt zs) := hb
  have hlen := h.len
  have hle := Cx.hi8_le zs
  have hrl := Cx.rw_le zs.length zs (Nat.le_refl _) hb
  clear h hb
  go_enter Tryz.func70, Tryz.ntmps70
  go_wp2_with fail
  go_loopw [0, 2, 3] (fun bv hv rv wr => ∃ (ys : List Int) (H R : Nat), H + Cx.hi8 ys = Cx.hi8 zs ∧ R + Cx.rw8 ys = Cx.rw8 zs ∧ hv = .int .i64 H ∧ rv = .int .i64 R ∧ Hid (Rd .u8 w bv ys) ∧ Hid (Byt ys) ∧ Below w.heap.size w wr) (fun bv _ _ _ => lenOf bv)
  case atStart => exact ⟨zs, 0, 0, by omega, by omega, rfl, rfl, HR.out, HB.out, Below.refl _ _⟩
  case round =>
    obtain ⟨ys, H, R, hH, hR, rfl, rfl, HY, HYB, hbw⟩ := hrel
    have hylen := HY.out.len
    by_cases hn : ys = []
    · subst hn
      obtain ⟨ao, cap, rfl, hlc, hcm, _⟩ := HY.out
      have e1 : Hid (H = Cx.hi8 zs) := by have : Cx.hi8 ([] : List Int) = 0 := rfl; unfold Hid; omega
      have e2 : Hid (R = Cx.rw8 zs) := by have : Cx.rw8 ([] : List Int) = 0 := rfl; unfold Hid; omega
      clear hH hR HY HYB
      simp only [List.length_nil]
      go_wp2
      go_ret2
      exact ⟨by rw [← e1.out, ← e2.out]; rfl, hbw⟩
    · obtain ⟨a, n, hf, hn1, hn2⟩ : ∃ (a : Int) (n : Nat), Cx.fst 1 ys = (a, (n : Int)) ∧ 1 ≤ n ∧ n ≤ ys.length := by
        have := Cx.fst_bd 1 ys hn
        exact ⟨_, (Cx.fst 1 ys).2.toNat, Prod.ext rfl (by simp only; omega), by omega, by omega⟩
      have HF : Hid (Cx.fst 1 ys = (a, (n : Int))) := hf
      have HNE : Hid (ys ≠ []) := hn
      have hyp : 0 < ys.length := List.length_pos_iff.2 hn
      have hstep := Cx.hr_step ys HYB.out hn a n hf
      obtain ⟨ao, cap, hv, hlc, hcm, hrest⟩ := HY.out
      obtain ⟨b, off, hao, _⟩ := hrest hn
      subst hao
      subst hv
      have hcm' : cap ≤ 9223372036854775807 := hcm
      have hdl : (ys.drop n).length = ys.length - n := List.length_drop
      clear hf hn hrest hcm
      rcases hstep with ⟨h1, h2, h3, h4, h5⟩ | ⟨h1, h2, h4, h5⟩ | ⟨h1, h2, h4, h5⟩
      · obtain rfl : n = 1 := h3
        have HI : Hid ((H + 1) + Cx.hi8 (ys.drop 1) = Cx.hi8 zs) := by unfold Hid; omega
        have HJ : Hid ((R + 1) + Cx.rw8 (ys.drop 1) = Cx.rw8 zs) := by unfold Hid; omega
        have hHb : H + 1 ≤ zs.length := by omega
        have hRb : R + 1 ≤ zs.length := by omega
        clear hH hR h4 h5 hle hrl
        go_wp2_with fail
        refine (fst1_any _ ys a 1 _ (HY.out.ext hbw) HYB.out HNE.out HF.out).mono ?_
        rintro e w1 ⟨rfl, hb1⟩
        have hbw1 : Below w.heap.size w w1 := ext_trans hbw hb1
        clear hbw hb1
        go_wp2_with fail
        refine (isRaw_yes a _ h1 h2).mono ?_
        rintro e w2 ⟨rfl, hw2⟩
        subst hw2
        go_wp2_with fail
        all_goals refine ⟨⟨ys.drop 1, H + 1, R + 1, HI.out, HJ.out, by go_num, by go_num, ?_, HYB.out.drop _, hbw1⟩, ?_⟩
        all_goals first
          | exact HY.out.cut_if hn2
          | exact HY.out.cut hn2
          | exact HY.out.cut_same (by assumption)
          | (simp only [lenOf]; omega)
      · have HI : Hid ((H + n) + Cx.hi8 (ys.drop n) = Cx.hi8 zs) := by unfold Hid; omega
        have HJ : Hid (R + Cx.rw8 (ys.drop n) = Cx.rw8 zs) := by unfold Hid; omega
        have hHb : H + n ≤ zs.length := by omega
        have hRb : R ≤ zs.length := by omega
        clear hH hR h4 h5 hle hrl
        go_wp2_with fail
        refine (fst1_any _ ys a n _ (HY.out.ext hbw) HYB.out HNE.out HF.out).mono ?_
        rintro e w1 ⟨rfl, hb1⟩
        have hbw1 : Below w.heap.size w w1 := ext_trans hbw hb1
        clear hbw hb1
        go_wp2_with fail
        refine (isRaw_no a _ h1).mono ?_
        rintro e w2 ⟨rfl, hw2⟩
        subst hw2
        go_wp2_with fail
        all_goals refine ⟨⟨ys.drop n, H + n, R, HI.out, HJ.out, by go_num, by go_num, ?_, HYB.out.drop _, hbw1⟩, ?_⟩
        all_goals first
          | exact HY.out.cut_if hn2
          | exact HY.out.cut hn2
          | exact HY.out.cut_same (by assumption)
          | (simp only [lenOf]; omega)
      · obtain rfl : n = 1 := h2
        have HI : Hid (H + Cx.hi8 (ys.drop 1) = Cx.hi8 zs) := by unfold Hid; omega
        have HJ : Hid (R + Cx.rw8 (ys.drop 1) = Cx.rw8 zs) := by unfold Hid; omega
        have hHb : H ≤ zs.length := by omega
        have hRb : R ≤ zs.length := by omega
        clear hH hR h4 h5 hle hrl
        go_wp2_with fail
        refine (fst1_any _ ys a 1 _ (HY.out.ext hbw) HYB.out HNE.out HF.out).mono ?_
        rintro e w1 ⟨rfl, hb1⟩
        have hbw1 : Below w.heap.size w w1 := ext_trans hbw hb1
        clear hbw hb1
        go_wp2_with fail
        refine (isRaw_no a _ h1).mono ?_
        rintro e w2 ⟨rfl, hw2⟩
        subst hw2
        go_wp2_with fail
        all_goals refine ⟨⟨ys.drop 1, H, R, HI.out, HJ.out, by go_num, by go_num, ?_, HYB.out.drop _, hbw1⟩, ?_⟩
        all_goals first
          | exact HY.out.cut_if hn2
          | exact HY.out.cut hn2
          | exact HY.out.cut_same (by assumption)
          | (simp only [lenOf]; omega)
end Go.Proofs.YtmfbobibpebfnaaGreat

/- Guess of the code: guessNarrow, guessWide. -/
namespace Go.Proofs.YtmfbobibpebfnaaGreat
open Go.RowKit

def Fl.ge (x y : Nat) : Bool := (Ieee.double.order x y == some .gt || Ieee.double.order x y == some .eq)
def Fl.le (x y : Nat) : Bool := (Ieee.double.order x y == some .lt || Ieee.double.order x y == some .eq)
theorem Fl.ge_eq (x y : Nat) : (FloatKind.f64.format.order x y == some .gt || FloatKind.f64.format.order x y == some .eq) = Fl.ge x y := rfl
theorem Fl.le_eq (x y : Nat) : (FloatKind.f64.format.order x y == some .lt || FloatKind.f64.format.order x y == some .eq) = Fl.le x y := rfl
theorem Fl.foi (n : Nat) : floatOfInt .f64 (n : Int) = Fl.ofN n := by
  unfold floatOfInt FloatKind.nearest FloatKind.encode Fl.ofN Ieee.Format.write
  simp only [Int.natAbs_natCast, show decide ((n : Int) < 0) = false from decide_eq_false (by omega)]
  rfl

/-- The share of counts. -/
def Fl.shr (n u : Nat) : Nat := (Ieee.double.div (Fl.ofN n) (Fl.ofN u)).getD 0
theorem Fl.shr_eq (n u : Nat) (h0 : 0 < u) (h1 : u < 9007199254740992) : floatBits .quo .f64 (floatOfInt .f64 (n : Int)) (floatOfInt .f64 (u : Int)) = some (Fl.shr n u) := by
  obtain ⟨q, hq, _⟩ := Fl.div_ok n u h0 h1
  rw [Fl.foi, Fl.foi]
  unfold Fl.shr
  rw [hq]
  exact hq
theorem Fl.shr_ok (n u : Nat) (h0 : 0 < u) (h1 : u < 9007199254740992) : Fl.Ok (Ieee.double.read (Fl.shr n u)) := by
  obtain ⟨q, hq, hk⟩ := Fl.div_ok n u h0 h1
  unfold Fl.shr
  rw [hq]
  exact hk
/-- One less a share. -/
def Fl.less (q : Nat) : Nat := (Ieee.double.sub 4607182418800017408 q).getD 0
theorem Fl.one_num : ∃ s m p, Ieee.double.read 4607182418800017408 = .number s m p := ⟨false, 4503599627370496, -52, by decide⟩
theorem Fl.less_eq (q : Nat) (h : Fl.Ok (Ieee.double.read q)) : floatBits .sub .f64 4607182418800017408 q = some (Fl.less q) := by
  obtain ⟨r, hr, _⟩ := Fl.sub_ok _ q Fl.one_num h
  unfold Fl.less
  rw [hr]
  exact hr
theorem Fl.less_ok (q : Nat) (h : Fl.Ok (Ieee.double.read q)) : Fl.Ok (Ieee.double.read (Fl.less q)) := by
  obtain ⟨r, hr, hk⟩ := Fl.sub_ok _ q Fl.one_num h
  unfold Fl.less
  rw [hr]
  exact hk

def Cx.nar (zs : List Int) : Int × Nat :=
  if Cx.rw8 zs = 0 then (1, 4607182418800017408) else if Fl.ge (Fl.shr (Cx.hi8 zs - Cx.rw8 zs) (Cx.hi8 zs)) 4604930618986332160 = true then (1, Fl.shr (Cx.hi8 zs - Cx.rw8 zs) (Cx.hi8 zs)) else (4, Fl.less (Fl.shr (Cx.hi8 zs - Cx.rw8 zs) (Cx.hi8 zs)))
def Cx.wid (zs : List Int) (u : Nat) : Int × Nat :=
  if u = 0 then (0, 0) else if (Fl.ge (Fl.shr (Cx.zc zs 1 u) u) 4602678819172646912 && Fl.le (Fl.shr (Cx.zc zs 0 u) u) 4593671619917905920) = true then (2, Fl.shr (Cx.zc zs 1 u) u)
  else if (Fl.ge (Fl.shr (Cx.zc zs 0 u) u) 4602678819172646912 && Fl.le (Fl.shr (Cx.zc zs 1 u) u) 4593671619917905920) = true then (3, Fl.shr (Cx.zc zs 0 u) u) else (0, 0)

set_option maxRecDepth 100000 in
theorem guessNarrow_any (v : Value) (zs : List Int) (w : World) (h : Rd .u8 w v zs) (hb : Byt zs) (hz : zs.length ≤ 140737488355328) :
    Calls Tryz.prog 64 #[v] w fun e w' => e = .returned (.tuple #[.int .i64 (Cx.nar zs).1, .float .f64 (Cx.nar zs).2]) ∧ Below w.heap.size w w' := by
  have HR : Hid (Rd .u8 w v zs) := h
  have HB : Hid (Byt zs) := hb
  have hle := Cx.hi8_le zs
  have hrl := Cx.rw_le zs.length zs (Nat.le_refl _) hb
  have HN : Hid (Cx.nar zs = if Cx.rw8 zs = 0 then (1, 4607182418800017408) else if Fl.ge (Fl.shr (Cx.hi8 zs - Cx.rw8 zs) (Cx.hi8 zs)) 4604930618986332160 = true then (1, Fl.shr (Cx.hi8 zs - Cx.rw8 zs) (Cx.hi8 zs)) else (4, Fl.less (Fl.shr (Cx.hi8 zs - Cx.rw8 zs) (Cx.hi8 zs)))) := rfl
  clear h hb
  generalize hNR : Cx.nar zs = NR at *
  clear hNR
  go_enter Tryz.func64, Tryz.ntmps64
  go_wp2_with fail
  refine (countHR_any _ zs _ HR.out HB.out).mono ?_
  rintro e w1 ⟨rfl, hb1⟩
  have HW1 : Hid (Below w.heap.size w w1) := hb1
  clear hb1
  generalize Cx.hi8 zs = H at *
  generalize Cx.rw8 zs = R at *
  by_cases hR : R = 0
  · subst hR
    have HE : Hid (NR = (1, 4607182418800017408)) := HN.out
    clear HN
    go_wp2
    go_ret2
    exact ⟨by rw [HE.out]; rfl, HW1.out⟩
  · have hRb : ((R : Int) == 0) = false := by rw [beq_eq_false_iff_ne]; omega
    have hsub : (H : Int) - (R : Int) = ((H - R : Nat) : Int) := by omega
    have hq := Fl.shr_eq (H - R) H (by omega) (by omega)
    have hok := Fl.shr_ok (H - R) H (by omega) (by omega)
    have hl := Fl.less_eq _ hok
    have HN' : Hid (NR = if Fl.ge (Fl.shr (H - R) H) 4604930618986332160 = true then (1, Fl.shr (H - R) H) else (4, Fl.less (Fl.shr (H - R) H))) := by unfold Hid; rw [HN.out, if_neg hR]
    clear HN hok
    rw [← hsub] at hq
    generalize Fl.shr (H - R) H = q at *
    have hop : ∀ t w, (binOp .quo t (.float .f64 (floatOfInt .f64 ((H : Int) - (R : Int)))) (.float .f64 (floatOfInt .f64 (H : Int)))).run Tryz.prog w = .ok (.float .f64 q) w := fun t w => run_float_arith w .quo t .f64 _ _ q hq
    have hos : ∀ t w, (binOp .sub t (.float .f64 4607182418800017408) (.float .f64 q)).run Tryz.prog w = .ok (.float .f64 (Fl.less q)) w := fun t w => run_float_arith w .sub t .f64 _ _ _ hl
    have hge := Fl.ge_eq
    clear hq hl hsub
    cases hg : Fl.ge q 4604930618986332160
    · have HE : Hid (NR = (4, Fl.less q)) := by unfold Hid; rw [HN'.out, hg]; rfl
      clear HN'
      go_wp2
      go_ret2
      exact ⟨by rw [HE.out]; rfl, HW1.out⟩
    · have HE : Hid (NR = (1, q)) := by unfold Hid; rw [HN'.out, hg]; rfl
      clear HN'
      go_wp2
      go_ret2
      exact ⟨by rw [HE.out]; rfl, HW1.out⟩

set_option maxRecDepth 100000 in
theorem guessWide_any (v : Value) (zs : List Int) (w : World) (h : Rd .u8 w v zs) (hz : zs.length ≤ 140737488355328) :
    Calls Tryz.prog 63 #[v] w fun e w' => e = .returned (.tuple #[.int .i64 (Cx.wid zs (zs.length / 2)).1, .float .f64 (Cx.wid zs (zs.length / 2)).2]) ∧ Below w.heap.size w w' := by
  have HR : Hid (Rd .u8 w v zs) := h
  obtain ⟨ao, cap, rfl, _⟩ := h
  have hdv : Int.tdiv (zs.length : Int) 2 = ((zs.length / 2 : Nat) : Int) := by rw [Int.tdiv_eq_ediv_of_nonneg (by omega)]; omega
  have hdv' : (zs.length : Int) / 2 = ((zs.length / 2 : Nat) : Int) := by omega
  have hu2 : 2 * (zs.length / 2) ≤ zs.length := by omega
  generalize zs.length / 2 = u at *
  by_cases hu : u = 0
  · subst hu
    have HE : Hid (Cx.wid zs 0 = (0, 0)) := rfl
    generalize Cx.wid zs 0 = NR at *
    go_enter Tryz.func63, Tryz.ntmps63
    go_wp2
    go_ret2
    exact ⟨by rw [HE.out]; rfl, Below.refl _ _⟩
  · have hub : ((u : Int) == 0) = false := by rw [beq_eq_false_iff_ne]; omega
    have HN : Hid (Cx.wid zs u = if (Fl.ge (Fl.shr (Cx.zc zs 1 u) u) 4602678819172646912 && Fl.le (Fl.shr (Cx.zc zs 0 u) u) 4593671619917905920) = true then (2, Fl.shr (Cx.zc zs 1 u) u)
        else if (Fl.ge (Fl.shr (Cx.zc zs 0 u) u) 4602678819172646912 && Fl.le (Fl.shr (Cx.zc zs 1 u) u) 4593671619917905920) = true then (3, Fl.shr (Cx.zc zs 0 u) u) else (0, 0)) := by
      unfold Hid Cx.wid; rw [if_neg hu]
    have HQ0 : Hid (floatBits .quo .f64 (floatOfInt .f64 (Cx.zc zs 0 u : Nat)) (floatOfInt .f64 (u : Nat)) = some (Fl.shr (Cx.zc zs 0 u) u)) := Fl.shr_eq _ _ (by omega) (by omega)
    have HQ1 : Hid (floatBits .quo .f64 (floatOfInt .f64 (Cx.zc zs 1 u : Nat)) (floatOfInt .f64 (u : Nat)) = some (Fl.shr (Cx.zc zs 1 u) u)) := Fl.shr_eq _ _ (by omega) (by omega)
    generalize Cx.wid zs u = NR at *
    generalize Fl.shr (Cx.zc zs 0 u) u = q0 at *
    generalize Fl.shr (Cx.zc zs 1 u) u = q1 at *
    have hge := Fl.ge_eq
    have hlq := Fl.le_eq
    go_enter Tryz.func63, Tryz.ntmps63
    go_wp2_with fail
    refine (zeroShare_any _ zs 0 u q0 _ HR.out (by omega) hu2 (by omega) HQ0.out).mono ?_
    rintro e w1 ⟨rfl, hb1⟩
    have HW1 : Hid (Below w.heap.size w w1) := hb1
    clear hb1
    go_wp2_with fail
    refine (zeroShare_any _ zs 1 u q1 _ (HR.out.ext HW1.out) (by omega) hu2 (by omega) HQ1.out).mono ?_
    rintro e w2 ⟨rfl, hb2⟩
    have HW2 : Hid (Below w.heap.size w w2) := ext_trans HW1.out hb2
    clear hb2 HQ0 HQ1
    cases g1 : Fl.ge q1 4602678819172646912 <;> cases g2 : Fl.le q0 4593671619917905920 <;> cases g3 : Fl.ge q0 4602678819172646912 <;> cases g4 : Fl.le q1 4593671619917905920
    all_goals
      have HE := HN.out
      rw [g1, g2, g3, g4] at HE
      simp only [Bool.and_self, Bool.and_true, Bool.and_false, Bool.false_eq_true, if_true, if_false] at HE
      have HE' : Hid (NR = _) := HE
      clear HE HN
      go_wp2
      go_ret2
      exact ⟨by rw [HE'.out]; rfl, HW2.out⟩
end Go.Proofs.YtmfbobibpebfnaaGreat

/- Guess of the code. -/
namespace Go.Proofs.YtmfbobibpebfnaaGreat
open Go.RowKit

def Cx.gue (zs : List Int) : Int × Nat :=
  if 0 < (Cx.det zs).2 then ((Cx.det zs).1, 4607182418800017408) else if (Cx.wid zs (zs.length / 2)).1 ≠ 0 then Cx.wid zs (zs.length / 2) else Cx.nar zs

set_option maxRecDepth 100000 in
/-- codec.Guess. -/
theorem Guess_any (v : Value) (zs : List Int) (w : World) (h : Rd .u8 w v zs) (hb : Byt zs) (hz : zs.length ≤ 140737488355328) :
    Calls Tryz.prog 53 #[v] w fun e w' => e = .returned (.tuple #[.int .i64 (Cx.gue zs).1, .float .f64 (Cx.gue zs).2]) ∧ Below w.heap.size w w' := by
  have HR : Hid (Rd .u8 w v zs) := h
  have HB : Hid (Byt zs) := hb
  have HG : Hid (Cx.gue zs = if 0 < (Cx.det zs).2 then ((Cx.det zs).1, 4607182418800017408) else if (Cx.wid zs (zs.length / 2)).1 ≠ 0 then Cx.wid zs (zs.length / 2) else Cx.nar zs) := rfl
  clear h hb
  generalize Cx.gue zs = G at *
  go_enter Tryz.func53, Tryz.ntmps53
  go_wp2_with fail
  refine (Detect_any _ zs _ HR.out HB.out).mono ?_
  rintro e w1 ⟨rfl, hb1⟩
  have HW1 : Hid (Below w.heap.size w w1) := hb1
  clear hb1
  generalize (Cx.det zs).1 = d1 at *
  generalize (Cx.det zs).2 = d2 at *
  by_cases hd : 0 < d2
  · have HE : Hid (G = (d1, 4607182418800017408)) := by unfold Hid; rw [HG.out, if_pos hd]
    clear HG
    go_wp2
    go_ret2
    exact ⟨by rw [HE.out]; rfl, HW1.out⟩
  · have HG' : Hid (G = if (Cx.wid zs (zs.length / 2)).1 ≠ 0 then Cx.wid zs (zs.length / 2) else Cx.nar zs) := by unfold Hid; rw [HG.out, if_neg hd]
    clear HG
    go_wp2_with fail
    refine (guessWide_any _ zs _ (HR.out.ext HW1.out) hz).mono ?_
    rintro e w2 ⟨rfl, hb2⟩
    have HW2 : Hid (Below w.heap.size w w2) := ext_trans HW1.out hb2
    clear hb2
    generalize Cx.wid zs (zs.length / 2) = W at *
    by_cases hw : W.1 = 0
    · have HE : Hid (G = Cx.nar zs) := by unfold Hid; rw [HG'.out, if_neg (fun h => h hw)]
      have hwb : (W.1 != 0) = false := by simp [hw]
      clear HG' hw
      go_wp2_with fail
      refine (guessNarrow_any _ zs _ (HR.out.ext HW2.out) HB.out hz).mono ?_
      rintro e w3 ⟨rfl, hb3⟩
      have HW3 : Hid (Below w.heap.size w w3) := ext_trans HW2.out hb3
      clear hb3
      go_wp2
      go_ret2
      exact ⟨by rw [HE.out]; rfl, HW3.out⟩
    · have HE : Hid (G = W) := by unfold Hid; rw [HG'.out, if_pos hw]
      have hwb : (W.1 != 0) = true := by simp [hw]
      clear HG'
      go_wp2
      go_ret2
      exact ⟨by rw [HE.out]; rfl, HW2.out⟩
end Go.Proofs.YtmfbobibpebfnaaGreat
