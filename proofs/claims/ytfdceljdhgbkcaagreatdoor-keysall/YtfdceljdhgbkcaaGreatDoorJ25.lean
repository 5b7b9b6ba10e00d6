import Derived.Test.YtfdceljdhgbkcaaGreatDoorJ20
import Derived.Test.YtfdceljdhgbkcaaGreatDoorJ17
import Derived.Shelf.Strconv.Itoa3
import Derived.Shelf.LaysM
import Derived.Lib.AppendIntMem
import Derived.Test.YtfdceljdhgbkcaaGreatDoorProg
import Derived.Lib.OthersKept
/- cmp.Compare and slices.Compare of ints; isBefore. -/
namespace Go.Proofs.YtfdceljdhgbkcaaGreatDoor
open Go.RowKit
set_option maxRecDepth 100000 in
theorem isNaN_any (x : Int) (w : World) : Calls Tryz.prog 91 #[.int .i64 x] w fun e w' => e = .returned (.bool false) ∧ w = w' := by
  go_enter Tryz.func91, Tryz.ntmps91
  go_wp2
  go_ret
  simp
def cm1 (x y : Int) : Int := if x < y then -1 else if y < x then 1 else 0
set_option maxRecDepth 100000 in
theorem cmp1_any (x y : Int) (w : World) : Calls Tryz.prog 76 #[.int .i64 x, .int .i64 y] w fun e w' => e = .returned (.int .i64 (cm1 x y)) ∧ w = w' := by
  have HN := hidIt (fun x w => isNaN_any x w)
  by_cases h1 : x < y
  · have HE : Hid (cm1 x y = -1) := by unfold Hid cm1; rw [if_pos h1]
    go_enter Tryz.func76, Tryz.ntmps76
    go_wp2_with (go_at_call 91; refine (HN.out _ _).mono ?_; rintro e w9 ⟨rfl, rfl⟩; (try dsimp only))
    go_ret
    exact ⟨by rw [HE.out]; rfl, rfl⟩
  · by_cases h2 : y < x
    · have h3 : x > y := h2
      have HE : Hid (cm1 x y = 1) := by unfold Hid cm1; rw [if_neg h1, if_pos h2]
      go_enter Tryz.func76, Tryz.ntmps76
      go_wp2_with (go_at_call 91; refine (HN.out _ _).mono ?_; rintro e w9 ⟨rfl, rfl⟩; (try dsimp only))
      go_ret
      exact ⟨by rw [HE.out]; rfl, rfl⟩
    · have h3 : ¬ x > y := h2
      have HE : Hid (cm1 x y = 0) := by unfold Hid cm1; rw [if_neg h1, if_neg h2]
      go_enter Tryz.func76, Tryz.ntmps76
      go_wp2_with (go_at_call 91; refine (HN.out _ _).mono ?_; rintro e w9 ⟨rfl, rfl⟩; (try dsimp only))
      go_ret
      exact ⟨by rw [HE.out]; rfl, rfl⟩
theorem cmpL_at (xs ys : List Int) (k : Nat) : cmpL (xs.drop k) (ys.drop k) = if k < xs.length then (if k < ys.length then (if cm1 (xs[k]?.getD 0) (ys[k]?.getD 0) = 0 then cmpL (xs.drop (k + 1)) (ys.drop (k + 1)) else cm1 (xs[k]?.getD 0) (ys[k]?.getD 0)) else 1) else if k < ys.length then -1 else 0 := by
  by_cases hx : k < xs.length
  · rw [if_pos hx, List.drop_eq_getElem_cons hx]
    by_cases hy : k < ys.length
    · rw [if_pos hy, List.drop_eq_getElem_cons hy, List.getElem?_eq_getElem hx, List.getElem?_eq_getElem hy]
      show (if xs[k] < ys[k] then -1 else if ys[k] < xs[k] then 1 else _) = if cm1 xs[k] ys[k] = 0 then _ else cm1 xs[k] ys[k]
      unfold cm1
      by_cases h1 : xs[k] < ys[k]
      · rw [if_pos h1, if_pos h1, if_neg (by decide)]
      · by_cases h2 : ys[k] < xs[k]
        · rw [if_neg h1, if_pos h2, if_neg h1, if_pos h2, if_neg (by decide)]
        · rw [if_neg h1, if_neg h2, if_neg h1, if_neg h2, if_pos rfl]
    · rw [if_neg hy, show ys.drop k = [] from List.drop_eq_nil_of_le (by omega)]
      rfl
  · rw [if_neg hx, show xs.drop k = [] from List.drop_eq_nil_of_le (by omega)]
    by_cases hy : k < ys.length
    · rw [if_pos hy, List.drop_eq_getElem_cons hy]
      rfl
    · rw [if_neg hy, List.drop_eq_nil_of_le (by omega)]
      rfl
set_option maxRecDepth 100000 in
set_option maxHeartbeats 4000000 in
theorem compare_any (u v : Value) (xs ys : List Int) (w : World) (hx : RdS w u xs) (hy : RdS w v ys) : Calls Tryz.prog 54 #[u, v] w fun e w' => e = .returned (.int .i64 (cmpL xs ys)) ∧ w = w' := by
  obtain ⟨ao, cu, rfl, lx⟩ := hx.len
  obtain ⟨bo, cv, rfl, ly⟩ := hy.len
  have HX := hidIt hx
  have HY := hidIt hy
  have HC := hidIt (fun x y w => cmp1_any x y w)
  clear hx hy
  go_enter Tryz.func54, Tryz.ntmps54
  go_wp2_with fail
  go_loopw [11] (fun i wr => ∃ k : Nat, k ≤ xs.length ∧ k ≤ ys.length ∧ i = .int .i64 k ∧ w = wr ∧ Hid (cmpL xs ys = cmpL (xs.drop k) (ys.drop k))) (fun i _ => xs.length - (RowKit.intOf i).toNat)
  case atStart => exact ⟨0, Nat.zero_le _, Nat.zero_le _, rfl, rfl, rfl⟩
  case round =>
    obtain ⟨k, hk1, hk2, rfl, rfl, HE⟩ := hrel
    rw [cmpL_at] at HE
    by_cases h1 : k < xs.length
    · rw [if_pos h1] at HE
      obtain ⟨b1, o1, rfl, c1⟩ := rd_at HX.out h1
      by_cases h2 : k < ys.length
      · rw [if_pos h2] at HE
        obtain ⟨b2, o2, rfl, c2⟩ := rd_at HY.out h2
        generalize xs[k]?.getD 0 = x at c1 HE
        generalize ys[k]?.getD 0 = y at c2 HE
        have h2I : ¬ (k : Int) ≥ (ys.length : Int) := by omega
        have HCC := hidIt (HC.out x y)
        by_cases h0 : cm1 x y = 0
        · rw [if_pos h0] at HE
          rw [h0] at HCC
          clear h0
          go_wp2_with (go_at_call 76; refine (HCC.out _).mono ?_; rintro e w9 ⟨rfl, rfl⟩; (try dsimp only))
          go_roundw
          case rel => exact ⟨k + 1, by omega, by omega, rfl, by first | trivial | rfl, HE.out⟩
          case measure => simp [RowKit.intOf]; omega
        · rw [if_neg h0] at HE
          generalize cm1 x y = s at HE HCC h0
          go_wp2_with (go_at_call 76; refine (HCC.out _).mono ?_; rintro e w9 ⟨rfl, rfl⟩; (try dsimp only))
          try rw [Exit.noGoto_ret]
          go_ret
          exact ⟨by rw [HE.out]; rfl, rfl⟩
      · rw [if_neg h2] at HE
        have h2I : (k : Int) ≥ (ys.length : Int) := by omega
        go_wp2_with fail
        try rw [Exit.noGoto_ret]
        go_ret
        exact ⟨by rw [HE.out]; rfl, rfl⟩
    · rw [if_neg h1] at HE
      by_cases h2 : k < ys.length
      · rw [if_pos h2] at HE
        have h3 : (xs.length : Int) < (ys.length : Int) := by omega
        go_wp2_with fail
        go_ret
        exact ⟨by rw [HE.out]; rfl, rfl⟩
      · rw [if_neg h2] at HE
        have h3 : ¬ (xs.length : Int) < (ys.length : Int) := by omega
        go_wp2_with fail
        go_ret
        exact ⟨by rw [HE.out]; rfl, rfl⟩
set_option maxRecDepth 100000 in
theorem isBefore_any (u v : Value) (xs ys : List Int) (w : World) (hx : RdS w u xs) (hy : RdS w v ys) : Calls Tryz.prog 25 #[u, v] w fun e w' => e = .returned (.bool (bfr xs ys)) ∧ w = w' := by
  have HC := hidIt (compare_any u v xs ys w hx hy)
  obtain ⟨ao, cu, rfl, lx⟩ := hx.len
  obtain ⟨bo, cv, rfl, ly⟩ := hy.len
  have HE := hidIt (show bfr xs ys = if xs.length = ys.length then decide (cmpL xs ys < 0) else decide (xs.length < ys.length) from rfl)
  clear hx hy
  by_cases h : xs.length = ys.length
  · rw [if_pos h] at HE
    generalize cmpL xs ys = s at HC HE
    generalize bfr xs ys = bb at HE ⊢
    rw [h] at HC ⊢
    clear h
    go_enter Tryz.func25, Tryz.ntmps25
    go_wp2_with (go_at_call 54; refine HC.out.mono ?_; rintro e w9 ⟨rfl, rfl⟩; (try dsimp only))
    go_ret
    refine ⟨?_, rfl⟩
    rw [HE.out]
    simp
  · rw [if_neg h] at HE
    have hI : ¬ (xs.length : Int) = (ys.length : Int) := by omega
    go_enter Tryz.func25, Tryz.ntmps25
    go_wp2_with fail
    go_ret
    refine ⟨?_, rfl⟩
    rw [HE.out]
    simp
end Go.Proofs.YtfdceljdhgbkcaaGreatDoor

/- strconv.Itoa: the library's contract laid at this program (by the shelf's lay-shelf.mjs and lay-plain.mjs at this seat: the numbers are this seat's; write it anew for another seat with mkitoa.py). -/
namespace Go.Proofs.YtfdceljdhgbkcaaGreatDoor
open Go.Shelf
def laysM171_ren : Go.Shelf.Ren := ⟨fun | 171 => 90 | 243 => 93 | 246 => 94 | 283 => 95 | 284 => 96 | 285 => 97 | 286 => 98 | 129 => 100 | 317 => 99 | 318 => 101 | 319 => 102 | 320 => 103 | 337 => 104 | 338 => 105 | n => n, fun | 3 => 3 | 9 => 9 | 2 => 2 | 4 => 4 | 171 => 143 | 0 => 0 | 53 => 144 | 37 => 147 | 5 => 5 | 173 => 148 | 212 => 152 | 51 => 153 | 20 => 20 | 213 => 154 | 46 => 155 | 232 => 158 | 233 => 159 | n => n, fun | 17 => 0 | 18 => 1 | 19 => 2 | n => n⟩
theorem laysM171 : Go.Proofs.LaysM.n171 Tryz.prog laysM171_ren := {
  mixed := by kernel_rfl
  f129 := Tryz.func100.trans (congrArg some (by kernel_rfl))
  f171 := Tryz.func90.trans (congrArg some (by kernel_rfl))
  f243 := Tryz.func93.trans (congrArg some (by kernel_rfl))
  f246 := Tryz.func94.trans (congrArg some (by kernel_rfl))
  f283 := Tryz.func95.trans (congrArg some (by kernel_rfl))
  f284 := Tryz.func96.trans (congrArg some (by kernel_rfl))
  f285 := Tryz.func97.trans (congrArg some (by kernel_rfl))
  f286 := Tryz.func98.trans (congrArg some (by kernel_rfl))
  f317 := Tryz.func99.trans (congrArg some (by kernel_rfl))
  f318 := Tryz.func101.trans (congrArg some (by kernel_rfl))
  f319 := Tryz.func102.trans (congrArg some (by kernel_rfl))
  f320 := Tryz.func103.trans (congrArg some (by kernel_rfl))
  f337 := Tryz.func104.trans (congrArg some (by kernel_rfl))
  f338 := Tryz.func105.trans (congrArg some (by kernel_rfl))
  t0 := Tryz.underlying0
  a0 := Tryz.isAgg0
  z0 := Tryz.sizeOf0
  v0 := Tryz.zeroValue0
  t2 := Tryz.underlying2
  a2 := Tryz.isAgg2
  z2 := Tryz.sizeOf2
  v2 := Tryz.zeroValue2
  t3 := Tryz.underlying3
  a3 := Tryz.isAgg3
  z3 := Tryz.sizeOf3
  v3 := Tryz.zeroValue3
  t4 := Tryz.underlying4
  a4 := Tryz.isAgg4
  z4 := Tryz.sizeOf4
  v4 := Tryz.zeroValue4
  t5 := Tryz.underlying5
  a5 := Tryz.isAgg5
  z5 := Tryz.sizeOf5
  v5 := Tryz.zeroValue5
  t9 := Tryz.underlying9
  a9 := Tryz.isAgg9
  z9 := Tryz.sizeOf9
  v9 := Tryz.zeroValue9
  t20 := Tryz.underlying20
  a20 := Tryz.isAgg20
  z20 := Tryz.sizeOf20
  v20 := Tryz.zeroValue20
  t37 := Tryz.underlying147
  a37 := Tryz.isAgg147
  z37 := Tryz.sizeOf147
  v37 := Tryz.zeroValue147
  t46 := Tryz.underlying155
  a46 := Tryz.isAgg155
  z46 := Tryz.sizeOf155
  v46 := Tryz.zeroValue155
  t51 := Tryz.underlying153
  a51 := Tryz.isAgg153
  z51 := Tryz.sizeOf153
  v51 := Tryz.zeroValue153
  t53 := Tryz.underlying144
  a53 := Tryz.isAgg144
  z53 := Tryz.sizeOf144
  v53 := Tryz.zeroValue144
  t171 := Tryz.underlying143
  a171 := Tryz.isAgg143
  z171 := Tryz.sizeOf143
  v171 := Tryz.zeroValue143
  t173 := Tryz.underlying148
  a173 := Tryz.isAgg148
  z173 := Tryz.sizeOf148
  v173 := Tryz.zeroValue148
  t212 := Tryz.underlying152
  a212 := Tryz.isAgg152
  z212 := Tryz.sizeOf152
  v212 := Tryz.zeroValue152
  t213 := Tryz.underlying154
  a213 := Tryz.isAgg154
  z213 := Tryz.sizeOf154
  t232 := Tryz.underlying158
  a232 := Tryz.isAgg158
  z232 := Tryz.sizeOf158
  v232 := Tryz.zeroValue158
  t233 := Tryz.underlying159
  a233 := Tryz.isAgg159
  z233 := Tryz.sizeOf159
  v233 := Tryz.zeroValue159
  g17 := by kernel_rfl
  g18 := by kernel_rfl
  g19 := by kernel_rfl
  i0 := by kernel_rfl
  i2 := by kernel_rfl
  i3 := by kernel_rfl
  i4 := by kernel_rfl
  i5 := by kernel_rfl
  i9 := by kernel_rfl
  i20 := by kernel_rfl
  i37 := by kernel_rfl
  i46 := by kernel_rfl
  i51 := by kernel_rfl
  i53 := by kernel_rfl
  i171 := by kernel_rfl
  i173 := by kernel_rfl
  i212 := by kernel_rfl
  i232 := by kernel_rfl
  i233 := by kernel_rfl
  m17 := by kernel_rfl
  m18 := by kernel_rfl
  m19 := by kernel_rfl }
open Go.RowKit Go.Sort Go.Lib in
theorem shelf_Itoa (n : Int) (h0 : -9223372036854775808 ≤ n) (h1 : n ≤ 9223372036854775807) (w : World) (htab : Lib.TabIs Tryz.prog w "internal/strconv.uint64pow10" .u64 Lib.pow10Tab) :
    Calls Tryz.prog 90 #[.int .i64 n] w fun e w' => e = .returned (.string ⟨(Lib.itoa n).toArray⟩) ∧ ∃ k os, w' = grow (w.drewN k) os := Any.strconv_Itoa laysM171 n h0 h1 w htab

/-- The library's table of powers is laid. -/
def Tb (w : World) : Prop := Lib.TabIs Tryz.prog w "internal/strconv.uint64pow10" .u64 Lib.pow10Tab
open Go.RowKit in
theorem Tb.ext {w w' : World} (h : Tb w) (hb : Below w.heap.size w w') : Tb w' := Lib.tabBelow_of_tabIs h w' hb
open Go.RowKit in
theorem itoa_any (n : Nat) (h : n ≤ 9999) (w : World) (hT : Tb w) : Calls Tryz.prog 90 #[.int .i64 n] w fun e w' => e = .returned (.string ⟨(Lib.decDigits n).toArray⟩) ∧ Below w.heap.size w w' := by
  refine (shelf_Itoa n (by omega) (by omega) w hT).mono ?_
  rintro e w' ⟨rfl, k, os, rfl⟩
  refine ⟨?_, Lib.below_grow _ w (Nat.le_refl _) k os⟩
  unfold Lib.itoa
  rw [if_neg (by omega), show ((n : Int)).toNat = n by omega]
end Go.Proofs.YtfdceljdhgbkcaaGreatDoor

/- digits: a number's digits, by strconv.Itoa. -/
namespace Go.Proofs.YtfdceljdhgbkcaaGreatDoor
open Go.RowKit
theorem dec_dg : ∀ (f u : Nat), 0 < u → u < 10 ^ f → (Lib.decDigits u).map (fun b => (b.toNat : Int)) = dg f u
  | 0, u, h0, h => absurd h (by simp; omega)
  | f + 1, u, h0, h => by
    rw [dg, if_neg (by omega), Lib.decDigits]
    have hm := Nat.mod_lt u (show 10 > 0 by decide)
    split
    · rename_i h1
      rw [show u / 10 = 0 by omega, dg_zero, show u % 10 = u by omega]
      simp only [List.map_cons, List.map_nil, List.nil_append]
      congr 1
      rw [show (UInt8.ofNat (48 + u)).toNat = (48 + u) % 256 by simp]
      omega
    · rename_i h1
      rw [List.map_append, dec_dg f (u / 10) (by omega) (by rw [Nat.pow_succ] at h; omega)]
      congr 1
      simp only [List.map_cons, List.map_nil]
      congr 1
      rw [show (UInt8.ofNat (48 + u % 10)).toNat = (48 + u % 10) % 256 by simp]
      omega
/-- What holds of Itoa's text. -/
theorem itoa_text (n : Nat) (h0 : 0 < n) (h : n < 10 ^ 20) : ∃ s : ByteArray, s = ⟨(Lib.decDigits n).toArray⟩ ∧ s.size = (dg 20 n).length ∧ ∀ i (hi : i < s.size), (s[i]'hi).toNat < 128 ∧ (dg 20 n)[i]? = some ((s[i]'hi).toNat : Int) := by
  refine ⟨_, rfl, ?_, ?_⟩
  · rw [← dec_dg 20 n h0 h]
    simp [ByteArray.size]
  · intro i hi
    have e : (dg 20 n)[i]? = some (((⟨(Lib.decDigits n).toArray⟩ : ByteArray)[i]'hi).toNat : Int) := by
      rw [← dec_dg 20 n h0 h, List.getElem?_map]
      have hi2 : i < (Lib.decDigits n).length := by simpa [ByteArray.size] using hi
      rw [List.getElem?_eq_getElem hi2]
      rfl
    refine ⟨?_, e⟩
    have hm := dg_mem 20 n _ (List.mem_of_getElem? e)
    omega
set_option maxRecDepth 100000 in
set_option maxHeartbeats 4000000 in
theorem digits_any (n : Nat) (h0 : 0 < n) (h : n ≤ 9999) (w : World) (hT : Tb w) : Calls Tryz.prog 75 #[.int .i64 n] w fun e w' => ∃ v, e = .returned v ∧ OwnI w' w.heap.size v (dg 20 n) ∧ Below w.heap.size w w' := by
  have HI := hidIt (itoa_any n h w hT)
  obtain ⟨s, hs, hsz, hch⟩ := itoa_text n h0 (Nat.lt_of_le_of_lt h (by decide))
  rw [← hs] at HI
  have HCH := hidIt hch
  have HLN := hidIt (dg_len 20 n)
  generalize dg 20 n = zs at *
  have HSZ := hidIt hsz
  clear hs hch hsz hT h
  go_enter Tryz.func75, Tryz.ntmps75
  go_upto_region 3 with (go_at_call 90; refine HI.out.mono ?_; rintro e w1 ⟨rfl, hb1⟩; (try dsimp only); have HB1 := hidIt hb1; clear hb1)
  obtain ⟨w0, hw0⟩ : ∃ w0, w0 = w1.iter s 0 := ⟨_, rfl⟩
  rw [← hw0]
  have HK0 : Hid (w0.heap[w1.heap.size]? = some (.stringIter s 0)) := by unfold Hid; rw [hw0]; exact World.iter_heap _ _ _
  have HB0 : Hid (Below w.heap.size w w0) := by unfold Hid; rw [hw0]; exact HB1.out.alloc HB1.out.size _
  have HKW : Hid (w.heap.size ≤ w1.heap.size) := HB1.out.size
  clear hw0 HI HB1
  generalize w1.heap.size = k0 at *
  go_wp2_with fail
  go_loopw [3] (fun kv wr => ∃ (pos : Nat) (ao : Option Addr) (cu : Nat), pos ≤ s.size ∧ kv = .slice ao pos cu ∧ Hid (wr.heap[k0]? = some (.stringIter s pos)) ∧ Hid (OwnI wr (k0 + 1) (.slice ao pos cu) (zs.take pos)) ∧ Hid (Below w.heap.size w wr))
    (fun _ wr => s.size - wr.iterPos k0)
  case atStart => exact ⟨0, none, 0, Nat.zero_le _, rfl, HK0.out, OwnI.nil _ _, HB0.out⟩
  case round =>
    obtain ⟨pos, ao, cu, hps, rfl, HK, HO, HB⟩ := hrel
    have hmu : Hid (wr.iterPos k0 = pos) := by unfold Hid; have := HK.out; simp [World.iterPos, this]
    have hsl := (Array.getElem?_eq_some_iff.1 HK.out).1
    by_cases hp : pos < s.size
    · obtain ⟨h128, hz⟩ := HCH.out pos hp
      have hnext : ∀ ty, (Instr.next (.pointer (some ⟨k0, 0, none⟩)) true ty).run Tryz.prog wr = _ := fun ty => Lib.run_next_ascii_at wr k0 s pos ty HK.out hp h128
      generalize (s[pos]'hp).toNat = d at hnext h128 hz
      have HK1 := hidIt (Lib.iterAt_heap wr k0 s pos (pos + 1) HK.out)
      have HB1 : Hid (Below w.heap.size w (wr.iterAt k0 s (pos + 1))) := Lib.below_iterAt HB.out HKW.out s (pos + 1)
      have HO1 : Hid (OwnI (wr.iterAt k0 s (pos + 1)) (k0 + 1) (.slice ao pos cu) (zs.take pos)) := HO.out.stay (fun g hg => by
        have := (HO.out.blk hg).1
        simp only [World.iterAt]
        rw [Array.getElem?_setIfInBounds_ne (by omega)])
      have HS1 : Hid (k0 + 1 ≤ (wr.iterAt k0 s (pos + 1)).heap.size) := by unfold Hid; simp only [World.iterAt, Array.size_setIfInBounds]; omega
      have HT : Hid (zs.take (pos + 1) = zs.take pos ++ [(d : Int)]) := by unfold Hid; rw [List.take_add_one, hz]; rfl
      have HTL : Hid ((zs.take pos).length = pos ∧ pos ≤ 20) := by
        unfold Hid
        have h1 := HSZ.out
        have h2 := HLN.out
        rw [List.length_take]
        omega
      generalize wr.iterAt k0 s (pos + 1) = w1 at hnext HK1 HB1 HO1 HS1
      have hcv : IntKind.i64.wrap (d : Int) = d := by rw [IntKind.wrap_i64]; omega
      clear hz HO HB HK
      go_upto_region 5 with fail
      go_wp2_with (at_builtin; refine wpl_ints rfl _ _ 38 rfl (k0 + 1) Tryz.info_i64 Tryz.underlying38 _ (zs.take pos) rfl (HO1.out.ext (ext_alloc (Below.refl _ _) _)) _ [(d : Int)] rfl (own_lit1 _ _ _ HS1.out).rds (by have := HTL.out; rw [this.1]; simp; omega) (Nat.le_trans HS1.out (by simp)) ?_; intro v2 w2 own2 hb2; rw [← HT.out] at own2; obtain ⟨ao2, cu2, rfl, _⟩ := own2.rds.len; have HO2 := hidIt own2; have HBB := hidIt hb2; clear own2 hb2; (try dsimp only))
      have HKA : Hid ((w1.alloc (.cells #[.int .i64 (d : Int)] 3)).heap[k0]? = some (.stringIter s (pos + 1))) := ((MapKept.heap_alloc _ _).2 _ (by have := HS1.out; omega)).trans HK1.out
      have HK2 : Hid (w2.heap[k0]? = some (.stringIter s (pos + 1))) := (HBB.out.block _ (by omega)).trans HKA.out
      have HTK : Hid ((zs.take (pos + 1)).length = pos + 1) := by
        unfold Hid
        rw [HT.out, List.length_append, HTL.out.1]
        rfl
      go_roundw
      case rel =>
        rw [show min (pos + 1) zs.length = pos + 1 by have := HTK.out; rw [List.length_take] at this; exact this]
        exact ⟨pos + 1, ao2, cu2, by omega, rfl, HK2.out, by have := HO2.out; rw [HTK.out] at this; exact this, (ext_alloc HB1.out _).trans (HBB.out.mono (by have := HKW.out; omega))⟩
      case measure =>
        have hmu2 : w2.iterPos k0 = pos + 1 := by have := HK2.out; simp [World.iterPos, this]
        rw [hmu.out, hmu2]
        omega
    · have hnext : ∀ ty, (Instr.next (.pointer (some ⟨k0, 0, none⟩)) true ty).run Tryz.prog wr = _ := fun ty => Lib.run_next_end_at wr k0 s pos ty HK.out hp
      have HE : Hid (zs.take pos = zs) := by unfold Hid; exact List.take_of_length_le (by have := HSZ.out; omega)
      go_wp2_with fail
      go_ret
      refine ⟨_, rfl, ?_, HB.out⟩
      have := HO.out
      rw [HE.out] at this
      exact this.le (by have := HKW.out; omega)
end Go.Proofs.YtfdceljdhgbkcaaGreatDoor
