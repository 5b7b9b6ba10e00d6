/- digits: a number's digits, by strconv.Itoa. -/
import Derived.Test.YtdbmgjkgfmdmjaaDoorKSp0
import Derived.Test.YtdbmgjkgfmdmjaaDoorKAppI
import Derived.Test.YtdbmgjkgfmdmjaaDoorKItoa
import Derived.Lib.OthersKept
namespace Go.Proofs.YtdbmgjkgfmdmjaaDoor
open Go.RowKit
theorem dec_dg : ∀ (f u : Nat), 0 < u → u < 10 ^ f → (Lib.decDigits u).map (fun b => (b.toNat : Int)) = dg f u
  | 0, u, h0, h => absurd h (by simp; omega)
  | f + 1, u, h0, h => by
    rw [dg, if_neg (by omega), Lib.decDigits]
    have hm := Nat.mod_lt u (show 10 > 0 by decide)
    split
    · rename_i h1
      rw [show u / 10 = 0 by omega, dg_zero, show u % 10 = u by omega]
      simp only [List.map_cons, List.map_nil, List.nil_append]
      congr 1
      rw [show (UInt8.ofNat (48 + u)).toNat = (48 + u) % 256 by simp]
      omega
    · rename_i h1
      rw [List.map_append, dec_dg f (u / 10) (by omega) (by rw [Nat.pow_succ] at h; omega)]
      congr 1
      simp only [List.map_cons, List.map_nil]
      congr 1
      rw [show (UInt8.ofNat (48 + u % 10)).toNat = (48 + u % 10) % 256 by simp]
      omega
/-- What holds of Itoa's text. -/
theorem itoa_text (n : Nat) (h0 : 0 < n) (h : n < 10 ^ 20) : ∃ s : ByteArray, s = ⟨(Lib.decDigits n).toArray⟩ ∧ s.size = (dg 20 n).length ∧ ∀ i (hi : i < s.size), (s[i]'hi).toNat < 128 ∧ (dg 20 n)[i]? = some ((s[i]'hi).toNat : Int) := by
  refine ⟨_, rfl, ?_, ?_⟩
  · rw [← dec_dg 20 n h0 h]
    simp [ByteArray.size]
  · intro i hi
    have e : (dg 20 n)[i]? = some (((⟨(Lib.decDigits n).toArray⟩ : ByteArray)[i]'hi).toNat : Int) := by
      rw [← dec_dg 20 n h0 h, List.getElem?_map]
      have hi2 : i < (Lib.decDigits n).length := by simpa [ByteArray.size] using hi
      rw [List.getElem?_eq_getElem hi2]
      rfl
    refine ⟨?_, e⟩
    have hm := dg_mem 20 n _ (List.mem_of_getElem? e)
    omega
set_option maxRecDepth 100000 in
set_option maxHeartbeats 4000000 in
theorem digits_any (n : Nat) (h0 : 0 < n) (h : n ≤ 9999) (w : World) (hT : Tb w) : Calls Tryd.prog 73 #[.int .i64 n] w fun e w' => ∃ v, e = .returned v ∧ OwnI w' w.heap.size v (dg 20 n) ∧ Below w.heap.size w w' := by
  have HI := hidIt (itoa_any n h w hT)
  obtain ⟨s, hs, hsz, hch⟩ := itoa_text n h0 (Nat.lt_of_le_of_lt h (by decide))
  rw [← hs] at HI
  have HCH := hidIt hch
  have HLN := hidIt (dg_len 20 n)
  generalize dg 20 n = zs at *
  have HSZ := hidIt hsz
  clear hs hch hsz hT h
  go_enter Tryd.func73, Tryd.ntmps73
  go_upto_region 3 with (go_at_call 91; refine HI.out.mono ?_; rintro e w1 ⟨rfl, hb1⟩; (try dsimp only); have HB1 := hidIt hb1; clear hb1)
  obtain ⟨w0, hw0⟩ : ∃ w0, w0 = w1.iter s 0 := ⟨_, rfl⟩
  rw [← hw0]
  have HK0 : Hid (w0.heap[w1.heap.size]? = some (.stringIter s 0)) := by unfold Hid; rw [hw0]; exact World.iter_heap _ _ _
  have HB0 : Hid (Below w.heap.size w w0) := by unfold Hid; rw [hw0]; exact HB1.out.alloc HB1.out.size _
  have HKW : Hid (w.heap.size ≤ w1.heap.size) := HB1.out.size
  clear hw0 HI HB1
  generalize w1.heap.size = k0 at *
  go_wp2_with fail
  go_loopw [3] (fun kv wr => ∃ (pos : Nat) (ao : Option Addr) (cu : Nat), pos ≤ s.size ∧ kv = .slice ao pos cu ∧ Hid (wr.heap[k0]? = some (.stringIter s pos)) ∧ Hid (OwnI wr (k0 + 1) (.slice ao pos cu) (zs.take pos)) ∧ Hid (Below w.heap.size w wr))
    (fun _ wr => s.size - wr.iterPos k0)
  case atStart => exact ⟨0, none, 0, Nat.zero_le _, rfl, HK0.out, OwnI.nil _ _, HB0.out⟩
  case round =>
    obtain ⟨pos, ao, cu, hps, rfl, HK, HO, HB⟩ := hrel
    have hmu : Hid (wr.iterPos k0 = pos) := by unfold Hid; have := HK.out; simp [World.iterPos, this]
    have hsl := (Array.getElem?_eq_some_iff.1 HK.out).1
    by_cases hp : pos < s.size
    · obtain ⟨h128, hz⟩ := HCH.out pos hp
      have hnext : ∀ ty, (Instr.next (.pointer (some ⟨k0, 0, none⟩)) true ty).run Tryd.prog wr = _ := fun ty => Lib.run_next_ascii_at wr k0 s pos ty HK.out hp h128
      generalize (s[pos]'hp).toNat = d at hnext h128 hz
      have HK1 := hidIt (Lib.iterAt_heap wr k0 s pos (pos + 1) HK.out)
      have HB1 : Hid (Below w.heap.size w (wr.iterAt k0 s (pos + 1))) := Lib.below_iterAt HB.out HKW.out s (pos + 1)
      have HO1 : Hid (OwnI (wr.iterAt k0 s (pos + 1)) (k0 + 1) (.slice ao pos cu) (zs.take pos)) := HO.out.stay (fun g hg => by
        have := (HO.out.blk hg).1
        simp only [World.iterAt]
        rw [Array.getElem?_setIfInBounds_ne (by omega)])
      have HS1 : Hid (k0 + 1 ≤ (wr.iterAt k0 s (pos + 1)).heap.size) := by unfold Hid; simp only [World.iterAt, Array.size_setIfInBounds]; omega
      have HT : Hid (zs.take (pos + 1) = zs.take pos ++ [(d : Int)]) := by unfold Hid; rw [List.take_add_one, hz]; rfl
      have HTL : Hid ((zs.take pos).length = pos ∧ pos ≤ 20) := by
        unfold Hid
        have h1 := HSZ.out
        have h2 := HLN.out
        rw [List.length_take]
        omega
      generalize wr.iterAt k0 s (pos + 1) = w1 at hnext HK1 HB1 HO1 HS1
      have hcv : IntKind.i64.wrap (d : Int) = d := by rw [IntKind.wrap_i64]; omega
      clear hz HO HB HK
      go_upto_region 5 with fail
      go_wp2_with (at_builtin; refine wpl_ints rfl _ _ 25 rfl (k0 + 1) Tryd.info_i64 Tryd.underlying25 _ (zs.take pos) rfl (HO1.out.ext (ext_alloc (Below.refl _ _) _)) _ [(d : Int)] rfl (own_lit1 _ _ _ HS1.out).rds (by have := HTL.out; rw [this.1]; simp; omega) (Nat.le_trans HS1.out (by simp)) ?_; intro v2 w2 own2 hb2; rw [← HT.out] at own2; obtain ⟨ao2, cu2, rfl, _⟩ := own2.rds.len; have HO2 := hidIt own2; have HBB := hidIt hb2; clear own2 hb2; (try dsimp only))
      have HKA : Hid ((w1.alloc (.cells #[.int .i64 (d : Int)] 3)).heap[k0]? = some (.stringIter s (pos + 1))) := ((MapKept.heap_alloc _ _).2 _ (by have := HS1.out; omega)).trans HK1.out
      have HK2 : Hid (w2.heap[k0]? = some (.stringIter s (pos + 1))) := (HBB.out.block _ (by omega)).trans HKA.out
      have HTK : Hid ((zs.take (pos + 1)).length = pos + 1) := by
        unfold Hid
        rw [HT.out, List.length_append, HTL.out.1]
        rfl
      go_roundw
      case rel =>
        rw [show min (pos + 1) zs.length = pos + 1 by have := HTK.out; rw [List.length_take] at this; exact this]
        exact ⟨pos + 1, ao2, cu2, by omega, rfl, HK2.out, by have := HO2.out; rw [HTK.out] at this; exact this, (ext_alloc HB1.out _).trans (HBB.out.mono (by have := HKW.out; omega))⟩
      case measure =>
        have hmu2 : w2.iterPos k0 = pos + 1 := by have := HK2.out; simp [World.iterPos, this]
        rw [hmu.out, hmu2]
        omega
    · have hnext : ∀ ty, (Instr.next (.pointer (some ⟨k0, 0, none⟩)) true ty).run Tryd.prog wr = _ := fun ty => Lib.run_next_end_at wr k0 s pos ty HK.out hp
      have HE : Hid (zs.take pos = zs) := by unfold Hid; exact List.take_of_length_le (by have := HSZ.out; omega)
      go_wp2_with fail
      go_ret
      refine ⟨_, rfl, ?_, HB.out⟩
      have := HO.out
      rw [HE.out] at this
      exact this.le (by have := HKW.out; omega)
end Go.Proofs.YtdbmgjkgfmdmjaaDoor
