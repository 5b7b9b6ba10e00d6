/- Prefixes: bytes.HasPrefix of the code, begins of the document's answer. -/
import Derived.Test.YtmfbobibpebfnaaKept
import Derived.Lib.Strings
namespace Go.Proofs.Ytmfbobibpebfnaa
open Go.RowKit

/-- All are bytes. -/
def Byt (zs : List Int) : Prop := ∀ z ∈ zs, 0 ≤ z ∧ z ≤ 255

theorem turn_byt (zs : List Int) : Byt (turn zs) := by
  intro z hz
  simp only [turn, List.mem_mapIdx] at hz
  obtain ⟨i, h, rfl⟩ := hz
  exact ⟨bits_lo_u8 _ _ _, bits_hi_u8 _ _ _⟩

theorem ofNat_inj {a b : Int} (ha : 0 ≤ a ∧ a ≤ 255) (hb : 0 ≤ b ∧ b ≤ 255) (h : UInt8.ofNat a.toNat = UInt8.ofNat b.toNat) : a = b := by
  have := congrArg UInt8.toNat h
  simp only [UInt8.toNat_ofNat'] at this
  omega

theorem map_ofNat_inj : ∀ (x y : List Int), Byt x → Byt y → (x.map fun n => UInt8.ofNat n.toNat) = (y.map fun n => UInt8.ofNat n.toNat) → x = y
  | [], [], _, _, _ => rfl
  | [], b :: y, _, _, h => by simp at h
  | a :: x, [], _, _, h => by simp at h
  | a :: x, b :: y, hx, hy, h => by
    simp only [List.map_cons, List.cons.injEq] at h
    rw [ofNat_inj (hx a (by simp)) (hy b (by simp)) h.1, map_ofNat_inj x y (fun z hz => hx z (by simp [hz])) (fun z hz => hy z (by simp [hz])) h.2]

/-- The strings are alike where the bytes are. -/
theorem str_eq (x y : List Int) (hx : Byt x) (hy : Byt y) : ((strOfNums x).toList == (strOfNums y).toList) = decide (x = y) := by
  rw [Lib.toList_data, Lib.toList_data, strOfNums_data, strOfNums_data, Bool.eq_iff_iff]
  simp only [beq_iff_eq, decide_eq_true_eq]
  exact ⟨map_ofNat_inj x y hx hy, fun h => by rw [h]⟩

theorem Byt.take {zs : List Int} (h : Byt zs) (n : Nat) : Byt (zs.take n) := fun z hz => h z (List.mem_of_mem_take hz)
theorem Byt.drop {zs : List Int} (h : Byt zs) (n : Nat) : Byt (zs.drop n) := fun z hz => h z (List.mem_of_mem_drop hz)

theorem pre_iff (m z : List Int) : (decide (m.length ≤ z.length) && decide (z.take m.length = m)) = m.isPrefixOf z := by
  rw [Bool.eq_iff_iff, List.isPrefixOf_iff_prefix]
  simp only [Bool.and_eq_true, decide_eq_true_eq]
  constructor
  · rintro ⟨_, h⟩
    exact List.prefix_iff_eq_take.2 h.symm
  · intro h
    exact ⟨h.length_le, (List.prefix_iff_eq_take.1 h).symm⟩

theorem Rd.take {k : IntKind} {w : World} {ao : Option Addr} {n cap : Nat} {zs : List Int} (h : Rd k w (.slice ao n cap) zs) (m : Nat) (hm : m ≤ zs.length) : Rd k w (.slice ao m cap) (zs.take m) := by
  obtain ⟨ao', cap', hv, h1, h2, h3⟩ := h
  cases hv
  refine ⟨ao, cap, by rw [List.length_take, Nat.min_eq_left hm], by rw [List.length_take]; omega, h2, fun hn => ?_⟩
  obtain ⟨b, off, ha, hb, hc⟩ := h3 (fun h => hn (by rw [h]; simp))
  refine ⟨b, off, ha, hb, fun i hi => ?_⟩
  rw [List.length_take] at hi
  rw [hc i (by omega), List.getElem?_take, if_pos (by omega)]

theorem take_grow (m z : List Int) (k : Nat) (h : m.take k = z.take k) (hm : k < m.length) (hz : k < z.length) (he : m[k]?.getD 0 = z[k]?.getD 0) : m.take (k + 1) = z.take (k + 1) := by
  rw [List.take_succ_eq_append_getElem hm, List.take_succ_eq_append_getElem hz, h]
  simp [hm, hz] at he
  rw [he]

theorem pre_no (m z : List Int) (k : Nat) (hm : k < m.length) (hz : m.length ≤ z.length) (he : m[k]?.getD 0 ≠ z[k]?.getD 0) : m.isPrefixOf z = false := by
  rw [Bool.eq_false_iff]
  intro h
  rw [List.isPrefixOf_iff_prefix] at h
  obtain ⟨t, rfl⟩ := h
  exact he (by rw [List.getElem?_append_left hm])

theorem pre_yes (m z : List Int) (hz : m.length ≤ z.length) (he : m.take m.length = z.take m.length) : m.isPrefixOf z = true := by
  rw [← pre_iff]
  rw [List.take_length] at he
  simp [hz, ← he]

/-- begins: do the bytes from a place on begin with a list? -/
theorem begins_any (v1 v2 : Value) (z m : List Int) (at' : Nat) (w : World) (h1 : Rd .u8 w v1 z) (h2 : Rd .u8 w v2 m) (hat : at' ≤ z.length) (hm0 : m ≠ []) (hsum : z.length + m.length ≤ 4611686018427387904) :
    Calls Try.prog 35 #[v1, .int .i64 at', v2] w fun e w' => e = .returned (.bool (m.isPrefixOf (z.drop at'))) ∧ Below w.heap.size w w' := by
  have hz1 := h1.len
  have hz2 := h2.len
  obtain ⟨ao, cp, rfl, hl1, hc1, h1⟩ := h1
  obtain ⟨ao2, cp2, rfl, hl2, hc2, h2⟩ := h2
  by_cases hl : at' + m.length ≤ z.length
  · have hmp : 0 < m.length := List.length_pos_iff.2 hm0
    have hzn : z ≠ [] := List.length_pos_iff.1 (by omega)
    obtain ⟨b, off, rfl, hb, hcl⟩ := h1 hzn
    obtain ⟨b2, off2, rfl, hb2, hcl2⟩ := h2 hm0
    have HY : Hid (m.take m.length = (z.drop at').take m.length → m.isPrefixOf (z.drop at') = true) := pre_yes m _ (by rw [List.length_drop]; omega)
    have HN : Hid (∀ k, k < m.length → m[k]?.getD 0 ≠ z[at' + k]?.getD 0 → m.isPrefixOf (z.drop at') = false) := fun k hk he => pre_no m _ k hk (by rw [List.length_drop]; omega) (by rw [List.getElem?_drop]; exact he)
    have HG : Hid (∀ k, k < m.length → m.take k = (z.drop at').take k → m[k]?.getD 0 = z[at' + k]?.getD 0 → m.take (k + 1) = (z.drop at').take (k + 1)) := fun k hk h he => take_grow m _ k h hk (by rw [List.length_drop]; omega) (by rw [List.getElem?_drop]; exact he)
    clear h1 h2 hm0 hmp hzn
    generalize m.isPrefixOf (z.drop at') = R at *
    go_enter Try.func35, Try.ntmps35
    go_wp2
    go_loopw [7] (fun i wr => ∃ k : Nat, k ≤ m.length ∧ i = .int .i64 k ∧ m.take k = (z.drop at').take k ∧ Below w.heap.size w wr) (fun i _ => m.length - (intOf i).toNat)
    case atStart => exact ⟨0, Nat.zero_le _, rfl, rfl, Below.refl _ _⟩
    case round =>
      obtain ⟨k, hk, rfl, ht, hbw⟩ := hrel
      have HT : Hid (m.take k = (z.drop at').take k) := ht
      clear ht
      by_cases hlt : k < m.length
      · have c1 : wr.cell? ⟨b, off + (at' + k), none⟩ = some (.int .u8 (z[at' + k]?.getD 0)) := (hbw.cell (p := ⟨b, off + (at' + k), none⟩) hb).trans (hcl _ (by omega))
        have c2 : wr.cell? ⟨b2, off2 + k, none⟩ = some (.int .u8 (m[k]?.getD 0)) := (hbw.cell (p := ⟨b2, off2 + k, none⟩) hb2).trans (hcl2 _ hlt)
        have HN' := HN.out k hlt
        have HG' := HG.out k hlt HT.out
        generalize z[at' + k]?.getD 0 = x at *
        generalize m[k]?.getD 0 = y at *
        clear hcl hcl2 HN HG
        by_cases he : y = x
        · have HG2 : Hid (m.take (k + 1) = (z.drop at').take (k + 1)) := HG' he
          subst he
          clear HN' HG'
          have hi1 : (at' : Int) + (k : Int) < (z.length : Int) := by omega
          go_wp2
          go_quiet (fail)
          go_wp2
          go_roundw
          case rel => exact ⟨k + 1, by omega, by go_num, HG2.out, below_drewN hbw _⟩
          case measure => simp [intOf]; omega
        · have HR : Hid (R = false) := HN' he
          have hne : (x != y) = true := by simp; exact fun h => he h.symm
          clear HN' HG' he
          go_wp2
          go_quiet (fail)
          go_wp2
          go_ret
          exact ⟨by rw [HR.out]; rfl, below_drewN hbw _⟩
      · have hke : k = m.length := by omega
        subst hke
        have HR : Hid (R = true) := HY.out HT.out
        clear HY HN HG hcl hcl2 HT
        go_wp2
        go_ret
        exact ⟨by rw [HR.out]; rfl, hbw⟩
  · have e1 : m.isPrefixOf (z.drop at') = false := by
      rw [← pre_iff]; simp only [List.length_drop]
      rw [decide_eq_false (by omega), Bool.false_and]
    rw [e1]
    clear h1 h2 e1 hm0
    go_enter Try.func35, Try.ntmps35
    go_wp2
    all_goals (go_ret; exact ⟨rfl, Below.refl _ _⟩)
end Go.Proofs.Ytmfbobibpebfnaa
