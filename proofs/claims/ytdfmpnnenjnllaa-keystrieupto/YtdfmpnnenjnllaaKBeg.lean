/- begins of the document, sameInts of the laws. -/
import Derived.Test.YtdfmpnnenjnllaaKMap
namespace Go.Proofs.Ytdfmpnnenjnllaa
open Go.RowKit
theorem pre_short {ys zs : List Int} (h : zs.length < ys.length) : ys.isPrefixOf zs = false := by
  rw [Bool.eq_false_iff]
  intro e
  have := (List.isPrefixOf_iff_prefix.1 e).length_le
  omega
theorem pre_yes {ys zs : List Int} (h : ys.take ys.length = zs.take ys.length) : ys.isPrefixOf zs = true := by
  rw [List.isPrefixOf_iff_prefix, List.prefix_iff_eq_take]
  rw [List.take_length] at h
  exact h
theorem pre_no {ys zs : List Int} {k : Nat} (hk : k < ys.length) (hz : k < zs.length) (h : ys[k] ≠ zs[k]) : ys.isPrefixOf zs = false := by
  rw [Bool.eq_false_iff]
  intro e
  have e2 := List.prefix_iff_eq_take.1 (List.isPrefixOf_iff_prefix.1 e)
  apply h
  have : ys[k]? = (zs.take ys.length)[k]? := by rw [← e2]
  rw [List.getElem?_take, if_pos hk, List.getElem?_eq_getElem hk, List.getElem?_eq_getElem hz] at this
  exact Option.some.inj this
theorem take_step {ys zs : List Int} {k : Nat} (hk : k < ys.length) (hz : k < zs.length) (h : ys.take k = zs.take k) (e : ys[k] = zs[k]) : ys.take (k + 1) = zs.take (k + 1) := by
  rw [List.take_succ_eq_append_getElem hk, List.take_succ_eq_append_getElem hz, h, e]
set_option maxRecDepth 100000 in
theorem begins_any (v1 v2 : Value) (zs ys : List Int) (w : World) (h1 : Rd .i64 w v1 zs) (h2 : Rd .i64 w v2 ys) :
    Calls Try.prog 23 #[v1, v2] w fun e w' => e = .returned (.bool (ys.isPrefixOf zs)) ∧ Below w.heap.size w w' := by
  have hlen := h1.len
  have hlen2 := h2.len
  obtain ⟨ao, cap, rfl, hl1, hc1, h1⟩ := h1
  obtain ⟨ao2, cap2, rfl, hl2, hc2, h2⟩ := h2
  by_cases hs : zs.length < ys.length
  · have hi : (zs.length : Int) < (ys.length : Int) := by omega
    rw [pre_short hs]
    clear h1 h2
    go_enter Try.func23, Try.ntmps23
    go_wp2
    go_ret
    exact ⟨rfl, Below.refl _ _⟩
  · have hi : ¬ (zs.length : Int) < (ys.length : Int) := by omega
    have h1 := hidIt h1
    have h2 := hidIt h2
    have HS := hidIt (show ys.length ≤ zs.length by omega)
    generalize hR : ys.isPrefixOf zs = R
    have HR := hidIt hR
    clear hR hs
    go_enter Try.func23, Try.ntmps23
    go_wp2
    go_loopw [5] (fun i wr => ∃ k : Nat, k ≤ ys.length ∧ i = .int .i64 k ∧ Below w.heap.size w wr ∧ Hid (ys.take k = zs.take k)) (fun i _ => ys.length - (RowKit.intOf i).toNat)
    case atStart => exact ⟨0, Nat.zero_le _, rfl, Below.refl _ _, rfl⟩
    case round =>
      obtain ⟨k, hk, rfl, hbw, HT⟩ := hrel
      by_cases hlt : k < ys.length
      · have hz : k < zs.length := by have := HS.out; omega
        obtain ⟨b, off, rfl, hb, hcl⟩ := h1.out (by intro e; rw [e] at hz; simp at hz)
        obtain ⟨b2, off2, rfl, hb2, hcl2⟩ := h2.out (by intro e; rw [e] at hlt; simp at hlt)
        have c1 : wr.cell? ⟨b, off + k, none⟩ = some (.int .i64 zs[k]) := by rw [(hbw.cell (p := ⟨b, off + k, none⟩) hb).trans (hcl _ hz)]; simp [hz]
        have c2 : wr.cell? ⟨b2, off2 + k, none⟩ = some (.int .i64 ys[k]) := by rw [(hbw.cell (p := ⟨b2, off2 + k, none⟩) hb2).trans (hcl2 _ hlt)]; simp [hlt]
        have hi1 : (k : Int) < (ys.length : Int) := by omega
        have hi2 : (k : Int) < (zs.length : Int) := by omega
        by_cases he : ys[k] = zs[k]
        · have HT2 := hidIt (take_step hlt hz HT.out he)
          have hne : (zs[k] != ys[k]) = false := by rw [he]; simp
          clear he HT hcl hcl2
          generalize zs[k] = x at *
          generalize ys[k] = y at *
          go_wp2
          go_quiet (fail)
          go_wp2
          go_roundw
          case rel => exact ⟨k + 1, by omega, by go_num, below_drewN hbw _, HT2.out⟩
          case measure => simp [RowKit.intOf]; omega
        · have HF := hidIt ((pre_no hlt hz he).symm.trans HR.out)
          have hne : (zs[k] != ys[k]) = true := by simpa using fun e => he e.symm
          clear he HT hcl hcl2
          generalize zs[k] = x at *
          generalize ys[k] = y at *
          go_wp2
          go_quiet (fail)
          go_wp2
          go_ret
          exact ⟨ret_bool HF.out, below_drewN hbw _⟩
      · have hke : k = ys.length := by omega
        have HF := hidIt ((pre_yes (by have := HT.out; rw [hke] at this; exact this)).symm.trans HR.out)
        clear hke HT
        go_wp2
        go_ret
        exact ⟨ret_bool HF.out, hbw⟩
set_option maxRecDepth 100000 in
theorem same_any (v1 v2 : Value) (zs ys : List Int) (w : World) (h1 : Rd .i64 w v1 zs) (h2 : Rd .i64 w v2 ys) :
    Calls Try.prog 15 #[v1, v2] w fun e w' => e = .returned (.bool (decide (zs = ys))) ∧ Below w.heap.size w w' := by
  have hlen := h1.len
  have hlen2 := h2.len
  obtain ⟨ao, cap, rfl, hl1, hc1, h1⟩ := h1
  obtain ⟨ao2, cap2, rfl, hl2, hc2, h2⟩ := h2
  by_cases hs : zs.length = ys.length
  · have hi : ((zs.length : Int) != (ys.length : Int)) = false := by rw [hs]; simp
    have h1 := hidIt h1
    have h2 := hidIt h2
    have HS := hidIt hs
    generalize hR : decide (zs = ys) = R
    have HR := hidIt hR
    clear hR hs
    go_enter Try.func15, Try.ntmps15
    go_wp2
    go_loopw [5] (fun i wr => ∃ k : Nat, k ≤ zs.length ∧ i = .int .i64 k ∧ Below w.heap.size w wr ∧ Hid (ys.take k = zs.take k)) (fun i _ => zs.length - (RowKit.intOf i).toNat)
    case atStart => exact ⟨0, Nat.zero_le _, rfl, Below.refl _ _, rfl⟩
    case round =>
      obtain ⟨k, hk, rfl, hbw, HT⟩ := hrel
      by_cases hz : k < zs.length
      · have hlt : k < ys.length := by have := HS.out; omega
        obtain ⟨b, off, rfl, hb, hcl⟩ := h1.out (by intro e; rw [e] at hz; simp at hz)
        obtain ⟨b2, off2, rfl, hb2, hcl2⟩ := h2.out (by intro e; rw [e] at hlt; simp at hlt)
        have c1 : wr.cell? ⟨b, off + k, none⟩ = some (.int .i64 zs[k]) := by rw [(hbw.cell (p := ⟨b, off + k, none⟩) hb).trans (hcl _ hz)]; simp [hz]
        have c2 : wr.cell? ⟨b2, off2 + k, none⟩ = some (.int .i64 ys[k]) := by rw [(hbw.cell (p := ⟨b2, off2 + k, none⟩) hb2).trans (hcl2 _ hlt)]; simp [hlt]
        have hi1 : (k : Int) < (ys.length : Int) := by omega
        have hi2 : (k : Int) < (zs.length : Int) := by omega
        by_cases he : ys[k] = zs[k]
        · have HT2 := hidIt (take_step hlt hz HT.out he)
          have hne : (zs[k] != ys[k]) = false := by rw [he]; simp
          clear he HT hcl hcl2
          generalize zs[k] = x at *
          generalize ys[k] = y at *
          go_wp2
          go_quiet (fail)
          go_wp2
          go_roundw
          case rel => exact ⟨k + 1, by omega, by go_num, below_drewN hbw _, HT2.out⟩
          case measure => simp [RowKit.intOf]; omega
        · have HF := hidIt (show false = R by rw [← HR.out]; symm; rw [decide_eq_false_iff_not]; intro e; apply he; simp [e])
          have hne : (zs[k] != ys[k]) = true := by simpa using fun e => he e.symm
          clear he HT hcl hcl2
          generalize zs[k] = x at *
          generalize ys[k] = y at *
          go_wp2
          go_quiet (fail)
          go_wp2
          go_ret
          exact ⟨ret_bool HF.out, below_drewN hbw _⟩
      · have HF := hidIt (show true = R by
          have h3 := HT.out
          have h4 := HS.out
          rw [List.take_of_length_le (by omega), List.take_of_length_le (by omega)] at h3
          rw [← HR.out, h3]; simp)
        clear HT
        go_wp2
        go_ret
        exact ⟨ret_bool HF.out, hbw⟩
  · have hi : ((zs.length : Int) != (ys.length : Int)) = true := by simpa using (show ¬ (zs.length : Int) = (ys.length : Int) by omega)
    have e : decide (zs = ys) = false := by
      rw [decide_eq_false_iff_not]
      intro e
      exact hs (by rw [e])
    rw [e]
    clear h1 h2 e hs
    go_enter Try.func15, Try.ntmps15
    go_wp2
    go_ret
    exact ⟨rfl, Below.refl _ _⟩
end Go.Proofs.Ytdfmpnnenjnllaa
