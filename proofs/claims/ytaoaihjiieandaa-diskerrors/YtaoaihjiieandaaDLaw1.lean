/- The law's made, space, used. -/
import Derived.Test.YtaoaihjiieandaaDTaken
namespace Go.Proofs.Ytaoaihjiieandaa
open Go.RowKit

set_option maxRecDepth 100000 in
theorem made_any (s : Nat) (hs : s ≤ 1048576) (w : World) (F : Nat → Prop) (hF : ∀ q, F q → q < w.heap.size) :
    Calls Try.prog 9 #[.int .i64 (s : Int)] w fun e w' => ∃ d, e = .returned (pp d) ∧ Dsk F 0 w' d (dk0 s) ∧ Below w.heap.size w w' := by
  have NW := hidIt (New_any s hs w F hF)
  go_enter Try.func9, Try.ntmps9
  go_wp2_with (go_at_call 33; refine NW.out.mono ?_; rintro e w4 ⟨d, rfl, hd, hb⟩; have HD := hidIt hd; have HB := hidIt hb; clear hd hb)
  go_ret
  exact ⟨_, rfl, HD.out, HB.out⟩
theorem and1023 (n : Int) : ∃ x : Nat, bits .and .i64 n 1023 = (x : Int) ∧ x < 1024 := by
  have h3 : (BitVec.ofInt 64 1023).toNat = 2 ^ 10 - 1 := by decide
  have key : (BitVec.ofInt 64 n &&& BitVec.ofInt 64 1023).toNat = (n % ((2 ^ 64 : Nat) : Int)).toNat % 2 ^ 10 := by
    rw [BitVec.toNat_and, BitVec.toNat_ofInt, h3, Nat.and_two_pow_sub_one_eq_mod]
  refine ⟨(n % ((2 ^ 64 : Nat) : Int)).toNat % 1024, ?_, Nat.mod_lt _ (by decide)⟩
  show IntKind.i64.wrap ((BitVec.ofInt 64 n &&& BitVec.ofInt 64 1023).toNat : Nat) = _
  rw [key, IntKind.wrap_i64]
  omega
set_option maxRecDepth 100000 in
theorem space_any (n : Int) (w : World) : Calls Try.prog 20 #[.int .i64 n] w fun e w' => ∃ s : Nat, 8 ≤ s ∧ s < 1032 ∧ e = .returned (.int .i64 (s : Int)) ∧ w = w' := by
  obtain ⟨x, ex, lx⟩ := and1023 n
  go_enter Try.func20, Try.ntmps20
  go_wp2_with fail
  go_ret
  exact ⟨8 + x, by omega, by omega, by go_num, rfl⟩
theorem usd_few {fi : List Fi} : ∀ (l : Dir), (∀ p ∈ l, (fiAt fi p.2).bs.length ≤ 1048576) → usd fi l ≤ l.length * 1048576
  | [], _ => by simp [usd]
  | p :: l, h => by
    have h1 := usd_few l (fun q hq => h q (List.mem_cons_of_mem _ hq))
    have h2 := h p List.mem_cons_self
    unfold usd at h1 ⊢
    simp only [List.map_cons, List.sum_cons, List.length_cons]
    omega
theorem usd_take {fi : List Fi} {l : Dir} {j : Nat} {p : Nm × Nat} (h : l[j]? = some p) : usd fi (l.take (j + 1)) = usd fi (l.take j) + (fiAt fi p.2).bs.length := by
  unfold usd
  rw [List.take_add_one, h]
  simp
set_option maxRecDepth 100000 in
set_option maxHeartbeats 2000000 in
theorem shot_used_any {w : World} {vn vd vs : Value} {D : Dk} (h : Shot w vn vd vs D) (hf : D.se.length ≤ 16) (hb : ∀ p ∈ D.se, (fiAt D.fi p.2).bs.length ≤ 1048576) :
    Calls Try.prog 24 #[.agg #[vn, vd, vs]] w fun e w' => e = .returned (.int .i64 (usd D.fi D.se : Int)) ∧ Below w.heap.size w w' := by
  obtain ⟨na, nn, nc, rfl⟩ := form_own h.n
  obtain ⟨da, dn, dc, rfl⟩ := form_own h.d
  obtain ⟨sa, sn, sc, rfl⟩ := form_own h.s
  have hdn : dn = D.se.length := by
    rcases h.d.2 with ⟨hv, h0⟩ | ⟨_, _, _, hv, _⟩
    · cases hv; exact h0.symm
    · cases hv; rfl
  subst hdn
  obtain ⟨w1, hw1, k1, hb1⟩ : ∃ w1, w1 = w.alloc (.cells #[.slice na nn nc, .slice da D.se.length dc, .slice sa sn sc] 51) ∧ w1.heap[w.heap.size]? = some (.cells #[.slice na nn nc, .slice da D.se.length dc, .slice sa sn sc] 51 (0, 0)) ∧ Below w.heap.size w w1 := ⟨_, rfl, heap_alloc_new _ _, ext_alloc (Below.refl _ _) _⟩
  obtain ⟨y0, y1, y2, yf⟩ := cells3 k1
  have HD := hidIt (own_ext h.d hb1)
  have HB := hidIt hb1
  have HF := hidIt hb
  clear h k1 hb1 yf hb
  go_enter Try.func24, Try.ntmps24
  go_upto_region 1 with fail
  rw [← hw1]
  clear hw1
  go_wp2_with fail
  go_loopw [3, 4] (fun s i wr => ∃ j : Nat, j ≤ D.se.length ∧ s = .int .i64 (usd D.fi (D.se.take j) : Int) ∧ i = .int .i64 j ∧ wr = w1) (fun _ i _ => D.se.length - (RowKit.intOf i).toNat)
  case atStart => exact ⟨0, Nat.zero_le _, rfl, rfl, rfl⟩
  case round =>
    obtain ⟨j, hj, rfl, rfl, rfl⟩ := hrel
    by_cases hlt : j < D.se.length
    · have hlt' : (j : Int) < (D.se.length : Int) := by omega
      obtain ⟨p, hp⟩ : ∃ p, D.se[j]? = some p := ⟨D.se[j], by simp [hlt]⟩
      obtain ⟨g, hg3, hcell⟩ : ∃ g, da = some ⟨g, 0, none⟩ ∧ wr.cell? ⟨g, j, none⟩ = some (.string (strOfNums (fiAt D.fi p.2).bs)) := by
        rcases HD.out.2 with ⟨_, h0⟩ | ⟨g, cap, cur, hv, _, hc, h1, h2, h3, h4⟩
        · omega
        · cases hv
          refine ⟨g, rfl, ?_⟩
          simp only [Nat.mul_one] at h4
          have e : (cur.toList.take D.se.length)[j]? = some (.string (strOfNums (fiAt D.fi p.2).bs)) := by rw [h4, List.getElem?_map, hp]; rfl
          rw [List.getElem?_take, if_pos hlt] at e
          simpa [World.cell?, hc] using e
      subst hg3
      have hsz := strOfNums_size (fiAt D.fi p.2).bs
      have hl1 := HF.out p (List.mem_of_getElem? hp)
      have hl2 := usd_few (fi := D.fi) (D.se.take j) (fun q hq => HF.out q (List.mem_of_mem_take hq))
      have hl3 : (D.se.take j).length = j := by simp; omega
      rw [hl3] at hl2
      have hE := hidIt (usd_take (fi := D.fi) hp)
      generalize usd D.fi (D.se.take j) = s at *
      generalize strOfNums (fiAt D.fi p.2).bs = sb at *
      generalize (fiAt D.fi p.2).bs.length = n at *
      clear hp
      go_wp2_with fail
      go_roundw
      case rel =>
        refine ⟨j + 1, by omega, ?_, by go_num, trivial⟩
        rw [hE.out]
        go_num
      case measure => simp [RowKit.intOf]; omega
    · have ejk : D.se.length = j := by omega
      subst ejk
      have hge : ¬ (D.se.length : Int) < (D.se.length : Int) := by omega
      rw [List.take_length]
      go_wp2_with fail
      go_ret
      exact ⟨rfl, HB.out⟩
end Go.Proofs.Ytaoaihjiieandaa
