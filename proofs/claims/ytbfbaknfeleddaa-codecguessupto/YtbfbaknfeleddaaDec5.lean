/- The last atom is the last one that is read. No Go in sight. -/
import Derived.Test.YtbfbaknfeleddaaDec3
import Derived.Test.YtbfbaknfeleddaaLast16
namespace Go.Proofs.Ytbfbaknfeleddaa

theorem Cx.lb_drop (zs : List Int) (n : Nat) (h : n < zs.length) : Cx.lb (zs.drop n) = Cx.lb zs := by
  unfold Cx.lb
  rw [List.getElem?_drop, List.length_drop, show n + (zs.length - n - 1) = zs.length - 1 from by omega]
theorem Cx.tl_drop (zs : List Int) (n s : Nat) (h : s + n ≤ zs.length) : Cx.tl (zs.drop n) s = Cx.tl zs s := by
  unfold Cx.tl
  rw [List.drop_drop, List.length_drop, show n + (zs.length - n - s) = zs.length - s from by omega]
theorem Cx.tl_all (zs : List Int) : Cx.tl zs zs.length = zs := by unfold Cx.tl; rw [Nat.sub_self]; rfl

/-- A byte that may only stand further on in a row begins none. -/
theorem Cx.cont_no (b : List Int) (h : 128 ≤ Cx.c0 b) (h' : Cx.c0 b ≤ 191) : Cx.mtch b = 0 := by
  have r : Cx.rowN (Cx.c0 b) = 0 := by unfold Cx.rowN; rw [if_neg (by omega), if_pos (by omega)]
  rw [Cx.mtch_eq, r]; split <;> rfl

theorem Cx.row_cont (b : List Int) (hb : Byt b) (h0 : 0 < Cx.mtch b) (hl : Cx.mtch b ≤ b.length) (q : Nat) (h1 : 1 ≤ q) (h2 : (q : Int) < Cx.mtch b) : 128 ≤ Cx.c0 (b.drop q) ∧ Cx.c0 (b.drop q) ≤ 191 := by
  have hw := Cx.whole_of b hb h0 hl
  have hbd := Cx.mtch_bd b
  have e : Cx.c0 (b.drop q) = (b.take (Cx.mtch b).toNat)[q]?.getD 0 := by
    unfold Cx.c0; rw [List.getElem?_drop, Nat.add_zero, List.getElem?_take, if_pos (by omega)]
  have hlen : (b.take (Cx.mtch b).toNat).length = (Cx.mtch b).toNat := by rw [List.length_take]; omega
  rw [e]
  rcases hw with ⟨x, e, r⟩ | ⟨x, y, e, r⟩ | ⟨x, y, z, e, r⟩ | ⟨x, y, z, u, e, r⟩
  · rw [e] at hlen; simp at hlen; omega
  · rw [e] at hlen ⊢; simp at hlen
    obtain rfl : q = 1 := by omega
    simp; omega
  · rw [e] at hlen ⊢; simp at hlen
    have : q = 1 ∨ q = 2 := by omega
    rcases this with rfl | rfl <;> simp <;> omega
  · rw [e] at hlen ⊢; simp at hlen
    have : q = 1 ∨ q = 2 ∨ q = 3 := by omega
    rcases this with rfl | rfl | rfl <;> simp <;> omega

theorem Cx.lh_false (zs : List Int) (s : Nat) (h : s ≤ zs.length → Cx.mtch (Cx.tl zs s) ≠ s) : Cx.lh zs s = false := by
  unfold Cx.lh
  by_cases hs : s ≤ zs.length
  · rw [decide_eq_false (h hs), Bool.and_false]
  · rw [decide_eq_false hs, Bool.false_and]

theorem Cx.fst8_cases (b : List Int) : (0 < Cx.mtch b ∧ Cx.mtch b ≤ b.length ∧ Cx.first8 b = (Cx.val (b.take (Cx.mtch b).toNat), Cx.mtch b)) ∨ (¬ (0 < Cx.mtch b ∧ Cx.mtch b ≤ b.length) ∧ Cx.first8 b = (-1 - Cx.c0 b, 1)) := by
  by_cases h : 0 < Cx.mtch b ∧ Cx.mtch b ≤ b.length
  · exact .inl ⟨h.1, h.2, by unfold Cx.first8; rw [if_pos h]⟩
  · exact .inr ⟨h, by unfold Cx.first8; rw [if_neg h]⟩

/-- The atom that takes all bytes is the last one. -/
theorem Cx.last8_one (b : List Int) (hb : Byt b) (hn : b ≠ []) (h : (Cx.first8 b).2 = b.length) : Cx.lst8 b = Cx.first8 b := by
  have hp : 0 < b.length := List.length_pos_iff.2 hn
  have hbd := Cx.mtch_bd b
  rcases Cx.fst8_cases b with ⟨h0, hl, e⟩ | ⟨hno, e⟩
  · rw [e] at h ⊢
    simp only at h
    have ek : b.length = (Cx.mtch b).toNat := by omega
    have ht : Cx.tl b b.length = b := Cx.tl_all b
    rw [Cx.lst8_hit b b.length (by omega) (by omega) (by unfold Cx.lh; rw [ht, decide_eq_true (Nat.le_refl _), decide_eq_true h]; rfl) (fun j h1 h2 => Cx.lh_false b j fun hj => ?_), ht]
    · rw [← ek, List.take_length, h]
    · have := Cx.row_cont b hb h0 hl (b.length - j) (by omega) (by omega)
      have hz := Cx.cont_no (b.drop (b.length - j)) this.1 this.2
      unfold Cx.tl; omega
  · rw [e] at h ⊢
    simp only at h
    have h1 : b.length = 1 := by omega
    have el : Cx.lb b = Cx.c0 b := by unfold Cx.lb Cx.c0; rw [h1]
    rw [Cx.lst8_none b (fun j hj1 hj4 => Cx.lh_false b j fun hj => ?_), el]
    obtain rfl : j = 1 := by omega
    have ht : Cx.tl b 1 = b := by rw [← h1]; exact Cx.tl_all b
    rw [ht]
    intro hm
    exact hno ⟨by omega, by omega⟩

/-- What stands behind the first atom has the same last atom. -/
theorem Cx.last8_more (b : List Int) (hb : Byt b) (hn : b ≠ []) (n : Nat) (hf : (Cx.first8 b).2 = n) (h : n < b.length) : Cx.lst8 b = Cx.lst8 (b.drop n) := by
  have hbd := Cx.mtch_bd b
  have hn1 : 1 ≤ n := by
    have := Cx.fst_bd 1 b hn
    have e : (Cx.fst 1 b).2 = n := hf
    omega
  have hlen : (b.drop n).length = b.length - n := List.length_drop
  have key : ∀ s : Nat, 1 ≤ s → s ≤ 4 → b.length - n < s → s ≤ b.length → Cx.mtch (Cx.tl b s) ≠ s := by
    intro s h1 h4 h2 h3
    rcases Cx.fst8_cases b with ⟨h0, hl, e⟩ | ⟨hno, e⟩
    · rw [e] at hf
      simp only at hf
      by_cases hq : b.length - s = 0
      · have : Cx.tl b s = b := by unfold Cx.tl; rw [hq]; rfl
        rw [this]; omega
      · have := Cx.row_cont b hb h0 hl (b.length - s) (by omega) (by omega)
        have hz := Cx.cont_no (b.drop (b.length - s)) this.1 this.2
        unfold Cx.tl; omega
    · rw [e] at hf
      simp only at hf
      have hq : b.length - s = 0 := by omega
      have : Cx.tl b s = b := by unfold Cx.tl; rw [hq]; rfl
      rw [this]
      intro hm
      exact hno ⟨by omega, by omega⟩
  have same : ∀ s : Nat, 1 ≤ s → s ≤ 4 → Cx.lh b s = Cx.lh (b.drop n) s := by
    intro s h1 h4
    by_cases hs : s ≤ b.length - n
    · unfold Cx.lh
      rw [Cx.tl_drop b n s (by omega), decide_eq_true (by omega : s ≤ b.length), decide_eq_true (by omega : s ≤ (b.drop n).length)]
    · rw [Cx.lh_long (b.drop n) s (by omega)]
      exact Cx.lh_false b s fun hj => key s h1 h4 (by omega) hj
  have vs : ∀ s : Nat, 1 ≤ s → s ≤ 4 → Cx.lh b s = true → Cx.tl b s = Cx.tl (b.drop n) s := by
    intro s h1 h4 hh
    rw [same s h1 h4] at hh
    unfold Cx.lh at hh
    simp only [Bool.and_eq_true, decide_eq_true_eq] at hh
    rw [Cx.tl_drop b n s (by omega)]
  unfold Cx.lst8
  rw [← same 1 (by omega) (by omega), ← same 2 (by omega) (by omega), ← same 3 (by omega) (by omega), ← same 4 (by omega) (by omega), Cx.lb_drop b n h]
  cases g1 : Cx.lh b 1
  · cases g2 : Cx.lh b 2
    · cases g3 : Cx.lh b 3
      · cases g4 : Cx.lh b 4
        · rfl
        · rw [vs 4 (by omega) (by omega) g4]; rfl
      · rw [vs 3 (by omega) (by omega) g3]; rfl
    · rw [vs 2 (by omega) (by omega) g2]; rfl
  · rw [vs 1 (by omega) (by omega) g1]; rfl

theorem Cx.fst16_cases (k : Int) (b : List Int) : (b.length = 1 ∧ Cx.first16 k b = (-1 - Cx.c0 b, 1)) ∨ (b.length ≠ 1 ∧ Cx.isP k b = true ∧ Cx.first16 k b = (Cx.pairV k b, 4)) ∨ (b.length ≠ 1 ∧ Cx.isP k b = false ∧ Cx.first16 k b = (Cx.wv k b, 2)) := by
  unfold Cx.first16
  by_cases h : b.length = 1
  · exact .inl ⟨h, by rw [if_pos h]⟩
  · cases hp : Cx.isP k b
    · exact .inr (.inr ⟨h, rfl, by rw [if_neg h, if_neg (by simp)]⟩)
    · exact .inr (.inl ⟨h, rfl, by rw [if_neg h, if_pos rfl]⟩)
theorem Cx.isP_len (k : Int) (b : List Int) (h : Cx.isP k b = true) : 4 ≤ b.length ∧ Cx.hiU (Cx.wv k b) = true ∧ Cx.loU (Cx.wv k (b.drop 2)) = true := by
  unfold Cx.isP at h
  simp only [Bool.and_eq_true, decide_eq_true_eq] at h
  exact ⟨h.1.1, h.1.2, h.2⟩
theorem Cx.hi_lo (a : Int) (h : Cx.loU a = true) : Cx.hiU a = false := by
  unfold Cx.loU at h; unfold Cx.hiU
  simp at h ⊢; omega

theorem Cx.last16_one (k : Int) (b : List Int) (hn : b ≠ []) (h : (Cx.first16 k b).2 = b.length) : Cx.lst16 k b = Cx.first16 k b := by
  have hp : 0 < b.length := List.length_pos_iff.2 hn
  rcases Cx.fst16_cases k b with ⟨h1, e⟩ | ⟨h1, hP, e⟩ | ⟨h1, hP, e⟩
  · have el : Cx.lb b = Cx.c0 b := by unfold Cx.lb Cx.c0; rw [h1]
    rw [e]; unfold Cx.lst16; rw [if_pos (by omega), el]
  · rw [e] at h ⊢
    simp only at h
    have h4 : b.length = 4 := by omega
    have ht : Cx.tl b 4 = b := by rw [← h4]; exact Cx.tl_all b
    unfold Cx.lst16; rw [if_neg (by omega), ht, if_pos ⟨by omega, hP⟩]
  · rw [e] at h ⊢
    simp only at h
    have h2 : b.length = 2 := by omega
    have ht : Cx.tl b 2 = b := by rw [← h2]; exact Cx.tl_all b
    unfold Cx.lst16; rw [if_neg (by omega), if_neg (by omega), ht]

theorem Cx.last16_more (k : Int) (b : List Int) (n : Nat) (hf : (Cx.first16 k b).2 = n) (h : n < b.length) : Cx.lst16 k b = Cx.lst16 k (b.drop n) := by
  have hlen : (b.drop n).length = b.length - n := List.length_drop
  rcases Cx.fst16_cases k b with ⟨h1, e⟩ | ⟨h1, hP, e⟩ | ⟨h1, hP, e⟩
  · rw [e] at hf; simp only at hf; omega
  · obtain ⟨h4, hh, hl⟩ := Cx.isP_len k b hP
    rw [e] at hf
    simp only at hf
    obtain rfl : n = 4 := by omega
    unfold Cx.lst16
    rw [hlen, Cx.lb_drop b 4 h]
    by_cases ho : b.length % 2 = 1
    · rw [if_pos ho, if_pos (by omega)]
    · have ho4 : ¬ (b.length - 4) % 2 = 1 := by omega
      rw [if_neg ho, if_neg ho4, Cx.tl_drop b 4 2 (by omega)]
      by_cases h8 : 8 ≤ b.length
      · rw [Cx.tl_drop b 4 4 (by omega)]
        by_cases hc : Cx.isP k (Cx.tl b 4) = true
        · rw [if_pos ⟨by omega, hc⟩, if_pos ⟨by omega, hc⟩]
        · rw [if_neg (fun hh => hc hh.2), if_neg (fun hh => hc hh.2)]
      · have h6 : b.length = 6 := by omega
        have hx : ¬ (4 ≤ b.length ∧ Cx.isP k (Cx.tl b 4) = true) := ?_
        · rw [if_neg hx, if_neg (fun hh => by omega)]
        rintro ⟨_, hc⟩
        have := (Cx.isP_len k _ hc).2.1
        have et : Cx.tl b 4 = b.drop 2 := by unfold Cx.tl; rw [h6]
        rw [et, Cx.hi_lo _ hl] at this
        cases this
  · rw [e] at hf
    simp only at hf
    obtain rfl : n = 2 := by omega
    unfold Cx.lst16
    rw [hlen, Cx.lb_drop b 2 h]
    by_cases ho : b.length % 2 = 1
    · rw [if_pos ho, if_pos (by omega)]
    · have ho2 : ¬ (b.length - 2) % 2 = 1 := by omega
      rw [if_neg ho, if_neg ho2, Cx.tl_drop b 2 2 (by omega)]
      by_cases h6 : 6 ≤ b.length
      · rw [Cx.tl_drop b 2 4 (by omega)]
        by_cases hc : Cx.isP k (Cx.tl b 4) = true
        · rw [if_pos ⟨by omega, hc⟩, if_pos ⟨by omega, hc⟩]
        · rw [if_neg (fun hh => hc hh.2), if_neg (fun hh => hc hh.2)]
      · have h4 : b.length = 4 := by omega
        have ht : Cx.tl b 4 = b := by rw [← h4]; exact Cx.tl_all b
        have hx : ¬ (4 ≤ b.length ∧ Cx.isP k (Cx.tl b 4) = true) := ?_
        · rw [if_neg hx, if_neg (fun hh => by omega)]
        rintro ⟨_, hc⟩
        rw [ht, hP] at hc
        cases hc

/-- The last atom of bytes, and its bytes: every encoding. -/
def Cx.lst (enc : Int) (zs : List Int) : Int × Int := if enc = 1 then Cx.lst8 zs else if enc = 2 then Cx.lst16 0 zs else if enc = 3 then Cx.lst16 1 zs else (Cx.lb zs, 1)
theorem Cx.last_one (enc : Int) (b : List Int) (hb : Byt b) (hn : b ≠ []) (he : enc = 1 ∨ enc = 2 ∨ enc = 3 ∨ enc = 4) (h : (Cx.fst enc b).2 = b.length) : Cx.lst enc b = Cx.fst enc b := by
  rcases he with rfl | rfl | rfl | rfl
  · exact Cx.last8_one b hb hn h
  · exact Cx.last16_one 0 b hn h
  · exact Cx.last16_one 1 b hn h
  · have h1 : (1 : Int) = b.length := h
    show (Cx.lb b, (1 : Int)) = (Cx.c0 b, 1)
    have : b.length = 1 := by omega
    unfold Cx.lb Cx.c0; rw [this]
theorem Cx.last_more (enc : Int) (b : List Int) (hb : Byt b) (hn : b ≠ []) (he : enc = 1 ∨ enc = 2 ∨ enc = 3 ∨ enc = 4) (n : Nat) (hf : (Cx.fst enc b).2 = n) (h : n < b.length) : Cx.lst enc b = Cx.lst enc (b.drop n) := by
  rcases he with rfl | rfl | rfl | rfl
  · exact Cx.last8_more b hb hn n hf h
  · exact Cx.last16_more 0 b n hf h
  · exact Cx.last16_more 1 b n hf h
  · show (Cx.lb b, (1 : Int)) = (Cx.lb (b.drop n), 1)
    rw [Cx.lb_drop b n h]
end Go.Proofs.Ytbfbaknfeleddaa
