import Derived.Test.YtmfbobibpebfnaaGreatJ12
import Derived.Test.YtmfbobibpebfnaaGreatJ10
import Derived.Test.YtmfbobibpebfnaaGreatJ08
import Derived.Test.YtmfbobibpebfnaaGreatJ05
import Derived.Test.YtmfbobibpebfnaaGreatJ07
import Derived.Test.YtmfbobibpebfnaaGreatJ04
import Derived.Test.YtmfbobibpebfnaaGreatJ13
import Derived.Deep.RegionHeld3
import Derived.LoopTactic
import Derived.Deep.Cut
import Derived.Deep.RegionWith
/- The document's stream against the code's: pure facts. No Go in sight. -/
namespace Go.Proofs.YtmfbobibpebfnaaGreat

theorem Cx.wt_app (enc : Int) (b d : List Int) (hn : b ≠ []) (h : Cx.wt enc b = false) : Cx.wt enc (b ++ d) = false := by
  have hp : 0 < b.length := List.length_pos_iff.2 hn
  have hlen : (b ++ d).length = b.length + d.length := List.length_append
  have h16 : ∀ k, Cx.wtW k b = false → Cx.wtW k (b ++ d) = false := by
    intro k h
    unfold Cx.wtW at h ⊢
    simp only [Bool.or_eq_false_iff, Bool.and_eq_false_iff, decide_eq_false_iff_not] at h ⊢
    obtain ⟨h1, h2⟩ := h
    refine ⟨by omega, ?_⟩
    rw [Cx.wv_app k b d (by omega)]
    rcases h2 with h2 | h2
    · exact .inl (by omega)
    · exact .inr h2
  unfold Cx.wt at h ⊢
  split
  · rename_i he
    rw [if_pos he] at h
    simp only [decide_eq_false_iff_not] at h ⊢
    rw [Cx.mtch_app b d hn (by omega)]
    omega
  · rename_i he
    rw [if_neg he] at h
    split
    · rename_i he2; rw [if_pos he2] at h; exact h16 0 h
    · rename_i he2
      rw [if_neg he2] at h
      split
      · rename_i he3; rw [if_pos he3] at h; exact h16 1 h
      · rfl

theorem Cx.fst_nat (enc : Int) (b : List Int) (hn : b ≠ []) : ∃ a, ∃ n : Nat, Cx.fst enc b = (a, (n : Int)) ∧ 1 ≤ n ∧ n ≤ b.length := by
  have hb := Cx.fst_bd enc b hn
  exact ⟨(Cx.fst enc b).1, (Cx.fst enc b).2.toNat, by apply Prod.ext; rfl; simp only; omega, by omega, by omega⟩

/-- Fed in two parts is fed at once. -/
theorem Cx.fd_app (enc : Int) : ∀ (f : Nat) (b d : List Int), b.length ≤ f → Cx.fd enc (b ++ d) = ((Cx.fd enc b).1 ++ (Cx.fd enc ((Cx.fd enc b).2 ++ d)).1, (Cx.fd enc ((Cx.fd enc b).2 ++ d)).2) := by
  intro f
  induction f with
  | zero =>
    intro b d hf
    obtain rfl : b = [] := List.length_eq_zero_iff.1 (by omega)
    rw [Cx.fd_stop enc [] (.inl rfl)]
    rfl
  | succ f ih =>
    intro b d hf
    by_cases hn : b = []
    · subst hn; rw [Cx.fd_stop enc [] (.inl rfl)]; rfl
    · by_cases hw : Cx.wt enc b = true
      · rw [Cx.fd_stop enc b (.inr hw)]; rfl
      · have hw' : Cx.wt enc b = false := by simpa using hw
        obtain ⟨a, n, hfst, h1, h2⟩ := Cx.fst_nat enc b hn
        rw [Cx.fd_go enc b hn hw' a n hfst, Cx.fd_go enc (b ++ d) (by simp [hn]) (Cx.wt_app enc b d hn hw') a n (by rw [Cx.fst_app enc b d hn hw', hfst]), List.drop_append_of_le_length h2, ih (b.drop n) d (by simp; omega)]
        rfl

theorem Cx.mtch_val (b : List Int) : (Cx.okAll b = true ∧ Cx.mtch b = Cx.rowN (Cx.c0 b)) ∨ (Cx.okAll b ≠ true ∧ Cx.mtch b = 0) := by
  unfold Cx.mtch
  by_cases h : Cx.okAll b = true
  · exact .inl ⟨h, if_pos h⟩
  · exact .inr ⟨h, if_neg h⟩

theorem Cx.okAt_pre (b d : List Int) (hn : b ≠ []) (j : Nat) (h : Cx.okAt (b ++ d) j = true) : Cx.okAt b j = true := by
  have hlen : (b ++ d).length = b.length + d.length := List.length_append
  by_cases hjl : j < b.length
  · unfold Cx.okAt at h ⊢
    rw [Cx.c0_app b d hn, Cx.at_app b d j hjl, decide_eq_false (show ¬ (b ++ d).length ≤ j by omega)] at h
    rw [decide_eq_false (show ¬ b.length ≤ j by omega)]
    exact h
  · unfold Cx.okAt
    rw [decide_eq_true (show b.length ≤ j by omega)]; rfl

/-- The first atom of bytes that don't wait, read of a beginning that holds it. -/
theorem Cx.fst_pre (enc : Int) (b d : List Int) (hn : b ≠ []) (h : Cx.wt enc (b ++ d) = false) (hs : (Cx.fst enc (b ++ d)).2 ≤ b.length) : Cx.fst enc b = Cx.fst enc (b ++ d) := by
  have hp : 0 < b.length := List.length_pos_iff.2 hn
  have hlen : (b ++ d).length = b.length + d.length := List.length_append
  have hc := Cx.c0_app b d hn
  have h16 : ∀ k, Cx.wtW k (b ++ d) = false → (Cx.first16 k (b ++ d)).2 ≤ b.length → Cx.first16 k b = Cx.first16 k (b ++ d) := by
    intro k h hs
    unfold Cx.wtW at h
    simp only [Bool.or_eq_false_iff, decide_eq_false_iff_not] at h
    obtain ⟨h1, h2⟩ := h
    unfold Cx.first16 at hs ⊢
    rw [if_neg h1] at hs ⊢
    by_cases hP : Cx.isP k (b ++ d) = true
    · rw [if_pos hP] at hs ⊢
      simp only at hs
      have hPb : Cx.isP k b = true := by
        unfold Cx.isP at hP ⊢
        rw [Cx.wv_app k b d (by omega), List.drop_append_of_le_length (by omega), Cx.wv_app k (b.drop 2) d (by simp; omega)] at hP
        simp only [Bool.and_eq_true, decide_eq_true_eq] at hP ⊢
        exact ⟨⟨by omega, hP.1.2⟩, hP.2⟩
      rw [if_neg (by omega), if_pos hPb]
      unfold Cx.pairV
      rw [Cx.wv_app k b d (by omega), List.drop_append_of_le_length (by omega), Cx.wv_app k (b.drop 2) d (by simp; omega)]
    · rw [if_neg hP] at hs ⊢
      simp only at hs
      have hPb : ¬ Cx.isP k b = true := by
        intro hb
        apply hP
        unfold Cx.isP at hb ⊢
        simp only [Bool.and_eq_true, decide_eq_true_eq] at hb ⊢
        rw [Cx.wv_app k b d (by omega), List.drop_append_of_le_length (by omega), Cx.wv_app k (b.drop 2) d (by simp; omega)]
        exact ⟨⟨by omega, hb.1.2⟩, hb.2⟩
      rw [if_neg (by omega), if_neg hPb, Cx.wv_app k b d (by omega)]
  unfold Cx.fst at hs ⊢
  unfold Cx.wt at h
  split
  · rename_i he
    rw [if_pos he] at hs h
    simp only [decide_eq_false_iff_not] at h
    have hN := Cx.rowN_bd (Cx.c0 b)
    have yes : ∀ x : List Int, 0 < Cx.mtch x → Cx.mtch x ≤ x.length → Cx.first8 x = (Cx.val (x.take (Cx.mtch x).toNat), Cx.mtch x) := fun x h1 h2 => by unfold Cx.first8; rw [if_pos ⟨h1, h2⟩]
    have no : ∀ x : List Int, ¬ (0 < Cx.mtch x ∧ Cx.mtch x ≤ x.length) → Cx.first8 x = (-1 - Cx.c0 x, 1) := fun x h => by unfold Cx.first8; rw [if_neg h]
    rcases Cx.mtch_val (b ++ d) with ⟨ho, hm⟩ | ⟨ho, hm⟩
    · have hob : Cx.okAll b = true := by
        rw [Cx.okAll_iff] at ho ⊢
        intro j hj hr
        exact Cx.okAt_pre b d hn j (ho j hj (by rw [hc]; exact hr))
      have hmb : Cx.mtch b = Cx.mtch (b ++ d) := by rw [hm, hc]; unfold Cx.mtch; rw [if_pos hob]
      by_cases hz : 0 < Cx.mtch (b ++ d)
      · rw [yes (b ++ d) hz (by omega)] at hs ⊢
        simp only at hs
        rw [yes b (by omega) (by omega), hmb, List.take_append_of_le_length (by omega)]
      · rw [no (b ++ d) (by omega), no b (by omega), hc]
    · rw [no (b ++ d) (by omega), hc]
      refine no b fun hl => ?_
      have := Cx.mtch_app b d hn hl.2
      omega
  · rename_i he
    rw [if_neg he] at hs h
    split
    · rename_i he2; rw [if_pos he2] at hs h; exact h16 0 h hs
    · rename_i he2
      rw [if_neg he2] at hs h
      split
      · rename_i he3; rw [if_pos he3] at hs h; exact h16 1 h hs
      · rw [hc]

/-- What is certain, read alone, are the atoms told. -/
theorem Cx.fd_cut (enc : Int) : ∀ (f : Nat) (b : List Int), b.length ≤ f → Cx.dec enc (b.take (b.length - (Cx.fd enc b).2.length)) = (Cx.fd enc b).1 := by
  intro f
  induction f with
  | zero =>
    intro b hf
    obtain rfl : b = [] := List.length_eq_zero_iff.1 (by omega)
    rw [Cx.fd_stop enc [] (.inl rfl)]; rfl
  | succ f ih =>
    intro b hf
    by_cases hn : b = []
    · subst hn; rw [Cx.fd_stop enc [] (.inl rfl)]; rfl
    · by_cases hw : Cx.wt enc b = true
      · rw [Cx.fd_stop enc b (.inr hw)]
        simp only [Nat.sub_self, List.take_zero]
        rfl
      · have hw' : Cx.wt enc b = false := by simpa using hw
        obtain ⟨a, n, hfst, h1, h2⟩ := Cx.fst_nat enc b hn
        obtain ⟨_, _, hle, _, _⟩ := Cx.fd_dec enc _ (b.drop n) (Nat.le_refl _)
        rw [Cx.fd_go enc b hn hw' a n hfst]
        simp only
        rw [List.length_drop] at hle
        obtain ⟨m, hm⟩ : ∃ m, m = b.length - (Cx.fd enc (b.drop n)).2.length := ⟨_, rfl⟩
        rw [← hm]
        have hmn : n ≤ m := by omega
        have hml : (b.take m).length = m := by rw [List.length_take]; omega
        have hne : b.take m ≠ [] := List.length_pos_iff.1 (by omega)
        have hcat : b.take m ++ b.drop m = b := List.take_append_drop m b
        have hpre := Cx.fst_pre enc (b.take m) (b.drop m) hne (by rw [hcat]; exact hw') (by rw [hcat, hfst, hml]; simp only; omega)
        rw [hcat, hfst] at hpre
        rw [Cx.dec_cons enc _ hne a n hpre]
        have := ih (b.drop n) (by rw [List.length_drop]; omega)
        rw [List.length_drop] at this
        rw [← this, List.drop_take, show m - n = b.length - n - (Cx.fd enc (b.drop n)).2.length by omega]

/-- Held, UTF16: the odd byte, and the last unit where it is a high half. -/
theorem Cx.held16 (enc k : Int) (he : (enc = 2 ∧ k = 0) ∨ (enc = 3 ∧ k = 1)) : ∀ (f : Nat) (b : List Int), b.length ≤ f → (Cx.fd enc b).2.length = if 2 ≤ b.length ∧ Cx.hiU (Cx.wv k (b.drop (b.length - b.length % 2 - 2))) = true then b.length % 2 + 2 else b.length % 2 := by
  have ewt : ∀ b, Cx.wt enc b = Cx.wtW k b := by
    intro b; unfold Cx.wt
    rcases he with ⟨rfl, rfl⟩ | ⟨rfl, rfl⟩ <;> simp
  have efst : ∀ b, Cx.fst enc b = Cx.first16 k b := by
    intro b; unfold Cx.fst
    rcases he with ⟨rfl, rfl⟩ | ⟨rfl, rfl⟩ <;> simp
  intro f
  induction f with
  | zero =>
    intro b hf
    obtain rfl : b = [] := List.length_eq_zero_iff.1 (by omega)
    rw [Cx.fd_stop enc [] (.inl rfl), if_neg (by simp)]; rfl
  | succ f ih =>
    intro b hf
    by_cases hn : b = []
    · subst hn; rw [Cx.fd_stop enc [] (.inl rfl), if_neg (by simp)]; rfl
    · have hp : 0 < b.length := List.length_pos_iff.2 hn
      by_cases hw : Cx.wt enc b = true
      · rw [Cx.fd_stop enc b (.inr hw)]
        rw [ewt] at hw
        unfold Cx.wtW at hw
        simp only [Bool.or_eq_true, Bool.and_eq_true, decide_eq_true_eq] at hw
        rcases hw with hw | ⟨hw, hh⟩
        · rw [if_neg (by omega)]; simp only; omega
        · by_cases h1 : b.length = 1
          · rw [if_neg (by omega)]; simp only; omega
          · rw [if_pos ⟨by omega, by rw [show b.length - b.length % 2 - 2 = 0 by omega, List.drop_zero]; exact hh⟩]; simp only; omega
      · have hw' : Cx.wt enc b = false := by simpa using hw
        obtain ⟨a, n, hfst, h1, h2⟩ := Cx.fst_nat enc b hn
        rw [Cx.fd_go enc b hn hw' a n hfst]
        simp only
        rw [ih (b.drop n) (by rw [List.length_drop]; omega), List.length_drop, List.drop_drop]
        rw [ewt] at hw'
        unfold Cx.wtW at hw'
        simp only [Bool.or_eq_false_iff, decide_eq_false_iff_not] at hw'
        obtain ⟨g1, g2⟩ := hw'
        rw [efst] at hfst
        unfold Cx.first16 at hfst
        rw [if_neg g1] at hfst
        by_cases hP : Cx.isP k b = true
        · rw [if_pos hP] at hfst
          obtain rfl : n = 4 := by have := congrArg Prod.snd hfst; simp only at this; omega
          by_cases hr : 2 ≤ b.length - 4
          · rw [show (b.length - 4) % 2 = b.length % 2 by omega, show 4 + (b.length - 4 - b.length % 2 - 2) = b.length - b.length % 2 - 2 by omega]
            by_cases hh : Cx.hiU (Cx.wv k (b.drop (b.length - b.length % 2 - 2))) = true
            · rw [if_pos ⟨hr, hh⟩, if_pos ⟨by omega, hh⟩]
            · rw [if_neg (fun h => hh h.2), if_neg (fun h => hh h.2)]
          · rw [if_neg (fun h => hr h.1), if_neg]
            · omega
            · rintro ⟨_, hh⟩
              rw [show b.length - b.length % 2 - 2 = 2 by omega] at hh
              unfold Cx.isP at hP
              simp only [Bool.and_eq_true, decide_eq_true_eq] at hP
              have hlo := hP.2
              unfold Cx.loU at hlo
              unfold Cx.hiU at hh
              simp only [Bool.and_eq_true, decide_eq_true_eq] at hlo hh
              omega
        · rw [if_neg hP] at hfst
          obtain rfl : n = 2 := by have := congrArg Prod.snd hfst; simp only at this; omega
          by_cases hr : 2 ≤ b.length - 2
          · rw [show (b.length - 2) % 2 = b.length % 2 by omega, show 2 + (b.length - 2 - b.length % 2 - 2) = b.length - b.length % 2 - 2 by omega]
            by_cases hh : Cx.hiU (Cx.wv k (b.drop (b.length - b.length % 2 - 2))) = true
            · rw [if_pos ⟨hr, hh⟩, if_pos ⟨by omega, hh⟩]
            · rw [if_neg (fun h => hh h.2), if_neg (fun h => hh h.2)]
          · have g3 : Cx.hiU (Cx.wv k b) = false := by
              simp only [Bool.and_eq_false_iff, decide_eq_false_iff_not] at g2
              rcases g2 with g2 | g2
              · omega
              · exact g2
            rw [if_neg (fun h => hr h.1), if_neg]
            · omega
            · rintro ⟨_, hh⟩
              rw [show b.length - b.length % 2 - 2 = 0 by omega, List.drop_zero, g3] at hh
              cases hh

/-- Held, UTF8: one round of the document's loop. -/
theorem Cx.held8_stop (b : List Int) (hn : b ≠ []) (h : ∃ n k : Nat, b.length < n ∧ n ≤ 4 ∧ k < 2 ∧ (Cx.first8 (Cx.fillUp b n k)).2 = n) : (Cx.fd 1 b).2.length = b.length := by
  rw [Cx.fd_stop 1 b (.inr (by unfold Cx.wt; simp; exact (Cx.begin_iff b hn).1 h))]
theorem Cx.held8_go (b : List Int) (hn : b ≠ []) (h : ¬ (b.length ≤ 3 ∧ ∃ n k : Nat, b.length < n ∧ n ≤ 4 ∧ k < 2 ∧ (Cx.first8 (Cx.fillUp b n k)).2 = n)) : (Cx.fd 1 b).2.length = (Cx.fd 1 (b.drop (Cx.first8 b).2.toNat)).2.length := by
  have hw : Cx.wt 1 b = false := by
    cases hw : Cx.wt 1 b with
    | false => rfl
    | true =>
      exfalso
      apply h
      refine ⟨Cx.wt_short 1 b hw, (Cx.begin_iff b hn).2 ?_⟩
      unfold Cx.wt at hw
      simpa using hw
  obtain ⟨a, n, hf, h1, h2⟩ := Cx.fst_nat 1 b hn
  rw [Cx.fd_go 1 b hn hw a n hf]
  have : (Cx.first8 b).2.toNat = n := by
    have e : Cx.fst 1 b = Cx.first8 b := by unfold Cx.fst; simp
    rw [e] at hf
    rw [hf]; simp
  rw [this]
end Go.Proofs.YtmfbobibpebfnaaGreat

/- The document's Held: the stream's. -/
namespace Go.Proofs.YtmfbobibpebfnaaGreat
open Go.RowKit

theorem Cx.held_else (enc : Int) (h1 : enc ≠ 1) (h2 : enc ≠ 2) (h3 : enc ≠ 3) : ∀ (f : Nat) (b : List Int), b.length ≤ f → (Cx.fd enc b).2.length = 0 := by
  intro f
  induction f with
  | zero =>
    intro b hf
    obtain rfl : b = [] := List.length_eq_zero_iff.1 (by omega)
    rw [Cx.fd_stop enc [] (.inl rfl)]; rfl
  | succ f ih =>
    intro b hf
    by_cases hn : b = []
    · subst hn; rw [Cx.fd_stop enc [] (.inl rfl)]; rfl
    · obtain ⟨a, n, hfst, g1, g2⟩ := Cx.fst_nat enc b hn
      rw [Cx.fd_go enc b hn (by unfold Cx.wt; rw [if_neg h1, if_neg h2, if_neg h3]) a n hfst]
      exact ih (b.drop n) (by rw [List.length_drop]; omega)

set_option maxRecDepth 100000 in
set_option maxHeartbeats 4000000 in
theorem rHeld1_any (v : Value) (zs : List Int) (g : Nat) (w : World) (c0 : w.cell? ⟨g, 0, none⟩ = some (.int .i64 1)) (c1 : w.cell? ⟨g, 1, none⟩ = some v) (h : Rd .u8 w v zs) (hb : Byt zs) (hm : zs.length ≤ 4611686018427387000) :
    Calls Tryz.prog 29 #[.pointer (some ⟨g, 0, none⟩)] w fun e w' => e = .returned (.int .i64 (Cx.fd 1 zs).2.length) ∧ Below w.heap.size w w' := by
  have HR : Hid (Rd .u8 w v zs) := h
  have HB : Hid (Byt zs) := hb
  have hgl : g < w.heap.size := World.block_lt_of_cell? w _ c0
  have HC1 : Hid (∀ w', Below w.heap.size w w' → w'.cell? ⟨g, 1, none⟩ = some v) := fun w' hw => (hw.cell (p := ⟨g, 1, none⟩) hgl).trans c1
  obtain ⟨ao, cap, rfl, _⟩ := id h
  clear h hb
  go_enter Tryz.func29, Tryz.ntmps29
  go_wp2_with fail
  go_loopw [4] (fun i wr => ∃ a : Nat, a ≤ zs.length ∧ i = .int .i64 a ∧ Hid ((Cx.fd 1 (zs.drop a)).2.length = (Cx.fd 1 zs).2.length) ∧ Hid (Below w.heap.size w wr)) (fun i _ => zs.length - (intOf i).toNat)
  case atStart => exact ⟨0, Nat.zero_le _, rfl, rfl, Below.refl _ _⟩
  case round =>
    obtain ⟨a, ha, rfl, HF, HBW⟩ := hrel
    by_cases hal : a < zs.length
    · have hd1 : decide ((a : Int) < (zs.length : Int)) = true := by simp; omega
      have hne : zs.drop a ≠ [] := List.length_pos_iff.1 (by rw [List.length_drop]; omega)
      have hbi := Cx.begin_iff (zs.drop a) hne
      obtain ⟨y, n, hfst, hn1, hn2⟩ := Cx.fst_nat 1 (zs.drop a) hne
      rw [List.length_drop] at hn2
      have hf8 : Cx.first8 (zs.drop a) = (y, (n : Int)) := by rw [← hfst]; unfold Cx.fst; simp
      have HF8 : Hid (Cx.first8 (zs.drop a) = (y, (n : Int))) := hf8
      have HST : Hid (((zs.drop a).length : Int) < Cx.mtch (zs.drop a) → (Cx.fd 1 zs).2.length = zs.length - a) := fun h => by
        rw [← HF.out, Cx.held8_stop _ hne (hbi.2 h), List.length_drop]
      have HGO : Hid (¬ (zs.length - a ≤ 3 ∧ ((zs.drop a).length : Int) < Cx.mtch (zs.drop a)) → (Cx.fd 1 (zs.drop (a + n))).2.length = (Cx.fd 1 zs).2.length) := fun h => by
        have := Cx.held8_go _ hne (fun h2 => h ⟨by have := h2.1; rw [List.length_drop] at this; exact this, hbi.1 h2.2⟩)
        rw [hf8, HF.out, List.drop_drop] at this
        exact this.symm
      have hc := HC1.out wr HBW.out
      have hs1 : IntKind.i64.wrap ((zs.length : Int) - (a : Int)) = (zs.length : Int) - (a : Int) := by rw [IntKind.wrap_i64]; omega
      have hs2 : IntKind.i64.wrap ((a : Int) + (n : Int)) = (a : Int) + (n : Int) := by rw [IntKind.wrap_i64]; omega
      clear hbi hfst hf8 hne HF
      by_cases h3 : zs.length - a ≤ 3
      · have hd2 : decide ((zs.length : Int) - (a : Int) ≤ 3) = true := by simp; omega
        have h3' : (zs.length : Int) - (a : Int) ≤ 3 := by omega
        have BG : Hid (∀ w', Below w.heap.size w w' → Calls Tryz.prog 55 #[.slice ao zs.length cap, .int .i64 a] w' fun e w'' => e = .returned (.bool (decide (((zs.drop a).length : Int) < Cx.mtch (zs.drop a)))) ∧ Below w'.heap.size w' w'') := fun w' hw => beginning_any _ zs a w' (HR.out.ext hw) HB.out hal h3 hm
        by_cases hq : ((zs.drop a).length : Int) < Cx.mtch (zs.drop a)
        · have HE : Hid ((Cx.fd 1 zs).2.length = zs.length - a) := HST.out hq
          rw [decide_eq_true hq] at BG
          clear HST HGO hq
          go_wp2_with (go_at_call 55; refine (BG.out _ HBW.out).mono ?_; rintro e w2 ⟨rfl, hb2⟩; have HBX : Hid (Below w.heap.size w w2) := ext_trans HBW.out hb2; clear hb2)
          go_ret
          exact ⟨ret_int (by rw [HE.out]; omega), HBX.out⟩
        · have HG : Hid ((Cx.fd 1 (zs.drop (a + n))).2.length = (Cx.fd 1 zs).2.length) := HGO.out (fun h => hq h.2)
          rw [decide_eq_false hq] at BG
          clear HST HGO hq
          go_wp2_with (first | (go_at_call 55; refine (BG.out _ HBW.out).mono ?_; rintro e w2 ⟨rfl, hb2⟩; have HBX : Hid (Below w.heap.size w w2) := ext_trans HBW.out hb2; have hc2 := HC1.out w2 HBX.out; clear hb2 BG) | (go_at_call 56; refine (eightAt_any _ zs a _ (HR.out.ext HBX.out) HB.out hal hm).mono ?_; rintro e w3 ⟨rfl, hb3⟩; rw [HF8.out]; have HW3 : Hid (Below w.heap.size w w3) := ext_trans HBX.out hb3; clear hb3))
          go_roundw
          case rel => exact ⟨a + n, by omega, by go_num, HG.out, HW3.out⟩
          case measure => simp [intOf]; omega
      · have hd2 : decide ((zs.length : Int) - (a : Int) ≤ 3) = false := by simp; omega
        have h3' : ¬ (zs.length : Int) - (a : Int) ≤ 3 := by omega
        have HG : Hid ((Cx.fd 1 (zs.drop (a + n))).2.length = (Cx.fd 1 zs).2.length) := HGO.out (fun h => h3 h.1)
        have HBX : Hid (Below w.heap.size w wr) := HBW.out
        clear HST HGO
        go_wp2_with (go_at_call 56; refine (eightAt_any _ zs a _ (HR.out.ext HBX.out) HB.out hal hm).mono ?_; rintro e w3 ⟨rfl, hb3⟩; rw [HF8.out]; have HW3 : Hid (Below w.heap.size w w3) := ext_trans HBX.out hb3; clear hb3)
        go_roundw
        case rel => exact ⟨a + n, by omega, by go_num, HG.out, HW3.out⟩
        case measure => simp [intOf]; omega
    · obtain rfl : a = zs.length := by omega
      have hd1 : decide ((zs.length : Int) < (zs.length : Int)) = false := by simp
      have HE : Hid ((Cx.fd 1 zs).2.length = 0) := by
        unfold Hid
        rw [← HF.out, List.drop_length, Cx.fd_stop 1 [] (.inl rfl)]; rfl
      clear HF
      go_wp2_with fail
      go_ret
      exact ⟨ret_int (by rw [HE.out]; rfl), HBW.out⟩
end Go.Proofs.YtmfbobibpebfnaaGreat

/- The document's Held: the other encodings. -/
namespace Go.Proofs.YtmfbobibpebfnaaGreat
open Go.RowKit

set_option maxRecDepth 100000 in
set_option maxHeartbeats 4000000 in
theorem rHeld4_any (enc : Int) (h1 : enc ≠ 1) (h2 : enc ≠ 2) (h3 : enc ≠ 3) (v : Value) (zs : List Int) (g : Nat) (w : World) (c0 : w.cell? ⟨g, 0, none⟩ = some (.int .i64 enc)) (c1 : w.cell? ⟨g, 1, none⟩ = some v) (h : Rd .u8 w v zs) :
    Calls Tryz.prog 29 #[.pointer (some ⟨g, 0, none⟩)] w fun e w' => e = .returned (.int .i64 (Cx.fd enc zs).2.length) ∧ Below w.heap.size w w' := by
  have HE : Hid ((Cx.fd enc zs).2.length = 0) := Cx.held_else enc h1 h2 h3 _ zs (Nat.le_refl _)
  obtain ⟨ao, cap, rfl, _⟩ := id h
  have q1 : (enc == 1) = false := by simp [h1]
  have q2 : (enc == 2) = false := by simp [h2]
  have q3 : (enc == 3) = false := by simp [h3]
  clear h h1 h2 h3
  go_enter Tryz.func29, Tryz.ntmps29
  go_wp2_with fail
  go_ret
  exact ⟨ret_int (by rw [HE.out]; rfl), Below.refl _ _⟩
end Go.Proofs.YtmfbobibpebfnaaGreat

/- Streams: what this law's texts lean on. -/
namespace Go.Proofs.YtmfbobibpebfnaaGreat
open Go.RowKit

theorem hidIt {p : Prop} (h : p) : Hid p := h
/-- From W to W' nothing that lay has turned but the blocks that own tells. -/
structure Kps (own : Nat → Prop) (W W' : World) : Prop where
  os : W'.os = W.os
  tape : W'.tape = W.tape
  output : W'.output = W.output
  size : W.heap.size ≤ W'.heap.size
  same : ∀ k, k < W.heap.size → ¬ own k → W'.heap[k]? = W.heap[k]?
theorem Kps.refl (own : Nat → Prop) (W : World) : Kps own W W := ⟨rfl, rfl, rfl, Nat.le_refl _, fun _ _ _ => rfl⟩
theorem Kps.trans {o p : Nat → Prop} {A B C : World} (h : Kps o A B) (k : Kps p B C) (hp : ∀ i, i < A.heap.size → p i → o i) : Kps o A C :=
  ⟨k.os.trans h.os, k.tape.trans h.tape, k.output.trans h.output, Nat.le_trans h.size k.size, fun i hi ho => (k.same i (Nat.lt_of_lt_of_le hi h.size) (fun e => ho (hp i hi e))).trans (h.same i hi ho)⟩
theorem Kps.below {o : Nat → Prop} {A B : World} (h : Kps o A B) {n : Nat} (hn : n ≤ A.heap.size) (ho : ∀ k, o k → n ≤ k) : Below n A B :=
  ⟨h.os, h.tape, h.output, h.size, fun k hk => h.same k (Nat.lt_of_lt_of_le hk hn) (fun e => by have := ho k e; omega)⟩
theorem Kps.of_below {A B : World} (o : Nat → Prop) (h : Below A.heap.size A B) : Kps o A B := ⟨h.os, h.tape, h.output, h.size, fun k hk _ => h.block k hk⟩
theorem Kps.mono {o p : Nat → Prop} {A B : World} (h : Kps o A B) (hp : ∀ i, i < A.heap.size → o i → p i) : Kps p A B := ⟨h.os, h.tape, h.output, h.size, fun k hk hn => h.same k hk (fun e => hn (hp k hk e))⟩
theorem Kps.grown {o : Nat → Prop} {A B : World} {row : Option Nat} (h : A.grownBy B row) (hr : ∀ k, row = some k → k < A.heap.size → o k) : Kps o A B :=
  ⟨h.os, h.tape, h.output, h.size, fun k hk hn => h.block k hk (fun e => hn (hr k e.symm hk))⟩

/-- append in a region that draws: which block the answer lies in. -/
theorem wp_append_blk {P : Program} {W : World} {op : Oper} {a : Act} {K : Act → World → Prop} {Q : Exit → Act → World → Prop} (s x : Operand) (t : TypeId) (ho : op.op = .call { callee := .builtin .append, args := #[s, x], argTypes := #[t, t] })
    (base : Nat) (e : TypeId) (i : TypeInfo) (z : Value) (size bytes : Nat) (ht : P.underlying t = some (.slice e)) (hi : P.info? e = some i) (hz : i.zero = some z)
    (hsize : i.size = size) (hby : i.bytes = bytes) (hzs : z.cells.size = size) (hsz : 0 < size)
    (v : Value) (n : Nat) (xs : List Value) (hs : a.eval s = v) (hown : W.ownsRow base e size v n xs)
    (ad : Addr) (m c : Nat) (news : List Value) (hx : a.eval x = .slice (some ad) m c) (hl : news.length = m * size) (hnews : ∀ j u, news[j]? = some u → W.cell? (ad.add j) = some u) (h1 : ∀ u ∈ news, u.oneCell' = true)
    (h63 : n + m ≤ maxLen) (hbytes : (n + m) * bytes ≤ 140737488355328) (hbase : base ≤ W.heap.size) (hm : 0 < m)
    (h : ∀ v' w', w'.ownsRow base e size v' (n + m) (xs ++ news) → W.grownBy w' v.ownBlock → (v'.ownBlock = v.ownBlock ∨ v'.ownBlock = some W.heap.size) → K (a.put op.dst v') w') : op.wp P a W K Q := by
  obtain ⟨v', w', hr, h2, h3, h4⟩ := run_append_blk (P := P) W base t op.type e i z size bytes ht hi hz hsize hby hzs hsz v n xs hown ad m c news hl hnews h1 h63 hbytes hbase hm
  unfold Oper.wp execOp
  simp only [ho, resolve, invoke, builtin, Sem.run_bind, Sem.run_pure, Result.andThen_ok, List.map_toArray, List.map_cons, List.map_nil, hs, hx, hr]
  exact h v' w' h2 h3 h4
theorem form_own {w : World} {base : Nat} {e : TypeId} {size n : Nat} {v : Value} {xs : List Value} (h : w.ownsRow base e size v n xs) : ∃ ao c, v = .slice ao n c := by
  rcases h.2 with ⟨rfl, rfl⟩ | ⟨g, cap, cur, rfl, _⟩
  · exact ⟨_, _, rfl⟩
  · exact ⟨_, _, rfl⟩
/-- The block that a row lies in. -/
theorem own_blk {w : World} {base : Nat} {e : TypeId} {size n : Nat} {v : Value} {xs : List Value} (h : w.ownsRow base e size v n xs) {g : Nat} (hg : v.ownBlock = some g) : base ≤ g ∧ ∃ cur, w.heap[g]? = some (.cells cur e (0, 0)) := by
  rcases h.2 with ⟨rfl, _⟩ | ⟨g', cap, cur, rfl, hb, hg', _⟩
  · cases hg
  · have e : g' = g := by simpa [Value.ownBlock] using hg
    subst e
    exact ⟨hb, cur, hg'⟩
theorem own_ne {y : World} {b base : Nat} {e : TypeId} {size n : Nat} {v : Value} {xs : List Value} {cs : Array Value} {T : TypeId} {r : Nat × Nat} (h : y.ownsRow base e size v n xs) (hb : y.heap[b]? = some (.cells cs T r)) (hT : T ≠ e) : v.ownBlock ≠ some b := by
  intro e
  obtain ⟨_, cur, hc⟩ := own_blk h e
  rw [hc] at hb
  cases hb
  exact hT rfl
theorem own_stay {w w' : World} {base : Nat} {e : TypeId} {size n : Nat} {v : Value} {xs : List Value} (h : w.ownsRow base e size v n xs) (hs : ∀ g, v.ownBlock = some g → w'.heap[g]? = w.heap[g]?) : w'.ownsRow base e size v n xs := by
  obtain ⟨h1, h2⟩ := h
  refine ⟨h1, ?_⟩
  rcases h2 with h2 | ⟨g, cap, cur, rfl, hb, hg, r⟩
  · exact .inl h2
  · exact .inr ⟨g, cap, cur, rfl, hb, (hs g rfl).trans hg, r⟩
theorem own_lt {w : World} {base : Nat} {e : TypeId} {size n : Nat} {v : Value} {xs : List Value} (h : w.ownsRow base e size v n xs) {g : Nat} (hg : v.ownBlock = some g) : g < w.heap.size := by
  obtain ⟨_, cur, hc⟩ := own_blk h hg
  exact (Array.getElem?_eq_some_iff.1 hc).1
theorem set1 {T : TypeId} {w : World} {g : Nat} {cs : Array Value} (hg : w.heap[g]? = some (.cells cs T (0, 0))) (i : Nat) (v : Value) : (w.setCell ⟨g, i, none⟩ v).heap[g]? = some (.cells (cs.setIfInBounds i v) T (0, 0)) ∧ w.grownBy (w.setCell ⟨g, i, none⟩ v) (some g) := by
  rw [setCell_eq_setRow w g i _ _ _ _ hg]
  exact ⟨setRow_heap w g _ _ T (0, 0) hg, ⟨rfl, rfl, rfl, by simp [World.setRow], fun j _ hk => setRow_other w g j _ (by intro e; subst e; exact hk rfl)⟩⟩
theorem cells3 {w : World} {g : Nat} {a b c : Value} {T : TypeId} {r : Nat × Nat} (hg : w.heap[g]? = some (.cells #[a, b, c] T r)) : w.cell? ⟨g, 0, none⟩ = some a ∧ w.cell? ⟨g, 1, none⟩ = some b ∧ w.cell? ⟨g, 2, none⟩ = some c := by
  refine ⟨?_, ?_, ?_⟩ <;> rw [cell_of_row w g _ _ _ _ hg] <;> rfl
theorem unfrozen {w : World} {g : Nat} {cs : Array Value} {T : TypeId} (hg : w.heap[g]? = some (.cells cs T (0, 0))) (i : Nat) : w.frozen? ⟨g, i, none⟩ = false := by simp [World.frozen?, hg]
theorem byt_app {a b : List Int} (ha : Byt a) (hb : Byt b) : Byt (a ++ b) := fun z hz => (List.mem_append.1 hz).elim (ha z) (hb z)
end Go.Proofs.YtmfbobibpebfnaaGreat

/- plays: a call that knows no stream. -/
namespace Go.Proofs.YtmfbobibpebfnaaGreat
open Go.RowKit

theorem cells6 {w : World} {g : Nat} {a b c d e f : Value} {T : TypeId} {r : Nat × Nat} (hg : w.heap[g]? = some (.cells #[a, b, c, d, e, f] T r)) : w.cell? ⟨g, 0, none⟩ = some a ∧ w.cell? ⟨g, 1, none⟩ = some b ∧ w.cell? ⟨g, 2, none⟩ = some c ∧ w.cell? ⟨g, 3, none⟩ = some d ∧ w.cell? ⟨g, 4, none⟩ = some e ∧ w.cell? ⟨g, 5, none⟩ = some f := by
  refine ⟨?_, ?_, ?_, ?_, ?_, ?_⟩ <;> rw [cell_of_row w g _ _ _ _ hg] <;> rfl
set_option maxRecDepth 100000 in
set_option maxHeartbeats 4000000 in
theorem plays_any (w : World) (kd wh en nn : Int) (ai li : Option Addr) (ci lc : Nat) (d l : List Int) (hr : Rd .u8 w (.slice ai d.length ci) d) (hb : Byt d) (hd : d.length ≤ 1048576) (hrl : Rd .i64 w (.slice li l.length lc) l) (hl : l.length ≤ 1048576) :
    Calls Tryz.prog 9 #[.agg #[.int .i64 kd, .int .i64 wh, .int .i64 en, .int .i64 nn, .slice ai d.length ci, .slice li l.length lc]] w fun e w' => e = .returned (.bool true) ∧ Below w.heap.size w w' := by
  obtain ⟨w0, hw0⟩ : ∃ w0, w0 = w.alloc (.cells #[.int .i64 kd, .int .i64 wh, .int .i64 en, .int .i64 nn, .slice ai d.length ci, .slice li l.length lc] 38) := ⟨_, rfl⟩
  have hb0 : Below w.heap.size w w0 := by rw [hw0]; exact ext_alloc (Below.refl _ _) _
  have hc0 : w0.heap[w.heap.size]? = some (.cells #[.int .i64 kd, .int .i64 wh, .int .i64 en, .int .i64 nn, .slice ai d.length ci, .slice li l.length lc] 38 (0, 0)) := by rw [hw0]; exact heap_alloc_new _ _
  obtain ⟨k0, k1, k2, k3, k4, k5⟩ := cells6 hc0
  have HB0 := hidIt hb0
  have HR := hidIt hr
  have HRL := hidIt hrl
  have HB := hidIt hb
  clear hb0 hc0 hr hrl hb
  by_cases q4 : kd = 4
  · subst q4
    have HX : Hid (∀ y, Below w.heap.size w y → Calls Tryz.prog 8 #[.int .i64 en, .slice ai d.length ci] y fun e w' => e = .returned (.bool true) ∧ Below y.heap.size y w') := fun y hb => decoded_any en _ d y (HR.out.ext hb) HB.out (by omega)
    go_enter Tryz.func9, Tryz.ntmps9
    go_upto_region 1 with fail
    rw [← hw0]
    clear hw0
    go_wp2_with (go_at_call 8; refine (HX.out _ HB0.out).mono ?_; rintro e w1 ⟨rfl, hb1⟩; (try dsimp only); have HB1 := hidIt (ext_trans HB0.out hb1); clear hb1)
    go_ret
    exact ⟨rfl, HB1.out⟩
  have r4 : (kd == 4) = false := by simpa using q4
  by_cases q5 : kd = 5
  · subst q5
    have HX : Hid (∀ y, Below w.heap.size w y → Calls Tryz.prog 23 #[.int .i64 en, .slice li l.length lc] y fun e w' => e = .returned (.bool true) ∧ Below y.heap.size y w') := fun y hb => encoded_any en _ l y (HRL.out.ext hb) (by omega)
    go_enter Tryz.func9, Tryz.ntmps9
    go_upto_region 1 with fail
    rw [← hw0]
    clear hw0
    go_wp2_with (go_at_call 23; refine (HX.out _ HB0.out).mono ?_; rintro e w1 ⟨rfl, hb1⟩; (try dsimp only); have HB1 := hidIt (ext_trans HB0.out hb1); clear hb1)
    go_ret
    exact ⟨rfl, HB1.out⟩
  have r5 : (kd == 5) = false := by simpa using q5
  by_cases q6 : kd = 6
  · subst q6
    have HX : Hid (∀ y, Below w.heap.size w y → Calls Tryz.prog 24 #[.int .i64 en, .int .i64 nn] y fun e w' => e = .returned (.bool true) ∧ Below y.heap.size y w') := fun y hb => sized_any en nn y
    go_enter Tryz.func9, Tryz.ntmps9
    go_upto_region 1 with fail
    rw [← hw0]
    clear hw0
    go_wp2_with (go_at_call 24; refine (HX.out _ HB0.out).mono ?_; rintro e w1 ⟨rfl, hb1⟩; (try dsimp only); have HB1 := hidIt (ext_trans HB0.out hb1); clear hb1)
    go_ret
    exact ⟨rfl, HB1.out⟩
  have r6 : (kd == 6) = false := by simpa using q6
  by_cases q7 : kd = 7
  · subst q7
    have HX : Hid (∀ y, Below w.heap.size w y → Calls Tryz.prog 25 #[.int .i64 en, .slice ai d.length ci, .int .i64 nn] y fun e w' => e = .returned (.bool true) ∧ Below y.heap.size y w') := fun y hb => tokens_any en _ d nn y (HR.out.ext hb) HB.out (by omega)
    go_enter Tryz.func9, Tryz.ntmps9
    go_upto_region 1 with fail
    rw [← hw0]
    clear hw0
    go_wp2_with (go_at_call 25; refine (HX.out _ HB0.out).mono ?_; rintro e w1 ⟨rfl, hb1⟩; (try dsimp only); have HB1 := hidIt (ext_trans HB0.out hb1); clear hb1)
    go_ret
    exact ⟨rfl, HB1.out⟩
  have r7 : (kd == 7) = false := by simpa using q7
  by_cases q8 : kd = 8
  · subst q8
    have HX : Hid (∀ y, Below w.heap.size w y → Calls Tryz.prog 26 #[.int .i64 en, .slice ai d.length ci] y fun e w' => e = .returned (.bool true) ∧ Below y.heap.size y w') := fun y hb => marked_any en _ d y (HR.out.ext hb) HB.out (by omega)
    go_enter Tryz.func9, Tryz.ntmps9
    go_upto_region 1 with fail
    rw [← hw0]
    clear hw0
    go_wp2_with (go_at_call 26; refine (HX.out _ HB0.out).mono ?_; rintro e w1 ⟨rfl, hb1⟩; (try dsimp only); have HB1 := hidIt (ext_trans HB0.out hb1); clear hb1)
    go_ret
    exact ⟨rfl, HB1.out⟩
  have r8 : (kd == 8) = false := by simpa using q8
  by_cases q9 : kd = 9
  · subst q9
    have HX : Hid (∀ y, Below w.heap.size w y → Calls Tryz.prog 27 #[.slice ai d.length ci] y fun e w' => e = .returned (.bool true) ∧ Below y.heap.size y w') := fun y hb => guessed_any _ d y (HR.out.ext hb) HB.out (by omega)
    go_enter Tryz.func9, Tryz.ntmps9
    go_upto_region 1 with fail
    rw [← hw0]
    clear hw0
    go_wp2_with (go_at_call 27; refine (HX.out _ HB0.out).mono ?_; rintro e w1 ⟨rfl, hb1⟩; (try dsimp only); have HB1 := hidIt (ext_trans HB0.out hb1); clear hb1)
    go_ret
    exact ⟨rfl, HB1.out⟩
  have r9 : (kd == 9) = false := by simpa using q9
  clear q4 q5 q6 q7 q8 q9
  go_enter Tryz.func9, Tryz.ntmps9
  go_upto_region 1 with fail
  rw [← hw0]
  clear hw0
  go_wp2_with fail
  go_ret
  exact ⟨rfl, HB0.out⟩
end Go.Proofs.YtmfbobibpebfnaaGreat
