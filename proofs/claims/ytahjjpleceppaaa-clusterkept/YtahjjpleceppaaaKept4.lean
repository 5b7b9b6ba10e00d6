/- Who owns which block: the held lists, the quiet lists, the rows that hold them. -/
import Derived.Test.YtahjjpleceppaaaKept3
namespace Go.Proofs.Ytahjjpleceppaaa
open Go.RowKit

theorem Rd.keep {w w' : World} {v : Value} {zs : List Int} {row : Option Nat} (h : Rd .i64 w v zs) (hg : w.grownBy w' row) (hne : ∀ g, v.ownBlock = some g → some g ≠ row) : Rd .i64 w' v zs := by
  obtain ⟨ao, cap, hv, h1, h2, h3⟩ := h
  refine ⟨ao, cap, hv, h1, h2, fun hn => ?_⟩
  obtain ⟨b, off, ha, hlt, hc⟩ := h3 hn
  refine ⟨b, off, ha, Nat.lt_of_lt_of_le hlt hg.size, fun i hi => hg.cell (hc i hi) ?_⟩
  exact hne b (by rw [hv, ha]; rfl)
theorem AllM.keep {w w' : World} {v : Value} {m : Int} {row : Option Nat} (h : AllM w v m) (hg : w.grownBy w' row) (hne : ∀ g, v.ownBlock = some g → some g ≠ row) : AllM w' v m := by
  obtain ⟨L, hr, h2⟩ := h
  exact ⟨L, hr.keep hg hne, h2⟩
theorem row_keep {w w' : World} {base : Nat} {e : TypeId} {size : Nat} {v : Value} {n : Nat} {xs : List Value} {row : Option Nat} (h : w.ownsRow base e size v n xs) (hg : w.grownBy w' row) (hne : ∀ g, v.ownBlock = some g → some g ≠ row) : w'.ownsRow base e size v n xs := by
  refine h.kept hg ?_
  cases hb : v.ownBlock with
  | none => exact .inl rfl
  | some g => exact .inr (hne g hb)
theorem grown_of_below {w w' : World} (h : Below w.heap.size w w') : w.grownBy w' none := ⟨h.os, h.tape, h.output, h.size, fun k hk _ => h.block k hk⟩
theorem below_of_grown {w w' : World} {row : Option Nat} (h : w.grownBy w' row) (hr : ∀ g, row = some g → w.heap.size ≤ g) : Below w.heap.size w w' := ⟨h.os, h.tape, h.output, h.size, fun k hk => h.block k hk (fun e => by have := hr k e.symm; omega)⟩

abbrev Qt := Value × List Int
/-- What holds all along; quiet lists from k on are still as they were answered. -/
structure KI (w w' : World) (vH vQ : Value) (hs : List Hd) (qs : List Qt) (ρ : Nat → Nat) (k : Nat) : Prop where
  below : Below w.heap.size w w'
  held : HeldIn w' w.heap.size vH hs
  quiet : w'.ownsRow w.heap.size 22 1 vQ qs.length (qs.map (·.1))
  each : ∀ i q, k ≤ i → qs[i]? = some q → Own w' w.heap.size q.1 q.2 ∧ 0 < q.2.length
  rH : ∀ g, vH.ownBlock = some g → ρ g = 0
  rQ : ∀ g, vQ.ownBlock = some g → ρ g = 1
  rh : ∀ h ∈ hs, (∀ g, h.1.ownBlock = some g → g < w'.heap.size ∧ ρ g = 2) ∧ (∀ g, h.2.1.ownBlock = some g → g < w'.heap.size ∧ ρ g = 2)
  rq : ∀ i q, k ≤ i → qs[i]? = some q → ∀ g, q.1.ownBlock = some g → ρ g = 4 + i

theorem KI.other {w w1 w2 : World} {vH vQ : Value} {hs : List Hd} {qs : List Qt} {ρ : Nat → Nat} {k : Nat} {row : Option Nat} (h : KI w w1 vH vQ hs qs ρ k) (hg : w1.grownBy w2 row) (hr : ∀ g, row = some g → (w1.heap.size ≤ g ∨ ρ g = 3) ∧ w.heap.size ≤ g) : KI w w2 vH vQ hs qs ρ k := by
  have ne : ∀ g, g < w1.heap.size → ρ g ≠ 3 → some g ≠ row := fun g hl hn e => by
    rcases (hr g e.symm).1 with h | h
    · omega
    · exact hn h
  refine ⟨?_, ⟨row_keep h.held.1 hg fun g hb => ne g (h.held.1.lt g hb).2 (by rw [h.rH g hb]; decide), fun x hx => ?_⟩, row_keep h.quiet hg fun g hb => ne g (h.quiet.lt g hb).2 (by rw [h.rQ g hb]; decide), fun i q hi hq => ?_, h.rH, h.rQ, fun x hx => ?_, h.rq⟩
  · exact ⟨hg.os.trans h.below.os, hg.tape.trans h.below.tape, hg.output.trans h.below.output, Nat.le_trans h.below.size hg.size, fun b hb => (hg.block b (Nat.lt_of_lt_of_le hb h.below.size) (fun e => by have := (hr b e.symm).2; omega)).trans (h.below.block b hb)⟩
  · obtain ⟨a1, a2⟩ := h.rh x hx
    obtain ⟨m1, m2⟩ := h.held.2 x hx
    exact ⟨m1.keep hg fun g hb => ne g (a1 g hb).1 (by rw [(a1 g hb).2]; decide), m2.keep hg fun g hb => ne g (a2 g hb).1 (by rw [(a2 g hb).2]; decide)⟩
  · obtain ⟨o, l⟩ := h.each i q hi hq
    exact ⟨row_keep o hg fun g hb => ne g (o.lt g hb).2 (by rw [h.rq i q hi hq g hb]; omega), l⟩
  · obtain ⟨a1, a2⟩ := h.rh x hx
    exact ⟨fun g hb => ⟨Nat.lt_of_lt_of_le (a1 g hb).1 hg.size, (a1 g hb).2⟩, fun g hb => ⟨Nat.lt_of_lt_of_le (a2 g hb).1 hg.size, (a2 g hb).2⟩⟩
theorem KI.ext {w w1 w2 : World} {vH vQ : Value} {hs : List Hd} {qs : List Qt} {ρ : Nat → Nat} {k : Nat} (h : KI w w1 vH vQ hs qs ρ k) (hb : Below w1.heap.size w1 w2) : KI w w2 vH vQ hs qs ρ k :=
  h.other (grown_of_below hb) (fun _ e => by cases e)

/-- One quiet list more. -/
theorem KI.addQuiet {w w1 w2 w3 : World} {vH vQ vQ' u : Value} {hs : List Hd} {qs : List Qt} {ρ : Nat → Nat} {k : Nat} {L : List Int} {o : Obj} (h : KI w w1 vH vQ hs qs ρ k) (hb : Below w1.heap.size w1 w2) (hu : Own w2 w1.heap.size u L) (hL : 0 < L.length)
    (hrow : w3.ownsRow w.heap.size 22 1 vQ' (qs.length + 1) (qs.map (·.1) ++ [u])) (hg : (w2.alloc o).grownBy w3 vQ.ownBlock) (hblk : vQ'.ownBlock = vQ.ownBlock ∨ vQ'.ownBlock = some (w2.alloc o).heap.size) :
    ∃ ρ', KI w w3 vH vQ' hs (qs ++ [(u, L)]) ρ' k := by
  obtain ⟨g, cap, rfl, hug, hul, _, _⟩ := hu.at hL
  have hs12 := hb.size
  have hsa : (w2.alloc o).heap.size = w2.heap.size + 1 := by simp
  have h2 : w1.grownBy (w2.alloc o) none := grown_alloc (grown_of_below hb) o
  have hvQ : ∀ b, vQ.ownBlock = some b → b < w1.heap.size := fun b e => (h.quiet.lt b e).2
  refine ⟨fun b => if b < w1.heap.size then ρ b else if b = g then 4 + qs.length else 1, ?_⟩
  have old : ∀ b, b < w1.heap.size → (if b < w1.heap.size then ρ b else if b = g then 4 + qs.length else 1) = ρ b := fun b hb => if_pos hb
  have ne : ∀ b, b < w1.heap.size → ρ b ≠ 1 → some b ≠ vQ.ownBlock := fun b hl hn e => hn (h.rQ b e.symm)
  have hgr : w1.grownBy w3 vQ.ownBlock := ⟨hg.os.trans h2.os, hg.tape.trans h2.tape, hg.output.trans h2.output, Nat.le_trans h2.size hg.size, fun b hb hn => (hg.block b (Nat.lt_of_lt_of_le hb h2.size) hn).trans (h2.block b hb (by simp))⟩
  have hw : w.heap.size ≤ w1.heap.size := h.below.size
  refine ⟨?_, ⟨row_keep h.held.1 hgr fun b e => ne b (h.held.1.lt b e).2 (by rw [h.rH b e]; decide), fun x hx => ?_⟩, by rw [List.length_append, List.map_append]; exact hrow, fun i q hi hq => ?_, fun b e => ?_, fun b e => ?_, fun x hx => ?_, fun i q hi hq b e => ?_⟩
  · exact ⟨hgr.os.trans h.below.os, hgr.tape.trans h.below.tape, hgr.output.trans h.below.output, Nat.le_trans hw hgr.size, fun b hb' => (hgr.block b (Nat.lt_of_lt_of_le hb' hw) (fun e => by have := (h.quiet.lt b e.symm).1; omega)).trans (h.below.block b hb')⟩
  · obtain ⟨a1, a2⟩ := h.rh x hx
    obtain ⟨m1, m2⟩ := h.held.2 x hx
    exact ⟨m1.keep hgr fun b e => ne b (a1 b e).1 (by rw [(a1 b e).2]; decide), m2.keep hgr fun b e => ne b (a2 b e).1 (by rw [(a2 b e).2]; decide)⟩
  · rcases Nat.lt_or_ge i qs.length with hl | hl
    · rw [List.getElem?_append_left hl] at hq
      obtain ⟨ow, l⟩ := h.each i q hi hq
      exact ⟨row_keep ow hgr fun b e => ne b (ow.lt b e).2 (by rw [h.rq i q hi hq b e]; omega), l⟩
    · rw [List.getElem?_append_right hl] at hq
      have hi0 : i - qs.length = 0 := by
        rcases Nat.eq_zero_or_pos (i - qs.length) with h | h
        · exact h
        · rw [List.getElem?_eq_none (by simp; omega)] at hq; cases hq
      rw [hi0] at hq
      simp at hq
      subst hq
      refine ⟨own_le (row_keep (hu.alloc o) hg fun b e => fun e2 => ?_) hw, hL⟩
      have h1 := hvQ b e2.symm
      simp [Value.ownBlock] at e
      omega
  · rw [old b (h.held.1.lt b e).2]; exact h.rH b e
  · rcases hblk with hq | hq
    · rw [hq] at e; rw [old b (hvQ b e)]; exact h.rQ b e
    · rw [hq] at e
      have : b = w2.heap.size + 1 := by rw [← hsa]; exact (Option.some.inj e).symm
      rw [if_neg (by omega), if_neg (by omega)]
  · obtain ⟨a1, a2⟩ := h.rh x hx
    exact ⟨fun b e => ⟨Nat.lt_of_lt_of_le (a1 b e).1 hgr.size, by rw [old b (a1 b e).1]; exact (a1 b e).2⟩, fun b e => ⟨Nat.lt_of_lt_of_le (a2 b e).1 hgr.size, by rw [old b (a2 b e).1]; exact (a2 b e).2⟩⟩
  · rcases Nat.lt_or_ge i qs.length with hl | hl
    · rw [List.getElem?_append_left hl] at hq
      rw [old b ((h.each i q hi hq).1.lt b e).2]; exact h.rq i q hi hq b e
    · rw [List.getElem?_append_right hl] at hq
      have hi0 : i - qs.length = 0 := by
        rcases Nat.eq_zero_or_pos (i - qs.length) with h | h
        · exact h
        · rw [List.getElem?_eq_none (by simp; omega)] at hq; cases hq
      rw [hi0] at hq
      simp at hq
      subst hq
      simp [Value.ownBlock] at e
      subst e
      rw [if_neg (by omega), if_pos rfl]
      omega

/-- One held list more: it was new, or it was the quiet list k. -/
theorem KI.addHeld {w w1 w2 w3 : World} {vH vQ vH' room more : Value} {hs : List Hd} {qs : List Qt} {ρ : Nat → Nat} {k k' : Nat} {mk : Int} {o : Obj} {row gW : Option Nat} (h : KI w w1 vH vQ hs qs ρ k) (hk : k ≤ k')
    (hg1 : w1.grownBy w2 row) (hr : ∀ g, row = some g → w.heap.size ≤ g ∧ (w1.heap.size ≤ g ∨ ∃ i, i < k' ∧ ρ g = 4 + i))
    (hroom : AllM w2 room mk) (hmore : AllM w2 more mk) (br : ∀ g, room.ownBlock = some g → g < w2.heap.size ∧ (w1.heap.size ≤ g ∨ row = some g) ∧ gW ≠ some g) (bm : ∀ g, more.ownBlock = some g → g < w2.heap.size ∧ (w1.heap.size ≤ g ∨ row = some g) ∧ gW ≠ some g) (hW : ∀ g, gW = some g → w1.heap.size ≤ g ∧ g < w2.heap.size)
    (hrow : w3.ownsRow w.heap.size 39 3 vH' (hs.length + 1) (Hd.flat hs ++ Hd.cells (room, more, mk))) (hg : (w2.alloc o).grownBy w3 vH.ownBlock) (hblk : vH'.ownBlock = vH.ownBlock ∨ vH'.ownBlock = some (w2.alloc o).heap.size) :
    ∃ ρ', KI w w3 vH' vQ (hs ++ [(room, more, mk)]) qs ρ' k' ∧ ∀ g, gW = some g → ρ' g = 3 := by
  have hsa : (w2.alloc o).heap.size = w2.heap.size + 1 := by simp
  have hs12 := hg1.size
  have hw : w.heap.size ≤ w1.heap.size := h.below.size
  have g2 : w1.grownBy (w2.alloc o) row := grown_alloc hg1 o
  have hH : ∀ b, vH.ownBlock = some b → b < w1.heap.size := fun b e => (h.held.1.lt b e).2
  obtain ⟨ρ', hρ⟩ : ∃ f : Nat → Nat, f = fun b => if b = (w2.alloc o).heap.size then 0 else if gW = some b then 3 else if b < w1.heap.size ∧ row ≠ some b then ρ b else 2 := ⟨_, rfl⟩
  have old : ∀ b, b < w1.heap.size → row ≠ some b → ρ' b = ρ b := fun b hb hn => by
    rw [hρ]
    simp only
    rw [if_neg (by omega), if_neg (fun e => by have := (hW b e).1; omega), if_pos ⟨hb, hn⟩]
  have nrow : ∀ b, b < w1.heap.size → (∀ i, i < k' → ρ b ≠ 4 + i) → some b ≠ row := fun b hb hn e => by
    rcases (hr b e.symm).2 with h | ⟨i, h1, h2⟩
    · omega
    · exact hn i h1 h2
  have nH : ∀ b, b < w1.heap.size → ρ b ≠ 0 → some b ≠ vH.ownBlock := fun b hb hn e => hn (h.rH b e.symm)
  have keepRow : ∀ {e : TypeId} {size : Nat} {v : Value} {n : Nat} {xs : List Value}, w1.ownsRow w.heap.size e size v n xs → (∀ b, v.ownBlock = some b → (∀ i, i < k' → ρ b ≠ 4 + i) ∧ ρ b ≠ 0) → w3.ownsRow w.heap.size e size v n xs := fun hh hb =>
    row_keep (row_keep hh g2 fun b e => nrow b (hh.lt b e).2 (hb b e).1) hg fun b e => nH b (hh.lt b e).2 (hb b e).2
  have keepM : ∀ {v : Value} {m : Int}, AllM w1 v m → (∀ b, v.ownBlock = some b → b < w1.heap.size ∧ ρ b = 2) → AllM w3 v m := fun hh hb =>
    (hh.keep g2 fun b e => nrow b (hb b e).1 (fun i _ => by rw [(hb b e).2]; omega)).keep hg fun b e => nH b (hb b e).1 (by rw [(hb b e).2]; decide)
  have newM : ∀ {v : Value}, AllM w2 v mk → (∀ g, v.ownBlock = some g → g < w2.heap.size ∧ (w1.heap.size ≤ g ∨ row = some g) ∧ gW ≠ some g) → AllM w3 v mk := fun hh hb =>
    (hh.ext (ext_alloc (Below.refl _ _) o)).keep hg fun b e e2 => by
      have h1 := hH b e2.symm
      rcases (hb b e).2.1 with h | h
      · omega
      · rcases (hr b h).2 with h' | ⟨i, _, h'⟩
        · omega
        · have h0 := KI.rH (self := ‹KI w w1 vH vQ hs qs ρ k›) b e2.symm
          omega
  have newR : ∀ b, b < w2.heap.size → (w1.heap.size ≤ b ∨ row = some b) → gW ≠ some b → ρ' b = 2 := fun b hb ho hn => by
    rw [hρ]
    simp only
    rw [if_neg (by omega), if_neg hn, if_neg (fun e => by rcases ho with h | h; omega; exact e.2 h)]
  have hB : Below w.heap.size w w3 := by
    have a1 := h.below
    refine ⟨hg.os.trans (g2.os.trans a1.os), hg.tape.trans (g2.tape.trans a1.tape), hg.output.trans (g2.output.trans a1.output), Nat.le_trans hw (Nat.le_trans g2.size hg.size), fun b hb => ?_⟩
    have hb1 : b < w1.heap.size := by omega
    rw [hg.block b (Nat.lt_of_lt_of_le hb1 g2.size) (fun e => by have := (h.held.1.lt b e.symm).1; omega), g2.block b hb1 (fun e => by have := (hr b e.symm).1; omega)]
    exact a1.block b hb
  have hs23 : w2.heap.size ≤ w3.heap.size := by have := hg.size; omega
  refine ⟨ρ', ⟨hB, ⟨by rw [List.length_append, Hd.flat_snoc]; exact hrow, fun x hx => ?_⟩, keepRow h.quiet fun b e => ⟨fun i _ => by rw [h.rQ b e]; omega, by rw [h.rQ b e]; decide⟩, fun i q hi hq => ?_, fun b e => ?_, fun b e => ?_, fun x hx => ?_, fun i q hi hq b e => ?_⟩, fun g e => ?_⟩
  · rcases List.mem_append.1 hx with hx | hx
    · obtain ⟨a1, a2⟩ := h.rh x hx
      obtain ⟨m1, m2⟩ := h.held.2 x hx
      exact ⟨keepM m1 a1, keepM m2 a2⟩
    · simp at hx
      subst hx
      exact ⟨newM hroom br, newM hmore bm⟩
  · obtain ⟨ow, l⟩ := h.each i q (Nat.le_trans hk hi) hq
    exact ⟨keepRow ow fun b e => ⟨fun j hj => by rw [h.rq i q (Nat.le_trans hk hi) hq b e]; omega, by rw [h.rq i q (Nat.le_trans hk hi) hq b e]; omega⟩, l⟩
  · rcases hblk with hq | hq
    · rw [hq] at e
      rw [old b (hH b e) (fun e2 => (nrow b (hH b e) (fun i _ => by rw [h.rH b e]; omega)) e2.symm)]
      exact h.rH b e
    · rw [hq] at e
      rw [hρ]
      simp only
      rw [if_pos (Option.some.inj e).symm]
  · have hl := (h.quiet.lt b e).2
    rw [old b hl (fun e2 => (nrow b hl (fun i _ => by rw [h.rQ b e]; omega)) e2.symm)]
    exact h.rQ b e
  · rcases List.mem_append.1 hx with hx | hx
    · obtain ⟨a1, a2⟩ := h.rh x hx
      refine ⟨fun b e => ⟨by have := (a1 b e).1; omega, ?_⟩, fun b e => ⟨by have := (a2 b e).1; omega, ?_⟩⟩
      · rw [old b (a1 b e).1 (fun e2 => (nrow b (a1 b e).1 (fun i _ => by rw [(a1 b e).2]; omega)) e2.symm)]; exact (a1 b e).2
      · rw [old b (a2 b e).1 (fun e2 => (nrow b (a2 b e).1 (fun i _ => by rw [(a2 b e).2]; omega)) e2.symm)]; exact (a2 b e).2
    · simp at hx
      subst hx
      exact ⟨fun b e => ⟨by have := (br b e).1; omega, newR b (br b e).1 (br b e).2.1 (br b e).2.2⟩, fun b e => ⟨by have := (bm b e).1; omega, newR b (bm b e).1 (bm b e).2.1 (bm b e).2.2⟩⟩
  · obtain ⟨ow, _⟩ := h.each i q (Nat.le_trans hk hi) hq
    have hl := (ow.lt b e).2
    have hv := h.rq i q (Nat.le_trans hk hi) hq b e
    rw [old b hl (fun e2 => (nrow b hl (fun j hj => by rw [hv]; omega)) e2.symm)]
    exact hv
  · rw [hρ]
    simp only
    rw [if_neg (by have := (hW g e).2; omega), if_pos e]
end Go.Proofs.Ytahjjpleceppaaa
