/- Registers: what a register holds: a chain of parts. -/
import Derived.Test.YtmldfjhfgaggpaaGClo
namespace Go.Proofs.Ytmldfjhfgaggpaa
open Go.RowKit
variable {F : Nat → Prop}

def Off (v : Value) (b : Nat) : Prop := ∀ g off n c, v = .slice (some ⟨g, off, none⟩) n c → g ≠ b
theorem OwnI.off {w : World} {base b : Nat} {v : Value} {zs : List Int} (h : OwnI w base v zs) (hb : b < base) : Off v b := by
  intro g off n c e
  rcases h.2 with ⟨rfl, _⟩ | ⟨g', cap, cur, rfl, hg, _⟩
  · cases e
  · cases e; omega
/-- The block of a slice that is read has not turned. -/
theorem RdS.stay {w w' : World} {v : Value} {t : List Int} (h : RdS w v t) (hsz : w.heap.size ≤ w'.heap.size) (hs : t ≠ [] → ∀ g off n c, v = .slice (some ⟨g, off, none⟩) n c → w'.heap[g]? = w.heap[g]?) : RdS w' v t := by
  obtain ⟨⟨ao, cap, hv, h1, h2, h3⟩, hl⟩ := h
  refine ⟨⟨ao, cap, hv, h1, h2, fun hn => ?_⟩, hl⟩
  obtain ⟨b, off, rfl, hb, hc⟩ := h3 hn
  refine ⟨b, off, rfl, Nat.lt_of_lt_of_le hb hsz, fun i hi => ?_⟩
  rw [← hc i hi]
  unfold World.cell?
  simp only [hs hn b off t.length cap hv]
theorem RdS.notmap {w : World} {v : Value} {t : List Int} (h : RdS w v t) (hn : t ≠ []) {g off n c : Nat} (e : v = .slice (some ⟨g, off, none⟩) n c) : g < w.heap.size ∧ ∀ es cl, w.heap[g]? ≠ some (.map es cl) := by
  obtain ⟨b, off', c', hv, hb, _, _, hc⟩ := h.last hn
  rw [e] at hv
  cases hv
  refine ⟨hb, fun es cl hm => ?_⟩
  have := hc 0 (List.length_pos_iff.2 hn)
  simp [World.cell?, hm] at this

/-- The text of parts, the last one first. -/
def flt : List (List Int) → List Int
  | [] => []
  | p :: ps => flt ps ++ p
/-- A chain of parts, the last one first, in blocks that are none of F's. -/
def Chn (F : Nat → Prop) (w : World) : List (List Int) → Value → Prop
  | [], v => v = .pointer none
  | p :: ps, v => ∃ g a u, v = .pointer (some ⟨g, 0, none⟩) ∧ w.heap[g]? = some (.cells #[a, u] 89 (0, 0)) ∧ ¬ F g ∧ RdS w u p ∧ (∀ q, F q → Off u q) ∧ p ≠ [] ∧ Chn F w ps a
theorem Chn.stay {w w' : World} {F' : Nat → Prop} (hsz : w.heap.size ≤ w'.heap.size) (hs : ∀ g, g < w.heap.size → ¬ F g → (∀ es cl, w.heap[g]? ≠ some (.map es cl)) → w'.heap[g]? = w.heap[g]?) (hF : ∀ q, F' q → F q ∨ w.heap.size ≤ q) :
    ∀ (ps : List (List Int)) (v : Value), Chn F w ps v → Chn F' w' ps v := by
  intro ps
  induction ps with
  | nil => intro v h; exact h
  | cons p ps ih =>
    intro v h
    obtain ⟨g, a, u, h1, h2, h3, h4, h5, h6, h7⟩ := h
    have hlt := (Array.getElem?_eq_some_iff.1 h2).1
    have ho : ∀ q, F' q → Off u q := fun q hq g' off n c e => by
      rcases hF q hq with hq | hq
      · exact h5 q hq g' off n c e
      · have := (h4.notmap h6 e).1; omega
    refine ⟨g, a, u, h1, (hs g hlt h3 (fun es cl e => by rw [h2] at e; cases e)).trans h2, fun hq => ?_, ?_, ho, h6, ih _ h7⟩
    · rcases hF g hq with hq | hq
      · exact h3 hq
      · omega
    · exact h4.stay hsz (fun _ g' off n c e => hs g' (h4.notmap h6 e).1 (fun hf => h5 g' hf g' off n c e rfl) (h4.notmap h6 e).2)
/-- What is held at an address: its text. -/
def Hg (F : Nat → Prop) (w : World) (v : Value) (t : List Int) : Prop := ∃ ps, Chn F w ps v ∧ flt ps = t
theorem Hg.ext {w w' : World} {v : Value} {t : List Int} (h : Hg F w v t) (hb : Below w.heap.size w w') : Hg F w' v t := by
  obtain ⟨ps, h1, h2⟩ := h
  exact ⟨ps, Chn.stay hb.size (fun g hg _ _ => hb.block g hg) (fun q h => .inl h) _ _ h1, h2⟩
theorem Hg.avoid {w w' : World} {F' : Nat → Prop} {v : Value} {t : List Int} (h : Hg F w v t) (hb : Below w.heap.size w w') (hF : ∀ q, F' q → F q ∨ w.heap.size ≤ q) : Hg F' w' v t := by
  obtain ⟨ps, h1, h2⟩ := h
  exact ⟨ps, Chn.stay hb.size (fun g hg _ _ => hb.block g hg) hF _ _ h1, h2⟩
theorem Hg.weak {w : World} {F' : Nat → Prop} {v : Value} {t : List Int} (h : Hg F w v t) (hF : ∀ q, F' q → F q) : Hg F' w v t := h.avoid (Below.refl _ _) (fun q h => .inl (hF q h))
theorem Hg.other {w w' : World} {q : Nat} {v : Value} {t : List Int} (h : Hg F w v t) (hg : w.grownBy w' (some q)) (hq : F q ∨ ∃ es cl, w.heap[q]? = some (.map es cl)) : Hg F w' v t := by
  obtain ⟨ps, h1, h2⟩ := h
  refine ⟨ps, Chn.stay hg.size (fun g hlt hf hm => hg.block g hlt (fun e => ?_)) (fun q h => .inl h) _ _ h1, h2⟩
  cases e
  rcases hq with hq | ⟨es, cl, hq⟩
  · exact hf hq
  · exact hm es cl hq
theorem flt_nil {ps : List (List Int)} {v : Value} {w : World} (h : Chn F w ps v) (hn : flt ps = []) : v = .pointer none := by
  cases ps with
  | nil => exact h
  | cons p ps =>
    obtain ⟨g, a, u, _, _, _, _, _, h6, _⟩ := h
    simp [flt] at hn
    exact absurd hn.2 h6
theorem Hg.form {w : World} {v : Value} {t : List Int} (h : Hg F w v t) : ∃ a, v = .pointer a := by
  obtain ⟨ps, h1, _⟩ := h
  cases ps with
  | nil => exact ⟨none, h1⟩
  | cons p ps => obtain ⟨g, a, u, h1, _⟩ := h1; exact ⟨_, h1⟩
/-- A part is laid behind. -/
theorem Hg.snoc {w' : World} {g : Nat} {a u : Value} {s t : List Int} (h : Hg F w' a s) (hg : w'.heap[g]? = some (.cells #[a, u] 89 (0, 0))) (hf : ¬ F g) (hu : RdS w' u t) (ho : ∀ q, F q → Off u q) (ht : t ≠ []) : Hg F w' (.pointer (some ⟨g, 0, none⟩)) (s ++ t) := by
  obtain ⟨ps, h1, rfl⟩ := h
  exact ⟨t :: ps, ⟨g, a, u, rfl, hg, hf, hu, ho, ht, h1⟩, rfl⟩
theorem Hg.nil {w : World} : Hg F w (.pointer none) [] := ⟨[], rfl, rfl⟩
end Go.Proofs.Ytmldfjhfgaggpaa
