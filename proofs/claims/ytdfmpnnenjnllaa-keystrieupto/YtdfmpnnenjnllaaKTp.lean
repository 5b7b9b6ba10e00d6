/- A trie of numbers, one of tags and the document's, together. -/
import Derived.Test.YtdfmpnnenjnllaaKCb
namespace Go.Proofs.Ytdfmpnnenjnllaa
open Go.RowKit

structure Tp (w : World) (bt bg br : Nat) (A B C : Nat → Prop) (N : Nat) (L : List (List Int × Int)) : Prop where
  ti : BI w bt A N L
  tg : BG w bg B N (tgL L)
  dt : ∃ vr vv us, DT w br C L vr vv us
  ab : ∀ k, A k → ¬ B k
  ac : ∀ k, A k → ¬ C k
  bc : ∀ k, B k → ¬ C k
  ll : L.length ≤ N
def U3 (A B C : Nat → Prop) : Nat → Prop := fun k => A k ∨ B k ∨ C k
section
variable {w w' : World} {bt bg br : Nat} {A B C : Nat → Prop} {N : Nat} {L : List (List Int × Int)}
theorem Tp.same (h : Tp w bt bg br A B C N L) (hb : ∀ k, U3 A B C k → w'.heap[k]? = w.heap[k]?) : Tp w' bt bg br A B C N L := by
  obtain ⟨vr, vv, us, hd⟩ := h.dt
  exact ⟨h.ti.same (fun k hk => hb k (.inl hk)), h.tg.same (fun k hk => hb k (.inr (.inl hk))), ⟨vr, vv, us, hd.same (fun k hk => hb k (.inr (.inr hk)))⟩, h.ab, h.ac, h.bc, h.ll⟩
theorem Tp.lt (h : Tp w bt bg br A B C N L) : ∀ k, U3 A B C k → k < w.heap.size := by
  obtain ⟨vr, vv, us, hd⟩ := h.dt
  rintro k (hk | hk | hk)
  · exact h.ti.lt k hk
  · exact h.tg.lt k hk
  · exact hd.lt k hk
theorem Tp.ext (h : Tp w bt bg br A B C N L) (hb : Below w.heap.size w w') : Tp w' bt bg br A B C N L := h.same (fun k hk => hb.block k (h.lt k hk))
theorem Tp.mono (h : Tp w bt bg br A B C N L) {N' : Nat} (hN : N ≤ N') : Tp w bt bg br A B C N' L :=
  ⟨h.ti.mono (fun _ h => h) h.ti.lt hN, h.tg.mono (fun _ h => h) h.tg.lt hN, h.dt, h.ab, h.ac, h.bc, Nat.le_trans h.ll hN⟩
theorem Tp.uni (h : Tp w bt bg br A B C N L) : ∀ r ∈ L, ∀ s ∈ L, r.1 <+: s.1 → r = s := by
  obtain ⟨own, n, ns, vs, m, s, h1, h2, h3, _⟩ := h.ti
  exact h3.uni
/-- Behind the three Puts. -/
theorem Tp.puts {y1 y2 y3 y4 : World} {N1 : Nat} {L1 : List (List Int × Int)} (h : Tp w bt bg br A B C N L) (b1 : BI y1 bt (Sn w y1 A) N1 L1) (k1 : Kps A w y1) (e2 : Below y1.heap.size y1 y2) (b3 : BG y3 bg (Sn y2 y3 B) N1 (tgL L1)) (k3 : Kps B y2 y3) (d4 : RP y3 y4 br C L1) (hl : L1.length ≤ N1) :
    Tp y4 bt bg br (Sn w y1 A) (Sn y2 y3 B) (Sn y3 y4 C) N1 L1 ∧ Kps (U3 A B C) w y4 ∧ ∀ k, U3 (Sn w y1 A) (Sn y2 y3 B) (Sn y3 y4 C) k → U3 A B C k ∨ w.heap.size ≤ k := by
  obtain ⟨vr', vv', us', hd4, k4⟩ := d4
  have s1 := k1.size
  have s2 := e2.size
  have s3 := k3.size
  have s4 := k4.size
  have la := h.ti.lt
  have lb := h.tg.lt
  have lc : ∀ k, C k → k < w.heap.size := fun k hk => h.lt k (.inr (.inr hk))
  refine ⟨⟨b1.same (fun k hk => ?_), b3.same (fun k hk => ?_), ⟨_, _, _, hd4⟩, ?_, ?_, ?_, hl⟩, ?_, ?_⟩
  · have hn : ¬ B k ∧ ¬ C k := by
      rcases hk.1 with ha | ha
      · exact ⟨h.ab k ha, h.ac k ha⟩
      · exact ⟨fun e => by have := lb k e; omega, fun e => by have := lc k e; omega⟩
    have := hk.2
    rw [k4.same k (by omega) hn.2, k3.same k (by omega) hn.1, e2.block k (by omega)]
  · have hn : ¬ C k := by
      rcases hk.1 with ha | ha
      · exact h.bc k ha
      · exact fun e => by have := lc k e; omega
    exact k4.same k hk.2 hn
  · rintro k ⟨ha, ha2⟩ ⟨hb, hb2⟩
    rcases ha with ha | ha <;> rcases hb with hb | hb
    · exact h.ab k ha hb
    · have := la k ha; omega
    · have := lb k hb; omega
    · omega
  · rintro k ⟨ha, ha2⟩ ⟨hb, hb2⟩
    rcases ha with ha | ha <;> rcases hb with hb | hb
    · exact h.ac k ha hb
    · have := la k ha; omega
    · have := lc k hb; omega
    · omega
  · rintro k ⟨ha, ha2⟩ ⟨hb, hb2⟩
    rcases ha with ha | ha <;> rcases hb with hb | hb
    · exact h.bc k ha hb
    · have := lb k ha; omega
    · have := lc k hb; omega
    · omega
  · refine Kps.trans (Kps.trans (Kps.trans (o := U3 A B C) (k1.mono (fun _ _ e => .inl e)) (Kps.of_below (fun _ => False) e2) (fun _ _ e => e.elim)) k3 (fun _ _ e => .inr (.inl e))) k4 (fun _ _ e => .inr (.inr e))
  · rintro k (⟨hk, _⟩ | ⟨hk, _⟩ | ⟨hk, _⟩)
    · rcases hk with hk | hk
      · exact .inl (.inl hk)
      · exact .inr hk
    · rcases hk with hk | hk
      · exact .inl (.inr (.inl hk))
      · right; omega
    · rcases hk with hk | hk
      · exact .inl (.inr (.inr hk))
      · right; omega
end
/-- What looked leaves. -/
def LP (w w' : World) (bt bg br : Nat) (A B C : Nat → Prop) (N : Nat) : Prop := ∃ A' B' C' L, Tp w' bt bg br A' B' C' N L ∧ Kps (U3 A B C) w w' ∧ ∀ k, U3 A' B' C' k → U3 A B C k ∨ w.heap.size ≤ k
end Go.Proofs.Ytdfmpnnenjnllaa
