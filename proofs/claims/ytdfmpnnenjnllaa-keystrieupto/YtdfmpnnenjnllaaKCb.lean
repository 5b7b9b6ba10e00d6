/- A block of ints that is written cell by cell; three tries in memory. -/
import Derived.Test.YtdfmpnnenjnllaaKDp
import Derived.Test.YtdfmpnnenjnllaaKPutI
import Derived.Test.YtdfmpnnenjnllaaKPutG
import Derived.Test.YtdfmpnnenjnllaaKTag
namespace Go.Proofs.Ytdfmpnnenjnllaa
open Go.RowKit

/-- Block g has cap cells of ints; the first p of them are told by f. -/
def CB (w : World) (g cap p : Nat) (f : Nat → Int) : Prop := ∃ cur : Array Value, w.heap[g]? = some (.cells cur 3 (0, 0)) ∧ cur.size = cap ∧ ∀ i, i < p → cur[i]? = some (.int .i64 (f i))
theorem CB.same {w w' : World} {g cap p : Nat} {f : Nat → Int} (h : CB w g cap p f) (hb : w'.heap[g]? = w.heap[g]?) : CB w' g cap p f := by
  obtain ⟨cur, h1, h2⟩ := h
  exact ⟨cur, hb.trans h1, h2⟩
theorem CB.lt {w : World} {g cap p : Nat} {f : Nat → Int} (h : CB w g cap p f) : g < w.heap.size := by
  obtain ⟨cur, h1, _⟩ := h
  exact (Array.getElem?_eq_some_iff.1 h1).1
theorem CB.ext {w w' : World} {g cap p : Nat} {f : Nat → Int} (h : CB w g cap p f) (hb : Below w.heap.size w w') : CB w' g cap p f := h.same (hb.block g h.lt)
theorem CB.cell {w : World} {g cap p : Nat} {f : Nat → Int} (h : CB w g cap p f) {i : Nat} (hi : i < p) : w.cell? ⟨g, i, none⟩ = some (.int .i64 (f i)) := by
  obtain ⟨cur, h1, _, h3⟩ := h
  rw [cell_of_row _ _ _ _ _ _ h1]
  exact h3 i hi
theorem CB.some {w : World} {g cap p : Nat} {f : Nat → Int} (h : CB w g cap p f) {i : Nat} (hi : i < cap) : ∃ u, w.cell? ⟨g, i, none⟩ = some u := by
  obtain ⟨cur, h1, h2, _⟩ := h
  rw [cell_of_row _ _ _ _ _ _ h1]
  exact ⟨cur[i], Array.getElem?_eq_getElem (by omega)⟩
theorem CB.frz {w : World} {g cap p : Nat} {f : Nat → Int} (h : CB w g cap p f) (i : Nat) : w.frozen? ⟨g, i, none⟩ = false := by
  obtain ⟨cur, h1, _⟩ := h
  simp [World.frozen?, h1]
theorem CB.set {w : World} {g cap p : Nat} {f : Nat → Int} (h : CB w g cap p f) {i : Nat} (hi : i < cap) (hp : i ≤ p) (x : Int) :
    CB (w.setCell ⟨g, i, none⟩ (.int .i64 x)) g cap (max p (i + 1)) (fun j => if j = i then x else f j) ∧ w.grownBy (w.setCell ⟨g, i, none⟩ (.int .i64 x)) (Option.some g) := by
  obtain ⟨cur, h1, h2, h3⟩ := h
  obtain ⟨k1, k2⟩ := set1 h1 i (.int .i64 x)
  refine ⟨⟨_, k1, by simpa using h2, fun j hj => ?_⟩, k2⟩
  by_cases e : j = i
  · subst e
    rw [Array.getElem?_setIfInBounds_self_of_lt (by omega)]
    simp
  · rw [Array.getElem?_setIfInBounds_ne (by omega)]
    simp only [if_neg e]
    exact h3 j (by omega)
theorem CB.mono {w : World} {g cap p : Nat} {f : Nat → Int} (h : CB w g cap p f) {q : Nat} (hq : q ≤ p) {f' : Nat → Int} (hf : ∀ i, i < q → f i = f' i) : CB w g cap q f' := by
  obtain ⟨cur, h1, h2, h3⟩ := h
  exact ⟨cur, h1, h2, fun i hi => by rw [h3 i (by omega), hf i hi]⟩
theorem CB.rd {w : World} {g cap p : Nat} {f : Nat → Int} (h : CB w g cap p f) (hcap : cap ≤ 9223372036854775807) {zs : List Int} (hz : zs.length ≤ p) (hp : p ≤ cap) (hf : ∀ i (hi : i < zs.length), f i = zs[i]) : RdS w (.slice (Option.some ⟨g, 0, none⟩) zs.length cap) zs := by
  refine ⟨⟨_, cap, rfl, by omega, by unfold maxLen; exact hcap, fun _ => ⟨g, 0, rfl, h.lt, fun i hi => ?_⟩⟩, .inr ⟨_, _, _, rfl⟩⟩
  rw [Nat.zero_add, h.cell (by omega), hf i hi]
  simp [hi]
/-- A row of ints of the call's own, as such a block. -/
theorem CB.of {w : World} {base g n c : Nat} {zs : List Int} (h : OwnI w base (.slice (Option.some ⟨g, 0, none⟩) n c) zs) : n = zs.length ∧ zs.length ≤ c ∧ c ≤ 9223372036854775807 ∧ base ≤ g ∧ CB w g c zs.length (fun i => zs[i]?.getD 0) := by
  obtain ⟨h1, h2⟩ := h
  rcases h2 with ⟨e, _⟩ | ⟨g', cap, cur, hv, hb, hg, hn, hc, hs, ht⟩
  · cases e
  · cases hv
    refine ⟨rfl, hn, by unfold maxLen at hc; exact hc, hb, cur, hg, by simpa using hs, fun i hi => ?_⟩
    have : (cur.toList.take (zs.length * 1))[i]? = Option.some (.int .i64 (zs[i]?.getD 0)) := by rw [ht]; simp [hi]
    rw [List.getElem?_take, if_pos (by omega)] at this
    simpa using this

/-- What a block of a trie of numbers holds. -/
def BI (w : World) (b : Nat) (A : Nat → Prop) (N : Nat) (L : List (List Int × Int)) : Prop :=
  ∃ own n ns vs m s, w.heap[b]? = some (.cells #[m, s] 26 (0, 0)) ∧ TeI w own n ns vs m s ∧ Tri ns vs L ∧ ns.length ≤ N ∧ n ≤ N ∧ (∀ k, own k → A k) ∧ ¬ own b ∧ A b ∧ ∀ k, A k → k < w.heap.size
def BG (w : World) (b : Nat) (A : Nat → Prop) (N : Nat) (L : List (List Int × Tg)) : Prop :=
  ∃ own n ns vs m s, w.heap[b]? = some (.cells #[m, s] 29 (0, 0)) ∧ TeG w own n ns vs m s ∧ Tri ns vs L ∧ ns.length ≤ N ∧ n ≤ N ∧ (∀ k, own k → A k) ∧ ¬ own b ∧ A b ∧ ∀ k, A k → k < w.heap.size
theorem lt_same {w w' : World} {A : Nat → Prop} (h : ∀ k, A k → k < w.heap.size) (hb : ∀ k, A k → w'.heap[k]? = w.heap[k]?) : ∀ k, A k → k < w'.heap.size := fun k hk => by
  have h1 := h k hk
  have h2 := hb k hk
  rw [Array.getElem?_eq_getElem h1] at h2
  exact (Array.getElem?_eq_some_iff.1 h2).1
theorem BI.same {w w' : World} {b : Nat} {A : Nat → Prop} {N : Nat} {L : List (List Int × Int)} (h : BI w b A N L) (hb : ∀ k, A k → w'.heap[k]? = w.heap[k]?) : BI w' b A N L := by
  obtain ⟨own, n, ns, vs, m, s, h1, h2, h3, h4, h5, h6, h7, h8, h9⟩ := h
  exact ⟨own, n, ns, vs, m, s, (hb b h8).trans h1, h2.same (fun k hk => hb k (h6 k hk)), h3, h4, h5, h6, h7, h8, lt_same h9 hb⟩
theorem BG.same {w w' : World} {b : Nat} {A : Nat → Prop} {N : Nat} {L : List (List Int × Tg)} (h : BG w b A N L) (hb : ∀ k, A k → w'.heap[k]? = w.heap[k]?) : BG w' b A N L := by
  obtain ⟨own, n, ns, vs, m, s, h1, h2, h3, h4, h5, h6, h7, h8, h9⟩ := h
  exact ⟨own, n, ns, vs, m, s, (hb b h8).trans h1, h2.same (fun k hk => hb k (h6 k hk)), h3, h4, h5, h6, h7, h8, lt_same h9 hb⟩
theorem BI.lt {w : World} {b : Nat} {A : Nat → Prop} {N : Nat} {L : List (List Int × Int)} (h : BI w b A N L) : ∀ k, A k → k < w.heap.size := by obtain ⟨own, n, ns, vs, m, s, h1, h2, h3, h4, h5, h6, h7, h8, h9⟩ := h; exact h9
theorem BG.lt {w : World} {b : Nat} {A : Nat → Prop} {N : Nat} {L : List (List Int × Tg)} (h : BG w b A N L) : ∀ k, A k → k < w.heap.size := by obtain ⟨own, n, ns, vs, m, s, h1, h2, h3, h4, h5, h6, h7, h8, h9⟩ := h; exact h9
theorem BI.mono {w : World} {b : Nat} {A A' : Nat → Prop} {N N' : Nat} {L : List (List Int × Int)} (h : BI w b A N L) (ha : ∀ k, A k → A' k) (hl : ∀ k, A' k → k < w.heap.size) (hN : N ≤ N') : BI w b A' N' L := by
  obtain ⟨own, n, ns, vs, m, s, h1, h2, h3, h4, h5, h6, h7, h8, h9⟩ := h
  exact ⟨own, n, ns, vs, m, s, h1, h2, h3, by omega, by omega, fun k hk => ha k (h6 k hk), h7, ha _ h8, hl⟩
theorem BG.mono {w : World} {b : Nat} {A A' : Nat → Prop} {N N' : Nat} {L : List (List Int × Tg)} (h : BG w b A N L) (ha : ∀ k, A k → A' k) (hl : ∀ k, A' k → k < w.heap.size) (hN : N ≤ N') : BG w b A' N' L := by
  obtain ⟨own, n, ns, vs, m, s, h1, h2, h3, h4, h5, h6, h7, h8, h9⟩ := h
  exact ⟨own, n, ns, vs, m, s, h1, h2, h3, by omega, by omega, fun k hk => ha k (h6 k hk), h7, ha _ h8, hl⟩
theorem BI.put {w : World} {b : Nat} {A : Nat → Prop} {N : Nat} {L : List (List Int × Int)} (h : BI w b A N L) (l : Value) (ks : List Int) (v : Int) (hN : N + ks.length ≤ 1099511627776) (hk : Rd .i64 w l ks) (h64 : ∀ k ∈ ks, In64 k) (hko : ∀ k off nn c, l = .slice (some ⟨k, off, none⟩) nn c → ¬ A k) :
    Calls Try.prog 8 #[.pointer (some ⟨b, 0, none⟩), .int .i64 v, l] w fun e w' => e = .returned (.bool (can L ks)) ∧ BI w' b (Sn w w' A) (N + ks.length + 1) (if can L ks = true then L ++ [(ks, v)] else L) ∧ Kps A w w' := by
  obtain ⟨own, n, ns, vs, m, s, h1, h2, h3, h4, h5, h6, h7, h8, h9⟩ := h
  refine (putI_any b 0 _ _ w m s own n ns vs L l ks v h1 rfl rfl h2 h3 (by omega) (by omega) hk h64 h7 (fun k hk => h9 k (h6 k hk)) (fun k off nn c e => ⟨fun e2 => hko k off nn c e (by rw [e2]; exact h8), fun e2 => hko k off nn c e (h6 k e2)⟩)).mono ?_
  rintro e w' ⟨rfl, m', s', own', ns', vs', g1, g2, g3, g4, g5, g6, g7⟩
  have hs := g5.size
  refine ⟨rfl, ⟨own', _, ns', vs', m', s', g1, g2, g3, by omega, by omega, fun k hk => ⟨(g6 k hk).imp (h6 k) id, g7 k hk⟩, fun e2 => ?_, ⟨.inl h8, by have := h9 b h8; omega⟩, fun k hk => hk.2⟩, g5.mono (fun k _ e => ?_)⟩
  · rcases g6 b e2 with e3 | e3
    · exact h7 e3
    · have := h9 b h8; omega
  · rcases e with rfl | e
    · exact h8
    · exact h6 k e
theorem BG.put {w : World} {b : Nat} {A : Nat → Prop} {N : Nat} {L : List (List Int × Tg)} (h : BG w b A N L) (l : Value) (ks : List Int) (v : Tg) (hN : N + ks.length ≤ 1099511627776) (hk : Rd .i64 w l ks) (h64 : ∀ k ∈ ks, In64 k) (hko : ∀ k off nn c, l = .slice (some ⟨k, off, none⟩) nn c → ¬ A k) :
    Calls Try.prog 9 #[.pointer (some ⟨b, 0, none⟩), tgV v, l] w fun e w' => e = .returned (.bool (can L ks)) ∧ BG w' b (Sn w w' A) (N + ks.length + 1) (if can L ks = true then L ++ [(ks, v)] else L) ∧ Kps A w w' := by
  obtain ⟨own, n, ns, vs, m, s, h1, h2, h3, h4, h5, h6, h7, h8, h9⟩ := h
  refine (putG_any b 0 _ _ w m s own n ns vs L l ks v h1 rfl rfl h2 h3 (by omega) (by omega) hk h64 h7 (fun k hk => h9 k (h6 k hk)) (fun k off nn c e => ⟨fun e2 => hko k off nn c e (by rw [e2]; exact h8), fun e2 => hko k off nn c e (h6 k e2)⟩)).mono ?_
  rintro e w' ⟨rfl, m', s', own', ns', vs', g1, g2, g3, g4, g5, g6, g7⟩
  have hs := g5.size
  refine ⟨rfl, ⟨own', _, ns', vs', m', s', g1, g2, g3, by omega, by omega, fun k hk => ⟨(g6 k hk).imp (h6 k) id, g7 k hk⟩, fun e2 => ?_, ⟨.inl h8, by have := h9 b h8; omega⟩, fun k hk => hk.2⟩, g5.mono (fun k _ e => ?_)⟩
  · rcases g6 b e2 with e3 | e3
    · exact h7 e3
    · have := h9 b h8; omega
  · rcases e with rfl | e
    · exact h8
    · exact h6 k e
theorem BI.look {w : World} {b : Nat} {A : Nat → Prop} {N : Nat} {L : List (List Int × Int)} (h : BI w b A N L) (hN : N ≤ 1099511627776) (l : Value) (ks : List Int) (hk : Rd .i64 w l ks) (h64 : ∀ k ∈ ks, In64 k) :
    Calls Try.prog 12 #[.pointer (some ⟨b, 0, none⟩), l] w fun e w' => e = .returned (.tuple #[.int .i64 ((lkV L ks).getD 0), .int .i64 (lkS L ks)]) ∧ Below w.heap.size w w' := by
  obtain ⟨own, n, ns, vs, m, s, h1, h2, h3, h4, h5, h6, h7, h8, h9⟩ := h
  refine (lookI_any b 0 _ _ w m s own n ns vs L l ks h1 rfl rfl h2 h3 (by omega) hk h64).mono ?_
  rintro e w' ⟨rfl, rfl⟩
  refine ⟨?_, Below.refl _ _⟩
  cases lkV L ks <;> rfl
theorem BG.look {w : World} {b : Nat} {A : Nat → Prop} {N : Nat} {L : List (List Int × Tg)} (h : BG w b A N L) (hN : N ≤ 1099511627776) (l : Value) (ks : List Int) (hk : Rd .i64 w l ks) (h64 : ∀ k ∈ ks, In64 k) :
    Calls Try.prog 13 #[.pointer (some ⟨b, 0, none⟩), l] w fun e w' => e = .returned (.tuple #[vlG (lkV L ks), .int .i64 (lkS L ks)]) ∧ Below w.heap.size w w' := by
  obtain ⟨own, n, ns, vs, m, s, h1, h2, h3, h4, h5, h6, h7, h8, h9⟩ := h
  exact lookG_any b 0 _ _ w m s own n ns vs L l ks h1 rfl rfl h2 h3 (by omega) hk h64
/-- The tags of rows. -/
def tgL (L : List (List Int × Int)) : List (List Int × Tg) := L.map fun r => (r.1, tgOf r.2)
theorem can_tg (L : List (List Int × Int)) (ks : List Int) : can (tgL L) ks = can L ks := by
  unfold can tgL
  congr 2
  rw [List.any_map]
  rfl
theorem lkS_tg (L : List (List Int × Int)) (ks : List Int) : lkS (tgL L) ks = lkS L ks := by
  unfold lkS tgL
  rw [List.any_map, List.any_map]
  rfl
theorem lkV_tg (L : List (List Int × Int)) (ks : List Int) : vlG (lkV (tgL L) ks) = tgV (tgOf ((lkV L ks).getD 0)) := by
  unfold lkV tgL
  rw [List.find?_map]
  have : ((fun (r : List Int × Tg) => r.1 == ks) ∘ fun (r : List Int × Int) => (r.1, tgOf r.2)) = fun r => r.1 == ks := rfl
  rw [this]
  cases L.find? fun r => r.1 == ks <;> rfl
theorem tgL_app (L : List (List Int × Int)) (ks : List Int) (v : Int) : tgL (L ++ [(ks, v)]) = tgL L ++ [(ks, tgOf v)] := by simp [tgL]
end Go.Proofs.Ytdfmpnnenjnllaa
