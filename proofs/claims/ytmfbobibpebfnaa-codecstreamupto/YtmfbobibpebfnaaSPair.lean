/- A stream of the program and the document's beside it. -/
import Derived.Test.YtmfbobibpebfnaaSRef
namespace Go.Proofs.Ytmfbobibpebfnaa
open Go.RowKit

theorem Cx.fd_told (enc : Int) (all d : List Int) : (Cx.fd enc ((Cx.fd enc all).2 ++ d)).1 = (Cx.fd enc (all ++ d)).1.drop (Cx.fd enc all).1.length ∧ (Cx.fd enc ((Cx.fd enc all).2 ++ d)).2 = (Cx.fd enc (all ++ d)).2 := by
  rw [Cx.fd_app enc _ all d (Nat.le_refl _)]
  simp
theorem Cx.fd_end (enc : Int) (all : List Int) : Cx.dec enc (Cx.fd enc all).2 = (Cx.dec enc all).drop (Cx.fd enc all).1.length := by
  have := (Cx.fd_dec enc _ all (Nat.le_refl _)).1 []
  rw [List.append_nil, List.append_nil] at this
  rw [this]
  simp
theorem Cx.fd_byt (enc : Int) (all : List Int) (h : Byt all) : Byt (Cx.fd enc all).2 := by
  obtain ⟨n, hn⟩ := (Cx.fd_dec enc _ all (Nat.le_refl _)).2.2.2.1
  rw [hn]
  exact h.drop n
theorem Cx.fd_nil (enc : Int) : Cx.fd enc [] = ([], []) := Cx.fd_stop enc [] (.inl rfl)

/-- Both were fed all. P: the blocks of the two. -/
def Pr (P : Nat → Prop) (w : World) (g q : Nat) (enc : Int) (all : List Int) : Prop :=
  Cx.known enc = true ∧ Byt all ∧ P g ∧ St w g enc (Cx.fd enc all).2 ∧ Rf (fun k => P k ∧ k ≠ g) w q enc all (Cx.fd enc all).1.length
/-- The program's has been fed d besides. -/
def Ph (P : Nat → Prop) (w : World) (g q : Nat) (enc : Int) (all d : List Int) : Prop :=
  Cx.known enc = true ∧ Byt (all ++ d) ∧ P g ∧ St w g enc (Cx.fd enc (all ++ d)).2 ∧ Rf (fun k => P k ∧ k ≠ g) w q enc all (Cx.fd enc all).1.length
/-- The program's has ended. -/
def Pe (P : Nat → Prop) (w : World) (g q : Nat) (enc : Int) (all : List Int) : Prop :=
  Cx.known enc = true ∧ Byt all ∧ P g ∧ St w g enc [] ∧ Rf (fun k => P k ∧ k ≠ g) w q enc all (Cx.fd enc all).1.length
section
variable {P P' o : Nat → Prop} {w w' w1 : World} {g q : Nat} {enc : Int} {all d : List Int}
theorem St.kps {h : List Int} (s : St w g enc h) (k : Kps o w w') (hg : ¬ o g) : St w' g enc h := by
  have hl := s.lt
  obtain ⟨x, hg', h1, h2⟩ := s
  exact ⟨x, by rw [k.same g hl hg]; exact hg', h1, h2⟩
theorem Pr.kps (h : Pr P w g q enc all) (k : Kps o w w') (ho : ∀ i, i < w.heap.size → P i → ¬ o i) : Pr P w' g q enc all :=
  ⟨h.1, h.2.1, h.2.2.1, h.2.2.2.1.kps k (ho g h.2.2.2.1.lt h.2.2.1), h.2.2.2.2.kps k (fun i hi e => ho i hi e.1)⟩
theorem Pr.ext (h : Pr P w g q enc all) (hb : Below w.heap.size w w') : Pr P w' g q enc all := h.kps (Kps.of_below (fun _ => False) hb) (fun _ _ _ e => e)
theorem Pr.mono (h : Pr P w g q enc all) (hp : ∀ k, k < w.heap.size → P k → P' k) : Pr P' w g q enc all :=
  ⟨h.1, h.2.1, hp g h.2.2.2.1.lt h.2.2.1, h.2.2.2.1, h.2.2.2.2.mono (fun k hk e => ⟨hp k hk e.1, e.2⟩)⟩
theorem Pr.feed (h : Pr P w g q enc all) (hs : St w1 g enc (Cx.fd enc ((Cx.fd enc all).2 ++ d)).2) (hg : w.grownBy w1 (some g)) (hd : Byt d) : Ph P w1 g q enc all d ∧ Kps P w w1 := by
  have k : Kps (fun i => i = g) w w1 := Kps.grown hg (fun k e _ => by cases e; rfl)
  rw [(Cx.fd_told enc all d).2] at hs
  exact ⟨⟨h.1, byt_app h.2.1 hd, h.2.2.1, hs, h.2.2.2.2.kps k (fun i _ e e2 => e.2 e2)⟩, k.mono (fun i _ e => e ▸ h.2.2.1)⟩
theorem Ph.feed (h : Ph P w g q enc all d) (hr : Rf (fun k => (P k ∧ k ≠ g) ∨ w.heap.size ≤ k) w1 q enc (all ++ d) (Cx.fd enc (all ++ d)).1.length) (hk : Kps (fun k => P k ∧ k ≠ g) w w1) : Pr (fun k => P k ∨ w.heap.size ≤ k) w1 g q enc (all ++ d) ∧ Kps P w w1 := by
  have hl := h.2.2.2.1.lt
  exact ⟨⟨h.1, h.2.1, .inl h.2.2.1, h.2.2.2.1.kps hk (fun e => e.2 rfl), hr.mono (fun k _ e => e.elim (fun e => ⟨.inl e.1, e.2⟩) (fun e => ⟨.inr e, by omega⟩))⟩, hk.mono (fun i _ e => e.1)⟩
theorem Pr.close (h : Pr P w g q enc all) (hs : St w1 g enc []) (hg : w.grownBy w1 (some g)) : Pe P w1 g q enc all ∧ Kps P w w1 := by
  have k : Kps (fun i => i = g) w w1 := Kps.grown hg (fun k e _ => by cases e; rfl)
  exact ⟨⟨h.1, h.2.1, h.2.2.1, hs, h.2.2.2.2.kps k (fun i _ e e2 => e.2 e2)⟩, k.mono (fun i _ e => e ▸ h.2.2.1)⟩
theorem Pe.close (h : Pe P w g q enc all) (hr : Rf (fun k => P k ∧ k ≠ g) w1 q enc [] 0) (hk : Kps (fun k => P k ∧ k ≠ g) w w1) : Pr P w1 g q enc [] ∧ Kps P w w1 := by
  refine ⟨⟨h.1, (by intro x hx; cases hx), h.2.2.1, ?_, ?_⟩, hk.mono (fun i _ e => e.1)⟩
  · rw [Cx.fd_nil]; exact h.2.2.2.1.kps hk (fun e => e.2 rfl)
  · rw [Cx.fd_nil]; exact hr
theorem Pr.rdl (h : Pr P w g q enc all) : g < w.heap.size ∧ q < w.heap.size := ⟨h.2.2.2.1.lt, h.2.2.2.2.lt⟩
end
/-- The document's Feed and Close beside the program's. -/
theorem ph_feed {P : Nat → Prop} {w : World} {g q : Nat} {enc : Int} {all d : List Int} {v : Value} (h : Ph P w g q enc all d) (hr : ∀ w', Kps P w w' → Rd .u8 w' v d) (hz : (all.length + d.length) * 8 ≤ 140737488355328) :
    Calls Try.prog 16 #[.pointer (some ⟨q, 0, none⟩), v] w fun e w' => ∃ v', e = .returned v' ∧ Rd .i64 w' v' ((Cx.fd enc (all ++ d)).1.drop (Cx.fd enc all).1.length) ∧ Pr (fun k => P k ∨ w.heap.size ≤ k) w' g q enc (all ++ d) ∧ Kps (fun k => P k ∧ k ≠ g) w w' := by
  refine (rFeed_any w q enc h.1 all d v h.2.2.2.2 (fun w' k => hr w' (k.mono (fun _ _ e => e.1))) h.2.1 hz).mono ?_
  rintro e w1 ⟨v', rfl, h1, h2, h3⟩
  exact ⟨v', rfl, h1, (h.feed h2 h3).1, h3⟩
theorem pr_feed {P : Nat → Prop} {w : World} {g q : Nat} {enc : Int} {all d : List Int} {v : Value} (h : Pr P w g q enc all) (hr : Rd .u8 w v d) (sl : Sl v) (hd : Byt d) (hz : d.length ≤ 1048576) :
    Calls Try.prog 13 #[.pointer (some ⟨g, 0, none⟩), v] w fun e w' => ∃ v', e = .returned v' ∧ w'.ownsRow w.heap.size 3 1 v' ((Cx.fd enc (all ++ d)).1.drop (Cx.fd enc all).1.length).length (((Cx.fd enc (all ++ d)).1.drop (Cx.fd enc all).1.length).map (Value.int .i64)) ∧ Ph P w' g q enc all d ∧ w.grownBy w' (some g) := by
  refine (Feed_any enc ((Cx.known_iff enc).1 h.1) w g (Cx.fd enc all).2 d v h.2.2.2.1 hr sl (byt_app (Cx.fd_byt enc all h.2.1) hd) hz).mono ?_
  rintro e w1 ⟨v', rfl, h1, h2, h3⟩
  rw [(Cx.fd_told enc all d).1] at h1
  exact ⟨v', rfl, h1, (h.feed h2 h3 hd).1, h3⟩
theorem pr_close {P : Nat → Prop} {w : World} {g q : Nat} {enc : Int} {all : List Int} (h : Pr P w g q enc all) :
    Calls Try.prog 22 #[.pointer (some ⟨g, 0, none⟩)] w fun e w' => ∃ v', e = .returned v' ∧ w'.ownsRow w.heap.size 3 1 v' ((Cx.dec enc all).drop (Cx.fd enc all).1.length).length (((Cx.dec enc all).drop (Cx.fd enc all).1.length).map (Value.int .i64)) ∧ Pe P w' g q enc all ∧ w.grownBy w' (some g) := by
  refine (Close_any enc ((Cx.known_iff enc).1 h.1) w g (Cx.fd enc all).2 h.2.2.2.1 (Cx.fd_byt enc all h.2.1)).mono ?_
  rintro e w1 ⟨v', rfl, h1, h2, h3⟩
  rw [Cx.fd_end enc all] at h1
  exact ⟨v', rfl, h1, (h.close h2 h3).1, h3⟩
theorem pe_close {P : Nat → Prop} {w : World} {g q : Nat} {enc : Int} {all : List Int} (h : Pe P w g q enc all) (hz : all.length * 8 ≤ 140737488355328) :
    Calls Try.prog 23 #[.pointer (some ⟨q, 0, none⟩)] w fun e w' => ∃ v', e = .returned v' ∧ Rd .i64 w' v' ((Cx.dec enc all).drop (Cx.fd enc all).1.length) ∧ Pr P w' g q enc [] ∧ Kps (fun k => P k ∧ k ≠ g) w w' := by
  refine (rClose_any w q enc h.1 all h.2.2.2.2 h.2.1 hz).mono ?_
  rintro e w1 ⟨v', rfl, h1, h2, h3⟩
  exact ⟨v', rfl, h1, (h.close h2 h3).1, h3⟩
theorem pr_held {P : Nat → Prop} {w : World} {g q : Nat} {enc : Int} {all : List Int} (h : Pr P w g q enc all) :
    Calls Try.prog 20 #[.pointer (some ⟨g, 0, none⟩)] w fun e w' => e = .returned (.int .i64 (Cx.fd enc all).2.length) ∧ w' = w := Held_any w g enc _ h.2.2.2.1
theorem pr_rheld {P : Nat → Prop} {w : World} {g q : Nat} {enc : Int} {all : List Int} (h : Pr P w g q enc all) (hz : all.length ≤ 4611686018427387000) :
    Calls Try.prog 21 #[.pointer (some ⟨q, 0, none⟩)] w fun e w' => e = .returned (.int .i64 (Cx.fd enc all).2.length) ∧ Below w.heap.size w w' := rHeld_any w q enc all _ h.2.2.2.2 h.2.1 hz
/-- A row of ints stays where a block of another type has turned. -/
theorem rdi_stay {o : Nat → Prop} {w w' : World} {base n : Nat} {v : Value} {zs : List Int} (h : w.ownsRow base 3 1 v n (zs.map (Value.int .i64))) (k : Kps o w w') (ho : ∀ i, base ≤ i → i < w.heap.size → ¬ o i) : Rd .i64 w' v zs :=
  Rd.of_own (own_stay h (fun g e => k.same g (own_lt h e) (ho g (own_blk h e).1 (own_lt h e))))
end Go.Proofs.Ytmfbobibpebfnaa
