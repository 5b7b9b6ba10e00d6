import Derived.Test.YtmfbobibpebfnaaGreatJ19
/- A stream of the program and the document's beside it. -/
namespace Go.Proofs.YtmfbobibpebfnaaGreat
open Go.RowKit

theorem Cx.fd_told (enc : Int) (all d : List Int) : (Cx.fd enc ((Cx.fd enc all).2 ++ d)).1 = (Cx.fd enc (all ++ d)).1.drop (Cx.fd enc all).1.length ∧ (Cx.fd enc ((Cx.fd enc all).2 ++ d)).2 = (Cx.fd enc (all ++ d)).2 := by
  rw [Cx.fd_app enc _ all d (Nat.le_refl _)]
  simp
theorem Cx.fd_end (enc : Int) (all : List Int) : Cx.dec enc (Cx.fd enc all).2 = (Cx.dec enc all).drop (Cx.fd enc all).1.length := by
  have := (Cx.fd_dec enc _ all (Nat.le_refl _)).1 []
  rw [List.append_nil, List.append_nil] at this
  rw [this]
  simp
theorem Cx.fd_byt (enc : Int) (all : List Int) (h : Byt all) : Byt (Cx.fd enc all).2 := by
  obtain ⟨n, hn⟩ := (Cx.fd_dec enc _ all (Nat.le_refl _)).2.2.2.1
  rw [hn]
  exact h.drop n
theorem Cx.fd_nil (enc : Int) : Cx.fd enc [] = ([], []) := Cx.fd_stop enc [] (.inl rfl)

/-- Both were fed all. P: the blocks of the two. -/
def Pr (P : Nat → Prop) (w : World) (g q : Nat) (enc : Int) (all : List Int) : Prop :=
  Cx.known enc = true ∧ Byt all ∧ P g ∧ St w g enc (Cx.fd enc all).2 ∧ Rf (fun k => P k ∧ k ≠ g) w q enc all (Cx.fd enc all).1.length
/-- The program's has been fed d besides. -/
def Ph (P : Nat → Prop) (w : World) (g q : Nat) (enc : Int) (all d : List Int) : Prop :=
  Cx.known enc = true ∧ Byt (all ++ d) ∧ P g ∧ St w g enc (Cx.fd enc (all ++ d)).2 ∧ Rf (fun k => P k ∧ k ≠ g) w q enc all (Cx.fd enc all).1.length
/-- The program's has ended. -/
def Pe (P : Nat → Prop) (w : World) (g q : Nat) (enc : Int) (all : List Int) : Prop :=
  Cx.known enc = true ∧ Byt all ∧ P g ∧ St w g enc [] ∧ Rf (fun k => P k ∧ k ≠ g) w q enc all (Cx.fd enc all).1.length
section
variable {P P' o : Nat → Prop} {w w' w1 : World} {g q : Nat} {enc : Int} {all d : List Int}
theorem St.kps {h : List Int} (s : St w g enc h) (k : Kps o w w') (hg : ¬ o g) : St w' g enc h := by
  have hl := s.lt
  obtain ⟨x, hg', h1, h2⟩ := s
  exact ⟨x, by rw [k.same g hl hg]; exact hg', h1, h2⟩
theorem Pr.kps (h : Pr P w g q enc all) (k : Kps o w w') (ho : ∀ i, i < w.heap.size → P i → ¬ o i) : Pr P w' g q enc all :=
  ⟨h.1, h.2.1, h.2.2.1, h.2.2.2.1.kps k (ho g h.2.2.2.1.lt h.2.2.1), h.2.2.2.2.kps k (fun i hi e => ho i hi e.1)⟩
theorem Pr.ext (h : Pr P w g q enc all) (hb : Below w.heap.size w w') : Pr P w' g q enc all := h.kps (Kps.of_below (fun _ => False) hb) (fun _ _ _ e => e)
theorem Pr.mono (h : Pr P w g q enc all) (hp : ∀ k, k < w.heap.size → P k → P' k) : Pr P' w g q enc all :=
  ⟨h.1, h.2.1, hp g h.2.2.2.1.lt h.2.2.1, h.2.2.2.1, h.2.2.2.2.mono (fun k hk e => ⟨hp k hk e.1, e.2⟩)⟩
theorem Pr.feed (h : Pr P w g q enc all) (hs : St w1 g enc (Cx.fd enc ((Cx.fd enc all).2 ++ d)).2) (hg : w.grownBy w1 (some g)) (hd : Byt d) : Ph P w1 g q enc all d ∧ Kps P w w1 := by
  have k : Kps (fun i => i = g) w w1 := Kps.grown hg (fun k e _ => by cases e; rfl)
  rw [(Cx.fd_told enc all d).2] at hs
  exact ⟨⟨h.1, byt_app h.2.1 hd, h.2.2.1, hs, h.2.2.2.2.kps k (fun i _ e e2 => e.2 e2)⟩, k.mono (fun i _ e => e ▸ h.2.2.1)⟩
theorem Ph.feed (h : Ph P w g q enc all d) (hr : Rf (fun k => (P k ∧ k ≠ g) ∨ w.heap.size ≤ k) w1 q enc (all ++ d) (Cx.fd enc (all ++ d)).1.length) (hk : Kps (fun k => P k ∧ k ≠ g) w w1) : Pr (fun k => P k ∨ w.heap.size ≤ k) w1 g q enc (all ++ d) ∧ Kps P w w1 := by
  have hl := h.2.2.2.1.lt
  exact ⟨⟨h.1, h.2.1, .inl h.2.2.1, h.2.2.2.1.kps hk (fun e => e.2 rfl), hr.mono (fun k _ e => e.elim (fun e => ⟨.inl e.1, e.2⟩) (fun e => ⟨.inr e, by omega⟩))⟩, hk.mono (fun i _ e => e.1)⟩
theorem Pr.close (h : Pr P w g q enc all) (hs : St w1 g enc []) (hg : w.grownBy w1 (some g)) : Pe P w1 g q enc all ∧ Kps P w w1 := by
  have k : Kps (fun i => i = g) w w1 := Kps.grown hg (fun k e _ => by cases e; rfl)
  exact ⟨⟨h.1, h.2.1, h.2.2.1, hs, h.2.2.2.2.kps k (fun i _ e e2 => e.2 e2)⟩, k.mono (fun i _ e => e ▸ h.2.2.1)⟩
theorem Pe.close (h : Pe P w g q enc all) (hr : Rf (fun k => P k ∧ k ≠ g) w1 q enc [] 0) (hk : Kps (fun k => P k ∧ k ≠ g) w w1) : Pr P w1 g q enc [] ∧ Kps P w w1 := by
  refine ⟨⟨h.1, (by intro x hx; cases hx), h.2.2.1, ?_, ?_⟩, hk.mono (fun i _ e => e.1)⟩
  · rw [Cx.fd_nil]; exact h.2.2.2.1.kps hk (fun e => e.2 rfl)
  · rw [Cx.fd_nil]; exact hr
theorem Pr.rdl (h : Pr P w g q enc all) : g < w.heap.size ∧ q < w.heap.size := ⟨h.2.2.2.1.lt, h.2.2.2.2.lt⟩
end
/-- The document's Feed and Close beside the program's. -/
theorem ph_feed {P : Nat → Prop} {w : World} {g q : Nat} {enc : Int} {all d : List Int} {v : Value} (h : Ph P w g q enc all d) (hr : ∀ w', Kps P w w' → Rd .u8 w' v d) (hz : (all.length + d.length) * 8 ≤ 140737488355328) :
    Calls Tryz.prog 17 #[.pointer (some ⟨q, 0, none⟩), v] w fun e w' => ∃ v', e = .returned v' ∧ Rd .i64 w' v' ((Cx.fd enc (all ++ d)).1.drop (Cx.fd enc all).1.length) ∧ Pr (fun k => P k ∨ w.heap.size ≤ k) w' g q enc (all ++ d) ∧ Kps (fun k => P k ∧ k ≠ g) w w' := by
  refine (rFeed_any w q enc h.1 all d v h.2.2.2.2 (fun w' k => hr w' (k.mono (fun _ _ e => e.1))) h.2.1 hz).mono ?_
  rintro e w1 ⟨v', rfl, h1, h2, h3⟩
  exact ⟨v', rfl, h1, (h.feed h2 h3).1, h3⟩
theorem pr_feed {P : Nat → Prop} {w : World} {g q : Nat} {enc : Int} {all d : List Int} {v : Value} (h : Pr P w g q enc all) (hr : Rd .u8 w v d) (sl : Sl v) (hd : Byt d) (hz : d.length ≤ 1048576) :
    Calls Tryz.prog 14 #[.pointer (some ⟨g, 0, none⟩), v] w fun e w' => ∃ v', e = .returned v' ∧ w'.ownsRow w.heap.size 3 1 v' ((Cx.fd enc (all ++ d)).1.drop (Cx.fd enc all).1.length).length (((Cx.fd enc (all ++ d)).1.drop (Cx.fd enc all).1.length).map (Value.int .i64)) ∧ Ph P w' g q enc all d ∧ w.grownBy w' (some g) := by
  refine (Feed_any enc ((Cx.known_iff enc).1 h.1) w g (Cx.fd enc all).2 d v h.2.2.2.1 hr sl (byt_app (Cx.fd_byt enc all h.2.1) hd) hz).mono ?_
  rintro e w1 ⟨v', rfl, h1, h2, h3⟩
  rw [(Cx.fd_told enc all d).1] at h1
  exact ⟨v', rfl, h1, (h.feed h2 h3 hd).1, h3⟩
theorem pr_close {P : Nat → Prop} {w : World} {g q : Nat} {enc : Int} {all : List Int} (h : Pr P w g q enc all) :
    Calls Tryz.prog 30 #[.pointer (some ⟨g, 0, none⟩)] w fun e w' => ∃ v', e = .returned v' ∧ w'.ownsRow w.heap.size 3 1 v' ((Cx.dec enc all).drop (Cx.fd enc all).1.length).length (((Cx.dec enc all).drop (Cx.fd enc all).1.length).map (Value.int .i64)) ∧ Pe P w' g q enc all ∧ w.grownBy w' (some g) := by
  refine (Close_any enc ((Cx.known_iff enc).1 h.1) w g (Cx.fd enc all).2 h.2.2.2.1 (Cx.fd_byt enc all h.2.1)).mono ?_
  rintro e w1 ⟨v', rfl, h1, h2, h3⟩
  rw [Cx.fd_end enc all] at h1
  exact ⟨v', rfl, h1, (h.close h2 h3).1, h3⟩
theorem pe_close {P : Nat → Prop} {w : World} {g q : Nat} {enc : Int} {all : List Int} (h : Pe P w g q enc all) (hz : all.length * 8 ≤ 140737488355328) :
    Calls Tryz.prog 31 #[.pointer (some ⟨q, 0, none⟩)] w fun e w' => ∃ v', e = .returned v' ∧ Rd .i64 w' v' ((Cx.dec enc all).drop (Cx.fd enc all).1.length) ∧ Pr P w' g q enc [] ∧ Kps (fun k => P k ∧ k ≠ g) w w' := by
  refine (rClose_any w q enc h.1 all h.2.2.2.2 h.2.1 hz).mono ?_
  rintro e w1 ⟨v', rfl, h1, h2, h3⟩
  exact ⟨v', rfl, h1, (h.close h2 h3).1, h3⟩
theorem pr_held {P : Nat → Prop} {w : World} {g q : Nat} {enc : Int} {all : List Int} (h : Pr P w g q enc all) :
    Calls Tryz.prog 28 #[.pointer (some ⟨g, 0, none⟩)] w fun e w' => e = .returned (.int .i64 (Cx.fd enc all).2.length) ∧ w' = w := Held_any w g enc _ h.2.2.2.1
theorem pr_rheld {P : Nat → Prop} {w : World} {g q : Nat} {enc : Int} {all : List Int} (h : Pr P w g q enc all) (hz : all.length ≤ 4611686018427387000) :
    Calls Tryz.prog 29 #[.pointer (some ⟨q, 0, none⟩)] w fun e w' => e = .returned (.int .i64 (Cx.fd enc all).2.length) ∧ Below w.heap.size w w' := rHeld_any w q enc all _ h.2.2.2.2 h.2.1 hz
/-- A row of ints stays where a block of another type has turned. -/
theorem rdi_stay {o : Nat → Prop} {w w' : World} {base n : Nat} {v : Value} {zs : List Int} (h : w.ownsRow base 3 1 v n (zs.map (Value.int .i64))) (k : Kps o w w') (ho : ∀ i, base ≤ i → i < w.heap.size → ¬ o i) : Rd .i64 w' v zs :=
  Rd.of_own (own_stay h (fun g e => k.same g (own_lt h e) (ho g (own_blk h e).1 (own_lt h e))))
end Go.Proofs.YtmfbobibpebfnaaGreat

/- played: one step of a pair. -/
namespace Go.Proofs.YtmfbobibpebfnaaGreat
open Go.RowKit

/-- What a step leaves. -/
def PlR (P : Nat → Prop) (w : World) (g q : Nat) (enc : Int) (all d : List Int) (e : Ending) (w' : World) : Prop :=
  e = .returned (.bool true) ∧ ∃ all', all'.length ≤ all.length + 2 * d.length ∧ Pr (fun k => P k ∨ w.heap.size ≤ k) w' g q enc all' ∧ Kps P w w'
theorem Lent.kps {o : Nat → Prop} {w w' : World} {base g cap : Nat} {zs : List Int} (h : Lent w base g cap zs) (k : Kps o w w') (ho : ¬ o g) : Lent w' base g cap zs :=
  ⟨h.1, h.2.1, h.2.2.1, Nat.lt_of_lt_of_le h.2.2.2.1 k.size, own_stay h.2.2.2.2 (fun i e => by
    have e' : i = g := by simpa [Value.ownBlock] using e.symm
    subst e'
    exact k.same i h.2.2.2.1 ho)⟩
/-- A list of ints lies elsewhere than what was lent. -/
theorem Lent.other {w : World} {base g cap : Nat} {zs xs : List Int} {v : Value} (h : Lent w base g cap zs) (hr : Rd .i64 w v xs) : ∀ b off n c, v = .slice (some ⟨b, off, none⟩) n c → xs ≠ [] → b ≠ g := by
  rintro b off n c rfl hn rfl
  obtain ⟨ao, cp, e, _, _, h3⟩ := hr
  obtain ⟨b', off', e2, _, hc⟩ := h3 hn
  cases e
  cases e2
  have h0 := hc 0 (List.length_pos_iff.2 hn)
  have how := h.2.2.2.2
  rcases how.2 with ⟨e, _⟩ | ⟨g', cap', cur, e, _, hg, _, _, hs, ht⟩
  · cases e
  · cases e
    rw [cell_of_row _ _ _ _ _ _ hg] at h0
    simp only [Nat.mul_one] at hs ht
    rw [List.take_of_length_le (by simp [hs])] at ht
    rw [← Array.getElem?_toList, ht, List.getElem?_map] at h0
    cases hx : (zs ++ fill zs.length (cap - zs.length))[off + 0]? with
    | none => rw [hx] at h0; cases h0
    | some x => rw [hx] at h0; cases h0

set_option maxRecDepth 100000 in
set_option maxHeartbeats 16000000 in
theorem played_any {P : Nat → Prop} (w : World) (g q : Nat) (enc : Int) (all : List Int) (h : Pr P w g q enc all) (hP : ∀ k, P k → k < w.heap.size) (kind who : Int) (bv : Value) (d : List Int) (hr : ∀ w', Kps P w w' → Rd .u8 w' bv d) (hd : Byt d) (hl : all.length + 2 * d.length ≤ 4194304) (hd2 : d.length ≤ 1048576) :
    Calls Tryz.prog 10 #[.pointer (some ⟨g, 0, none⟩), .pointer (some ⟨q, 0, none⟩), .agg #[.int .i64 kind, .int .i64 who, bv]] w fun e w' => PlR P w g q enc all d e w' := by
  have HP := hidIt hP
  have HR := hidIt hr
  have HD := hidIt hd
  obtain ⟨ao, cap, rfl, _⟩ := id (hr w (Kps.refl _ _))
  obtain ⟨w0, hw0⟩ : ∃ w0, w0 = w.alloc (.cells #[.int .i64 kind, .int .i64 who, .slice ao d.length cap] 42) := ⟨_, rfl⟩
  have hb0 : Below w.heap.size w w0 := by rw [hw0]; exact ext_alloc (Below.refl _ _) _
  have hc0 : w0.heap[w.heap.size]? = some (.cells #[.int .i64 kind, .int .i64 who, .slice ao d.length cap] 42 (0, 0)) := by rw [hw0]; exact heap_alloc_new _ _
  have HC0 := hidIt hc0
  obtain ⟨k0, k1, k2⟩ := cells3 hc0
  have P0 := hidIt (h.ext hb0)
  have HB0 := hidIt hb0
  have HSZ : Hid (w.heap.size < w0.heap.size) := (Array.getElem?_eq_some_iff.1 hc0).1
  have HFI : Hid (∀ all' w', all'.length ≤ all.length + 2 * d.length → Pr (fun k => P k ∨ w.heap.size ≤ k) w' g q enc all' → Kps P w w' → PlR P w g q enc all d (.returned (.bool true)) w') := fun all' w' h1 h2 h3 => ⟨rfl, all', h1, h2, h3⟩
  obtain ⟨Q0, hQ0⟩ : ∃ Q0 : Nat → Prop, Q0 = fun k => P k ∨ w0.heap.size ≤ k := ⟨_, rfl⟩
  have HQ0 : Hid (∀ k, Q0 k ↔ (P k ∨ w0.heap.size ≤ k)) := fun k => by rw [hQ0]
  clear h hP hr hd hb0 hc0 hQ0
  by_cases q1 : kind = 1
  · subst q1
    have HL : Hid (∀ y, Kps Q0 w0 y → Kps P w y) := fun y k => (Kps.of_below P HB0.out).trans k (fun i hi e => ((HQ0.out i).1 e).elim id (fun e => by have := HSZ.out; omega))
    have BX : Hid (∀ y, Kps Q0 w0 y → y.cell? ⟨w.heap.size, 0, none⟩ = some (.int .i64 1) ∧ y.cell? ⟨w.heap.size, 1, none⟩ = some (.int .i64 who) ∧ y.cell? ⟨w.heap.size, 2, none⟩ = some (.slice ao d.length cap)) := fun y k => by
      have e := (k.same w.heap.size HSZ.out (fun e => ((HQ0.out _).1 e).elim (fun e => by have := HP.out _ e; omega) (fun e => by have := HSZ.out; omega))).trans HC0.out
      exact cells3 e
    have HLE := hidIt (lend_any (.slice ao d.length cap) d w0 (HR.out w0 (HL.out _ (Kps.refl _ _))) (by omega))
    go_enter Tryz.func10, Tryz.ntmps10
    go_upto_region 1 with fail
    rw [← hw0]
    clear hw0
    go_upto_region 4 with (go_at_call 18; refine HLE.out.mono ?_; rintro e w1 ⟨gc, cc, rfl, hL1, hb1⟩; (try dsimp only); have LT1 := hidIt hL1; have HB1 := hidIt hb1; clear hb1 hL1)
    have hcc : d.length + 40 ≤ cc := LT1.out.1
    have hccm : cc ≤ 9223372036854775807 := LT1.out.2.1
    have HGC : Hid (w0.heap.size ≤ gc ∧ gc < w1.heap.size) := ⟨LT1.out.2.2.1, LT1.out.2.2.2.1⟩
    have K1 : Hid (Kps Q0 w0 w1) := Kps.of_below _ HB1.out
    have P1 := hidIt (P0.out.ext HB1.out)
    obtain ⟨j0, j1, j2⟩ := BX.out w1 K1.out
    have HF1 := hidIt (pr_feed P1.out LT1.out.rd (.inr ⟨_, _, _, _, rfl⟩) HD.out hd2)
    clear k0 k1 k2 HLE
    generalize hZS : (Cx.fd enc (all ++ d)).1.drop (Cx.fd enc all).1.length = zs at *
    go_upto_region 5 with (go_at_call 14; refine HF1.out.mono ?_; rintro e w2 ⟨l, rfl, hl2, hp2, hg2⟩; (try dsimp only); have OL := hidIt hl2; have P2 := hidIt hp2; have G2 := hidIt hg2; clear hl2 hp2 hg2)
    have K2 : Hid (Kps Q0 w0 w2) := K1.out.trans (Kps.grown G2.out (fun k e _ => by cases e; exact (HQ0.out _).2 (.inl P2.out.2.2.1))) (fun _ _ e => e)
    obtain ⟨i0, i1, i2⟩ := BX.out w2 K2.out
    have HF2 := hidIt (ph_feed (v := .slice ao d.length cap) P2.out (fun w' k => HR.out w' (HL.out _ (K2.out.trans k (fun _ _ e => (HQ0.out _).2 (.inl e))))) (by omega))
    rw [hZS] at HF2
    clear hZS HF1 j0 j1 j2
    go_upto_region 6 with (go_at_call 17; refine HF2.out.mono ?_; rintro e w3 ⟨m, rfl, hm3, hp3, hk3⟩; (try dsimp only); have RM3 := hidIt hm3; have P3 := hidIt hp3; have KK3 := hidIt hk3; clear hm3 hp3 hk3)
    have K3 : Hid (Kps Q0 w0 w3) := K2.out.trans KK3.out (fun _ _ e => (HQ0.out _).2 (.inl e.1))
    have SZ12 : Hid (w1.heap.size ≤ w2.heap.size) := G2.out.size
    have SZ01 : Hid (w0.heap.size ≤ w1.heap.size) := HB1.out.size
    have RL3 : Hid (Rd .i64 w3 l zs) := rdi_stay OL.out KK3.out (fun i h1 _ e => by have := HP.out i e.1; have := HSZ.out; have := SZ01.out; omega)
    have LT3 : Hid (Lent w3 w0.heap.size gc cc d) := (LT1.out.kps (Kps.grown G2.out (fun k e _ => by cases e; exact P2.out.2.2.1)) (fun e => by have := HP.out _ e; have := HGC.out; have := HSZ.out; omega)).kps KK3.out (fun e => by have := HP.out _ e.1; have := HGC.out; have := HSZ.out; omega)
    obtain ⟨h0, h1, h2⟩ := BX.out w3 K3.out
    have HS4 := hidIt (sameInts_any _ _ _ w3 RL3.out RM3.out)
    have HK5 : Hid (∀ w4, Below w3.heap.size w3 w4 → Calls Tryz.prog 21 #[.slice (some ⟨gc, 0, none⟩) cc cc, .slice ao d.length cap] w4 fun e w' => e = .returned (.bool true) ∧ Below w4.heap.size w4 w') := fun w4 hb => kept_any _ d gc cc _ w4 (HR.out w4 (HL.out _ (K3.out.trans (Kps.of_below (fun _ => False) hb) (fun _ _ e => e.elim)))) (LT3.out.ext hb)
    clear i0 i1 i2 HF2
    go_upto_region 8 with (first | (go_at_call 16; refine HS4.out.mono ?_; rintro e w4 ⟨rfl, hb4⟩; (try dsimp only); have HB4 := hidIt hb4; obtain ⟨h0, h1, h2⟩ := BX.out w4 (K3.out.trans (Kps.of_below (fun _ => False) hb4) (fun _ _ e => e.elim)); clear hb4) | (go_at_call 21; refine (HK5.out _ HB4.out).mono ?_; rintro e w5 ⟨rfl, hb5⟩; (try dsimp only); have HB5 := hidIt (ext_trans HB4.out hb5); clear hb5))
    have K5 : Hid (Kps Q0 w0 w5) := K3.out.trans (Kps.of_below (fun _ => False) HB5.out) (fun _ _ e => e.elim)
    obtain ⟨g0, g1, g2⟩ := BX.out w5 K5.out
    have P5 := hidIt (P3.out.ext HB5.out)
    have LT5 := hidIt (LT3.out.ext HB5.out)
    have RL5 := hidIt (RL3.out.ext HB5.out)
    have RM5 := hidIt (RM3.out.ext HB5.out)
    clear h0 h1 h2 HS4 HK5 HB4 K3 RL3 RM3 LT3 KK3 P3 K2 K1 P1 LT1 P0 OL
    have TU := hidIt (turned_any d gc cc _ w5 (by omega) LT5.out)
    go_wp2_with fail
    · skip
      refine TU.out.mono ?_
      rintro e w6 ⟨p, rfl, hL6, hO6, hg6⟩
      (try dsimp only)
      obtain ⟨td, htd⟩ : ∃ td, td = turn d := ⟨_, rfl⟩
      rw [← htd] at hL6 hO6
      have htl : td.length = d.length := by rw [htd, turn_len]
      have HTB : Hid (Byt td) := by rw [htd]; exact turn_byt d
      have HTL := hidIt htl
      have LT6 := hidIt hL6
      have OP6 := hidIt hO6
      have G6 := hidIt hg6
      have hrd6 := hL6.rd
      rw [htl] at hrd6
      clear htd hL6 hO6 hg6 htl
      obtain ⟨Q5, HQ5⟩ : ∃ Q5 : Nat → Prop, Hid (∀ k, Q5 k ↔ (P k ∨ w2.heap.size ≤ k) ∧ k < w5.heap.size) := ⟨_, fun k => Iff.rfl⟩
      have NG5 : Hid (¬ Q5 gc) := fun e => by
        have h3 := HGC.out
        have h4 := HSZ.out
        have h5 := SZ12.out
        rcases ((HQ5.out _).1 e).1 with h | h
        · have := HP.out _ h; omega
        · omega
      have KG : Hid (Kps (fun k => k = gc) w5 w6) := Kps.grown G6.out (fun k e _ => by cases e; rfl)
      have P6 : Hid (Pr Q5 w6 g q enc (all ++ d)) := (P5.out.mono (fun k hk e => (HQ5.out k).2 ⟨e, hk⟩)).kps KG.out (fun i hi e e2 => NG5.out (e2 ▸ e))
      have K6 : Hid (Kps Q0 w0 w6) := K5.out.trans KG.out (fun i hi (e : i = gc) => (HQ0.out _).2 (.inr (by have := HGC.out; omega)))
      obtain ⟨f0, f1, f2⟩ := BX.out w6 K6.out
      have HF3 := hidIt (pr_feed P6.out hrd6 (.inr ⟨_, _, _, _, rfl⟩) HTB.out (by have := HTL.out; omega))
      generalize hZS : (Cx.fd enc (all ++ d ++ td)).1.drop (Cx.fd enc (all ++ d)).1.length = zt at *
      clear g0 g1 g2 TU LT5 RL5 RM5 P5 K5 hrd6
      go_upto_region 11 with (go_at_call 14; refine HF3.out.mono ?_; rintro e w7 ⟨l7, rfl, hl7, hp7, hg7⟩; (try dsimp only); have OL7 := hidIt hl7; have P7 := hidIt hp7; have G7 := hidIt hg7; clear hl7 hp7 hg7)
      have K67 : Hid (Kps Q5 w6 w7) := Kps.grown G7.out (fun k e _ => by cases e; exact P7.out.2.2.1)
      have HQL : Hid (∀ k, Q5 k → k < w5.heap.size) := fun k e => ((HQ5.out k).1 e).2
      have SZ56 : Hid (w5.heap.size ≤ w6.heap.size) := G6.out.size
      have HF4 := hidIt (ph_feed (v := p) P7.out (fun w' k => Rd.of_own (own_stay OP6.out (fun b e => (K67.out.trans k (fun _ _ e => e)).same b (own_lt OP6.out e) (fun e2 => by have := HQL.out _ e2; have := (own_blk OP6.out e).1; omega)))) (by have := HTL.out; rw [List.length_append]; omega))
      rw [hZS] at HF4
      clear hZS HF3 f0 f1 f2
      go_upto_region 12 with (go_at_call 17; refine HF4.out.mono ?_; rintro e w8 ⟨m8, rfl, hm8, hp8, hk8⟩; (try dsimp only); have RMM := hidIt hm8; have PR := hidIt hp8; have KK8 := hidIt hk8; clear hm8 hp8 hk8)
      have RLL : Hid (Rd .i64 w8 l7 zt) := rdi_stay OL7.out KK8.out (fun i h1 _ e => by have := HQL.out i e.1; have := SZ56.out; omega)
      have LT : Hid (Lent w8 w0.heap.size gc cc td) := (LT6.out.kps K67.out NG5.out).kps KK8.out (fun e => NG5.out e.1)
      have QSB : Hid (∀ k, Q5 k → Q0 k) := fun k e => (HQ0.out _).2 (((HQ5.out k).1 e).1.imp id (fun h => by have := SZ12.out; have := SZ01.out; omega))
      have KW : Hid (Kps P w w8) := HL.out _ ((K6.out.trans K67.out (fun _ _ e => QSB.out _ e)).trans KK8.out (fun _ _ e => QSB.out _ e.1))
      have SZ67 : Hid (w6.heap.size ≤ w7.heap.size) := K67.out.size
      have SZ05 : Hid (w0.heap.size ≤ w6.heap.size ∧ gc < w6.heap.size) := ⟨K6.out.size, LT6.out.2.2.2.1⟩
      have PSUB : Hid (∀ i, (Q5 i ∨ w7.heap.size ≤ i) → P i ∨ w.heap.size ≤ i) := fun i e => e.elim (fun e => ((HQ0.out _).1 (QSB.out i e)).imp id (fun h => by have := HSZ.out; omega)) (fun h => .inr (by have := HSZ.out; have := SZ67.out; have := SZ05.out; omega))
      have NGC : Hid (¬ (Q5 gc ∨ w7.heap.size ≤ gc)) := fun e => e.elim NG5.out (fun h => by have := SZ67.out; have := SZ05.out; omega)
      clear HF4 OL7 P7 G7 K67 K6 P6 LT6 OP6 KK8 BX
      have HOW : Hid (w8.ownsRow w0.heap.size 5 1 (.slice (some ⟨gc, 0, none⟩) cc cc) cc ((td ++ fill (td).length (cc - (td).length)).map (Value.int .u8))) := LT.out.2.2.2.2
      have hccm : cc ≤ 9223372036854775807 := LT.out.2.1
      have RL : Hid (∀ y, Kps (fun k => k = gc) w8 y → Rd .i64 y l7 zt) := fun y k => rd_kps RLL.out k (fun b off n c e hn e2 => LT.out.other RLL.out b off n c e hn e2)
      have RM : Hid (∀ y, Kps (fun k => k = gc) w8 y → Rd .i64 y m8 zt) := fun y k => rd_kps RMM.out k (fun b off n c e hn e2 => LT.out.other RMM.out b off n c e hn e2)
      have FI : Hid (∀ y y', Kps (fun k => k = gc) w8 y → Below y.heap.size y y' → PlR P w g q enc all d (.returned (.bool true)) y') := fun y y' k hb => by
        have hgc := HGC.out
        have hsz0 := HSZ.out
        refine HFI.out (all ++ d ++ td) y' (by have := HTL.out; rw [List.length_append, List.length_append]; omega) ?_ ?_
        · exact ((PR.out.kps k (fun i hi e e2 => by
            subst e2
            exact NGC.out e)).ext hb).mono (fun i hi e => PSUB.out i e)
        · exact (KW.out.trans (k.trans (Kps.of_below (fun _ => False) hb) (fun _ _ e => e.elim)) (fun i hi (e : i = gc) => by omega))
      clear RLL RMM PR KW PSUB NGC LT
      generalize hL0 : ((td ++ fill (td).length (cc - (td).length)).map (Value.int .u8)) = xs0 at *
      clear hL0
      try go_wp2_with fail
      go_loopw [11] (fun i wr => ∃ (j : Nat) (xs : List Value), j ≤ cc ∧ i = .int .i64 j ∧ Hid (wr.ownsRow w0.heap.size 5 1 (.slice (some ⟨gc, 0, none⟩) cc cc) cc xs) ∧ Hid (Kps (fun k => k = gc) w8 wr)) (fun i _ => cc - (intOf i).toNat)
      case atStart => exact ⟨0, xs0, Nat.zero_le _, rfl, HOW.out, Kps.refl _ _⟩
      case round =>
        obtain ⟨j, xs, hj, rfl, HO, HKL⟩ := hrel
        clear HOW
        by_cases hjl : j < cc
        · have hd1 : decide ((j : Int) < (cc : Int)) = true := by simp; omega
          obtain ⟨u, hcx⟩ := lend_cell HO.out hjl
          have hfz := HO.out.frozenAt j
          have HS : Hid (∀ x, ∃ xs', (wr.setCell ⟨gc, j, none⟩ x).ownsRow w0.heap.size 5 1 (.slice (some ⟨gc, 0, none⟩) cc cc) cc xs' ∧ Kps (fun k => k = gc) w8 (wr.setCell ⟨gc, j, none⟩ x)) := fun x => ⟨_, (HO.out.stored j x).1, HKL.out.trans (Kps.grown (grown_setCell (World.grownBy.refl _ _) x) (fun k e _ => by cases e; rfl)) (fun _ _ e => e)⟩
          clear HO HKL
          go_wp2_with fail
          go_roundw
          case rel =>
            obtain ⟨xs', h1, h2⟩ := HS.out _
            exact ⟨j + 1, xs', by omega, by go_num, h1, h2⟩
          case measure => simp [intOf]; omega
        · obtain rfl : j = cc := by omega
          have hd1 : decide ((j : Int) < (j : Int)) = false := by simp
          have HSI := hidIt (sameInts_any _ _ _ wr (RL.out wr HKL.out) (RM.out wr HKL.out))
          have HFW := hidIt (fun y' hb => FI.out wr y' HKL.out hb)
          clear HO RL RM FI
          go_wp2_with (go_at_call 16; refine HSI.out.mono ?_; rintro e w9 ⟨rfl, hb9⟩; (try dsimp only); have HFX := hidIt (HFW.out _ hb9); clear hb9)
          go_ret
          exact HFX.out
    · skip
      have LT := LT5
      have RLL := RL5
      have RMM := RM5
      have PR := P5
      have KW : Hid (Kps P w w5) := HL.out _ K5.out
      have PSUB : Hid (∀ i, (P i ∨ w2.heap.size ≤ i) → P i ∨ w.heap.size ≤ i) := fun i e => e.imp id (fun h => by have := HSZ.out; have := SZ12.out; have := SZ01.out; omega)
      have NGC : Hid (¬ (P gc ∨ w2.heap.size ≤ gc)) := fun e => by
        have h3 := HGC.out
        have h4 := HSZ.out
        have h5 := SZ12.out
        rcases e with h | h
        · have := HP.out _ h; omega
        · omega
      clear g0 g1 g2 LT5 RL5 RM5 P5 K5 TU BX
      have HOW : Hid (w5.ownsRow w0.heap.size 5 1 (.slice (some ⟨gc, 0, none⟩) cc cc) cc ((d ++ fill (d).length (cc - (d).length)).map (Value.int .u8))) := LT.out.2.2.2.2
      have hccm : cc ≤ 9223372036854775807 := LT.out.2.1
      have RL : Hid (∀ y, Kps (fun k => k = gc) w5 y → Rd .i64 y l zs) := fun y k => rd_kps RLL.out k (fun b off n c e hn e2 => LT.out.other RLL.out b off n c e hn e2)
      have RM : Hid (∀ y, Kps (fun k => k = gc) w5 y → Rd .i64 y m zs) := fun y k => rd_kps RMM.out k (fun b off n c e hn e2 => LT.out.other RMM.out b off n c e hn e2)
      have FI : Hid (∀ y y', Kps (fun k => k = gc) w5 y → Below y.heap.size y y' → PlR P w g q enc all d (.returned (.bool true)) y') := fun y y' k hb => by
        have hgc := HGC.out
        have hsz0 := HSZ.out
        refine HFI.out (all ++ d) y' (by rw [List.length_append]; omega) ?_ ?_
        · exact ((PR.out.kps k (fun i hi e e2 => by
            subst e2
            exact NGC.out e)).ext hb).mono (fun i hi e => PSUB.out i e)
        · exact (KW.out.trans (k.trans (Kps.of_below (fun _ => False) hb) (fun _ _ e => e.elim)) (fun i hi (e : i = gc) => by omega))
      clear RLL RMM PR KW PSUB NGC LT
      generalize hL0 : ((d ++ fill (d).length (cc - (d).length)).map (Value.int .u8)) = xs0 at *
      clear hL0
      try go_wp2_with fail
      go_loopw [11] (fun i wr => ∃ (j : Nat) (xs : List Value), j ≤ cc ∧ i = .int .i64 j ∧ Hid (wr.ownsRow w0.heap.size 5 1 (.slice (some ⟨gc, 0, none⟩) cc cc) cc xs) ∧ Hid (Kps (fun k => k = gc) w5 wr)) (fun i _ => cc - (intOf i).toNat)
      case atStart => exact ⟨0, xs0, Nat.zero_le _, rfl, HOW.out, Kps.refl _ _⟩
      case round =>
        obtain ⟨j, xs, hj, rfl, HO, HKL⟩ := hrel
        clear HOW
        by_cases hjl : j < cc
        · have hd1 : decide ((j : Int) < (cc : Int)) = true := by simp; omega
          obtain ⟨u, hcx⟩ := lend_cell HO.out hjl
          have hfz := HO.out.frozenAt j
          have HS : Hid (∀ x, ∃ xs', (wr.setCell ⟨gc, j, none⟩ x).ownsRow w0.heap.size 5 1 (.slice (some ⟨gc, 0, none⟩) cc cc) cc xs' ∧ Kps (fun k => k = gc) w5 (wr.setCell ⟨gc, j, none⟩ x)) := fun x => ⟨_, (HO.out.stored j x).1, HKL.out.trans (Kps.grown (grown_setCell (World.grownBy.refl _ _) x) (fun k e _ => by cases e; rfl)) (fun _ _ e => e)⟩
          clear HO HKL
          go_wp2_with fail
          go_roundw
          case rel =>
            obtain ⟨xs', h1, h2⟩ := HS.out _
            exact ⟨j + 1, xs', by omega, by go_num, h1, h2⟩
          case measure => simp [intOf]; omega
        · obtain rfl : j = cc := by omega
          have hd1 : decide ((j : Int) < (j : Int)) = false := by simp
          have HSI := hidIt (sameInts_any _ _ _ wr (RL.out wr HKL.out) (RM.out wr HKL.out))
          have HFW := hidIt (fun y' hb => FI.out wr y' HKL.out hb)
          clear HO RL RM FI
          go_wp2_with (go_at_call 16; refine HSI.out.mono ?_; rintro e w9 ⟨rfl, hb9⟩; (try dsimp only); have HFX := hidIt (HFW.out _ hb9); clear hb9)
          go_ret
          exact HFX.out
  by_cases q2 : kind = 2
  · subst q2
    clear HC0 q1
    have HH1 := hidIt (pr_held P0.out)
    have HH2 := hidIt (pr_rheld P0.out (by omega))
    have hee : (((Cx.fd enc all).2.length : Int) == ((Cx.fd enc all).2.length : Int)) = true := by simp
    generalize ((Cx.fd enc all).2.length : Int) = hn at *
    go_enter Tryz.func10, Tryz.ntmps10
    go_upto_region 1 with fail
    rw [← hw0]
    clear hw0
    go_wp2_with (first | (go_at_call 28; refine HH1.out.mono ?_; rintro e w1 ⟨rfl, rfl⟩; (try dsimp only)) | (go_at_call 29; refine HH2.out.mono ?_; rintro e w2 ⟨rfl, hb2⟩; (try dsimp only); have HB2 := hidIt hb2; clear hb2))
    go_ret
    exact HFI.out all _ (by omega) ((P0.out.ext HB2.out).mono (fun _ _ e => .inl e)) (Kps.of_below P (ext_trans HB0.out HB2.out))
  by_cases q3 : kind = 3
  · subst q3
    clear HC0 q1 q2
    have HC1 := hidIt (pr_close P0.out)
    generalize hZS : (Cx.dec enc all).drop (Cx.fd enc all).1.length = zs at *
    go_enter Tryz.func10, Tryz.ntmps10
    go_upto_region 1 with fail
    rw [← hw0]
    clear hw0
    go_upto_region 21 with (go_at_call 30; refine HC1.out.mono ?_; rintro e w1 ⟨l, rfl, hl1, hp1, hg1⟩; (try dsimp only); have OL := hidIt hl1; have P1 := hidIt hp1; have G1 := hidIt hg1; clear hl1 hp1 hg1)
    have HC2 := hidIt (pe_close P1.out (by omega))
    rw [hZS] at HC2
    clear hZS HC1
    go_upto_region 22 with (go_at_call 31; refine HC2.out.mono ?_; rintro e w2 ⟨m, rfl, hm2, hp2, hk2⟩; (try dsimp only); have RM := hidIt hm2; have P2 := hidIt hp2; have K2 := hidIt hk2; clear hm2 hp2 hk2)
    have RL : Hid (Rd .i64 w2 l zs) := rdi_stay OL.out K2.out (fun i h1 _ e => by have := HP.out i e.1; have := HSZ.out; omega)
    have HS4 := hidIt (sameInts_any _ _ _ w2 RL.out RM.out)
    have KW : Hid (Kps P w w2) := (Kps.of_below P HB0.out).trans ((Kps.grown (o := P) G1.out (fun k e _ => by cases e; exact P1.out.2.2.1)).trans K2.out (fun _ _ e => e.1)) (fun _ _ e => e)
    clear HC2
    go_wp2_with (go_at_call 16; refine HS4.out.mono ?_; rintro e w3 ⟨rfl, hb3⟩; (try dsimp only); have HB3 := hidIt hb3; clear hb3)
    go_ret
    exact HFI.out [] _ (by simp) ((P2.out.ext HB3.out).mono (fun _ _ e => .inl e)) (KW.out.trans (Kps.of_below (fun _ => False) HB3.out) (fun _ _ e => e.elim))
  clear HC0
  have q1 : (kind == 1) = false := by simpa using q1
  have q2 : (kind == 2) = false := by simpa using q2
  have q3 : (kind == 3) = false := by simpa using q3
  go_enter Tryz.func10, Tryz.ntmps10
  go_upto_region 1 with fail
  rw [← hw0]
  clear hw0
  go_wp2_with fail
  go_ret
  exact HFI.out all _ (by omega) (P0.out.mono (fun _ _ e => .inl e)) (Kps.of_below P HB0.out)
end Go.Proofs.YtmfbobibpebfnaaGreat
