import Derived.Test.YtmfbobibpebfnaaGreatJ18
import Derived.Test.YtmfbobibpebfnaaGreatJ05
import Derived.Test.YtmfbobibpebfnaaGreatJ15
/- The document's stream in memory: NewStream, Feed, Close. -/
namespace Go.Proofs.YtmfbobibpebfnaaGreat
open Go.RowKit

/-- At block q lies the document's stream: it was fed all, and has told m atoms. P: the blocks of its own. -/
def Rf (P : Nat → Prop) (w : World) (q : Nat) (enc : Int) (all : List Int) (m : Nat) : Prop :=
  ∃ v, w.heap[q]? = some (.cells #[.int .i64 enc, v, .int .i64 m] 54 (0, 0)) ∧ P q ∧ w.ownsRow 0 5 1 v all.length (all.map (Value.int .u8)) ∧ ∀ k, v.ownBlock = some k → P k
section
variable {P P' o : Nat → Prop} {w w' : World} {q m : Nat} {enc : Int} {all : List Int}
theorem Rf.lt (h : Rf P w q enc all m) : q < w.heap.size := by
  obtain ⟨v, hq, _⟩ := h
  exact (Array.getElem?_eq_some_iff.1 hq).1
theorem Rf.mono (h : Rf P w q enc all m) (hp : ∀ k, k < w.heap.size → P k → P' k) : Rf P' w q enc all m := by
  obtain ⟨v, hq, p, ow, b⟩ := id h
  exact ⟨v, hq, hp _ h.lt p, ow, fun k e => hp k (own_lt ow e) (b k e)⟩
theorem Rf.kps (h : Rf P w q enc all m) (k : Kps o w w') (ho : ∀ i, i < w.heap.size → P i → ¬ o i) : Rf P w' q enc all m := by
  obtain ⟨v, hq, p, ow, b⟩ := id h
  exact ⟨v, (k.same q h.lt (ho q h.lt p)).trans hq, p, own_stay ow (fun g e => k.same g (own_lt ow e) (ho g (own_lt ow e) (b g e))), b⟩
theorem Rf.ext (h : Rf P w q enc all m) (hb : Below w.heap.size w w') : Rf P w' q enc all m := h.kps (Kps.of_below (fun _ => False) hb) (fun _ _ _ e => e)
theorem Rf.rd (h : Rf P w q enc all m) : ∃ v, w.cell? ⟨q, 0, none⟩ = some (.int .i64 enc) ∧ w.cell? ⟨q, 1, none⟩ = some v ∧ w.cell? ⟨q, 2, none⟩ = some (.int .i64 m) ∧ Rd .u8 w v all := by
  obtain ⟨v, hq, p, ow, b⟩ := h
  obtain ⟨c0, c1, c2⟩ := cells3 hq
  exact ⟨v, c0, c1, c2, Rd.of_own ow⟩
end

theorem rHeld_any {P : Nat → Prop} (w : World) (q : Nat) (enc : Int) (all : List Int) (m : Nat) (h : Rf P w q enc all m) (hb : Byt all) (hm : all.length ≤ 4611686018427387000) :
    Calls Tryz.prog 29 #[.pointer (some ⟨q, 0, none⟩)] w fun e w' => e = .returned (.int .i64 (Cx.fd enc all).2.length) ∧ Below w.heap.size w w' := by
  obtain ⟨v, c0, c1, _, hr⟩ := h.rd
  by_cases h1 : enc = 1
  · subst h1; exact rHeld1_any v all q w c0 c1 hr hb hm
  by_cases h2 : enc = 2
  · exact rHeld2_any enc 0 (.inl ⟨h2, rfl⟩) v all q w c0 c1 hr hb hm
  by_cases h3 : enc = 3
  · exact rHeld2_any enc 1 (.inr ⟨h3, rfl⟩) v all q w c0 c1 hr hb hm
  exact rHeld4_any enc h1 h2 h3 v all q w c0 c1 hr

theorem rNew_any (enc : Int) (w : World) : Calls Tryz.prog 5 #[.int .i64 enc] w fun e w' => (Cx.known enc = true ∧ e = .returned (.tuple #[.pointer (some ⟨w.heap.size, 0, none⟩), .int .i64 0]) ∧ Rf (fun k => w.heap.size ≤ k) w' w.heap.size enc [] 0 ∧ Below w.heap.size w w') ∨ (Cx.known enc = false ∧ e = .returned (.tuple #[.pointer none, .int .i64 10]) ∧ Below w.heap.size w w') := by
  have HK := hidIt (rknown_any enc)
  cases hk : Cx.known enc
  · rw [hk] at HK
    go_enter Tryz.func5, Tryz.ntmps5
    go_wp2_with (go_at_call 13; refine (HK.out _).mono ?_; rintro e w1 ⟨rfl, rfl⟩; (try dsimp only))
    go_ret2
    exact .inr ⟨trivial, rfl, Below.refl _ _⟩
  · rw [hk] at HK
    go_enter Tryz.func5, Tryz.ntmps5
    go_wp2_with (go_at_call 13; refine (HK.out _).mono ?_; rintro e w1 ⟨rfl, rfl⟩; (try dsimp only))
    go_ret2
    exact .inl ⟨trivial, rfl, ⟨_, heap_alloc_new _ _, Nat.le_refl _, ⟨rfl, .inl ⟨rfl, rfl⟩⟩, fun k e => by cases e⟩, ext_alloc (Below.refl _ _) _⟩

theorem rd_nil (k : IntKind) (w : World) : Rd k w (.slice none 0 0) [] := ⟨none, 0, rfl, Nat.le_refl _, by simp [maxLen], fun h => absurd rfl h⟩
/-- One byte more. -/
theorem rf_push {P : Nat → Prop} {w0 y w9 : World} {q m : Nat} {enc x : Int} {L : List Int} {v v9 : Value} {ob : Obj} (hq : y.heap[q]? = some (.cells #[.int .i64 enc, v, .int .i64 m] 54 (0, 0))) (hP : P q) (ow : y.ownsRow 0 5 1 v L.length (L.map (Value.int .u8))) (hb : ∀ k, v.ownBlock = some k → P k ∨ w0.heap.size ≤ k) (kp : Kps P w0 y)
    (own9 : w9.ownsRow 0 5 1 v9 (L.length + 1) (L.map (Value.int .u8) ++ [.int .u8 x])) (hg9 : (y.alloc ob).drew.grownBy w9 v.ownBlock) (hv9 : v9.ownBlock = v.ownBlock ∨ v9.ownBlock = some (y.alloc ob).drew.heap.size) :
    w9.heap[q]? = some (.cells #[.int .i64 enc, v, .int .i64 m] 54 (0, 0)) ∧ Kps P w0 w9 ∧ Rf (fun k => P k ∨ w0.heap.size ≤ k) (w9.setCell ⟨q, 1, none⟩ v9) q enc (L ++ [x]) m ∧ Kps P w0 (w9.setCell ⟨q, 1, none⟩ v9) := by
  have hql : q < y.heap.size := (Array.getElem?_eq_some_iff.1 hq).1
  have b3 : Below y.heap.size y (y.alloc ob).drew := (ext_alloc (Below.refl _ _) _).drew
  have hq3 : (y.alloc ob).drew.heap[q]? = some (.cells #[.int .i64 enc, v, .int .i64 m] 54 (0, 0)) := (b3.block q hql).trans hq
  have hne : v.ownBlock ≠ some q := own_ne ow hq (by decide)
  have k9 : Kps (fun k => P k ∨ w0.heap.size ≤ k) y w9 := (Kps.of_below (fun k => P k ∨ w0.heap.size ≤ k) b3).trans (Kps.grown hg9 (fun k e _ => hb k e)) (fun _ _ e => e)
  have kw9 : Kps P w0 w9 := kp.trans k9 (fun i hi e => e.elim id (fun h => by omega))
  have hq9 : w9.heap[q]? = some (.cells #[.int .i64 enc, v, .int .i64 m] 54 (0, 0)) := (hg9.block q (Nat.lt_of_lt_of_le hql b3.size) (fun e => hne e.symm)).trans hq3
  obtain ⟨s9, g9⟩ := set1 hq9 1 v9
  have hne9 : v9.ownBlock ≠ some q := own_ne own9 hq9 (by decide)
  refine ⟨hq9, kw9, ⟨v9, s9, .inl hP, ?_, ?_⟩, kw9.trans (Kps.grown g9 (fun k e _ => by cases e; exact hP)) (fun _ _ e => e)⟩
  · have h1 := own_stay own9 (w' := w9.setCell ⟨q, 1, none⟩ v9) (fun g e => g9.block g (own_lt own9 e) (fun e' => hne9 (by rw [e]; exact e')))
    rw [List.length_append, List.map_append]
    exact h1
  · intro k e
    rcases hv9 with h | h
    · exact hb k (h ▸ e)
    · rw [h] at e
      cases e
      exact .inr (Nat.le_trans kp.size b3.size)
theorem cell1_new (w : World) (T : TypeId) (a : Value) : ∀ (j : Nat) (u : Value), [a][j]? = some u → (w.alloc (.cells #[a] T)).drew.cell? ((⟨w.heap.size, 0, none⟩ : Addr).add j) = some u := by
  intro j u hj
  have h : (w.alloc (.cells #[a] T)).drew.heap[w.heap.size]? = some (.cells #[a] T (0, 0)) := heap_alloc_new _ _
  rcases j with _ | j
  · cases hj
    have e : (⟨w.heap.size, 0, none⟩ : Addr).add 0 = ⟨w.heap.size, 0, none⟩ := rfl
    rw [e, cell_of_row _ _ 0 _ _ _ h]
    rfl
  · simp at hj
/-- What lies behind the first m of a row of ints. -/
theorem cut_own {w : World} {base n m : Nat} {v : Value} {zs : List Int} (h : w.ownsRow base 3 1 v n (zs.map (Value.int .i64))) (hm : m ≤ zs.length) : (zs = [] ∧ v = .slice none 0 0) ∨ ∃ g cap, base ≤ g ∧ v = .slice (some ⟨g, 0, none⟩) zs.length cap ∧ zs.length ≤ cap ∧ cap ≤ maxLen ∧ Rd .i64 w (.slice (if cap = m then some ⟨g, 0, none⟩ else some ⟨g, m, none⟩) (zs.length - m) (cap - m)) (zs.drop m) := by
  have hl : n = zs.length := by have := h.1; simpa using this.symm
  subst hl
  have hrd := Rd.of_own h
  rcases h.2 with ⟨rfl, e⟩ | ⟨g, cap, cur, rfl, hb, hg, hn, hc, _⟩
  · exact .inl ⟨List.length_eq_zero_iff.1 e, rfl⟩
  · refine .inr ⟨g, cap, hb, rfl, hn, hc, ?_⟩
    have := hrd.cut_if hm
    rwa [Nat.zero_add] at this
theorem rf_told {P : Nat → Prop} {w : World} {q m : Nat} {enc : Int} {all : List Int} (h : Rf P w q enc all m) (n : Nat) : Rf P (w.setCell ⟨q, 2, none⟩ (.int .i64 n)) q enc all n ∧ Kps P w (w.setCell ⟨q, 2, none⟩ (.int .i64 n)) ∧ w.frozen? ⟨q, 2, none⟩ = false := by
  obtain ⟨v, hq, p, ow, b⟩ := h
  obtain ⟨s, g⟩ := set1 hq 2 (.int .i64 n)
  have k : Kps P w (w.setCell ⟨q, 2, none⟩ (.int .i64 n)) := Kps.grown g (fun k e _ => by cases e; exact p)
  have hne : v.ownBlock ≠ some q := own_ne ow hq (by decide)
  exact ⟨⟨v, s, p, own_stay ow (fun i e => g.block i (own_lt ow e) (fun e' => hne (by rw [e]; exact e'))), b⟩, k, unfrozen hq 2⟩
/-- All is forgotten. -/
theorem rf_none {P : Nat → Prop} {w : World} {q m : Nat} {enc : Int} {all : List Int} (h : Rf P w q enc all m) : w.frozen? ⟨q, 1, none⟩ = false ∧ Rf P (w.setCell ⟨q, 1, none⟩ (.slice none 0 0)) q enc [] m ∧ Kps P w (w.setCell ⟨q, 1, none⟩ (.slice none 0 0)) := by
  obtain ⟨v, hq, p, ow, b⟩ := h
  obtain ⟨s, g⟩ := set1 hq 1 (.slice none 0 0)
  exact ⟨unfrozen hq 1, ⟨_, s, p, ⟨rfl, .inl ⟨rfl, rfl⟩⟩, fun k e => by cases e⟩, Kps.grown g (fun k e _ => by cases e; exact p)⟩
theorem rd_kps {o : Nat → Prop} {k : IntKind} {w w' : World} {v : Value} {zs : List Int} (h : Rd k w v zs) (kp : Kps o w w') (ho : ∀ b off n c, v = .slice (some ⟨b, off, none⟩) n c → zs ≠ [] → ¬ o b) : Rd k w' v zs := by
  obtain ⟨ao, cap, rfl, h1, h2, h3⟩ := h
  refine ⟨ao, cap, rfl, h1, h2, fun hn => ?_⟩
  obtain ⟨b, off, rfl, hb, hc⟩ := h3 hn
  refine ⟨b, off, rfl, Nat.lt_of_lt_of_le hb kp.size, fun i hi => ?_⟩
  have e := kp.same b hb (ho b off _ _ rfl hn)
  rw [← hc i hi]
  unfold World.cell?
  simp only [e]

/-- What the document's Feed leaves. -/
def FeR (P : Nat → Prop) (w : World) (q : Nat) (enc : Int) (all d : List Int) (e : Ending) (w' : World) : Prop :=
  ∃ v', e = .returned v' ∧ Rd .i64 w' v' ((Cx.fd enc (all ++ d)).1.drop (Cx.fd enc all).1.length) ∧ Rf (fun k => P k ∨ w.heap.size ≤ k) w' q enc (all ++ d) (Cx.fd enc (all ++ d)).1.length ∧ Kps P w w'
set_option maxRecDepth 100000 in
set_option maxHeartbeats 8000000 in
theorem rFeed_any {P : Nat → Prop} (w : World) (q : Nat) (enc : Int) (he : Cx.known enc = true) (all d : List Int) (v : Value) (h : Rf P w q enc all (Cx.fd enc all).1.length) (hr : ∀ w', Kps P w w' → Rd .u8 w' v d) (hB : Byt (all ++ d)) (hz : (all.length + d.length) * 8 ≤ 140737488355328) :
    Calls Tryz.prog 17 #[.pointer (some ⟨q, 0, none⟩), v] w fun e w' => FeR P w q enc all d e w' := by
  have HP : Hid (P q) := by obtain ⟨_, _, p, _⟩ := id h; exact p
  have HR := hidIt hr
  have HB := hidIt hB
  have HZ := hidIt hz
  have HE := hidIt he
  have HTL : Hid ((Cx.fd enc all).1.length ≤ (Cx.fd enc (all ++ d)).1.length) := by unfold Hid; rw [Cx.fd_app enc _ all d (Nat.le_refl _)]; simp
  have HF0 := hidIt (h.mono (P' := fun k => P k ∨ w.heap.size ≤ k) (fun _ _ p => .inl p))
  obtain ⟨ao, cap, rfl, _⟩ := id (hr w (Kps.refl _ _))
  obtain ⟨i0, hi, hz0, hz1, hz2⟩ := info_parts Tryz.info_u8
  have HFE : Hid (∀ v' w', Rd .i64 w' v' ((Cx.fd enc (all ++ d)).1.drop (Cx.fd enc all).1.length) → Rf (fun k => P k ∨ w.heap.size ≤ k) w' q enc (all ++ d) (Cx.fd enc (all ++ d)).1.length → Kps P w w' → FeR P w q enc all d (.returned v') w') := fun v' w' h1 h2 h3 => ⟨v', rfl, h1, h2, h3⟩
  have hmB : (Cx.fd enc all).1.length ≤ all.length := by have := (Cx.fd_dec enc _ all (Nat.le_refl _)).2.2.2.2; omega
  have hdl : d.length ≤ 17592186044416 := by omega
  have HNL : Hid ((Cx.fd enc (all ++ d)).1.length ≤ 17592186044416) := by have := (Cx.fd_dec enc _ (all ++ d) (Nat.le_refl _)).2.2.2.2; rw [List.length_append] at this; unfold Hid; omega
  generalize (Cx.fd enc all).1.length = m at *
  clear h hr hB he
  go_enter Tryz.func17, Tryz.ntmps17
  go_wp2_with fail
  go_loopw [5] (fun i wr => ∃ j : Nat, j ≤ d.length ∧ i = .int .i64 j ∧ Hid (Rf (fun k => P k ∨ w.heap.size ≤ k) wr q enc (all ++ d.take j) m) ∧ Hid (Kps P w wr)) (fun i _ => d.length - (intOf i).toNat)
  case atStart => exact ⟨0, Nat.zero_le _, rfl, by unfold Hid; rw [List.take_zero, List.append_nil]; exact HF0.out, Kps.refl _ _⟩
  case round =>
    obtain ⟨j, hj, rfl, HRF, HKP⟩ := hrel
    clear HF0
    by_cases hjl : j < d.length
    · have hd1 : decide ((j : Int) < (d.length : Int)) = true := by simp; omega
      obtain ⟨v, hq, _, ow, hbk⟩ := HRF.out
      have HLX : Hid ((all ++ d.take j) ++ [d[j]?.getD 0] = all ++ d.take (j + 1)) := by
        unfold Hid
        rw [List.append_assoc, List.take_add_one, List.getElem?_eq_getElem hjl]; rfl
      have HL : Hid ((all ++ d.take j).length + 1 ≤ all.length + d.length ∧ (all.length + d.length) * 8 ≤ 140737488355328) := ⟨by rw [List.length_append, List.length_take]; omega, HZ.out⟩
      have hrw := HR.out w (Kps.refl _ _)
      obtain ⟨ao', cap', hv', _, hcp, hcl⟩ := hrw
      obtain ⟨b, off, rfl, _, _⟩ := hcl (List.length_pos_iff.1 (by omega))
      cases hv'
      have HCJ : Hid (∀ w', Kps P w w' → w'.cell? ⟨b, off + j, none⟩ = some (.int .u8 (d[j]?.getD 0))) := fun w' k => by
        obtain ⟨ao2, cap2, hv2, _, _, hc2⟩ := HR.out w' k
        obtain ⟨b2, off2, e2, _, hc3⟩ := hc2 (List.length_pos_iff.1 (by omega))
        subst e2
        cases hv2
        exact hc3 j hjl
      generalize d[j]?.getD 0 = x at *
      generalize all ++ d.take j = L at *
      have HQ := hidIt hq
      have OW := hidIt ow
      have HBK := hidIt hbk
      have c1 : wr.cell? ⟨q, 1, none⟩ = some v := (cells3 hq).2.1
      have hql : q < wr.heap.size := (Array.getElem?_eq_some_iff.1 hq).1
      have hji : (j : Int) < (d.length : Int) := by omega
      clear hq ow hbk hcl
      go_wp2_with fail
      refine wp_region_held_drew (S := fun w' => w'.cell? ⟨b, off + j, none⟩ = some (.int .u8 x)) (by kernel_rfl) (HCJ.out _ (HKP.out.trans (Kps.of_below (fun _ => False) (Below.refl _ _).drew) (fun _ _ e => e.elim))) (fun hHeld => ?_)
      refine wpAnyH_take (i := 0) (oi := _) (v := ?_) rfl (by kernel_rfl) (by kernel_rfl) (by kernel_rfl) (fun _ _ _ h => h) (Or.inl ⟨by rfl, ?_⟩) (by assumption) ?_
      rotate_left 1
      · intro wq hSw; (try dsimp only at hSw); go_simp; try (with_reducible rfl)
      try simp only [Act.put, List.getElem_toArray, List.getElem_cons_zero, List.setIfInBounds_toArray, List.set_cons_zero, List.set_cons_succ]
      refine wpAnyH_take (i := 1) (oi := _) (v := ?_) rfl (by kernel_rfl) (by kernel_rfl) (by kernel_rfl) (fun _ _ _ h => h) (Or.inl ⟨by rfl, ?_⟩) (by assumption) ?_
      rotate_left 1
      · intro wq hSw; (try dsimp only at hSw); go_simp; try (with_reducible rfl)
      try simp only [Act.put, List.getElem_toArray, List.getElem_cons_succ, List.getElem_cons_zero, List.setIfInBounds_toArray, List.set_cons_zero, List.set_cons_succ]
      refine wpAnyH_take (i := 2) (oi := _) (v := ?_) rfl (by kernel_rfl) (by kernel_rfl) (by kernel_rfl) (fun _ _ _ h => h) (Or.inl ⟨by rfl, ?_⟩) (by assumption) ?_
      rotate_left 1
      · intro wq hSw; (try dsimp only at hSw); go_simp; try (with_reducible rfl)
      try simp only [Act.put, List.getElem_toArray, List.getElem_cons_succ, List.getElem_cons_zero, List.setIfInBounds_toArray, List.set_cons_zero, List.set_cons_succ]
      refine wpAnyH_take (i := 3) (oi := _) (v := ?_) rfl (by kernel_rfl) (by kernel_rfl) (by kernel_rfl) (fun _ _ _ h => h) (Or.inl ⟨by rfl, ?_⟩) (by assumption) ?_
      rotate_left 1
      · intro wq hSw; (try dsimp only at hSw); go_simp; try (with_reducible rfl)
      try simp only [Act.put, List.getElem_toArray, List.getElem_cons_succ, List.getElem_cons_zero, List.setIfInBounds_toArray, List.set_cons_zero, List.set_cons_succ]
      refine wpAnyH_take (i := 5) (oi := _) (v := ?_) rfl (by kernel_rfl) (by kernel_rfl) (by kernel_rfl) (fun _ _ _ h => h) (Or.inl ⟨by rfl, ?_⟩) (by assumption) ?_
      rotate_left 1
      · intro wq hSw; (try dsimp only at hSw); go_simp; try (with_reducible rfl)
      try simp only [Act.put, List.getElem_toArray, List.getElem_cons_succ, List.getElem_cons_zero, List.setIfInBounds_toArray, List.set_cons_zero, List.set_cons_succ]
      refine wpAnyH_take (i := 6) (oi := _) (v := ?_) rfl (by kernel_rfl) (by kernel_rfl) (by kernel_rfl) (fun _ _ _ h => h) (Or.inl ⟨by rfl, ?_⟩) (by assumption) ?_
      rotate_left 1
      · intro wq hSw; (try dsimp only at hSw); go_simp; try (with_reducible rfl)
      try simp only [Act.put, List.getElem_toArray, List.getElem_cons_succ, List.getElem_cons_zero, List.setIfInBounds_toArray, List.set_cons_zero, List.set_cons_succ]
      refine wpAnyH_take (i := 7) (oi := _) (v := ?_) rfl (by kernel_rfl) (by kernel_rfl) (by kernel_rfl) (fun _ _ _ h => h) (Or.inl ⟨by rfl, ?_⟩) (by assumption) ?_
      rotate_left 1
      · intro wq hSw; (try dsimp only at hSw); go_simp; try (with_reducible rfl)
      try simp only [Act.put, List.getElem_toArray, List.getElem_cons_succ, List.getElem_cons_zero, List.setIfInBounds_toArray, List.set_cons_zero, List.set_cons_succ]
      refine wpAnyH_take (i := 8) (oi := _) (v := ?_) rfl (by kernel_rfl) (by kernel_rfl) (by kernel_rfl) (fun _ _ _ h => h) (Or.inl ⟨by rfl, ?_⟩) (by assumption) ?_
      rotate_left 1
      · intro wq hSw; (try dsimp only at hSw); go_simp; try (with_reducible rfl)
      try simp only [Act.put, List.getElem_toArray, List.getElem_cons_succ, List.getElem_cons_zero, List.setIfInBounds_toArray, List.set_cons_zero, List.set_cons_succ]
      refine wpAnyH_ready (rs := [4, 9]) (by kernel_rfl) (by simp) ?_
      refine (AllReadyH.cons (o := _) rfl (fun K hK => ?_) (AllReadyH.cons (o := _) rfl (fun K hK => ?_) AllReadyH.nil))
      · skip
        go_simp
        refine hK.out _ _ ?_ (fun hHeld => ?_)
        · exact HCJ.out _ (HKP.out.trans (Kps.of_below (fun _ => False) (Below.refl _ _).drew) (fun _ _ e => e.elim))
        clear hK K
        try simp only [Act.put, List.getElem_toArray, List.getElem_cons_succ, List.getElem_cons_zero, List.setIfInBounds_toArray, List.set_cons_zero, List.set_cons_succ]
        refine wpAnyH_ready (rs := [9]) (by kernel_rfl) (by simp) ?_
        refine AllReadyH.cons (o := _) rfl (fun K hK => ?_) AllReadyH.nil
        go_simp
        refine hK.out _ _ ?_ (fun hHeld => ?_)
        · exact HCJ.out _ (HKP.out.trans (Kps.of_below (fun _ => False) (ext_alloc (Below.refl _ _) _).drew) (fun _ _ e => e.elim))
        clear hK K
        try simp only [Act.put, List.getElem_toArray, List.getElem_cons_succ, List.getElem_cons_zero, List.setIfInBounds_toArray, List.set_cons_zero, List.set_cons_succ]
        refine wpAnyH_ready (rs := [10]) (by kernel_rfl) (by simp) ?_
        refine AllReadyH.cons (o := _) rfl (fun K hK => ?_) AllReadyH.nil
        rw [if_pos (by rfl)]
        refine wp_append_blk _ _ 35 (by rfl) 0 5 i0 (.int .u8 0) 1 1 Tryz.underlying35 hi hz0 hz1 hz2 rfl (by decide) v L.length (L.map (Value.int .u8)) (by rfl) (own_ext OW.out (ext_alloc (Below.refl _ _) _).drew) ⟨wr.heap.size, 0, none⟩ 1 1 [.int .u8 x] (by rfl) rfl (cell1_new _ _ _) (one_u8 _) (by have := HL.out; unfold maxLen; omega) (by have := HL.out; omega) (Nat.zero_le _) (by decide) ?_; intro v9 w9 own9 hg9 hv9; obtain ⟨ao9, c9, rfl⟩ := form_own own9; have PU := hidIt (rf_push HQ.out HP.out OW.out HBK.out HKP.out own9 hg9 hv9); clear own9 hg9 hv9; have f9 : w9.frozen? ⟨q, 1, none⟩ = false := unfrozen PU.out.1 1; have z9 : w9.cell? ⟨q, 1, none⟩ = some v := (cells3 PU.out.1).2.1
        refine hK.out _ _ ?_ (fun hHeld => ?_)
        · exact HCJ.out _ PU.out.2.1
        clear hK K
        try simp only [Act.put, List.getElem_toArray, List.getElem_cons_succ, List.getElem_cons_zero, List.setIfInBounds_toArray, List.set_cons_zero, List.set_cons_succ]
        refine wpAnyH_take (i := 11) (oi := _) (v := ?_) rfl (by kernel_rfl) (by kernel_rfl) (by kernel_rfl) (fun _ _ _ h => h) (Or.inl ⟨by rfl, ?_⟩) (by assumption) ?_
        rotate_left 1
        · intro wq hSw; (try dsimp only at hSw); go_simp; try (with_reducible rfl)
        try simp only [Act.put, List.getElem_toArray, List.getElem_cons_succ, List.getElem_cons_zero, List.setIfInBounds_toArray, List.set_cons_zero, List.set_cons_succ]
        refine wpAnyH_take (i := 12) (oi := _) (v := ?_) rfl (by kernel_rfl) (by kernel_rfl) (by kernel_rfl) (fun _ _ _ h => h) (Or.inl ⟨by rfl, ?_⟩) (by assumption) ?_
        rotate_left 1
        · intro wq hSw; (try dsimp only at hSw); go_simp; try (with_reducible rfl)
        try simp only [Act.put, List.getElem_toArray, List.getElem_cons_succ, List.getElem_cons_zero, List.setIfInBounds_toArray, List.set_cons_zero, List.set_cons_succ]
        refine wpAnyH_ready (rs := [13]) (by kernel_rfl) (by simp) ?_
        refine AllReadyH.cons (o := _) rfl (fun K hK => ?_) AllReadyH.nil
        go_simp
        refine hK.out _ _ ?_ (fun hHeld => ?_)
        · exact HCJ.out _ PU.out.2.2.2
        clear hK K
        try simp only [Act.put, List.getElem_toArray, List.getElem_cons_succ, List.getElem_cons_zero, List.setIfInBounds_toArray, List.set_cons_zero, List.set_cons_succ]
        refine wpAnyH_done (by kernel_rfl) ?_ _
        go_wp2_with fail
        have PX : Hid (Rf (fun k => P k ∨ w.heap.size ≤ k) (w9.setCell ⟨q, 1, none⟩ (.slice ao9 (L.length + 1) c9)) q enc (all ++ d.take (j + 1)) m) := by
          have := PU.out.2.2.1
          rw [HLX.out] at this
          exact this
        have PK := hidIt PU.out.2.2.2
        clear PU f9 z9
        generalize w9.setCell ⟨q, 1, none⟩ (.slice ao9 (L.length + 1) c9) = w10 at *
        go_roundw
        case rel => exact ⟨j + 1, by omega, by go_num, PX.out, PK.out⟩
        case measure => simp [intOf]; omega
      · skip
        go_simp
        refine hK.out _ _ ?_ (fun hHeld => ?_)
        · exact HCJ.out _ (HKP.out.trans (Kps.of_below (fun _ => False) (ext_alloc (Below.refl _ _) _).drew) (fun _ _ e => e.elim))
        clear hK K
        try simp only [Act.put, List.getElem_toArray, List.getElem_cons_succ, List.getElem_cons_zero, List.setIfInBounds_toArray, List.set_cons_zero, List.set_cons_succ]
        refine wpAnyH_ready (rs := [4]) (by kernel_rfl) (by simp) ?_
        refine AllReadyH.cons (o := _) rfl (fun K hK => ?_) AllReadyH.nil
        go_simp
        refine hK.out _ _ ?_ (fun hHeld => ?_)
        · exact HCJ.out _ (HKP.out.trans (Kps.of_below (fun _ => False) (ext_alloc (Below.refl _ _) _).drew) (fun _ _ e => e.elim))
        clear hK K
        try simp only [Act.put, List.getElem_toArray, List.getElem_cons_succ, List.getElem_cons_zero, List.setIfInBounds_toArray, List.set_cons_zero, List.set_cons_succ]
        refine wpAnyH_ready (rs := [10]) (by kernel_rfl) (by simp) ?_
        refine AllReadyH.cons (o := _) rfl (fun K hK => ?_) AllReadyH.nil
        rw [if_pos (by rfl)]
        refine wp_append_blk _ _ 35 (by rfl) 0 5 i0 (.int .u8 0) 1 1 Tryz.underlying35 hi hz0 hz1 hz2 rfl (by decide) v L.length (L.map (Value.int .u8)) (by rfl) (own_ext OW.out (ext_alloc (Below.refl _ _) _).drew) ⟨wr.heap.size, 0, none⟩ 1 1 [.int .u8 x] (by rfl) rfl (cell1_new _ _ _) (one_u8 _) (by have := HL.out; unfold maxLen; omega) (by have := HL.out; omega) (Nat.zero_le _) (by decide) ?_; intro v9 w9 own9 hg9 hv9; obtain ⟨ao9, c9, rfl⟩ := form_own own9; have PU := hidIt (rf_push HQ.out HP.out OW.out HBK.out HKP.out own9 hg9 hv9); clear own9 hg9 hv9; have f9 : w9.frozen? ⟨q, 1, none⟩ = false := unfrozen PU.out.1 1; have z9 : w9.cell? ⟨q, 1, none⟩ = some v := (cells3 PU.out.1).2.1
        refine hK.out _ _ ?_ (fun hHeld => ?_)
        · exact HCJ.out _ PU.out.2.1
        clear hK K
        try simp only [Act.put, List.getElem_toArray, List.getElem_cons_succ, List.getElem_cons_zero, List.setIfInBounds_toArray, List.set_cons_zero, List.set_cons_succ]
        refine wpAnyH_take (i := 11) (oi := _) (v := ?_) rfl (by kernel_rfl) (by kernel_rfl) (by kernel_rfl) (fun _ _ _ h => h) (Or.inl ⟨by rfl, ?_⟩) (by assumption) ?_
        rotate_left 1
        · intro wq hSw; (try dsimp only at hSw); go_simp; try (with_reducible rfl)
        try simp only [Act.put, List.getElem_toArray, List.getElem_cons_succ, List.getElem_cons_zero, List.setIfInBounds_toArray, List.set_cons_zero, List.set_cons_succ]
        refine wpAnyH_take (i := 12) (oi := _) (v := ?_) rfl (by kernel_rfl) (by kernel_rfl) (by kernel_rfl) (fun _ _ _ h => h) (Or.inl ⟨by rfl, ?_⟩) (by assumption) ?_
        rotate_left 1
        · intro wq hSw; (try dsimp only at hSw); go_simp; try (with_reducible rfl)
        try simp only [Act.put, List.getElem_toArray, List.getElem_cons_succ, List.getElem_cons_zero, List.setIfInBounds_toArray, List.set_cons_zero, List.set_cons_succ]
        refine wpAnyH_ready (rs := [13]) (by kernel_rfl) (by simp) ?_
        refine AllReadyH.cons (o := _) rfl (fun K hK => ?_) AllReadyH.nil
        go_simp
        refine hK.out _ _ ?_ (fun hHeld => ?_)
        · exact HCJ.out _ PU.out.2.2.2
        clear hK K
        try simp only [Act.put, List.getElem_toArray, List.getElem_cons_succ, List.getElem_cons_zero, List.setIfInBounds_toArray, List.set_cons_zero, List.set_cons_succ]
        refine wpAnyH_done (by kernel_rfl) ?_ _
        go_wp2_with fail
        have PX : Hid (Rf (fun k => P k ∨ w.heap.size ≤ k) (w9.setCell ⟨q, 1, none⟩ (.slice ao9 (L.length + 1) c9)) q enc (all ++ d.take (j + 1)) m) := by
          have := PU.out.2.2.1
          rw [HLX.out] at this
          exact this
        have PK := hidIt PU.out.2.2.2
        clear PU f9 z9
        generalize w9.setCell ⟨q, 1, none⟩ (.slice ao9 (L.length + 1) c9) = w10 at *
        go_roundw
        case rel => exact ⟨j + 1, by omega, by go_num, PX.out, PK.out⟩
        case measure => simp [intOf]; omega
    · obtain rfl : j = d.length := by omega
      have hd1 : decide ((d.length : Int) < (d.length : Int)) = false := by simp
      rw [List.take_length] at HRF
      obtain ⟨A, hA⟩ : ∃ A, A = all ++ d := ⟨_, rfl⟩
      rw [← hA] at HRF HB HTL HFE HNL
      have HAL : Hid (A.length = all.length + d.length) := by unfold Hid; rw [hA, List.length_append]
      clear hA
      obtain ⟨vv, hq, _, ow, hbk⟩ := id HRF.out
      obtain ⟨av, ac, rfl⟩ := form_own ow
      obtain ⟨c0, c1, c2⟩ := cells3 hq
      have hql : q < wr.heap.size := (Array.getElem?_eq_some_iff.1 hq).1
      have HH := hidIt (rHeld_any wr q enc A m HRF.out HB.out (by have := HAL.out; have := HZ.out; omega))
      have hhl : (Cx.fd enc A).2.length ≤ A.length := (Cx.fd_dec enc _ A (Nat.le_refl _)).2.2.1
      have hcut := Cx.fd_cut enc _ A (Nat.le_refl _)
      have hac : A.length ≤ ac ∧ ac ≤ 9223372036854775807 := by
        rcases ow.2 with ⟨e, e2⟩ | ⟨g, cp, cur, e, _, _, h1, h2, _⟩
        · injection e with e1 e2 e3; exact ⟨by omega, by omega⟩
        · injection e with e1 e2 e3; subst e3; exact ⟨h1, h2⟩
      obtain ⟨n, hn⟩ : ∃ n, n = A.length - (Cx.fd enc A).2.length := ⟨_, rfl⟩
      rw [← hn] at hcut
      have hrdA : Rd .u8 wr (.slice av n ac) (A.take n) := by
        have := (Rd.of_own ow).take n (by omega)
        exact this
      have DE : Hid (∀ w', Below wr.heap.size wr w' → Calls Tryz.prog 20 #[.int .i64 enc, .slice av n ac] w' fun e w'' => ∃ l, e = .returned (.tuple #[l, .int .i64 0]) ∧ w''.ownsRow w'.heap.size 3 1 l (Cx.fd enc A).1.length ((Cx.fd enc A).1.map (Value.int .i64)) ∧ Below w'.heap.size w' w'') := fun w' hw => by
        have hz := HZ.out
        have hal := HAL.out
        have := rDecode_any enc _ (A.take n) w' (hrdA.ext hw) (HB.out.take n) (by rw [List.length_take]; omega)
        rw [Cx.dd_yes enc _ HE.out, hcut] at this
        have e0 : Cx.er enc = 0 := by unfold Cx.er; rw [HE.out]; rfl
        rw [e0] at this
        exact this
      have hnl : n ≤ A.length := by omega
      obtain ⟨hd, hhd⟩ : ∃ hd, hd = (Cx.fd enc A).2.length := ⟨_, rfl⟩
      rw [← hhd] at HH
      have s1 : IntKind.i64.wrap ((A.length : Int) - (hd : Int)) = (n : Int) := by have := HAL.out; have := HZ.out; rw [IntKind.wrap_i64]; omega
      have s2 : (A.length : Int) - (hd : Int) = (n : Int) := by omega
      have s3 : IntKind.i64.wrap (n : Int) = (n : Int) := by have := HAL.out; have := HZ.out; rw [IntKind.wrap_i64]; omega
      have hac1 : A.length ≤ ac := hac.1
      have hac2 : ac ≤ 9223372036854775807 := hac.2
      have hnac : n ≤ ac := by omega
      clear hq ow hbk hcut hhl hhd hrdA hac HR hn
      generalize (Cx.fd enc A).1 = TT at *
      go_upto_region 6 with (go_at_call 29; refine HH.out.mono ?_; rintro e w2 ⟨rfl, hb2⟩; (try dsimp only); have HB2 := hidIt hb2; clear hb2)
      have C0 : Hid (w2.cell? ⟨q, 0, none⟩ = some (.int .i64 enc)) := (HB2.out.cell (p := ⟨q, 0, none⟩) hql).trans c0
      have C1 : Hid (w2.cell? ⟨q, 1, none⟩ = some (.slice av A.length ac)) := (HB2.out.cell (p := ⟨q, 1, none⟩) hql).trans c1
      have hql2 : q < w2.heap.size := Nat.lt_of_lt_of_le hql HB2.out.size
      clear c0 c1 HH
      refine wp_region_held_drew (S := fun w' => w'.cell? ⟨q, 0, none⟩ = some (.int .i64 enc) ∧ w'.cell? ⟨q, 1, none⟩ = some (.slice av A.length ac)) (by kernel_rfl) (⟨C0.out, C1.out⟩) (fun hHeld => ?_)
      refine wpAnyH_take (i := 0) (oi := _) (v := ?_) rfl (by kernel_rfl) (by kernel_rfl) (by kernel_rfl) (fun _ _ _ h => h) (Or.inl ⟨by rfl, ?_⟩) (by assumption) ?_
      rotate_left 1
      · intro wq hSw; (try dsimp only at hSw); go_simp; try (with_reducible rfl)
      try simp only [Act.put, List.getElem_toArray, List.getElem_cons_zero, List.setIfInBounds_toArray, List.set_cons_zero, List.set_cons_succ]
      refine wpAnyH_take (i := 1) (oi := _) (v := ?_) rfl (by kernel_rfl) (by kernel_rfl) (by kernel_rfl) (fun _ _ _ h => h) (Or.inl ⟨by rfl, ?_⟩) (by assumption) ?_
      rotate_left 1
      · intro wq hSw; (try dsimp only at hSw); go_simp; try (with_reducible rfl)
      try simp only [Act.put, List.getElem_toArray, List.getElem_cons_succ, List.getElem_cons_zero, List.setIfInBounds_toArray, List.set_cons_zero, List.set_cons_succ]
      refine wpAnyH_take (i := 2) (oi := _) (v := ?_) rfl (by kernel_rfl) (by kernel_rfl) (by kernel_rfl) (fun _ _ _ h => h) (Or.inl ⟨by rfl, ?_⟩) (by assumption) ?_
      rotate_left 1
      · intro wq hSw; (try dsimp only at hSw); go_simp; try (with_reducible rfl)
      try simp only [Act.put, List.getElem_toArray, List.getElem_cons_succ, List.getElem_cons_zero, List.setIfInBounds_toArray, List.set_cons_zero, List.set_cons_succ]
      refine wpAnyH_take (i := 3) (oi := _) (v := ?_) rfl (by kernel_rfl) (by kernel_rfl) (by kernel_rfl) (fun _ _ _ h => h) (Or.inl ⟨by rfl, ?_⟩) (by assumption) ?_
      rotate_left 1
      · intro wq hSw; (try dsimp only at hSw); go_simp; try (with_reducible rfl)
      try simp only [Act.put, List.getElem_toArray, List.getElem_cons_succ, List.getElem_cons_zero, List.setIfInBounds_toArray, List.set_cons_zero, List.set_cons_succ]
      refine wpAnyH_take (i := 4) (oi := _) (v := ?_) rfl (by kernel_rfl) (by kernel_rfl) (by kernel_rfl) (fun _ _ _ h => h) (Or.inl ⟨by rfl, ?_⟩) (by assumption) ?_
      rotate_left 1
      · intro wq hSw; (try dsimp only at hSw); go_simp; try (with_reducible rfl)
      try simp only [Act.put, List.getElem_toArray, List.getElem_cons_succ, List.getElem_cons_zero, List.setIfInBounds_toArray, List.set_cons_zero, List.set_cons_succ]
      refine wpAnyH_take (i := 5) (oi := _) (v := ?_) rfl (by kernel_rfl) (by kernel_rfl) (by kernel_rfl) (fun _ _ _ h => h) (Or.inl ⟨by rfl, ?_⟩) (by assumption) ?_
      rotate_left 1
      · intro wq hSw; (try dsimp only at hSw); go_simp; try (with_reducible rfl)
      try simp only [Act.put, List.getElem_toArray, List.getElem_cons_succ, List.getElem_cons_zero, List.setIfInBounds_toArray, List.set_cons_zero, List.set_cons_succ]
      refine wpAnyH_take (i := 6) (oi := _) (v := ?_) rfl (by kernel_rfl) (by kernel_rfl) (by kernel_rfl) (fun _ _ _ h => h) (Or.inl ⟨by rfl, ?_⟩) (by assumption) ?_
      rotate_left 1
      · intro wq hSw; (try dsimp only at hSw); go_simp; try (with_reducible rfl)
      try simp only [Act.put, List.getElem_toArray, List.getElem_cons_succ, List.getElem_cons_zero, List.setIfInBounds_toArray, List.set_cons_zero, List.set_cons_succ]
      refine wpAnyH_take (i := 7) (oi := _) (v := ?_) rfl (by kernel_rfl) (by kernel_rfl) (by kernel_rfl) (fun _ _ _ h => h) (Or.inl ⟨by rfl, ?_⟩) (by assumption) ?_
      rotate_left 1
      · intro wq hSw; (try dsimp only at hSw); go_simp; try (with_reducible rfl)
      try simp only [Act.put, List.getElem_toArray, List.getElem_cons_succ, List.getElem_cons_zero, List.setIfInBounds_toArray, List.set_cons_zero, List.set_cons_succ]
      refine wpAnyH_take (i := 8) (oi := _) (v := ?_) rfl (by kernel_rfl) (by kernel_rfl) (by kernel_rfl) (fun _ _ _ h => h) (Or.inl ⟨by rfl, ?_⟩) (by assumption) ?_
      rotate_left 1
      · intro wq hSw; (try dsimp only at hSw); go_simp; try (with_reducible rfl)
      try simp only [Act.put, List.getElem_toArray, List.getElem_cons_succ, List.getElem_cons_zero, List.setIfInBounds_toArray, List.set_cons_zero, List.set_cons_succ]
      refine wpAnyH_take (i := 9) (oi := _) (v := ?_) rfl (by kernel_rfl) (by kernel_rfl) (by kernel_rfl) (fun _ _ _ h => h) (Or.inl ⟨by rfl, ?_⟩) (by assumption) ?_
      rotate_left 1
      · intro wq hSw; (try dsimp only at hSw); go_simp; try (with_reducible rfl)
      try simp only [Act.put, List.getElem_toArray, List.getElem_cons_succ, List.getElem_cons_zero, List.setIfInBounds_toArray, List.set_cons_zero, List.set_cons_succ]
      refine wpAnyH_take (i := 10) (oi := _) (v := ?_) rfl (by kernel_rfl) (by kernel_rfl) (by kernel_rfl) (fun _ _ _ h => h) (Or.inl ⟨by rfl, ?_⟩) (by assumption) ?_
      rotate_left 1
      · intro wq hSw; (try dsimp only at hSw); go_simp; try (with_reducible rfl)
      try simp only [Act.put, List.getElem_toArray, List.getElem_cons_succ, List.getElem_cons_zero, List.setIfInBounds_toArray, List.set_cons_zero, List.set_cons_succ]
      refine wpAnyH_take (i := 11) (oi := _) (v := ?_) rfl (by kernel_rfl) (by kernel_rfl) (by kernel_rfl) (fun _ _ _ h => h) (Or.inl ⟨by rfl, ?_⟩) (by assumption) ?_
      rotate_left 1
      · intro wq hSw; (try dsimp only at hSw); go_simp; try (with_reducible rfl)
      try simp only [Act.put, List.getElem_toArray, List.getElem_cons_succ, List.getElem_cons_zero, List.setIfInBounds_toArray, List.set_cons_zero, List.set_cons_succ]
      refine wpAnyH_take (i := 12) (oi := _) (v := ?_) rfl (by kernel_rfl) (by kernel_rfl) (by kernel_rfl) (fun _ _ _ h => h) (Or.inl ⟨by rfl, ?_⟩) (by assumption) ?_
      rotate_left 1
      · intro wq hSw; (try dsimp only at hSw); go_simp; try (with_reducible rfl)
      try simp only [Act.put, List.getElem_toArray, List.getElem_cons_succ, List.getElem_cons_zero, List.setIfInBounds_toArray, List.set_cons_zero, List.set_cons_succ]
      refine wpAnyH_take (i := 13) (oi := _) (v := ?_) rfl (by kernel_rfl) (by kernel_rfl) (by kernel_rfl) (fun _ _ _ h => h) (Or.inl ⟨by rfl, ?_⟩) (by assumption) ?_
      rotate_left 1
      · intro wq hSw; (try dsimp only at hSw); go_simp; try (with_reducible rfl)
      try simp only [Act.put, List.getElem_toArray, List.getElem_cons_succ, List.getElem_cons_zero, List.setIfInBounds_toArray, List.set_cons_zero, List.set_cons_succ]
      refine wpAnyH_take (i := 14) (oi := _) (v := ?_) rfl (by kernel_rfl) (by kernel_rfl) (by kernel_rfl) (fun _ _ _ h => h) (Or.inl ⟨by rfl, ?_⟩) (by assumption) ?_
      rotate_left 1
      · intro wq hSw; (try dsimp only at hSw); go_simp; try (with_reducible rfl)
      try simp only [Act.put, List.getElem_toArray, List.getElem_cons_succ, List.getElem_cons_zero, List.setIfInBounds_toArray, List.set_cons_zero, List.set_cons_succ]
      refine wpAnyH_take (i := 15) (oi := _) (v := ?_) rfl (by kernel_rfl) (by kernel_rfl) (by kernel_rfl) (fun _ _ _ h => h) (Or.inl ⟨by rfl, ?_⟩) (by assumption) ?_
      rotate_left 1
      · intro wq hSw; (try dsimp only at hSw); go_simp; try (with_reducible rfl)
      try simp only [Act.put, List.getElem_toArray, List.getElem_cons_succ, List.getElem_cons_zero, List.setIfInBounds_toArray, List.set_cons_zero, List.set_cons_succ]
      refine wpAnyH_ready (rs := [16]) (by kernel_rfl) (by simp) ?_
      refine AllReadyH.cons (o := _) rfl (fun K hK => ?_) AllReadyH.nil
      go_simp
      refine (DE.out _ HB2.out.drew).mono ?_
      rintro e w3 ⟨l, rfl, hown, hb3⟩
      have HB3 := hidIt (ext_trans (Below.refl _ _).drew hb3)
      have HOW := hidIt hown
      clear hown hb3
      dsimp only
      refine hK.out _ _ ?_ (fun hHeld => ?_)
      · exact ⟨(HB3.out.cell (p := ⟨q, 0, none⟩) hql2).trans C0.out, (HB3.out.cell (p := ⟨q, 1, none⟩) hql2).trans C1.out⟩
      clear hK K
      try simp only [Act.put, List.getElem_toArray, List.getElem_cons_succ, List.getElem_cons_zero, List.setIfInBounds_toArray, List.set_cons_zero, List.set_cons_succ]
      refine wpAnyH_take (i := 17) (oi := _) (v := ?_) rfl (by kernel_rfl) (by kernel_rfl) (by kernel_rfl) (fun _ _ _ h => h) (Or.inl ⟨by rfl, ?_⟩) (by assumption) ?_
      rotate_left 1
      · intro wq hSw; (try dsimp only at hSw); go_simp; try (with_reducible rfl)
      try simp only [Act.put, List.getElem_toArray, List.getElem_cons_succ, List.getElem_cons_zero, List.setIfInBounds_toArray, List.set_cons_zero, List.set_cons_succ]
      refine wpAnyH_take (i := 18) (oi := _) (v := ?_) rfl (by kernel_rfl) (by kernel_rfl) (by kernel_rfl) (fun _ _ _ h => h) (Or.inl ⟨by rfl, ?_⟩) (by assumption) ?_
      rotate_left 1
      · intro wq hSw; (try dsimp only at hSw); go_simp; try (with_reducible rfl)
      try simp only [Act.put, List.getElem_toArray, List.getElem_cons_succ, List.getElem_cons_zero, List.setIfInBounds_toArray, List.set_cons_zero, List.set_cons_succ]
      refine wpAnyH_take (i := 19) (oi := _) (v := ?_) rfl (by kernel_rfl) (by kernel_rfl) (by kernel_rfl) (fun _ _ _ h => h) (Or.inl ⟨by rfl, ?_⟩) (by assumption) ?_
      rotate_left 1
      · intro wq hSw; (try dsimp only at hSw); go_simp; try (with_reducible rfl)
      try simp only [Act.put, List.getElem_toArray, List.getElem_cons_succ, List.getElem_cons_zero, List.setIfInBounds_toArray, List.set_cons_zero, List.set_cons_succ]
      refine wpAnyH_take (i := 20) (oi := _) (v := ?_) rfl (by kernel_rfl) (by kernel_rfl) (by kernel_rfl) (fun _ _ _ h => h) (Or.inl ⟨by rfl, ?_⟩) (by assumption) ?_
      rotate_left 1
      · intro wq hSw; (try dsimp only at hSw); go_simp; try (with_reducible rfl)
      try simp only [Act.put, List.getElem_toArray, List.getElem_cons_succ, List.getElem_cons_zero, List.setIfInBounds_toArray, List.set_cons_zero, List.set_cons_succ]
      refine wpAnyH_take (i := 21) (oi := _) (v := ?_) rfl (by kernel_rfl) (by kernel_rfl) (by kernel_rfl) (fun _ _ _ h => h) (Or.inl ⟨by rfl, ?_⟩) (by assumption) ?_
      rotate_left 1
      · intro wq hSw; (try dsimp only at hSw); go_simp; try (with_reducible rfl)
      try simp only [Act.put, List.getElem_toArray, List.getElem_cons_succ, List.getElem_cons_zero, List.setIfInBounds_toArray, List.set_cons_zero, List.set_cons_succ]
      refine wpAnyH_done (by kernel_rfl) ?_ _
      skip
      have HW3 := hidIt (ext_trans HB2.out HB3.out)
      have RF3 := hidIt (HRF.out.ext HW3.out)
      have c2' : w3.cell? ⟨q, 2, none⟩ = some (.int .i64 m) := (HW3.out.cell (p := ⟨q, 2, none⟩) hql).trans c2
      have KP3 := hidIt (HKP.out.trans (Kps.of_below (fun _ => False) HW3.out) (fun _ _ e => e.elim))
      have RT := hidIt (rf_told RF3.out TT.length)
      have fz := RT.out.2.2
      have htl : m ≤ TT.length := HTL.out
      have FIN : Hid (∀ v', Rd .i64 w3 v' (TT.drop m) → (∀ b off n c, v' = .slice (some ⟨b, off, none⟩) n c → b ≠ q) → FeR P w q enc all d (.returned v') (w3.setCell ⟨q, 2, none⟩ (.int .i64 TT.length))) := fun v' h1 h2 => by
        refine HFE.out _ _ (rd_kps h1 (o := fun k => k = q) ?_ (fun b off n c e _ e2 => h2 b off n c e e2)) RT.out.1 (KP3.out.trans RT.out.2.1 (fun i hi e => e.elim id (fun h => by omega)))
        obtain ⟨v5, hq5, _⟩ := RF3.out
        exact Kps.grown (set1 hq5 2 _).2 (fun k e _ => by cases e; rfl)
      have hlen64 : TT.length ≤ 17592186044416 := by
        have h1 := Rd.of_own HOW.out
        have h2 := HOW.out.1
        have := HNL.out
        omega
      clear c2 HW3 HB2 HB3 HRF HKP RF3 KP3 RT HFE HTL C0 C1
      rcases cut_own HOW.out htl with ⟨rfl, rfl⟩ | ⟨g, cp, hgb, rfl, hcp1, hcp2, hrd⟩
      · obtain rfl : m = 0 := by simpa using htl
        go_wp2_with fail
        go_ret
        exact FIN.out _ (rd_nil _ _) (by intro b off n c e; cases e)
      · have hcp3 : cp ≤ 9223372036854775807 := hcp2
        have hgq : g ≠ q := by have h1 : w2.heap.size ≤ g := hgb; omega
        have HRD := hidIt (FIN.out _ hrd (by intro b off n c e; split at e <;> (cases e; exact hgq)))
        clear hrd hcp2 FIN hgb
        by_cases hcm : m = cp
        · subst hcm
          rw [if_pos rfl, Nat.sub_self] at HRD
          have hTm : TT.length = m := by omega
          go_wp2_with fail
          rw [hTm, Nat.sub_self] at HRD
          go_ret
          exact HRD.out
        · rw [if_neg (fun e => hcm e.symm)] at HRD
          have hcm2 : ¬ cp = m := fun e => hcm e.symm
          clear hcm
          go_wp2_with fail
          go_ret
          exact HRD.out

/-- What the document's Close leaves. -/
def ClR (P : Nat → Prop) (w : World) (q : Nat) (enc : Int) (all : List Int) (e : Ending) (w' : World) : Prop :=
  ∃ v', e = .returned v' ∧ Rd .i64 w' v' ((Cx.dec enc all).drop (Cx.fd enc all).1.length) ∧ Rf P w' q enc [] 0 ∧ Kps P w w'
set_option maxRecDepth 100000 in
set_option maxHeartbeats 8000000 in
theorem rClose_any {P : Nat → Prop} (w : World) (q : Nat) (enc : Int) (he : Cx.known enc = true) (all : List Int) (h : Rf P w q enc all (Cx.fd enc all).1.length) (hB : Byt all) (hz : all.length * 8 ≤ 140737488355328) :
    Calls Tryz.prog 31 #[.pointer (some ⟨q, 0, none⟩)] w fun e w' => ClR P w q enc all e w' := by
  have HRF := hidIt h
  have HCE : Hid (∀ v' w', Rd .i64 w' v' ((Cx.dec enc all).drop (Cx.fd enc all).1.length) → Rf P w' q enc [] 0 → Kps P w w' → ClR P w q enc all (.returned v') w') := fun v' w' h1 h2 h3 => ⟨v', rfl, h1, h2, h3⟩
  have hmB : (Cx.fd enc all).1.length ≤ all.length := by have := (Cx.fd_dec enc _ all (Nat.le_refl _)).2.2.2.2; omega
  have htl : (Cx.fd enc all).1.length ≤ (Cx.dec enc all).length := by
    have := (Cx.fd_dec enc _ all (Nat.le_refl _)).1 []
    rw [List.append_nil] at this
    rw [this, List.length_append]
    omega
  have hdl : (Cx.dec enc all).length ≤ all.length := Cx.dec_len enc _ all
  obtain ⟨vv, hq, _, ow, hbk⟩ := id HRF.out
  obtain ⟨av, ac, rfl⟩ := form_own ow
  obtain ⟨c0, c1, c2⟩ := cells3 hq
  have hql : q < w.heap.size := (Array.getElem?_eq_some_iff.1 hq).1
  have hrd := Rd.of_own ow
  have DE : Hid (∀ w', Below w.heap.size w w' → Calls Tryz.prog 20 #[.int .i64 enc, .slice av all.length ac] w' fun e w'' => ∃ l, e = .returned (.tuple #[l, .int .i64 0]) ∧ w''.ownsRow w'.heap.size 3 1 l (Cx.dec enc all).length ((Cx.dec enc all).map (Value.int .i64)) ∧ Below w'.heap.size w' w'') := fun w' hw => by
    have := rDecode_any enc _ all w' (hrd.ext hw) hB hz
    rw [Cx.dd_yes enc _ he] at this
    have e0 : Cx.er enc = 0 := by unfold Cx.er; rw [he]; rfl
    rw [e0] at this
    exact this
  generalize (Cx.fd enc all).1.length = m at *
  generalize Cx.dec enc all = TT at *
  have C0 := hidIt c0
  have C1 := hidIt c1
  have C2 := hidIt c2
  have HDL : Hid (TT.length ≤ 17592186044416) := by unfold Hid; omega
  clear h hq ow hbk hrd c0 c1 c2 hB hz he hdl hmB
  go_enter Tryz.func31, Tryz.ntmps31
  go_wp2_with fail
  refine wp_region_held_drew (S := fun w' => w'.cell? ⟨q, 0, none⟩ = some (.int .i64 enc) ∧ w'.cell? ⟨q, 1, none⟩ = some (.slice av all.length ac)) (by kernel_rfl) (⟨C0.out, C1.out⟩) (fun hHeld => ?_)
  refine wpAnyH_take (i := 0) (oi := _) (v := ?_) rfl (by kernel_rfl) (by kernel_rfl) (by kernel_rfl) (fun _ _ _ h => h) (Or.inl ⟨by rfl, ?_⟩) (by assumption) ?_
  rotate_left 1
  · intro wq hSw; (try dsimp only at hSw); go_simp; try (with_reducible rfl)
  try simp only [Act.put, List.getElem_toArray, List.getElem_cons_zero, List.setIfInBounds_toArray, List.set_cons_zero, List.set_cons_succ]
  refine wpAnyH_take (i := 1) (oi := _) (v := ?_) rfl (by kernel_rfl) (by kernel_rfl) (by kernel_rfl) (fun _ _ _ h => h) (Or.inl ⟨by rfl, ?_⟩) (by assumption) ?_
  rotate_left 1
  · intro wq hSw; (try dsimp only at hSw); go_simp; try (with_reducible rfl)
  try simp only [Act.put, List.getElem_toArray, List.getElem_cons_succ, List.getElem_cons_zero, List.setIfInBounds_toArray, List.set_cons_zero, List.set_cons_succ]
  refine wpAnyH_take (i := 2) (oi := _) (v := ?_) rfl (by kernel_rfl) (by kernel_rfl) (by kernel_rfl) (fun _ _ _ h => h) (Or.inl ⟨by rfl, ?_⟩) (by assumption) ?_
  rotate_left 1
  · intro wq hSw; (try dsimp only at hSw); go_simp; try (with_reducible rfl)
  try simp only [Act.put, List.getElem_toArray, List.getElem_cons_succ, List.getElem_cons_zero, List.setIfInBounds_toArray, List.set_cons_zero, List.set_cons_succ]
  refine wpAnyH_take (i := 3) (oi := _) (v := ?_) rfl (by kernel_rfl) (by kernel_rfl) (by kernel_rfl) (fun _ _ _ h => h) (Or.inl ⟨by rfl, ?_⟩) (by assumption) ?_
  rotate_left 1
  · intro wq hSw; (try dsimp only at hSw); go_simp; try (with_reducible rfl)
  try simp only [Act.put, List.getElem_toArray, List.getElem_cons_succ, List.getElem_cons_zero, List.setIfInBounds_toArray, List.set_cons_zero, List.set_cons_succ]
  refine wpAnyH_take (i := 4) (oi := _) (v := ?_) rfl (by kernel_rfl) (by kernel_rfl) (by kernel_rfl) (fun _ _ _ h => h) (Or.inl ⟨by rfl, ?_⟩) (by assumption) ?_
  rotate_left 1
  · intro wq hSw; (try dsimp only at hSw); go_simp; try (with_reducible rfl)
  try simp only [Act.put, List.getElem_toArray, List.getElem_cons_succ, List.getElem_cons_zero, List.setIfInBounds_toArray, List.set_cons_zero, List.set_cons_succ]
  refine wpAnyH_take (i := 5) (oi := _) (v := ?_) rfl (by kernel_rfl) (by kernel_rfl) (by kernel_rfl) (fun _ _ _ h => h) (Or.inl ⟨by rfl, ?_⟩) (by assumption) ?_
  rotate_left 1
  · intro wq hSw; (try dsimp only at hSw); go_simp; try (with_reducible rfl)
  try simp only [Act.put, List.getElem_toArray, List.getElem_cons_succ, List.getElem_cons_zero, List.setIfInBounds_toArray, List.set_cons_zero, List.set_cons_succ]
  refine wpAnyH_take (i := 6) (oi := _) (v := ?_) rfl (by kernel_rfl) (by kernel_rfl) (by kernel_rfl) (fun _ _ _ h => h) (Or.inl ⟨by rfl, ?_⟩) (by assumption) ?_
  rotate_left 1
  · intro wq hSw; (try dsimp only at hSw); go_simp; try (with_reducible rfl)
  try simp only [Act.put, List.getElem_toArray, List.getElem_cons_succ, List.getElem_cons_zero, List.setIfInBounds_toArray, List.set_cons_zero, List.set_cons_succ]
  refine wpAnyH_take (i := 7) (oi := _) (v := ?_) rfl (by kernel_rfl) (by kernel_rfl) (by kernel_rfl) (fun _ _ _ h => h) (Or.inl ⟨by rfl, ?_⟩) (by assumption) ?_
  rotate_left 1
  · intro wq hSw; (try dsimp only at hSw); go_simp; try (with_reducible rfl)
  try simp only [Act.put, List.getElem_toArray, List.getElem_cons_succ, List.getElem_cons_zero, List.setIfInBounds_toArray, List.set_cons_zero, List.set_cons_succ]
  refine wpAnyH_ready (rs := [8]) (by kernel_rfl) (by simp) ?_
  refine AllReadyH.cons (o := _) rfl (fun K hK => ?_) AllReadyH.nil
  go_simp
  refine (DE.out _ (Below.refl _ _).drew).mono ?_
  rintro e w3 ⟨l, rfl, hown, hb3⟩
  have HB3 := hidIt (ext_trans (Below.refl _ _).drew hb3)
  have HOW := hidIt hown
  clear hown hb3
  dsimp only
  refine hK.out _ _ ?_ (fun hHeld => ?_)
  · exact ⟨(HB3.out.cell (p := ⟨q, 0, none⟩) hql).trans C0.out, (HB3.out.cell (p := ⟨q, 1, none⟩) hql).trans C1.out⟩
  clear hK K
  try simp only [Act.put, List.getElem_toArray, List.getElem_cons_succ, List.getElem_cons_zero, List.setIfInBounds_toArray, List.set_cons_zero, List.set_cons_succ]
  refine wpAnyH_take (i := 9) (oi := _) (v := ?_) rfl (by kernel_rfl) (by kernel_rfl) (by kernel_rfl) (fun _ _ _ h => h) (Or.inl ⟨by rfl, ?_⟩) (by assumption) ?_
  rotate_left 1
  · intro wq hSw; (try dsimp only at hSw); go_simp; try (with_reducible rfl)
  try simp only [Act.put, List.getElem_toArray, List.getElem_cons_succ, List.getElem_cons_zero, List.setIfInBounds_toArray, List.set_cons_zero, List.set_cons_succ]
  refine wpAnyH_take (i := 10) (oi := _) (v := ?_) rfl (by kernel_rfl) (by kernel_rfl) (by kernel_rfl) (fun _ _ _ h => h) (Or.inl ⟨by rfl, ?_⟩) (by assumption) ?_
  rotate_left 1
  · intro wq hSw; (try dsimp only at hSw); go_simp; try (with_reducible rfl)
  try simp only [Act.put, List.getElem_toArray, List.getElem_cons_succ, List.getElem_cons_zero, List.setIfInBounds_toArray, List.set_cons_zero, List.set_cons_succ]
  refine wpAnyH_take (i := 11) (oi := _) (v := ?_) rfl (by kernel_rfl) (by kernel_rfl) (by kernel_rfl) (fun _ _ _ h => h) (Or.inl ⟨by rfl, ?_⟩) (by assumption) ?_
  rotate_left 1
  · intro wq hSw; (try dsimp only at hSw); go_simp; try (with_reducible rfl)
  try simp only [Act.put, List.getElem_toArray, List.getElem_cons_succ, List.getElem_cons_zero, List.setIfInBounds_toArray, List.set_cons_zero, List.set_cons_succ]
  refine wpAnyH_take (i := 12) (oi := _) (v := ?_) rfl (by kernel_rfl) (by kernel_rfl) (by kernel_rfl) (fun _ _ _ h => h) (Or.inl ⟨by rfl, ?_⟩) (by assumption) ?_
  rotate_left 1
  · intro wq hSw; (try dsimp only at hSw); go_simp; try (with_reducible rfl)
  try simp only [Act.put, List.getElem_toArray, List.getElem_cons_succ, List.getElem_cons_zero, List.setIfInBounds_toArray, List.set_cons_zero, List.set_cons_succ]
  refine wpAnyH_take (i := 13) (oi := _) (v := ?_) rfl (by kernel_rfl) (by kernel_rfl) (by kernel_rfl) (fun _ _ _ h => h) (Or.inl ⟨by rfl, ?_⟩) (by assumption) ?_
  rotate_left 1
  · intro wq hSw; (try dsimp only at hSw); go_simp; try (with_reducible rfl)
  try simp only [Act.put, List.getElem_toArray, List.getElem_cons_succ, List.getElem_cons_zero, List.setIfInBounds_toArray, List.set_cons_zero, List.set_cons_succ]
  refine wpAnyH_done (by kernel_rfl) ?_ _
  skip
  have RF3 := hidIt (HRF.out.ext HB3.out)
  have c2' : w3.cell? ⟨q, 2, none⟩ = some (.int .i64 m) := (HB3.out.cell (p := ⟨q, 2, none⟩) hql).trans C2.out
  have KP3 := hidIt (Kps.of_below P HB3.out)
  have hlen64 : TT.length ≤ 17592186044416 := HDL.out
  obtain ⟨f1, rf1, k1⟩ := rf_none RF3.out
  obtain ⟨rf2, k2, f2⟩ := rf_told rf1 0
  have c1' : w3.cell? ⟨q, 1, none⟩ = some (.slice av all.length ac) := (HB3.out.cell (p := ⟨q, 1, none⟩) hql).trans C1.out
  have c2'' : (w3.setCell ⟨q, 1, none⟩ (.slice none 0 0)).cell? ⟨q, 2, none⟩ = some (.int .i64 m) := by
    obtain ⟨v5, d0, d1, d2, _⟩ := rf1.rd
    exact d2
  have FIN : Hid (∀ v', Rd .i64 w3 v' (TT.drop m) → (∀ b off n c, v' = .slice (some ⟨b, off, none⟩) n c → b ≠ q) → ClR P w q enc all (.returned v') ((w3.setCell ⟨q, 1, none⟩ (.slice none 0 0)).setCell ⟨q, 2, none⟩ (.int .i64 0))) := fun v' h1 h2 => by
    refine HCE.out _ _ (rd_kps h1 (o := fun k => k = q) ?_ (fun b off n c e _ e2 => h2 b off n c e e2)) rf2 (KP3.out.trans (k1.trans k2 (fun _ _ e => e)) (fun _ _ e => e))
    obtain ⟨v5, hq5, _⟩ := RF3.out
    obtain ⟨v6, hq6, _⟩ := rf1
    exact (Kps.grown (set1 hq5 1 _).2 (fun k e _ => by cases e; rfl)).trans (Kps.grown (set1 hq6 2 _).2 (fun k e _ => by cases e; rfl)) (fun _ _ e => e)
  have HGQ : Hid (∀ g, w.heap.size ≤ g → g ≠ q) := fun g h => by omega
  clear HRF HB3 RF3 KP3 HCE C0 C1 C2 rf1 k1 rf2 k2 HDL
  rcases cut_own HOW.out htl with ⟨rfl, rfl⟩ | ⟨g, cp, hgb, rfl, hcp1, hcp2, hrd⟩
  · obtain rfl : m = 0 := by simpa using htl
    go_wp2_with fail
    go_ret
    exact FIN.out _ (rd_nil _ _) (by intro b off n c e; cases e)
  · have hcp3 : cp ≤ 9223372036854775807 := hcp2
    have hgq : g ≠ q := HGQ.out g hgb
    have HRD := hidIt (FIN.out _ hrd (by intro b off n c e; split at e <;> (cases e; exact hgq)))
    clear hrd hcp2 FIN hgb
    by_cases hcm : m = cp
    · subst hcm
      rw [if_pos rfl, Nat.sub_self] at HRD
      have hTm : TT.length = m := by omega
      go_wp2_with fail
      rw [hTm, Nat.sub_self] at HRD
      go_ret
      exact HRD.out
    · rw [if_neg (fun e => hcm e.symm)] at HRD
      have hcm2 : ¬ cp = m := fun e => hcm e.symm
      clear hcm
      go_wp2_with fail
      go_ret
      exact HRD.out
end Go.Proofs.YtmfbobibpebfnaaGreat
