/- The document's trie in memory; its Look. -/
import Derived.Test.YtdfmpnnenjnllaaKJoin
import Derived.Test.YtdfmpnnenjnllaaKBase
import Derived.Test.YtdfmpnnenjnllaaAppBlk
namespace Go.Proofs.Ytdfmpnnenjnllaa
open Go.RowKit

/-- The document's Look. -/
def dlk (ks : List Int) : List (List Int × Int) → Int × Int
  | [] => (0, 2)
  | r :: L => if ks.isPrefixOf r.1 then (if r.1.length = ks.length then (r.2, 1) else (0, 0)) else dlk ks L
theorem dlk_eq (ks : List Int) : ∀ (L : List (List Int × Int)), (∀ r ∈ L, ∀ s ∈ L, r.1 <+: s.1 → r = s) → dlk ks L = ((lkV L ks).getD 0, lkS L ks)
  | [], _ => rfl
  | r :: L, h => by
    unfold dlk
    by_cases hp : ks.isPrefixOf r.1 = true
    · rw [if_pos hp]
      have hp' := List.isPrefixOf_iff_prefix.1 hp
      by_cases hl : r.1.length = ks.length
      · have e : r.1 = ks := (hp'.eq_of_length hl.symm).symm
        rw [if_pos hl]
        simp [lkV, lkS, e]
      · rw [if_neg hl]
        have hne : r.1 ≠ ks := fun e => hl (by rw [e])
        have hno : ∀ s ∈ L, s.1 ≠ ks := by
          intro s hs e
          have := h s (by simp [hs]) r (by simp) (by rw [e]; exact hp')
          rw [this] at e
          exact hne e
        have f1 : ((r :: L).find? fun r => r.1 == ks) = none := by
          rw [List.find?_eq_none]
          intro s hs
          rcases List.mem_cons.1 hs with rfl | hs
          · simpa using hne
          · simpa using hno s hs
        have f2 : ((r :: L).any fun r => r.1 == ks) = false := by
          rw [List.any_eq_false]
          intro s hs
          rcases List.mem_cons.1 hs with rfl | hs
          · simpa using hne
          · simpa using hno s hs
        have f3 : ((r :: L).any fun r => ks.isPrefixOf r.1) = true := by simp [hp]
        unfold lkV lkS
        rw [f1, f2, f3]
        rfl
    · rw [if_neg hp, dlk_eq ks L (fun a ha b hb => h a (by simp [ha]) b (by simp [hb]))]
      have hne : (r.1 == ks) = false := by
        rw [beq_eq_false_iff_ne]
        intro e
        exact hp (by rw [e]; exact List.isPrefixOf_iff_prefix.2 (List.prefix_refl _))
      have hp' : ks.isPrefixOf r.1 = false := Bool.eq_false_iff.2 hp
      simp only [lkV, lkS, List.find?_cons, List.any_cons, hne, hp', Bool.false_or]

theorem row_same {w w' : World} {base : Nat} {e : TypeId} {size n : Nat} {v : Value} {xs : List Value} (h : w.ownsRow base e size v n xs) (hb : ∀ g, v.ownBlock = some g → w'.heap[g]? = w.heap[g]?) : w'.ownsRow base e size v n xs := by
  obtain ⟨h1, h2⟩ := h
  refine ⟨h1, ?_⟩
  rcases h2 with h2 | ⟨g, cap, cur, rfl, hq, hg, r⟩
  · exact .inl h2
  · exact .inr ⟨g, cap, cur, rfl, hq, (hb g rfl).trans hg, r⟩
theorem own_same {w w' : World} {base : Nat} {v : Value} {zs : List Int} (h : OwnI w base v zs) (hb : ∀ g, v.ownBlock = some g → w'.heap[g]? = w.heap[g]?) : OwnI w' base v zs := row_same h hb
theorem row_cell {w : World} {g n c : Nat} {e : TypeId} {us : List Value} (h : w.ownsRow 0 e 1 (.slice (some ⟨g, 0, none⟩) n c) us.length us) (k : Nat) (hk : k < us.length) : w.cell? ⟨g, k, none⟩ = us[k]? := by
  rcases h.2 with ⟨e, _⟩ | ⟨g', cap, cur, hv, _, hg, hn, _, hs, ht⟩
  · cases e
  · cases hv
    rw [cell_of_row _ _ _ _ _ _ hg, ← ht, List.getElem?_take, if_pos (by omega)]
    simp
theorem row_form {w : World} {base : Nat} {e : TypeId} {size n : Nat} {v : Value} {xs : List Value} (h : w.ownsRow base e size v n xs) : (v = .slice none 0 0 ∧ n = 0) ∨ ∃ g c, v = .slice (some ⟨g, 0, none⟩) n c ∧ v.ownBlock = some g ∧ ∃ cur, w.heap[g]? = some (.cells cur e (0, 0)) := by
  rcases h.2 with ⟨rfl, hn⟩ | ⟨g, cap, cur, rfl, _, hg, _⟩
  · exact .inl ⟨rfl, hn⟩
  · exact .inr ⟨g, cap, rfl, rfl, cur, hg⟩
/-- At block q lies the document's trie of the rows L; S: all its blocks. -/
structure DT (w : World) (q : Nat) (S : Nat → Prop) (L : List (List Int × Int)) (vr vv : Value) (us : List Value) : Prop where
  blk : w.heap[q]? = some (.cells #[vr, vv] 34 (0, 0))
  sq : S q
  len : us.length = L.length
  rows : w.ownsRow 0 32 1 vr us.length us
  vals : OwnI w 0 vv (L.map (·.2))
  sr : ∀ g, vr.ownBlock = some g → S g
  sv : ∀ g, vv.ownBlock = some g → S g
  each : ∀ (i : Nat) (u : Value) (r : List Int × Int), us[i]? = some u → L[i]? = some r → OwnI w 0 u r.1 ∧ ∀ g, u.ownBlock = some g → S g ∧ vv.ownBlock ≠ some g
  sl : ∀ u ∈ us, ∃ ao n c, u = .slice ao n c
  lt : ∀ k, S k → k < w.heap.size
theorem DT.same {w w' : World} {q : Nat} {S : Nat → Prop} {L : List (List Int × Int)} {vr vv : Value} {us : List Value} (h : DT w q S L vr vv us) (hb : ∀ k, S k → w'.heap[k]? = w.heap[k]?) : DT w' q S L vr vv us :=
  ⟨(hb q h.sq).trans h.blk, h.sq, h.len, row_same h.rows (fun g e => hb g (h.sr g e)), own_same h.vals (fun g e => hb g (h.sv g e)), h.sr, h.sv, fun i u r hu hr => ⟨own_same (h.each i u r hu hr).1 (fun g e => hb g ((h.each i u r hu hr).2 g e).1), (h.each i u r hu hr).2⟩, h.sl, fun k hk => by
    have h1 := h.lt k hk
    have h2 := hb k hk
    rw [Array.getElem?_eq_getElem h1] at h2
    exact (Array.getElem?_eq_some_iff.1 h2).1⟩
theorem DT.ext {w w' : World} {q : Nat} {S : Nat → Prop} {L : List (List Int × Int)} {vr vv : Value} {us : List Value} (h : DT w q S L vr vv us) (hb : Below w.heap.size w w') : DT w' q S L vr vv us := h.same (fun k hk => hb.block k (h.lt k hk))
/-- A row of it, read. -/
theorem DT.row {w : World} {q : Nat} {S : Nat → Prop} {L : List (List Int × Int)} {vr vv : Value} {us : List Value} (h : DT w q S L vr vv us) (k : Nat) (hk : k < L.length) : ∃ g c, vr = .slice (some ⟨g, 0, none⟩) L.length c ∧ ∃ ao n c', w.cell? ⟨g, k, none⟩ = some (.slice ao n c') ∧ Rd .i64 w (.slice ao n c') L[k].1 := by
  rcases row_form h.rows with ⟨_, hn⟩ | ⟨g, c, hv, _⟩
  · have := h.len; omega
  · refine ⟨g, c, by rw [hv, h.len], ?_⟩
    have hku : k < us.length := by rw [h.len]; exact hk
    have hr := h.rows
    rw [hv] at hr
    have hc := row_cell hr k hku
    obtain ⟨ao, n, c', e⟩ := h.sl us[k] (List.getElem_mem hku)
    refine ⟨ao, n, c', by rw [hc, List.getElem?_eq_getElem hku, e], ?_⟩
    have := (h.each k us[k] L[k] (List.getElem?_eq_getElem hku) (List.getElem?_eq_getElem hk)).1.rd
    rw [e] at this
    exact this

set_option maxRecDepth 100000 in
set_option maxHeartbeats 1000000 in
theorem rlook_any (q : Nat) (S : Nat → Prop) (L : List (List Int × Int)) (vr vv : Value) (us : List Value) (l : Value) (ks : List Int) (w : World) (h : DT w q S L vr vv us) (hk : Rd .i64 w l ks) (hL : L.length ≤ 4611686018427387904) :
    Calls Try.prog 14 #[.pointer (some ⟨q, 0, none⟩), l] w fun e w' => e = .returned (.tuple #[.int .i64 (dlk ks L).1, .int .i64 (dlk ks L).2]) ∧ Below w.heap.size w w' := by
  have hlen := hk.len
  obtain ⟨lo, cap, hl⟩ : ∃ lo cap, l = .slice lo ks.length cap := by obtain ⟨ao, cap, e, _⟩ := hk; exact ⟨ao, cap, e⟩
  subst hl
  have H := hidIt h
  have HK := hidIt hk
  obtain ⟨ar, nr, cr, er⟩ : ∃ ar nr cr, vr = .slice ar nr cr ∧ nr = L.length := by
    rcases row_form h.rows with ⟨e, hn⟩ | ⟨g, c, hv, _⟩
    · exact ⟨none, 0, 0, e, by have := h.len; omega⟩
    · exact ⟨_, _, _, hv, h.len⟩
  obtain ⟨er, rfl⟩ := er
  subst er
  obtain ⟨av, nv, cv, ev⟩ := own_form h.vals
  subst ev
  clear h hk
  generalize hR : dlk ks L = R
  have HR := hidIt hR
  clear hR
  obtain ⟨R1, R2⟩ := R
  dsimp only
  go_enter Try.func14, Try.ntmps14
  go_wp2
  go_loopw [6] (fun i wr => ∃ k : Nat, k ≤ L.length ∧ i = .int .i64 k ∧ Below w.heap.size w wr ∧ Hid (dlk ks (L.drop k) = (R1, R2))) (fun i _ => L.length - (RowKit.intOf i).toNat)
  case atStart => exact ⟨0, Nat.zero_le _, rfl, Below.refl _ _, HR.out⟩
  case round =>
    obtain ⟨k, hk, rfl, hbw, HT⟩ := hrel
    have HD := hidIt (H.out.ext hbw)
    obtain ⟨_, q0, q1, _⟩ := cells2 HD.out.blk
    by_cases hlt : k < L.length
    · obtain ⟨g, c, ev, ao, n, c', hc, hrd⟩ := HD.out.row k hlt
      cases ev
      have HB := hidIt (begins_any (.slice ao n c') (.slice lo ks.length cap) L[k].1 ks wr hrd (HK.out.ext hbw))
      have hi1 : (k : Int) < (L.length : Int) := by omega
      have hnl : n = L[k].1.length := by obtain ⟨_, _, e, _⟩ := hrd; cases e; rfl
      have hDr : L.drop k = L[k] :: L.drop (k + 1) := List.drop_eq_getElem_cons hlt
      have HT2 := hidIt (show dlk ks (L[k] :: L.drop (k + 1)) = (R1, R2) by rw [← hDr]; exact HT.out)
      have HBW := hidIt hbw
      clear hDr HT hrd
      cases hp : ks.isPrefixOf L[k].1 with
      | false =>
        have HF := hidIt (show dlk ks (L.drop (k + 1)) = (R1, R2) by have := HT2.out; unfold dlk at this; rw [hp] at this; simpa using this)
        rw [hp] at HB
        clear hp hnl HT2
        go_wp2_with (go_at_call 23; refine HB.out.mono ?_; rintro e y ⟨rfl, hy⟩; (try dsimp only); have HY := hidIt hy; clear hy)
        go_roundw
        case rel => exact ⟨k + 1, by omega, by go_num, ext_trans HBW.out HY.out, HF.out⟩
        case measure => simp [RowKit.intOf]; omega
      | true =>
        rw [hp] at HB
        by_cases hl : L[k].1.length = ks.length
        · have HF := hidIt (show (L[k].2, (1 : Int)) = (R1, R2) by have := HT2.out; unfold dlk at this; rw [hp] at this; simpa [hl] using this)
          have hle : ((n : Int) == (ks.length : Int)) = true := by rw [hnl, hl]; simp
          have cv' : ∀ y, Below wr.heap.size wr y → y.cell? ⟨g, k, none⟩ = some (.slice ao n c') ∧ y.cell? ⟨q, 0, none⟩ = some (.slice (some ⟨g, 0, none⟩) L.length cr) ∧ y.cell? ⟨q, 1, none⟩ = some (.slice av nv cv) ∧ ∃ gv, av = some ⟨gv, 0, none⟩ ∧ nv = L.length ∧ y.cell? ⟨gv, k, none⟩ = some (.int .i64 L[k].2) := by
            intro y hy
            have D := HD.out.ext hy
            obtain ⟨_, p0, p1, _⟩ := cells2 D.blk
            obtain ⟨g2, c2, e2, ao2, n2, c2', hc2, _⟩ := HD.out.row k hlt
            cases e2
            rw [hc] at hc2
            cases hc2
            refine ⟨(hy.cell (p := ⟨g, k, none⟩) (World.block_lt_of_cell? _ _ hc)).trans hc, p0, p1, ?_⟩
            have hv := D.vals
            rcases row_form hv with ⟨_, hn⟩ | ⟨gv, c3, e3, _⟩
            · simp at hn; rw [hn] at hlt; simp at hlt
            · cases e3
              refine ⟨gv, rfl, by simp, ?_⟩
              have hv' : y.ownsRow 0 3 1 (.slice (some ⟨gv, 0, none⟩) (L.map (·.2)).length cv) ((L.map (·.2)).map (Value.int .i64)).length ((L.map (·.2)).map (Value.int .i64)) := by
                have : ((L.map (·.2)).map (Value.int .i64)).length = (L.map (·.2)).length := by simp
                rw [this]; exact hv
              have := row_cell hv' k (by simpa using hlt)
              rw [this]
              simp [hlt]
          have CV := hidIt cv'
          clear hp hnl HT2 cv' hl
          generalize L[k].2 = x at *
          go_upto_region 5 with (go_at_call 23; refine HB.out.mono ?_; rintro e y ⟨rfl, hy⟩; (try dsimp only); have HY := hidIt hy; clear hy)
          obtain ⟨m0, m1, m2, gv, rfl, rfl, m3⟩ := CV.out _ HY.out
          go_wp2
          go_ret2
          cases HF.out
          exact ⟨rfl, ext_trans HBW.out HY.out⟩
        · have HF := hidIt (show ((0 : Int), (0 : Int)) = (R1, R2) by have := HT2.out; unfold dlk at this; rw [hp] at this; simpa [hl] using this)
          have hle : ((n : Int) == (ks.length : Int)) = false := by rw [hnl]; simpa using (show ¬ (L[k].1.length : Int) = (ks.length : Int) by omega)
          have CV := hidIt (show ∀ y, Below wr.heap.size wr y → y.cell? ⟨g, k, none⟩ = some (.slice ao n c') ∧ y.cell? ⟨q, 0, none⟩ = some (.slice (some ⟨g, 0, none⟩) L.length cr) from fun y hy => ⟨(hy.cell (p := ⟨g, k, none⟩) (World.block_lt_of_cell? _ _ hc)).trans hc, (cells2 (HD.out.ext hy).blk).2.1⟩)
          clear hp hnl HT2 hl
          go_upto_region 5 with (go_at_call 23; refine HB.out.mono ?_; rintro e y ⟨rfl, hy⟩; (try dsimp only); have HY := hidIt hy; clear hy)
          obtain ⟨m0, m1⟩ := CV.out _ HY.out
          go_wp2
          go_ret2
          cases HF.out
          exact ⟨rfl, ext_trans HBW.out HY.out⟩
    · have HF := hidIt (show ((0 : Int), (2 : Int)) = (R1, R2) by have := HT.out; rw [List.drop_eq_nil_of_le (by omega)] at this; exact this)
      clear HT
      go_wp2
      go_ret2
      cases HF.out
      exact ⟨rfl, hbw⟩
end Go.Proofs.Ytdfmpnnenjnllaa
