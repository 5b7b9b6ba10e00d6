import Derived.Test.YtbmelpjmpomfcaaGreatJ13
import Derived.OwnWalk
import Derived.Deep.CutRange
import Derived.Deep.CutBlock
import Derived.Laws.CopyOwn
import Derived.Deep.RegionHeld3
import Derived.ProofKit
import Derived.OpenShut
import Derived.ChangeOld
import Derived.SizedLaws
import Derived.Below
import Derived.JoinedCond
namespace Go.Proofs.YtbmelpjmpomfcaaGreat.P
open Go.RowKit

theorem Tryz.info_sl : (Tryz.prog.info? 22).map (fun i => (i.zero, i.size, i.bytes)) = some (some (.slice none 0 0), 1, 24) := by kernel_rfl
theorem RoI.set {w : World} {b : Nat} {zs : List Int} (h : RoI w b zs) (j : Nat) (x : Int) : RoI (w.setCell ⟨b, j, none⟩ (.int .i64 x)) b (zs.set j x) ∧ w.grownBy (w.setCell ⟨b, j, none⟩ (.int .i64 x)) (some b) := by
  obtain ⟨p, q⟩ := set1 h j (.int .i64 x)
  refine ⟨?_, q⟩
  unfold RoI
  rw [p, List.map_set]
  simp
theorem RoI.cell {w : World} {b : Nat} {zs : List Int} (h : RoI w b zs) (j : Nat) (hj : j < zs.length) : (∃ x, w.cell? ⟨b, j, none⟩ = some (.int .i64 x)) ∧ ∀ i, w.frozen? ⟨b, i, none⟩ = false := by
  refine ⟨⟨zs[j], ?_⟩, fun i => by simp [World.frozen?, show w.heap[b]? = _ from h]⟩
  rw [cell_of_row w b _ _ _ _ h]
  simp [hj]
theorem own3 {w : World} {base : Nat} {T : TypeId} {g n : Nat} {xs : List Value} (h : w.ownsRow base T 3 (.slice (some ⟨g, 0, none⟩) n n) n xs) (k : Nat) (a b c : Value) :
    (((w.setCell ⟨g, k * 3, none⟩ a).setCell ⟨g, k * 3 + 1, none⟩ b).setCell ⟨g, k * 3 + 2, none⟩ c).ownsRow base T 3 (.slice (some ⟨g, 0, none⟩) n n) n (((xs.set (k * 3) a).set (k * 3 + 1) b).set (k * 3 + 2) c) ∧ w.grownBy (((w.setCell ⟨g, k * 3, none⟩ a).setCell ⟨g, k * 3 + 1, none⟩ b).setCell ⟨g, k * 3 + 2, none⟩ c) (some g) := by
  obtain ⟨h1, h2⟩ := h.stored (k * 3) a
  obtain ⟨h3, h4⟩ := h1.stored (k * 3 + 1) b
  obtain ⟨h5, h6⟩ := h3.stored (k * 3 + 2) c
  exact ⟨h5, grown_trans (grown_trans h2 h4) h6⟩
theorem own3_cells {w : World} {base : Nat} {T : TypeId} {g n : Nat} {xs : List Value} (h : w.ownsRow base T 3 (.slice (some ⟨g, 0, none⟩) n n) n xs) (k : Nat) (hk : k < n) : (∃ a, w.cell? ⟨g, k * 3, none⟩ = some a) ∧ (∃ b, w.cell? ⟨g, k * 3 + 1, none⟩ = some b) ∧ (∃ c, w.cell? ⟨g, k * 3 + 2, none⟩ = some c) ∧ ∀ i, w.frozen? ⟨g, i, none⟩ = false := by
  have hl := h.1
  have e0 := h.cellAt (k * 3) (by omega)
  have e1 := h.cellAt (k * 3 + 1) (by omega)
  have e2 := h.cellAt (k * 3 + 2) (by omega)
  rw [List.getElem?_eq_getElem (by omega)] at e0 e1 e2
  exact ⟨⟨_, e0⟩, ⟨_, e1⟩, ⟨_, e2⟩, fun i => h.frozenAt i⟩
theorem own_typ {w : World} {base : Nat} {T : TypeId} {s g n c m : Nat} {xs : List Value} (h : w.ownsRow base T s (.slice (some ⟨g, 0, none⟩) n c) m xs) : Typ T w g := by
  rcases h.2 with ⟨h1, _⟩ | ⟨g', cap, cur, hv, _, hg, _⟩
  · cases h1
  · simp only [Value.slice.injEq, Option.some.injEq, Addr.mk.injEq] at hv
    rw [hv.1.1]
    exact ⟨_, hg⟩
theorem Hd.snoc {w : World} {base r g n : Nat} {vp' : Value} {hs : List HE} {xs : List Value} (he : ∀ y ∈ hs, HEok w base r y) (ha : w.ownsRow base 30 3 (.slice (some ⟨g, 0, none⟩) n n) n xs) (hpre : xs.take (hs.length * 3) = hs.flatMap HE.cs) (x : HE) (hx : HEok w base r x) (hp : w.ownsRow base 22 1 vp' (hs.length + 1) (hs.map (HE.sl r) ++ [x.sl r])) (hl : hs.length < n) :
    Hd (((w.setCell ⟨g, hs.length * 3, none⟩ (.int .i64 x.e.1)).setCell ⟨g, hs.length * 3 + 1, none⟩ (.int .i64 x.e.2.1)).setCell ⟨g, hs.length * 3 + 2, none⟩ x.pv) base r g n vp' (hs ++ [x]) (((xs.set (hs.length * 3) (.int .i64 x.e.1)).set (hs.length * 3 + 1) (.int .i64 x.e.2.1)).set (hs.length * 3 + 2) x.pv) ∧ w.grownBy (((w.setCell ⟨g, hs.length * 3, none⟩ (.int .i64 x.e.1)).setCell ⟨g, hs.length * 3 + 1, none⟩ (.int .i64 x.e.2.1)).setCell ⟨g, hs.length * 3 + 2, none⟩ x.pv) (some g) := by
  obtain ⟨p1, p2⟩ := own3 ha hs.length (.int .i64 x.e.1) (.int .i64 x.e.2.1) x.pv
  have ht := own_typ ha
  have hk : ∀ (T : TypeId), T ≠ 30 → ∀ b, Typ T w b → (((w.setCell ⟨g, hs.length * 3, none⟩ (.int .i64 x.e.1)).setCell ⟨g, hs.length * 3 + 1, none⟩ (.int .i64 x.e.2.1)).setCell ⟨g, hs.length * 3 + 2, none⟩ x.pv).heap[b]? = w.heap[b]? := fun T hT b hb => p2.block b hb.lt (fun e => hT (by have e' := Option.some.inj e; subst e'; exact hb.uniq ht))
  refine ⟨⟨fun y hy => ?_, ?_, p1, ?_⟩, p2⟩
  · rcases List.mem_append.1 hy with hy | hy
    · exact (he y hy).same (hk _ (by decide))
    · rw [List.mem_singleton] at hy
      subst hy
      exact hx.same (hk _ (by decide))
  · rw [List.length_append, List.map_append]
    exact ownsRow_same hp (hk _ (by decide))
  · have hxl := ha.1
    rw [List.length_append, List.length_singleton, take_put3 _ _ _ _ _ (by omega), hpre, List.flatMap_append]
    simp [HE.cs]
theorem ownsRow_mono {w : World} {base base' : Nat} {T : TypeId} {s : Nat} {v : Value} {n : Nat} {xs : List Value} (h : w.ownsRow base T s v n xs) (hb : base' ≤ base) : w.ownsRow base' T s v n xs := by
  refine ⟨h.1, ?_⟩
  rcases h.2 with h2 | ⟨g, cap, cur, hv, h3, r⟩
  · exact .inl h2
  · exact .inr ⟨g, cap, cur, hv, by omega, r⟩
theorem ownsRow_form {w : World} {base : Nat} {T : TypeId} {s : Nat} {v : Value} {n : Nat} {xs : List Value} (h : w.ownsRow base T s v n xs) : ∃ a c, v = .slice a n c := by
  rcases h.2 with ⟨h1, h2⟩ | ⟨g, cap, cur, hv, _⟩
  · exact ⟨none, 0, by rw [h1, h2]⟩
  · exact ⟨_, _, hv⟩
theorem src_of {w : World} {q : Nat} {pa : Option Addr} {pc : Nat} {ep : List Int} (h : Rd .i64 w (.slice pa ep.length pc) ep) (hp : 0 < (ep.map (Value.int .i64)).length) : (some (⟨q, 0, none⟩ : Addr)) = some ⟨q, 0, none⟩ ∧ ∃ ad, pa = some ad ∧ ∀ j u, (ep.map (Value.int .i64))[j]? = some u → w.cell? (ad.add j) = some u := by
  rw [List.length_map] at hp
  obtain ⟨pa', pc', e1, _, _, h3⟩ := h
  simp only [Value.slice.injEq] at e1
  obtain ⟨rfl, _, rfl⟩ := e1
  obtain ⟨b, off, rfl, hb, hc⟩ := h3 (List.length_pos_iff.1 hp)
  refine ⟨rfl, _, rfl, fun j u hj => ?_⟩
  have hjl : j < ep.length := by
    have := (List.getElem?_eq_some_iff.1 hj).1
    rwa [List.length_map] at this
  rw [Addr.add_lit, hc j hjl, ← hj, List.getElem?_map, List.getElem?_eq_getElem hjl]
  rfl
structure HdJ (w : World) (r g n i : Nat) (ap : Option Addr) (cp : Nat) (es : List Ed) (hs : List HE) (xs : List Value) (wr : World) : Prop where
  blk : wr.heap[w.heap.size + 1]? = some (.cells #[.int .i64 (r : Nat), .slice (some ⟨g, 0, none⟩) n n, .slice ap i cp] 157 (0, 0))
  res : wr.heap[w.heap.size]? = some (.cells #[.int .i64 0, .slice none 0 0, .slice none 0 0] 157 (0, 0))
  hd : Hd wr w.heap.size r g n (.slice ap i cp) hs xs
  es : hs.map HE.e = es.take i
  ln : hs.length = i
  bel : Below w.heap.size w wr

set_option maxRecDepth 100000 in
set_option maxHeartbeats 8000000 in
theorem hand_nil (v : Value) (es : List Ed) (w : World) (hE : EdR w v es) (hp : ∀ e ∈ es, e.2.2.length * 8 ≤ 140737488351232) (hl : es.length * 40 ≤ 140737488351232) :
    Calls Tryz.prog 80 #[.pointer none, v] w fun e w' => ∃ (r g : Nat) (ap : Option Addr) (cp : Nat), e = .returned (.agg #[.int .i64 (r : Nat), .slice (some ⟨g, 0, none⟩) (es.length + r) (es.length + r), .slice ap es.length cp]) ∧ Hid (∃ hs : List HE, Hd w' w.heap.size r g (es.length + r) (.slice ap es.length cp) hs (hs.flatMap HE.cs ++ mkE es.length r) ∧ hs.map HE.e = es ∧ (r = 2 ∨ r = 100)) ∧ Below w.heap.size w w' := by
  obtain ⟨ao, cap, rfl, h1, h2, h3⟩ := id hE
  have HE' : Hid (∀ w', Below w.heap.size w w' → ∀ j e, es[j]? = some e → ∃ b off, ao = some ⟨b, off, none⟩ ∧ w'.cell? ⟨b, off + j * 3, none⟩ = some (.int .i64 e.1) ∧ w'.cell? ⟨b, off + j * 3 + 1, none⟩ = some (.int .i64 e.2.1) ∧ ∃ pv, w'.cell? ⟨b, off + j * 3 + 2, none⟩ = some pv ∧ Rd .i64 w' pv e.2.2) := fun w' hb j e he => by
    obtain ⟨ao', cap', e1, _, _, e4⟩ := hE.ext hb
    cases e1
    obtain ⟨b, o, k1, _, k3⟩ := e4 (by intro hn; subst hn; simp at he)
    obtain ⟨c0, c1, c2⟩ := k3 j e he
    exact ⟨b, o, k1, c0, c1, c2⟩
  have HP := hidIt hp
  clear hE h3 hp
  go_enter Tryz.func80, Tryz.ntmps80
  go_upto_if 15 with fail
  go_cut [15] from 16 to 16 (fun _ wF => ∃ r : Nat, (r = 2 ∨ r = 100) ∧ (es.length ≤ 64 ∨ r = 2) ∧ Hid (wF.heap[w.heap.size + 1]? = some (.cells #[.int .i64 (r : Nat), .slice none 0 0, .slice none 0 0] 157 (0, 0)) ∧ wF.heap[w.heap.size]? = some (.cells #[.int .i64 0, .slice none 0 0, .slice none 0 0] 157 (0, 0)) ∧ Below w.heap.size w wF))
  case first =>
    have hb0 : Below w.heap.size w ((w.alloc (.cells #[.int .i64 0, .slice none 0 0, .slice none 0 0] 157)).alloc (.cells #[.int .i64 100, .slice none 0 0, .slice none 0 0] 157)) := ext_alloc (ext_alloc (Below.refl _ _) _) _
    have e0 : ((w.alloc (.cells #[.int .i64 0, .slice none 0 0, .slice none 0 0] 157)).alloc (.cells #[.int .i64 100, .slice none 0 0, .slice none 0 0] 157)).heap[w.heap.size]? = some (.cells #[.int .i64 0, .slice none 0 0, .slice none 0 0] 157 (0, 0)) := (Below.heap_alloc _ _ _ (by simp)).trans (heap_alloc_new _ _)
    have e1 : ((w.alloc (.cells #[.int .i64 0, .slice none 0 0, .slice none 0 0] 157)).alloc (.cells #[.int .i64 100, .slice none 0 0, .slice none 0 0] 157)).heap[w.heap.size + 1]? = some (.cells #[.int .i64 100, .slice none 0 0, .slice none 0 0] 157 (0, 0)) := by
      have e : w.heap.size + 1 = (w.alloc (.cells #[.int .i64 0, .slice none 0 0, .slice none 0 0] 157)).heap.size := by simp
      rw [e]
      exact heap_alloc_new _ _
    generalize hW : (w.alloc (.cells #[.int .i64 0, .slice none 0 0, .slice none 0 0] 157)).alloc (.cells #[.int .i64 100, .slice none 0 0, .slice none 0 0] 157) = W at *
    clear hW
    have HX := hidIt (⟨e0, e1, hb0⟩ : _ ∧ _ ∧ _)
    by_cases hbig : 64 < es.length
    · have hbig2 : (64 : Int) < (es.length : Int) := by omega
      have c0 : W.cell? ⟨w.heap.size + 1, 0, none⟩ = some (.int .i64 100) := by rw [cell_of_row W _ _ _ _ _ e1]; rfl
      have fz : ∀ i, W.frozen? ⟨w.heap.size + 1, i, none⟩ = false := fun i => by simp [World.frozen?, e1]
      clear e0 e1 hb0
      go_wp2_with fail
      go_meet
      case rel =>
        obtain ⟨x0, x1, xb⟩ := HX.out
        obtain ⟨p1, p2⟩ := set1 x1 0 (.int .i64 2)
        refine ⟨2, .inl rfl, .inr rfl, p1, ?_, Below.grown xb p2 xb.size (fun k e => by have := Option.some.inj e; omega)⟩
        exact (p2.block _ (Array.getElem?_eq_some_iff.1 x0).1 (fun e => by have := Option.some.inj e; omega)).trans x0
    · have hbig2 : ¬ (64 : Int) < (es.length : Int) := by omega
      clear e0 e1 hb0
      go_wp2_with fail
      go_meet
      case rel => exact ⟨100, .inr rfl, .inl (by omega), HX.out.2.1, HX.out.1, HX.out.2.2⟩
  obtain ⟨r, hr, hr64, HW⟩ := hcut
  have c0 : wc.cell? ⟨w.heap.size + 1, 0, none⟩ = some (.int .i64 (r : Nat)) := by rw [cell_of_row wc _ _ _ _ _ HW.out.1]; rfl
  have PE := hidIt (penEdits_nil (es.length + r) wc (by rcases hr with rfl | rfl <;> omega))
  have hrl : r ≤ 100 := by omega
  have HR := hidIt hr
  clear hr
  go_wp2_with (go_at_call 110; rw [show ((es.length : Int) + (r : Int)) = ((es.length + r : Nat) : Int) by omega]; refine PE.out.mono ?_; rintro e w1 ⟨rfl, hO, hb1⟩; have HO := hidIt hO; have HB1 := hidIt hb1; have hbk := (hb1.block _ (Array.getElem?_eq_some_iff.1 HW.out.1).1).trans HW.out.1; have c1 : w1.cell? ⟨w.heap.size + 1, 1, none⟩ = some (.slice none 0 0) := (by rw [cell_of_row w1 _ _ _ _ _ hbk]; rfl); have fz : ∀ i, w1.frozen? ⟨w.heap.size + 1, i, none⟩ = false := (fun i => by simp [World.frozen?, hbk]); have HBK := hidIt hbk; clear hO hb1 hbk; (try dsimp only))
  have hgs : w.heap.size + 1 < wc.heap.size := (Array.getElem?_eq_some_iff.1 HW.out.1).1
  obtain ⟨g, hg⟩ : ∃ g, g = wc.heap.size := ⟨_, rfl⟩
  obtain ⟨N, hN⟩ : ∃ N, N = es.length + r := ⟨_, rfl⟩
  have HJ0 : Hid (∃ xs, HdJ w r g N 0 none 0 es [] xs (w1.setCell ⟨w.heap.size + 1, 1, none⟩ (.slice (some ⟨wc.heap.size, 0, none⟩) (es.length + r) (es.length + r)))) := by
    obtain ⟨xs, hxs⟩ := HO.out
    obtain ⟨p1, p2⟩ := set1 HBK.out 1 (.slice (some ⟨wc.heap.size, 0, none⟩) (es.length + r) (es.length + r))
    rw [hg, hN]
    refine ⟨xs, p1, ?_, ⟨(fun _ h => by cases h), World.ownsRow_nil _ _ _ _, ?_, by simp⟩, rfl, rfl, ?_⟩
    · have x0 := (HB1.out.block _ (by omega)).trans HW.out.2.1
      exact (p2.block _ (Array.getElem?_eq_some_iff.1 x0).1 (fun e => by have := Option.some.inj e; omega)).trans x0
    · exact World.ownsRow.kept (ownsRow_mono hxs (by omega)) p2 (.inr (fun e => by simp only [Value.ownBlock, Option.some.injEq] at e; omega))
    · exact Below.grown (HW.out.2.2.trans (HB1.out.mono HW.out.2.2.size)) p2 (Nat.le_trans HW.out.2.2.size HB1.out.size) (fun k e => by have := Option.some.inj e; omega)
  generalize hWJ : w1.setCell ⟨w.heap.size + 1, 1, none⟩ (.slice (some ⟨wc.heap.size, 0, none⟩) (es.length + r) (es.length + r)) = wj at *
  have HNN := hidIt hN
  clear hWJ HO HB1 HBK PE HW c0 c1 fz hgs hg hN
  obtain ⟨i0, hi0, hz00, hz01, hz02⟩ := info_parts Tryz.info_i64
  obtain ⟨i1, hi1, hz10, hz11, hz12⟩ := info_parts Tryz.info_sl
  have hz0' : (Tryz.prog.info? 3).map (·.size) = some 1 := by rw [hi0]; simp [hz01]
  go_wp2_with fail
  go_loopg [6] es.length (fun gk p wr => ∃ (i : Nat) (hs : List HE) (ap : Option Addr) (cp : Nat) (xs : List Value), i + gk = es.length ∧ p = .int .i64 (i : Nat) ∧ Hid (HdJ w r g N i ap cp es hs xs wr))
  case atStart =>
    obtain ⟨xs, h⟩ := HJ0.out
    exact ⟨0, [], none, 0, xs, by omega, rfl, h⟩
  case round =>
    obtain ⟨i, hs, ap, cp, xs, hi, rfl, HJ⟩ := hrel
    generalize wr = wo at *
    have HBLK : Hid (∀ w', Below wo.heap.size wo w' → w'.heap[w.heap.size + 1]? = some (.cells #[.int .i64 (r : Nat), .slice (some ⟨g, 0, none⟩) N N, .slice ap i cp] 157 (0, 0)) ∧ w'.cell? ⟨w.heap.size + 1, 0, none⟩ = some (.int .i64 (r : Nat)) ∧ w'.cell? ⟨w.heap.size + 1, 1, none⟩ = some (.slice (some ⟨g, 0, none⟩) N N) ∧ w'.cell? ⟨w.heap.size + 1, 2, none⟩ = some (.slice ap i cp)) := fun w' hb => by
      have e := (hb.block _ (Array.getElem?_eq_some_iff.1 HJ.out.blk).1).trans HJ.out.blk
      refine ⟨e, ?_, ?_, ?_⟩ <;> (rw [cell_of_row w' _ _ _ _ _ e]; rfl)
    by_cases hil : i < es.length
    · have hil2 : (i : Int) < (es.length : Int) := by omega
      obtain ⟨e, hej⟩ : ∃ e, es[i]? = some e := ⟨_, List.getElem?_eq_getElem hil⟩
      obtain ⟨b, o, rfl, k0, k1, pv, k2, hpv⟩ := HE'.out w (Below.refl _ _) i e hej
      obtain ⟨pa, pc, rfl, hp1, hp2, hp3⟩ := id hpv
      have hpl := HP.out e (List.mem_of_getElem? hej)
      obtain ⟨ef, et, ep⟩ := e
      simp only at *
      have hbl := World.block_lt_of_cell? w _ k0
      have HCW : Hid (∀ w', Below w.heap.size w w' → w'.cell? ⟨b, o + i * 3, none⟩ = some (.int .i64 ef) ∧ w'.cell? ⟨b, o + i * 3 + 1, none⟩ = some (.int .i64 et) ∧ w'.cell? ⟨b, o + i * 3 + 2, none⟩ = some (.slice pa ep.length pc) ∧ Rd .i64 w' (.slice pa ep.length pc) ep) := fun w' hb => ⟨(hb.cell (p := ⟨b, o + i * 3, none⟩) hbl).trans k0, (hb.cell (p := ⟨b, o + i * 3 + 1, none⟩) hbl).trans k1, (hb.cell (p := ⟨b, o + i * 3 + 2, none⟩) hbl).trans k2, hpv.ext hb⟩
      have HPA : Hid (pa = none → ep = []) := fun e => by
        by_cases hn : ep = []
        · exact hn
        · obtain ⟨b', o', e', _⟩ := hp3 hn
          rw [e] at e'
          cases e'
      obtain ⟨M, hM⟩ : ∃ M, M = ep.length + r := ⟨_, rfl⟩
      have PP := hidIt (penPut_nil (i : Int) M wo (by omega))
      have HEJ := hidIt hej
      clear k0 k1 k2 hpv hp3 hej hbl
      obtain ⟨c0, c1, c2, _⟩ := HCW.out wo HJ.out.bel
      obtain ⟨_, d0, d1, d2⟩ := HBLK.out wo (Below.refl _ _)
      have HMM := hidIt (show (ep.length : Int) + (r : Int) = (M : Int) by omega)
      have HM := hidIt hM
      have hMb : ep.length ≤ 17592186044416 := by omega
      have hMb2 : M ≤ 17592186044616 := by omega
      have hMr : ep.length ≤ M := by omega
      clear hM
      go_upto_region 11 with (first
        | (go_at_call 111; rw [HMM.out]; refine PP.out.mono ?_; rintro e w2 ⟨rfl, hro, hb2⟩; have HRO := hidIt hro; have HB2 := hidIt hb2; clear c0 c1 c2 d0 d1 d2; obtain ⟨c0, c1, c2, _⟩ := HCW.out w2 (ext_trans HJ.out.bel hb2); have HSRC : Hid (0 < (ep.map (Value.int .i64)).length → (some (⟨wo.heap.size, 0, none⟩ : Addr)) = some ⟨wo.heap.size, 0, none⟩ ∧ ∃ ad, pa = some ad ∧ ∀ j u, (ep.map (Value.int .i64))[j]? = some u → w2.cell? (ad.add j) = some u) := (fun hp => src_of (HCW.out w2 (ext_trans HJ.out.bel HB2.out)).2.2.2 hp); clear hro hb2; (try dsimp only))
        | (refine wpList_copy_splice rfl _ _ 22 22 rfl 3 Tryz.underlying22 hz0' _ _ _ _ _ _ rfl rfl wo.heap.size 0 ((List.replicate M (0 : Int)).map (Value.int .i64)) 3 HRO.out (ep.map (Value.int .i64)) (by rw [List.length_map]; exact (Nat.min_eq_left (by omega)).symm) HSRC.out (by simp only [List.length_map, List.length_replicate]; omega) (by simp [Value.oneCell']) wo.heap.size wo HB2.out (Nat.le_refl _) ?_; intro w3 hE3 hb3; have HE3 := hidIt hE3.out; have HB3 := hidIt hb3; clear hE3 hb3 c0 c1 c2))
      have HZ3 : Hid (∃ zs : List Int, zs.length = M ∧ zs.take ep.length = ep ∧ RoI w3 wo.heap.size zs) := by
        refine ⟨ep ++ List.replicate r 0, by simp [HM.out], by simp, ?_⟩
        have e := HE3.out
        rw [show splice ((List.replicate M (0 : Int)).map (Value.int .i64)) 0 (ep.map (Value.int .i64)) = (ep ++ List.replicate r (0 : Int)).map (Value.int .i64) by
          unfold splice
          rw [List.take_zero, List.nil_append, Nat.zero_add, List.length_map, List.map_append, HM.out, ← List.map_drop, List.drop_replicate, Nat.add_sub_cancel_left]] at e
        exact e
      clear HE3 HRO HSRC PP
      go_wp2_with fail
      go_loopg [9] r (fun gk2 p wr2 => ∃ (k j : Nat), k + gk2 = r ∧ j = ep.length + k ∧ p = .int .i64 (j : Nat) ∧ Hid (∃ zs : List Int, zs.length = M ∧ zs.take j = ep ++ mrk ep.length k ∧ RoI wr2 wo.heap.size zs ∧ Below wo.heap.size wo wr2))
      case atStart =>
        obtain ⟨zs, z1, z2, z3⟩ := HZ3.out
        exact ⟨0, ep.length, by omega, rfl, rfl, zs, z1, by rw [z2]; simp [mrk], z3, HB3.out⟩
      case round =>
        obtain ⟨k, j, hk, hj, rfl, HZ⟩ := hrel
        by_cases hkr : k < r
        · have hjM : j < M := by have := HM.out; omega
          have hjM2 : (j : Int) < (M : Int) := by omega
          obtain ⟨zs, z1, z2, z3, z4⟩ := HZ.out
          obtain ⟨⟨x, cx⟩, fz⟩ := z3.cell j (by omega)
          have HNX : Hid (∃ zs' : List Int, zs'.length = M ∧ zs'.take (j + 1) = ep ++ mrk ep.length (k + 1) ∧ RoI (wr.setCell ⟨wo.heap.size, j, none⟩ (.int .i64 (771 + (j : Int)))) wo.heap.size zs' ∧ Below wo.heap.size wo (wr.setCell ⟨wo.heap.size, j, none⟩ (.int .i64 (771 + (j : Int))))) := by
            obtain ⟨p1, p2⟩ := z3.set j (771 + (j : Int))
            refine ⟨_, by rw [List.length_set]; exact z1, ?_, p1, Below.grown z4 p2 z4.size (fun k' e => by have := Option.some.inj e; omega)⟩
            rw [take_put1 _ _ _ (by omega), z2, mrk_succ, ← hj, List.append_assoc]
          have HJJ := hidIt hj
          clear z1 z2 z3 z4 hj
          go_wp2_with fail
          go_roundg (r - (k + 1))
          case rel => exact ⟨k + 1, j + 1, by omega, by have := HJJ.out; omega, by go_num, HNX.out⟩
          case measure => omega
        · have hjM2 : ¬ (j : Int) < (M : Int) := by have := HM.out; omega
          have HQ : Hid (RoI wr wo.heap.size (ep ++ mrk ep.length r) ∧ Below wo.heap.size wo wr) := by
            obtain ⟨zs, z1, z2, z3, z4⟩ := HZ.out
            obtain rfl : k = r := by omega
            rw [List.take_of_length_le (by have := HM.out; omega)] at z2
            rw [z2] at z3
            exact ⟨z3, z4⟩
          clear HZ hj hk hkr
          obtain ⟨hbk, d0, d1, d2⟩ := HBLK.out wr HQ.out.2
          have HHB := hidIt hbk
          clear hbk
          have HNE : Hid (∀ b T, Typ T wr b → T ≠ 22 → some b ≠ (Value.slice ap i cp).ownBlock) := fun b T hb hT e => by
            have hpu := HJ.out.hd.puts
            rcases hpu.2 with ⟨e1, _⟩ | ⟨gp, cap', cur, hv, _, hgp, _⟩
            · rw [e1] at e
              cases e
            · rw [hv] at e
              have e' : b = gp := by simpa [Value.ownBlock] using e
              subst e'
              exact hT (hb.uniq ⟨_, (HQ.out.2.block _ (Array.getElem?_eq_some_iff.1 hgp).1).trans hgp⟩)
          have HOW : Hid ((wr.alloc (.cells #[.slice (some ⟨wo.heap.size, 0, none⟩) M M] 22)).ownsRow w.heap.size 22 1 (.slice ap i cp) i (hs.map (HE.sl r))) := by
            have := HJ.out.hd.puts
            rw [HJ.out.ln] at this
            exact ownsRow_same this (fun b' hb' => (ext_alloc HQ.out.2 _).block b' hb'.lt)
          have HNW : Hid (∀ j' u, ([.slice (some ⟨wo.heap.size, 0, none⟩) M M] : List Value)[j']? = some u → (wr.alloc (.cells #[.slice (some ⟨wo.heap.size, 0, none⟩) M M] 22)).cell? ((⟨wr.heap.size, 0, none⟩ : Addr).add j') = some u) := fun j' u hj' => by
            cases j' with
            | zero =>
              simp only [List.getElem?_cons_zero, Option.some.injEq] at hj'
              subst hj'
              rw [show ((⟨wr.heap.size, 0, none⟩ : Addr).add 0) = ⟨wr.heap.size, 0, none⟩ from rfl, cell_of_row _ _ _ _ _ _ (heap_alloc_new _ _)]
              rfl
            | succ j' => simp at hj'
          have HSZ := hidIt (show w.heap.size ≤ (wr.alloc (.cells #[.slice (some ⟨wo.heap.size, 0, none⟩) M M] 22)).heap.size from Nat.le_trans HJ.out.bel.size (Nat.le_trans HQ.out.2.size (size_alloc_le _ _)))
          have HH5 : Hid (∀ w5, (wr.alloc (.cells #[.slice (some ⟨wo.heap.size, 0, none⟩) M M] 22)).grownBy w5 (Value.slice ap i cp).ownBlock → w5.heap[w.heap.size + 1]? = some (.cells #[.int .i64 (r : Nat), .slice (some ⟨g, 0, none⟩) N N, .slice ap i cp] 157 (0, 0))) := fun w5 hg5 => by
            have hlt := (Array.getElem?_eq_some_iff.1 HHB.out).1
            rw [hg5.block _ (Nat.lt_of_lt_of_le hlt (size_alloc_le _ _)) (HNE.out _ _ ⟨_, HHB.out⟩ (by decide)), (ext_alloc (Below.refl wr.heap.size wr) _).block _ hlt]
            exact HHB.out
          go_upto_region 16 with (at_builtin; refine wpList_append_own _ rfl _ _ 93 rfl w.heap.size 22 i1 (.slice none 0 0) 1 24 Tryz.underlying93 hi1 hz10 hz11 hz12 rfl (by decide) (.slice ap i cp) i (hs.map (HE.sl r)) rfl HOW.out ⟨wr.heap.size, 0, none⟩ 1 1 [.slice (some ⟨wo.heap.size, 0, none⟩) M M] rfl rfl HNW.out (by intro u hu; rw [List.mem_singleton] at hu; subst hu; rfl) (by unfold maxLen; omega) (by omega) HSZ.out ?_; intro v5 w5 ho5 hg5 _; obtain ⟨a5, c5, hv5⟩ := ownsRow_form ho5; subst hv5; have HO5 := hidIt ho5; have HG5 := hidIt hg5; have h5 := HH5.out w5 hg5; have e2 : w5.cell? ⟨w.heap.size + 1, 2, none⟩ = some (.slice ap i cp) := (by rw [cell_of_row w5 _ _ _ _ _ h5]; rfl); have f2 : ∀ k, w5.frozen? ⟨w.heap.size + 1, k, none⟩ = false := (fun k => by simp [World.frozen?, h5]); have HB5 := hidIt h5; clear ho5 hg5 h5 d0 d1 d2)
          have HK6 : Hid ((w5.setCell ⟨w.heap.size + 1, 2, none⟩ (.slice a5 (i + 1) c5)).heap[w.heap.size + 1]? = some (.cells #[.int .i64 (r : Nat), .slice (some ⟨g, 0, none⟩) N N, .slice a5 (i + 1) c5] 157 (0, 0)) ∧ (w5.setCell ⟨w.heap.size + 1, 2, none⟩ (.slice a5 (i + 1) c5)).heap[w.heap.size]? = some (.cells #[.int .i64 0, .slice none 0 0, .slice none 0 0] 157 (0, 0)) ∧ (∀ y ∈ hs, HEok (w5.setCell ⟨w.heap.size + 1, 2, none⟩ (.slice a5 (i + 1) c5)) w.heap.size r y) ∧ (w5.setCell ⟨w.heap.size + 1, 2, none⟩ (.slice a5 (i + 1) c5)).ownsRow w.heap.size 30 3 (.slice (some ⟨g, 0, none⟩) N N) N xs ∧ (w5.setCell ⟨w.heap.size + 1, 2, none⟩ (.slice a5 (i + 1) c5)).ownsRow w.heap.size 22 1 (.slice a5 (i + 1) c5) (i + 1) (hs.map (HE.sl r) ++ [.slice (some ⟨wo.heap.size, 0, none⟩) M M]) ∧ RoI (w5.setCell ⟨w.heap.size + 1, 2, none⟩ (.slice a5 (i + 1) c5)) wo.heap.size (ep ++ mrk ep.length r) ∧ Below w.heap.size w (w5.setCell ⟨w.heap.size + 1, 2, none⟩ (.slice a5 (i + 1) c5))) := by
            obtain ⟨p1, p2⟩ := set1 HB5.out 2 (.slice a5 (i + 1) c5)
            have hsz : wr.heap.size ≤ w5.heap.size := Nat.le_trans (size_alloc_le wr _) HG5.out.size
            have hlt := (Array.getElem?_eq_some_iff.1 HHB.out).1
            have hst : ∀ T b, T ≠ 22 → b ≠ w.heap.size + 1 → Typ T wr b → (w5.setCell ⟨w.heap.size + 1, 2, none⟩ (.slice a5 (i + 1) c5)).heap[b]? = wr.heap[b]? := fun T b h1 h2 h3 => by
              rw [p2.block b (Nat.lt_of_lt_of_le h3.lt hsz) (fun e => h2 (Option.some.inj e)), HG5.out.block b (Nat.lt_of_lt_of_le h3.lt (size_alloc_le _ _)) (HNE.out b T h3 h1), (ext_alloc (Below.refl wr.heap.size wr) _).block b h3.lt]
            have hst2 : ∀ T, T ≠ 22 → T ≠ 157 → ∀ b, Typ T wr b → (w5.setCell ⟨w.heap.size + 1, 2, none⟩ (.slice a5 (i + 1) c5)).heap[b]? = wr.heap[b]? := fun T h1 h2 b h3 => hst T b h1 (fun e => h2 (by subst e; exact h3.uniq ⟨_, HHB.out⟩)) h3
            have hrs := (HQ.out.2.block _ (Array.getElem?_eq_some_iff.1 HJ.out.res).1).trans HJ.out.res
            have hd := HJ.out.hd.ext HQ.out.2
            refine ⟨p1, (hst _ _ (by decide) (by omega) ⟨_, hrs⟩).trans hrs, fun y hy => (hd.each y hy).same (hst2 _ (by decide) (by decide)), ownsRow_same hd.all (hst2 _ (by decide) (by decide)), ?_, ?_, ?_⟩
            · exact ownsRow_put HO5.out ⟨_, HB5.out⟩ (by decide) _ _
            · unfold RoI
              rw [hst2 _ (by decide) (by decide) _ ⟨_, HQ.out.1⟩]
              exact HQ.out.1
            · have hb5 : Below w.heap.size w w5 := Below.grown (ext_alloc (ext_trans HJ.out.bel HQ.out.2) _) HG5.out HSZ.out (fun k e => (World.ownsRow.lt HOW.out k e).1)
              exact Below.grown hb5 p2 hb5.size (fun k e => by have := Option.some.inj e; omega)
          generalize w5.setCell ⟨w.heap.size + 1, 2, none⟩ (.slice a5 (i + 1) c5) = w6 at *
          clear HO5 HG5 HB5 HH5 HOW HNW HSZ HNE HHB HQ e2 f2
          have FIN : Hid (∀ wB pv, Below w6.heap.size w6 wB → ((pv = .slice none 0 0 ∧ ep = []) ∨ pv = .slice (some ⟨wo.heap.size, 0, none⟩) ep.length M) → ∃ hs' xs', HdJ w r g N (i + 1) a5 c5 es hs' xs' (((wB.setCell ⟨g, i * 3, none⟩ (.int .i64 ef)).setCell ⟨g, i * 3 + 1, none⟩ (.int .i64 et)).setCell ⟨g, i * 3 + 2, none⟩ pv)) := fun wB pv hb hpv => by
            obtain ⟨q1, q2, q3, q4, q5, q6, q7⟩ := HK6.out
            have hln := HJ.out.ln
            have hx : HEok wB w.heap.size r ⟨(ef, et, ep), wo.heap.size, pv⟩ := by
              refine ⟨HJ.out.bel.size, ?_, ?_, ?_⟩
              · unfold RoI
                rw [hb.block _ (Array.getElem?_eq_some_iff.1 q6).1]
                exact q6
              · rcases hpv with ⟨h1, h2⟩ | h1
                · exact .inl ⟨h1, h2⟩
                · exact .inr (by rw [h1, HM.out])
              · show ep.length + r ≤ _
                omega
            have hq5 : wB.ownsRow w.heap.size 22 1 (.slice a5 (i + 1) c5) (hs.length + 1) (hs.map (HE.sl r) ++ [HE.sl r ⟨(ef, et, ep), wo.heap.size, pv⟩]) := by
              rw [hln]
              have := ownsRow_same q5 (fun b' hb' => hb.block b' hb'.lt)
              unfold HE.sl at this ⊢
              rw [← HM.out]
              exact this
            obtain ⟨s1, s2⟩ := Hd.snoc (fun y hy => (q3 y hy).same (fun b' hb' => hb.block b' hb'.lt)) (ownsRow_same q4 (fun b' hb' => hb.block b' hb'.lt)) HJ.out.hd.pre ⟨(ef, et, ep), wo.heap.size, pv⟩ hx hq5 (by have := HNN.out; omega)
            rw [hln] at s1 s2
            have hgt : Typ 30 wB g := (own_typ q4).ext hb
            have hgl := (q4.lt g rfl).1
            have r1 := (hb.block _ (Array.getElem?_eq_some_iff.1 q1).1).trans q1
            have r2 := (hb.block _ (Array.getElem?_eq_some_iff.1 q2).1).trans q2
            have hbB := ext_trans q7 hb
            refine ⟨_, _, ?_, ?_, s1, ?_, ?_, Below.grown hbB s2 hbB.size (fun k e => by have := Option.some.inj e; omega)⟩
            · exact (s2.block _ (Array.getElem?_eq_some_iff.1 r1).1 (fun e => by have e' := Option.some.inj e; subst e'; exact absurd (hgt.uniq ⟨_, r1⟩) (by decide))).trans r1
            · exact (s2.block _ (Array.getElem?_eq_some_iff.1 r2).1 (fun e => by have e' := Option.some.inj e; subst e'; exact absurd (hgt.uniq ⟨_, r2⟩) (by decide))).trans r2
            · rw [List.map_append, HJ.out.es, List.take_add_one, HEJ.out]
              rfl
            · simp [hln]
          have HGC : Hid (∀ wB, Below w6.heap.size w6 wB → (wB.cell? ⟨w.heap.size + 1, 1, none⟩ = some (.slice (some ⟨g, 0, none⟩) N N)) ∧ (∃ a, wB.cell? ⟨g, i * 3, none⟩ = some a) ∧ (∃ b, wB.cell? ⟨g, i * 3 + 1, none⟩ = some b) ∧ (∃ c, wB.cell? ⟨g, i * 3 + 2, none⟩ = some c) ∧ (∀ k, wB.frozen? ⟨g, k, none⟩ = false) ∧ g < w6.heap.size) := fun wB hb => by
            obtain ⟨q1, q2, q3, q4, q5, q6, q7⟩ := HK6.out
            have r1 := (hb.block _ (Array.getElem?_eq_some_iff.1 q1).1).trans q1
            obtain ⟨x1, x2, x3, x4⟩ := own3_cells (ownsRow_same q4 (fun b' hb' => hb.block b' hb'.lt)) i (by have := HNN.out; omega)
            exact ⟨by rw [cell_of_row wB _ _ _ _ _ r1]; rfl, x1, x2, x3, x4, (q4.lt g rfl).2⟩
          have HB6 := hidIt HK6.out.2.2.2.2.2.2
          have hiN : i < N := by have := HNN.out; omega
          have hiN2 : (i : Int) < (N : Int) := by omega
          clear HK6
          go_cut [10] from 69 to 79 (fun ve wF => ve = .pointer (some ⟨w6.heap.size, 0, none⟩) ∧ Hid (Below w6.heap.size w6 wF ∧ wF.heap[w6.heap.size]? = some (.cells #[.int .i64 ef, .int .i64 et, .slice none 0 0] 30 (0, 0))))
          case first =>
            obtain ⟨c0, c1, c2, _⟩ := HCW.out w6 HB6.out
            have HCD : Hid (∀ w', Below w6.heap.size w6 w' → w'.cell? ⟨b, o + i * 3, none⟩ = some (.int .i64 ef) ∧ w'.cell? ⟨b, o + i * 3 + 1, none⟩ = some (.int .i64 et)) := fun w' hb => by
              obtain ⟨c0, c1, _, _⟩ := HCW.out w' (ext_trans HB6.out hb)
              exact ⟨c0, c1⟩
            go_region_held3 (fun w' => w'.cell? ⟨b, o + i * 3, none⟩ = some (.int .i64 ef) ∧ w'.cell? ⟨b, o + i * 3 + 1, none⟩ = some (.int .i64 et)) (first | exact HCD.out _ (by repeat (first | exact Below.refl _ _ | apply Below.drew | refine ext_alloc ?_ _)) | go_keep) (fail)
            all_goals go_wp2_with fail
            all_goals go_meet
            case rel => exact ⟨rfl, Below.drew (ext_alloc (Below.refl _ _) _), heap_alloc_new _ _⟩
          obtain ⟨rfl, hwc⟩ := hcut
          obtain ⟨wA, hwA⟩ : ∃ wA, wA = wc := ⟨_, rfl⟩
          rw [← hwA] at hwc ⊢
          obtain ⟨hbA, hkA⟩ := hwc.out
          clear hwc hwA
          have HBA := hidIt hbA
          have HKA := hidIt hkA
          obtain ⟨c0, c1, c2, _⟩ := HCW.out wA (ext_trans HB6.out hbA)
          obtain ⟨g1, ⟨x0, g2⟩, ⟨x1, g3⟩, ⟨x2, g4⟩, gf, hgl⟩ := HGC.out wA hbA
          have k0 : wA.cell? ⟨w6.heap.size, 0, none⟩ = some (.int .i64 ef) := by rw [cell_of_row wA _ _ _ _ _ hkA]; rfl
          have k1 : wA.cell? ⟨w6.heap.size, 1, none⟩ = some (.int .i64 et) := by rw [cell_of_row wA _ _ _ _ _ hkA]; rfl
          have k2 : wA.cell? ⟨w6.heap.size, 2, none⟩ = some (.slice none 0 0) := by rw [cell_of_row wA _ _ _ _ _ hkA]; rfl
          have kf : ∀ k, wA.frozen? ⟨w6.heap.size, k, none⟩ = false := fun k => by simp [World.frozen?, hkA]
          have hM0 : ¬ M = 0 := by have := HM.out; have := HR.out; omega
          have hM0' : ¬ 0 = M := by omega
          have hMr2 : (ep.length : Int) ≤ (M : Int) := by omega
          clear hbA hkA
          cases pa with
          | none =>
            go_wp2_with fail
            go_roundg (es.length - (i + 1))
            case rel =>
              obtain ⟨hs', xs', h⟩ := FIN.out wA (.slice none 0 0) HBA.out (.inl ⟨rfl, HPA.out (by trivial)⟩)
              exact ⟨i + 1, hs', a5, c5, xs', by omega, by go_num, h⟩
            case measure => omega
          | some ad =>
            go_upto_region 19 with fail
            have HSB : Hid (Below w6.heap.size w6 (wA.setCell ⟨w6.heap.size, 2, none⟩ (.slice (some ⟨wo.heap.size, 0, none⟩) ep.length M)) ∧ (wA.setCell ⟨w6.heap.size, 2, none⟩ (.slice (some ⟨wo.heap.size, 0, none⟩) ep.length M)).heap[w6.heap.size]? = some (.cells #[.int .i64 ef, .int .i64 et, .slice (some ⟨wo.heap.size, 0, none⟩) ep.length M] 30 (0, 0))) := by
              obtain ⟨p1, p2⟩ := set1 HKA.out 2 (.slice (some ⟨wo.heap.size, 0, none⟩) ep.length M)
              exact ⟨Below.grown HBA.out p2 HBA.out.size (fun k e => by have := Option.some.inj e; omega), p1⟩
            clear g1 g2 g3 g4 gf k0 k1 k2 kf c0 c1 c2
            generalize wA.setCell ⟨w6.heap.size, 2, none⟩ (.slice (some ⟨wo.heap.size, 0, none⟩) ep.length M) = wB at *
            obtain ⟨g1, ⟨x0, g2⟩, ⟨x1, g3⟩, ⟨x2, g4⟩, gf, _⟩ := HGC.out wB HSB.out.1
            have k0 : wB.cell? ⟨w6.heap.size, 0, none⟩ = some (.int .i64 ef) := by rw [cell_of_row wB _ _ _ _ _ HSB.out.2]; rfl
            have k1 : wB.cell? ⟨w6.heap.size, 1, none⟩ = some (.int .i64 et) := by rw [cell_of_row wB _ _ _ _ _ HSB.out.2]; rfl
            have k2 : wB.cell? ⟨w6.heap.size, 2, none⟩ = some (.slice (some ⟨wo.heap.size, 0, none⟩) ep.length M) := by rw [cell_of_row wB _ _ _ _ _ HSB.out.2]; rfl
            go_wp2_with fail
            go_roundg (es.length - (i + 1))
            case rel =>
              obtain ⟨hs', xs', h⟩ := FIN.out wB _ HSB.out.1 (.inr rfl)
              exact ⟨i + 1, hs', a5, c5, xs', by omega, by go_num, h⟩
            case measure => omega
    · have hil2 : ¬ (i : Int) < (es.length : Int) := by omega
      obtain rfl : i = es.length := by omega
      have HX0 : Hid (∃ xs, HdJ w r g N es.length ap cp es hs xs wo ∧ xs.take (es.length * 3) = hs.flatMap HE.cs ++ mkE es.length 0) := by
        refine ⟨xs, HJ.out, ?_⟩
        have := HJ.out.hd.pre
        rw [HJ.out.ln] at this
        rw [this]
        simp [mkE]
      clear HBLK
      go_wp2_with fail
      go_loopg [11] r (fun gk2 p wr2 => ∃ (k j : Nat), k + gk2 = r ∧ j = es.length + k ∧ p = .int .i64 (j : Nat) ∧ Hid (∃ xs, HdJ w r g N es.length ap cp es hs xs wr2 ∧ xs.take (j * 3) = hs.flatMap HE.cs ++ mkE es.length k))
      case atStart => exact ⟨0, es.length, by omega, rfl, rfl, HX0.out⟩
      case round =>
        obtain ⟨k, j, hk, hj, rfl, HX⟩ := hrel
        obtain ⟨xs2, hX, hT⟩ := HX.out
        have c1 : wr.cell? ⟨w.heap.size + 1, 1, none⟩ = some (.slice (some ⟨g, 0, none⟩) N N) := by rw [cell_of_row wr _ _ _ _ _ hX.blk]; rfl
        by_cases hkr : k < r
        · have hjN : j < N := by have := HNN.out; omega
          have hjN2 : (j : Int) < (N : Int) := by omega
          obtain ⟨⟨x0, g2⟩, ⟨x1, g3⟩, ⟨x2, g4⟩, gf⟩ := own3_cells hX.hd.all j hjN
          have HNX : Hid (∃ xs, HdJ w r g N es.length ap cp es hs xs (((wr.setCell ⟨g, j * 3, none⟩ (.int .i64 (-771 - (j : Int)))).setCell ⟨g, j * 3 + 1, none⟩ (.int .i64 (-772))).setCell ⟨g, j * 3 + 2, none⟩ (.slice none 0 0)) ∧ xs.take ((j + 1) * 3) = hs.flatMap HE.cs ++ mkE es.length (k + 1)) := by
            obtain ⟨p1, p2⟩ := own3 hX.hd.all j (.int .i64 (-771 - (j : Int))) (.int .i64 (-772)) (.slice none 0 0)
            have ht := own_typ hX.hd.all
            have hgl := (hX.hd.all.lt g rfl).1
            have hxl := hX.hd.all.1
            have hst : ∀ T, T ≠ 30 → ∀ b, Typ T wr b → (((wr.setCell ⟨g, j * 3, none⟩ (.int .i64 (-771 - (j : Int)))).setCell ⟨g, j * 3 + 1, none⟩ (.int .i64 (-772))).setCell ⟨g, j * 3 + 2, none⟩ (.slice none 0 0)).heap[b]? = wr.heap[b]? := fun T hT b hb => p2.block b hb.lt (fun e => hT (by have e' := Option.some.inj e; subst e'; exact hb.uniq ht))
            have hpre : (((xs2.set (j * 3) (.int .i64 (-771 - (j : Int)))).set (j * 3 + 1) (.int .i64 (-772))).set (j * 3 + 2) (.slice none 0 0)).take ((j + 1) * 3) = hs.flatMap HE.cs ++ mkE es.length (k + 1) := by
              rw [take_put3 _ _ _ _ _ (by omega), hT, mkE_succ, ← hj, List.append_assoc]
            refine ⟨_, ⟨(hst _ (by decide) _ ⟨_, hX.blk⟩).trans hX.blk, (hst _ (by decide) _ ⟨_, hX.res⟩).trans hX.res, ⟨fun y hy => (hX.hd.each y hy).same (hst _ (by decide)), ownsRow_same hX.hd.puts (hst _ (by decide)), p1, ?_⟩, hX.es, hX.ln, Below.grown hX.bel p2 hX.bel.size (fun k' e => by have := Option.some.inj e; omega)⟩, hpre⟩
            have := congrArg (List.take (hs.length * 3)) hpre
            rw [List.take_take, Nat.min_eq_left (by have := hX.ln; omega), List.take_left' (cs_len hs)] at this
            exact this
          have HJJ := hidIt hj
          have hjb : j ≤ 17592186044416 := by omega
          clear hX hT hj
          go_wp2_with fail
          go_roundg (r - (k + 1))
          case rel => exact ⟨k + 1, j + 1, by omega, by have := HJJ.out; omega, by go_num, HNX.out⟩
          case measure => omega
        · have hjN2 : ¬ (j : Int) < (N : Int) := by have := HNN.out; omega
          have c0 : wr.cell? ⟨w.heap.size + 1, 0, none⟩ = some (.int .i64 (r : Nat)) := by rw [cell_of_row wr _ _ _ _ _ hX.blk]; rfl
          have c2 : wr.cell? ⟨w.heap.size + 1, 2, none⟩ = some (.slice ap es.length cp) := by rw [cell_of_row wr _ _ _ _ _ hX.blk]; rfl
          have q0 : wr.cell? ⟨w.heap.size, 0, none⟩ = some (.int .i64 0) ∧ wr.cell? ⟨w.heap.size, 1, none⟩ = some (.slice none 0 0) ∧ wr.cell? ⟨w.heap.size, 2, none⟩ = some (.slice none 0 0) := by refine ⟨?_, ?_, ?_⟩ <;> (rw [cell_of_row wr _ _ _ _ _ hX.res]; rfl)
          have qf : ∀ i, wr.frozen? ⟨w.heap.size, i, none⟩ = false := fun i => by simp [World.frozen?, hX.res]
          have HXX := hidIt hX
          have HTT : Hid (xs2 = hs.flatMap HE.cs ++ mkE es.length r) := by
            obtain rfl : k = r := by omega
            have hxl := hX.hd.all.1
            rw [List.take_of_length_le (by have := HNN.out; omega)] at hT
            exact hT
          clear hX hT
          go_wp2_with fail
          obtain ⟨p1, p2⟩ := put3 HXX.out.res (.int .i64 (r : Nat)) (.slice (some ⟨g, 0, none⟩) N N) (.slice ap es.length cp)
          generalize hwz : World.setCell (World.setCell (World.setCell wr _ _) _ _) _ _ = z at *
          have r0 : z.cell? ⟨w.heap.size, 0, none⟩ = some (.int .i64 (r : Nat)) ∧ z.cell? ⟨w.heap.size, 1, none⟩ = some (.slice (some ⟨g, 0, none⟩) N N) ∧ z.cell? ⟨w.heap.size, 2, none⟩ = some (.slice ap es.length cp) := by refine ⟨?_, ?_, ?_⟩ <;> (rw [cell_of_row z _ _ _ _ _ p1]; rfl)
          have F : Hid (∃ (r' g' : Nat) (ap' : Option Addr) (cp' : Nat), Ending.returned (.agg #[.int .i64 (r : Nat), .slice (some ⟨g, 0, none⟩) N N, .slice ap es.length cp]) = .returned (.agg #[.int .i64 (r' : Nat), .slice (some ⟨g', 0, none⟩) (es.length + r') (es.length + r'), .slice ap' es.length cp']) ∧ Hid (∃ hs : List HE, Hd z w.heap.size r' g' (es.length + r') (.slice ap' es.length cp') hs (hs.flatMap HE.cs ++ mkE es.length r') ∧ hs.map HE.e = es ∧ (r' = 2 ∨ r' = 100)) ∧ Below w.heap.size w z) := by
            have hst : ∀ T, T ≠ 157 → ∀ b, Typ T wr b → z.heap[b]? = wr.heap[b]? := fun T hT b hb => p2.same b hb.lt (fun e => hT (by subst e; exact hb.uniq ⟨_, HXX.out.res⟩))
            have hh := HXX.out.hd.same (hst _ (by decide)) (hst _ (by decide)) (hst _ (by decide))
            have hes := HXX.out.es
            rw [List.take_length] at hes
            rw [HTT.out, HNN.out] at hh
            refine ⟨r, g, ap, cp, by rw [HNN.out], ⟨hs, hh, hes, HR.out⟩, ?_⟩
            have h4 := HXX.out.bel
            exact h4.trans (p2.below h4.size (fun k hk => Nat.le_of_eq hk.symm))
          exact bodyPost_ret (v := .agg #[.int .i64 (r : Nat), .slice (some ⟨g, 0, none⟩) N N, .slice ap es.length cp]) (by simp [results, Tryz.results80, go_sem, r0]) rfl F.out
end Go.Proofs.YtbmelpjmpomfcaaGreat.P

namespace Go.Proofs.YtbmelpjmpomfcaaGreat.P
open Go.RowKit

theorem Tx.typ0 {enc lim : Int} {L : List Int} {w : World} {t : Nat} {ps : List PG} (h : Tx enc lim L w t ps) : Typ 116 w t := by
  obtain ⟨_, _, h1, _⟩ := h.ex
  exact ⟨_, h1⟩
theorem Tx.same {enc lim : Int} {L : List Int} {w w' : World} {t : Nat} {ps : List PG} (h : Tx enc lim L w t ps) (h1 : ∀ b, Typ 5 w b → w'.heap[b]? = w.heap[b]?) (h2 : ∀ b, Typ 182 w b → w'.heap[b]? = w.heap[b]?) (h3 : ∀ b, Typ 116 w b → w'.heap[b]? = w.heap[b]?) : Tx enc lim L w' t ps := by
  obtain ⟨lv, u, k1, k2, k3⟩ := h.ex
  exact ⟨⟨lv, u, (h3 t ⟨_, k1⟩).trans k1, k2.same h1, k3.same h2⟩, h.pc.same h1, h.en, h.by', h.ll, h.l0, h.lm, h.sz⟩
theorem Sn.same {enc : Int} {L : List Int} {w w' : World} {s t : Nat} {ps : List PG} (h : Sn enc L w s t ps) (h1 : ∀ b, Typ 5 w b → w'.heap[b]? = w.heap[b]?) (h2 : ∀ b, Typ 182 w b → w'.heap[b]? = w.heap[b]?) (h3 : ∀ b, Typ 150 w b → w'.heap[b]? = w.heap[b]?) : Sn enc L w' s t ps := by
  obtain ⟨u, k1, k2⟩ := h.ex
  exact ⟨⟨u, (h3 s ⟨_, k1⟩).trans k1, k2.same h2⟩, h.pc.same h1, h.sz⟩
structure Bnd (es : List Ed) : Prop where
  each : ∀ e ∈ es, e.2.2.length * 8 ≤ 140737488351232
  len : es.length * 40 ≤ 140737488351232
theorem puts_bnd : ∀ (es : List Ed) (B : Nat), (∀ e ∈ es, e.2.2.length ≤ B) → (puts es).length ≤ es.length * B := by
  intro es
  induction es with
  | nil => intro B _; simp [puts]
  | cons e es ih =>
    intro B h
    have h1 := ih B (fun x hx => h x (List.mem_cons_of_mem _ hx))
    have h2 := h e (List.mem_cons_self ..)
    have e1 : puts (e :: es) = e.2.2 ++ puts es := by simp [puts]
    rw [e1, List.length_append, List.length_cons, Nat.add_mul, Nat.one_mul]
    omega
theorem Bnd.puts {es : List Ed} (h : Bnd es) : es.length ≤ 70000 → (puts es).length ≤ 2305843009213693951 := fun h7 => by
  have h1 := puts_bnd es 17592186044416 (fun e he => by have := h.each e he; omega)
  have h2 : es.length * 17592186044416 ≤ 70000 * 17592186044416 := Nat.mul_le_mul_right _ h7
  omega
def CgR (enc lim : Int) (L : List Int) (t : Nat) (ps : List PG) (es : List Ed) (w : World) (e : Ending) (w' : World) : Prop :=
  e = .returned (.tuple #[.int .i64 (chA enc lim (sh enc ps) es), .bool true]) ∧ ∃ ps', Tx enc lim L w' t ps' ∧ sh enc ps' = chT enc lim (sh enc ps) es ∧ Kps (fun k => k = t) w w'

set_option maxRecDepth 100000 in
set_option maxHeartbeats 4000000 in
theorem written_nil (enc lim : Int) (L : List Int) (w00 w : World) (t : Nat) (ps : List PG) (v : Value) (es : List Ed) (h : Tx enc lim L w t ps) (hE0 : EdR w00 v es) (hb00 : Below w00.heap.size w00 w) (ht00 : w00.heap.size ≤ t) (hl : Bnd es) :
    Calls Tryz.prog 45 #[.pointer (some ⟨t, 0, none⟩), .pointer none, v] w fun e w' => CgR enc lim L t ps es w e w' := by
  have hE := hE0.ext hb00
  have HA := hidIt (hand_nil v es w hE hl.each hl.len)
  have HT := hidIt h
  have HE0 := hidIt hE0
  have HB00 := hidIt hb00
  have HL := hidIt hl
  have hn : es.length ≤ 17592186044416 := by have := hl.len; omega
  have htl : t < w.heap.size := h.typ0.lt
  obtain ⟨ao, cap, rfl, hc1, hc2, _⟩ := id hE
  clear h hE hl hE0 hb00
  go_enter Tryz.func45, Tryz.ntmps45
  go_upto_region 2 with (go_at_call 80; refine HA.out.mono ?_; rintro e w1 ⟨r, g, ap, cp, rfl, HH, hb1⟩; have HB1 := hidIt hb1; clear hb1; (try dsimp only))
  obtain ⟨hs, hHd, hes, hr⟩ := HH.out
  have hr2 : 2 ≤ r ∧ r ≤ 100 := by omega
  have hln : hs.length = es.length := by rw [← hes, List.length_map]
  obtain ⟨w2, hw2, k2, hb2⟩ : ∃ w2, w2 = w1.alloc (.cells #[.int .i64 (r : Nat), .slice (some ⟨g, 0, none⟩) (es.length + r) (es.length + r), .slice ap es.length cp] 157) ∧ w2.heap[w1.heap.size]? = some (.cells #[.int .i64 (r : Nat), .slice (some ⟨g, 0, none⟩) (es.length + r) (es.length + r), .slice ap es.length cp] 157 (0, 0)) ∧ Below w1.heap.size w1 w2 := ⟨_, rfl, heap_alloc_new _ _, ext_alloc (Below.refl _ _) _⟩
  have HH2 := hidIt (hHd.ext hb2)
  have HB2 := hidIt (ext_trans HB1.out hb2)
  have HK2 := hidIt k2
  have HES := hidIt hes
  have HLN := hidIt hln
  have HHV : Hid (∀ w' : World, w'.heap[w1.heap.size]? = w2.heap[w1.heap.size]? → w'.cell? ⟨w1.heap.size, 0, none⟩ = some (.int .i64 (r : Nat)) ∧ w'.cell? ⟨w1.heap.size, 1, none⟩ = some (.slice (some ⟨g, 0, none⟩) (es.length + r) (es.length + r)) ∧ w'.cell? ⟨w1.heap.size, 2, none⟩ = some (.slice ap es.length cp)) := fun w' hq => by
    have e := hq.trans HK2.out
    refine ⟨?_, ?_, ?_⟩ <;> (rw [cell_of_row w' _ _ _ _ _ e]; rfl)
  have h1l : w1.heap.size < w2.heap.size := (Array.getElem?_eq_some_iff.1 k2).1
  rw [← hw2]
  clear hw2 k2 hb2 hHd hes hln HH HA
  have ED := hidIt (hEdits_any r g (es.length + r) ap es.length cp w2 (by omega) (by omega) (by omega))
  rw [Nat.add_sub_cancel] at ED
  have CH : Hid (∀ w', Below w2.heap.size w2 w' → Calls Tryz.prog 19 #[.pointer (some ⟨t, 0, none⟩), .slice (some ⟨g, 0, none⟩) es.length (es.length + r)] w' fun e w'' => e = .returned (.int .i64 (chA enc lim (sh enc ps) es)) ∧ Hid (∃ ps', Tx enc lim L w'' t ps' ∧ sh enc ps' = chT enc lim (sh enc ps) es ∧ Kps (fun k => k = t) w' w'')) := fun w' hb => by
    have h1 := (HH2.out.ext hb).edr (by have := HLN.out; omega) (by omega)
    rw [HES.out, HLN.out] at h1
    exact (Change_any enc lim L w' t ps _ es (HT.out.ext (ext_trans HB2.out hb)) h1 HL.out.puts).mono fun e w'' h => h
  obtain ⟨c0, c1, c2⟩ := HHV.out w2 rfl
  go_upto_region 3 with (first
    | (go_at_call 81; refine ED.out.mono ?_; rintro e w3 ⟨rfl, hb3⟩; have HB3 := hidIt hb3; have CH3 := hidIt (CH.out w3 hb3); clear hb3 c0 c1 c2; (try dsimp only))
    | (go_at_call 19; refine CH3.out.mono ?_; rintro e w4 ⟨rfl, HC4⟩; (try dsimp only)))
  obtain ⟨ps', hT4, hsh4, hk4⟩ := HC4.out
  have HTY := hidIt (show Typ 116 w3 t from (HT.out.ext (ext_trans HB2.out HB3.out)).typ0)
  have hst4 : ∀ T, T ≠ 116 → ∀ b, Typ T w3 b → w4.heap[b]? = w3.heap[b]? := fun T hT b hb => hk4.same b hb.lt (fun e => hT (by subst e; exact hb.uniq HTY.out))
  have HH4 := hidIt ((HH2.out.ext HB3.out).same (hst4 _ (by decide)) (hst4 _ (by decide)) (hst4 _ (by decide)))
  have hbk4 : w4.heap[w1.heap.size]? = w2.heap[w1.heap.size]? := by
    have e3 := HB3.out.block _ h1l
    rw [hst4 157 (by decide) _ ⟨_, e3.trans HK2.out⟩, e3]
  have hB4 : Below w00.heap.size w00 w4 := by
    have h3 := ext_trans HB00.out (ext_trans HB2.out HB3.out)
    exact h3.trans (hk4.below h3.size (fun k hk => by omega))
  have WH := hidIt (whole_any w.heap.size r g ap cp hs es (.slice ao es.length cap) w4 HH4.out HES.out (HE0.out.ext hB4) hr2 hn (fun e he => by have := HL.out.each e he; omega))
  have HT4 := hidIt hT4
  have HS4 := hidIt hsh4
  have HKK4 : Hid (Kps (fun k => k = t) w w4) := (Kps.of_below (fun k => k = t) (ext_trans HB2.out HB3.out)).trans hk4 fun _ _ e => e
  have HBK4 := hidIt hbk4
  obtain ⟨c0, c1, c2⟩ := HHV.out w4 hbk4
  clear hT4 hsh4 hk4 hst4 hbk4 hB4 HC4
  go_upto_region 4 with (go_at_call 82; refine WH.out.mono ?_; rintro e w5 ⟨rfl, hb5⟩; have HB5 := hidIt hb5; clear hb5 c0 c1 c2; (try dsimp only))
  have h1l4 : w1.heap.size < w4.heap.size := (Array.getElem?_eq_some_iff.1 (HBK4.out.trans HK2.out)).1
  obtain ⟨c0, c1, c2⟩ := HHV.out w5 ((HB5.out.block _ h1l4).trans HBK4.out)
  have hH5 := HH4.out.ext HB5.out
  have hS5 := hH5.sp
  have HSP : Hid (Calls Tryz.prog 83 #[.agg #[.int .i64 (r : Nat), .slice (some ⟨g, 0, none⟩) (es.length + r) (es.length + r), .slice ap es.length cp]] w5 fun e w' => (∃ v, e = .returned v) ∧ Kps (fun k => (∃ y ∈ hs, k = y.b) ∨ k = g) w5 w') := by
    have := spoil_any w.heap.size r g (es.length + r) ap cp hs w5 (by rw [HLN.out]; exact hS5) (by omega) (by have := HLN.out; omega) (fun x hx => (hH5.each x hx).ln)
    rwa [HLN.out] at this
  have HS5 := hidIt hS5
  have HH5 := hidIt hH5
  clear hS5 hH5
  go_wp2_with (go_at_call 83; refine HSP.out.mono ?_; rintro e w6 ⟨⟨u, rfl⟩, hk6⟩; have HK6 := hidIt hk6; clear hk6 c0 c1 c2; (try dsimp only))
  go_ret2
  have hst6 : ∀ T, T ≠ 3 → T ≠ 30 → ∀ b, Typ T w5 b → w6.heap[b]? = w5.heap[b]? := fun T h1 h2 b hb => HK6.out.same b hb.lt (fun e => by
    rcases e with ⟨y, hy, rfl⟩ | rfl
    · obtain ⟨ys, hys⟩ := HS5.out.each y hy
      exact h1 (hb.uniq (HE.typ hys))
    · exact h2 (hb.uniq (own_typ HH5.out.all)))
  refine ⟨rfl, ps', (HT4.out.ext HB5.out).same (hst6 _ (by decide) (by decide)) (hst6 _ (by decide) (by decide)) (hst6 _ (by decide) (by decide)), HS4.out, ?_⟩
  refine (HKK4.out.trans (Kps.of_below (fun k => k = t) HB5.out) fun _ _ e => e).trans HK6.out fun i hi e => ?_
  rcases e with ⟨y, hy, rfl⟩ | e
  · have := (HH5.out.each y hy).ge
    omega
  · have : w.heap.size ≤ g := (HH5.out.all.lt g rfl).1
    omega
set_option maxRecDepth 100000 in
theorem changed_any (enc lim : Int) (L : List Int) (w00 w : World) (t : Nat) (ps : List PG) (v : Value) (es : List Ed) (h : Tx enc lim L w t ps) (hE0 : EdR w00 v es) (hb00 : Below w00.heap.size w00 w) (ht00 : w00.heap.size ≤ t) (hl : Bnd es) :
    Calls Tryz.prog 30 #[.pointer (some ⟨t, 0, none⟩), v] w fun e w' => CgR enc lim L t ps es w e w' := by
  have WR := hidIt (written_nil enc lim L w00 w t ps v es h hE0 hb00 ht00 hl)
  obtain ⟨ao, cap, rfl, _⟩ := id hE0
  clear h hE0 hb00
  go_enter Tryz.func30, Tryz.ntmps30
  go_wp2_with (go_at_call 45; refine WR.out.mono ?_; rintro e w1 ⟨rfl, hc1⟩; have HC1 := hidIt hc1; clear hc1; (try dsimp only))
  go_ret2
  exact ⟨rfl, HC1.out⟩
end Go.Proofs.YtbmelpjmpomfcaaGreat.P

namespace Go.Proofs.YtbmelpjmpomfcaaGreat.P
open Go.RowKit

set_option maxRecDepth 100000 in
theorem known_yes (enc : Int) (la : Option Addr) (n lc : Nat) (w : World) (h : 1 ≤ enc ∧ enc ≤ 4 ∧ n ≤ 65536) : Calls Tryz.prog 25 #[.int .i64 enc, .slice la n lc] w fun e w' => e = .returned (.bool true) ∧ w' = w := by
  obtain ⟨h1, h2, h3⟩ := h
  have h3' : (n : Int) ≤ 65536 := by omega
  go_enter Tryz.func25, Tryz.ntmps25
  go_wp2_with fail
  go_ret
  exact ⟨rfl, rfl⟩
set_option maxRecDepth 100000 in
theorem known_no (enc : Int) (la : Option Addr) (n lc : Nat) (w : World) (hn : n ≤ 9223372036854775807) (h : ¬ (1 ≤ enc ∧ enc ≤ 4 ∧ n ≤ 65536)) : Calls Tryz.prog 25 #[.int .i64 enc, .slice la n lc] w fun e w' => e = .returned (.bool false) ∧ w' = w := by
  by_cases h1 : 1 ≤ enc
  · by_cases h2 : enc ≤ 4
    · have h3' : ¬ (n : Int) ≤ 65536 := by omega
      clear h
      go_enter Tryz.func25, Tryz.ntmps25
      go_wp2_with fail
      go_ret
      exact ⟨rfl, rfl⟩
    · clear h
      go_enter Tryz.func25, Tryz.ntmps25
      go_wp2_with fail
      go_ret
      exact ⟨rfl, rfl⟩
  · clear h
    go_enter Tryz.func25, Tryz.ntmps25
    go_wp2_with fail
    go_ret
    exact ⟨rfl, rfl⟩
end Go.Proofs.YtbmelpjmpomfcaaGreat.P

namespace Go.Proofs.YtbmelpjmpomfcaaGreat.P
open Go.RowKit

structure KS where
  s : Nat
  qs : List PG
  aa : Option Addr
  ca : Nat
  ta : Option Addr
  ct : Nat
  b : Nat
def KS.ptr (k : KS) : Value := .pointer (some ⟨k.s, 0, none⟩)
def KS.cs (enc : Int) (k : KS) : List Value := [.slice k.aa (asOf k.qs).length k.ca, .slice k.ta (asOf k.qs).length k.ct, .slice (some ⟨k.b, 0, none⟩) (ln enc (asOf k.qs)) (ln enc (asOf k.qs))]
structure KOk (enc : Int) (L : List Int) (base t : Nat) (w : World) (k : KS) : Prop where
  sn : Sn enc L w k.s t k.qs
  oa : OwnI w base (.slice k.aa (asOf k.qs).length k.ca) (asOf k.qs)
  ot : OwnI w base (.slice k.ta (asOf k.qs).length k.ct) ((sh enc k.qs).map Prod.snd)
  ob : RwU w k.b 0 (Cx.encB enc (asOf k.qs))
theorem KOk.same {enc : Int} {L : List Int} {base t : Nat} {w w' : World} {k : KS} (h : KOk enc L base t w k) (h1 : ∀ b, Typ 5 w b → w'.heap[b]? = w.heap[b]?) (h2 : ∀ b, Typ 182 w b → w'.heap[b]? = w.heap[b]?) (h3 : ∀ b, Typ 150 w b → w'.heap[b]? = w.heap[b]?) (h4 : ∀ b, Typ 3 w b → w'.heap[b]? = w.heap[b]?) : KOk enc L base t w' k :=
  ⟨h.sn.same h1 h2 h3, ownsRow_same h.oa h4, ownsRow_same h.ot h4, h.ob.same (h1 _ h.ob.typ)⟩
structure BkI (enc : Int) (L : List Int) (w : World) (t : Nat) (ks : List KS) (kv sv : Value) (qs : List PG) (wr : World) : Prop where
  tx : Tx enc 65536 L wr t qs
  each : ∀ k ∈ ks, KOk enc L w.heap.size t wr k
  kr : wr.ownsRow w.heap.size 71 1 kv ks.length (ks.map KS.ptr)
  sr : wr.ownsRow w.heap.size 36 3 sv ks.length (ks.flatMap (KS.cs enc))
  bel : Below w.heap.size w wr
  tl : w.heap.size ≤ t
theorem BkI.ext {enc : Int} {L : List Int} {w : World} {t : Nat} {ks : List KS} {kv sv : Value} {qs : List PG} {wr w' : World} (h : BkI enc L w t ks kv sv qs wr) (hb : Below wr.heap.size wr w') : BkI enc L w t ks kv sv qs w' :=
  have hst : ∀ T, ∀ b, Typ T wr b → w'.heap[b]? = wr.heap[b]? := fun _ b hb' => hb.block b hb'.lt
  ⟨h.tx.ext hb, fun k hk => (h.each k hk).same (hst _) (hst _) (hst _) (hst _), ownsRow_same h.kr (hst _), ownsRow_same h.sr (hst _), ext_trans h.bel hb, h.tl⟩
theorem BkI.kps {enc : Int} {L : List Int} {w : World} {t : Nat} {ks : List KS} {kv sv : Value} {qs qs' : List PG} {wr w' : World} (h : BkI enc L w t ks kv sv qs wr) (hk : Kps (fun k => k = t) wr w') (hT : Tx enc 65536 L w' t qs') : BkI enc L w t ks kv sv qs' w' := by
  have ht := h.tx.typ0
  have hst : ∀ T, T ≠ 116 → ∀ b, Typ T wr b → w'.heap[b]? = wr.heap[b]? := fun T hT b hb => hk.same b hb.lt (fun e => hT (by subst e; exact hb.uniq ht))
  exact ⟨hT, fun k hk' => (h.each k hk').same (hst _ (by decide)) (hst _ (by decide)) (hst _ (by decide)) (hst _ (by decide)), ownsRow_same h.kr (hst _ (by decide)), ownsRow_same h.sr (hst _ (by decide)), h.bel.trans (hk.below h.bel.size (fun k e => by have := h.tl; omega)), h.tl⟩
theorem BkI.grown {enc : Int} {L : List Int} {w : World} {t : Nat} {ks : List KS} {kv sv : Value} {qs : List PG} {wr w' : World} (h : BkI enc L w t ks kv sv qs wr) (v : Value) (T : TypeId) (hT : ∀ g, v.ownBlock = some g → Typ T wr g ∧ w.heap.size ≤ g) (hg : wr.grownBy w' v.ownBlock) (h1 : 116 ≠ T) (h2 : 5 ≠ T) (h3 : 182 ≠ T) (h4 : 150 ≠ T) (h5 : 3 ≠ T) :
    Tx enc 65536 L w' t qs ∧ (∀ k ∈ ks, KOk enc L w.heap.size t w' k) ∧ Below w.heap.size w w' ∧ (71 ≠ T → w'.ownsRow w.heap.size 71 1 kv ks.length (ks.map KS.ptr)) ∧ (36 ≠ T → w'.ownsRow w.heap.size 36 3 sv ks.length (ks.flatMap (KS.cs enc))) ∧ ∀ U, U ≠ T → ∀ b, Typ U wr b → w'.heap[b]? = wr.heap[b]? := by
  have hst : ∀ U, U ≠ T → ∀ b, Typ U wr b → w'.heap[b]? = wr.heap[b]? := fun U hU b hb => hg.block b hb.lt (fun e => hU (hb.uniq (hT b e.symm).1))
  exact ⟨h.tx.same (hst _ h2) (hst _ h3) (hst _ h1), fun k hk => (h.each k hk).same (hst _ h2) (hst _ h3) (hst _ h4) (hst _ h5), Below.grown h.bel hg h.bel.size (fun k e => (hT k e).2), fun hn => ownsRow_same h.kr (hst _ hn), fun hn => ownsRow_same h.sr (hst _ hn), hst⟩
theorem cs3_len (enc : Int) (ks : List KS) : (ks.flatMap (KS.cs enc)).length = ks.length * 3 := fm3_len (fun k : KS => Value.slice k.aa (asOf k.qs).length k.ca) (fun k : KS => Value.slice k.ta (asOf k.qs).length k.ct) (fun k : KS => Value.slice (some ⟨k.b, 0, none⟩) (ln enc (asOf k.qs)) (ln enc (asOf k.qs))) ks
theorem BkI.at {enc : Int} {L : List Int} {w : World} {t n : Nat} {ks : List KS} {ka sa : Option Addr} {kc sc : Nat} {qs : List PG} {wr : World} (h : BkI enc L w t ks (.slice ka n kc) (.slice sa n sc) qs wr) (i : Nat) (k : KS) (hk : ks[i]? = some k) : ∃ gk gs, ka = some ⟨gk, 0, none⟩ ∧ sa = some ⟨gs, 0, none⟩ ∧ wr.cell? ⟨gk, i, none⟩ = some k.ptr ∧ wr.cell? ⟨gs, i * 3, none⟩ = some (.slice k.aa (asOf k.qs).length k.ca) ∧ wr.cell? ⟨gs, i * 3 + 1, none⟩ = some (.slice k.ta (asOf k.qs).length k.ct) ∧ wr.cell? ⟨gs, i * 3 + 2, none⟩ = some (.slice (some ⟨k.b, 0, none⟩) (ln enc (asOf k.qs)) (ln enc (asOf k.qs))) ∧ n ≤ kc ∧ n ≤ sc ∧ kc ≤ 9223372036854775807 ∧ sc ≤ 9223372036854775807 := by
  have hi := (List.getElem?_eq_some_iff.1 hk).1
  have h1 := h.kr
  have h2 := h.sr
  rcases h1.2 with ⟨_, e⟩ | ⟨gk, c1, cur1, hv1, _, _, hc1, hm1, _⟩
  · omega
  rcases h2.2 with ⟨_, e⟩ | ⟨gs, c2, cur2, hv2, _, _, hc2, hm2, _⟩
  · omega
  simp only [Value.slice.injEq] at hv1 hv2
  obtain ⟨rfl, rfl, rfl⟩ := hv1
  obtain ⟨rfl, _, rfl⟩ := hv2
  obtain ⟨f0, f1, f2⟩ := fm3 (fun k : KS => Value.slice k.aa (asOf k.qs).length k.ca) (fun k : KS => Value.slice k.ta (asOf k.qs).length k.ct) (fun k : KS => Value.slice (some ⟨k.b, 0, none⟩) (ln enc (asOf k.qs)) (ln enc (asOf k.qs))) ks i k hk
  unfold maxLen at hm1 hm2
  exact ⟨gk, gs, rfl, rfl, (h1.cellAt i (by omega)).trans (by rw [List.getElem?_map, hk]; rfl), (h2.cellAt _ (by omega)).trans f0, (h2.cellAt _ (by omega)).trans f1, (h2.cellAt _ (by omega)).trans f2, hc1, hc2, hm1, hm2⟩
theorem back_seen (enc : Int) (L : List Int) (w : World) (t : Nat) (ks : List KS) (kv sv : Value) (qs : List PG) (wr : World) (h : BkI enc L w t ks kv sv qs wr) (k : KS) (hk : k ∈ ks) :
    Calls Tryz.prog 40 #[.pointer (some ⟨t, 0, none⟩), k.ptr] wr fun e w' => e = .returned (.int .i64 0) ∧ Hid (BkI enc L w t ks kv sv k.qs w') := by
  refine (Back_own enc 65536 L wr t k.s qs k.qs h.tx (h.each k hk).sn).mono ?_
  rintro e w' ⟨rfl, h1, h2⟩
  exact ⟨rfl, h.kps h2 h1⟩
theorem see_same (enc : Int) (L : List Int) (w : World) (t : Nat) (ks : List KS) (kv sv : Value) (wr : World) (k : KS) (hk : k ∈ ks) (h : BkI enc L w t ks kv sv k.qs wr) :
    Calls Tryz.prog 21 #[.pointer (some ⟨t, 0, none⟩)] wr fun e w' => ∃ (xa : Option Addr) (xc : Nat) (ya : Option Addr) (yc : Nat) (za : Option Addr) (zc : Nat), e = .returned (.agg #[.slice xa (asOf k.qs).length xc, .slice ya (asOf k.qs).length yc, .slice za (ln enc (asOf k.qs)) zc]) ∧ Hid (BkI enc L w t ks kv sv k.qs w' ∧ ∀ w3, Below w'.heap.size w' w3 → Calls Tryz.prog 39 #[.agg #[.slice xa (asOf k.qs).length xc, .slice ya (asOf k.qs).length yc, .slice za (ln enc (asOf k.qs)) zc], .agg (KS.cs enc k).toArray] w3 fun e w4 => e = .returned (.bool true) ∧ Below w3.heap.size w3 w4) := by
  refine (see_any enc 65536 L wr t k.qs h.tx).mono ?_
  rintro e w' ⟨va, vt, vb, rfl, ⟨h1, h2, b3, rfl, h3⟩, hb⟩
  obtain ⟨aa, ca, e1⟩ := h1.form
  obtain ⟨at', ct, e2⟩ := h2.form
  rw [List.length_map, sh_len] at e2
  subst e1 e2
  have hI := h.ext hb
  have hN : ln enc (asOf k.qs) ≤ 9223372036854775807 := by have := h.tx.sz; omega
  refine ⟨aa, ca, at', ct, some ⟨b3, 0, none⟩, _, rfl, hI, fun w3 hb3 => ?_⟩
  have hk3 := (hI.ext hb3).each k hk
  exact same_any _ _ _ _ _ _ (asOf k.qs) ((sh enc k.qs).map Prod.snd) (Cx.encB enc (asOf k.qs)) w3 ⟨h1.rd.ext hb3, h2.rd.ext hb3, (h3.ext hb3).rd _ (Nat.le_refl _) hN⟩ ⟨hk3.oa.rd, hk3.ot.rd, hk3.ob.rd _ (Nat.le_refl _) hN⟩
theorem Tryz.info_sp : (Tryz.prog.info? 71).map (fun i => (i.zero, i.size, i.bytes)) = some (some (.pointer none), 1, 8) := by kernel_rfl
theorem Tryz.info_seen : (Tryz.prog.info? 36).map (fun i => (i.zero, i.size, i.bytes)) = some (some (.agg #[.slice none 0 0, .slice none 0 0, .slice none 0 0]), 3, 72) := by kernel_rfl
theorem own_st {w w' : World} {base : Nat} {T : TypeId} {s : Nat} {v : Value} {n : Nat} {xs : List Value} (h : w.ownsRow base T s v n xs) (hg : w.grownBy w' v.ownBlock) : ∀ U, U ≠ T → ∀ b, Typ U w b → w'.heap[b]? = w.heap[b]? := fun U hU b hb => hg.block b hb.lt (fun e => by
  rcases h.2 with ⟨rfl, _⟩ | ⟨g, cap, cur, rfl, _, hg', _⟩
  · cases e
  · have e' : b = g := by simpa [Value.ownBlock] using e
    subst e'
    exact hU (hb.uniq ⟨_, hg'⟩))
theorem new_cells {w : World} {T : TypeId} (cs : List Value) : ∀ j u, cs[j]? = some u → (w.alloc (.cells cs.toArray T)).cell? ((⟨w.heap.size, 0, none⟩ : Addr).add j) = some u := fun j u hj => by
  rw [Addr.add_lit, cell_of_row _ _ _ _ _ _ (heap_alloc_new _ _), Nat.zero_add, List.getElem?_toArray]
  exact hj
def TnL (w : World) (v : Value) (ts : List (Bool × List Ed × Int)) : Prop :=
  ∃ ao cap, v = .slice ao ts.length cap ∧ ts.length ≤ cap ∧ cap ≤ 9223372036854775807 ∧ ∀ i x, ts[i]? = some x → ∃ b o ea ec, ao = some ⟨b, o, none⟩ ∧ b < w.heap.size ∧ w.cell? ⟨b, o + i * 3, none⟩ = some (.bool x.1) ∧ w.cell? ⟨b, o + i * 3 + 1, none⟩ = some (.slice ea x.2.1.length ec) ∧ w.cell? ⟨b, o + i * 3 + 2, none⟩ = some (.int .i64 x.2.2) ∧ EdR w (.slice ea x.2.1.length ec) x.2.1 ∧ Bnd x.2.1

set_option maxRecDepth 100000 in
set_option maxHeartbeats 8000000 in
theorem backLaw_any (enc : Int) (lv tv : Value) (L : List Int) (ts : List (Bool × List Ed × Int)) (w : World) (hL : Rd .u8 w lv L) (hB : Byt L) (hlv : ∀ c, lv = .slice none L.length c → c = 0 ∧ L = []) (hT : TnL w tv ts) (hts : ts.length ≤ 1048576) :
    Calls Tryz.prog 7 #[.int .i64 enc, lv, tv] w fun e w' => e = .returned (.bool true) ∧ Below w.heap.size w w' := by
  have AB : Hid (∀ w', Calls Tryz.prog 16 #[] w' fun e w'' => e = .returned (.bool true) ∧ Below w'.heap.size w' w'') := fun w' => able_any w'
  obtain ⟨la, lc, rfl, hl1, hl2, _⟩ := id hL
  obtain ⟨ea, ec, rfl, he1, he2, he3⟩ := id hT
  have HE' := hidIt he3
  have HL := hidIt hL
  have hLm : L.length ≤ 9223372036854775807 := hL.len
  by_cases hkn : 1 ≤ enc ∧ enc ≤ 4 ∧ L.length ≤ 65536
  · have KN : Hid (∀ w', Calls Tryz.prog 25 #[.int .i64 enc, .slice la L.length lc] w' fun e w'' => e = .returned (.bool true) ∧ w'' = w') := fun w' => known_yes enc la L.length lc w' hkn
    have hEn : Cx.En enc := by unfold Cx.En; omega
    have hk2 : Cx.known enc = true := by rcases hEn with rfl | rfl | rfl | rfl <;> rfl
    have OP : Hid (∀ w', Below w.heap.size w w' → Calls Tryz.prog 17 #[.int .i64 enc, .slice la L.length lc] w' fun e w'' => ∃ (t : Nat) (ps : List PG), e = .returned (.pointer (some ⟨t, 0, none⟩)) ∧ Hid (Tx enc 65536 L w'' t ps ∧ sh enc ps = ctn enc 0 (Cx.dec enc L) ∧ w'.heap.size ≤ t) ∧ Below w'.heap.size w' w'') := fun w' hb => opened_any enc hk2 la lc L w' (hL.ext hb) hB hkn.2.2 (fun e => by subst e; exact hlv lc rfl)
    have HBK := hidIt (Cx.back_all enc hEn L.length L (Nat.le_refl _) hB).1
    have hL6 := hkn.2.2
    obtain ⟨i1, hi1, hz10, hz11, hz12⟩ := info_parts Tryz.info_sp
    obtain ⟨i2, hi2, hz20, hz21, hz22⟩ := info_parts Tryz.info_seen
    clear hL hT he3 hlv hkn hk2
    go_enter Tryz.func7, Tryz.ntmps7
    go_upto_region 6 with (first
      | (go_at_call 16; refine (AB.out w).mono ?_; rintro e w1 ⟨rfl, hb1⟩; have HB1 := hidIt hb1; clear hb1; (try dsimp only))
      | (go_at_call 25; refine (KN.out w1).mono ?_; rintro e w1' ⟨rfl, hw1⟩; rw [hw1]; clear hw1; (try dsimp only))
      | (go_at_call 17; refine (OP.out w1 HB1.out).mono ?_; rintro e w2 ⟨t, ps, rfl, hop, hb2⟩; have HOP := hidIt hop.out; have HB2 := hidIt (ext_trans HB1.out hb2); clear hop hb2; (try dsimp only)))
    have htl : w.heap.size ≤ t := Nat.le_trans HB1.out.size HOP.out.2.2
    have hbL : Cx.encB enc (asOf ps) = L := by rw [← sh_fst enc ps, HOP.out.2.1, ctn_fst]; exact HBK.out
    have BY := hidIt (Bytes_any enc 65536 L w2 t ps HOP.out.1)
    rw [hbL] at BY
    have BN : Hid (∀ w', Calls Tryz.prog 40 #[.pointer (some ⟨t, 0, none⟩), .pointer none] w' fun e w'' => e = .returned (.int .i64 51) ∧ Below w'.heap.size w' w'') := fun w' => Back_nil w' t
    clear hbL
    go_upto_block 0 with (first
      | (go_at_call 31; refine BY.out.mono ?_; rintro e w3 ⟨b3, rfl, hr3, _, hb3⟩; have HB3 := hidIt hb3; have SB3 := hidIt (sameBytes_eq (.slice (some ⟨b3, 0, none⟩) L.length L.length) (.slice la L.length lc) L w3 (hr3.rd _ (Nat.le_refl _) (by omega)) (HL.out.ext (ext_trans HB2.out hb3))); clear hr3 hb3; (try dsimp only))
      | (go_at_call 23; refine SB3.out.mono ?_; rintro e w4 ⟨rfl, hb4⟩; have HB4 := hidIt (ext_trans HB3.out hb4); clear hb4; (try dsimp only))
      | (go_at_call 40; refine (BN.out w4).mono ?_; rintro e w5 ⟨rfl, hb5⟩; have HB5 := hidIt (ext_trans HB4.out hb5); clear hb5; (try dsimp only)))
    have HI0 : Hid (BkI enc L w t [] (.slice none 0 0) (.slice none 0 0) ps w5) := ⟨HOP.out.1.ext HB5.out, (fun k hk => by cases hk), World.ownsRow_nil _ _ _ _, World.ownsRow_nil _ _ _ _, ext_trans HB2.out HB5.out, htl⟩
    clear HB5 HB4 HB3 SB3 BY BN HOP
    go_wp2_with fail
    go_loopg [8, 9, 10] ts.length (fun gk pk pv pi wr => ∃ (i : Nat) (ks : List KS) (ka : Option Addr) (kc : Nat) (sa : Option Addr) (sc : Nat) (qs : List PG) (n : Nat), i + gk = ts.length ∧ n ≤ i ∧ pk = .slice ka n kc ∧ pv = .slice sa n sc ∧ pi = .int .i64 (i : Nat) ∧ Hid (ks.length = n ∧ BkI enc L w t ks (.slice ka n kc) (.slice sa n sc) qs wr))
    case atStart => exact ⟨0, [], none, 0, none, 0, ps, 0, by omega, by omega, rfl, rfl, rfl, rfl, HI0.out⟩
    case round =>
      obtain ⟨i, ks, ka, kc, sa, sc, qs, n, hi, hni, rfl, rfl, rfl, HI⟩ := hrel
      by_cases hil : i < ts.length
      · have hil2 : (i : Int) < (ts.length : Int) := by omega
        obtain ⟨⟨keep, es, bk⟩, hx⟩ : ∃ x, ts[i]? = some x := ⟨_, List.getElem?_eq_getElem hil⟩
        obtain ⟨b, o, va, vc, rfl, hbl, k0, k1, k2, hed, hbn⟩ := HE'.out i _ hx
        simp only at k0 k1 k2 hed hbn
        have HCW : Hid (∀ w', Below w.heap.size w w' → w'.cell? ⟨b, o + i * 3, none⟩ = some (.bool keep) ∧ w'.cell? ⟨b, o + i * 3 + 1, none⟩ = some (.slice va es.length vc) ∧ w'.cell? ⟨b, o + i * 3 + 2, none⟩ = some (.int .i64 bk)) := fun w' hb => ⟨(hb.cell (p := ⟨b, o + i * 3, none⟩) hbl).trans k0, (hb.cell (p := ⟨b, o + i * 3 + 1, none⟩) hbl).trans k1, (hb.cell (p := ⟨b, o + i * 3 + 2, none⟩) hbl).trans k2⟩
        have HED := hidIt hed
        have HBN := hidIt hbn
        clear k0 k1 k2 hed hbn hx hbl
        obtain ⟨c0, c1, c2⟩ := HCW.out wr HI.out.2.bel
        go_upto_if 47 with fail
        go_cut [8, 9, 11] from 48 to 60 (fun kv sv _ wF => ∃ (ks : List KS) (ka : Option Addr) (kc : Nat) (sa : Option Addr) (sc : Nat) (qs : List PG) (n : Nat), n ≤ i + 1 ∧ kv = .slice ka n kc ∧ sv = .slice sa n sc ∧ Hid (ks.length = n ∧ BkI enc L w t ks (.slice ka n kc) (.slice sa n sc) qs wF))
        case first =>
          cases keep with
          | false =>
            go_wp2_with fail
            go_meet
            case rel => exact ⟨ks, ka, kc, sa, sc, qs, n, by omega, rfl, rfl, HI.out⟩
          | true =>
            have SN := hidIt (Snap_any enc 65536 L wr t qs HI.out.2.tx)
            clear c0 c1 c2
            go_upto_region 17 with (go_at_call 41; refine SN.out.mono ?_; rintro e w1 ⟨sn, rfl, hsn, _, hb1⟩; have HSN := hidIt hsn; have HI1 := hidIt (HI.out.2.ext hb1); clear hsn hb1; (try dsimp only))
            have HNl := hidIt HI.out.1
            have HOW : Hid ((w1.alloc (.cells #[.pointer (some ⟨sn, 0, none⟩)] 71)).ownsRow w.heap.size 71 1 (.slice ka n kc) n (ks.map KS.ptr)) := by
              have := HI1.out.kr
              rw [HNl.out] at this
              exact ownsRow_same this fun b' hb' => (ext_alloc (Below.refl w1.heap.size w1) _).block b' hb'.lt
            have HNW := hidIt (new_cells (w := w1) (T := 71) [.pointer (some ⟨sn, 0, none⟩)])
            have HSZ := hidIt (show w.heap.size ≤ (w1.alloc (.cells #[.pointer (some ⟨sn, 0, none⟩)] 71)).heap.size from Nat.le_trans HI1.out.bel.size (size_alloc_le _ _))
            go_upto_region 18 with (at_builtin; refine wpList_append_own _ rfl _ _ 67 rfl w.heap.size 71 i1 (.pointer none) 1 8 Tryz.underlying67 hi1 hz10 hz11 hz12 rfl (by decide) (.slice ka n kc) n (ks.map KS.ptr) rfl HOW.out ⟨w1.heap.size, 0, none⟩ 1 1 [.pointer (some ⟨sn, 0, none⟩)] rfl rfl HNW.out (by intro u hu; rw [List.mem_singleton] at hu; subst hu; rfl) (by unfold maxLen; omega) (by omega) HSZ.out ?_; intro v2 w2 ho2 hg2 _; obtain ⟨a2, c2, hv2⟩ := ownsRow_form ho2; subst hv2; have HO2 := hidIt ho2; have HG2 := hidIt hg2; clear ho2 hg2)
            have hB1a : Below w1.heap.size w1 (w1.alloc (.cells #[.pointer (some ⟨sn, 0, none⟩)] 71)) := ext_alloc (Below.refl _ _) _
            have hst2 : ∀ U, U ≠ 71 → ∀ b, Typ U w1 b → w2.heap[b]? = w1.heap[b]? := fun U hU b hb => (own_st HOW.out HG2.out U hU b (hb.ext hB1a)).trans (hB1a.block b hb.lt)
            have hT2 := HI1.out.tx.same (hst2 _ (by decide)) (hst2 _ (by decide)) (hst2 _ (by decide))
            have hS2 := HSN.out.same (hst2 _ (by decide)) (hst2 _ (by decide)) (hst2 _ (by decide))
            have hE2 : ∀ k ∈ ks, KOk enc L w.heap.size t w2 k := fun k hk => (HI1.out.each k hk).same (hst2 _ (by decide)) (hst2 _ (by decide)) (hst2 _ (by decide)) (hst2 _ (by decide))
            have hR2 := ownsRow_same HI1.out.sr (hst2 _ (by decide))
            have hb2 : Below w.heap.size w w2 := Below.grown (ext_trans HI1.out.bel hB1a) HG2.out HSZ.out (fun k e => (World.ownsRow.lt HOW.out k e).1)
            have HX2 := hidIt (⟨hT2, hS2, hE2, hR2, hb2⟩ : _ ∧ _ ∧ _ ∧ _ ∧ _)
            have SE2 := hidIt (see_any enc 65536 L w2 t qs hT2)
            clear hT2 hS2 hE2 hR2 hb2 hst2 hB1a HOW HNW HSZ HSN SN
            have SE3 : Hid (Calls Tryz.prog 21 #[.pointer (some ⟨t, 0, none⟩)] w2 fun e w3 => ∃ (xa : Option Addr) (xc : Nat) (ya : Option Addr) (yc : Nat) (b3 : Nat), e = .returned (.agg #[.slice xa (asOf qs).length xc, .slice ya (asOf qs).length yc, .slice (some ⟨b3, 0, none⟩) (ln enc (asOf qs)) (ln enc (asOf qs))]) ∧ Hid (OwnI w3 w2.heap.size (.slice xa (asOf qs).length xc) (asOf qs) ∧ OwnI w3 w2.heap.size (.slice ya (asOf qs).length yc) ((sh enc qs).map Prod.snd) ∧ RwU w3 b3 0 (Cx.encB enc (asOf qs))) ∧ Below w2.heap.size w2 w3) := by
              refine SE2.out.mono ?_
              rintro e w3 ⟨va', vt', vb', rfl, ⟨h1, h2, b3, rfl, h3⟩, hb⟩
              obtain ⟨xa, xc, e1⟩ := h1.form
              obtain ⟨ya, yc, e2⟩ := h2.form
              rw [List.length_map, sh_len] at e2
              subst e1 e2
              exact ⟨xa, xc, ya, yc, b3, rfl, ⟨h1, h2, h3⟩, hb⟩
            go_wp2_with (first
              | (go_at_call 21; refine SE3.out.mono ?_; rintro e w3 ⟨xa, xc, ya, yc, b3, rfl, HS3, hb3⟩; have HB3 := hidIt hb3; have HOW3 : Hid ((w3.alloc (.cells #[.slice xa (asOf qs).length xc, .slice ya (asOf qs).length yc, .slice (some ⟨b3, 0, none⟩) (ln enc (asOf qs)) (ln enc (asOf qs))] 36)).ownsRow w.heap.size 36 3 (.slice sa n sc) n (ks.flatMap (KS.cs enc))) := (by have := HX2.out.2.2.2.1; rw [HNl.out] at this; exact ownsRow_same this fun b' hb' => (ext_alloc hb3 _).block b' hb'.lt); have HNW3 := hidIt (new_cells (w := w3) (T := 36) [.slice xa (asOf qs).length xc, .slice ya (asOf qs).length yc, .slice (some ⟨b3, 0, none⟩) (ln enc (asOf qs)) (ln enc (asOf qs))]); have HSZ3 := hidIt (show w.heap.size ≤ (w3.alloc (.cells #[.slice xa (asOf qs).length xc, .slice ya (asOf qs).length yc, .slice (some ⟨b3, 0, none⟩) (ln enc (asOf qs)) (ln enc (asOf qs))] 36)).heap.size from Nat.le_trans HX2.out.2.2.2.2.size (Nat.le_trans hb3.size (size_alloc_le _ _))); clear hb3; (try dsimp only))
              | (at_builtin; refine wpList_append_own _ rfl _ _ 68 rfl w.heap.size 36 i2 (.agg #[.slice none 0 0, .slice none 0 0, .slice none 0 0]) 3 72 Tryz.underlying68 hi2 hz20 hz21 hz22 rfl (by decide) (.slice sa n sc) n (ks.flatMap (KS.cs enc)) rfl HOW3.out ⟨w3.heap.size, 0, none⟩ 1 1 [.slice xa (asOf qs).length xc, .slice ya (asOf qs).length yc, .slice (some ⟨b3, 0, none⟩) (ln enc (asOf qs)) (ln enc (asOf qs))] rfl rfl HNW3.out (by intro u hu; simp only [List.mem_cons, List.not_mem_nil, or_false] at hu; rcases hu with rfl | rfl | rfl <;> rfl) (by unfold maxLen; omega) (by omega) HSZ3.out ?_; intro v4 w4 ho4 hg4 _; obtain ⟨a4, c4, hv4⟩ := ownsRow_form ho4; subst hv4; have HO4 := hidIt ho4; have HG4 := hidIt hg4; clear ho4 hg4))
            go_meet
            case rel =>
              obtain ⟨hT2, hS2, hE2, hR2, hb2⟩ := HX2.out
              obtain ⟨h1, h2, h3⟩ := HS3.out
              have hB3a := ext_alloc HB3.out (.cells #[.slice xa (asOf qs).length xc, .slice ya (asOf qs).length yc, .slice (some ⟨b3, 0, none⟩) (ln enc (asOf qs)) (ln enc (asOf qs))] 36)
              have hB3b := ext_alloc (Below.refl w3.heap.size w3) (.cells #[.slice xa (asOf qs).length xc, .slice ya (asOf qs).length yc, .slice (some ⟨b3, 0, none⟩) (ln enc (asOf qs)) (ln enc (asOf qs))] 36)
              have hst4 : ∀ U, U ≠ 36 → ∀ b, Typ U w2 b → w4.heap[b]? = w2.heap[b]? := fun U hU b hb => (own_st HOW3.out HG4.out U hU b (hb.ext hB3a)).trans (hB3a.block b hb.lt)
              have hst5 : ∀ U, U ≠ 36 → ∀ b, Typ U w3 b → w4.heap[b]? = w3.heap[b]? := fun U hU b hb => (own_st HOW3.out HG4.out U hU b (hb.ext hB3b)).trans (hB3b.block b hb.lt)
              refine ⟨ks ++ [⟨sn, qs, xa, xc, ya, yc, b3⟩], a2, c2, a4, c4, qs, n + 1, by omega, rfl, rfl, by rw [List.length_append, HNl.out]; rfl, ?_⟩
              refine ⟨hT2.same (hst4 _ (by decide)) (hst4 _ (by decide)) (hst4 _ (by decide)), fun k hk => ?_, ?_, ?_, Below.grown (ext_trans hb2 hB3a) HG4.out HSZ3.out (fun k e => (World.ownsRow.lt HOW3.out k e).1), htl⟩
              · rcases List.mem_append.1 hk with hk | hk
                · exact (hE2 k hk).same (hst4 _ (by decide)) (hst4 _ (by decide)) (hst4 _ (by decide)) (hst4 _ (by decide))
                · rw [List.mem_singleton] at hk
                  subst hk
                  exact ⟨hS2.same (hst4 _ (by decide)) (hst4 _ (by decide)) (hst4 _ (by decide)), ownsRow_same (h1.mono hb2.size) (hst5 _ (by decide)), ownsRow_same (h2.mono hb2.size) (hst5 _ (by decide)), h3.same (hst5 _ (by decide) _ h3.typ)⟩
              · have := ownsRow_same HO2.out (hst4 _ (by decide))
                rw [List.length_append, List.map_append, HNl.out]
                exact this
              · rw [List.length_append, List.flatMap_append, HNl.out]
                exact HO4.out
        obtain ⟨ks2, ka2, kc2, sa2, sc2, qs2, n2, hn2, rfl, rfl, HI2⟩ := hcut
        clear c0 c1 c2 HI
        have CG := hidIt (changed_any enc 65536 L w wc t qs2 _ es HI2.out.2.tx HED.out HI2.out.2.bel htl HBN.out)
        obtain ⟨c0, c1, c2⟩ := HCW.out wc HI2.out.2.bel
        go_upto_region 20 with (go_at_call 30; refine CG.out.mono ?_; clear c0 c1 c2; rintro e w6 ⟨rfl, hc6⟩; have HC6 := hidIt hc6; clear hc6; (try dsimp only))
        obtain ⟨ps', hT6, _, hk6⟩ := HC6.out
        have HI6 : Hid (ks2.length = n2 ∧ BkI enc L w t ks2 (.slice ka2 n2 kc2) (.slice sa2 n2 sc2) ps' w6) := ⟨HI2.out.1, HI2.out.2.kps hk6 hT6⟩
        clear hT6 hk6 HC6 HI2 CG
        obtain ⟨c0, c1, c2⟩ := HCW.out w6 HI6.out.2.bel
        by_cases hb0 : bk < 0
        · go_wp2_with fail
          go_roundg (ts.length - (i + 1))
          case rel => exact ⟨i + 1, ks2, ka2, kc2, sa2, sc2, ps', n2, by omega, hn2, rfl, rfl, by go_num, HI6.out⟩
          case measure => omega
        obtain ⟨kk, rfl⟩ : ∃ kk : Nat, bk = kk := ⟨bk.toNat, by omega⟩
        by_cases hbn : kk < n2
        · have hbn2 : ¬ (n2 : Int) ≤ (kk : Int) := by omega
          have hbn3 : (kk : Int) < (n2 : Int) := by omega
          obtain ⟨x, hx⟩ : ∃ x, ks2[kk]? = some x := ⟨_, List.getElem?_eq_getElem (by have := HI6.out.1; omega)⟩
          obtain ⟨gk, gs, rfl, rfl, _, _, _, _, hkc1, hsc1, hkc2, hsc2⟩ := HI6.out.2.at kk x hx
          have hxm := List.mem_of_getElem? hx
          obtain ⟨xs, xq, xa, xc, ya, yc, xb⟩ := x
          have HBC : Hid (∀ w' q, BkI enc L w t ks2 (.slice (some ⟨gk, 0, none⟩) n2 kc2) (.slice (some ⟨gs, 0, none⟩) n2 sc2) q w' → w'.cell? ⟨gk, kk, none⟩ = some (.pointer (some ⟨xs, 0, none⟩)) ∧ w'.cell? ⟨gs, kk * 3, none⟩ = some (.slice xa (asOf xq).length xc) ∧ w'.cell? ⟨gs, kk * 3 + 1, none⟩ = some (.slice ya (asOf xq).length yc) ∧ w'.cell? ⟨gs, kk * 3 + 2, none⟩ = some (.slice (some ⟨xb, 0, none⟩) (ln enc (asOf xq)) (ln enc (asOf xq)))) := fun w' q h => by
            obtain ⟨_, _, e1, e2, q0, q1, q2, q3, _⟩ := h.at kk _ hx
            cases e1
            cases e2
            exact ⟨q0, q1, q2, q3⟩
          have HBE : Hid (∀ w', Below w6.heap.size w6 w' → BkI enc L w t ks2 (.slice (some ⟨gk, 0, none⟩) n2 kc2) (.slice (some ⟨gs, 0, none⟩) n2 sc2) _ w') := fun w' hb => HI6.out.2.ext hb
          have BK : Hid (∀ w', Below w6.heap.size w6 w' → Calls Tryz.prog 40 #[.pointer (some ⟨t, 0, none⟩), .pointer (some ⟨xs, 0, none⟩)] w' fun e w'' => e = .returned (.int .i64 0) ∧ Hid (BkI enc L w t ks2 (.slice (some ⟨gk, 0, none⟩) n2 kc2) (.slice (some ⟨gs, 0, none⟩) n2 sc2) xq w'')) := fun w' hb => back_seen enc L w t ks2 _ _ _ w' (HI6.out.2.ext hb) _ hxm
          have SEE : Hid (∀ w', BkI enc L w t ks2 (.slice (some ⟨gk, 0, none⟩) n2 kc2) (.slice (some ⟨gs, 0, none⟩) n2 sc2) xq w' → Calls Tryz.prog 21 #[.pointer (some ⟨t, 0, none⟩)] w' fun e w'' => ∃ (x1 : Option Addr) (x2 : Nat) (x3 : Option Addr) (x4 : Nat) (x5 : Option Addr) (x6 : Nat), e = .returned (.agg #[.slice x1 (asOf xq).length x2, .slice x3 (asOf xq).length x4, .slice x5 (ln enc (asOf xq)) x6]) ∧ Hid (BkI enc L w t ks2 (.slice (some ⟨gk, 0, none⟩) n2 kc2) (.slice (some ⟨gs, 0, none⟩) n2 sc2) xq w'' ∧ ∀ w3, Below w''.heap.size w'' w3 → Calls Tryz.prog 39 #[.agg #[.slice x1 (asOf xq).length x2, .slice x3 (asOf xq).length x4, .slice x5 (ln enc (asOf xq)) x6], .agg #[.slice xa (asOf xq).length xc, .slice ya (asOf xq).length yc, .slice (some ⟨xb, 0, none⟩) (ln enc (asOf xq)) (ln enc (asOf xq))]] w3 fun e w4 => e = .returned (.bool true) ∧ Below w3.heap.size w3 w4)) := fun w' h => see_same enc L w t ks2 _ _ w' ⟨xs, xq, xa, xc, ya, yc, xb⟩ hxm h
          clear hx hxm
          obtain ⟨q0, q1, q2, q3⟩ := HBC.out w6 _ HI6.out.2
          go_upto_region 22 with fail
          go_cut [97] from 81 to 96 (fun v wF => v = .bool false ∧ Hid (BkI enc L w t ks2 (.slice (some ⟨gk, 0, none⟩) n2 kc2) (.slice (some ⟨gs, 0, none⟩) n2 sc2) xq wF))
          case first =>
            go_region_held3 (fun w' => w'.cell? ⟨gk, kk, none⟩ = some (.pointer (some ⟨xs, 0, none⟩)) ∧ w'.cell? ⟨gs, kk * 3, none⟩ = some (.slice xa (asOf xq).length xc) ∧ w'.cell? ⟨gs, kk * 3 + 1, none⟩ = some (.slice ya (asOf xq).length yc) ∧ w'.cell? ⟨gs, kk * 3 + 2, none⟩ = some (.slice (some ⟨xb, 0, none⟩) (ln enc (asOf xq)) (ln enc (asOf xq)))) (first | exact HBC.out _ _ (HI9.out.ext HB10.out) | exact HBC.out _ _ HI9.out | exact HBC.out _ _ HI8.out | exact HBC.out _ _ (HBE.out _ (by repeat (first | exact Below.refl _ _ | apply Below.drew))) | go_keep) (first
              | (go_at_call 40; refine (BK.out _ (by repeat (first | exact Below.refl _ _ | apply Below.drew))).mono ?_; clear q0 q1 q2 q3; rintro e w8 ⟨rfl, HI8⟩; obtain ⟨q0, q1, q2, q3⟩ := HBC.out w8 _ HI8.out; (try dsimp only))
              | (go_at_call 21; refine (SEE.out _ HI8.out).mono ?_; clear q0 q1 q2 q3; rintro e w9 ⟨x1, x2, x3, x4, x5, x6, rfl, HS9⟩; have HI9 := hidIt HS9.out.1; have SM9 := hidIt (HS9.out.2 w9 (Below.refl _ _)); obtain ⟨q0, q1, q2, q3⟩ := HBC.out w9 _ HI9.out; (try dsimp only))
              | (go_at_call 39; refine SM9.out.mono ?_; clear q0 q1 q2 q3; rintro e w10 ⟨rfl, hb10⟩; have HB10 := hidIt hb10; obtain ⟨q0, q1, q2, q3⟩ := HBC.out w10 _ (HI9.out.ext hb10); clear hb10; (try dsimp only)))
            all_goals go_wp2_with fail
            all_goals go_meet
            case rel => exact ⟨rfl, HI9.out.ext HB10.out⟩
          obtain ⟨rfl, HIc⟩ := hcut
          clear q0 q1 q2 q3
          go_wp2_with fail
          go_roundg (ts.length - (i + 1))
          case rel => exact ⟨i + 1, ks2, some ⟨gk, 0, none⟩, kc2, some ⟨gs, 0, none⟩, sc2, xq, n2, by omega, hn2, rfl, rfl, by go_num, HI6.out.1, HIc.out⟩
          case measure => omega
        · have hbn2 : (n2 : Int) ≤ (kk : Int) := by omega
          go_wp2_with fail
          go_roundg (ts.length - (i + 1))
          case rel => exact ⟨i + 1, ks2, ka2, kc2, sa2, sc2, ps', n2, by omega, hn2, rfl, rfl, by go_num, HI6.out⟩
          case measure => omega
      · have hil2 : ¬ (i : Int) < (ts.length : Int) := by omega
        go_wp2_with fail
        go_loopg [13] n (fun gk2 p wr2 => ∃ (j : Nat) (q : List PG), j + gk2 = n ∧ p = .int .i64 (j : Nat) ∧ Hid (ks.length = n ∧ BkI enc L w t ks (.slice ka n kc) (.slice sa n sc) q wr2))
        case atStart => exact ⟨0, qs, by omega, rfl, HI.out⟩
        case round =>
          obtain ⟨j, q, hj, rfl, HI7⟩ := hrel
          by_cases hjn : j < n
          · have hjn2 : (j : Int) < (n : Int) := by omega
            generalize wr = w7 at *
            obtain ⟨x, hx⟩ : ∃ x, ks[j]? = some x := ⟨_, List.getElem?_eq_getElem (by have := HI7.out.1; omega)⟩
            obtain ⟨gk, gs, rfl, rfl, _, _, _, _, hkc1, hsc1, hkc2, hsc2⟩ := HI7.out.2.at j x hx
            have hxm := List.mem_of_getElem? hx
            obtain ⟨xs, xq, xa, xc, ya, yc, xb⟩ := x
            have HBC : Hid (∀ w' q, BkI enc L w t ks (.slice (some ⟨gk, 0, none⟩) n kc) (.slice (some ⟨gs, 0, none⟩) n sc) q w' → w'.cell? ⟨gk, j, none⟩ = some (.pointer (some ⟨xs, 0, none⟩)) ∧ w'.cell? ⟨gs, j * 3, none⟩ = some (.slice xa (asOf xq).length xc) ∧ w'.cell? ⟨gs, j * 3 + 1, none⟩ = some (.slice ya (asOf xq).length yc) ∧ w'.cell? ⟨gs, j * 3 + 2, none⟩ = some (.slice (some ⟨xb, 0, none⟩) (ln enc (asOf xq)) (ln enc (asOf xq)))) := fun w' q h => by
              obtain ⟨_, _, e1, e2, q0, q1, q2, q3, _⟩ := h.at j _ hx
              cases e1
              cases e2
              exact ⟨q0, q1, q2, q3⟩
            have HBE : Hid (∀ w', Below w7.heap.size w7 w' → BkI enc L w t ks (.slice (some ⟨gk, 0, none⟩) n kc) (.slice (some ⟨gs, 0, none⟩) n sc) _ w') := fun w' hb => HI7.out.2.ext hb
            have BK : Hid (∀ w', Below w7.heap.size w7 w' → Calls Tryz.prog 40 #[.pointer (some ⟨t, 0, none⟩), .pointer (some ⟨xs, 0, none⟩)] w' fun e w'' => e = .returned (.int .i64 0) ∧ Hid (BkI enc L w t ks (.slice (some ⟨gk, 0, none⟩) n kc) (.slice (some ⟨gs, 0, none⟩) n sc) xq w'')) := fun w' hb => back_seen enc L w t ks _ _ _ w' (HI7.out.2.ext hb) _ hxm
            have SEE : Hid (∀ w', BkI enc L w t ks (.slice (some ⟨gk, 0, none⟩) n kc) (.slice (some ⟨gs, 0, none⟩) n sc) xq w' → Calls Tryz.prog 21 #[.pointer (some ⟨t, 0, none⟩)] w' fun e w'' => ∃ (x1 : Option Addr) (x2 : Nat) (x3 : Option Addr) (x4 : Nat) (x5 : Option Addr) (x6 : Nat), e = .returned (.agg #[.slice x1 (asOf xq).length x2, .slice x3 (asOf xq).length x4, .slice x5 (ln enc (asOf xq)) x6]) ∧ Hid (BkI enc L w t ks (.slice (some ⟨gk, 0, none⟩) n kc) (.slice (some ⟨gs, 0, none⟩) n sc) xq w'' ∧ ∀ w3, Below w''.heap.size w'' w3 → Calls Tryz.prog 39 #[.agg #[.slice x1 (asOf xq).length x2, .slice x3 (asOf xq).length x4, .slice x5 (ln enc (asOf xq)) x6], .agg #[.slice xa (asOf xq).length xc, .slice ya (asOf xq).length yc, .slice (some ⟨xb, 0, none⟩) (ln enc (asOf xq)) (ln enc (asOf xq))]] w3 fun e w4 => e = .returned (.bool true) ∧ Below w3.heap.size w3 w4)) := fun w' h => see_same enc L w t ks _ _ w' ⟨xs, xq, xa, xc, ya, yc, xb⟩ hxm h
            clear hx hxm
            obtain ⟨q0, q1, q2, q3⟩ := HBC.out w7 _ HI7.out.2
            go_upto_region 27 with fail
            go_cut [120] from 104 to 119 (fun v wF => v = .bool false ∧ Hid (BkI enc L w t ks (.slice (some ⟨gk, 0, none⟩) n kc) (.slice (some ⟨gs, 0, none⟩) n sc) xq wF))
            case first =>
              go_region_held3 (fun w' => w'.cell? ⟨gk, j, none⟩ = some (.pointer (some ⟨xs, 0, none⟩)) ∧ w'.cell? ⟨gs, j * 3, none⟩ = some (.slice xa (asOf xq).length xc) ∧ w'.cell? ⟨gs, j * 3 + 1, none⟩ = some (.slice ya (asOf xq).length yc) ∧ w'.cell? ⟨gs, j * 3 + 2, none⟩ = some (.slice (some ⟨xb, 0, none⟩) (ln enc (asOf xq)) (ln enc (asOf xq)))) (first | exact HBC.out _ _ (HI9.out.ext HB10.out) | exact HBC.out _ _ HI9.out | exact HBC.out _ _ HI8.out | exact HBC.out _ _ (HBE.out _ (by repeat (first | exact Below.refl _ _ | apply Below.drew))) | go_keep) (first
                | (go_at_call 40; refine (BK.out _ (by repeat (first | exact Below.refl _ _ | apply Below.drew))).mono ?_; clear q0 q1 q2 q3; rintro e w8 ⟨rfl, HI8⟩; obtain ⟨q0, q1, q2, q3⟩ := HBC.out w8 _ HI8.out; (try dsimp only))
                | (go_at_call 21; refine (SEE.out _ HI8.out).mono ?_; clear q0 q1 q2 q3; rintro e w9 ⟨x1, x2, x3, x4, x5, x6, rfl, HS9⟩; have HI9 := hidIt HS9.out.1; have SM9 := hidIt (HS9.out.2 w9 (Below.refl _ _)); obtain ⟨q0, q1, q2, q3⟩ := HBC.out w9 _ HI9.out; (try dsimp only))
                | (go_at_call 39; refine SM9.out.mono ?_; clear q0 q1 q2 q3; rintro e w10 ⟨rfl, hb10⟩; have HB10 := hidIt hb10; obtain ⟨q0, q1, q2, q3⟩ := HBC.out w10 _ (HI9.out.ext hb10); clear hb10; (try dsimp only)))
              all_goals go_wp2_with fail
              all_goals go_meet
              case rel => exact ⟨rfl, HI9.out.ext HB10.out⟩
            obtain ⟨rfl, HIc⟩ := hcut
            clear q0 q1 q2 q3
            go_wp2_with fail
            go_roundg (n - (j + 1))
            case rel => exact ⟨j + 1, xq, by omega, by go_num, HI7.out.1, HIc.out⟩
            case measure => omega
          · have hjn2 : ¬ (j : Int) < (n : Int) := by omega
            go_wp2_with fail
            go_ret
            exact ⟨rfl, HI7.out.2.bel⟩
  · have KN : Hid (∀ w', Calls Tryz.prog 25 #[.int .i64 enc, .slice la L.length lc] w' fun e w'' => e = .returned (.bool false) ∧ w'' = w') := fun w' => known_no enc la L.length lc w' hLm hkn
    clear hL hT he3 hlv hkn
    go_enter Tryz.func7, Tryz.ntmps7
    go_wp2_with (first
      | (go_at_call 16; refine (AB.out w).mono ?_; rintro e w1 ⟨rfl, hb1⟩; have HB1 := hidIt hb1; clear hb1; (try dsimp only))
      | (go_at_call 25; refine (KN.out w1).mono ?_; rintro e w1' ⟨rfl, hw1⟩; rw [hw1]; clear hw1; (try dsimp only)))
    go_ret
    exact ⟨rfl, HB1.out⟩
end Go.Proofs.YtbmelpjmpomfcaaGreat.P

namespace Go.Proofs.YtbmelpjmpomfcaaGreat
open Go.ChangeShapes Go.WideShapes Go.ChangeAt Go.RowKit

theorem ownK : ownKnob Tryz.prog.godebug = none := by kernel_rfl
theorem laidOutK : laidOutB Tryz.prog = true := by kernel_rfl
theorem bytesK_u8 : Tryz.prog.bytesOf 5 = 1 := by kernel_rfl
theorem bytesK_i64 : Tryz.prog.bytesOf 3 = 8 := by kernel_rfl

theorem rd_of {H : Type} {enc : TypeId × Value → H} {W : World} {t e : TypeId} {k : IntKind} {a0 : Option Addr} {len0 cap0 : Nat} {d : DataW H} {p : List MemPlace}
    (ht : Tryz.prog.underlying t = some (.slice e)) (he : Tryz.prog.underlying e = some (.int k)) (hc : Tryz.prog.cellsOf e = 1)
    (h : DataW.Trod enc Tryz.prog W 0 (fun _ => true) true t (.slice a0 len0 cap0) d p) :
    ∃ zs, Rd k W (.slice a0 len0 cap0) zs ∧ (∀ n ∈ zs, (Lit.int k n).wf = true) ∧ (zs = [] ∨ ∃ el sp, d = .slice el sp ∧ el.length = zs.length) := by
  obtain ⟨fuel, hf⟩ := h
  rcases open_ints ht he hc hf with ⟨hcs, _⟩ | ⟨x, l, c, zs, hcs, _, hl, hm, hz, hx, hcell, hwz⟩
  · simp [Value.cells] at hcs
    obtain ⟨rfl, rfl, rfl⟩ := hcs
    exact ⟨[], ⟨none, 0, rfl, Nat.le_refl _, by simp [maxLen], fun h => absurd rfl h⟩, by simp, .inl rfl⟩
  · simp [Value.cells] at hcs
    obtain ⟨rfl, rfl, rfl⟩ := hcs
    simp at hz
    have hlen : (zs.take len0).length = len0 := by rw [List.length_take]; omega
    refine ⟨zs.take len0, ⟨some x, cap0, by rw [hlen], by omega, hm, fun hn => ?_⟩, fun n hn => hwz n (List.mem_of_mem_take hn), .inr ⟨_, _, (Prod.mk.inj hx).1, by simp [lits]⟩⟩
    have hpos : 0 < len0 := by
      rcases Nat.eq_zero_or_pos len0 with h | h
      · subst h; simp at hn
      · exact h
    obtain ⟨b, off, spot⟩ := x
    have hc0 := hcell 0 (by omega)
    have hspot : spot = none := by simpa [Addr.add] using World.cell?_spot hc0
    subst hspot
    refine ⟨b, off, rfl, World.block_lt_of_cell? W _ (by simpa [Addr.add] using hc0), fun i hi => ?_⟩
    rw [hlen] at hi
    have := hcell i (by omega)
    rw [Addr.add_lit] at this
    rw [this, List.getElem?_take, if_pos hi]
    simp [List.getD]

theorem byt_of {zs : List Int} (h : ∀ n ∈ zs, (Lit.int .u8 n).wf = true) : Byt zs := by
  intro z hz
  have := bounds_u8 (h z hz)
  omega
end Go.Proofs.YtbmelpjmpomfcaaGreat

namespace Go.Proofs.YtbmelpjmpomfcaaGreat
open Go.ChangeShapes Go.WideShapes Go.ChangeAt Go.RowKit

theorem bulk_one {H : Type} (d : DataW H) : 1 ≤ Rows.uptoBulk d := by
  cases d with
  | lit l => cases l <;> simp [Rows.uptoBulk]
  | nil => simp [Rows.uptoBulk]
  | ptr d => simp [Rows.uptoBulk]
  | slice elems spare => simp [Rows.uptoBulk]
  | agg parts => simp [Rows.uptoBulk]
  | iface t d => simp [Rows.uptoBulk]
  | map entries => simp [Rows.uptoBulk]
  | held h => simp [Rows.uptoBulk]
theorem bulk_part {H : Type} {d : DataW H} {l : List (DataW H)} (h : d ∈ l) : Rows.uptoBulk d ≤ Rows.uptoBulkAll l := by
  induction l with
  | nil => cases h
  | cons x r ih =>
    simp only [Rows.uptoBulkAll]
    cases List.mem_cons.1 h with
    | inl e => subst e; omega
    | inr e => have := ih e; omega
theorem bulk_length {H : Type} (l : List (DataW H)) : l.length ≤ Rows.uptoBulkAll l := by
  induction l with
  | nil => simp
  | cons x r ih => have := bulk_one x; simp only [Rows.uptoBulkAll, List.length_cons]; omega
theorem bulk_bound {H : Type} {l : List (DataW H)} (hk : Rows.uptoSmall H l = true) : Rows.uptoBulkAll l ≤ 1048576 := of_decide_eq_true hk
theorem bulk_slice {H : Type} {l el sp : List (DataW H)} (hk : Rows.uptoSmall H l = true) (h : DataW.slice el sp ∈ l) : el.length ≤ 1048576 := by
  have h1 := bulk_bound hk
  have h2 := bulk_part h
  have h3 := bulk_length el
  simp only [Rows.uptoBulk] at h2
  omega
end Go.Proofs.YtbmelpjmpomfcaaGreat

namespace Go.Proofs.YtbmelpjmpomfcaaGreat
open Go.ChangeShapes Go.WideShapes Go.ChangeAt Go.RowKit

theorem cSl : Tryz.prog.cellsOf 22 = 1 := by kernel_rfl
theorem cEs : Tryz.prog.cellsOf 31 = 1 := by kernel_rfl
theorem cIn : Tryz.prog.cellsOf 3 = 1 := by kernel_rfl
theorem cBo : Tryz.prog.cellsOf 4 = 1 := by kernel_rfl
theorem cEd : Tryz.prog.cellsOf 30 = 3 := by kernel_rfl
theorem cTn : Tryz.prog.cellsOf 70 = 3 := by kernel_rfl
theorem bulk_in {H : Type} {el sp : List (DataW H)} {d : DataW H} (h : d ∈ el) : Rows.uptoBulk d ≤ Rows.uptoBulk (DataW.slice el sp) := by
  have := bulk_part h
  simp only [Rows.uptoBulk]
  omega
theorem bulk_agg {H : Type} {parts : List (DataW H)} {d : DataW H} (h : d ∈ parts) : Rows.uptoBulk d ≤ Rows.uptoBulk (DataW.agg parts) := by
  have := bulk_part h
  simp only [Rows.uptoBulk]
  omega
theorem bulk_len {H : Type} {el sp : List (DataW H)} (h : Rows.uptoBulk (DataW.slice el sp) ≤ 1048576) : el.length ≤ 1048576 := by
  have := bulk_length el
  simp only [Rows.uptoBulk] at h
  omega
theorem inner_boundB {H : Type} {zs : List Int} {d : DataW H} (hd : zs = [] ∨ ∃ el sp, d = DataW.slice el sp ∧ el.length = zs.length) (hw : Rows.uptoBulk d ≤ 1048576) : zs.length ≤ 1048576 := by
  rcases hd with rfl | ⟨el, sp, rfl, hel⟩
  · simp
  · have := bulk_len hw
    omega
theorem inner_of {H : Type} {enc : TypeId × Value → H} {W : World} {fuel : Nat} {c : Value} {d : DataW H} {p : List MemPlace}
    (h : DataW.trod enc Tryz.prog W 0 (fun _ => true) true fuel 22 [c] = some (d, p)) :
    ∃ ao cap zs, c = .slice ao zs.length cap ∧ Rd .i64 W (.slice ao zs.length cap) zs ∧ (zs = [] ∨ ∃ el sp, d = .slice el sp ∧ el.length = zs.length) := by
  have hs : ∃ ao len cap, c = .slice ao len cap := by
    rcases DataW.trod_slice Tryz.underlying22 h with ⟨hcs, _⟩ | ⟨x, l, k, elems, rest, n, _, hcs, _⟩
    · exact ⟨none, 0, 0, by simpa using hcs⟩
    · exact ⟨some x, l, k, by simpa using hcs⟩
  obtain ⟨ao, len, cap, rfl⟩ := hs
  obtain ⟨zs, hr, _, hd⟩ := rd_of (enc := enc) (d := d) (p := p) Tryz.underlying22 Tryz.underlying3 (by kernel_rfl) ⟨fuel, by simpa [Value.cells] using h⟩
  obtain ⟨ao', cap', hv, r1, r2, r3⟩ := id hr
  simp only [Value.slice.injEq] at hv
  obtain ⟨rfl, rfl, rfl⟩ := hv
  exact ⟨ao, cap, zs, rfl, hr, hd⟩
structure EdAt (w : World) (f : Nat → Option Value) (e : P.Ed) : Prop where
  c0 : f 0 = some (.int .i64 e.1)
  c1 : f 1 = some (.int .i64 e.2.1)
  c2 : ∃ pv, f 2 = some pv ∧ Rd .i64 w pv e.2.2
  hz : e.2.2.length * 8 ≤ 140737488351232
set_option maxRecDepth 100000 in
theorem ed_cellsB {H : Type} {enc : TypeId × Value → H} {w : World} {fuel : Nat} {cs : List Value} {d : DataW H} {p : List MemPlace}
    (h : DataW.trod enc Tryz.prog w 0 (fun _ => true) true fuel 30 cs = some (d, p)) (hw : Rows.uptoBulk d ≤ 1048576) :
    ∃ e : P.Ed, EdAt w (fun i => cs[i]?) e := by
  obtain ⟨xs, n, rfl, hx, hl, hxl, hall⟩ := DataW.trod_struct Tryz.underlying30 h
  match xs, hxl with
  | [x0, x1, x2], _ =>
    obtain ⟨k0, e0, r0, w0⟩ := DataW.trod_int Tryz.underlying3 (hall 0 _ rfl)
    obtain ⟨k1, e1, r1, w1⟩ := DataW.trod_int Tryz.underlying3 (hall 1 _ rfl)
    have h2 := hall 2 _ rfl
    have e0' : (cs.drop 0).take (Tryz.prog.cellsOf 3) = [.int .i64 k0] := e0
    have e1' : (cs.drop 1).take (Tryz.prog.cellsOf 3) = [.int .i64 k1] := e1
    have h2' : DataW.trod enc Tryz.prog w 0 (fun _ => true) true n 22 ((cs.drop 2).take (Tryz.prog.cellsOf 22)) = some x2 := h2
    rw [cEd] at hl
    rw [cIn] at e0' e1'
    rw [cSl] at h2'
    match cs, hl with
    | [c0, c1, c2], _ =>
      simp at e0' e1'
      subst e0'; subst e1'
      simp only [List.drop_succ_cons, List.drop_zero, List.take_succ_cons, List.take_zero] at h2'
      obtain ⟨ai, ci, zs, rfl, hr, hd⟩ := inner_of (d := x2.1) (p := x2.2) h2'
      refine ⟨(k0, k1, zs), rfl, rfl, ⟨_, rfl, hr⟩, ?_⟩
      obtain ⟨rfl, _⟩ := Prod.mk.inj hx
      have h1 : Rows.uptoBulk x2.1 ≤ 1048576 := Nat.le_trans (bulk_agg (d := x2.1) (by simp)) hw
      have := inner_boundB hd h1
      show zs.length * 8 ≤ _
      omega
set_option maxRecDepth 100000 in
theorem eds_ofB {H : Type} {enc : TypeId × Value → H} {W : World} {a0 : Option Addr} {len0 cap0 : Nat} {d : DataW H} {p : List MemPlace}
    (h : DataW.Trod enc Tryz.prog W 0 (fun _ => true) true 31 (.slice a0 len0 cap0) d p) (hw : Rows.uptoBulk d ≤ 1048576) :
    ∃ es, es.length = len0 ∧ P.EdR W (.slice a0 len0 cap0) es ∧ P.Bnd es := by
  obtain ⟨fuel, hf⟩ := h
  rcases DataW.trod_slice Tryz.underlying31 hf with ⟨hcs, _⟩ | ⟨x, l, c, elems, rest, n, _, hcs, hx, hb, hl, hm, hlen, hel, _, _⟩
  · simp [Value.cells] at hcs
    obtain ⟨rfl, rfl, rfl⟩ := hcs
    exact ⟨[], rfl, ⟨none, 0, rfl, Nat.le_refl _, by omega, fun h => absurd rfl h⟩, ⟨(fun e he => by cases he), by simp⟩⟩
  · simp [Value.cells] at hcs
    obtain ⟨rfl, rfl, rfl⟩ := hcs
    rw [cEd] at hel
    obtain ⟨rfl, _⟩ := Prod.mk.inj hx
    obtain ⟨b, off, spot⟩ := x
    have each : ∀ i, ∃ e : P.Ed, i < len0 → EdAt W (fun j => W.cell? (((⟨b, off, spot⟩ : Addr).add (i * 3)).add j)) e := by
      intro i
      by_cases hi : i < len0
      · have hi' : i < elems.length := by omega
        have := hel i hi
        rw [List.getElem?_eq_getElem hi', Option.bind_eq_some_iff] at this
        obtain ⟨cs, hcs, hy⟩ := this
        obtain ⟨e, he⟩ := ed_cellsB (d := elems[i].1) (p := elems[i].2) hy (Nat.le_trans (bulk_in (List.mem_map.2 ⟨elems[i], List.getElem_mem hi', rfl⟩)) hw)
        have hcell := (World.cells?_some hcs).2.2
        refine ⟨e, fun _ => ⟨(hcell 0 (by omega)).trans he.c0, (hcell 1 (by omega)).trans he.c1, ?_, he.hz⟩⟩
        obtain ⟨pv, h1, h2⟩ := he.c2
        exact ⟨pv, (hcell 2 (by omega)).trans h1, h2⟩
      · exact ⟨(0, 0, []), fun h => absurd h hi⟩
    obtain ⟨f, hf'⟩ := Classical.skolem.1 each
    have hlr : ((List.range len0).map f).length = len0 := by simp
    refine ⟨(List.range len0).map f, hlr, ⟨some ⟨b, off, spot⟩, cap0, by rw [hlr], by rw [hlr]; exact hl, by unfold maxLen at hm; exact hm, fun hn => ?_⟩, ⟨fun e he => ?_, ?_⟩⟩
    · have hpos : 0 < len0 := by rw [← hlr]; exact List.length_pos_iff.2 hn
      have hs : spot = none := by simpa [Addr.add] using World.cell?_spot (hf' 0 hpos).c0
      subst hs
      refine ⟨b, off, rfl, World.block_lt_of_cell? W _ (by simpa [Addr.add] using (hf' 0 hpos).c0), fun i e hie => ?_⟩
      have hi : i < len0 := by have := (List.getElem?_eq_some_iff.1 hie).1; rwa [hlr] at this
      have e1 : e = f i := by rw [List.getElem?_map, List.getElem?_range hi] at hie; simpa using hie.symm
      subst e1
      have := hf' i hi
      simp only [Addr.add_lit] at this
      exact ⟨this.c0, this.c1, this.c2⟩
    · rw [List.mem_map] at he
      obtain ⟨i, hi, rfl⟩ := he
      exact (hf' i (List.mem_range.1 hi)).hz
    · have := bulk_len hw
      rw [List.length_map] at this
      rw [hlr]
      omega
structure TnAt (w : World) (f : Nat → Option Value) (x : Bool × List P.Ed × Int) : Prop where
  c0 : f 0 = some (.bool x.1)
  c1 : ∃ ea ec, f 1 = some (.slice ea x.2.1.length ec) ∧ P.EdR w (.slice ea x.2.1.length ec) x.2.1
  c2 : f 2 = some (.int .i64 x.2.2)
  bn : P.Bnd x.2.1
set_option maxRecDepth 100000 in
theorem tn_cells {H : Type} {enc : TypeId × Value → H} {w : World} {fuel : Nat} {cs : List Value} {d : DataW H} {p : List MemPlace}
    (h : DataW.trod enc Tryz.prog w 0 (fun _ => true) true fuel 70 cs = some (d, p)) (hw : Rows.uptoBulk d ≤ 1048576) :
    ∃ x, TnAt w (fun i => cs[i]?) x := by
  obtain ⟨xs, n, rfl, hx, hl, hxl, hall⟩ := DataW.trod_struct Tryz.underlying70 h
  match xs, hxl with
  | [x0, x1, x2], _ =>
    obtain ⟨k0, e0, r0⟩ := DataW.trod_bool Tryz.underlying4 (hall 0 _ rfl)
    obtain ⟨k2, e2, r2, w2⟩ := DataW.trod_int Tryz.underlying3 (hall 2 _ rfl)
    have h1 := hall 1 _ rfl
    have e0' : (cs.drop 0).take (Tryz.prog.cellsOf 4) = [.bool k0] := e0
    have e2' : (cs.drop 2).take (Tryz.prog.cellsOf 3) = [.int .i64 k2] := e2
    have h1' : DataW.trod enc Tryz.prog w 0 (fun _ => true) true n 31 ((cs.drop 1).take (Tryz.prog.cellsOf 31)) = some x1 := h1
    rw [cTn] at hl
    rw [cBo] at e0'
    rw [cIn] at e2'
    rw [cEs] at h1'
    match cs, hl with
    | [c0, c1, c2], _ =>
      simp at e0' e2'
      subst e0'; subst e2'
      simp only [List.drop_succ_cons, List.drop_zero, List.take_succ_cons, List.take_zero] at h1'
      have hs : ∃ ao len cap, c1 = .slice ao len cap := by
        rcases DataW.trod_slice Tryz.underlying31 h1' with ⟨hcs, _⟩ | ⟨x, l, k, _, _, _, _, hcs, _⟩
        · exact ⟨none, 0, 0, by simpa using hcs⟩
        · exact ⟨some x, l, k, by simpa using hcs⟩
      obtain ⟨ao, len, cap, rfl⟩ := hs
      obtain ⟨rfl, _⟩ := Prod.mk.inj hx
      obtain ⟨es, g1, g2, g3⟩ := eds_ofB (enc := enc) (d := x1.1) (p := x1.2) ⟨_, by simpa [Value.cells] using h1'⟩ (Nat.le_trans (bulk_agg (d := x1.1) (by simp)) hw)
      subst g1
      exact ⟨(k0, es, k2), rfl, ⟨ao, cap, rfl, g2⟩, rfl, g3⟩
set_option maxRecDepth 100000 in
theorem turns_of {H : Type} {enc : TypeId × Value → H} {W : World} {a0 : Option Addr} {len0 cap0 : Nat} {d : DataW H} {p : List MemPlace}
    (h : DataW.Trod enc Tryz.prog W 0 (fun _ => true) true 65 (.slice a0 len0 cap0) d p) (hw : Rows.uptoBulk d ≤ 1048576) :
    ∃ ts, P.TnL W (.slice a0 len0 cap0) ts ∧ ts.length ≤ 1048576 := by
  obtain ⟨fuel, hf⟩ := h
  rcases DataW.trod_slice Tryz.underlying65 hf with ⟨hcs, _⟩ | ⟨x, l, c, elems, rest, n, _, hcs, hx, hb, hl, hm, hlen, hel, _, _⟩
  · simp [Value.cells] at hcs
    obtain ⟨rfl, rfl, rfl⟩ := hcs
    exact ⟨[], ⟨none, 0, rfl, Nat.le_refl _, by omega, fun i x h => by simp at h⟩, by simp⟩
  · simp [Value.cells] at hcs
    obtain ⟨rfl, rfl, rfl⟩ := hcs
    rw [cTn] at hel
    obtain ⟨rfl, _⟩ := Prod.mk.inj hx
    obtain ⟨b, off, spot⟩ := x
    have each : ∀ i, ∃ x : Bool × List P.Ed × Int, i < len0 → TnAt W (fun j => W.cell? (((⟨b, off, spot⟩ : Addr).add (i * 3)).add j)) x := by
      intro i
      by_cases hi : i < len0
      · have hi' : i < elems.length := by omega
        have := hel i hi
        rw [List.getElem?_eq_getElem hi', Option.bind_eq_some_iff] at this
        obtain ⟨cs, hcs, hy⟩ := this
        obtain ⟨x, hx⟩ := tn_cells (d := elems[i].1) (p := elems[i].2) hy (Nat.le_trans (bulk_in (List.mem_map.2 ⟨elems[i], List.getElem_mem hi', rfl⟩)) hw)
        have hcell := (World.cells?_some hcs).2.2
        refine ⟨x, fun _ => ⟨(hcell 0 (by omega)).trans hx.c0, ?_, (hcell 2 (by omega)).trans hx.c2, hx.bn⟩⟩
        obtain ⟨ea, ec, h1, h2⟩ := hx.c1
        exact ⟨ea, ec, (hcell 1 (by omega)).trans h1, h2⟩
      · exact ⟨(false, [], 0), fun h => absurd h hi⟩
    obtain ⟨f, hf'⟩ := Classical.skolem.1 each
    have hlr : ((List.range len0).map f).length = len0 := by simp
    refine ⟨(List.range len0).map f, ⟨some ⟨b, off, spot⟩, cap0, by rw [hlr], by rw [hlr]; exact hl, by unfold maxLen at hm; exact hm, fun i x hix => ?_⟩, ?_⟩
    · have hi : i < len0 := by have := (List.getElem?_eq_some_iff.1 hix).1; rwa [hlr] at this
      have e1 : x = f i := by rw [List.getElem?_map, List.getElem?_range hi] at hix; simpa using hix.symm
      subst e1
      have hs : spot = none := by simpa [Addr.add] using World.cell?_spot (hf' 0 (by omega)).c0
      subst hs
      have := hf' i hi
      simp only [Addr.add_lit] at this
      obtain ⟨ea, ec, h1, h2⟩ := this.c1
      have hc0 := this.c0
      simp only [Nat.add_zero] at hc0
      exact ⟨b, off, ea, ec, rfl, World.block_lt_of_cell? W _ h1, hc0, h1, this.c2, h2, this.bn⟩
    · have := bulk_len hw
      rw [List.length_map] at this
      rw [hlr]
      omega
theorem nil_of {H : Type} {enc : TypeId × Value → H} {W : World} {t e : TypeId} {len0 cap0 : Nat} {d : DataW H} {p : List MemPlace} (ht : Tryz.prog.underlying t = some (.slice e))
    (h : DataW.Trod enc Tryz.prog W 0 (fun _ => true) true t (.slice none len0 cap0) d p) : len0 = 0 ∧ cap0 = 0 := by
  obtain ⟨fuel, hf⟩ := h
  rcases DataW.trod_slice ht hf with ⟨hcs, _⟩ | ⟨x, l, c, elems, rest, n, _, hcs, _⟩
  · simp [Value.cells] at hcs
    exact hcs
  · simp [Value.cells] at hcs
end Go.Proofs.YtbmelpjmpomfcaaGreat

namespace Go.Proofs.YtbmelpjmpomfcaaGreat
open Go.ChangeShapes Go.WideShapes Go.ChangeAt Go.RowKit

set_option maxRecDepth 100000 in
theorem pieceBack_contract (H : Type) (enc : TypeId × Value → H) (W : World) (base : Nat) (args : Array Value) (ds gs : List (DataW H)) (before : List MemPlace)
    (hval : ∀ (j : Nat) t v, Tryz.f7.params[j]? = some t → args[j]? = some v → Value.okWide Tryz.prog W .any base t v)
    (hW : DataW.Whole enc Tryz.prog Tryz.f7.params.toList Rows.pieceBackSpec.vars false W args.toList ds gs before) (hk : Rows.uptoSmall H (ds ++ gs) = true) :
    Calls Tryz.prog 7 args W fun e W' => ∃ v, e = .returned v ∧ Rows.pieceBackSpec.post enc Tryz.prog Tryz.f7 false true false false W args v W' := by
  have hW' := hW
  obtain ⟨p, q, hA0, hV, rfl, hfz, hnd⟩ := hW
  have hA : DataW.TrodAll enc Tryz.prog W 0 (fun _ => true) true Tryz.f7.params.toList args.toList ds p := hA0
  rw [Tryz.params7] at hA hval
  obtain ⟨v0, vs0, d0, ds0, p0, q0, hargs, rfl, rfl, h0, r0⟩ := trodAll_cons hA
  obtain ⟨v1, vs1, d1, ds1, p1, q1, rfl, rfl, rfl, h1, r1⟩ := trodAll_cons r0
  obtain ⟨v2, vs2, d2, ds2, p2, q2, rfl, rfl, rfl, h2, r2⟩ := trodAll_cons r1
  obtain ⟨rfl, rfl, rfl⟩ := trodAll_nil r2
  obtain rfl : args = #[v0, v1, v2] := by cases args; simp_all
  obtain ⟨rfl, rfl⟩ := trodVars_none hV
  obtain ⟨a0, rfl, rfl, rfl, w0⟩ := open_int Tryz.underlying3 (hval 0 3 v0 rfl rfl) h0
  obtain ⟨a1, len1, cap1, rfl⟩ := okWide_slice Tryz.underlying32 (hval 1 32 v1 rfl rfl)
  have k1 := h1
  have lt1 : ∀ x ∈ p1, x.block < W.heap.size := by obtain ⟨m, hm⟩ := k1; exact DataW.trod_lt m _ _ _ hm
  obtain ⟨z1, hr1, hw1, hd1⟩ := rd_of Tryz.underlying32 Tryz.underlying5 (by kernel_rfl) h1
  have hnv : ∀ c, (.slice a1 len1 cap1 : Value) = .slice none z1.length c → c = 0 ∧ z1 = [] := fun c e => by
    simp only [Value.slice.injEq] at e
    obtain ⟨rfl, e2, rfl⟩ := e
    have := nil_of Tryz.underlying32 k1
    exact ⟨this.2, List.eq_nil_of_length_eq_zero (by omega)⟩
  obtain ⟨a2, len2, cap2, rfl⟩ := okWide_slice Tryz.underlying65 (hval 2 65 v2 rfl rfl)
  have k2 := h2
  have lt2 : ∀ x ∈ p2, x.block < W.heap.size := by obtain ⟨m, hm⟩ := k2; exact DataW.trod_lt m _ _ _ hm
  obtain ⟨ts, hr2, hts⟩ := turns_of h2 (Nat.le_trans (bulk_part (by simp)) (bulk_bound hk))
  clear hA0
  refine (P.backLaw_any a0 _ _ z1 ts W hr1 (byt_of hw1) hnv hr2 hts).mono fun e W' ⟨he, bel⟩ => ?_
  subst he
  exact ⟨_, rfl, _, _, _, [], _, [], hW', trodAll_mk1 (shut_bool Tryz.underlying4 _), (trodAll_cons_mk (shut_int Tryz.underlying3 w0) (trodAll_cons_mk (Below.trod laidOutK (by kernel_rfl) (of_decide_eq_true (by kernel_rfl)) k1 bel lt1) (trodAll_cons_mk (Below.trod laidOutK (by kernel_rfl) (of_decide_eq_true (by kernel_rfl)) k2 bel lt2) trodAll_mk0))), rfl, bel.frame _, fun h => by cases h⟩

set_option maxRecDepth 100000 in
theorem pieceBack_lifted (os : Os) (started : os.Started) (H : Type) (enc : TypeId × Value → H) (F0 : Stop.Interp) :
    ReturnsInHanded {} Tryz.checked os 7 .any ((Rows.OpenSpec.upto Rows.pieceBackSpec).pre6 enc Tryz.prog Tryz.f7 Rows.pieceBackUptoRow.domain false) (((Rows.OpenSpec.upto Rows.pieceBackSpec).at F0).post enc Tryz.prog Tryz.f7 false true false false) := by
  refine returnsInHanded_of_cond (C := Tryz.checked) (s := Rows.OpenSpec.upto Rows.pieceBackSpec) (k := Rows.uptoSmall) rfl ownK started (by kernel_rfl) Tryz.func7
    (OpenSpec.witness (enc := enc) (C := Tryz.checked) (s := Rows.OpenSpec.upto Rows.pieceBackSpec) (k := Rows.uptoSmall) rfl false ⟨#[], #[.int .i64 0, .slice none 0 0, .slice none 0 0], []⟩ 8 (by kernel_rfl) (by kernel_rfl) (by kernel_rfl)
      (x := ([.lit (.int .i64 0), .nil, .nil], [], [])) (by kernel_rfl) rfl (by kernel_rfl)) ?_
  intro W base args ds gs before hval hW _ hk _
  exact pieceBack_contract H enc W base args ds gs before hval hW hk

theorem pieceBack_upto : Rows.PieceBackUptoSaid :=
  OpenClaim.holds_of_cond 7 Tryz.f7 rfl rfl rfl rfl rfl rfl rfl ⟨rfl, rfl, rfl, rfl, rfl⟩ rfl rfl rfl rfl rfl (by kernel_rfl) Tryz.func7 (by kernel_rfl)
    (of_decide_eq_true (by kernel_rfl)) (by unfold Func.isWrapper; first | (rw [if_pos (by decide +kernel)]; kernel_rfl) | (rw [if_neg (by decide +kernel)]; exact ⟨rfl, rfl⟩))
    (fun os started H enc _ F0 => pieceBack_lifted os started H enc F0)
end Go.Proofs.YtbmelpjmpomfcaaGreat
