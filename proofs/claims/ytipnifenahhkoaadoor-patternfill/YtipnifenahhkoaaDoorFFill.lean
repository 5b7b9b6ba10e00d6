/- Fill. -/
import Derived.Test.YtipnifenahhkoaaDoorFFin
namespace Go.Proofs.YtipnifenahhkoaaDoor
open Go.RowKit

set_option maxRecDepth 100000 in
set_option maxHeartbeats 8000000 in
theorem Fill_any (w : World) (sv lv : Value) (rep line mt : List Int) (hmt : mt.length = 20) (hT : Tabs w) (hr : Rd .i64 w sv rep) (hl : Rd .i64 w lv line) (h64 : In64 rep) (hl64 : In64 line) (hln : line.length ≤ 17592186044416) (hso : ∀ k o n c, sv = .slice (some ⟨k, o, none⟩) n c → k < w.heap.size) (hlo : ∀ k o n c, lv = .slice (some ⟨k, o, none⟩) n c → k < w.heap.size) :
    Calls Tryd.prog 7 #[sv, lv, .agg (mt.map (Value.int .i64)).toArray] w fun e w' => FiR w rep line mt e w' := by
  have hmf : ∀ (fn : Fn) (first cap : Array Value) (w : World), (Instr.makeFunc fn first cap).run Tryd.prog w = .ok (.func fn first cap) w := fun _ _ _ _ => rfl
  obtain ⟨sa, sc, rfl, _⟩ := id hr
  obtain ⟨la, lc, rfl, _⟩ := id hl
  have HR := hidIt hr
  have HL := hidIt hl
  have H6 := hidIt h64
  have HL6 := hidIt hl64
  have HT := hidIt hT
  obtain ⟨M, hM⟩ : ∃ M, M = (mt.map (Value.int .i64)).toArray := ⟨_, rfl⟩
  have hMs : M.size = 20 := by rw [hM]; simp [hmt]
  rw [← hM]
  have HM := hidIt hM
  have HMS := hidIt hMs
  have HSO : Hid (∀ k o, sa = some ⟨k, o, none⟩ → k < w.heap.size) := fun k o e => hso k o _ _ (by rw [e])
  have HLO : Hid (∀ k o, la = some ⟨k, o, none⟩ → k < w.heap.size) := fun k o e => hlo k o _ _ (by rw [e])
  clear hr hl h64 hl64 hT hM hMs hso hlo
  obtain ⟨w3, hw3⟩ : ∃ w3, w3 = ((w.alloc (.cells M 23)).alloc (.cells #[.slice none 0 0] 22)).alloc (.cells #[.int .i64 0] 27) := ⟨_, rfl⟩
  go_enter_defers Tryd.func7, Tryd.ntmps7
  go_upto_region 1 with fail
  rw [← hw3]
  have hb3 : Below w.heap.size w w3 := by rw [hw3]; exact ext_alloc (ext_alloc (ext_alloc (Below.refl _ _) _) _) _
  have hz3 : w3.heap.size = w.heap.size + 1 + 1 + 1 := by rw [hw3]; simp
  have k0 : w3.heap[w.heap.size]? = some (.cells M 23 (0, 0)) := by
    rw [hw3]
    exact (Below.heap_alloc _ _ _ (by simp; omega)).trans ((Below.heap_alloc _ _ _ (by simp)).trans (heap_alloc_new _ _))
  have k1 : w3.heap[w.heap.size + 1]? = some (.cells #[.slice none 0 0] 22 (0, 0)) := by
    rw [hw3]
    have := heap_alloc_new (w.alloc (.cells M 23)) (.cells #[.slice none 0 0] 22)
    have e : (w.alloc (.cells M 23)).heap.size = w.heap.size + 1 := by simp
    rw [e] at this
    exact (Below.heap_alloc _ _ _ (by simp)).trans this
  have k2 : w3.heap[w.heap.size + 1 + 1]? = some (.cells #[.int .i64 0] 27 (0, 0)) := by
    rw [hw3]
    have := heap_alloc_new ((w.alloc (.cells M 23)).alloc (.cells #[.slice none 0 0] 22)) (.cells #[.int .i64 0] 27)
    have e : ((w.alloc (.cells M 23)).alloc (.cells #[.slice none 0 0] 22)).heap.size = w.heap.size + 1 + 1 := by simp
    rw [e] at this
    exact this
  have HB3 := hidIt hb3
  have HZ3 := hidIt hz3
  have K0 := hidIt k0
  have K1 := hidIt k1
  have K2 := hidIt k2
  clear hw3 hb3 hz3 k0 k1 k2
  have c6 : w3.cell? ⟨w.heap.size + 1, 0, none⟩ = some (.slice none 0 0) := by rw [cell_of_row _ _ _ _ _ _ K1.out]; rfl
  have z6 : w3.frozen? ⟨w.heap.size + 1, 0, none⟩ = false := by simp [World.frozen?, K1.out]
  by_cases hbig : 256 < rep.length
  · have hd : decide ((256 : Int) < (rep.length : Int)) = true := by simp; omega
    obtain ⟨d7, z7, e6, e7⟩ := two_set K1.out K2.out (by omega) (.slice none 0 0) (.int .i64 3)
    have E6 := hidIt e6
    have E7 := hidIt e7
    have HP : Hid (fll rep line mt = ([], 3)) := by unfold Hid fll; rw [if_pos hbig]
    clear e6 e7 hbig
    have HBZ : Hid (Below w.heap.size w ((w3.setCell ⟨w.heap.size + 1, 0, none⟩ (.slice none 0 0)).setCell ⟨w.heap.size + 1 + 1, 0, none⟩ (.int .i64 3))) := (HB3.out.setCell (by show w.heap.size ≤ w.heap.size + 1; omega) _).setCell (by show w.heap.size ≤ w.heap.size + 1 + 1; omega) _
    go_wp2_with fail
    generalize ((w3.setCell ⟨w.heap.size + 1, 0, none⟩ (.slice none 0 0)).setCell ⟨w.heap.size + 1 + 1, 0, none⟩ (.int .i64 3)) = z at *
    refine ⟨.tuple #[.slice none 0 0, .int .i64 3], ?_, ?_⟩
    · simp [results, Tryd.results7, go_sem, E6.out, E7.out]
    · exact ⟨.slice none 0 0, by rw [HP.out], by rw [HP.out]; exact ⟨none, 0, rfl, Nat.le_refl _, by simp [maxLen], fun h => absurd rfl h⟩, HBZ.out, nw_nil _⟩
  · have hd : decide ((256 : Int) < (rep.length : Int)) = false := by simp; omega
    have HBG := hidIt hbig
    clear hbig
    go_upto_region 4 with fail
    have hms := HMS.out
    have hA := laid20 mt hmt (.slice sa rep.length sc) (.slice la line.length lc) M HM.out
    have HFS : Hid ((flC (.slice sa rep.length sc) 0 (.slice la line.length lc) mt).size = 25) := by unfold Hid; simp [flC, hmt]
    have HF1 : Hid ((flC (.slice sa rep.length sc) 0 (.slice la line.length lc) mt).all (·.oneCell') = true) := by unfold Hid; simp [flC, Value.oneCell']
    obtain ⟨FC, hFC⟩ : ∃ FC, FC = flC (.slice sa rep.length sc) 0 (.slice la line.length lc) mt := ⟨_, rfl⟩
    rw [← hFC] at hA HFS HF1
    have HFC := hidIt hFC
    clear hFC
    go_upto_region 5 with (first | (refine wpl_load_row _ rfl 23 _ rfl w.heap.size M 20 3 rfl K0.out u20 (by rw [HMS.out]; exact z20) ?_) | (refine wpl_store_new w3 rfl 37 _ _ rfl _ FC rfl rfl (by rw [HFS.out]; exact z25) (by rw [HFS.out]; rfl) HF1.out ?_))
    clear hA hms c6 z6 hd HFS HF1
    obtain ⟨y, hy⟩ : ∃ y, y = w3.alloc (.cells FC 37) := ⟨_, rfl⟩
    rw [← hy]
    have hby : Below w3.heap.size w3 y := by rw [hy]; exact ext_alloc (Below.refl _ _) _
    have HYS : Hid (y.heap.size = w3.heap.size + 1) := by unfold Hid; rw [hy]; simp
    have FL : Hid (Fl y w3.heap.size sa sc rep 0 la lc line mt) := ⟨by rw [hy, heap_alloc_new, HFC.out], (HR.out.ext HB3.out).ext hby, (HL.out.ext HB3.out).ext hby, hmt, Nat.zero_le _, by have := HBG.out; omega⟩
    have OL : Hid (Old w.heap.size w3.heap.size sa la) := ⟨HSO.out, HLO.out, by rw [HZ3.out]; omega⟩
    have Y1 : Hid (y.heap[w.heap.size + 1]? = _) := (hby.block _ (by rw [HZ3.out]; omega)).trans K1.out
    have Y2 : Hid (y.heap[w.heap.size + 1 + 1]? = _) := (hby.block _ (by rw [HZ3.out]; omega)).trans K2.out
    have BY : Hid (Below w.heap.size w y) := HB3.out.trans (hby.mono HB3.out.size)
    have OA := hidIt (orders_any FL.out OL.out H6.out hln)
    -- what lies there behind a call
    have KEEP : Hid (∀ y', y.grownBy y' (some w3.heap.size) → y'.heap[w.heap.size + 1]? = some (.cells #[.slice none 0 0] 22 (0, 0)) ∧ y'.heap[w.heap.size + 1 + 1]? = some (.cells #[.int .i64 0] 27 (0, 0)) ∧ Below w.heap.size w y') := fun y' g => by
      have hs := HYS.out
      have hz := HZ3.out
      refine ⟨(g.block _ (by omega) (by simp; omega)).trans Y1.out, (g.block _ (by omega) (by simp; omega)).trans Y2.out, ?_⟩
      exact ⟨g.os.trans BY.out.os, g.tape.trans BY.out.tape, g.output.trans BY.out.output, Nat.le_trans BY.out.size g.size, fun j hj => (g.block j (by omega) (by simp; omega)).trans (BY.out.block j hj)⟩
    clear hy hby K0 K1 K2 HM HMS HFC FL OL Y1 Y2 HB3 HR HL
    unfold OrR at OA
    cases hpr : par line mt rep 0 with
    | none =>
      rw [hpr] at OA
      have HP : Hid (fll rep line mt = ([], 102)) := by unfold Hid fll; rw [if_neg HBG.out, hpr]
      clear hpr
      go_wp2_with (go_at_call 14; refine OA.out.mono ?_; rintro e y1 ⟨rfl, g1⟩; (try dsimp only); have G1 := hidIt g1; clear g1)
      obtain ⟨h1, h2, hB⟩ := KEEP.out y1 G1.out
      obtain ⟨d7, z7, e6, e7⟩ := two_set h1 h2 (by omega) (.slice none 0 0) (.int .i64 102)
      have c6 : y1.cell? ⟨w.heap.size + 1, 0, none⟩ = some (.slice none 0 0) := by rw [cell_of_row _ _ _ _ _ _ h1]; rfl
      have z6 : y1.frozen? ⟨w.heap.size + 1, 0, none⟩ = false := by simp [World.frozen?, h1]
      have HBZ : Hid (Below w.heap.size w ((y1.setCell ⟨w.heap.size + 1, 0, none⟩ (.slice none 0 0)).setCell ⟨w.heap.size + 1 + 1, 0, none⟩ (.int .i64 102))) := (hB.setCell (by show w.heap.size ≤ w.heap.size + 1; omega) _).setCell (by show w.heap.size ≤ w.heap.size + 1 + 1; omega) _
      refine leaves_cons (f := 13) (args := #[.pointer (some ⟨w.heap.size + 1, 0, none⟩), .pointer (some ⟨w.heap.size + 1 + 1, 0, none⟩)]) (by simp) (by simp [go_sem]) ?_
      refine (catch_panicking _ _ _ 0 _ _ [] y1 c6 z6 d7 z7).mono ?_
      rintro e u' w'' ⟨rfl, rfl, rfl⟩
      generalize ((y1.setCell ⟨w.heap.size + 1, 0, none⟩ (.slice none 0 0)).setCell ⟨w.heap.size + 1 + 1, 0, none⟩ (.int .i64 102)) = z at *
      refine ⟨.tuple #[.slice none 0 0, .int .i64 102], ?_, ?_⟩
      · simp [results, Tryd.results7, go_sem, e6, e7]
      · exact ⟨.slice none 0 0, by rw [HP.out], by rw [HP.out]; exact ⟨none, 0, rfl, Nat.le_refl _, by simp [maxLen], fun h => absurd rfl h⟩, HBZ.out, nw_nil _⟩
    | some os =>
      rw [hpr] at OA
      have HPR := hidIt hpr
      clear hpr
      go_upto_region 6 with (go_at_call 14; refine OA.out.mono ?_; rintro e y1 ⟨v, xs, rfl, hxo, hown, hxl, hsz, g1⟩; (try dsimp only); have G1 := hidIt g1; have HXO := hidIt hxo; have HOWN := hidIt hown; have HXL := hidIt hxl; have HSZ := hidIt hsz; clear g1 hxo hown hxl hsz)
      obtain ⟨h1, h2, hB⟩ := KEEP.out y1 G1.out
      have c6 : y1.cell? ⟨w.heap.size + 1, 0, none⟩ = some (.slice none 0 0) := by rw [cell_of_row _ _ _ _ _ _ h1]; rfl
      have z6 : y1.frozen? ⟨w.heap.size + 1, 0, none⟩ = false := by simp [World.frozen?, h1]
      have H1 := hidIt h1
      have H2 := hidIt h2
      have HB := hidIt hB
      have hy1 : w.heap.size + 1 + 1 < y1.heap.size := (Array.getElem?_eq_some_iff.1 h2).1
      have HY1 := hidIt hy1
      clear h1 h2 hB hy1 OA
      by_cases h14 : 140000 < siz os
      · have hd : decide ((140000 : Int) < ((siz os : Nat) : Int)) = true := by simp; omega
        have HP : Hid (fll rep line mt = ([], 3)) := by unfold Hid fll; rw [if_neg HBG.out, HPR.out]; simp only; rw [if_pos h14]
        obtain ⟨d7, z7, e6, e7⟩ := two_set H1.out H2.out (by omega) (.slice none 0 0) (.int .i64 3)
        have E6 := hidIt e6
        have E7 := hidIt e7
        have HBZ : Hid (Below w.heap.size w ((y1.setCell ⟨w.heap.size + 1, 0, none⟩ (.slice none 0 0)).setCell ⟨w.heap.size + 1 + 1, 0, none⟩ (.int .i64 3))) := (HB.out.setCell (by show w.heap.size ≤ w.heap.size + 1; omega) _).setCell (by show w.heap.size ≤ w.heap.size + 1 + 1; omega) _
        clear e6 e7 h14
        go_wp2_with fail
        generalize ((y1.setCell ⟨w.heap.size + 1, 0, none⟩ (.slice none 0 0)).setCell ⟨w.heap.size + 1 + 1, 0, none⟩ (.int .i64 3)) = z at *
        refine leaves_cons (f := 13) (args := #[.pointer (some ⟨w.heap.size + 1, 0, none⟩), .pointer (some ⟨w.heap.size + 1 + 1, 0, none⟩)]) (by simp) (by simp [go_sem]) ?_
        refine (catch_idle _ _ z).mono ?_
        rintro e u' w'' ⟨rfl, rfl, rfl⟩
        refine ⟨.tuple #[.slice none 0 0, .int .i64 3], ?_, ?_⟩
        · simp [results, Tryd.results7, go_sem, E6.out, E7.out]
        · exact ⟨.slice none 0 0, by rw [HP.out], by rw [HP.out]; exact ⟨none, 0, rfl, Nat.le_refl _, by simp [maxLen], fun h => absurd rfl h⟩, HBZ.out, nw_nil _⟩
      · have hd : decide ((140000 : Int) < ((siz os : Nat) : Int)) = false := by simp; omega
        have HP : Hid (fll rep line mt = (oby 0 0 os, 0)) := by unfold Hid fll; rw [if_neg HBG.out, HPR.out]; simp only; rw [if_neg h14]
        have OB := obeyed_any y1 v xs (HT.out.ext HB.out) HOWN.out HXL.out (by rw [HXO.out]; omega) (fun x hx => par_64 HL6.out H6.out HPR.out x.o (by rw [← HXO.out]; exact List.mem_map_of_mem hx))
        rw [HXO.out] at OB
        have HOB := hidIt OB
        clear OB h14
        have TWO : Hid (∀ (y2 : World) (x : Value), Below y1.heap.size y1 y2 → y2.cell? ⟨w.heap.size + 1, 0, none⟩ = some (.slice none 0 0) ∧ y2.frozen? ⟨w.heap.size + 1, 0, none⟩ = false ∧ (y2.setCell ⟨w.heap.size + 1, 0, none⟩ x).cell? ⟨w.heap.size + 1 + 1, 0, none⟩ = some (.int .i64 0) ∧ (y2.setCell ⟨w.heap.size + 1, 0, none⟩ x).frozen? ⟨w.heap.size + 1 + 1, 0, none⟩ = false ∧ ((y2.setCell ⟨w.heap.size + 1, 0, none⟩ x).setCell ⟨w.heap.size + 1 + 1, 0, none⟩ (.int .i64 0)).cell? ⟨w.heap.size + 1, 0, none⟩ = some x ∧ ((y2.setCell ⟨w.heap.size + 1, 0, none⟩ x).setCell ⟨w.heap.size + 1 + 1, 0, none⟩ (.int .i64 0)).cell? ⟨w.heap.size + 1 + 1, 0, none⟩ = some (.int .i64 0) ∧ Below w.heap.size w ((y2.setCell ⟨w.heap.size + 1, 0, none⟩ x).setCell ⟨w.heap.size + 1 + 1, 0, none⟩ (.int .i64 0))) := fun y2 x b2 => by
          have h1 := (b2.block (w.heap.size + 1) (by have := HY1.out; omega)).trans H1.out
          have h2 := (b2.block (w.heap.size + 1 + 1) HY1.out).trans H2.out
          obtain ⟨d7, z7, e6, e7⟩ := two_set h1 h2 (by omega) x (.int .i64 0)
          refine ⟨by rw [cell_of_row _ _ _ _ _ _ h1]; rfl, by simp [World.frozen?, h1], d7, z7, e6, e7, ?_⟩
          exact ((HB.out.trans (b2.mono HB.out.size)).setCell (by show w.heap.size ≤ w.heap.size + 1; omega) _).setCell (by show w.heap.size ≤ w.heap.size + 1 + 1; omega) _
        go_wp2_with (go_at_call 15; refine HOB.out.mono ?_; rintro e y2 ⟨v', rfl, own2, b2⟩; (try dsimp only); obtain ⟨aa, c9, rfl⟩ := form_own own2; obtain ⟨t1, t2, t3, t4, t5, t6, t7⟩ := TWO.out y2 (.slice aa (oby 0 0 os).length c9) b2; have T5 := hidIt t5; have T6 := hidIt t6; have T7 := hidIt t7; have OW2 := hidIt own2; clear t5 t6 t7 own2 b2)
        have RD : Hid (Rd .i64 ((y2.setCell ⟨w.heap.size + 1, 0, none⟩ (.slice aa (oby 0 0 os).length c9)).setCell ⟨w.heap.size + 1 + 1, 0, none⟩ (.int .i64 0)) (.slice aa (oby 0 0 os).length c9) (oby 0 0 os)) := by
          refine rd_own (own_stay OW2.out (fun g hg => ?_))
          have hg1 := (own_blk OW2.out hg).1
          have := HY1.out
          rw [Below.heap_setCell _ _ _ _ (by show g ≠ w.heap.size + 1 + 1; omega), Below.heap_setCell _ _ _ _ (by show g ≠ w.heap.size + 1; omega)]
        generalize ((y2.setCell ⟨w.heap.size + 1, 0, none⟩ (.slice aa (oby 0 0 os).length c9)).setCell ⟨w.heap.size + 1 + 1, 0, none⟩ (.int .i64 0)) = z at *
        refine leaves_cons (f := 13) (args := #[.pointer (some ⟨w.heap.size + 1, 0, none⟩), .pointer (some ⟨w.heap.size + 1 + 1, 0, none⟩)]) (by simp) (by simp [go_sem]) ?_
        refine (catch_idle _ _ z).mono ?_
        rintro e u' w'' ⟨rfl, rfl, rfl⟩
        refine ⟨.tuple #[.slice aa (oby 0 0 os).length c9, .int .i64 0], ?_, ?_⟩
        · simp [results, Tryd.results7, go_sem, T5.out, T6.out]
        · exact ⟨_, by rw [HP.out], by rw [HP.out]; exact RD.out, T7.out, nw_own OW2.out (by have := HY1.out; omega)⟩
end Go.Proofs.YtipnifenahhkoaaDoor
