/- kept, turned, sameBytes. -/
import Derived.Test.YtmfbobibpebfnaaLend
import Derived.Laws.BytesArg
namespace Go.Proofs.Ytmfbobibpebfnaa
open Go.RowKit

/-- string(b) of a slice that reads as bytes. -/
theorem conv_Rd {w : World} {v : Value} {zs : List Int} (h : Rd .u8 w v zs) : (convert 24 9 v).run Try.prog w = .ok (.string (strOfNums zs)) w := by
  obtain ⟨ao, cap, rfl, h1, h2, h3⟩ := h
  by_cases hn : zs = []
  · subst hn
    rw [run_convert_bytes_string w _ _ _ _ _ _ Try.underlying24 Try.underlying5 Try.underlying9]
    cases ao with
    | none => simp [Conv.bytesToString]; rfl
    | some a =>
      exact (run_bytesToString w a 0 cap [] (by simp [loadCells, loadCellsFrom])).trans rfl
  · obtain ⟨b, off, rfl, hb, hc⟩ := h3 hn
    exact run_convert_bytes_arg w _ _ Try.underlying24 Try.underlying5 b off zs.length cap zs rfl (fun i hi => by rw [hc i hi]; simp [List.getD]) _ Try.underlying9

theorem Rd.drewN {k : IntKind} {w : World} {v : Value} {zs : List Int} (h : Rd k w v zs) (n : Nat) : Rd k (w.drewN n) v zs := h.ext (below_drewN (Below.refl _ _) n)

set_option maxRecDepth 100000 in
theorem kept_any (v : Value) (zs : List Int) (g cap base : Nat) (w : World) (hr : Rd .u8 w v zs) (hL : Lent w base g cap zs) :
    Calls Try.prog 18 #[.slice (some ⟨g, 0, none⟩) cap cap, v] w fun e w' => e = .returned (.bool true) ∧ Below w.heap.size w w' := by
  obtain ⟨hl1, hl2, hl3, hl4, hown⟩ := hL
  have hcell : ∀ k, zs.length ≤ k → k < cap → w.cell? ⟨g, k, none⟩ = some (.int .u8 (wrap64 (167 + (k : Int)) % 256)) := by
    intro k hk1 hk2
    rw [hown.cellAt k (by omega), List.getElem?_map, List.getElem?_append_right (by omega), fill_get _ _ _ (by omega)]
    simp [fillB, show zs.length + (k - zs.length) = k from by omega]
  have hrd : Rd .u8 w (.slice (some ⟨g, 0, none⟩) zs.length cap) zs := by
    refine ⟨_, cap, rfl, by omega, hl2, fun _ => ⟨g, 0, rfl, hl4, fun i hi => ?_⟩⟩
    rw [Nat.zero_add, hown.cellAt i (by omega), List.getElem?_map, List.getElem?_append_left hi]
    simp [hi]
  have c1 := fun nq => conv_Rd (hrd.drewN nq)
  have c2 := fun nq => conv_Rd (hr.drewN nq)
  obtain ⟨ao, cp, rfl, _⟩ := hr
  clear hrd hown
  unfold maxLen at hl2
  go_enter Try.func18, Try.ntmps18
  go_wp2
  go_loop [6] (fun i => ∃ k : Nat, zs.length ≤ k ∧ k ≤ cap ∧ i = .int .i64 k) (fun i => cap - (intOf i).toNat)
  case atStart => exact ⟨zs.length, Nat.le_refl _, by omega, rfl⟩
  case round =>
    obtain ⟨k, hk1, hk2, rfl⟩ := hrel
    by_cases hlt : k < cap
    · have hc := hcell k hk1 hlt
      clear hcell c1 c2
      go_wp2
      go_round
      case rel => exact ⟨k + 1, by omega, by omega, by go_num⟩
      case measure => simp [intOf]; omega
    · clear hcell
      have hd : decide ((zs.length : Int) + 40 ≤ (cap : Int)) = true := by simp; omega
      go_wp2
      go_quiet (fail)
      go_wp2
      go_ret
      exact ⟨rfl, below_drewN (Below.refl _ _) _⟩

/-- One byte written over. -/
def tw (k : Nat) (x : Int) : Int := bits .xor .u8 x (1 + (k : Int) % 3)
def turn (zs : List Int) : List Int := zs.mapIdx tw
theorem turn_len (zs : List Int) : (turn zs).length = zs.length := by simp [turn]
theorem turn_step (zs : List Int) (F : List Int) (k : Nat) (h : k < zs.length) :
    (((turn zs).take k ++ zs.drop k ++ F).map (Value.int .u8)).set k (.int .u8 (tw k (zs[k]?.getD 0))) = ((turn zs).take (k + 1) ++ zs.drop (k + 1) ++ F).map (Value.int .u8) := by
  have hT : k < (turn zs).length := by rw [turn_len]; exact h
  rw [List.take_succ_eq_append_getElem hT, List.drop_eq_getElem_cons h]
  simp only [List.map_append, List.map_cons, List.append_assoc, List.cons_append]
  rw [set_mid _ _ _ _ k (by simp; omega)]
  simp [turn, h]
theorem turn_cell (zs : List Int) (F : List Int) (k : Nat) (h : k < zs.length) : (((turn zs).take k ++ zs.drop k ++ F).map (Value.int .u8))[k]? = some (.int .u8 (zs[k]?.getD 0)) := by
  have hT : k < (turn zs).length := by rw [turn_len]; exact h
  rw [List.drop_eq_getElem_cons h]
  simp only [List.map_append, List.map_cons, List.append_assoc, List.cons_append]
  rw [List.getElem?_append_right (by simp; omega)]
  simp [h, show k - min k (turn zs).length = 0 from by omega]

theorem grown_setCell {w wr : World} {g k : Nat} (hg : w.grownBy wr (some g)) (u : Value) : w.grownBy (wr.setCell ⟨g, k, none⟩ u) (some g) :=
  ⟨hg.os, hg.tape, hg.output, by have := hg.size; simpa using this, fun i hi hne => by
    rw [heap_setCell_other wr ⟨g, k, none⟩ i u (fun e => hne (by simp [e]))]
    exact hg.block i hi hne⟩

theorem Lent.rd {w : World} {base g cap : Nat} {zs : List Int} (h : Lent w base g cap zs) : Rd .u8 w (.slice (some ⟨g, 0, none⟩) zs.length cap) zs := by
  obtain ⟨hl1, hl2, hl3, hl4, hown⟩ := h
  refine ⟨_, cap, rfl, by omega, hl2, fun _ => ⟨g, 0, rfl, hl4, fun i hi => ?_⟩⟩
  rw [Nat.zero_add, hown.cellAt i (by omega), List.getElem?_map, List.getElem?_append_left hi]
  simp [hi]

theorem own_le {w : World} {base base' : Nat} {e : TypeId} {size : Nat} {v : Value} {n : Nat} {xs : List Value} (h : w.ownsRow base e size v n xs) (hb : base' ≤ base) : w.ownsRow base' e size v n xs := by
  obtain ⟨h1, h2⟩ := h
  refine ⟨h1, ?_⟩
  rcases h2 with h2 | ⟨g, cap, cur, hv, hg, r⟩
  · exact .inl h2
  · exact .inr ⟨g, cap, cur, hv, Nat.le_trans hb hg, r⟩

theorem Lent.ext {w w' : World} {base g cap : Nat} {zs : List Int} (h : Lent w base g cap zs) (hb : Below w.heap.size w w') : Lent w' base g cap zs :=
  ⟨h.1, h.2.1, h.2.2.1, Nat.lt_of_lt_of_le h.2.2.2.1 hb.size, own_ext h.2.2.2.2 hb⟩

theorem grown_ext {w w' w'' : World} {row : Option Nat} (h : w.grownBy w' row) (hb : Below w'.heap.size w' w'') : w.grownBy w'' row :=
  ⟨hb.os.trans h.os, hb.tape.trans h.tape, hb.output.trans h.output, Nat.le_trans h.size hb.size, fun k hk hne => (hb.block k (Nat.lt_of_lt_of_le hk h.size)).trans (h.block k hk hne)⟩

set_option maxRecDepth 100000 in
theorem turned_any (zs : List Int) (g cap base : Nat) (w : World) (hz : zs.length ≤ 140737488355328) (hL : Lent w base g cap zs) :
    Calls Try.prog 19 #[.slice (some ⟨g, 0, none⟩) cap cap, .int .i64 zs.length] w fun e w' => ∃ v', e = .returned v' ∧ Lent w' base g cap (turn zs) ∧ w'.ownsRow w.heap.size 5 1 v' (turn zs).length ((turn zs).map (Value.int .u8)) ∧ w.grownBy w' (some g) := by
  obtain ⟨hl1, hl2, hl3, hl4, hown⟩ := hL
  have hl2' : cap ≤ 9223372036854775807 := hl2
  generalize hF : fill zs.length (cap - zs.length) = F at *
  have HF : Hid (fill zs.length (cap - zs.length) = F) := hF
  clear hF
  go_enter Try.func19, Try.ntmps19
  go_wp2_with fail
  go_loopw [5] (fun i wr => ∃ (k : Nat), k ≤ zs.length ∧ i = .int .i64 k ∧ wr.ownsRow base 5 1 (.slice (some ⟨g, 0, none⟩) cap cap) cap (((turn zs).take k ++ zs.drop k ++ F).map (Value.int .u8)) ∧ w.grownBy wr (some g)) (fun i _ => zs.length - (intOf i).toNat)
  case atStart => exact ⟨0, Nat.zero_le _, rfl, by simpa using hown, World.grownBy.refl _ _⟩
  case round =>
    obtain ⟨k, hk1, rfl, howr, hg⟩ := hrel
    by_cases hlt : k < zs.length
    · have hcx : wr.cell? ⟨g, k, none⟩ = some (.int .u8 (zs[k]?.getD 0)) := by
        rw [howr.cellAt k (by omega), turn_cell zs F k hlt]
      have hfz := howr.frozenAt k
      have hst := (howr.stored k (.int .u8 (tw k (zs[k]?.getD 0)))).1
      rw [turn_step zs F k hlt] at hst
      generalize zs[k]?.getD 0 = x at *
      have HS : Hid ((wr.setCell ⟨g, k, none⟩ (.int .u8 (tw k x))).ownsRow base 5 1 (.slice (some ⟨g, 0, none⟩) cap cap) cap (((turn zs).take (k + 1) ++ zs.drop (k + 1) ++ F).map (Value.int .u8))) := hst
      clear hst howr hown
      go_wp2
      go_roundw
      case rel => exact ⟨k + 1, by omega, by go_num, HS.out, grown_setCell hg _⟩
      case measure => simp [intOf]; omega
    · have hke : k = zs.length := by omega
      subst hke
      have e : (turn zs).take zs.length ++ zs.drop zs.length ++ F = turn zs ++ F := by rw [List.take_of_length_le (by rw [turn_len]; exact Nat.le_refl _), List.drop_length, List.append_nil]
      rw [e] at howr
      have HL : Hid (Lent wr base g cap (turn zs)) := by
        refine ⟨by rw [turn_len]; exact hl1, hl2, hl3, Nat.lt_of_lt_of_le hl4 hg.size, ?_⟩
        rw [turn_len, HF.out]
        exact howr
      clear howr hown e
      have HT : Hid ((turn zs).length = zs.length) := turn_len zs
      go_wp2_with fail
      have hrd := HL.out.rd
      rw [HT.out] at hrd
      refine (copyBytes_any _ (turn zs) _ hrd (by rw [HT.out]; exact hz)).mono ?_
      rintro e w1 ⟨v1, rfl, hown1, hb1⟩
      have HO : Hid (w1.ownsRow w.heap.size 5 1 v1 (turn zs).length ((turn zs).map (Value.int .u8))) := own_le hown1 hg.size
      clear hrd hown1
      go_wp2
      go_ret
      exact ⟨_, rfl, HL.out.ext hb1, HO.out, grown_ext hg hb1⟩
end Go.Proofs.Ytmfbobibpebfnaa
