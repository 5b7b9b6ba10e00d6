/- slices.Concat of rows of bindings. -/
import Derived.Test.YtdbmgjkgfmdmjaaDoorKRow
namespace Go.Proofs.YtdbmgjkgfmdmjaaDoor
open Go.RowKit Go.Lib
/-- The slices of a row, as they are read. -/
def RowW (w : World) (B : Nat) (xs : List (Value × List (Rw × Value))) : Prop := B < w.heap.size ∧ ∀ i p, xs[i]? = some p → w.cell? ⟨B, i, none⟩ = some p.1 ∧ RdW w p.1 p.2
theorem RowW.ext {w w' : World} {B : Nat} {xs : List (Value × List (Rw × Value))} (h : RowW w B xs) (hb : Below w.heap.size w w') : RowW w' B xs :=
  ⟨Nat.lt_of_lt_of_le h.1 hb.size, fun i p hp => ⟨(hb.cell (p := ⟨B, i, none⟩) h.1).trans (h.2 i p hp).1, (h.2 i p hp).2.ext hb⟩⟩
def catW (xs : List (Value × List (Rw × Value))) : List (Rw × Value) := (xs.map Prod.snd).flatten
theorem catW_succ (xs : List (Value × List (Rw × Value))) (k : Nat) (p : Value × List (Rw × Value)) (h : xs[k]? = some p) : catW (xs.take (k + 1)) = catW (xs.take k) ++ p.2 := by
  obtain ⟨hk, rfl⟩ := List.getElem?_eq_some_iff.1 h
  unfold catW
  rw [List.take_succ_eq_append_getElem hk, List.map_append, List.flatten_append]
  simp
theorem catW_le (xs : List (Value × List (Rw × Value))) (k : Nat) : (catW (xs.take k)).length ≤ (catW xs).length := by
  have : catW xs = catW (xs.take k) ++ catW (xs.drop k) := by unfold catW; rw [← List.flatten_append, ← List.map_append, List.take_append_drop]
  rw [this, List.length_append]
  omega

set_option maxRecDepth 100000 in
set_option maxHeartbeats 2000000 in
theorem concatR_any (B : Nat) (xs : List (Value × List (Rw × Value))) (w : World) (h : RowW w B xs) (hx : xs.length ≤ 100) (h0 : 0 < (catW xs).length) (hl : (catW xs).length * 56 ≤ 140737488355328) :
    Calls Tryd.prog 63 #[.slice (some ⟨B, 0, none⟩) xs.length xs.length] w fun e w' => ∃ v, e = .returned v ∧ OwnW w' w.heap.size v (catW xs) ∧ Below w.heap.size w w' := by
  have H := hidIt h
  have hB := h.1
  clear h
  go_enter Tryd.func63, Tryd.ntmps63
  go_wp2_with fail
  go_loopw [3, 11] (fun s i wr => ∃ k : Nat, k ≤ xs.length ∧ i = .int .i64 k ∧ s = .int .i64 (catW (xs.take k)).length ∧ w = wr) (fun _ i _ => xs.length - (RowKit.intOf i).toNat)
  case atStart => exact ⟨0, Nat.zero_le _, rfl, rfl, rfl⟩
  case round =>
    obtain ⟨k, hk, rfl, rfl, rfl⟩ := hrel
    by_cases hlt : k < xs.length
    · obtain ⟨p, hp⟩ : ∃ p, xs[k]? = some p := ⟨_, List.getElem?_eq_getElem hlt⟩
      obtain ⟨c1, r1⟩ := H.out.2 k p hp
      obtain ⟨⟨ao, c, e1, e2a, e2b, _⟩, _⟩ := id r1
      rw [e1] at c1
      have hs := catW_succ xs k p hp
      have hle := catW_le xs (k + 1)
      rw [hs, List.length_append] at hle
      have HS := hidIt (show (catW (List.take (k + 1) xs)).length = (catW (List.take k xs)).length + p.2.length by rw [hs, List.length_append])
      generalize (catW (List.take k xs)).length = z at *
      generalize p.2.length = q at *
      generalize (catW xs).length = z2 at *
      have hi1 : (k : Int) < (xs.length : Int) := by omega
      have hw1 : IntKind.i64.wrap ((z : Int) + q) = (z : Int) + q := by rw [IntKind.wrap_i64]; omega
      have hn : ¬ ((z : Int) + q < 0) := by omega
      clear r1 e1 hs
      go_wp2_with fail
      go_roundw
      case rel => exact ⟨k + 1, by omega, by go_num, by rw [HS.out]; simp, trivial⟩
      case measure => simp [RowKit.intOf]; omega
    · have hkl : k = xs.length := by omega
      subst hkl
      clear hlt
      rw [List.take_length]
      go_wp2_with (go_at_call 82; refine (growR_any _ h0 hl _).mono ?_; rintro e w1 ⟨v1, rfl, own1, hb1⟩; have O1 := hidIt own1; have B1 := hidIt hb1; clear own1 hb1; (try dsimp only))
      go_loopw [6, 27] (fun s i wr => ∃ k : Nat, k ≤ xs.length ∧ i = .int .i64 k ∧ OwnW wr w.heap.size s (catW (xs.take k)) ∧ Below w.heap.size w wr) (fun _ i _ => xs.length - (RowKit.intOf i).toNat)
      case atStart => exact ⟨0, Nat.zero_le _, rfl, O1.out, B1.out⟩
      case round =>
        obtain ⟨k, hk, rfl, hown, hbw⟩ := hrel
        by_cases hlt : k < xs.length
        · obtain ⟨p, hp⟩ : ∃ p, xs[k]? = some p := ⟨_, List.getElem?_eq_getElem hlt⟩
          obtain ⟨c1, r1⟩ := (H.out.ext hbw).2 k p hp
          have hs := catW_succ xs k p hp
          have hle := catW_le xs (k + 1)
          rw [hs, List.length_append] at hle
          have HS := hidIt hs
          have HR := hidIt r1
          have HO := hidIt hown
          have HW := hidIt hbw
          have hi1 : (k : Int) < (xs.length : Int) := by omega
          have hsz := hbw.size
          clear hs r1 hown hbw
          go_wp2_with (at_builtin; refine wpl_rows rfl _ _ rfl w.heap.size _ _ rfl HO.out _ _ rfl HR.out (by omega) hsz ?_; intro v2 w2 own2 hb2; have O2 := hidIt own2; have B2 := hidIt hb2; clear own2 hb2)
          go_roundw
          case rel => exact ⟨k + 1, by omega, by go_num, by rw [HS.out]; exact O2.out, HW.out.trans (B2.out.mono (Nat.le_refl _))⟩
          case measure => simp [RowKit.intOf]; omega
        · have hkl : k = xs.length := by omega
          subst hkl
          clear hlt
          rw [List.take_length] at hown
          have HO := hidIt hown
          have HW := hidIt hbw
          clear hown hbw
          go_wp2_with fail
          go_ret
          exact ⟨_, rfl, HO.out, HW.out⟩

end Go.Proofs.YtdbmgjkgfmdmjaaDoor
