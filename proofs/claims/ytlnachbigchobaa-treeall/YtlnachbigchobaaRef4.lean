/- The document's At, Find, Replace; sameRun. -/
import Derived.Test.YtlnachbigchobaaRef3
import Derived.Test.YtlnachbigchobaaMeth
namespace Go.Proofs.Ytlnachbigchobaa
open Go.RowKit

set_option maxRecDepth 100000 in
theorem sameRun_any (x : It) (w : World) : Calls Try.prog 75 #[.agg #[.int .i64 x.1, .int .i64 x.2], .agg #[.int .i64 x.1, .int .i64 x.2]] w fun e w' => e = .returned (.bool true) ∧ Below w.heap.size w w' := by
  obtain ⟨a, b⟩ := x
  go_enter Try.func75, Try.ntmps75
  go_wp2_with fail
  go_ret
  exact ⟨ret_bool (by simp), by repeat (first | exact Below.refl _ _ | refine ext_alloc ?_ _)⟩

set_option maxRecDepth 100000 in
set_option maxHeartbeats 1000000 in
theorem rAt_any (v : Value) (xs : List It) (i : Int) (w : World) (h : RdR w v xs) :
    Calls Try.prog 78 #[v, .int .i64 i] w fun e w' => ∃ x b, e = .returned (.tuple #[.agg #[.int .i64 x.1, .int .i64 x.2], .bool b]) ∧ AtP xs i x b ∧ Below w.heap.size w w' := by
  have hlen := h.len
  obtain ⟨ao, cap, rfl, hl, hm, h0, hc⟩ := h
  by_cases h1 : i < 0
  · have HN : atL xs i = none := by unfold atL; rw [if_pos h1]
    clear hc h0
    go_enter Try.func78, Try.ntmps78
    go_wp2_with fail
    exact bodyPost_ret (v := .tuple #[.agg #[.int .i64 0, .int .i64 0], .bool false]) (by simp [results, Try.results78, go_sem]) rfl ⟨(0, 0), false, rfl, .inr ⟨HN, rfl, rfl⟩, ext_alloc (Below.refl _ _) _⟩
  have h1' : decide (i < 0) = false := by simpa using h1
  by_cases h2 : (xs.length : Int) ≤ i
  · have HN : Hid (atL xs i = none) := by unfold Hid atL; rw [if_neg h1, List.getElem?_eq_none (by omega)]
    clear hc h0
    go_enter Try.func78, Try.ntmps78
    go_wp2_with fail
    exact bodyPost_ret (v := .tuple #[.agg #[.int .i64 0, .int .i64 0], .bool false]) (by simp [results, Try.results78, go_sem]) rfl ⟨0, 0, .inl ⟨rfl, .inr ⟨HN.out, rfl, rfl⟩, ext_alloc (Below.refl _ _) _⟩⟩
  · obtain ⟨k, rfl⟩ : ∃ k : Nat, i = (k : Int) := ⟨i.toNat, by omega⟩
    have hk : k < xs.length := by omega
    have h2' : ¬ (xs.length : Int) ≤ (k : Int) := by omega
    obtain ⟨b, off, rfl, hbl, hc⟩ := hc (by intro h; subst h; simp at hk)
    obtain ⟨c0, c1⟩ := hc k hk
    have HN : Hid (atL xs (k : Int) = some (xs[k]?.getD (0, 0))) := by unfold Hid atL; rw [if_neg (by omega), Int.toNat_natCast, List.getElem?_eq_getElem hk]; rfl
    generalize xs[k]?.getD (0, 0) = x at *
    clear hc h0
    go_enter Try.func78, Try.ntmps78
    go_wp2_with fail
    exact bodyPost_ret (v := .tuple #[.agg #[.int .i64 x.1, .int .i64 x.2], .bool true]) (by simp [results, Try.results78, go_sem]) rfl ⟨x.1, x.2, .inr ⟨rfl, .inl ⟨HN.out, rfl⟩, ext_alloc (Below.refl _ _) _⟩⟩

set_option maxRecDepth 100000 in
set_option maxHeartbeats 1000000 in
theorem rReplace_bad (v : Value) (xs : List It) (f t : Int) (v2 : Value) (ys : List It) (w : World) (h : RdR w v xs) (h2 : RdR w v2 ys) (hb : f < 0 ∨ t < f ∨ (xs.length : Int) < t) :
    Calls Try.prog 77 #[v, .int .i64 f, .int .i64 t, v2] w fun e w' => e = .returned (.tuple #[.slice none 0 0, .int .i64 1]) ∧ w' = w := by
  obtain ⟨ao, cap, rfl, _⟩ := h
  obtain ⟨ao2, cap2, rfl, _⟩ := h2
  generalize xs.length = n at *
  generalize ys.length = m at *
  by_cases h1 : f < 0
  · go_enter Try.func77, Try.ntmps77
    go_wp2_with fail
    go_ret2
    exact ⟨rfl, rfl⟩
  have h1' : decide (f < 0) = false := by simpa using h1
  by_cases h2 : t < f
  · go_enter Try.func77, Try.ntmps77
    go_wp2_with fail
    go_ret2
    exact ⟨rfl, rfl⟩
  have h2' : decide (t < f) = false := by simpa using h2
  have h3 : (n : Int) < t := by omega
  go_enter Try.func77, Try.ntmps77
  go_wp2_with fail
  go_ret2
  exact ⟨rfl, rfl⟩

/-- One more run, appended to a row of the document's runs. -/
theorem take_snoc (xs : List It) (k : Nat) (h : k < xs.length) : xs.take k ++ [xs[k]?.getD (0, 0)] = xs.take (k + 1) := by
  rw [List.take_succ_eq_append_getElem h, List.getElem?_eq_getElem h]; rfl
theorem drop_snoc (xs : List It) (a k : Nat) (h : a ≤ k) (hk : k < xs.length) : (xs.drop a).take (k - a) ++ [xs[k]?.getD (0, 0)] = (xs.drop a).take (k + 1 - a) := by
  have := take_snoc (xs.drop a) (k - a) (by rw [List.length_drop]; omega)
  rw [List.getElem?_drop, show a + (k - a) = k by omega, show k - a + 1 = k + 1 - a by omega] at this
  exact this

set_option maxRecDepth 100000 in
set_option maxHeartbeats 4000000 in
theorem rReplace_good (v : Value) (xs : List It) (f t : Nat) (v2 : Value) (ys : List It) (w : World) (h : RdR w v xs) (h2 : RdR w v2 ys) (hft : f ≤ t) (htn : t ≤ xs.length) (hz : (xs.length + ys.length) * 16 ≤ 140737488355328) :
    Calls Try.prog 77 #[v, .int .i64 f, .int .i64 t, v2] w fun e w' => ∃ v', e = .returned (.tuple #[v', .int .i64 0]) ∧ OwnR w' w.heap.size 76 v' (xs.take f ++ ys ++ xs.drop t) ∧ Below w.heap.size w w' := by
  have R1 := hidIt h
  have R2 := hidIt h2
  obtain ⟨ao, cap, rfl, hl, hm, h0, hc⟩ := h
  obtain ⟨ao2, cap2, rfl, hl2, hm2, h02, hc2⟩ := h2
  unfold maxLen at hm hm2
  have t1 : ¬ (f : Int) < 0 := by omega
  have t1' : decide ((f : Int) < 0) = false := by simp
  have t2 : ¬ (t : Int) < (f : Int) := by omega
  have t2' : decide ((t : Int) < (f : Int)) = false := by simp; omega
  have t2n : ¬ t < f := by omega
  have t3 : ¬ (xs.length : Int) < (t : Int) := by omega
  have t3n : ¬ xs.length < t := by omega
  clear hc hc2 h0 h02
  go_enter Try.func77, Try.ntmps77
  go_wp2_with fail
  go_loopw [10, 11] (fun o i wr => ∃ k : Nat, k ≤ f ∧ i = .int .i64 k ∧ OwnR wr w.heap.size 76 o (xs.take k) ∧ Below w.heap.size w wr) (fun _ i _ => f - (intOf i).toNat)
  case atStart => exact ⟨0, Nat.zero_le _, rfl, OwnR.nil _ _ _, Below.refl _ _⟩
  case round =>
    obtain ⟨k, hk, rfl, hown, hb⟩ := hrel
    by_cases hlt : k < f
    · have hkx : k < xs.length := by omega
      have hlt' : (k : Int) < (f : Int) := by omega
      obtain ⟨b, off, cap', e0, _, _, hbl, hcc⟩ := R1.out.at (by omega)
      simp only [Value.slice.injEq] at e0
      obtain ⟨rfl, _, rfl⟩ := e0
      have c0 : wr.cell? ⟨b, off + k * 2, none⟩ = some (.int .i64 (xs[k]?.getD (0, 0)).1) := (hb.cell (p := ⟨b, off + k * 2, none⟩) hbl).trans (hcc k hkx).1
      have c1 : wr.cell? ⟨b, off + k * 2 + 1, none⟩ = some (.int .i64 (xs[k]?.getD (0, 0)).2) := (hb.cell (p := ⟨b, off + k * 2 + 1, none⟩) hbl).trans (hcc k hkx).2
      have HT : Hid (xs.take k ++ [xs[k]?.getD (0, 0)] = xs.take (k + 1)) := by unfold Hid; exact take_snoc xs k hkx
      have hkx' : (k : Int) < (xs.length : Int) := by omega
      have HLK : Hid ((xs.take k).length + 1 ≤ xs.length + ys.length) := by unfold Hid; simp only [List.length_take]; omega
      generalize xs[k]?.getD (0, 0) = x at *
      generalize xs.take k = zs at *
      have HO := hidIt hown
      clear hown hcc
      go_wp2_with (at_builtin; refine wpList_append_runs rfl _ _ 31 rfl w.heap.size 76 Try.info_rrun Try.underlying31 _ zs rfl (HO.out.ext (ext_alloc (Below.refl _ _) _)) _ [x] rfl (RdR.lit1 wr 76 x) (by have := HLK.out; simp only [List.length_cons, List.length_nil]; omega) (by have := hb.size; simp; omega) ?_; intro v' w1 hO hg; have HB1 := hidIt (OwnR.below (ext_alloc hb _) (HO.out.ext (ext_alloc (Below.refl _ _) _)) hg); have HO1 := hidIt hO; clear hO hg)
      go_roundw
      case rel => exact ⟨k + 1, by omega, by go_num, by rw [← HT.out]; exact HO1.out, HB1.out⟩
      case measure => simp [intOf]; omega
    · obtain rfl : k = f := by omega
      have hge : ¬ (k : Int) < (k : Int) := by omega
      have HO := hidIt hown
      have HB := hidIt hb
      have HW0 := hidIt hb.size
      clear hown hb
      generalize hW1 : wr = W1 at *
      clear hW1
      generalize hO1 : u10 = o1 at *
      clear hO1
      go_wp2_with fail
      go_loopw [10, 12] (fun o i wr => ∃ m : Nat, m ≤ ys.length ∧ i = .int .i64 m ∧ OwnR wr w.heap.size 76 o (xs.take k ++ ys.take m) ∧ Below w.heap.size w wr) (fun _ i _ => ys.length - (intOf i).toNat)
      case atStart => exact ⟨0, Nat.zero_le _, rfl, by rw [List.take_zero, List.append_nil]; exact HO.out, HB.out⟩
      case round =>
        obtain ⟨m, hk, rfl, hown, hb⟩ := hrel
        by_cases hlt : m < ys.length
        · have hkx : m < ys.length := by omega
          have hlt' : (m : Int) < (ys.length : Int) := by omega
          obtain ⟨b, off, cap', e0, _, _, hbl, hcc⟩ := R2.out.at (by omega)
          simp only [Value.slice.injEq] at e0
          obtain ⟨rfl, _, rfl⟩ := e0
          have c0 : wr.cell? ⟨b, off + m * 2, none⟩ = some (.int .i64 (ys[m]?.getD (0, 0)).1) := (hb.cell (p := ⟨b, off + m * 2, none⟩) hbl).trans (hcc m hkx).1
          have c1 : wr.cell? ⟨b, off + m * 2 + 1, none⟩ = some (.int .i64 (ys[m]?.getD (0, 0)).2) := (hb.cell (p := ⟨b, off + m * 2 + 1, none⟩) hbl).trans (hcc m hkx).2
          have HT : Hid (xs.take k ++ ys.take m ++ [ys[m]?.getD (0, 0)] = xs.take k ++ ys.take (m + 1)) := by unfold Hid; rw [List.append_assoc, take_snoc ys m hkx]
          have hkx' : (m : Int) < (ys.length : Int) := by omega
          have HLK : Hid ((xs.take k ++ ys.take m).length + 1 ≤ xs.length + ys.length) := by unfold Hid; simp only [List.length_append, List.length_take]; omega
          generalize ys[m]?.getD (0, 0) = x at *
          generalize xs.take k ++ ys.take m = zs at *
          have HO := hidIt hown
          clear hown hcc
          go_wp2_with (at_builtin; refine wpList_append_runs rfl _ _ 31 rfl w.heap.size 76 Try.info_rrun Try.underlying31 _ zs rfl (HO.out.ext (ext_alloc (Below.refl _ _) _)) _ [x] rfl (RdR.lit1 wr 76 x) (by have := HLK.out; simp only [List.length_cons, List.length_nil]; omega) (by have := hb.size; simp; omega) ?_; intro v' w1 hO hg; have HB1 := hidIt (OwnR.below (ext_alloc hb _) (HO.out.ext (ext_alloc (Below.refl _ _) _)) hg); have HO1 := hidIt hO; clear hO hg)
          go_roundw
          case rel => exact ⟨m + 1, by omega, by go_num, by rw [← HT.out]; exact HO1.out, HB1.out⟩
          case measure => simp [intOf]; omega
        · obtain rfl : m = ys.length := by omega
          have hge2 : ¬ (ys.length : Int) < (ys.length : Int) := by omega
          rw [List.take_length] at hown
          have HO2 := hidIt hown
          have HB2 := hidIt hb
          clear hown hb HO HB
          go_wp2_with fail
          go_loopw [10, 13] (fun o i wr => ∃ n : Nat, t ≤ n ∧ n ≤ xs.length ∧ i = .int .i64 n ∧ OwnR wr w.heap.size 76 o (xs.take k ++ ys ++ (xs.drop t).take (n - t)) ∧ Below w.heap.size w wr) (fun _ i _ => xs.length - (intOf i).toNat)
          case atStart => exact ⟨t, Nat.le_refl _, htn, rfl, by rw [Nat.sub_self, List.take_zero, List.append_nil]; exact HO2.out, HB2.out⟩
          case round =>
            obtain ⟨n, hlo, hk, rfl, hown, hb⟩ := hrel
            by_cases hlt : n < xs.length
            · have hlt' : (n : Int) < (xs.length : Int) := by omega
              obtain ⟨b, off, cap', e0, _, _, hbl, hcc⟩ := R1.out.at (by omega)
              simp only [Value.slice.injEq] at e0
              obtain ⟨rfl, _, rfl⟩ := e0
              have c0 : wr.cell? ⟨b, off + n * 2, none⟩ = some (.int .i64 (xs[n]?.getD (0, 0)).1) := (hb.cell (p := ⟨b, off + n * 2, none⟩) hbl).trans (hcc n hlt).1
              have c1 : wr.cell? ⟨b, off + n * 2 + 1, none⟩ = some (.int .i64 (xs[n]?.getD (0, 0)).2) := (hb.cell (p := ⟨b, off + n * 2 + 1, none⟩) hbl).trans (hcc n hlt).2
              have HT : Hid (xs.take k ++ ys ++ (xs.drop t).take (n - t) ++ [xs[n]?.getD (0, 0)] = xs.take k ++ ys ++ (xs.drop t).take (n + 1 - t)) := by unfold Hid; rw [List.append_assoc, drop_snoc xs t n hlo hlt]
              have HLK : Hid ((xs.take k ++ ys ++ (xs.drop t).take (n - t)).length + 1 ≤ xs.length + ys.length) := by unfold Hid; simp only [List.length_append, List.length_take, List.length_drop]; omega
              generalize xs[n]?.getD (0, 0) = x at *
              generalize xs.take k ++ ys ++ (xs.drop t).take (n - t) = zs at *
              have HO := hidIt hown
              clear hown hcc
              go_wp2_with (at_builtin; refine wpList_append_runs rfl _ _ 31 rfl w.heap.size 76 Try.info_rrun Try.underlying31 _ zs rfl (HO.out.ext (ext_alloc (Below.refl _ _) _)) _ [x] rfl (RdR.lit1 wr 76 x) (by have := HLK.out; simp only [List.length_cons, List.length_nil]; omega) (by have := hb.size; simp; omega) ?_; intro v' w1 hO hg; have HB1 := hidIt (OwnR.below (ext_alloc hb _) (HO.out.ext (ext_alloc (Below.refl _ _) _)) hg); have HO1 := hidIt hO; clear hO hg)
              go_roundw
              case rel => exact ⟨n + 1, by omega, by omega, by go_num, by rw [← HT.out]; exact HO1.out, HB1.out⟩
              case measure => simp [intOf]; omega
            · obtain rfl : n = xs.length := by omega
              have hge3 : ¬ (xs.length : Int) < (xs.length : Int) := by omega
              have ed : (xs.drop t).take (xs.length - t) = xs.drop t := List.take_of_length_le (by rw [List.length_drop]; exact Nat.le_refl _)
              rw [ed] at hown
              have HO3 := hidIt hown
              clear ed
              clear hown
              go_wp2_with fail
              go_ret2
              exact ⟨_, rfl, by rw [← List.append_assoc]; exact HO3.out, hb⟩
end Go.Proofs.Ytlnachbigchobaa
