/- Upper, Lower, Turn of the code. -/
import Derived.Test.YtipnifenahhkoaaDoorCls2
namespace Go.Proofs.YtipnifenahhkoaaDoor
open Go.RowKit

def Gx.oneWay : List (Int × Int × Bool) := [(181, 924, false), (304, 105, true), (305, 73, false), (383, 83, false), (962, 931, false), (7838, 223, true), (8486, 969, true), (8490, 107, true), (8491, 229, true)]
def Gx.dist : List Int := [1, -121, 8, 15, 16, 26, 32, 37, 38, 40, 48, 63, 64, 80]
def Gx.ow (i : Nat) : Int × Int × Bool := Gx.oneWay.getD i (0, 0, false)
def Gx.ds (i : Nat) : Int := Gx.dist.getD i 0

/-- The two tables lie in the world's first blocks. -/
def Tabs (w : World) : Prop :=
  1 < w.heap.size ∧ (∀ i, i < 9 → w.cell? ⟨0, i * 3, none⟩ = some (.int .i64 (Gx.ow i).1) ∧ w.cell? ⟨0, i * 3 + 1, none⟩ = some (.int .i64 (Gx.ow i).2.1) ∧ w.cell? ⟨0, i * 3 + 2, none⟩ = some (.bool (Gx.ow i).2.2)) ∧
    (∀ i, i < 14 → w.cell? ⟨1, i, none⟩ = some (.int .i64 (Gx.ds i)))

theorem Tabs.ext {w w' : World} (h : Tabs w) (hb : Below w.heap.size w w') : Tabs w' := by
  obtain ⟨h1, h2, h3⟩ := h
  refine ⟨Nat.lt_of_lt_of_le h1 hb.size, fun i hi => ?_, fun i hi => ?_⟩
  · obtain ⟨a, b, c⟩ := h2 i hi
    exact ⟨(hb.cell (p := ⟨0, i * 3, none⟩) (by show 0 < _; omega)).trans a, (hb.cell (p := ⟨0, i * 3 + 1, none⟩) (by show 0 < _; omega)).trans b, (hb.cell (p := ⟨0, i * 3 + 2, none⟩) (by show 0 < _; omega)).trans c⟩
  · exact (hb.cell (p := ⟨1, i, none⟩) (by show 1 < _; omega)).trans (h3 i hi)

def Gx.one (a : Int) (g : Bool) : Int × Bool :=
  match Gx.oneWay.find? fun e => e.1 == a && e.2.2 == g with
  | some e => (e.2.1, true)
  | none => (0, false)

theorem Gx.ow_rise : ∀ i j, i < j → j < 9 → (Gx.ow i).1 < (Gx.ow j).1 := by
  have : ∀ j, j < 9 → ∀ i, i < j → (Gx.ow i).1 < (Gx.ow j).1 := by decide
  exact fun i j hij hj => this j hj i hij
theorem Gx.ow_mem : ∀ k, k < 9 → (Gx.ow k).1 = 181 ∨ (Gx.ow k).1 = 304 ∨ (Gx.ow k).1 = 305 ∨ (Gx.ow k).1 = 383 ∨ (Gx.ow k).1 = 962 ∨ (Gx.ow k).1 = 7838 ∨ (Gx.ow k).1 = 8486 ∨ (Gx.ow k).1 = 8490 ∨ (Gx.ow k).1 = 8491 := by decide
theorem Gx.one_self : ∀ k, k < 9 → ∀ g, Gx.one (Gx.ow k).1 g = if (Gx.ow k).2.2 ≠ g then (0, false) else ((Gx.ow k).2.1, true) := by decide

theorem Gx.one_at (a : Int) (g : Bool) (k : Nat) (hk : k ≤ 9) (h1 : ∀ i, i < k → (Gx.ow i).1 < a) (h2 : ∀ i, k ≤ i → i < 9 → a ≤ (Gx.ow i).1) :
    Gx.one a g = if k = 9 then (0, false) else if (Gx.ow k).1 ≠ a then (0, false) else if (Gx.ow k).2.2 ≠ g then (0, false) else ((Gx.ow k).2.1, true) := by
  by_cases hne : a = 181 ∨ a = 304 ∨ a = 305 ∨ a = 383 ∨ a = 962 ∨ a = 7838 ∨ a = 8486 ∨ a = 8490 ∨ a = 8491
  · have hk9 : k < 9 := by
      by_cases h : k = 9
      · subst h
        have := h1 8 (by omega)
        simp [Gx.ow, Gx.oneWay] at this
        omega
      · omega
    have hak : a = (Gx.ow k).1 := by
      have e : ∀ j, j < 9 → a = (Gx.ow j).1 → a = (Gx.ow k).1 := by
        intro j hj he
        rcases Nat.lt_trichotomy j k with h | h | h
        · have := h1 j h; omega
        · rw [← h]; exact he
        · have h3 := h2 k (Nat.le_refl _) hk9
          have h4 : (Gx.ow k).1 < (Gx.ow j).1 := Gx.ow_rise k j h hj
          omega
      rcases hne with h | h | h | h | h | h | h | h | h
      · exact e 0 (by omega) h
      · exact e 1 (by omega) h
      · exact e 2 (by omega) h
      · exact e 3 (by omega) h
      · exact e 4 (by omega) h
      · exact e 5 (by omega) h
      · exact e 6 (by omega) h
      · exact e 7 (by omega) h
      · exact e 8 (by omega) h
    subst hak
    rw [if_neg (by omega), if_neg (by simp)]
    clear h1 h2 hne
    exact Gx.one_self k hk9 g
  · have hn : Gx.one a g = (0, false) := by
      unfold Gx.one
      have : (Gx.oneWay.find? fun e => e.1 == a && e.2.2 == g) = none := by
        rw [List.find?_eq_none]
        intro e he
        simp [Gx.oneWay] at he
        rcases he with rfl | rfl | rfl | rfl | rfl | rfl | rfl | rfl | rfl <;> simp <;> omega
      rw [this]
    rw [hn]
    by_cases hk9 : k = 9
    · rw [if_pos hk9]
    · have hk' : k < 9 := by omega
      have : (Gx.ow k).1 ≠ a := by
        intro h
        apply hne
        have := Gx.ow_mem k hk'
        omega
      rw [if_neg hk9, if_pos this]

set_option maxRecDepth 100000 in
theorem turnOneWay_any (a : Int) (g : Bool) (w : World) (hT : Tabs w) : Calls Tryd.prog 40 #[.int .i64 a, .bool g] w fun e w' => e = .returned (.tuple #[.int .i64 (Gx.one a g).1, .bool (Gx.one a g).2]) ∧ w' = w := by
  obtain ⟨hsz, h1, h2⟩ := hT
  have H1 : Hid (∀ i, i < 9 → w.cell? ⟨0, i * 3, none⟩ = some (.int .i64 (Gx.ow i).1) ∧ w.cell? ⟨0, i * 3 + 1, none⟩ = some (.int .i64 (Gx.ow i).2.1) ∧ w.cell? ⟨0, i * 3 + 2, none⟩ = some (.bool (Gx.ow i).2.2)) := h1
  have HO : Hid (∀ k, k ≤ 9 → (∀ i, i < k → (Gx.ow i).1 < a) → (∀ i, k ≤ i → i < 9 → a ≤ (Gx.ow i).1) → Gx.one a g = if k = 9 then (0, false) else if (Gx.ow k).1 ≠ a then (0, false) else if (Gx.ow k).2.2 ≠ g then (0, false) else ((Gx.ow k).2.1, true)) := Gx.one_at a g
  clear h1 h2
  generalize Gx.one a g = o at *
  go_enter Tryd.func40, Tryd.ntmps40
  go_wp2_with fail
  go_loopw [6, 7] (fun l h wr => wr = w ∧ ∃ lo hi : Nat, lo ≤ hi ∧ hi ≤ 9 ∧ l = .int .i64 lo ∧ h = .int .i64 hi ∧ (∀ i, i < lo → (Gx.ow i).1 < a) ∧ (∀ i, hi ≤ i → i < 9 → a ≤ (Gx.ow i).1)) (fun l h _ => (intOf h - intOf l).toNat)
  case atStart => exact ⟨rfl, 0, 9, by omega, by omega, rfl, rfl, fun i h => by omega, fun i h h' => by omega⟩
  case round =>
    obtain ⟨rfl, lo, hi, hlh, hhn, rfl, rfl, hA, hZ⟩ := hrel
    have HA : Hid (∀ i, i < lo → (Gx.ow i).1 < a) := hA
    have HZ : Hid (∀ i, hi ≤ i → i < 9 → a ≤ (Gx.ow i).1) := hZ
    clear hA hZ
    by_cases hlt : lo < hi
    · have hm : (((lo : Int) + hi) / 2) = ((lo + hi) / 2 : Nat) := by omega
      have hml : lo ≤ (lo + hi) / 2 := by omega
      have hmh : (lo + hi) / 2 < hi := by omega
      generalize (lo + hi) / 2 = m at *
      have hm9 : m < 9 := by omega
      have hc := (H1.out m hm9).1
      by_cases hle : (Gx.ow m).1 < a
      · go_wp2_with fail
        refine ⟨⟨trivial, m + 1, hi, by omega, hhn, by simp, rfl, fun i h => ?_, HZ.out⟩, by simp [intOf]; omega⟩
        rcases Nat.lt_or_ge i m with h' | h'
        · have := Gx.ow_rise i m h' hm9
          omega
        · obtain rfl : i = m := by omega
          exact hle
      · go_wp2_with fail
        refine ⟨⟨trivial, lo, m, by omega, by omega, rfl, by rw [hm], HA.out, fun i h h' => ?_⟩, by simp [intOf]; omega⟩
        rcases Nat.lt_or_ge m i with h'' | h''
        · have := Gx.ow_rise m i h'' h'
          omega
        · obtain rfl : i = m := by omega
          omega
    · have he : hi = lo := by omega
      subst he
      have HOk : Hid _ := HO.out hi hhn HA.out HZ.out
      clear HO HA HZ hlh hlt
      have e1 : decide ((hi : Int) < hi) = false := by simp
      by_cases h9 : hi = 9
      · have b9 : ((hi : Int) == 9) = true := by simp [h9]
        have HQ : Hid (o = (0, false)) := by unfold Hid; rw [HOk.out, if_pos h9]
        clear HOk h9
        go_wp2_with fail
        go_ret2
        rw [HQ.out]
        exact ⟨rfl, rfl⟩
      · have b9 : ((hi : Int) == 9) = false := by simp; omega
        have h9' : hi < 9 := by omega
        obtain ⟨hc0, hc1, hc2⟩ := H1.out hi h9'
        have HQ := HOk.out
        rw [if_neg h9] at HQ
        clear HOk h9
        generalize Gx.ow hi = e at *
        obtain ⟨e1', e2', e3'⟩ := e
        simp only at hc0 hc1 hc2 HQ
        by_cases hne : e1' = a
        · subst hne
          rw [if_neg (by simp)] at HQ
          have HQ' : Hid _ := HQ
          clear HQ
          cases e3' <;> cases g
          all_goals
            go_wp2_with fail
            go_ret2
            rw [HQ'.out]
            exact ⟨rfl, rfl⟩
        · have bne : (e1' != a) = true := by simp [hne]
          rw [if_pos hne] at HQ
          have HQ' : Hid _ := HQ
          clear HQ hne
          go_wp2_with fail
          go_ret2
          rw [HQ'.out]
          exact ⟨rfl, rfl⟩

/-- The distance of a letter of these rows. -/
def Gx.din (T : List Gx.Row) (a t : Int) : Int :=
  match Gx.find T a with
  | none => 0
  | some r => if r.2.2 = 0 ∧ (a - r.1) % 2 ≠ t then 0 else Gx.ds r.2.2
def Gx.up (a : Int) : Int := if (Gx.one a false).2 then (Gx.one a false).1 else a - Gx.din Gx.smallRows a 1
def Gx.lw (a : Int) : Int := if (Gx.one a true).2 then (Gx.one a true).1 else a + Gx.din Gx.greatRows a 0
def Gx.tn (a : Int) : Int := if Gx.up a ≠ a then Gx.up a else Gx.lw a

theorem Gx.ok_small : Gx.okT Gx.smallRows = true := by kernel_rfl
theorem Gx.ok_great : Gx.okT Gx.greatRows = true := by kernel_rfl

theorem Gx.find_mem {T : List Gx.Row} {a : Int} {r : Gx.Row} (h : Gx.find T a = some r) : r ∈ T ∧ (r.1 : Int) ≤ a ∧ a ≤ (r.2.1 : Int) := by
  have h1 := List.mem_of_find?_eq_some h
  have h2 := List.find?_some h
  simp at h2
  exact ⟨h1, h2.1, h2.2⟩
theorem Gx.all_find {T : List Gx.Row} {p : Gx.Row → Bool} (h : T.all p = true) {a : Int} {r : Gx.Row} (hf : Gx.find T a = some r) : p r = true :=
  List.all_eq_true.1 h r (Gx.find_mem hf).1

set_option maxRecDepth 100000 in
set_option maxHeartbeats 1000000 in
theorem distanceIn_any (T : List Gx.Row) (h : Gx.okT T = true) (hl : T.length ≤ 1000) (hv : T.all (fun r => decide (r.2.2 < 14) && decide (r.2.1 < 1048576)) = true) (a t : Int) (w : World) (hT : Tabs w) :
    Calls Tryd.prog 41 #[.string (Gx.str T), .int .i64 a, .int .i64 t] w fun e w' => e = .returned (.int .i64 (Gx.din T a t)) ∧ Below w.heap.size w w' := by
  have HF : Hid (∀ w, Calls Tryd.prog 48 #[.string (Gx.str T), .int .i64 a] w fun e w' => e = .returned (Gx.foundV (Gx.find T a)) ∧ Below w.heap.size w w') := fun w => find_any T h hl a w
  generalize Gx.str T = s at *
  cases hf : Gx.find T a with
  | none =>
    have HQ : Hid (Gx.din T a t = 0) := by unfold Hid Gx.din; rw [hf]
    rw [hf] at HF
    have HF' : Hid _ := HF
    clear hf HF
    go_enter Tryd.func41, Tryd.ntmps41
    go_wp2_with (go_at_call 48; refine (HF'.out _).mono ?_; rintro e w1 ⟨rfl, hb1⟩; unfold Gx.foundV)
    go_ret
    exact ⟨ret_int HQ.out.symm, ext_alloc hb1 _⟩
  | some r =>
    have HQ : Hid (Gx.din T a t = if r.2.2 = 0 ∧ (a - r.1) % 2 ≠ t then 0 else Gx.ds r.2.2) := by unfold Hid Gx.din; rw [hf]
    have hp := Gx.all_find hv hf
    simp at hp
    obtain ⟨_, hr1, hr2⟩ := Gx.find_mem hf
    rw [hf] at HF
    have HF' : Hid _ := HF
    clear hf HF hv
    obtain ⟨f, g, v⟩ := r
    simp only at hp hr1 hr2 HQ
    have HD : Hid (∀ w', Below w.heap.size w w' → w'.cell? ⟨1, v, none⟩ = some (.int .i64 (Gx.ds v))) := fun w' hb => (hT.ext hb).2.2 v (by omega)
    have hv14 : v < 14 := by omega
    have hg20 : g < 1048576 := by omega
    clear hp
    by_cases h0 : v = 0
    · subst h0
      have hs0 : (0 : Int) ≤ a - f := by omega
      have hs1 : a - f ≤ 1048576 := by omega
      by_cases ht : (a - f) % 2 = t
      · have bt : ((a - f) % 2 != t) = false := by simp [ht]
        go_enter Tryd.func41, Tryd.ntmps41
        go_wp2_with (go_at_call 48; refine (HF'.out _).mono ?_; rintro e w1 ⟨rfl, hb1⟩; unfold Gx.foundV; have hcd := HD.out w1 hb1; have hs1 : 1 < w1.heap.size := Nat.lt_of_lt_of_le hT.1 hb1.size; have HB1 : Hid (Below w.heap.size w w1) := hb1; clear hb1)
        go_ret
        exact ⟨ret_int (by rw [HQ.out, if_neg (by simp [ht])]), ext_alloc HB1.out _⟩
      · have bt : ((a - f) % 2 != t) = true := by simp [ht]
        go_enter Tryd.func41, Tryd.ntmps41
        go_wp2_with (go_at_call 48; refine (HF'.out _).mono ?_; rintro e w1 ⟨rfl, hb1⟩; unfold Gx.foundV; have hcd := HD.out w1 hb1; have hs1 : 1 < w1.heap.size := Nat.lt_of_lt_of_le hT.1 hb1.size; have HB1 : Hid (Below w.heap.size w w1) := hb1; clear hb1)
        go_ret
        exact ⟨ret_int (by rw [HQ.out, if_pos (by simp [ht])]), ext_alloc HB1.out _⟩
    · have b0 : ((v : Int) == 0) = false := by simp [h0]
      go_enter Tryd.func41, Tryd.ntmps41
      go_wp2_with (go_at_call 48; refine (HF'.out _).mono ?_; rintro e w1 ⟨rfl, hb1⟩; unfold Gx.foundV; have hcd := HD.out w1 hb1; have hs1 : 1 < w1.heap.size := Nat.lt_of_lt_of_le hT.1 hb1.size; have HB1 : Hid (Below w.heap.size w w1) := hb1; clear hb1)
      go_ret
      exact ⟨ret_int (by rw [HQ.out, if_neg (by simp [h0])]), ext_alloc HB1.out _⟩

theorem Gx.ds_bd (i : Nat) : -128 ≤ Gx.ds i ∧ Gx.ds i ≤ 128 := by
  by_cases h : i < 14
  · have : ∀ i, i < 14 → -128 ≤ Gx.ds i ∧ Gx.ds i ≤ 128 := by decide
    exact this i h
  · unfold Gx.ds
    rw [List.getD_eq_getElem?_getD, List.getElem?_eq_none (by simp [Gx.dist]; omega)]
    simp

theorem Gx.ubd_bd (a : Int) : -128 ≤ Gx.din Gx.smallRows a 1 ∧ Gx.din Gx.smallRows a 1 ≤ 128 ∧ (Gx.din Gx.smallRows a 1 ≠ 0 → 0 ≤ a ∧ a ≤ 1048576) := by
  unfold Gx.din
  cases hf : Gx.find Gx.smallRows a with
  | none => simp
  | some r =>
    have hp := Gx.all_find (p := fun r => decide (r.2.2 < 14) && decide (r.2.1 < 1048576)) (by decide +kernel) hf
    simp at hp
    obtain ⟨_, h1, h2⟩ := Gx.find_mem hf
    have hd := Gx.ds_bd r.2.2
    simp only
    split
    · simp
    · exact ⟨hd.1, hd.2, fun _ => by omega⟩

set_option maxRecDepth 100000 in
theorem Upper_any (a : Int) (h1 : -9223372036854775808 ≤ a) (h2 : a ≤ 9223372036854775807) (w : World) (hT : Tabs w) : Calls Tryd.prog 30 #[.int .i64 a] w fun e w' => e = .returned (.int .i64 (Gx.up a)) ∧ Below w.heap.size w w' := by
  refine calls_of_wp Tryd.func30 rfl ?_
  generalize hL : Value.string _ = v
  have HF : Hid (∀ w, Tabs w → Calls Tryd.prog 41 #[v, .int .i64 a, .int .i64 1] w fun e w' => e = .returned (.int .i64 (Gx.din Gx.smallRows a 1)) ∧ Below w.heap.size w w') := by
    have hv : v = .string (Gx.str Gx.smallRows) := by rw [← hL]; kernel_rfl
    intro w hT
    rw [hv]
    exact distanceIn_any _ Gx.ok_small (by decide) (by decide +kernel) a 1 w hT
  clear hL
  simp only [Tryd.ntmps30, List.size_toArray, List.length_cons, List.length_nil, Nat.reduceAdd, Nat.reduceSub, Array.replicate_succ,
     Array.replicate_zero, List.push_toArray, List.append_toArray, List.nil_append, List.cons_append]
  have HO : Hid (∀ w, Tabs w → Calls Tryd.prog 40 #[.int .i64 a, .bool false] w fun e w' => e = .returned (.tuple #[.int .i64 (Gx.one a false).1, .bool (Gx.one a false).2]) ∧ w' = w) := fun w hT => turnOneWay_any a false w hT
  have HQ : Hid (Gx.up a = if (Gx.one a false).2 then (Gx.one a false).1 else a - Gx.din Gx.smallRows a 1) := rfl
  have hbd := Gx.ubd_bd a
  generalize Gx.din Gx.smallRows a 1 = d at *
  generalize Gx.one a false = o at *
  obtain ⟨x, ok⟩ := o
  have HT : Hid (Tabs w) := hT
  clear hT
  cases ok with
  | true =>
    go_wp2_with (go_at_call 40; refine (HO.out _ HT.out).mono ?_; rintro e w1 ⟨rfl, rfl⟩)
    go_ret
    exact ⟨ret_int HQ.out.symm, Below.refl _ _⟩
  | false =>
    have hr : -9223372036854775808 ≤ a - d ∧ a - d ≤ 9223372036854775807 := by omega
    go_wp2_with fail
    refine (HO.out _ HT.out).mono ?_
    rintro e w1 ⟨rfl, hw1⟩
    obtain rfl : w = w1 := hw1.symm
    go_wp2_with fail
    refine (HF.out _ HT.out).mono ?_
    rintro e w2 ⟨rfl, hb2⟩
    go_wp2_with fail
    go_ret
    exact ⟨ret_int HQ.out.symm, hb2⟩

theorem Gx.lbd_bd (a : Int) : -128 ≤ Gx.din Gx.greatRows a 0 ∧ Gx.din Gx.greatRows a 0 ≤ 128 ∧ (Gx.din Gx.greatRows a 0 ≠ 0 → 0 ≤ a ∧ a ≤ 1048576) := by
  unfold Gx.din
  cases hf : Gx.find Gx.greatRows a with
  | none => simp
  | some r =>
    have hp := Gx.all_find (p := fun r => decide (r.2.2 < 14) && decide (r.2.1 < 1048576)) (by decide +kernel) hf
    simp at hp
    obtain ⟨_, h1, h2⟩ := Gx.find_mem hf
    have hd := Gx.ds_bd r.2.2
    simp only
    split
    · simp
    · exact ⟨hd.1, hd.2, fun _ => by omega⟩

set_option maxRecDepth 100000 in
theorem Lower_any (a : Int) (h1 : -9223372036854775808 ≤ a) (h2 : a ≤ 9223372036854775807) (w : World) (hT : Tabs w) : Calls Tryd.prog 31 #[.int .i64 a] w fun e w' => e = .returned (.int .i64 (Gx.lw a)) ∧ Below w.heap.size w w' := by
  refine calls_of_wp Tryd.func31 rfl ?_
  generalize hL : Value.string _ = v
  have HF : Hid (∀ w, Tabs w → Calls Tryd.prog 41 #[v, .int .i64 a, .int .i64 0] w fun e w' => e = .returned (.int .i64 (Gx.din Gx.greatRows a 0)) ∧ Below w.heap.size w w') := by
    have hv : v = .string (Gx.str Gx.greatRows) := by rw [← hL]; kernel_rfl
    intro w hT
    rw [hv]
    exact distanceIn_any _ Gx.ok_great (by decide) (by decide +kernel) a 0 w hT
  clear hL
  simp only [Tryd.ntmps31, List.size_toArray, List.length_cons, List.length_nil, Nat.reduceAdd, Nat.reduceSub, Array.replicate_succ,
     Array.replicate_zero, List.push_toArray, List.append_toArray, List.nil_append, List.cons_append]
  have HO : Hid (∀ w, Tabs w → Calls Tryd.prog 40 #[.int .i64 a, .bool true] w fun e w' => e = .returned (.tuple #[.int .i64 (Gx.one a true).1, .bool (Gx.one a true).2]) ∧ w' = w) := fun w hT => turnOneWay_any a true w hT
  have HQ : Hid (Gx.lw a = if (Gx.one a true).2 then (Gx.one a true).1 else a + Gx.din Gx.greatRows a 0) := rfl
  have hbd := Gx.lbd_bd a
  generalize Gx.din Gx.greatRows a 0 = d at *
  generalize Gx.one a true = o at *
  obtain ⟨x, ok⟩ := o
  have HT : Hid (Tabs w) := hT
  clear hT
  cases ok with
  | true =>
    go_wp2_with (go_at_call 40; refine (HO.out _ HT.out).mono ?_; rintro e w1 ⟨rfl, rfl⟩)
    go_ret
    exact ⟨ret_int HQ.out.symm, Below.refl _ _⟩
  | false =>
    have hr : -9223372036854775808 ≤ a + d ∧ a + d ≤ 9223372036854775807 := by omega
    go_wp2_with fail
    refine (HO.out _ HT.out).mono ?_
    rintro e w1 ⟨rfl, hw1⟩
    obtain rfl : w = w1 := hw1.symm
    go_wp2_with fail
    refine (HF.out _ HT.out).mono ?_
    rintro e w2 ⟨rfl, hb2⟩
    go_wp2_with fail
    go_ret
    exact ⟨ret_int HQ.out.symm, hb2⟩
end Go.Proofs.YtipnifenahhkoaaDoor
