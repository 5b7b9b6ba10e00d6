/- find: the row that holds an atom. -/
import Derived.Test.YtipnifenahhkoaaDoorNum
namespace Go.Proofs.YtipnifenahhkoaaDoor
open Go.RowKit

/-- The rows are sorted, their ranges do not overlap, their numbers fit. -/
def Gx.okT : List Gx.Row → Bool
  | [] => true
  | [r] => decide (r.1 ≤ r.2.1) && decide (r.2.1 < 1048576) && decide (r.2.2 < 16)
  | r :: s :: T => decide (r.1 ≤ r.2.1) && decide (r.2.1 < s.1) && decide (r.2.2 < 16) && Gx.okT (s :: T)

/-- The row that holds an atom. -/
def Gx.find (T : List Gx.Row) (a : Int) : Option Gx.Row := T.find? fun r => decide ((r.1 : Int) ≤ a) && decide (a ≤ (r.2.1 : Int))

theorem Gx.okT_tail {r : Gx.Row} {T : List Gx.Row} (h : Gx.okT (r :: T) = true) : Gx.okT T = true := by
  cases T with
  | nil => rfl
  | cons s T => simp [Gx.okT] at h; exact h.2

theorem Gx.okT_head {r : Gx.Row} {T : List Gx.Row} (h : Gx.okT (r :: T) = true) : r.1 ≤ r.2.1 ∧ r.2.1 < 1048576 ∧ r.2.2 < 16 ∧ ∀ s ∈ T, r.2.1 < s.1 := by
  induction T generalizing r with
  | nil => simp [Gx.okT] at h; simp; omega
  | cons s T ih =>
    have h' := h
    simp [Gx.okT] at h
    have := ih (Gx.okT_tail h')
    refine ⟨h.1.1.1, by omega, h.1.2, ?_⟩
    intro x hx
    rcases List.mem_cons.1 hx with rfl | hx
    · exact h.1.1.2
    · have := this.2.2.2 x hx
      omega

theorem Gx.okT_row {T : List Gx.Row} (h : Gx.okT T = true) (i : Nat) (hi : i < T.length) : T[i].1 ≤ T[i].2.1 ∧ T[i].2.1 < 1048576 ∧ T[i].2.2 < 16 := by
  induction T generalizing i with
  | nil => simp at hi
  | cons r T ih =>
    cases i with
    | zero => have := Gx.okT_head h; exact ⟨this.1, this.2.1, this.2.2.1⟩
    | succ i => exact ih (Gx.okT_tail h) i (by simpa using hi)

theorem Gx.okT_rise {T : List Gx.Row} (h : Gx.okT T = true) (i j : Nat) (hi : i < T.length) (hj : j < T.length) (hij : i ≤ j) : (T[i].1 : Int) ≤ (T[j].1 : Int) := by
  induction T generalizing i j with
  | nil => simp at hi
  | cons r T ih =>
    cases i with
    | zero =>
      cases j with
      | zero => exact Int.le_refl _
      | succ j =>
        have hh := Gx.okT_head h
        have hjT : j < T.length := by simp at hj; omega
        have := hh.2.2.2 T[j] (List.getElem_mem _)
        simp
        omega
    | succ i =>
      cases j with
      | zero => omega
      | succ j => exact ih (Gx.okT_tail h) i j (by simpa using hi) (by simpa using hj) (by omega)

/-- Behind the search: k rows begin at the atom or ahead of it, the others behind it. -/
theorem Gx.find_at (T : List Gx.Row) (h : Gx.okT T = true) (a : Int) (k : Nat) (hk : k ≤ T.length) (h1 : ∀ i (hi : i < T.length), i < k → (T[i].1 : Int) ≤ a) (h2 : ∀ i (hi : i < T.length), k ≤ i → a < (T[i].1 : Int)) :
    Gx.find T a = if hk0 : k = 0 then none else if a ≤ (T[k - 1].2.1 : Int) then some T[k - 1] else none := by
  induction T generalizing k with
  | nil => simp at hk; subst hk; rfl
  | cons r T ih =>
    have hh := Gx.okT_head h
    cases k with
    | zero =>
      have := h2 0 (by simp) (by omega)
      have hr : ¬ (r.1 : Int) ≤ a := by simpa using this
      have := ih (Gx.okT_tail h) 0 (by omega) (fun i hi h => by omega) (fun i hi _ => h2 (i + 1) (by simpa using hi) (by omega))
      simp only [Gx.find, List.find?_cons] at this ⊢
      simpa [hr] using this
    | succ k =>
      have hr : (r.1 : Int) ≤ a := h1 0 (by simp) (by omega)
      have := ih (Gx.okT_tail h) k (by simpa using hk) (fun i hi hik => h1 (i + 1) (by simpa using hi) (by omega)) (fun i hi hik => h2 (i + 1) (by simpa using hi) (by omega))
      cases k with
      | zero =>
        simp only [Gx.find, List.find?_cons] at this ⊢
        by_cases ht : a ≤ (r.2.1 : Int)
        · simp [hr, ht]
        · simp [ht]; simpa using this
      | succ k =>
        have hb := h1 (k + 1) (by omega) (by omega)
        have hkT : k < T.length := by simp at hk; omega
        have hlt := hh.2.2.2 T[k] (List.getElem_mem _)
        have ht : ¬ a ≤ (r.2.1 : Int) := by
          have : (r.2.1 : Int) < (T[k].1 : Int) := by exact_mod_cast hlt
          simp at hb
          omega
        simp only [Gx.find, List.find?_cons] at this ⊢
        simp [ht]
        simpa using this

theorem below_of_new {w w' : World} {o : Obj} (h : Below (w.heap.size + 1) (w.alloc o) w') : Below w.heap.size w w' :=
  ((Below.refl w.heap.size w).alloc (Nat.le_refl _) o).trans (h.mono (by omega))

/-- What find answers. -/
def Gx.foundV (o : Option Gx.Row) : Value :=
  match o with
  | some r => .tuple #[.agg #[.int .i64 r.1, .int .i64 r.2.1, .int .i64 r.2.2], .bool true]
  | none => .tuple #[.agg #[.int .i64 0, .int .i64 0, .int .i64 0], .bool false]

set_option maxRecDepth 100000 in
theorem find_any (T : List Gx.Row) (h : Gx.okT T = true) (hl : T.length ≤ 1000) (a : Int) (w : World) :
    Calls Tryd.prog 48 #[.string (Gx.str T), .int .i64 a] w fun e w' => e = .returned (Gx.foundV (Gx.find T a)) ∧ Below w.heap.size w w' := by
  have hs := Gx.str_size T
  have HR : Hid (∀ i (hi : i < T.length) w, Calls Tryd.prog 51 #[.string (Gx.str T), .int .i64 i] w fun e w' => e = .returned (.string (Gx.rowS T[i])) ∧ w' = w) := fun i hi w => rowText_any T i hi hl w
  have HO := Gx.okT_row h
  have HB : Hid (∀ i (hi : i < T.length) w, Calls Tryd.prog 50 #[.string (Gx.rowS T[i])] w fun e w' => e = .returned (.int .i64 T[i].1) ∧ Below w.heap.size w w') := by
    intro i hi w
    refine (beginning_any T[i] (by have := HO i hi; omega) w).mono ?_
    rintro e w' ⟨rfl, rfl⟩
    exact ⟨rfl, ext_alloc (Below.refl _ _) _⟩
  have HD : Hid (∀ i (hi : i < T.length) w, Calls Tryd.prog 52 #[.string (Gx.rowS T[i])] w fun e w' => e = .returned (.agg #[.int .i64 T[i].1, .int .i64 T[i].2.1, .int .i64 T[i].2.2]) ∧ Below w.heap.size w w') := by
    intro i hi w
    have := HO i hi
    exact readRow_any T[i] (by omega) (by omega) (by omega) w
  have HF : Hid (∀ k (hk : k ≤ T.length), (∀ i (hi : i < T.length), i < k → (T[i].1 : Int) ≤ a) → (∀ i (hi : i < T.length), k ≤ i → a < (T[i].1 : Int)) → Gx.find T a = if hk0 : k = 0 then none else if a ≤ (T[k - 1].2.1 : Int) then some T[k - 1] else none) := fun k hk h1 h2 => Gx.find_at T h a k hk h1 h2
  have HM : Hid (∀ i j (hi : i < T.length) (hj : j < T.length), i ≤ j → (T[i].1 : Int) ≤ (T[j].1 : Int)) := Gx.okT_rise h
  clear HO h
  generalize hst : Gx.str T = s at *
  clear hst
  have HE : ((s.size : Int) / 14) = (T.length : Int) := by rw [hs]; omega
  go_enter Tryd.func48, Tryd.ntmps48
  go_wp2_with fail
  go_loopw [6, 7] (fun l h wr => ∃ lo hi : Nat, lo ≤ hi ∧ hi ≤ T.length ∧ l = .int .i64 lo ∧ h = .int .i64 hi ∧ (∀ i (hi : i < T.length), i < lo → (T[i].1 : Int) ≤ a) ∧ (∀ i (hi' : i < T.length), hi ≤ i → a < (T[i].1 : Int)) ∧ Below (w.heap.size + 1) (w.alloc (.cells #[.int .i64 0, .int .i64 0, .int .i64 0] 69)) wr) (fun l h _ => (intOf h - intOf l).toNat)
  case atStart => exact ⟨0, T.length, Nat.zero_le _, Nat.le_refl _, rfl, rfl, fun i hi h => by omega, fun i hi h => by omega, Below.refl _ _⟩
  case round =>
    obtain ⟨lo, hi, hlh, hhn, rfl, rfl, hA, hZ, hb⟩ := hrel
    have HA : Hid (∀ i (hi : i < T.length), i < lo → (T[i].1 : Int) ≤ a) := hA
    have HZ : Hid (∀ i (hi' : i < T.length), hi ≤ i → a < (T[i].1 : Int)) := hZ
    have HW : Hid (Below (w.heap.size + 1) (w.alloc (.cells #[.int .i64 0, .int .i64 0, .int .i64 0] 69)) wr) := hb
    clear hA hZ hb
    by_cases hlt : lo < hi
    · have hm : (((lo : Int) + hi) / 2) = ((lo + hi) / 2 : Nat) := by omega
      have hml : lo ≤ (lo + hi) / 2 := by omega
      have hmh : (lo + hi) / 2 < hi := by omega
      generalize (lo + hi) / 2 = m at *
      have hmT : m < T.length := by omega
      by_cases hle : (T[m].1 : Int) ≤ a
      · go_wp2_with (first | (go_at_call 51; refine (HR.out m hmT _).mono ?_; rintro e w1 ⟨rfl, rfl⟩) | (go_at_call 50; refine (HB.out m hmT _).mono ?_; rintro e w1 ⟨rfl, hb1⟩))
        go_roundw
        case rel => exact ⟨m + 1, hi, by omega, hhn, by go_num, rfl, fun i hi' h => Int.le_trans (HM.out i m hi' hmT (by omega)) hle, HZ.out, HW.out.trans (hb1.mono (by have := HW.out.size; simpa using this))⟩
        case measure => simp [intOf]; omega
      · go_wp2_with (first | (go_at_call 51; refine (HR.out m hmT _).mono ?_; rintro e w1 ⟨rfl, rfl⟩) | (go_at_call 50; refine (HB.out m hmT _).mono ?_; rintro e w1 ⟨rfl, hb1⟩))
        go_roundw
        case rel => exact ⟨lo, m, by omega, by omega, rfl, rfl, HA.out, fun i hi' h => by have := HM.out m i hmT hi' h; omega, HW.out.trans (hb1.mono (by have := HW.out.size; simpa using this))⟩
        case measure => simp [intOf]; omega
    · have he : hi = lo := by omega
      subst he
      have HFn : Hid _ := HF.out hi hhn HA.out HZ.out
      have c0 : wr.cell? ⟨w.heap.size, 0, none⟩ = some (.int .i64 0) := (HW.out.cell (p := ⟨w.heap.size, 0, none⟩) (by simp)).trans (by simp)
      have c1 : wr.cell? ⟨w.heap.size, 1, none⟩ = some (.int .i64 0) := (HW.out.cell (p := ⟨w.heap.size, 1, none⟩) (by simp)).trans (by simp)
      have c2 : wr.cell? ⟨w.heap.size, 2, none⟩ = some (.int .i64 0) := (HW.out.cell (p := ⟨w.heap.size, 2, none⟩) (by simp)).trans (by simp)
      have f0 : wr.frozen? ⟨w.heap.size, 0, none⟩ = false := (HW.out.frozen (p := ⟨w.heap.size, 0, none⟩) (by simp)).trans (by simp)
      have f1 : wr.frozen? ⟨w.heap.size, 1, none⟩ = false := (HW.out.frozen (p := ⟨w.heap.size, 1, none⟩) (by simp)).trans (by simp)
      have f2 : wr.frozen? ⟨w.heap.size, 2, none⟩ = false := (HW.out.frozen (p := ⟨w.heap.size, 2, none⟩) (by simp)).trans (by simp)
      clear hlh hlt
      by_cases h0 : hi = 0
      · have e0 : ((hi : Int) == 0) = true := by simp [h0]
        have e1 : decide ((hi : Int) < hi) = false := by simp
        go_wp2_with fail
        have HN : Gx.find T a = none := by rw [HFn.out, dif_pos h0]
        rw [HN]
        (try simp only [Exit.inBlock, Exit.then])
        refine bodyPost_ret (v := Gx.foundV none) ?_ rfl ⟨rfl, ?_⟩
        · rw [results_cell_tmp rfl]
          go_simp
          rfl
        · exact Below.setCell (Below.setCell (Below.setCell (below_of_new HW.out) (Nat.le_refl _) _) (Nat.le_refl _) _) (Nat.le_refl _) _
      · have e0 : ((hi : Int) == 0) = false := by simp [h0]
        have e1 : decide ((hi : Int) < hi) = false := by simp
        have hk : hi - 1 < T.length := by omega
        have hk1 : ((hi : Int) - 1) = ((hi - 1 : Nat) : Int) := by omega
        have HFn' : Hid (Gx.find T a = if a ≤ (T[hi - 1].2.1 : Int) then some T[hi - 1] else none) := by unfold Hid; rw [HFn.out, dif_neg h0]
        have hfa : (T[hi - 1].1 : Int) ≤ a := HA.out (hi - 1) hk (by omega)
        clear HFn
        have HRk := HR.out (hi - 1) hk
        have HDk := HD.out (hi - 1) hk
        generalize T[hi - 1] = r at *
        have HRk' : Hid _ := HRk
        have HDk' : Hid _ := HDk
        clear HRk HDk HA HZ HF
        go_wp2_with fail
        refine (HRk'.out _).mono ?_
        rintro e w1 ⟨rfl, hw1⟩
        obtain rfl : wr = w1 := hw1.symm
        go_wp2_with fail
        refine (HDk'.out _).mono ?_
        rintro e w2 ⟨rfl, hb2⟩
        have HW2 : Hid (Below wr.heap.size wr w2) := hb2
        clear hb2
        go_wp2_with fail
        refine (holds_any _ _ _ _ _).mono ?_
        rintro e w3 ⟨rfl, hb3⟩
        have HW3 : Hid (Below (w.heap.size + 1) wr w3) := (HW2.out.trans (((Below.refl w2.heap.size w2).alloc (Nat.le_refl _) (.cells #[.int .i64 r.1, .int .i64 r.2.1, .int .i64 r.2.2] 69)).trans (hb3.mono (by simp))|>.mono HW2.out.size)).mono (by have := HW.out.size; simpa using this)
        have d0 : w3.cell? ⟨w2.heap.size, 0, none⟩ = some (.int .i64 r.1) := (hb3.cell (p := ⟨w2.heap.size, 0, none⟩) (by simp)).trans (by simp)
        have d1 : w3.cell? ⟨w2.heap.size, 1, none⟩ = some (.int .i64 r.2.1) := (hb3.cell (p := ⟨w2.heap.size, 1, none⟩) (by simp)).trans (by simp)
        have d2 : w3.cell? ⟨w2.heap.size, 2, none⟩ = some (.int .i64 r.2.2) := (hb3.cell (p := ⟨w2.heap.size, 2, none⟩) (by simp)).trans (by simp)
        have c0' : w3.cell? ⟨w.heap.size, 0, none⟩ = some (.int .i64 0) := (HW3.out.cell (p := ⟨w.heap.size, 0, none⟩) (by simp)).trans c0
        have c1' : w3.cell? ⟨w.heap.size, 1, none⟩ = some (.int .i64 0) := (HW3.out.cell (p := ⟨w.heap.size, 1, none⟩) (by simp)).trans c1
        have c2' : w3.cell? ⟨w.heap.size, 2, none⟩ = some (.int .i64 0) := (HW3.out.cell (p := ⟨w.heap.size, 2, none⟩) (by simp)).trans c2
        have f0' : w3.frozen? ⟨w.heap.size, 0, none⟩ = false := (HW3.out.frozen (p := ⟨w.heap.size, 0, none⟩) (by simp)).trans f0
        have f1' : w3.frozen? ⟨w.heap.size, 1, none⟩ = false := (HW3.out.frozen (p := ⟨w.heap.size, 1, none⟩) (by simp)).trans f1
        have f2' : w3.frozen? ⟨w.heap.size, 2, none⟩ = false := (HW3.out.frozen (p := ⟨w.heap.size, 2, none⟩) (by simp)).trans f2
        have HWW : Hid (Below w.heap.size w w3) := (below_of_new HW.out).trans (HW3.out.mono (Nat.le_succ _))
        clear hb3 c0 c1 c2 f0 f1 f2
        by_cases ht : a ≤ (r.2.1 : Int)
        · have hg : (decide ((r.1 : Int) ≤ a) && decide (a ≤ (r.2.1 : Int))) = true := by simp [hfa, ht]
          rw [hg]
          have HQ : Hid (Gx.find T a = some r) := by unfold Hid; rw [HFn'.out, if_pos ht]
          go_wp2_with fail
          rw [HQ.out]
          (try simp only [Exit.inBlock, Exit.then])
          refine bodyPost_ret (v := Gx.foundV (some r)) ?_ rfl ⟨rfl, ?_⟩
          · rw [results_cell_tmp rfl]
            go_simp
            rfl
          · exact Below.setCell (Below.setCell (Below.setCell HWW.out (Nat.le_refl _) _) (Nat.le_refl _) _) (Nat.le_refl _) _
        · have hg : (decide ((r.1 : Int) ≤ a) && decide (a ≤ (r.2.1 : Int))) = false := by simp [hfa, ht]
          rw [hg]
          have HQ : Hid (Gx.find T a = none) := by unfold Hid; rw [HFn'.out, if_neg ht]
          go_wp2_with fail
          rw [HQ.out]
          (try simp only [Exit.inBlock, Exit.then])
          refine bodyPost_ret (v := Gx.foundV none) ?_ rfl ⟨rfl, ?_⟩
          · rw [results_cell_tmp rfl]
            go_simp
            rfl
          · exact Below.setCell (Below.setCell (Below.setCell HWW.out (Nat.le_refl _) _) (Nat.le_refl _) _) (Nat.le_refl _) _
end Go.Proofs.YtipnifenahhkoaaDoor
