/- stands, oneCluster. -/
import Derived.Test.YtahjjpleceppaaaKept2
namespace Go.Proofs.Ytahjjpleceppaaa
open Go.RowKit

/-- A held list, as its three cells. -/
abbrev Hd := Value × Value × Int
def Hd.cells (h : Hd) : List Value := [h.1, h.2.1, .int .i64 h.2.2]
def Hd.flat (hs : List Hd) : List Value := hs.flatMap Hd.cells
theorem Hd.flat_len (hs : List Hd) : (Hd.flat hs).length = hs.length * 3 := by
  induction hs with
  | nil => rfl
  | cons h t ih => simp only [Hd.flat, List.flatMap_cons, List.length_append] at *; rw [ih]; simp [Hd.cells]; omega
theorem Hd.flat_at (hs : List Hd) (i : Nat) (hi : i < hs.length) (j : Nat) (hj : j < 3) : (Hd.flat hs)[i * 3 + j]? = (Hd.cells hs[i])[j]? := by
  induction hs generalizing i with
  | nil => simp at hi
  | cons h t ih =>
    simp only [Hd.flat, List.flatMap_cons]
    cases i with
    | zero => rw [List.getElem?_append_left (by simp [Hd.cells]; omega)]; simp
    | succ i =>
      rw [List.getElem?_append_right (by simp [Hd.cells]; omega), show (i + 1) * 3 + j - (Hd.cells h).length = i * 3 + j from by simp [Hd.cells]; omega]
      exact ih i (by simpa using hi)
theorem Hd.flat_snoc (hs : List Hd) (h : Hd) : Hd.flat (hs ++ [h]) = Hd.flat hs ++ Hd.cells h := by simp [Hd.flat]

theorem AllM.form {w : World} {v : Value} {m : Int} (h : AllM w v m) : ∃ ao n c, v = .slice ao n c := by
  obtain ⟨L, hr, _⟩ := h
  obtain ⟨ao, c, h⟩ := hr.form
  exact ⟨ao, _, c, h⟩
theorem AllM.ext {w w' : World} {v : Value} {m : Int} (h : AllM w v m) (hb : Below w.heap.size w w') : AllM w' v m := by
  obtain ⟨L, hr, h2⟩ := h
  exact ⟨L, hr.ext hb, h2⟩
/-- The held lists lie in vH, and each is full of its mark. -/
def HeldIn (w : World) (B : Nat) (vH : Value) (hs : List Hd) : Prop := w.ownsRow B 39 3 vH hs.length (Hd.flat hs) ∧ ∀ h ∈ hs, AllM w h.1 h.2.2 ∧ AllM w h.2.1 h.2.2

set_option maxRecDepth 100000 in
set_option maxHeartbeats 1000000 in
theorem stands_any (vH : Value) (B : Nat) (hs : List Hd) (w : World) (h : HeldIn w B vH hs) :
    Calls Try.prog 35 #[vH] w fun e w' => e = .returned (.bool true) ∧ Below w.heap.size w w' := by
  obtain ⟨hrow, hall⟩ := h
  have HALL : Hid (∀ h ∈ hs, AllM w h.1 h.2.2 ∧ AllM w h.2.1 h.2.2) := hall
  have hform : ∃ ao cap, vH = .slice ao hs.length cap ∧ hs.length ≤ cap ∧ cap ≤ 9223372036854775807 ∧ (0 < hs.length → ∃ g, ao = some ⟨g, 0, none⟩ ∧ g < w.heap.size ∧ ∀ i, i < hs.length → ∀ j, j < 3 → w.cell? ⟨g, i * 3 + j, none⟩ = (Hd.flat hs)[i * 3 + j]?) := by
    have hrow' := hrow
    obtain ⟨h1, h2⟩ := hrow
    rcases h2 with ⟨hv, h0⟩ | ⟨g', cap', cur, hv, hb, hg, hn, hc, hs', ht⟩
    · exact ⟨none, 0, by rw [hv, h0], by omega, by omega, fun h => by omega⟩
    · subst hv
      exact ⟨_, cap', rfl, hn, hc, fun _ => ⟨g', rfl, (Array.getElem?_eq_some_iff.1 hg).1, fun i hi j hj => hrow'.cellAt (i * 3 + j) (by omega)⟩⟩
  obtain ⟨ao, cap, rfl, hl, hm, hc⟩ := hform
  have HC : Hid (0 < hs.length → ∃ g, ao = some ⟨g, 0, none⟩ ∧ g < w.heap.size ∧ ∀ i, i < hs.length → ∀ j, j < 3 → w.cell? ⟨g, i * 3 + j, none⟩ = (Hd.flat hs)[i * 3 + j]?) := hc
  clear hrow hall hc
  go_enter Try.func35, Try.ntmps35
  go_wp2_with fail
  go_loopw [3] (fun i wr => ∃ k : Nat, k ≤ hs.length ∧ i = .int .i64 k ∧ Below w.heap.size w wr) (fun i _ => hs.length - (intOf i).toNat)
  case atStart => exact ⟨0, Nat.zero_le _, rfl, Below.refl _ _⟩
  case round =>
    obtain ⟨k, hk, rfl, hbw⟩ := hrel
    have HW : Hid (Below w.heap.size w wr) := hbw
    by_cases hlt : k < hs.length
    · obtain ⟨g, rfl, hgl, hcell⟩ := HC.out (by omega)
      obtain ⟨m1, m2⟩ := HALL.out hs[k] (List.getElem_mem hlt)
      obtain ⟨d1, n1, e1, hf1⟩ := m1.form
      obtain ⟨d2, n2, e2, hf2⟩ := m2.form
      rw [hf1] at m1
      rw [hf2] at m2
      have c0 : wr.cell? ⟨g, k * 3, none⟩ = some (.slice d1 n1 e1) := by
        have := hcell k hlt 0 (by omega)
        rw [Hd.flat_at hs k hlt 0 (by omega), Nat.add_zero] at this
        rw [hbw.cell (p := ⟨g, k * 3, none⟩) hgl, this, ← hf1]; rfl
      have c1 : wr.cell? ⟨g, k * 3 + 1, none⟩ = some (.slice d2 n2 e2) := by
        have := hcell k hlt 1 (by omega)
        rw [Hd.flat_at hs k hlt 1 (by omega)] at this
        rw [hbw.cell (p := ⟨g, k * 3 + 1, none⟩) hgl, this, ← hf2]; rfl
      have c2 : wr.cell? ⟨g, k * 3 + 2, none⟩ = some (.int .i64 hs[k].2.2) := by
        have := hcell k hlt 2 (by omega)
        rw [Hd.flat_at hs k hlt 2 (by omega)] at this
        rw [hbw.cell (p := ⟨g, k * 3 + 2, none⟩) hgl, this]; rfl
      have M1 : Hid (∀ w', Below w.heap.size w w' → Calls Try.prog 54 #[.slice d1 n1 e1, .int .i64 hs[k].2.2] w' fun e w'' => e = .returned (.bool true) ∧ w'' = w') := fun w' hw => all_any _ _ w' (m1.ext hw)
      have M2 : Hid (∀ w', Below w.heap.size w w' → Calls Try.prog 54 #[.slice d2 n2 e2, .int .i64 hs[k].2.2] w' fun e w'' => e = .returned (.bool true) ∧ w'' = w') := fun w' hw => all_any _ _ w' (m2.ext hw)
      clear hcell m1 m2 hf1 hf2 hbw
      generalize hs[k].2.2 = mk at *
      have HWA : Hid (Below w.heap.size w (wr.alloc (.cells #[.slice d1 n1 e1, .slice d2 n2 e2, .int .i64 mk] 39))) := ext_alloc HW.out _
      go_wp2_with (first | (go_at_call_of 54 (Value.slice d1 n1 e1); refine (M1.out _ HWA.out).mono ?_; rintro e w1 ⟨rfl, hw1⟩; subst hw1) | (go_at_call_of 54 (Value.slice d2 n2 e2); refine (M2.out _ HWA.out).mono ?_; rintro e w1 ⟨rfl, hw1⟩; subst hw1))
      go_roundw
      case rel => exact ⟨k + 1, by omega, by go_num, HWA.out⟩
      case measure => simp [intOf]; omega
    · clear HC
      go_wp2
      go_ret
      exact ⟨rfl, HW.out⟩

/-- A row of accents is one cluster. -/
def Cl.acc (n : Nat) : List Int := List.replicate n 769
theorem Cl.acc_at (n i : Nat) (h : i < n) : Cl.at (Cl.acc n) i = 769 := by unfold Cl.at Cl.acc; simp [h]
theorem Gx.cls_acc : Gx.cls 769 = 4 := by decide +kernel
theorem Cl.acc_jn (n i : Nat) (h0 : 0 < i) (h : i < n) : Cl.jn (Cl.acc n) i = true := by
  unfold Cl.jn Cl.J
  rw [Cl.acc_at n i h, Cl.acc_at n (i - 1) (by omega), Gx.cls_acc]
  unfold Cl.JF
  rw [if_neg (by omega), if_neg (by decide), if_neg (by decide)]
  rfl
theorem Cl.acc_len (n : Nat) : (Cl.acc n).length = n := by simp [Cl.acc]
theorem Cl.acc_up (n : Nat) (k : Nat) (h0 : 0 < k) : Cl.up (Cl.acc n) k = n := by
  rcases Nat.lt_or_ge k n with h | h
  · obtain ⟨u1, u2, u3, u4⟩ := Cl.up_spec (Cl.acc n) _ k rfl h0 (by rw [Cl.acc_len]; omega)
    rw [Cl.acc_len] at u2
    rcases Nat.eq_or_lt_of_le u2 with e | e
    · exact e
    · rw [Cl.isB_mid _ _ (by omega) (by rw [Cl.acc_len]; exact e), Cl.acc_jn n _ (by omega) e] at u3
      cases u3
  · rw [Cl.up_end _ _ (by rw [Cl.acc_len]; exact h), Cl.acc_len]
theorem Cl.acc_cnt (n : Nat) (h : 0 < n) : Cl.cnt (Cl.acc n) n = 1 := by
  have := Cl.cnt_up (Cl.acc n) 0 (by rw [Cl.acc_len]; exact h)
  rwa [Nat.zero_add, Cl.acc_up n 1 (by omega), Cl.cnt_zero] at this
theorem Cl.acc_dn (n k : Nat) (h : k < n) : Cl.dn (Cl.acc n) k = 0 := by
  induction k with
  | zero => rfl
  | succ k ih => rw [Cl.dn_no _ k (Cl.acc_jn n (k + 1) (by omega) h)]; exact ih (by omega)
theorem Cl.acc_cnt1 (n k : Nat) (h : k < n) : Cl.cnt (Cl.acc n) k = 0 := by
  have := Cl.cnt_gap (Cl.acc n) 0 k (Nat.zero_le _) (fun j h1 h2 => by rw [Cl.isB_mid _ j h1 (by rw [Cl.acc_len]; omega), Cl.acc_jn n j h1 (by omega)]; rfl)
  rwa [Cl.cnt_zero] at this

set_option maxRecDepth 100000 in
set_option maxHeartbeats 2000000 in
theorem oneCluster_any (v : Value) (n : Nat) (w : World) (h : Rd .i64 w v (Cl.acc n)) (hz : n * 8 + 8 ≤ 140737488355328) :
    Calls Try.prog 36 #[v] w fun e w' => e = .returned (.bool true) ∧ Below w.heap.size w w' := by
  have hl := Cl.acc_len n
  have HR : Hid (Rd .i64 w v (Cl.acc n)) := h
  obtain ⟨ao, cap, hv⟩ := h.form
  rw [hl] at hv
  subst hv
  have R : Hid (∀ w', Below w.heap.size w w' → Rd .i64 w' (.slice ao n cap) (Cl.acc n)) := fun w' hw => HR.out.ext hw
  clear h HR
  by_cases h0 : n = 0
  · subst h0
    clear R
    go_enter Try.func36, Try.ntmps36
    go_wp2
    go_ret
    exact ⟨rfl, Below.refl _ _⟩
  have K1 : Hid (∀ w', Below w.heap.size w w' → Calls Try.prog 22 #[.slice ao n cap] w' fun e w'' => e = .returned (.int .i64 1) ∧ Below w.heap.size w w'') := fun w' hw => by
    have := Count_any _ (Cl.acc n) w' (R.out w' hw)
    rw [hl, Cl.acc_cnt n (by omega)] at this
    exact this.mono fun _ _ ⟨e1, e2⟩ => ⟨e1, ext_trans hw e2⟩
  have K2 : Hid (∀ w', Below w.heap.size w w' → Calls Try.prog 16 #[.slice ao n cap] w' fun e w'' => (∃ d c, e = .returned (.slice d 2 c)) ∧ Below w.heap.size w w'') := fun w' hw => by
    refine (Breaks_any _ (Cl.acc n) w' (R.out w' hw) (by rw [hl]; exact hz)).mono fun _ _ ⟨v', e1, e2, e3⟩ => ⟨?_, ext_trans hw e3⟩
    obtain ⟨d, c, hf⟩ := e2.rd.form
    rw [Cl.bi_len, hl, Cl.acc_cnt n (by omega)] at hf
    exact ⟨d, c, by rw [e1, hf]⟩
  have K3 : Hid (∀ w', Below w.heap.size w w' → Calls Try.prog 29 #[.slice ao n cap, .int .i64 0] w' fun e w'' => e = .returned (.int .i64 n) ∧ Below w.heap.size w w'') := fun w' hw => by
    have := Next_any _ (Cl.acc n) 0 w' (R.out w' hw)
    have e : Cl.next (Cl.acc n) 0 = n := by unfold Cl.next; rw [if_neg (by omega), if_neg (by rw [hl]; omega)]; exact Cl.acc_up n _ (by omega)
    rw [e] at this
    exact this.mono fun _ _ ⟨e1, e2⟩ => ⟨e1, ext_trans hw e2⟩
  have K4 : Hid (∀ w', Below w.heap.size w w' → Calls Try.prog 30 #[.slice ao n cap, .int .i64 n] w' fun e w'' => e = .returned (.int .i64 0) ∧ Below w.heap.size w w'') := fun w' hw => by
    have := Prev_any _ (Cl.acc n) n w' (R.out w' hw)
    have e : Cl.prev (Cl.acc n) (n : Int) = 0 := by unfold Cl.prev; rw [if_neg (by omega), if_neg (by rw [hl]; omega)]; exact Cl.acc_dn n _ (by omega)
    rw [e] at this
    exact this.mono fun _ _ ⟨e1, e2⟩ => ⟨e1, ext_trans hw e2⟩
  have q0 : ((n : Int) == 0) = false := by rw [beq_eq_false_iff_ne]; omega
  have qn : ((n : Int) != (n : Int)) = false := by simp
  by_cases h1 : n = 1
  · subst h1
    clear R
    go_enter Try.func36, Try.ntmps36
    go_wp2_with (first | (go_at_call 22; refine (K1.out _ (Below.refl _ _)).mono ?_; rintro e w1 ⟨rfl, hb1⟩) | (go_at_call 16; refine (K2.out _ hb1).mono ?_; rintro e w2 ⟨⟨d, c, rfl⟩, hb2⟩) | (go_at_call 29; refine (K3.out _ hb2).mono ?_; rintro e w3 ⟨rfl, hb3⟩) | (go_at_call 30; refine (K4.out _ hb3).mono ?_; rintro e w4 ⟨rfl, hb4⟩))
    go_ret
    exact ⟨rfl, hb4⟩
  have K5 : Hid (∀ w', Below w.heap.size w w' → Calls Try.prog 23 #[.slice ao n cap, .int .i64 1] w' fun e w'' => e = .returned (.bool false) ∧ Below w.heap.size w w'') := fun w' hw => by
    have := IsBreak_any _ (Cl.acc n) 1 w' (R.out w' hw)
    have e : Cl.isBi (Cl.acc n) 1 = false := by
      have := Cl.isBi_nat (Cl.acc n) 1 (by rw [hl]; omega)
      rw [Cl.isB_mid _ 1 (by omega) (by rw [hl]; omega), Cl.acc_jn n 1 (by omega) (by omega)] at this
      exact this
    rw [e] at this
    exact this.mono fun _ _ ⟨e1, e2⟩ => ⟨e1, ext_trans hw e2⟩
  have K6 : Hid (∀ w', Below w.heap.size w w' → Calls Try.prog 26 #[.slice ao n cap, .int .i64 1] w' fun e w'' => e = .returned (.int .i64 0) ∧ Below w.heap.size w w'') := fun w' hw => by
    have := Snap_any _ (Cl.acc n) 1 w' (R.out w' hw)
    have e : Cl.snap (Cl.acc n) 1 = 0 := by unfold Cl.snap; rw [if_neg (by omega), if_neg (by rw [hl]; omega)]; exact Cl.acc_dn n _ (by omega)
    rw [e] at this
    exact this.mono fun _ _ ⟨e1, e2⟩ => ⟨e1, ext_trans hw e2⟩
  have K7 : Hid (∀ w', Below w.heap.size w w' → Calls Try.prog 24 #[.slice ao n cap, .int .i64 1] w' fun e w'' => e = .returned (.int .i64 0) ∧ Below w.heap.size w w'') := fun w' hw => by
    have := Column_any _ (Cl.acc n) 1 w' (R.out w' hw)
    have e : Cl.col (Cl.acc n) 1 = 0 := by
      have := Cl.col_nat (Cl.acc n) 1 (by rw [hl]; omega)
      rw [Cl.acc_cnt1 n 1 (by omega)] at this
      exact this
    rw [e] at this
    exact this.mono fun _ _ ⟨e1, e2⟩ => ⟨e1, ext_trans hw e2⟩
  have K8 : Hid (∀ w', Below w.heap.size w w' → Calls Try.prog 25 #[.slice ao n cap, .int .i64 1] w' fun e w'' => e = .returned (.int .i64 n) ∧ Below w.heap.size w w'') := fun w' hw => by
    have := Offset_any _ (Cl.acc n) 1 w' (R.out w' hw)
    have e : Cl.ofs (Cl.acc n) 1 = n := by
      have h2 := Cl.bs_at (Cl.acc n) n (by rw [hl]; omega) (by have := Cl.isB_end (Cl.acc n); rwa [hl] at this)
      rw [Cl.acc_cnt n (by omega)] at h2
      unfold Cl.ofs
      rw [if_neg (by omega), show (1 : Int).toNat = 1 from rfl, h2]; rfl
    rw [e] at this
    exact this.mono fun _ _ ⟨e1, e2⟩ => ⟨e1, ext_trans hw e2⟩
  have q2 : decide ((n : Int) < 2) = false := by simp; omega
  have qe : ((n : Int) == (n : Int)) = true := by simp
  clear R hl
  go_enter Try.func36, Try.ntmps36
  go_wp2_with (first | (go_at_call 22; refine (K1.out _ (Below.refl _ _)).mono ?_; rintro e w1 ⟨rfl, hb1⟩) | (go_at_call 16; refine (K2.out _ hb1).mono ?_; rintro e w2 ⟨⟨d, c, rfl⟩, hb2⟩) | (go_at_call 29; refine (K3.out _ hb2).mono ?_; rintro e w3 ⟨rfl, hb3⟩) | (go_at_call 30; refine (K4.out _ hb3).mono ?_; rintro e w4 ⟨rfl, hb4⟩) | (go_at_call 23; refine (K5.out _ hb4).mono ?_; rintro e w5 ⟨rfl, hb5⟩) | (go_at_call 26; refine (K6.out _ hb5).mono ?_; rintro e w6 ⟨rfl, hb6⟩) | (go_at_call 24; refine (K7.out _ hb6).mono ?_; rintro e w7 ⟨rfl, hb7⟩) | (go_at_call 25; refine (K8.out _ hb7).mono ?_; rintro e w8 ⟨rfl, hb8⟩))
  go_ret
  exact ⟨rfl, hb8⟩
end Go.Proofs.Ytahjjpleceppaaa
