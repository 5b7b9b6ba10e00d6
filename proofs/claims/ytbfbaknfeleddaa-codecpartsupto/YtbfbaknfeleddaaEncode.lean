/- Encode: of the code, of the document's answer. -/
import Derived.Test.YtbfbaknfeleddaaPut
import Derived.Test.YtbfbaknfeleddaaDecode2
namespace Go.Proofs.Ytbfbaknfeleddaa
open Go.RowKit

/-- The place of the first atom that does not fit. -/
def Cx.bad (enc : Int) : Nat → List Int → Option Nat
  | _, [] => none
  | i, a :: l => if Cx.fits enc a = true then Cx.bad enc (i + 1) l else some i
def Cx.encB (enc : Int) (l : List Int) : List Int := l.flatMap (Cx.put enc)
/-- What Encode answers: the bytes, the place, the error. -/
def Cx.encR (enc : Int) (l : List Int) : List Int × Int × Int :=
  if Cx.known enc = true then (match Cx.bad enc 0 l with | some i => ([], (i : Int), 11) | none => (Cx.encB enc l, 0, 0)) else ([], 0, 10)

theorem Cx.bad_at (enc : Int) : ∀ (l : List Int) (i k : Nat), k < l.length → (∀ j, j < k → Cx.fits enc (l[j]?.getD 0) = true) → Cx.fits enc (l[k]?.getD 0) = false → Cx.bad enc i l = some (i + k) := by
  intro l
  induction l with
  | nil => intro i k hk; simp at hk
  | cons a l ih =>
    intro i k hk hj hf
    unfold Cx.bad
    cases k with
    | zero => simp at hf; simp [hf]
    | succ k =>
      have h0 := hj 0 (by omega)
      simp at h0
      rw [if_pos h0, ih (i + 1) k (by simpa using hk) (fun j hjk => by simpa using hj (j + 1) (by omega)) (by simpa using hf)]
      congr 1; omega
theorem Cx.bad_none (enc : Int) : ∀ (l : List Int) (i : Nat), (∀ j, j < l.length → Cx.fits enc (l[j]?.getD 0) = true) → Cx.bad enc i l = none := by
  intro l
  induction l with
  | nil => intro i _; rfl
  | cons a l ih =>
    intro i hj
    unfold Cx.bad
    have h0 := hj 0 (by simp)
    simp at h0
    rw [if_pos h0]
    exact ih (i + 1) (fun j hjk => by simpa using hj (j + 1) (by simpa using hjk))
theorem Cx.encB_len (enc : Int) (l : List Int) : (Cx.encB enc l).length ≤ 4 * l.length := by
  unfold Cx.encB
  induction l with
  | nil => simp
  | cons a l ih =>
    have := (Cx.put_len enc a).2
    simp only [List.flatMap_cons, List.length_append, List.length_cons]
    omega
theorem Cx.encB_succ (enc : Int) (l : List Int) (k : Nat) (h : k < l.length) : Cx.encB enc (l.take (k + 1)) = Cx.encB enc (l.take k) ++ Cx.put enc (l[k]?.getD 0) := by
  unfold Cx.encB
  rw [List.take_succ_eq_append_getElem h, List.flatMap_append]
  simp [h]
theorem Cx.encR_bad (enc : Int) (l : List Int) (k : Nat) (hk : Cx.known enc = true) (h1 : k < l.length) (h2 : ∀ j, j < k → Cx.fits enc (l[j]?.getD 0) = true) (h3 : Cx.fits enc (l[k]?.getD 0) = false) : Cx.encR enc l = ([], (k : Int), 11) := by
  unfold Cx.encR; rw [if_pos hk, Cx.bad_at enc l 0 k h1 h2 h3]; simp
theorem Cx.encR_all (enc : Int) (l : List Int) (hk : Cx.known enc = true) (h2 : ∀ j, j < l.length → Cx.fits enc (l[j]?.getD 0) = true) : Cx.encR enc l = (Cx.encB enc l, 0, 0) := by
  unfold Cx.encR; rw [if_pos hk, Cx.bad_none enc l 0 h2]
theorem Cx.encR_no (enc : Int) (l : List Int) (hk : Cx.known enc = false) : Cx.encR enc l = ([], 0, 10) := by
  unfold Cx.encR; rw [hk]; rfl

theorem m_put1 (w : World) : (method 239 99 (.agg #[]) "copyist/codec.put").run Try.prog w = .ok (116, .agg #[]) w := by kernel_rfl
theorem m_put2 (k : Int) (w : World) : (method 239 101 (.agg #[.int .i64 k]) "copyist/codec.put").run Try.prog w = .ok (126, .agg #[.int .i64 k]) w := by kernel_rfl
theorem m_put4 (w : World) : (method 239 102 (.agg #[]) "copyist/codec.put").run Try.prog w = .ok (138, .agg #[]) w := by kernel_rfl

theorem Cx.size_zero (enc a : Int) : (Cx.size enc a == 0) = !Cx.fits enc a := by
  have := Cx.put_len enc a
  unfold Cx.size
  cases h : Cx.fits enc a
  · simp
  · simp; intro h'; rw [h'] at this; simp at this

theorem sizeE_1 (a : Int) (w : World) : Calls Try.prog 117 #[.agg #[], .int .i64 a] w fun e w' => e = .returned (.int .i64 (Cx.size 1 a)) ∧ Below w.heap.size w w' := by rw [Cx.size1]; exact nsize_any a w
theorem sizeE_2 (a : Int) (w : World) : Calls Try.prog 127 #[.agg #[.int .i64 0], .int .i64 a] w fun e w' => e = .returned (.int .i64 (Cx.size 2 a)) ∧ Below w.heap.size w w' := by rw [Cx.sizeW _ _ (.inl rfl)]; exact wsize_any 0 a w
theorem sizeE_3 (a : Int) (w : World) : Calls Try.prog 127 #[.agg #[.int .i64 1], .int .i64 a] w fun e w' => e = .returned (.int .i64 (Cx.size 3 a)) ∧ Below w.heap.size w w' := by rw [Cx.sizeW _ _ (.inr rfl)]; exact wsize_any 1 a w
theorem sizeE_4 (a : Int) (w : World) : Calls Try.prog 139 #[.agg #[], .int .i64 a] w fun e w' => e = .returned (.int .i64 (Cx.size 4 a)) ∧ Below w.heap.size w w' := by rw [Cx.size4]; exact lsize_any a w

set_option maxRecDepth 100000 in
set_option maxHeartbeats 1000000 in
theorem Encode_1 (v : Value) (l : List Int) (w : World) (h : Rd .i64 w v l) (hz : l.length * 8 + 320 ≤ 140737488355328) :
    Calls Try.prog 31 #[.int .i64 1, v] w fun e w' => ∃ v', e = .returned (.tuple #[v', .int .i64 (Cx.encR 1 l).2.1, .int .i64 (Cx.encR 1 l).2.2]) ∧ w'.ownsRow w.heap.size 5 1 v' (Cx.encR 1 l).1.length ((Cx.encR 1 l).1.map (Value.int .u8)) ∧ Below w.heap.size w w' := by
  have hlen := h.len
  obtain ⟨ao, cap, rfl, hlc, hcm, hc⟩ := h
  have hms := m_size1
  have hmp := m_put1
  have HA : Hid ((∀ j, j < l.length → Cx.fits 1 (l[j]?.getD 0) = true) → Cx.encR 1 l = (Cx.encB 1 l, 0, 0)) := Cx.encR_all 1 l rfl
  have HF : Hid (∀ k, k < l.length → (∀ j, j < k → Cx.fits 1 (l[j]?.getD 0) = true) → Cx.fits 1 (l[k]?.getD 0) = false → Cx.encR 1 l = ([], (k : Int), 11)) := fun k => Cx.encR_bad 1 l k rfl
  clear hcm
  go_enter Try.func31, Try.ntmps31
  go_wp2_with (go_at_call 54; refine (coderOf_1 _).mono ?_; rintro e w0 ⟨rfl, rfl⟩)
  go_loopw [9, 21] (fun o i wr => ∃ k : Nat, k ≤ l.length ∧ i = .int .i64 k ∧ Hid (∀ j, j < k → Cx.fits 1 (l[j]?.getD 0) = true) ∧ wr.ownsRow w0.heap.size 5 1 o (Cx.encB 1 (l.take k)).length ((Cx.encB 1 (l.take k)).map (Value.int .u8)) ∧ Below w0.heap.size w0 wr) (fun _ i _ => l.length - (intOf i).toNat)
  case atStart => exact ⟨0, Nat.zero_le _, rfl, fun j hj => by omega, World.ownsRow_nil _ _ _ _, Below.refl _ _⟩
  case round =>
    obtain ⟨k, hk, rfl, HJ, hown, hbw⟩ := hrel
    by_cases hlt : k < l.length
    · obtain ⟨b, off, rfl, hbl, hcl⟩ := hc (List.length_pos_iff.1 (by omega))
      have hcx : wr.cell? ⟨b, off + k, none⟩ = some (.int .i64 (l[k]?.getD 0)) := (hbw.cell (p := ⟨b, off + k, none⟩) hbl).trans (hcl k hlt)
      have hel := Cx.encB_len 1 (l.take k)
      have htk : (l.take k).length = k := by rw [List.length_take]; omega
      have HS := Cx.encB_succ 1 l k hlt
      have HF' := HF.out k hlt HJ.out
      have hsz := Cx.size_zero 1 (l[k]?.getD 0)
      cases hf : Cx.fits 1 (l[k]?.getD 0)
      · rw [hf] at hsz
        have HT : Hid (Cx.encR 1 l = ([], (k : Int), 11)) := HF' hf
        generalize l[k]?.getD 0 = a at *
        clear hc hcl HS HF' HF HA hf
        go_wp2_with fail
        refine (sizeE_1 _ _).mono ?_
        rintro e w1 ⟨rfl, hb1⟩
        have HW1 : Hid (Below w0.heap.size w0 w1) := ext_trans hbw hb1
        clear hb1
        go_wp2_with fail
        go_ret3
        exact ⟨_, by rw [HT.out]; rfl, by rw [HT.out]; exact World.ownsRow_nil _ _ _ _, HW1.out⟩
      · rw [hf] at hsz
        have HX : Hid (∀ j, j < k + 1 → Cx.fits 1 (l[j]?.getD 0) = true) := fun j hj => by
          by_cases hjk : j = k
          · rw [hjk]; exact hf
          · exact HJ.out j (by omega)
        have HFT : Hid (Cx.fits 1 (l[k]?.getD 0) = true) := hf
        have HS' : Hid (Cx.encB 1 (l.take (k + 1)) = Cx.encB 1 (l.take k) ++ Cx.put 1 (l[k]?.getD 0)) := HS
        generalize l[k]?.getD 0 = a at *
        generalize Cx.encB 1 (l.take k) = xs at *
        clear hc hcl HS HF' HF HA hf HJ
        go_wp2_with fail
        refine (sizeE_1 _ _).mono ?_
        rintro e w1 ⟨rfl, hb1⟩
        have hbw1 : Below w0.heap.size w0 w1 := ext_trans hbw hb1
        have hown1 := own_ext hown hb1
        have hs1 : w0.heap.size ≤ w1.heap.size := hbw1.size
        clear hb1 hown hbw
        go_wp2_with fail
        refine (put1_any _ xs w0.heap.size a _ hown1 hs1 (by omega) HFT.out).mono ?_
        rintro e w2 ⟨v2, rfl, hown2, hb2⟩
        go_wp2_with fail
        go_roundw
        case rel => exact ⟨k + 1, by omega, by go_num, HX.out, by rw [HS'.out]; exact hown2, hbw1.trans hb2⟩
        case measure => simp [intOf]; omega
    · have hke : k = l.length := by omega
      subst hke
      have HT : Hid (Cx.encR 1 l = (Cx.encB 1 l, 0, 0)) := HA.out HJ.out
      rw [List.take_length] at hown
      clear hc HF HA HJ
      go_wp2
      go_ret3
      exact ⟨_, by rw [HT.out]; rfl, by rw [HT.out]; exact hown, hbw⟩

set_option maxRecDepth 100000 in
set_option maxHeartbeats 1000000 in
theorem Encode_2 (v : Value) (l : List Int) (w : World) (h : Rd .i64 w v l) (hz : l.length * 8 + 320 ≤ 140737488355328) :
    Calls Try.prog 31 #[.int .i64 2, v] w fun e w' => ∃ v', e = .returned (.tuple #[v', .int .i64 (Cx.encR 2 l).2.1, .int .i64 (Cx.encR 2 l).2.2]) ∧ w'.ownsRow w.heap.size 5 1 v' (Cx.encR 2 l).1.length ((Cx.encR 2 l).1.map (Value.int .u8)) ∧ Below w.heap.size w w' := by
  have hlen := h.len
  obtain ⟨ao, cap, rfl, hlc, hcm, hc⟩ := h
  have hms := m_size2
  have hmp := m_put2
  have HA : Hid ((∀ j, j < l.length → Cx.fits 2 (l[j]?.getD 0) = true) → Cx.encR 2 l = (Cx.encB 2 l, 0, 0)) := Cx.encR_all 2 l rfl
  have HF : Hid (∀ k, k < l.length → (∀ j, j < k → Cx.fits 2 (l[j]?.getD 0) = true) → Cx.fits 2 (l[k]?.getD 0) = false → Cx.encR 2 l = ([], (k : Int), 11)) := fun k => Cx.encR_bad 2 l k rfl
  clear hcm
  go_enter Try.func31, Try.ntmps31
  go_wp2_with (go_at_call 54; refine (coderOf_2 _).mono ?_; rintro e w0 ⟨rfl, rfl⟩)
  go_loopw [9, 21] (fun o i wr => ∃ k : Nat, k ≤ l.length ∧ i = .int .i64 k ∧ Hid (∀ j, j < k → Cx.fits 2 (l[j]?.getD 0) = true) ∧ wr.ownsRow w0.heap.size 5 1 o (Cx.encB 2 (l.take k)).length ((Cx.encB 2 (l.take k)).map (Value.int .u8)) ∧ Below w0.heap.size w0 wr) (fun _ i _ => l.length - (intOf i).toNat)
  case atStart => exact ⟨0, Nat.zero_le _, rfl, fun j hj => by omega, World.ownsRow_nil _ _ _ _, Below.refl _ _⟩
  case round =>
    obtain ⟨k, hk, rfl, HJ, hown, hbw⟩ := hrel
    by_cases hlt : k < l.length
    · obtain ⟨b, off, rfl, hbl, hcl⟩ := hc (List.length_pos_iff.1 (by omega))
      have hcx : wr.cell? ⟨b, off + k, none⟩ = some (.int .i64 (l[k]?.getD 0)) := (hbw.cell (p := ⟨b, off + k, none⟩) hbl).trans (hcl k hlt)
      have hel := Cx.encB_len 2 (l.take k)
      have htk : (l.take k).length = k := by rw [List.length_take]; omega
      have HS := Cx.encB_succ 2 l k hlt
      have HF' := HF.out k hlt HJ.out
      have hsz := Cx.size_zero 2 (l[k]?.getD 0)
      cases hf : Cx.fits 2 (l[k]?.getD 0)
      · rw [hf] at hsz
        have HT : Hid (Cx.encR 2 l = ([], (k : Int), 11)) := HF' hf
        generalize l[k]?.getD 0 = a at *
        clear hc hcl HS HF' HF HA hf
        go_wp2_with fail
        refine (sizeE_2 _ _).mono ?_
        rintro e w1 ⟨rfl, hb1⟩
        have HW1 : Hid (Below w0.heap.size w0 w1) := ext_trans hbw hb1
        clear hb1
        go_wp2_with fail
        go_ret3
        exact ⟨_, by rw [HT.out]; rfl, by rw [HT.out]; exact World.ownsRow_nil _ _ _ _, HW1.out⟩
      · rw [hf] at hsz
        have HX : Hid (∀ j, j < k + 1 → Cx.fits 2 (l[j]?.getD 0) = true) := fun j hj => by
          by_cases hjk : j = k
          · rw [hjk]; exact hf
          · exact HJ.out j (by omega)
        have HFT : Hid (Cx.fits 2 (l[k]?.getD 0) = true) := hf
        have HS' : Hid (Cx.encB 2 (l.take (k + 1)) = Cx.encB 2 (l.take k) ++ Cx.put 2 (l[k]?.getD 0)) := HS
        generalize l[k]?.getD 0 = a at *
        generalize Cx.encB 2 (l.take k) = xs at *
        clear hc hcl HS HF' HF HA hf HJ
        go_wp2_with fail
        refine (sizeE_2 _ _).mono ?_
        rintro e w1 ⟨rfl, hb1⟩
        have hbw1 : Below w0.heap.size w0 w1 := ext_trans hbw hb1
        have hown1 := own_ext hown hb1
        have hs1 : w0.heap.size ≤ w1.heap.size := hbw1.size
        clear hb1 hown hbw
        go_wp2_with fail
        refine (put2_any 0 (.inl rfl) _ xs w0.heap.size a _ hown1 hs1 (by omega) HFT.out).mono ?_
        rintro e w2 ⟨v2, rfl, hown2, hb2⟩
        go_wp2_with fail
        go_roundw
        case rel => exact ⟨k + 1, by omega, by go_num, HX.out, by rw [HS'.out]; exact hown2, hbw1.trans hb2⟩
        case measure => simp [intOf]; omega
    · have hke : k = l.length := by omega
      subst hke
      have HT : Hid (Cx.encR 2 l = (Cx.encB 2 l, 0, 0)) := HA.out HJ.out
      rw [List.take_length] at hown
      clear hc HF HA HJ
      go_wp2
      go_ret3
      exact ⟨_, by rw [HT.out]; rfl, by rw [HT.out]; exact hown, hbw⟩

set_option maxRecDepth 100000 in
set_option maxHeartbeats 1000000 in
theorem Encode_3 (v : Value) (l : List Int) (w : World) (h : Rd .i64 w v l) (hz : l.length * 8 + 320 ≤ 140737488355328) :
    Calls Try.prog 31 #[.int .i64 3, v] w fun e w' => ∃ v', e = .returned (.tuple #[v', .int .i64 (Cx.encR 3 l).2.1, .int .i64 (Cx.encR 3 l).2.2]) ∧ w'.ownsRow w.heap.size 5 1 v' (Cx.encR 3 l).1.length ((Cx.encR 3 l).1.map (Value.int .u8)) ∧ Below w.heap.size w w' := by
  have hlen := h.len
  obtain ⟨ao, cap, rfl, hlc, hcm, hc⟩ := h
  have hms := m_size2
  have hmp := m_put2
  have HA : Hid ((∀ j, j < l.length → Cx.fits 3 (l[j]?.getD 0) = true) → Cx.encR 3 l = (Cx.encB 3 l, 0, 0)) := Cx.encR_all 3 l rfl
  have HF : Hid (∀ k, k < l.length → (∀ j, j < k → Cx.fits 3 (l[j]?.getD 0) = true) → Cx.fits 3 (l[k]?.getD 0) = false → Cx.encR 3 l = ([], (k : Int), 11)) := fun k => Cx.encR_bad 3 l k rfl
  clear hcm
  go_enter Try.func31, Try.ntmps31
  go_wp2_with (go_at_call 54; refine (coderOf_3 _).mono ?_; rintro e w0 ⟨rfl, rfl⟩)
  go_loopw [9, 21] (fun o i wr => ∃ k : Nat, k ≤ l.length ∧ i = .int .i64 k ∧ Hid (∀ j, j < k → Cx.fits 3 (l[j]?.getD 0) = true) ∧ wr.ownsRow w0.heap.size 5 1 o (Cx.encB 3 (l.take k)).length ((Cx.encB 3 (l.take k)).map (Value.int .u8)) ∧ Below w0.heap.size w0 wr) (fun _ i _ => l.length - (intOf i).toNat)
  case atStart => exact ⟨0, Nat.zero_le _, rfl, fun j hj => by omega, World.ownsRow_nil _ _ _ _, Below.refl _ _⟩
  case round =>
    obtain ⟨k, hk, rfl, HJ, hown, hbw⟩ := hrel
    by_cases hlt : k < l.length
    · obtain ⟨b, off, rfl, hbl, hcl⟩ := hc (List.length_pos_iff.1 (by omega))
      have hcx : wr.cell? ⟨b, off + k, none⟩ = some (.int .i64 (l[k]?.getD 0)) := (hbw.cell (p := ⟨b, off + k, none⟩) hbl).trans (hcl k hlt)
      have hel := Cx.encB_len 3 (l.take k)
      have htk : (l.take k).length = k := by rw [List.length_take]; omega
      have HS := Cx.encB_succ 3 l k hlt
      have HF' := HF.out k hlt HJ.out
      have hsz := Cx.size_zero 3 (l[k]?.getD 0)
      cases hf : Cx.fits 3 (l[k]?.getD 0)
      · rw [hf] at hsz
        have HT : Hid (Cx.encR 3 l = ([], (k : Int), 11)) := HF' hf
        generalize l[k]?.getD 0 = a at *
        clear hc hcl HS HF' HF HA hf
        go_wp2_with fail
        refine (sizeE_3 _ _).mono ?_
        rintro e w1 ⟨rfl, hb1⟩
        have HW1 : Hid (Below w0.heap.size w0 w1) := ext_trans hbw hb1
        clear hb1
        go_wp2_with fail
        go_ret3
        exact ⟨_, by rw [HT.out]; rfl, by rw [HT.out]; exact World.ownsRow_nil _ _ _ _, HW1.out⟩
      · rw [hf] at hsz
        have HX : Hid (∀ j, j < k + 1 → Cx.fits 3 (l[j]?.getD 0) = true) := fun j hj => by
          by_cases hjk : j = k
          · rw [hjk]; exact hf
          · exact HJ.out j (by omega)
        have HFT : Hid (Cx.fits 3 (l[k]?.getD 0) = true) := hf
        have HS' : Hid (Cx.encB 3 (l.take (k + 1)) = Cx.encB 3 (l.take k) ++ Cx.put 3 (l[k]?.getD 0)) := HS
        generalize l[k]?.getD 0 = a at *
        generalize Cx.encB 3 (l.take k) = xs at *
        clear hc hcl HS HF' HF HA hf HJ
        go_wp2_with fail
        refine (sizeE_3 _ _).mono ?_
        rintro e w1 ⟨rfl, hb1⟩
        have hbw1 : Below w0.heap.size w0 w1 := ext_trans hbw hb1
        have hown1 := own_ext hown hb1
        have hs1 : w0.heap.size ≤ w1.heap.size := hbw1.size
        clear hb1 hown hbw
        go_wp2_with fail
        refine (put2_any 1 (.inr rfl) _ xs w0.heap.size a _ hown1 hs1 (by omega) HFT.out).mono ?_
        rintro e w2 ⟨v2, rfl, hown2, hb2⟩
        go_wp2_with fail
        go_roundw
        case rel => exact ⟨k + 1, by omega, by go_num, HX.out, by rw [HS'.out]; exact hown2, hbw1.trans hb2⟩
        case measure => simp [intOf]; omega
    · have hke : k = l.length := by omega
      subst hke
      have HT : Hid (Cx.encR 3 l = (Cx.encB 3 l, 0, 0)) := HA.out HJ.out
      rw [List.take_length] at hown
      clear hc HF HA HJ
      go_wp2
      go_ret3
      exact ⟨_, by rw [HT.out]; rfl, by rw [HT.out]; exact hown, hbw⟩

set_option maxRecDepth 100000 in
set_option maxHeartbeats 1000000 in
theorem Encode_4 (v : Value) (l : List Int) (w : World) (h : Rd .i64 w v l) (hz : l.length * 8 + 320 ≤ 140737488355328) :
    Calls Try.prog 31 #[.int .i64 4, v] w fun e w' => ∃ v', e = .returned (.tuple #[v', .int .i64 (Cx.encR 4 l).2.1, .int .i64 (Cx.encR 4 l).2.2]) ∧ w'.ownsRow w.heap.size 5 1 v' (Cx.encR 4 l).1.length ((Cx.encR 4 l).1.map (Value.int .u8)) ∧ Below w.heap.size w w' := by
  have hlen := h.len
  obtain ⟨ao, cap, rfl, hlc, hcm, hc⟩ := h
  have hms := m_size4
  have hmp := m_put4
  have HA : Hid ((∀ j, j < l.length → Cx.fits 4 (l[j]?.getD 0) = true) → Cx.encR 4 l = (Cx.encB 4 l, 0, 0)) := Cx.encR_all 4 l rfl
  have HF : Hid (∀ k, k < l.length → (∀ j, j < k → Cx.fits 4 (l[j]?.getD 0) = true) → Cx.fits 4 (l[k]?.getD 0) = false → Cx.encR 4 l = ([], (k : Int), 11)) := fun k => Cx.encR_bad 4 l k rfl
  clear hcm
  go_enter Try.func31, Try.ntmps31
  go_wp2_with (go_at_call 54; refine (coderOf_4 _).mono ?_; rintro e w0 ⟨rfl, rfl⟩)
  go_loopw [9, 21] (fun o i wr => ∃ k : Nat, k ≤ l.length ∧ i = .int .i64 k ∧ Hid (∀ j, j < k → Cx.fits 4 (l[j]?.getD 0) = true) ∧ wr.ownsRow w0.heap.size 5 1 o (Cx.encB 4 (l.take k)).length ((Cx.encB 4 (l.take k)).map (Value.int .u8)) ∧ Below w0.heap.size w0 wr) (fun _ i _ => l.length - (intOf i).toNat)
  case atStart => exact ⟨0, Nat.zero_le _, rfl, fun j hj => by omega, World.ownsRow_nil _ _ _ _, Below.refl _ _⟩
  case round =>
    obtain ⟨k, hk, rfl, HJ, hown, hbw⟩ := hrel
    by_cases hlt : k < l.length
    · obtain ⟨b, off, rfl, hbl, hcl⟩ := hc (List.length_pos_iff.1 (by omega))
      have hcx : wr.cell? ⟨b, off + k, none⟩ = some (.int .i64 (l[k]?.getD 0)) := (hbw.cell (p := ⟨b, off + k, none⟩) hbl).trans (hcl k hlt)
      have hel := Cx.encB_len 4 (l.take k)
      have htk : (l.take k).length = k := by rw [List.length_take]; omega
      have HS := Cx.encB_succ 4 l k hlt
      have HF' := HF.out k hlt HJ.out
      have hsz := Cx.size_zero 4 (l[k]?.getD 0)
      cases hf : Cx.fits 4 (l[k]?.getD 0)
      · rw [hf] at hsz
        have HT : Hid (Cx.encR 4 l = ([], (k : Int), 11)) := HF' hf
        generalize l[k]?.getD 0 = a at *
        clear hc hcl HS HF' HF HA hf
        go_wp2_with fail
        refine (sizeE_4 _ _).mono ?_
        rintro e w1 ⟨rfl, hb1⟩
        have HW1 : Hid (Below w0.heap.size w0 w1) := ext_trans hbw hb1
        clear hb1
        go_wp2_with fail
        go_ret3
        exact ⟨_, by rw [HT.out]; rfl, by rw [HT.out]; exact World.ownsRow_nil _ _ _ _, HW1.out⟩
      · rw [hf] at hsz
        have HX : Hid (∀ j, j < k + 1 → Cx.fits 4 (l[j]?.getD 0) = true) := fun j hj => by
          by_cases hjk : j = k
          · rw [hjk]; exact hf
          · exact HJ.out j (by omega)
        have HFT : Hid (Cx.fits 4 (l[k]?.getD 0) = true) := hf
        have HS' : Hid (Cx.encB 4 (l.take (k + 1)) = Cx.encB 4 (l.take k) ++ Cx.put 4 (l[k]?.getD 0)) := HS
        generalize l[k]?.getD 0 = a at *
        generalize Cx.encB 4 (l.take k) = xs at *
        clear hc hcl HS HF' HF HA hf HJ
        go_wp2_with fail
        refine (sizeE_4 _ _).mono ?_
        rintro e w1 ⟨rfl, hb1⟩
        have hbw1 : Below w0.heap.size w0 w1 := ext_trans hbw hb1
        have hown1 := own_ext hown hb1
        have hs1 : w0.heap.size ≤ w1.heap.size := hbw1.size
        clear hb1 hown hbw
        go_wp2_with fail
        refine (put4_any _ xs w0.heap.size a _ hown1 hs1 (by omega) HFT.out).mono ?_
        rintro e w2 ⟨v2, rfl, hown2, hb2⟩
        go_wp2_with fail
        go_roundw
        case rel => exact ⟨k + 1, by omega, by go_num, HX.out, by rw [HS'.out]; exact hown2, hbw1.trans hb2⟩
        case measure => simp [intOf]; omega
    · have hke : k = l.length := by omega
      subst hke
      have HT : Hid (Cx.encR 4 l = (Cx.encB 4 l, 0, 0)) := HA.out HJ.out
      rw [List.take_length] at hown
      clear hc HF HA HJ
      go_wp2
      go_ret3
      exact ⟨_, by rw [HT.out]; rfl, by rw [HT.out]; exact hown, hbw⟩

end Go.Proofs.Ytbfbaknfeleddaa
