import Derived.Test.YtmfbobibpebfnaaGreatJ01
import Derived.Test.YtmfbobibpebfnaaGreatJ05
import Derived.Test.YtmfbobibpebfnaaGreatJ06
/- Encode: of the code, of the document's answer. -/
namespace Go.Proofs.YtmfbobibpebfnaaGreat
open Go.RowKit

/-- The place of the first atom that does not fit. -/
def Cx.bad (enc : Int) : Nat → List Int → Option Nat
  | _, [] => none
  | i, a :: l => if Cx.fits enc a = true then Cx.bad enc (i + 1) l else some i
def Cx.encB (enc : Int) (l : List Int) : List Int := l.flatMap (Cx.put enc)
/-- What Encode answers: the bytes, the place, the error. -/
def Cx.encR (enc : Int) (l : List Int) : List Int × Int × Int :=
  if Cx.known enc = true then (match Cx.bad enc 0 l with | some i => ([], (i : Int), 11) | none => (Cx.encB enc l, 0, 0)) else ([], 0, 10)

theorem Cx.bad_at (enc : Int) : ∀ (l : List Int) (i k : Nat), k < l.length → (∀ j, j < k → Cx.fits enc (l[j]?.getD 0) = true) → Cx.fits enc (l[k]?.getD 0) = false → Cx.bad enc i l = some (i + k) := by
  intro l
  induction l with
  | nil => intro i k hk; simp at hk
  | cons a l ih =>
    intro i k hk hj hf
    unfold Cx.bad
    cases k with
    | zero => simp at hf; simp [hf]
    | succ k =>
      have h0 := hj 0 (by omega)
      simp at h0
      rw [if_pos h0, ih (i + 1) k (by simpa using hk) (fun j hjk => by simpa using hj (j + 1) (by omega)) (by simpa using hf)]
      congr 1; omega
theorem Cx.bad_none (enc : Int) : ∀ (l : List Int) (i : Nat), (∀ j, j < l.length → Cx.fits enc (l[j]?.getD 0) = true) → Cx.bad enc i l = none := by
  intro l
  induction l with
  | nil => intro i _; rfl
  | cons a l ih =>
    intro i hj
    unfold Cx.bad
    have h0 := hj 0 (by simp)
    simp at h0
    rw [if_pos h0]
    exact ih (i + 1) (fun j hjk => by simpa using hj (j + 1) (by simpa using hjk))
theorem Cx.encB_len (enc : Int) (l : List Int) : (Cx.encB enc l).length ≤ 4 * l.length := by
  unfold Cx.encB
  induction l with
  | nil => simp
  | cons a l ih =>
    have := (Cx.put_len enc a).2
    simp only [List.flatMap_cons, List.length_append, List.length_cons]
    omega
theorem Cx.encB_succ (enc : Int) (l : List Int) (k : Nat) (h : k < l.length) : Cx.encB enc (l.take (k + 1)) = Cx.encB enc (l.take k) ++ Cx.put enc (l[k]?.getD 0) := by
  unfold Cx.encB
  rw [List.take_succ_eq_append_getElem h, List.flatMap_append]
  simp [h]
theorem Cx.encR_bad (enc : Int) (l : List Int) (k : Nat) (hk : Cx.known enc = true) (h1 : k < l.length) (h2 : ∀ j, j < k → Cx.fits enc (l[j]?.getD 0) = true) (h3 : Cx.fits enc (l[k]?.getD 0) = false) : Cx.encR enc l = ([], (k : Int), 11) := by
  unfold Cx.encR; rw [if_pos hk, Cx.bad_at enc l 0 k h1 h2 h3]; simp
theorem Cx.encR_all (enc : Int) (l : List Int) (hk : Cx.known enc = true) (h2 : ∀ j, j < l.length → Cx.fits enc (l[j]?.getD 0) = true) : Cx.encR enc l = (Cx.encB enc l, 0, 0) := by
  unfold Cx.encR; rw [if_pos hk, Cx.bad_none enc l 0 h2]
theorem Cx.encR_no (enc : Int) (l : List Int) (hk : Cx.known enc = false) : Cx.encR enc l = ([], 0, 10) := by
  unfold Cx.encR; rw [hk]; rfl

theorem m_put1 (w : World) : (method 229 76 (.agg #[]) "copyist/codec.put").run Tryz.prog w = .ok (95, .agg #[]) w := by kernel_rfl
theorem m_put2 (k : Int) (w : World) : (method 229 78 (.agg #[.int .i64 k]) "copyist/codec.put").run Tryz.prog w = .ok (105, .agg #[.int .i64 k]) w := by kernel_rfl
theorem m_put4 (w : World) : (method 229 79 (.agg #[]) "copyist/codec.put").run Tryz.prog w = .ok (117, .agg #[]) w := by kernel_rfl

theorem Cx.size_zero (enc a : Int) : (Cx.size enc a == 0) = !Cx.fits enc a := by
  have := Cx.put_len enc a
  unfold Cx.size
  cases h : Cx.fits enc a
  · simp
  · simp; intro h'; rw [h'] at this; simp at this

theorem sizeE_1 (a : Int) (w : World) : Calls Tryz.prog 96 #[.agg #[], .int .i64 a] w fun e w' => e = .returned (.int .i64 (Cx.size 1 a)) ∧ Below w.heap.size w w' := by rw [Cx.size1]; exact nsize_any a w
theorem sizeE_2 (a : Int) (w : World) : Calls Tryz.prog 106 #[.agg #[.int .i64 0], .int .i64 a] w fun e w' => e = .returned (.int .i64 (Cx.size 2 a)) ∧ Below w.heap.size w w' := by rw [Cx.sizeW _ _ (.inl rfl)]; exact wsize_any 0 a w
theorem sizeE_3 (a : Int) (w : World) : Calls Tryz.prog 106 #[.agg #[.int .i64 1], .int .i64 a] w fun e w' => e = .returned (.int .i64 (Cx.size 3 a)) ∧ Below w.heap.size w w' := by rw [Cx.sizeW _ _ (.inr rfl)]; exact wsize_any 1 a w
theorem sizeE_4 (a : Int) (w : World) : Calls Tryz.prog 118 #[.agg #[], .int .i64 a] w fun e w' => e = .returned (.int .i64 (Cx.size 4 a)) ∧ Below w.heap.size w w' := by rw [Cx.size4]; exact lsize_any a w

set_option maxRecDepth 100000 in
set_option maxHeartbeats 1000000 in
theorem Encode_1 (v : Value) (l : List Int) (w : World) (h : Rd .i64 w v l) (hz : l.length * 8 + 320 ≤ 140737488355328) :
    Calls Tryz.prog 36 #[.int .i64 1, v] w fun e w' => ∃ v', e = .returned (.tuple #[v', .int .i64 (Cx.encR 1 l).2.1, .int .i64 (Cx.encR 1 l).2.2]) ∧ w'.ownsRow w.heap.size 5 1 v' (Cx.encR 1 l).1.length ((Cx.encR 1 l).1.map (Value.int .u8)) ∧ Below w.heap.size w w' := by
  have hlen := h.len
  obtain ⟨ao, cap, rfl, hlc, hcm, hc⟩ := h
  have hms := m_size1
  have hmp := m_put1
  have HA : Hid ((∀ j, j < l.length → Cx.fits 1 (l[j]?.getD 0) = true) → Cx.encR 1 l = (Cx.encB 1 l, 0, 0)) := Cx.encR_all 1 l rfl
  have HF : Hid (∀ k, k < l.length → (∀ j, j < k → Cx.fits 1 (l[j]?.getD 0) = true) → Cx.fits 1 (l[k]?.getD 0) = false → Cx.encR 1 l = ([], (k : Int), 11)) := fun k => Cx.encR_bad 1 l k rfl
  clear hcm
  go_enter Tryz.func36, Tryz.ntmps36
  go_wp2_with (go_at_call 12; refine (coderOf_1 _).mono ?_; rintro e w0 ⟨rfl, rfl⟩)
  go_loopw [9, 21] (fun o i wr => ∃ k : Nat, k ≤ l.length ∧ i = .int .i64 k ∧ Hid (∀ j, j < k → Cx.fits 1 (l[j]?.getD 0) = true) ∧ wr.ownsRow w0.heap.size 5 1 o (Cx.encB 1 (l.take k)).length ((Cx.encB 1 (l.take k)).map (Value.int .u8)) ∧ Below w0.heap.size w0 wr) (fun _ i _ => l.length - (intOf i).toNat)
  case atStart => exact ⟨0, Nat.zero_le _, rfl, fun j hj => by omega, World.ownsRow_nil _ _ _ _, Below.refl _ _⟩
  case round =>
    obtain ⟨k, hk, rfl, HJ, hown, hbw⟩ := hrel
    by_cases hlt : k < l.length
    · obtain ⟨b, off, rfl, hbl, hcl⟩ := hc (List.length_pos_iff.1 (by omega))
      have hcx : wr.cell? ⟨b, off + k, none⟩ = some (.int .i64 (l[k]?.getD 0)) := (hbw.cell (p := ⟨b, off + k, none⟩) hbl).trans (hcl k hlt)
      have hel := Cx.encB_len 1 (l.take k)
      have htk : (l.take k).length = k := by rw [List.length_take]; omega
      have HS := Cx.encB_succ 1 l k hlt
      have HF' := HF.out k hlt HJ.out
      have hsz := Cx.size_zero 1 (l[k]?.getD 0)
      cases hf : Cx.fits 1 (l[k]?.getD 0)
      · rw [hf] at hsz
        have HT : Hid (Cx.encR 1 l = ([], (k : Int), 11)) := HF' hf
        generalize l[k]?.getD 0 = a at *
        clear hc hcl HS HF' HF HA hf
        go_wp2_with fail
        refine (sizeE_1 _ _).mono ?_
        rintro e w1 ⟨rfl, hb1⟩
        have HW1 : Hid (Below w0.heap.size w0 w1) := ext_trans hbw hb1
        clear hb1
        go_wp2_with fail
        go_ret3
        exact ⟨_, by rw [HT.out]; rfl, by rw [HT.out]; exact World.ownsRow_nil _ _ _ _, HW1.out⟩
      · rw [hf] at hsz
        have HX : Hid (∀ j, j < k + 1 → Cx.fits 1 (l[j]?.getD 0) = true) := fun j hj => by
          by_cases hjk : j = k
          · rw [hjk]; exact hf
          · exact HJ.out j (by omega)
        have HFT : Hid (Cx.fits 1 (l[k]?.getD 0) = true) := hf
        have HS' : Hid (Cx.encB 1 (l.take (k + 1)) = Cx.encB 1 (l.take k) ++ Cx.put 1 (l[k]?.getD 0)) := HS
        generalize l[k]?.getD 0 = a at *
        generalize Cx.encB 1 (l.take k) = xs at *
        clear hc hcl HS HF' HF HA hf HJ
        go_wp2_with fail
        refine (sizeE_1 _ _).mono ?_
        rintro e w1 ⟨rfl, hb1⟩
        have hbw1 : Below w0.heap.size w0 w1 := ext_trans hbw hb1
        have hown1 := own_ext hown hb1
        have hs1 : w0.heap.size ≤ w1.heap.size := hbw1.size
        clear hb1 hown hbw
        go_wp2_with fail
        refine (put1_any _ xs w0.heap.size a _ hown1 hs1 (by omega) HFT.out).mono ?_
        rintro e w2 ⟨v2, rfl, hown2, hb2⟩
        go_wp2_with fail
        go_roundw
        case rel => exact ⟨k + 1, by omega, by go_num, HX.out, by rw [HS'.out]; exact hown2, hbw1.trans hb2⟩
        case measure => simp [intOf]; omega
    · have hke : k = l.length := by omega
      subst hke
      have HT : Hid (Cx.encR 1 l = (Cx.encB 1 l, 0, 0)) := HA.out HJ.out
      rw [List.take_length] at hown
      clear hc HF HA HJ
      go_wp2
      go_ret3
      exact ⟨_, by rw [HT.out]; rfl, by rw [HT.out]; exact hown, hbw⟩

set_option maxRecDepth 100000 in
set_option maxHeartbeats 1000000 in
theorem Encode_2 (v : Value) (l : List Int) (w : World) (h : Rd .i64 w v l) (hz : l.length * 8 + 320 ≤ 140737488355328) :
    Calls Tryz.prog 36 #[.int .i64 2, v] w fun e w' => ∃ v', e = .returned (.tuple #[v', .int .i64 (Cx.encR 2 l).2.1, .int .i64 (Cx.encR 2 l).2.2]) ∧ w'.ownsRow w.heap.size 5 1 v' (Cx.encR 2 l).1.length ((Cx.encR 2 l).1.map (Value.int .u8)) ∧ Below w.heap.size w w' := by
  have hlen := h.len
  obtain ⟨ao, cap, rfl, hlc, hcm, hc⟩ := h
  have hms := m_size2
  have hmp := m_put2
  have HA : Hid ((∀ j, j < l.length → Cx.fits 2 (l[j]?.getD 0) = true) → Cx.encR 2 l = (Cx.encB 2 l, 0, 0)) := Cx.encR_all 2 l rfl
  have HF : Hid (∀ k, k < l.length → (∀ j, j < k → Cx.fits 2 (l[j]?.getD 0) = true) → Cx.fits 2 (l[k]?.getD 0) = false → Cx.encR 2 l = ([], (k : Int), 11)) := fun k => Cx.encR_bad 2 l k rfl
  clear hcm
  go_enter Tryz.func36, Tryz.ntmps36
  go_wp2_with (go_at_call 12; refine (coderOf_2 _).mono ?_; rintro e w0 ⟨rfl, rfl⟩)
  go_loopw [9, 21] (fun o i wr => ∃ k : Nat, k ≤ l.length ∧ i = .int .i64 k ∧ Hid (∀ j, j < k → Cx.fits 2 (l[j]?.getD 0) = true) ∧ wr.ownsRow w0.heap.size 5 1 o (Cx.encB 2 (l.take k)).length ((Cx.encB 2 (l.take k)).map (Value.int .u8)) ∧ Below w0.heap.size w0 wr) (fun _ i _ => l.length - (intOf i).toNat)
  case atStart => exact ⟨0, Nat.zero_le _, rfl, fun j hj => by omega, World.ownsRow_nil _ _ _ _, Below.refl _ _⟩
  case round =>
    obtain ⟨k, hk, rfl, HJ, hown, hbw⟩ := hrel
    by_cases hlt : k < l.length
    · obtain ⟨b, off, rfl, hbl, hcl⟩ := hc (List.length_pos_iff.1 (by omega))
      have hcx : wr.cell? ⟨b, off + k, none⟩ = some (.int .i64 (l[k]?.getD 0)) := (hbw.cell (p := ⟨b, off + k, none⟩) hbl).trans (hcl k hlt)
      have hel := Cx.encB_len 2 (l.take k)
      have htk : (l.take k).length = k := by rw [List.length_take]; omega
      have HS := Cx.encB_succ 2 l k hlt
      have HF' := HF.out k hlt HJ.out
      have hsz := Cx.size_zero 2 (l[k]?.getD 0)
      cases hf : Cx.fits 2 (l[k]?.getD 0)
      · rw [hf] at hsz
        have HT : Hid (Cx.encR 2 l = ([], (k : Int), 11)) := HF' hf
        generalize l[k]?.getD 0 = a at *
        clear hc hcl HS HF' HF HA hf
        go_wp2_with fail
        refine (sizeE_2 _ _).mono ?_
        rintro e w1 ⟨rfl, hb1⟩
        have HW1 : Hid (Below w0.heap.size w0 w1) := ext_trans hbw hb1
        clear hb1
        go_wp2_with fail
        go_ret3
        exact ⟨_, by rw [HT.out]; rfl, by rw [HT.out]; exact World.ownsRow_nil _ _ _ _, HW1.out⟩
      · rw [hf] at hsz
        have HX : Hid (∀ j, j < k + 1 → Cx.fits 2 (l[j]?.getD 0) = true) := fun j hj => by
          by_cases hjk : j = k
          · rw [hjk]; exact hf
          · exact HJ.out j (by omega)
        have HFT : Hid (Cx.fits 2 (l[k]?.getD 0) = true) := hf
        have HS' : Hid (Cx.encB 2 (l.take (k + 1)) = Cx.encB 2 (l.take k) ++ Cx.put 2 (l[k]?.getD 0)) := HS
        generalize l[k]?.getD 0 = a at *
        generalize Cx.encB 2 (l.take k) = xs at *
        clear hc hcl HS HF' HF HA hf HJ
        go_wp2_with fail
        refine (sizeE_2 _ _).mono ?_
        rintro e w1 ⟨rfl, hb1⟩
        have hbw1 : Below w0.heap.size w0 w1 := ext_trans hbw hb1
        have hown1 := own_ext hown hb1
        have hs1 : w0.heap.size ≤ w1.heap.size := hbw1.size
        clear hb1 hown hbw
        go_wp2_with fail
        refine (put2_any 0 (.inl rfl) _ xs w0.heap.size a _ hown1 hs1 (by omega) HFT.out).mono ?_
        rintro e w2 ⟨v2, rfl, hown2, hb2⟩
        go_wp2_with fail
        go_roundw
        case rel => exact ⟨k + 1, by omega, by go_num, HX.out, by rw [HS'.out]; exact hown2, hbw1.trans hb2⟩
        case measure => simp [intOf]; omega
    · have hke : k = l.length := by omega
      subst hke
      have HT : Hid (Cx.encR 2 l = (Cx.encB 2 l, 0, 0)) := HA.out HJ.out
      rw [List.take_length] at hown
      clear hc HF HA HJ
      go_wp2
      go_ret3
      exact ⟨_, by rw [HT.out]; rfl, by rw [HT.out]; exact hown, hbw⟩

set_option maxRecDepth 100000 in
set_option maxHeartbeats 1000000 in
theorem Encode_3 (v : Value) (l : List Int) (w : World) (h : Rd .i64 w v l) (hz : l.length * 8 + 320 ≤ 140737488355328) :
    Calls Tryz.prog 36 #[.int .i64 3, v] w fun e w' => ∃ v', e = .returned (.tuple #[v', .int .i64 (Cx.encR 3 l).2.1, .int .i64 (Cx.encR 3 l).2.2]) ∧ w'.ownsRow w.heap.size 5 1 v' (Cx.encR 3 l).1.length ((Cx.encR 3 l).1.map (Value.int .u8)) ∧ Below w.heap.size w w' := by
  have hlen := h.len
  obtain ⟨ao, cap, rfl, hlc, hcm, hc⟩ := h
  have hms := m_size2
  have hmp := m_put2
  have HA : Hid ((∀ j, j < l.length → Cx.fits 3 (l[j]?.getD 0) = true) → Cx.encR 3 l = (Cx.encB 3 l, 0, 0)) := Cx.encR_all 3 l rfl
  have HF : Hid (∀ k, k < l.length → (∀ j, j < k → Cx.fits 3 (l[j]?.getD 0) = true) → Cx.fits 3 (l[k]?.getD 0) = false → Cx.encR 3 l = ([], (k : Int), 11)) := fun k => Cx.encR_bad 3 l k rfl
  clear hcm
  go_enter Tryz.func36, Tryz.ntmps36
  go_wp2_with (go_at_call 12; refine (coderOf_3 _).mono ?_; rintro e w0 ⟨rfl, rfl⟩)
  go_loopw [9, 21] (fun o i wr => ∃ k : Nat, k ≤ l.length ∧ i = .int .i64 k ∧ Hid (∀ j, j < k → Cx.fits 3 (l[j]?.getD 0) = true) ∧ wr.ownsRow w0.heap.size 5 1 o (Cx.encB 3 (l.take k)).length ((Cx.encB 3 (l.take k)).map (Value.int .u8)) ∧ Below w0.heap.size w0 wr) (fun _ i _ => l.length - (intOf i).toNat)
  case atStart => exact ⟨0, Nat.zero_le _, rfl, fun j hj => by omega, World.ownsRow_nil _ _ _ _, Below.refl _ _⟩
  case round =>
    obtain ⟨k, hk, rfl, HJ, hown, hbw⟩ := hrel
    by_cases hlt : k < l.length
    · obtain ⟨b, off, rfl, hbl, hcl⟩ := hc (List.length_pos_iff.1 (by omega))
      have hcx : wr.cell? ⟨b, off + k, none⟩ = some (.int .i64 (l[k]?.getD 0)) := (hbw.cell (p := ⟨b, off + k, none⟩) hbl).trans (hcl k hlt)
      have hel := Cx.encB_len 3 (l.take k)
      have htk : (l.take k).length = k := by rw [List.length_take]; omega
      have HS := Cx.encB_succ 3 l k hlt
      have HF' := HF.out k hlt HJ.out
      have hsz := Cx.size_zero 3 (l[k]?.getD 0)
      cases hf : Cx.fits 3 (l[k]?.getD 0)
      · rw [hf] at hsz
        have HT : Hid (Cx.encR 3 l = ([], (k : Int), 11)) := HF' hf
        generalize l[k]?.getD 0 = a at *
        clear hc hcl HS HF' HF HA hf
        go_wp2_with fail
        refine (sizeE_3 _ _).mono ?_
        rintro e w1 ⟨rfl, hb1⟩
        have HW1 : Hid (Below w0.heap.size w0 w1) := ext_trans hbw hb1
        clear hb1
        go_wp2_with fail
        go_ret3
        exact ⟨_, by rw [HT.out]; rfl, by rw [HT.out]; exact World.ownsRow_nil _ _ _ _, HW1.out⟩
      · rw [hf] at hsz
        have HX : Hid (∀ j, j < k + 1 → Cx.fits 3 (l[j]?.getD 0) = true) := fun j hj => by
          by_cases hjk : j = k
          · rw [hjk]; exact hf
          · exact HJ.out j (by omega)
        have HFT : Hid (Cx.fits 3 (l[k]?.getD 0) = true) := hf
        have HS' : Hid (Cx.encB 3 (l.take (k + 1)) = Cx.encB 3 (l.take k) ++ Cx.put 3 (l[k]?.getD 0)) := HS
        generalize l[k]?.getD 0 = a at *
        generalize Cx.encB 3 (l.take k) = xs at *
        clear hc hcl HS HF' HF HA hf HJ
        go_wp2_with fail
        refine (sizeE_3 _ _).mono ?_
        rintro e w1 ⟨rfl, hb1⟩
        have hbw1 : Below w0.heap.size w0 w1 := ext_trans hbw hb1
        have hown1 := own_ext hown hb1
        have hs1 : w0.heap.size ≤ w1.heap.size := hbw1.size
        clear hb1 hown hbw
        go_wp2_with fail
        refine (put2_any 1 (.inr rfl) _ xs w0.heap.size a _ hown1 hs1 (by omega) HFT.out).mono ?_
        rintro e w2 ⟨v2, rfl, hown2, hb2⟩
        go_wp2_with fail
        go_roundw
        case rel => exact ⟨k + 1, by omega, by go_num, HX.out, by rw [HS'.out]; exact hown2, hbw1.trans hb2⟩
        case measure => simp [intOf]; omega
    · have hke : k = l.length := by omega
      subst hke
      have HT : Hid (Cx.encR 3 l = (Cx.encB 3 l, 0, 0)) := HA.out HJ.out
      rw [List.take_length] at hown
      clear hc HF HA HJ
      go_wp2
      go_ret3
      exact ⟨_, by rw [HT.out]; rfl, by rw [HT.out]; exact hown, hbw⟩

set_option maxRecDepth 100000 in
set_option maxHeartbeats 1000000 in
theorem Encode_4 (v : Value) (l : List Int) (w : World) (h : Rd .i64 w v l) (hz : l.length * 8 + 320 ≤ 140737488355328) :
    Calls Tryz.prog 36 #[.int .i64 4, v] w fun e w' => ∃ v', e = .returned (.tuple #[v', .int .i64 (Cx.encR 4 l).2.1, .int .i64 (Cx.encR 4 l).2.2]) ∧ w'.ownsRow w.heap.size 5 1 v' (Cx.encR 4 l).1.length ((Cx.encR 4 l).1.map (Value.int .u8)) ∧ Below w.heap.size w w' := by
  have hlen := h.len
  obtain ⟨ao, cap, rfl, hlc, hcm, hc⟩ := h
  have hms := m_size4
  have hmp := m_put4
  have HA : Hid ((∀ j, j < l.length → Cx.fits 4 (l[j]?.getD 0) = true) → Cx.encR 4 l = (Cx.encB 4 l, 0, 0)) := Cx.encR_all 4 l rfl
  have HF : Hid (∀ k, k < l.length → (∀ j, j < k → Cx.fits 4 (l[j]?.getD 0) = true) → Cx.fits 4 (l[k]?.getD 0) = false → Cx.encR 4 l = ([], (k : Int), 11)) := fun k => Cx.encR_bad 4 l k rfl
  clear hcm
  go_enter Tryz.func36, Tryz.ntmps36
  go_wp2_with (go_at_call 12; refine (coderOf_4 _).mono ?_; rintro e w0 ⟨rfl, rfl⟩)
  go_loopw [9, 21] (fun o i wr => ∃ k : Nat, k ≤ l.length ∧ i = .int .i64 k ∧ Hid (∀ j, j < k → Cx.fits 4 (l[j]?.getD 0) = true) ∧ wr.ownsRow w0.heap.size 5 1 o (Cx.encB 4 (l.take k)).length ((Cx.encB 4 (l.take k)).map (Value.int .u8)) ∧ Below w0.heap.size w0 wr) (fun _ i _ => l.length - (intOf i).toNat)
  case atStart => exact ⟨0, Nat.zero_le _, rfl, fun j hj => by omega, World.ownsRow_nil _ _ _ _, Below.refl _ _⟩
  case round =>
    obtain ⟨k, hk, rfl, HJ, hown, hbw⟩ := hrel
    by_cases hlt : k < l.length
    · obtain ⟨b, off, rfl, hbl, hcl⟩ := hc (List.length_pos_iff.1 (by omega))
      have hcx : wr.cell? ⟨b, off + k, none⟩ = some (.int .i64 (l[k]?.getD 0)) := (hbw.cell (p := ⟨b, off + k, none⟩) hbl).trans (hcl k hlt)
      have hel := Cx.encB_len 4 (l.take k)
      have htk : (l.take k).length = k := by rw [List.length_take]; omega
      have HS := Cx.encB_succ 4 l k hlt
      have HF' := HF.out k hlt HJ.out
      have hsz := Cx.size_zero 4 (l[k]?.getD 0)
      cases hf : Cx.fits 4 (l[k]?.getD 0)
      · rw [hf] at hsz
        have HT : Hid (Cx.encR 4 l = ([], (k : Int), 11)) := HF' hf
        generalize l[k]?.getD 0 = a at *
        clear hc hcl HS HF' HF HA hf
        go_wp2_with fail
        refine (sizeE_4 _ _).mono ?_
        rintro e w1 ⟨rfl, hb1⟩
        have HW1 : Hid (Below w0.heap.size w0 w1) := ext_trans hbw hb1
        clear hb1
        go_wp2_with fail
        go_ret3
        exact ⟨_, by rw [HT.out]; rfl, by rw [HT.out]; exact World.ownsRow_nil _ _ _ _, HW1.out⟩
      · rw [hf] at hsz
        have HX : Hid (∀ j, j < k + 1 → Cx.fits 4 (l[j]?.getD 0) = true) := fun j hj => by
          by_cases hjk : j = k
          · rw [hjk]; exact hf
          · exact HJ.out j (by omega)
        have HFT : Hid (Cx.fits 4 (l[k]?.getD 0) = true) := hf
        have HS' : Hid (Cx.encB 4 (l.take (k + 1)) = Cx.encB 4 (l.take k) ++ Cx.put 4 (l[k]?.getD 0)) := HS
        generalize l[k]?.getD 0 = a at *
        generalize Cx.encB 4 (l.take k) = xs at *
        clear hc hcl HS HF' HF HA hf HJ
        go_wp2_with fail
        refine (sizeE_4 _ _).mono ?_
        rintro e w1 ⟨rfl, hb1⟩
        have hbw1 : Below w0.heap.size w0 w1 := ext_trans hbw hb1
        have hown1 := own_ext hown hb1
        have hs1 : w0.heap.size ≤ w1.heap.size := hbw1.size
        clear hb1 hown hbw
        go_wp2_with fail
        refine (put4_any _ xs w0.heap.size a _ hown1 hs1 (by omega) HFT.out).mono ?_
        rintro e w2 ⟨v2, rfl, hown2, hb2⟩
        go_wp2_with fail
        go_roundw
        case rel => exact ⟨k + 1, by omega, by go_num, HX.out, by rw [HS'.out]; exact hown2, hbw1.trans hb2⟩
        case measure => simp [intOf]; omega
    · have hke : k = l.length := by omega
      subst hke
      have HT : Hid (Cx.encR 4 l = (Cx.encB 4 l, 0, 0)) := HA.out HJ.out
      rw [List.take_length] at hown
      clear hc HF HA HJ
      go_wp2
      go_ret3
      exact ⟨_, by rw [HT.out]; rfl, by rw [HT.out]; exact hown, hbw⟩

end Go.Proofs.YtmfbobibpebfnaaGreat

/- append onto a slice of the call's own: where the result lies: in the old block, or in the newest one. -/
namespace Go.Proofs.YtmfbobibpebfnaaGreat
open Go.RowKit
section
variable {P : Program} (w : World)

theorem run_append_blk (base : Nat) (t ty e : TypeId) (i : TypeInfo) (z : Value) (size bytes : Nat) (ht : P.underlying t = some (.slice e)) (hi : P.info? e = some i) (hz : i.zero = some z)
    (hsize : i.size = size) (hby : i.bytes = bytes) (hzs : z.cells.size = size) (hsz : 0 < size)
    (v : Value) (n : Nat) (xs : List Value) (hown : w.ownsRow base e size v n xs)
    (a : Addr) (m c : Nat) (news : List Value) (hl : news.length = m * size) (hnews : ∀ j u, news[j]? = some u → w.cell? (a.add j) = some u) (h1 : ∀ u ∈ news, u.oneCell' = true)
    (h63 : n + m ≤ maxLen) (hbytes : (n + m) * bytes ≤ 140737488355328) (hbase : base ≤ w.heap.size) (hm : 0 < m) :
    ∃ v' w', (Builtin.append_ #[t, t] ty #[v, .slice (some a) m c]).run P w = .ok v' w' ∧ w'.ownsRow base e size v' (n + m) (xs ++ news) ∧ w.grownBy w' v.ownBlock ∧
      (v'.ownBlock = v.ownBlock ∨ v'.ownBlock = some w.heap.size) := by
  obtain ⟨v', w', hr, h2, h3, _⟩ := run_append_own (P := P) w base t ty e i z size bytes ht hi hz hsize hby hzs hsz v n xs hown a m c news hl hnews h1 h63 hbytes hbase
  refine ⟨v', w', hr, h2, h3, ?_⟩
  subst hsize
  subst hby
  have hsmall : n + m ≤ 9223372036854775807 := by simp only [maxLen] at h63; omega
  rcases hown.2 with ⟨rfl, rfl⟩ | ⟨g, cap, cur, rfl, hbg, hg, hnc, hcm, hcs, htake⟩
  · have h := run_append_nil (P := P) w t ty e i z ht hi hz a m c news hl hnews hm (by omega) (by simp only [Nat.zero_add] at hbytes; omega)
    rw [h] at hr
    cases hr
    exact .inr rfl
  · by_cases hroom : n + m ≤ cap
    · have hfit : n * i.size + news.length ≤ cur.size := by rw [hl, hcs, ← Nat.add_mul]; exact Nat.mul_le_mul_right _ hroom
      have h := run_append_room (P := P) w t ty e i ht hi g n cap cur hg a m c news hl hnews h1 hroom hfit
      rw [h] at hr
      cases hr
      exact .inl rfl
    · have holds : ∀ j u, xs[j]? = some u → w.cell? ((⟨g, 0, none⟩ : Addr).add j) = some u := hown.cells (g := g) rfl
      have h := run_append_grow (P := P) w t ty e i z ht hi hz ⟨g, 0, none⟩ n cap xs hown.1 holds a m c news hl hnews (by omega) (by omega) (growslice_fits (by omega) hbytes)
      rw [h] at hr
      cases hr
      exact .inr rfl

theorem wpList_append_blk {ops : Array Oper} {rest : List Oper} {o : Oper} {a : Act} {Q : Exit → Act → World → Prop} (hgd : o.guard = none) (s x : Operand) (t : TypeId)
    (ho : o.op = .call { callee := .builtin .append, args := #[s, x], argTypes := #[t, t] })
    (base : Nat) (e : TypeId) (i : TypeInfo) (z : Value) (size bytes : Nat) (ht : P.underlying t = some (.slice e)) (hi : P.info? e = some i) (hz : i.zero = some z)
    (hsize : i.size = size) (hby : i.bytes = bytes) (hzs : z.cells.size = size) (hsz : 0 < size)
    (v : Value) (n : Nat) (xs : List Value) (hs : a.eval s = v) (hown : w.ownsRow base e size v n xs)
    (ad : Addr) (m c : Nat) (news : List Value) (hx : a.eval x = .slice (some ad) m c) (hl : news.length = m * size) (hnews : ∀ j u, news[j]? = some u → w.cell? (ad.add j) = some u) (h1 : ∀ u ∈ news, u.oneCell' = true)
    (h63 : n + m ≤ maxLen) (hbytes : (n + m) * bytes ≤ 140737488355328) (hbase : base ≤ w.heap.size) (hm : 0 < m)
    (h : ∀ v' w', w'.ownsRow base e size v' (n + m) (xs ++ news) → w.grownBy w' v.ownBlock → (v'.ownBlock = v.ownBlock ∨ v'.ownBlock = some w.heap.size) → wpList P ops Q rest (a.put o.dst v') w') : wpList P ops Q (o :: rest) a w :=
  wpList_plain hgd fun K hK => by
    obtain ⟨v', w', hr, h2, h3, h4⟩ := run_append_blk (P := P) w base t o.type e i z size bytes ht hi hz hsize hby hzs hsz v n xs hown ad m c news hl hnews h1 h63 hbytes hbase hm
    unfold Oper.wp execOp
    simp only [ho, resolve, invoke, builtin, Sem.run_bind, Sem.run_pure, Result.andThen_ok, List.map_toArray, List.map_cons, List.map_nil, hs, hx, hr]
    exact hK _ _ (h v' w' h2 h3 h4)
end
end Go.Proofs.YtmfbobibpebfnaaGreat

/- Encode of every encoding; the document's Encode. -/
namespace Go.Proofs.YtmfbobibpebfnaaGreat
open Go.RowKit

theorem Encode_any (enc : Int) (v : Value) (l : List Int) (w : World) (h : Rd .i64 w v l) (hz : l.length * 8 + 320 ≤ 140737488355328) :
    Calls Tryz.prog 36 #[.int .i64 enc, v] w fun e w' => ∃ v', e = .returned (.tuple #[v', .int .i64 (Cx.encR enc l).2.1, .int .i64 (Cx.encR enc l).2.2]) ∧ w'.ownsRow w.heap.size 5 1 v' (Cx.encR enc l).1.length ((Cx.encR enc l).1.map (Value.int .u8)) ∧ Below w.heap.size w w' := by
  cases hk : Cx.known enc
  · have HE : Hid (Cx.encR enc l = ([], 0, 10)) := Cx.encR_no enc l hk
    obtain ⟨h1, h2, h3, h4⟩ := Cx.known_no enc hk
    clear hk h
    go_enter Tryz.func36, Tryz.ntmps36
    go_wp2_with (go_at_call 12; refine (coderOf_no _ h1 h2 h3 h4 _).mono ?_; rintro e w' ⟨rfl, rfl⟩)
    go_ret3
    exact ⟨_, by rw [HE.out]; rfl, by rw [HE.out]; exact World.ownsRow_nil _ _ _ _, Below.refl _ _⟩
  · rcases (Cx.known_iff enc).1 hk with rfl | rfl | rfl | rfl
    · exact Encode_1 v l w h hz
    · exact Encode_2 v l w h hz
    · exact Encode_3 v l w h hz
    · exact Encode_4 v l w h hz

theorem Cx.fits_bd (enc a : Int) (h : Cx.fits enc a = true) : -256 ≤ a ∧ a ≤ 1114111 ∧ (enc = 4 → a ≤ 255) := by
  unfold Cx.fits Cx.isSc at h
  repeat' split at h
  all_goals simp at h
  all_goals omega

set_option maxRecDepth 100000 in
set_option maxHeartbeats 1000000 in
theorem rEncode_any (enc : Int) (v : Value) (l : List Int) (w : World) (h : Rd .i64 w v l) (hz : l.length * 8 + 320 ≤ 140737488355328) :
    Calls Tryz.prog 37 #[.int .i64 enc, v] w fun e w' => ∃ v', e = .returned (.tuple #[v', .int .i64 (Cx.encR enc l).2.1, .int .i64 (Cx.encR enc l).2.2]) ∧ w'.ownsRow w.heap.size 5 1 v' (Cx.encR enc l).1.length ((Cx.encR enc l).1.map (Value.int .u8)) ∧ Below w.heap.size w w' := by
  obtain ⟨i0, hi, hz0, hz1, hz2⟩ := info_parts Tryz.info_u8
  have hlen := h.len
  obtain ⟨ao, cap, rfl, hlc, hcm, hc⟩ := h
  cases hk : Cx.known enc
  · have HE : Hid (Cx.encR enc l = ([], 0, 10)) := Cx.encR_no enc l hk
    clear hc hcm
    go_enter Tryz.func37, Tryz.ntmps37
    go_wp2_with (go_at_call 13; refine (rknown_any _ _).mono ?_; rintro e w' ⟨rfl, rfl⟩; rw [hk])
    go_ret3
    exact ⟨_, by rw [HE.out]; rfl, by rw [HE.out]; exact World.ownsRow_nil _ _ _ _, Below.refl _ _⟩
  · have HA : Hid ((∀ j, j < l.length → Cx.fits enc (l[j]?.getD 0) = true) → Cx.encR enc l = (Cx.encB enc l, 0, 0)) := Cx.encR_all enc l hk
    have HF : Hid (∀ k, k < l.length → (∀ j, j < k → Cx.fits enc (l[j]?.getD 0) = true) → Cx.fits enc (l[k]?.getD 0) = false → Cx.encR enc l = ([], (k : Int), 11)) := fun k => Cx.encR_bad enc l k hk
    clear hcm
    go_enter Tryz.func37, Tryz.ntmps37
    go_wp2_with (go_at_call 13; refine (rknown_any _ _).mono ?_; rintro e w0 ⟨rfl, rfl⟩; rw [hk])
    go_loopw [8, 9] (fun o i wr => ∃ k : Nat, k ≤ l.length ∧ i = .int .i64 k ∧ Hid (∀ j, j < k → Cx.fits enc (l[j]?.getD 0) = true) ∧ wr.ownsRow w0.heap.size 5 1 o (Cx.encB enc (l.take k)).length ((Cx.encB enc (l.take k)).map (Value.int .u8)) ∧ Below w0.heap.size w0 wr) (fun _ i _ => l.length - (intOf i).toNat)
    case atStart => exact ⟨0, Nat.zero_le _, rfl, fun j hj => by omega, World.ownsRow_nil _ _ _ _, Below.refl _ _⟩
    case round =>
      obtain ⟨k, hk', rfl, HJ, hown, hbw⟩ := hrel
      by_cases hlt : k < l.length
      · obtain ⟨b, off, rfl, hbl, hcl⟩ := hc (List.length_pos_iff.1 (by omega))
        have hcx : wr.cell? ⟨b, off + k, none⟩ = some (.int .i64 (l[k]?.getD 0)) := (hbw.cell (p := ⟨b, off + k, none⟩) hbl).trans (hcl k hlt)
        have hel := Cx.encB_len enc (l.take k)
        have htk : (l.take k).length = k := by rw [List.length_take]; omega
        have HS := Cx.encB_succ enc l k hlt
        have HF' := HF.out k hlt HJ.out
        cases hf : Cx.fits enc (l[k]?.getD 0)
        · have HT : Hid (Cx.encR enc l = ([], (k : Int), 11)) := HF' hf
          generalize l[k]?.getD 0 = a at *
          clear hc hcl HS HF' HF HA
          go_wp2_with (go_at_call 42; refine (rFits_any _ _ _).mono ?_; rintro e w' ⟨rfl, rfl⟩; rw [hf])
          go_ret3
          exact ⟨_, by rw [HT.out]; rfl, by rw [HT.out]; exact World.ownsRow_nil _ _ _ _, hbw⟩
        · have HX : Hid (∀ j, j < k + 1 → Cx.fits enc (l[j]?.getD 0) = true) := fun j hj => by
            by_cases hjk : j = k
            · rw [hjk]; exact hf
            · exact HJ.out j (by omega)
          have hfb := Cx.fits_bd enc _ hf
          have HS' : Hid (Cx.encB enc (l.take (k + 1)) = Cx.encB enc (l.take k) ++ Cx.put enc (l[k]?.getD 0)) := HS
          obtain ⟨g0, g1, g2⟩ := hfb
          have HG2 : Hid (enc = 4 → l[k]?.getD 0 ≤ 255) := g2
          generalize l[k]?.getD 0 = a at *
          generalize Cx.encB enc (l.take k) = xs at *
          clear HS HF' HF HA HJ g2 hcl
          go_wp2_with (go_at_call 42; refine (rFits_any _ _ _).mono ?_; rintro e w' ⟨rfl, hw'⟩; subst hw'; rw [hf])
          refine (Put_any enc a _ g0 g1 HG2.out).mono ?_
          rintro e w1 ⟨pv, rfl, hlit⟩
          have hpl := (Cx.put_len enc a).2
          have hrd := Rd.of_lit hlit (by simp only [maxLen]; omega)
          have hb1 : Below w'.heap.size w' w1 := by obtain ⟨_, _, _, _, hb2⟩ := hlit; exact hb2
          have hown1 := own_ext hown hb1
          have hbw1 := ext_trans hbw hb1
          obtain ⟨g, hpv, hgl, hgh, _⟩ := hlit
          have hpl1 := (Cx.put_len enc a).1
          subst hpv
          have hgc : ∀ j, j < (Cx.put enc a).length → w1.cell? ⟨g, j, none⟩ = some (.int .u8 ((Cx.put enc a)[j]?.getD 0)) := fun j hj => by
            rw [cell_of_row w1 g j _ _ _ hgh]; simp [hj]
          have hgw1 : g < w1.heap.size := (Array.getElem?_eq_some_iff.1 hgh).1
          have hne0 := hown.lt
          clear hb1 hown hbw hgh hrd
          generalize Cx.put enc a = ps at *
          go_wp2_with fail
          go_loopw [8, 12] (fun o i wq => ∃ j : Nat, j ≤ ps.length ∧ i = .int .i64 j ∧ wq.ownsRow w0.heap.size 5 1 o (xs ++ ps.take j).length ((xs ++ ps.take j).map (Value.int .u8)) ∧ Below w0.heap.size w0 wq ∧ w1.heap.size ≤ wq.heap.size ∧ o.ownBlock ≠ some g ∧ (∀ j, j < ps.length → wq.cell? ⟨g, j, none⟩ = some (.int .u8 (ps[j]?.getD 0)))) (fun _ i _ => ps.length - (intOf i).toNat)
          case atStart => exact ⟨0, Nat.zero_le _, rfl, by simpa using hown1, hbw1, Nat.le_refl _, fun e => by have := hne0 g e; omega, hgc⟩
          case round =>
            obtain ⟨j, hj, rfl, howq, hbq, hsq, hnq, hcq⟩ := hrel
            have hbase : w0.heap.size ≤ wr.heap.size := hbq.size
            by_cases hjl : j < ps.length
            · have hcx' := hcq j hjl
              have HT : Hid ((xs ++ ps.take j).map (Value.int .u8) ++ [Value.int .u8 (ps[j]?.getD 0)] = (xs ++ ps.take (j + 1)).map (Value.int .u8)) := by
                unfold Hid; rw [List.map_append, List.append_assoc, take_succ_map ps j hjl, List.map_append]
              have hxl : (xs ++ ps.take j).length = xs.length + j := by rw [List.length_append, List.length_take]; omega
              have hxl1 : (xs ++ ps.take (j + 1)).length = xs.length + j + 1 := by rw [List.length_append, List.length_take]; omega
              rw [hxl] at howq
              generalize ps[j]?.getD 0 = y at *
              generalize (xs ++ ps.take j).map (Value.int .u8) = mx at howq HT
              have HCQ : Hid (∀ j, j < ps.length → wr.cell? ⟨g, j, none⟩ = some (.int .u8 (ps[j]?.getD 0))) := hcq
              have HNQ : Hid (u8.ownBlock ≠ some g) := hnq
              clear hcq hnq hgc hown1 hbw1
              go_wp2_with (at_builtin; refine wpList_append_blk _ rfl _ _ 35 rfl w0.heap.size 5 i0 (.int .u8 0) 1 1 Tryz.underlying35 hi hz0 hz1 hz2 rfl (by decide) _ _ _ rfl (howq.alloc _) ⟨wr.heap.size, 0, none⟩ 1 1 [.int .u8 y] rfl rfl (cell_one_new _ _ _) (one_u8 _) (by unfold maxLen; omega) (by omega) (by simp; omega) (by decide) ?_; intro v' w' hown' hg' hx')
              go_roundw
              case rel =>
                refine ⟨j + 1, by omega, by go_num, ?_, below_push hbq howq hg', ?_, ?_, ?_⟩
                · rw [hxl1, ← HT.out]; exact hown'
                · have := hg'.size; simp at this; omega
                · rcases hx' with hx' | hx'
                  · rw [hx']; exact HNQ.out
                  · rw [hx']; intro e; cases e; simp at hgw1; omega
                · intro j' hj'
                  have hblk : w'.heap[g]? = (wr.alloc (.cells #[.int .u8 y] 5)).heap[g]? := hg'.block g (by simp; omega) (fun e => HNQ.out e.symm)
                  rw [World.cell?_of_block (w := wr.alloc (.cells #[.int .u8 y] 5)) (a := ⟨g, j', none⟩) hblk, World.cell?_of_block (w := wr) (a := ⟨g, j', none⟩) (Below.heap_alloc wr _ g (by omega))]
                  exact HCQ.out j' hj'
              case measure => simp [intOf]; omega
            · have hje : j = ps.length := by omega
              subst hje
              rw [List.take_length] at howq
              clear hgc hown1 hbw1 hcq hnq
              go_wp2
              go_roundw
              case rel => exact ⟨k + 1, by omega, by go_num, HX.out, by rw [HS'.out]; exact howq, hbq⟩
              case measure => simp [intOf]; omega
      · have hke : k = l.length := by omega
        subst hke
        have HT : Hid (Cx.encR enc l = (Cx.encB enc l, 0, 0)) := HA.out HJ.out
        rw [List.take_length] at hown
        clear hc HF HA HJ
        go_wp2
        go_ret3
        exact ⟨_, by rw [HT.out]; rfl, by rw [HT.out]; exact hown, hbw⟩
end Go.Proofs.YtmfbobibpebfnaaGreat
