/- IsBreak, Next, Prev, Snap, Breaks. -/
import Derived.Test.YtahjjpleceppaaaScan
import Derived.Deep.RegionHeld3
namespace Go.Proofs.Ytahjjpleceppaaa
open Go.RowKit

/-- What the calls answer. -/
def Cl.isBi (zs : List Int) (a : Int) : Bool := if 0 ≤ a ∧ a ≤ (zs.length : Int) then Cl.isB zs a.toNat else false
def Cl.next (zs : List Int) (a : Int) : Nat := if a < 0 then 0 else if (zs.length : Int) ≤ a then zs.length else Cl.up zs (a.toNat + 1)
def Cl.prev (zs : List Int) (a : Int) : Nat := if a ≤ 0 then 0 else if (zs.length : Int) < a then zs.length else Cl.dn zs (a.toNat - 1)
def Cl.snap (zs : List Int) (a : Int) : Nat := if a < 0 then 0 else if (zs.length : Int) ≤ a then zs.length else Cl.dn zs a.toNat
def Cl.bi (zs : List Int) : List Int := (Cl.bs zs).map fun (n : Nat) => (n : Int)

set_option maxRecDepth 100000 in
set_option maxHeartbeats 1000000 in
theorem IsBreak_any (v : Value) (zs : List Int) (a : Int) (w : World) (hr : Rd .i64 w v zs) :
    Calls Try.prog 23 #[v, .int .i64 a] w fun e w' => e = .returned (.bool (Cl.isBi zs a)) ∧ Below w.heap.size w w' := by
  have HR : Hid (Rd .i64 w v zs) := hr
  have hlen := hr.len
  by_cases h0 : a < 0
  · have HQ : Hid (Cl.isBi zs a = false) := by unfold Hid Cl.isBi; rw [if_neg (by omega)]
    obtain ⟨ao, cap, rfl, _⟩ := hr
    go_enter Try.func23, Try.ntmps23
    go_wp2
    go_ret
    exact ⟨ret_bool HQ.out.symm, Below.refl _ _⟩
  by_cases h1 : (zs.length : Int) < a
  · have HQ : Hid (Cl.isBi zs a = false) := by unfold Hid Cl.isBi; rw [if_neg (by omega)]
    obtain ⟨ao, cap, rfl, _⟩ := hr
    go_enter Try.func23, Try.ntmps23
    go_wp2
    go_ret
    exact ⟨ret_bool HQ.out.symm, Below.refl _ _⟩
  obtain ⟨k, rfl⟩ : ∃ k : Nat, a = k := ⟨a.toNat, by omega⟩
  have HQ : Hid (Cl.isBi zs (k : Int) = Cl.isB zs k) := by unfold Hid Cl.isBi; rw [if_pos (by omega)]; rfl
  by_cases h2 : k = 0
  · subst h2
    have HQ' : Hid (Cl.isBi zs ((0 : Nat) : Int) = true) := HQ.out.trans (Cl.isB_zero zs)
    obtain ⟨ao, cap, rfl, _⟩ := hr
    go_enter Try.func23, Try.ntmps23
    go_wp2
    go_ret
    exact ⟨ret_bool HQ'.out.symm, Below.refl _ _⟩
  by_cases h3 : k = zs.length
  · subst h3
    have HQ' : Hid (Cl.isBi zs (zs.length : Int) = true) := HQ.out.trans (Cl.isB_end zs)
    have hq : ((zs.length : Int) == 0) = false := by rw [beq_eq_false_iff_ne]; omega
    obtain ⟨ao, cap, rfl, _⟩ := hr
    go_enter Try.func23, Try.ntmps23
    go_wp2
    go_ret
    exact ⟨ret_bool HQ'.out.symm, Below.refl _ _⟩
  have hk : k < zs.length := by omega
  have HQ' : Hid (Cl.isBi zs (k : Int) = !Cl.jn zs k) := HQ.out.trans (Cl.isB_mid zs k (by omega) hk)
  obtain ⟨b, off, cap, rfl, hl, hm, hb, hc⟩ := hr.at (by omega)
  have HC : Hid (∀ i, i < zs.length → w.cell? ⟨b, off + i, none⟩ = some (.int .i64 (Cl.at zs i))) := hc
  have CX : Hid (∀ w, Calls Try.prog 47 #[.int .i64 (Cl.at zs k)] w fun e w' => e = .returned (.int .i64 (Gx.cls (Cl.at zs k))) ∧ Below w.heap.size w w') := Class_any _
  have CY : Hid (∀ w, Calls Try.prog 47 #[.int .i64 (Cl.at zs (k - 1))] w fun e w' => e = .returned (.int .i64 (Gx.cls (Cl.at zs (k - 1)))) ∧ Below w.heap.size w w') := Class_any _
  have CJ : Hid (∀ w', Below w.heap.size w w' → Calls Try.prog 46 #[.slice (some ⟨b, off, none⟩) zs.length cap, .int .i64 k, .int .i64 (Gx.cls (Cl.at zs (k - 1))), .int .i64 (Gx.cls (Cl.at zs k))] w' fun e w'' => e = .returned (.bool (Cl.jn zs k)) ∧ Below w'.heap.size w' w'') := fun w' hb => joined_any _ zs k w' (HR.out.ext hb) (by omega) hk
  have hx : ∀ w', Below w.heap.size w w' → w'.cell? ⟨b, off + k, none⟩ = some (.int .i64 (Cl.at zs k)) := fun w' hw => (hw.cell (p := ⟨b, off + k, none⟩) hb).trans (hc k hk)
  have hy : ∀ w', Below w.heap.size w w' → w'.cell? ⟨b, off + (k - 1), none⟩ = some (.int .i64 (Cl.at zs (k - 1))) := fun w' hw => (hw.cell (p := ⟨b, off + (k - 1), none⟩) hb).trans (hc (k - 1) (by omega))
  obtain ⟨m, hm'⟩ : ∃ m, m = k - 1 := ⟨k - 1, rfl⟩
  rw [← hm'] at CY CJ hy
  have hki : (k : Int) - 1 = (m : Int) := by omega
  have hki2 : IntKind.i64.wrap ((k : Int) - 1) = (m : Int) := by rw [hki, IntKind.wrap_i64]; omega
  have hq0 : ((k : Int) == 0) = false := by rw [beq_eq_false_iff_ne]; omega
  have hq1 : ((k : Int) == (zs.length : Int)) = false := by rw [beq_eq_false_iff_ne]; omega
  have HX : Hid (∀ w', Below w.heap.size w w' → w'.cell? ⟨b, off + k, none⟩ = some (.int .i64 (Cl.at zs k)) ∧ w'.cell? ⟨b, off + m, none⟩ = some (.int .i64 (Cl.at zs m))) := fun w' hw => ⟨hx w' hw, hy w' hw⟩
  have hcx := hx w (Below.refl _ _)
  have hcy := hy w (Below.refl _ _)
  have hk0 : (0 : Int) ≤ (k : Int) := by omega
  have hk1 : (k : Int) < (zs.length : Int) := by omega
  have hm0 : (0 : Int) ≤ (m : Int) := by omega
  have hm1 : (m : Int) < (zs.length : Int) := by omega
  clear hx hy hc HC HQ hm' h2 h3 hki
  generalize Cl.jn zs k = j at *
  generalize hx1 : Gx.cls (Cl.at zs k) = cr at *
  generalize hy1 : Gx.cls (Cl.at zs m) = cl at *
  clear hx1 hy1
  generalize Cl.at zs k = x at *
  generalize Cl.at zs m = y at *
  go_enter Try.func23, Try.ntmps23
  go_wp2_with fail
  go_region_held3 (fun w' => w'.cell? ⟨b, off + k, none⟩ = some (.int .i64 x) ∧ w'.cell? ⟨b, off + m, none⟩ = some (.int .i64 y)) (go_keep) (first | (go_at_call_of 47 (Value.int IntKind.i64 x); refine (CX.out _).mono ?_; rintro e w2 ⟨rfl, hb2⟩; have HB2 : Hid (Below w.heap.size w w2) := ext_trans (by repeat (first | exact Below.refl _ _ | exact HB3.out | apply Below.drew)) hb2; have hcx := (HX.out w2 HB2.out).1; have hcy := (HX.out w2 HB2.out).2; clear hb2) | (go_at_call_of 47 (Value.int IntKind.i64 y); refine (CY.out _).mono ?_; rintro e w3 ⟨rfl, hb3⟩; have HB3 : Hid (Below w.heap.size w w3) := ext_trans (by repeat (first | exact Below.refl _ _ | exact HB2.out | apply Below.drew)) hb3; have hcx := (HX.out w3 HB3.out).1; have hcy := (HX.out w3 HB3.out).2; clear hb3) | (go_at_call 46; refine (CJ.out _ (by repeat (first | exact Below.refl _ _ | exact HB2.out | exact HB3.out | apply Below.drew))).mono ?_; rintro e w4 ⟨rfl, hb4⟩; have HB4 : Hid (Below w.heap.size w w4) := ext_trans (by repeat (first | exact Below.refl _ _ | exact HB2.out | exact HB3.out | apply Below.drew)) hb4; have hcx := (HX.out w4 HB4.out).1; have hcy := (HX.out w4 HB4.out).2; clear hb4))
  all_goals
    go_wp2_with fail
    go_ret
    exact ⟨ret_bool HQ'.out.symm, HB4.out⟩

set_option maxRecDepth 100000 in
theorem Next_any (v : Value) (zs : List Int) (a : Int) (w : World) (hr : Rd .i64 w v zs) :
    Calls Try.prog 29 #[v, .int .i64 a] w fun e w' => e = .returned (.int .i64 (Cl.next zs a)) ∧ Below w.heap.size w w' := by
  have HR : Hid (Rd .i64 w v zs) := hr
  have hlen := hr.len
  obtain ⟨ao, cap, rfl, _⟩ := hr
  by_cases h0 : a < 0
  · have HQ : Hid (Cl.next zs a = 0) := by unfold Hid Cl.next; rw [if_pos h0]
    go_enter Try.func29, Try.ntmps29
    go_wp2
    go_ret
    exact ⟨ret_int (by rw [HQ.out]; rfl), Below.refl _ _⟩
  by_cases h1 : (zs.length : Int) ≤ a
  · have HQ : Hid (Cl.next zs a = zs.length) := by unfold Hid Cl.next; rw [if_neg h0, if_pos h1]
    go_enter Try.func29, Try.ntmps29
    go_wp2
    go_ret
    exact ⟨ret_int (by rw [HQ.out]), Below.refl _ _⟩
  · obtain ⟨k, rfl⟩ : ∃ k : Nat, a = k := ⟨a.toNat, by omega⟩
    have HQ : Hid (Cl.next zs (k : Int) = Cl.up zs (k + 1)) := by unfold Hid Cl.next; rw [if_neg h0, if_neg h1]; rfl
    have hk : (k : Int) < (zs.length : Int) := by omega
    go_enter Try.func29, Try.ntmps29
    go_wp2_with (go_at_call 44; refine (above_any _ zs k _ HR.out (by omega)).mono ?_; rintro e w1 ⟨rfl, hb1⟩)
    go_ret
    exact ⟨ret_int (by rw [HQ.out]), hb1⟩

set_option maxRecDepth 100000 in
theorem Prev_any (v : Value) (zs : List Int) (a : Int) (w : World) (hr : Rd .i64 w v zs) :
    Calls Try.prog 30 #[v, .int .i64 a] w fun e w' => e = .returned (.int .i64 (Cl.prev zs a)) ∧ Below w.heap.size w w' := by
  have HR : Hid (Rd .i64 w v zs) := hr
  have hlen := hr.len
  obtain ⟨ao, cap, rfl, _⟩ := hr
  by_cases h0 : a ≤ 0
  · have HQ : Hid (Cl.prev zs a = 0) := by unfold Hid Cl.prev; rw [if_pos h0]
    go_enter Try.func30, Try.ntmps30
    go_wp2
    go_ret
    exact ⟨ret_int (by rw [HQ.out]; rfl), Below.refl _ _⟩
  by_cases h1 : (zs.length : Int) < a
  · have HQ : Hid (Cl.prev zs a = zs.length) := by unfold Hid Cl.prev; rw [if_neg h0, if_pos h1]
    go_enter Try.func30, Try.ntmps30
    go_wp2
    go_ret
    exact ⟨ret_int (by rw [HQ.out]), Below.refl _ _⟩
  · obtain ⟨k, rfl⟩ : ∃ k : Nat, a = k := ⟨a.toNat, by omega⟩
    have HQ : Hid (Cl.prev zs (k : Int) = Cl.dn zs (k - 1)) := by unfold Hid Cl.prev; rw [if_neg h0, if_neg h1]; rfl
    have hk : (k : Int) ≤ (zs.length : Int) := by omega
    go_enter Try.func30, Try.ntmps30
    go_wp2_with (go_at_call 48; refine (below_any _ zs k _ HR.out (by omega) (by omega)).mono ?_; rintro e w1 ⟨rfl, hb1⟩)
    go_ret
    exact ⟨ret_int (by rw [HQ.out]), hb1⟩

set_option maxRecDepth 100000 in
theorem Snap_any (v : Value) (zs : List Int) (a : Int) (w : World) (hr : Rd .i64 w v zs) :
    Calls Try.prog 26 #[v, .int .i64 a] w fun e w' => e = .returned (.int .i64 (Cl.snap zs a)) ∧ Below w.heap.size w w' := by
  have HR : Hid (Rd .i64 w v zs) := hr
  have hlen := hr.len
  obtain ⟨ao, cap, rfl, _⟩ := hr
  by_cases h0 : a < 0
  · have HQ : Hid (Cl.snap zs a = 0) := by unfold Hid Cl.snap; rw [if_pos h0]
    go_enter Try.func26, Try.ntmps26
    go_wp2
    go_ret
    exact ⟨ret_int (by rw [HQ.out]; rfl), Below.refl _ _⟩
  by_cases h1 : (zs.length : Int) ≤ a
  · have HQ : Hid (Cl.snap zs a = zs.length) := by unfold Hid Cl.snap; rw [if_neg h0, if_pos h1]
    go_enter Try.func26, Try.ntmps26
    go_wp2
    go_ret
    exact ⟨ret_int (by rw [HQ.out]), Below.refl _ _⟩
  · obtain ⟨k, rfl⟩ : ∃ k : Nat, a = k := ⟨a.toNat, by omega⟩
    have HQ : Hid (Cl.snap zs (k : Int) = Cl.dn zs k) := by unfold Hid Cl.snap; rw [if_neg h0, if_neg h1]; rfl
    have hk : (k : Int) < (zs.length : Int) := by omega
    go_enter Try.func26, Try.ntmps26
    go_wp2_with (go_at_call 48; refine (below_any _ zs (k + 1) _ HR.out (by omega) (by omega)).mono ?_; rintro e w1 ⟨rfl, hb1⟩)
    go_ret
    exact ⟨ret_int (by rw [HQ.out]), hb1⟩

theorem above_0 (v : Value) (zs : List Int) (w : World) (hr : Rd .i64 w v zs) (ha : 0 < zs.length) :
    Calls Try.prog 44 #[v, .int .i64 0] w fun e w' => e = .returned (.int .i64 (Cl.up zs 1)) ∧ Below w.heap.size w w' := above_any v zs 0 w hr ha

set_option maxRecDepth 100000 in
set_option maxHeartbeats 1000000 in
theorem Breaks_any (v : Value) (zs : List Int) (w : World) (hr : Rd .i64 w v zs) (hz : zs.length * 8 + 8 ≤ 140737488355328) :
    Calls Try.prog 16 #[v] w fun e w' => ∃ v', e = .returned v' ∧ Own w' w.heap.size v' (Cl.bi zs) ∧ Below w.heap.size w w' := by
  have HR : Hid (Rd .i64 w v zs) := hr
  obtain ⟨i0, hi, hz0, hz1, hz2⟩ := info_parts Try.info_i64
  obtain ⟨ao, cap, rfl, hl, hm, _⟩ := id hr
  unfold maxLen at hm
  clear hr
  unfold Own
  go_enter Try.func16, Try.ntmps16
  go_wp2_with fail
  go_loopw [3, 4] (fun o i wr => ∃ a : Nat, a ≤ zs.length ∧ i = .int .i64 a ∧ Hid (Cl.isB zs a = true) ∧ wr.ownsRow w.heap.size 3 1 o (Cl.bl zs (a + 1)).length (((Cl.bl zs (a + 1)).map fun (n : Nat) => (n : Int)).map (Value.int .i64)) ∧ Below w.heap.size w wr) (fun _ i _ => zs.length - (intOf i).toNat)
  case atStart =>
    refine ⟨0, Nat.zero_le _, rfl, Cl.isB_zero zs, ?_, ext_alloc (Below.refl _ _) _⟩
    rw [Cl.bl_one]
    exact World.ownsRow_lit (base := w.heap.size) (e := 3) (size := 1) w #[.int .i64 0] 1 (Nat.le_refl _) (by simp [maxLen]) (by simp)
  case round =>
    obtain ⟨a, ha, rfl, HB, hown, hb⟩ := hrel
    have hz' : w.heap.size ≤ wr.heap.size := hb.size
    have HBW : Hid (Below w.heap.size w wr) := hb
    by_cases hlt : a < zs.length
    · obtain ⟨b, off, cp, hv, _⟩ := HR.out.at (by omega)
      simp only [Value.slice.injEq] at hv
      obtain ⟨rfl, _, rfl⟩ := hv
      have hup := Cl.up_drop zs a HB.out hlt
      obtain ⟨u1, u2, u3, u4⟩ := Cl.up_spec zs _ (a + 1) rfl (by omega) (by omega)
      have HT : Hid (((Cl.bl zs (Cl.up zs (a + 1) + 1)).map fun (n : Nat) => (n : Int)).map (Value.int .i64) = ((Cl.bl zs (a + 1)).map fun (n : Nat) => (n : Int)).map (Value.int .i64) ++ [.int .i64 (Cl.up zs (a + 1))] ∧ (Cl.bl zs (Cl.up zs (a + 1) + 1)).length = (Cl.bl zs (a + 1)).length + 1) := by
        unfold Hid; rw [Cl.bl_up zs a hlt]; simp
      have HU : Hid (Cl.isB zs (Cl.up zs (a + 1)) = true) := u3
      have hbl := Cl.bl_len zs (a + 1)
      have CA : Hid (∀ w', Below w.heap.size w w' → Calls Try.prog 44 #[.slice (some ⟨b, off + a, none⟩) (zs.length - a) (cap - a), .int .i64 0] w' fun e w'' => e = .returned (.int .i64 (Cl.up (zs.drop a) 1)) ∧ Below w'.heap.size w' w'') := fun w' hw => above_0 _ (zs.drop a) w' ((HR.out.ext hw).drop a hlt) (by rw [List.length_drop]; omega)
      have hca : ¬ cap = a := by omega
      have hui : (a : Int) + (Cl.up (zs.drop a) 1 : Int) = (Cl.up zs (a + 1) : Int) := by omega
      clear u3 u4 hb
      generalize Cl.up (zs.drop a) 1 = d at *
      generalize hU : Cl.up zs (a + 1) = u at *
      clear hU
      generalize ((Cl.bl zs (a + 1)).map fun (n : Nat) => (n : Int)).map (Value.int .i64) = xs at *
      generalize (Cl.bl zs (a + 1)).length = m at *
      go_wp2_with (first | (go_at_call 44; refine (CA.out _ HBW.out).mono ?_; rintro e w1 ⟨rfl, hb1⟩; have HB1 : Hid (Below w.heap.size w w1) := ext_trans HBW.out hb1; have hown1 := own_ext hown hb1; have hz1' : w.heap.size ≤ w1.heap.size := HB1.out.size; clear hb1) | (at_builtin; refine wpList_append_own _ rfl _ _ 22 rfl w.heap.size 3 i0 (.int .i64 0) 1 8 Try.underlying22 hi hz0 hz1 hz2 rfl (by decide) _ _ _ rfl (hown1.alloc _) ⟨w1.heap.size, 0, none⟩ 1 1 [.int .i64 u] rfl rfl (cell_one_new _ _ _) (one_i64 _) (by unfold maxLen; omega) (by omega) (by simp; omega) ?_; intro v' w' hown' hg' hx'))
      go_roundw
      case rel => exact ⟨u, by omega, by go_num, HU.out, by rw [HT.out.1, HT.out.2]; exact hown', below_push HB1.out hown1 hg'⟩
      case measure => simp [intOf]; omega
    · have hae : a = zs.length := by omega
      subst hae
      have HT : Hid (((Cl.bl zs (zs.length + 1)).map fun (n : Nat) => (n : Int)).map (Value.int .i64) = (Cl.bi zs).map (Value.int .i64) ∧ (Cl.bl zs (zs.length + 1)).length = (Cl.bi zs).length) := ⟨rfl, by unfold Cl.bi Cl.bs; rw [List.length_map]⟩
      go_wp2
      go_ret
      exact ⟨_, rfl, by rw [← HT.out.1, ← HT.out.2]; exact hown, HBW.out⟩
end Go.Proofs.Ytahjjpleceppaaa
