/- Breaks. -/
import Derived.Test.YtcmglbgnpiociaaCalls
import Derived.Test.YtcmglbgnpiociaaVApp
namespace Go.Proofs.Ytcmglbgnpiociaa
open Go.RowKit

set_option maxRecDepth 100000 in
set_option maxHeartbeats 1000000 in
theorem Breaks_any (v : Value) (zs : List Int) (w : World) (hr : Rd .i64 w v zs) (hz : zs.length * 8 + 8 ≤ 140737488355328) :
    Calls Try.prog 13 #[v] w fun e w' => ∃ v', e = .returned v' ∧ Own w' w.heap.size v' (Cl.bi zs) ∧ Below w.heap.size w w' := by
  have HR : Hid (Rd .i64 w v zs) := hr
  obtain ⟨i0, hi, hz0, hz1, hz2⟩ := info_parts Try.info_i64
  obtain ⟨ao, cap, rfl, hl, hm, _⟩ := id hr
  unfold maxLen at hm
  clear hr
  unfold Own
  go_enter Try.func13, Try.ntmps13
  go_wp2_with fail
  go_loopw [3, 4] (fun o i wr => ∃ a : Nat, a ≤ zs.length ∧ i = .int .i64 a ∧ Hid (Cl.isB zs a = true) ∧ wr.ownsRow w.heap.size 3 1 o (Cl.bl zs (a + 1)).length (((Cl.bl zs (a + 1)).map fun (n : Nat) => (n : Int)).map (Value.int .i64)) ∧ Below w.heap.size w wr) (fun _ i _ => zs.length - (intOf i).toNat)
  case atStart =>
    refine ⟨0, Nat.zero_le _, rfl, Cl.isB_zero zs, ?_, ext_alloc (Below.refl _ _) _⟩
    rw [Cl.bl_one]
    exact World.ownsRow_lit (base := w.heap.size) (e := 3) (size := 1) w #[.int .i64 0] 1 (Nat.le_refl _) (by simp [maxLen]) (by simp)
  case round =>
    obtain ⟨a, ha, rfl, HB, hown, hb⟩ := hrel
    have hz' : w.heap.size ≤ wr.heap.size := hb.size
    have HBW : Hid (Below w.heap.size w wr) := hb
    by_cases hlt : a < zs.length
    · obtain ⟨b, off, cp, hv, _⟩ := HR.out.at (by omega)
      simp only [Value.slice.injEq] at hv
      obtain ⟨rfl, _, rfl⟩ := hv
      have hup := Cl.up_drop zs a HB.out hlt
      obtain ⟨u1, u2, u3, u4⟩ := Cl.up_spec zs _ (a + 1) rfl (by omega) (by omega)
      have HT : Hid (((Cl.bl zs (Cl.up zs (a + 1) + 1)).map fun (n : Nat) => (n : Int)).map (Value.int .i64) = ((Cl.bl zs (a + 1)).map fun (n : Nat) => (n : Int)).map (Value.int .i64) ++ [.int .i64 (Cl.up zs (a + 1))] ∧ (Cl.bl zs (Cl.up zs (a + 1) + 1)).length = (Cl.bl zs (a + 1)).length + 1) := by
        unfold Hid; rw [Cl.bl_up zs a hlt]; simp
      have HU : Hid (Cl.isB zs (Cl.up zs (a + 1)) = true) := u3
      have hbl := Cl.bl_len zs (a + 1)
      have CA : Hid (∀ w', Below w.heap.size w w' → Calls Try.prog 24 #[.slice (some ⟨b, off + a, none⟩) (zs.length - a) (cap - a), .int .i64 0] w' fun e w'' => e = .returned (.int .i64 (Cl.up (zs.drop a) 1)) ∧ Below w'.heap.size w' w'') := fun w' hw => above_0 _ (zs.drop a) w' ((HR.out.ext hw).drop a hlt) (by rw [List.length_drop]; omega)
      have hca : ¬ cap = a := by omega
      have hui : (a : Int) + (Cl.up (zs.drop a) 1 : Int) = (Cl.up zs (a + 1) : Int) := by omega
      clear u3 u4 hb
      generalize Cl.up (zs.drop a) 1 = d at *
      generalize hU : Cl.up zs (a + 1) = u at *
      clear hU
      generalize ((Cl.bl zs (a + 1)).map fun (n : Nat) => (n : Int)).map (Value.int .i64) = xs at *
      generalize (Cl.bl zs (a + 1)).length = m at *
      go_wp2_with (first | (go_at_call 24; refine (CA.out _ HBW.out).mono ?_; rintro e w1 ⟨rfl, hb1⟩; have HB1 : Hid (Below w.heap.size w w1) := ext_trans HBW.out hb1; have hown1 := own_ext hown hb1; have hz1' : w.heap.size ≤ w1.heap.size := HB1.out.size; clear hb1) | (at_builtin; refine wpList_append_own _ rfl _ _ 29 rfl w.heap.size 3 i0 (.int .i64 0) 1 8 Try.underlying29 hi hz0 hz1 hz2 rfl (by decide) _ _ _ rfl (hown1.alloc _) ⟨w1.heap.size, 0, none⟩ 1 1 [.int .i64 u] rfl rfl (cell_one_new _ _ _) (one_i64 _) (by unfold maxLen; omega) (by omega) (by simp; omega) ?_; intro v' w' hown' hg' hx'))
      go_roundw
      case rel => exact ⟨u, by omega, by go_num, HU.out, by rw [HT.out.1, HT.out.2]; exact hown', below_push HB1.out hown1 hg'⟩
      case measure => simp [intOf]; omega
    · have hae : a = zs.length := by omega
      subst hae
      have HT : Hid (((Cl.bl zs (zs.length + 1)).map fun (n : Nat) => (n : Int)).map (Value.int .i64) = (Cl.bi zs).map (Value.int .i64) ∧ (Cl.bl zs (zs.length + 1)).length = (Cl.bi zs).length) := ⟨rfl, by unfold Cl.bi Cl.bs; rw [List.length_map]⟩
      go_wp2
      go_ret
      exact ⟨_, rfl, by rw [← HT.out.1, ← HT.out.2]; exact hown, HBW.out⟩
end Go.Proofs.Ytcmglbgnpiociaa
