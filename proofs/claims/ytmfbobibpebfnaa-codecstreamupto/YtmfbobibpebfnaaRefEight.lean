/- The document's answer: eightAt. -/
import Derived.Test.YtmfbobibpebfnaaRefSmall
import Derived.Test.YtmfbobibpebfnaaFirst8
import Derived.Test.YtmfbobibpebfnaaDec2
namespace Go.Proofs.Ytmfbobibpebfnaa
open Go.RowKit

set_option maxRecDepth 100000 in
theorem meant1 (b off cap len at' : Nat) (x : Int) (w : World) (hx : 0 ≤ x ∧ x ≤ 255) (hbl : b < w.heap.size) (h0 : w.cell? ⟨b, off + at', none⟩ = some (.int .u8 x)) (hl : at' + 1 ≤ len) :
    Calls Try.prog 32 #[.slice (some ⟨b, off, none⟩) len cap, .int .i64 at', .int .i64 1] w fun e w' => e = .returned (.int .i64 (Cx.mean [x])) ∧ Below w.heap.size w w' := by
  have h0' : ∀ o : Obj, (w.alloc o).cell? ⟨b, off + at', none⟩ = some (.int .u8 x) := fun o => ((Below.refl w.heap.size w).alloc (Nat.le_refl _) o |>.cell (p := ⟨b, off + at', none⟩) hbl).trans h0
  have hi : (at' : Int) < (len : Int) := by omega
  clear h0
  go_enter Try.func32, Try.ntmps32
  go_wp2
  go_quiet (fail)
  go_wp2
  refine wp_loop_rounds 1 ?_
  rw [rounds_succ]
  go_wp2
  go_ret
  exact ⟨ret_int' (by simp only [Cx.mean]), below_drewN ((Below.refl _ _).alloc (Nat.le_refl _) _) _⟩

set_option maxRecDepth 100000 in
theorem meant2 (b off cap len at' : Nat) (x y : Int) (w : World) (hx : 0 ≤ x ∧ x ≤ 255) (hy : 0 ≤ y ∧ y ≤ 255) (hbl : b < w.heap.size) (h0 : w.cell? ⟨b, off + at', none⟩ = some (.int .u8 x)) (h1 : w.cell? ⟨b, off + (at' + 1), none⟩ = some (.int .u8 y)) (hl : at' + 2 ≤ len) (hm : len ≤ 4611686018427387904) :
    Calls Try.prog 32 #[.slice (some ⟨b, off, none⟩) len cap, .int .i64 at', .int .i64 2] w fun e w' => e = .returned (.int .i64 (Cx.mean [x, y])) ∧ Below w.heap.size w w' := by
  have h0' : ∀ o : Obj, (w.alloc o).cell? ⟨b, off + at', none⟩ = some (.int .u8 x) := fun o => ((Below.refl w.heap.size w).alloc (Nat.le_refl _) o |>.cell (p := ⟨b, off + at', none⟩) hbl).trans h0
  have h1' : ∀ o : Obj, (w.alloc o).cell? ⟨b, off + (at' + 1), none⟩ = some (.int .u8 y) := fun o => ((Below.refl w.heap.size w).alloc (Nat.le_refl _) o |>.cell (p := ⟨b, off + (at' + 1), none⟩) hbl).trans h1
  have hi : (at' : Int) < (len : Int) := by omega
  have hi1 : (at' : Int) + 1 < (len : Int) := by omega
  clear h0 h1
  go_enter Try.func32, Try.ntmps32
  go_wp2
  go_quiet (fail)
  go_wp2
  refine wp_loop_rounds 2 ?_
  rw [rounds_succ]
  go_wp2
  rw [rounds_succ]
  go_wp2
  go_ret
  exact ⟨ret_int' (by simp only [Cx.mean]), below_drewN ((Below.refl _ _).alloc (Nat.le_refl _) _) _⟩

set_option maxRecDepth 100000 in
theorem meant3 (b off cap len at' : Nat) (x y z : Int) (w : World) (hx : 0 ≤ x ∧ x ≤ 255) (hy : 0 ≤ y ∧ y ≤ 255) (hz : 0 ≤ z ∧ z ≤ 255) (hbl : b < w.heap.size) (h0 : w.cell? ⟨b, off + at', none⟩ = some (.int .u8 x)) (h1 : w.cell? ⟨b, off + (at' + 1), none⟩ = some (.int .u8 y)) (h2 : w.cell? ⟨b, off + (at' + 2), none⟩ = some (.int .u8 z)) (hl : at' + 3 ≤ len) (hm : len ≤ 4611686018427387904) :
    Calls Try.prog 32 #[.slice (some ⟨b, off, none⟩) len cap, .int .i64 at', .int .i64 3] w fun e w' => e = .returned (.int .i64 (Cx.mean [x, y, z])) ∧ Below w.heap.size w w' := by
  have h0' : ∀ o : Obj, (w.alloc o).cell? ⟨b, off + at', none⟩ = some (.int .u8 x) := fun o => ((Below.refl w.heap.size w).alloc (Nat.le_refl _) o |>.cell (p := ⟨b, off + at', none⟩) hbl).trans h0
  have h1' : ∀ o : Obj, (w.alloc o).cell? ⟨b, off + (at' + 1), none⟩ = some (.int .u8 y) := fun o => ((Below.refl w.heap.size w).alloc (Nat.le_refl _) o |>.cell (p := ⟨b, off + (at' + 1), none⟩) hbl).trans h1
  have h2' : ∀ o : Obj, (w.alloc o).cell? ⟨b, off + (at' + 2), none⟩ = some (.int .u8 z) := fun o => ((Below.refl w.heap.size w).alloc (Nat.le_refl _) o |>.cell (p := ⟨b, off + (at' + 2), none⟩) hbl).trans h2
  have hi : (at' : Int) < (len : Int) := by omega
  have hi1 : (at' : Int) + 1 < (len : Int) := by omega
  have hi2 : (at' : Int) + 2 < (len : Int) := by omega
  clear h0 h1 h2
  go_enter Try.func32, Try.ntmps32
  go_wp2
  go_quiet (fail)
  go_wp2
  refine wp_loop_rounds 3 ?_
  rw [rounds_succ]
  go_wp2
  rw [rounds_succ]
  go_wp2
  rw [rounds_succ]
  go_wp2
  go_ret
  exact ⟨ret_int' (by simp only [Cx.mean]), below_drewN ((Below.refl _ _).alloc (Nat.le_refl _) _) _⟩

set_option maxRecDepth 100000 in
theorem meant4 (b off cap len at' : Nat) (x y z u : Int) (w : World) (hx : 0 ≤ x ∧ x ≤ 255) (hy : 0 ≤ y ∧ y ≤ 255) (hz : 0 ≤ z ∧ z ≤ 255) (hu : 0 ≤ u ∧ u ≤ 255) (hbl : b < w.heap.size) (h0 : w.cell? ⟨b, off + at', none⟩ = some (.int .u8 x)) (h1 : w.cell? ⟨b, off + (at' + 1), none⟩ = some (.int .u8 y)) (h2 : w.cell? ⟨b, off + (at' + 2), none⟩ = some (.int .u8 z)) (h3 : w.cell? ⟨b, off + (at' + 3), none⟩ = some (.int .u8 u)) (hl : at' + 4 ≤ len) (hm : len ≤ 4611686018427387904) :
    Calls Try.prog 32 #[.slice (some ⟨b, off, none⟩) len cap, .int .i64 at', .int .i64 4] w fun e w' => e = .returned (.int .i64 (Cx.mean [x, y, z, u])) ∧ Below w.heap.size w w' := by
  have h0' : ∀ o : Obj, (w.alloc o).cell? ⟨b, off + at', none⟩ = some (.int .u8 x) := fun o => ((Below.refl w.heap.size w).alloc (Nat.le_refl _) o |>.cell (p := ⟨b, off + at', none⟩) hbl).trans h0
  have h1' : ∀ o : Obj, (w.alloc o).cell? ⟨b, off + (at' + 1), none⟩ = some (.int .u8 y) := fun o => ((Below.refl w.heap.size w).alloc (Nat.le_refl _) o |>.cell (p := ⟨b, off + (at' + 1), none⟩) hbl).trans h1
  have h2' : ∀ o : Obj, (w.alloc o).cell? ⟨b, off + (at' + 2), none⟩ = some (.int .u8 z) := fun o => ((Below.refl w.heap.size w).alloc (Nat.le_refl _) o |>.cell (p := ⟨b, off + (at' + 2), none⟩) hbl).trans h2
  have h3' : ∀ o : Obj, (w.alloc o).cell? ⟨b, off + (at' + 3), none⟩ = some (.int .u8 u) := fun o => ((Below.refl w.heap.size w).alloc (Nat.le_refl _) o |>.cell (p := ⟨b, off + (at' + 3), none⟩) hbl).trans h3
  have hi : (at' : Int) < (len : Int) := by omega
  have hi1 : (at' : Int) + 1 < (len : Int) := by omega
  have hi2 : (at' : Int) + 2 < (len : Int) := by omega
  have hi3 : (at' : Int) + 3 < (len : Int) := by omega
  clear h0 h1 h2 h3
  go_enter Try.func32, Try.ntmps32
  go_wp2
  go_quiet (fail)
  go_wp2
  refine wp_loop_rounds 4 ?_
  rw [rounds_succ]
  go_wp2
  rw [rounds_succ]
  go_wp2
  rw [rounds_succ]
  go_wp2
  rw [rounds_succ]
  go_wp2
  go_ret
  exact ⟨ret_int' (by simp only [Cx.mean]), below_drewN ((Below.refl _ _).alloc (Nat.le_refl _) _) _⟩

theorem drop_take (zs : List Int) (n at' : Nat) : ∀ i, i < n → ((zs.drop at').take n)[i]?.getD 0 = zs[at' + i]?.getD 0 := by
  intro i hi
  rw [List.getElem?_take, if_pos hi, List.getElem?_drop]

/-- meant: n bytes from a place on. -/
theorem meant_any (v : Value) (zs : List Int) (at' n : Nat) (w : World) (h : Rd .u8 w v zs) (hb : Byt zs) (h1 : 1 ≤ n) (h4 : n ≤ 4) (hl : at' + n ≤ zs.length) (hm : zs.length ≤ 4611686018427387904) :
    Calls Try.prog 32 #[v, .int .i64 at', .int .i64 n] w fun e w' => e = .returned (.int .i64 (Cx.mean ((zs.drop at').take n))) ∧ Below w.heap.size w w' := by
  obtain ⟨ao, cap, rfl, hlc, hcm, hc⟩ := h
  obtain ⟨b, off, rfl, hbl, hc⟩ := hc (List.length_pos_iff.1 (by omega))
  have e : n = 1 ∨ n = 2 ∨ n = 3 ∨ n = 4 := by omega
  have g : ∀ j, j < n → w.cell? ⟨b, off + (at' + j), none⟩ = some (.int .u8 (zs[at' + j]?.getD 0)) := fun j hj => hc _ (by omega)
  have len : ((zs.drop at').take n).length = n := by rw [List.length_take, List.length_drop]; omega
  have dt := drop_take zs n at'
  rcases e with rfl | rfl | rfl | rfl
  · have e : (zs.drop at').take 1 = [zs[at']?.getD 0] := by
      apply List.ext_getElem (by simpa using len)
      intro i h1 h2
      have := dt i (by omega)
      rw [List.getElem?_eq_getElem h1] at this
      simp at h2; subst h2
      simpa using this
    rw [e]
    exact meant1 b off cap zs.length at' _ w (hb.at _) hbl (g 0 (by omega)) hl
  · have e : (zs.drop at').take 2 = [zs[at']?.getD 0, zs[at' + 1]?.getD 0] := by
      apply List.ext_getElem (by simpa using len)
      intro i h1 h2
      have := dt i (by omega)
      rw [List.getElem?_eq_getElem h1] at this
      have hi : i = 0 ∨ i = 1 := by simp at h2; omega
      rcases hi with rfl | rfl <;> simpa using this
    rw [e]
    exact meant2 b off cap zs.length at' _ _ w (hb.at _) (hb.at _) hbl (g 0 (by omega)) (g 1 (by omega)) hl hm
  · have e : (zs.drop at').take 3 = [zs[at']?.getD 0, zs[at' + 1]?.getD 0, zs[at' + 2]?.getD 0] := by
      apply List.ext_getElem (by simpa using len)
      intro i h1 h2
      have := dt i (by omega)
      rw [List.getElem?_eq_getElem h1] at this
      have hi : i = 0 ∨ i = 1 ∨ i = 2 := by simp at h2; omega
      rcases hi with rfl | rfl | rfl <;> simpa using this
    rw [e]
    exact meant3 b off cap zs.length at' _ _ _ w (hb.at _) (hb.at _) (hb.at _) hbl (g 0 (by omega)) (g 1 (by omega)) (g 2 (by omega)) hl hm
  · have e : (zs.drop at').take 4 = [zs[at']?.getD 0, zs[at' + 1]?.getD 0, zs[at' + 2]?.getD 0, zs[at' + 3]?.getD 0] := by
      apply List.ext_getElem (by simpa using len)
      intro i h1 h2
      have := dt i (by omega)
      rw [List.getElem?_eq_getElem h1] at this
      have hi : i = 0 ∨ i = 1 ∨ i = 2 ∨ i = 3 := by simp at h2; omega
      rcases hi with rfl | rfl | rfl | rfl <;> simpa using this
    rw [e]
    exact meant4 b off cap zs.length at' _ _ _ _ w (hb.at _) (hb.at _) (hb.at _) (hb.at _) hbl (g 0 (by omega)) (g 1 (by omega)) (g 2 (by omega)) (g 3 (by omega)) hl hm

theorem Cx.hit_no_sc (b : List Int) (k : Nat) (h : Cx.isSc (Cx.mean (b.take k)) = false) : Cx.hitB b k = false := by unfold Cx.hitB; rw [h]; simp
theorem Cx.hit_eq (b : List Int) (k : Nat) (h : k ≤ b.length) (hs : Cx.isSc (Cx.mean (b.take k)) = true) : Cx.hitB b k = (decide ((Cx.put8 (Cx.mean (b.take k))).length = k) && (Cx.put8 (Cx.mean (b.take k))).isPrefixOf b) := by
  unfold Cx.hitB; rw [hs, decide_eq_true h]; simp
theorem Cx.put8_ne (a : Int) : Cx.put8 a ≠ [] := by
  unfold Cx.put8
  repeat' split
  all_goals simp
theorem Cx.put8_len (a : Int) : (Cx.put8 a).length ≤ 4 := by
  unfold Cx.put8
  repeat' split
  all_goals simp

theorem Rd.of_lit {w w' : World} {v : Value} {bs : List Int} (h : Cx.Lit w w' v bs) (hl : bs.length ≤ maxLen) : Rd .u8 w' v bs := by
  obtain ⟨g, rfl, hg, hc, hb⟩ := h.head
  refine ⟨_, _, rfl, Nat.le_refl _, hl, fun hn => ⟨g, 0, rfl, ?_, fun i hi => ?_⟩⟩
  · have := hc 0 (List.length_pos_iff.2 hn)
    exact World.block_lt_of_cell? w' _ this
  · rw [Nat.zero_add, hc i hi]; simp [List.getD]

set_option maxRecDepth 100000 in
set_option maxHeartbeats 1000000 in
/-- eightAt: the atom at a place of UTF8, and its bytes. -/
theorem eightAt_any (v : Value) (zs : List Int) (at' : Nat) (w : World) (h : Rd .u8 w v zs) (hb : Byt zs) (hl : at' < zs.length) (hm : zs.length ≤ 4611686018427387000) :
    Calls Try.prog 27 #[v, .int .i64 at'] w fun e w' => e = .returned (.tuple #[.int .i64 (Cx.first8 (zs.drop at')).1, .int .i64 (Cx.first8 (zs.drop at')).2]) ∧ Below w.heap.size w w' := by
  have HR : Hid (Rd .u8 w v zs) := h
  have HB : Hid (Byt zs) := hb
  have hx := hb.at at'
  obtain ⟨ao, cap, rfl, hlc, hcm, hc⟩ := h
  obtain ⟨b, off, rfl, hbl, hc⟩ := hc (List.length_pos_iff.1 (by omega))
  have h0 := hc at' hl
  have HX : Hid (zs[at']?.getD 0 = Cx.c0 (zs.drop at')) := by unfold Hid Cx.c0; rw [List.getElem?_drop, Nat.add_zero]
  have HY : Hid (∀ k : Nat, 1 ≤ k → k ≤ 4 → Cx.hitB (zs.drop at') k = true → Cx.first8 (zs.drop at') = (Cx.mean ((zs.drop at').take k), (k : Int))) := Cx.first8_hit _ (hb.drop at')
  have HN : Hid ((∀ k : Nat, 1 ≤ k → k ≤ 4 → k ≤ (zs.drop at').length → Cx.hitB (zs.drop at') k = false) → Cx.first8 (zs.drop at') = (-1 - Cx.c0 (zs.drop at'), 1)) := Cx.first8_none _ (hb.drop at')
  have hlen : (zs.drop at').length = zs.length - at' := List.length_drop
  generalize zs[at']?.getD 0 = x at *
  clear hc hb hcm
  go_enter Try.func27, Try.ntmps27
  go_wp2_with fail
  go_loopw [6] (fun i wr => ∃ k : Nat, 1 ≤ k ∧ k ≤ 5 ∧ i = .int .i64 k ∧ Hid (∀ j : Nat, 1 ≤ j → j < k → Cx.hitB (zs.drop at') j = false) ∧ Below w.heap.size w wr) (fun i _ => 5 - (intOf i).toNat)
  case atStart => exact ⟨1, Nat.le_refl _, by omega, rfl, fun j h1 h2 => by omega, Below.refl _ _⟩
  case round =>
    obtain ⟨k, hk1, hk2, rfl, HJ, hbw⟩ := hrel
    have HBW : Hid (Below w.heap.size w wr) := hbw
    by_cases hin : k ≤ 4 ∧ at' + k ≤ zs.length
    · obtain ⟨hin1, hin2⟩ := hin
      have HK : Hid (Cx.hitB (zs.drop at') k = false → ∀ j : Nat, 1 ≤ j → j < k + 1 → Cx.hitB (zs.drop at') j = false) := fun hh j h1 h2 => by
        by_cases hj : j = k
        · rw [hj]; exact hh
        · exact HJ.out j h1 (by omega)
      have HF := HY.out k hk1 hin1
      have HQ := Cx.hit_eq (zs.drop at') k (by omega)
      have HS := Cx.hit_no_sc (zs.drop at') k
      have HSC := Cx.sc_iff (Cx.mean ((zs.drop at').take k))
      clear HJ HN HY hbw h0
      go_wp2_with fail
      refine (meant_any _ zs at' k _ (HR.out.ext HBW.out) HB.out hk1 hin1 hin2 (by omega)).mono ?_
      rintro e w1 ⟨rfl, hb1⟩
      have HW1 : Hid (Below w.heap.size w w1) := ext_trans HBW.out hb1
      clear hb1 HBW
      generalize Cx.mean ((zs.drop at').take k) = m at *
      have HF' : Hid (Cx.hitB (zs.drop at') k = true → Cx.first8 (zs.drop at') = (m, (k : Int))) := HF
      have HQ' : Hid (Cx.isSc m = true → Cx.hitB (zs.drop at') k = (decide ((Cx.put8 m).length = k) && (Cx.put8 m).isPrefixOf (zs.drop at'))) := HQ
      have HS' : Hid (Cx.isSc m = false → Cx.hitB (zs.drop at') k = false) := HS
      have HSC' : Hid (Cx.isSc m = true ↔ (0 ≤ m ∧ m < 55296) ∨ (57343 < m ∧ m ≤ 1114111)) := HSC
      clear HF HQ HS HSC
      go_wp2_with fail
      refine (Scalar_any m _).mono ?_
      rintro e w' ⟨rfl, rfl⟩
      cases hsc : Cx.isSc m
      · have HT : Hid (∀ j : Nat, 1 ≤ j → j < k + 1 → Cx.hitB (zs.drop at') j = false) := HK.out (HS'.out hsc)
        clear HK HF' HQ' HS' HSC' hsc
        go_wp2_with fail
        go_roundw
        case rel => exact ⟨k + 1, by omega, by omega, by go_num, HT.out, HW1.out⟩
        case measure => simp [intOf]; omega
      · have hmr := HSC'.out.1 hsc
        have hm0 : 0 ≤ m := by omega
        have hm1 : m ≤ 1114111 := by omega
        have HE : Hid (Cx.hitB (zs.drop at') k = (decide ((Cx.put8 m).length = k) && (Cx.put8 m).isPrefixOf (zs.drop at'))) := HQ'.out hsc
        clear HQ' HS' HSC' hsc hmr
        go_wp2_with fail
        refine (eight_any m _ hm0 hm1).mono ?_
        rintro e w2 ⟨pv, rfl, hlit⟩
        have hpl := Cx.put8_len m
        have hpn : Hid (Cx.put8 m ≠ []) := Cx.put8_ne m
        have hrd := Rd.of_lit hlit (by simp only [maxLen]; omega)
        have HW2 : Hid (Below w.heap.size w w2) := by obtain ⟨_, _, _, _, hb2⟩ := hlit; exact ext_trans HW1.out hb2
        obtain ⟨pa, pc, rfl, _⟩ := id hrd
        have HP : Hid (Rd .u8 w2 (.slice pa (Cx.put8 m).length pc) (Cx.put8 m)) := hrd
        clear hrd hlit HW1
        generalize Cx.put8 m = ps at *
        go_wp2_with fail
        refine (begins_any _ _ zs ps at' _ (HR.out.ext HW2.out) HP.out (by omega) hpn.out (by omega)).mono ?_
        rintro e w3 ⟨rfl, hb3⟩
        have HW3 : Hid (Below w.heap.size w w3) := ext_trans HW2.out hb3
        clear hb3 HW2 HP
        by_cases hpk : ps.length = k
        · have hq : ((ps.length : Int) == (k : Int)) = true := by rw [hpk]; simp
          cases hpf : ps.isPrefixOf (zs.drop at')
          · have HT : Hid (∀ j : Nat, 1 ≤ j → j < k + 1 → Cx.hitB (zs.drop at') j = false) := HK.out (by rw [HE.out, hpf]; simp)
            clear HK HF' HE hpf hpk
            go_wp2_with fail
            go_roundw
            case rel => exact ⟨k + 1, by omega, by omega, by go_num, HT.out, HW3.out⟩
            case measure => simp [intOf]; omega
          · have HT : Hid (Cx.first8 (zs.drop at') = (m, (k : Int))) := HF'.out (by rw [HE.out, hpf, decide_eq_true hpk]; rfl)
            clear HK HF' HE hpf hpk
            go_wp2_with fail
            go_ret2
            exact ⟨by rw [HT.out]; rfl, HW3.out⟩
        · have hq : ((ps.length : Int) == (k : Int)) = false := by simp; omega
          have HT : Hid (∀ j : Nat, 1 ≤ j → j < k + 1 → Cx.hitB (zs.drop at') j = false) := HK.out (by rw [HE.out, decide_eq_false hpk]; rfl)
          generalize ps.isPrefixOf (zs.drop at') = pf at *
          clear HK HF' HE hpk
          go_wp2_with fail
          go_roundw
          case rel => exact ⟨k + 1, by omega, by omega, by go_num, HT.out, HW3.out⟩
          case measure => simp [intOf]; omega
    · have HT : Hid (Cx.first8 (zs.drop at') = (-1 - x, 1)) := by
        rw [HX.out]
        exact HN.out fun j h1 h4 hj => HJ.out j h1 (by omega)
      have hcx : wr.cell? ⟨b, off + at', none⟩ = some (.int .u8 x) := (hbw.cell (p := ⟨b, off + at', none⟩) hbl).trans h0
      clear HJ HN HY HX h0 hbw
      by_cases hin1 : k ≤ 4
      · have hin2 : zs.length < at' + k := by omega
        clear hin
        go_wp2_with fail
        go_ret2
        exact ⟨by rw [HT.out]; rfl, HBW.out⟩
      · clear hin
        go_wp2_with fail
        go_ret2
        exact ⟨by rw [HT.out]; rfl, HBW.out⟩
end Go.Proofs.Ytmfbobibpebfnaa
