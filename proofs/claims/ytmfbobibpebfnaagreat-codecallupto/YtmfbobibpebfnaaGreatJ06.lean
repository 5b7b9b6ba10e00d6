import Derived.Test.YtmfbobibpebfnaaGreatJ03
import Derived.Test.YtmfbobibpebfnaaGreatJ00
/- The bytes of one atom, laid behind what is there: the code's put. -/
namespace Go.Proofs.YtmfbobibpebfnaaGreat
open Go.RowKit

theorem and63 {x : Int} (h0 : 0 ≤ x) (h1 : x < 9223372036854775808) : bits .and .i64 x 63 = x % 64 := bits_mask .i64 63 (by decide) wraps_i64 6 (by decide) x h0 (by omega)
theorem orJ (i : Nat) {x y : Int} (hx0 : 0 ≤ x) (hx : x % 2 ^ i = 0) (hx1 : x < 9223372036854775808) (h0 : 0 ≤ y) (h1 : y < 2 ^ i) (h2 : y < 9223372036854775808) : bits .or .i64 x y = x + y := bits_join .i64 63 (by decide) wraps_i64 i x y hx0 hx (by omega) h0 h1 (by omega)

theorem further_any (r : Int) (w : World) (h0 : 0 ≤ r) (h1 : r ≤ 1114111) : Calls Tryz.prog 99 #[.int .i64 r] w fun e w' => e = .returned (.int .u8 (128 + r % 64)) ∧ w' = w := by
  have e1 : bits .and .i64 r 63 = r % 64 := and63 h0 (by omega)
  have e2 : bits .or .i64 128 (r % 64) = 128 + r % 64 := orJ 6 (by omega) (by decide) (by omega) (by omega) (by omega) (by omega)
  go_enter Tryz.func99, Tryz.ntmps99
  go_wp2
  go_ret
  exact ⟨ret_int' (by omega), rfl⟩
theorem rawByte_any (a : Int) (w : World) (h0 : -256 ≤ a) (h1 : a ≤ -1) : Calls Tryz.prog 98 #[.int .i64 a] w fun e w' => e = .returned (.int .u8 (-1 - a)) ∧ w' = w := by
  go_enter Tryz.func98, Tryz.ntmps98
  go_wp2
  go_ret
  exact ⟨rfl, rfl⟩

theorem cell_lit1 (w : World) (o : Obj) (e : TypeId) (cs : List Value) : ∀ j u, cs[j]? = some u → ((w.alloc o).alloc (.cells cs.toArray e)).cell? ((⟨w.heap.size + 1, 0, none⟩ : Addr).add j) = some u := by
  intro j u hu
  have h : ((w.alloc o).alloc (.cells cs.toArray e)).heap[w.heap.size + 1]? = some (.cells cs.toArray e) := by
    have := heap_alloc_new (w.alloc o) (.cells cs.toArray e)
    rwa [World.size_alloc] at this
  have hadd : (⟨w.heap.size + 1, 0, none⟩ : Addr).add j = ⟨w.heap.size + 1, j, none⟩ := by unfold Addr.add; split <;> simp_all
  rw [hadd, cell_of_row _ _ j _ _ _ h]
  simpa using hu
theorem below_put {base : Nat} {w w' : World} {o o' : Obj} {out : Value} {n : Nat} (hbase : base ≤ w.heap.size) (hlt : ∀ k, out.ownBlock = some k → base ≤ k ∧ k < n) (hg : ((w.alloc o).alloc o').grownBy w' out.ownBlock) : Below base w w' :=
  (((Below.refl base w).alloc hbase o).alloc (by simp; omega) o').grown hg (by simp; omega) (fun k hk => (hlt k hk).1)
theorem below_put3 {base : Nat} {w w' : World} {o o' o'' : Obj} {out : Value} {n : Nat} (hbase : base ≤ w.heap.size) (hlt : ∀ k, out.ownBlock = some k → base ≤ k ∧ k < n) (hg : (((w.alloc o).alloc o').alloc o'').grownBy w' out.ownBlock) : Below base w w' :=
  ((((Below.refl base w).alloc hbase o).alloc (by simp; omega) o').alloc (by simp; omega) o'').grown hg (by simp; omega) (fun k hk => (hlt k hk).1)
theorem grown_put3 {w w' : World} {o o' o'' : Obj} {row : Option Nat} (hg : (((w.alloc o).alloc o').alloc o'').grownBy w' row) : w.grownBy w' row :=
  ⟨hg.os, hg.tape, hg.output, by have := hg.size; simp at this; omega, fun k hk hne => by
    rw [hg.block k (by simp; omega) hne, Below.heap_alloc _ _ _ (by simp; omega), Below.heap_alloc _ _ _ (by simp; omega), Below.heap_alloc _ _ _ hk]⟩
theorem ones_u8 (bs : List Int) : ∀ u ∈ bs.map (Value.int .u8), u.oneCell' = true := by
  intro u hu
  obtain ⟨_, _, rfl⟩ := List.mem_map.1 hu
  rfl

set_option maxRecDepth 100000 in
theorem put1_any (out : Value) (xs : List Int) (base : Nat) (a : Int) (w : World) (hown : w.ownsRow base 5 1 out xs.length (xs.map (Value.int .u8))) (hbase : base ≤ w.heap.size) (hl : xs.length + 4 ≤ 140737488355328) (hf : Cx.fits 1 a = true) :
    Calls Tryz.prog 95 #[.agg #[], out, .int .i64 a] w fun e w' => ∃ v', e = .returned v' ∧ w'.ownsRow base 5 1 v' (xs ++ Cx.put 1 a).length ((xs ++ Cx.put 1 a).map (Value.int .u8)) ∧ Below base w w' := by
  obtain ⟨i0, hi, hz0, hz1, hz2⟩ := info_parts Tryz.info_u8
  have hfr : (-256 ≤ a ∧ a ≤ -129) ∨ (0 ≤ a ∧ a ≤ 1114111) := by
    unfold Cx.fits Cx.isSc at hf
    simp at hf
    omega
  have hlt := hown.lt
  clear hf
  rcases (show (-256 ≤ a ∧ a ≤ -129) ∨ (0 ≤ a ∧ a < 128) ∨ (128 ≤ a ∧ a < 2048) ∨ (2048 ≤ a ∧ a < 65536) ∨ (65536 ≤ a ∧ a ≤ 1114111) from by omega) with ⟨h1, h2⟩ | ⟨h1, h2⟩ | ⟨h1, h2⟩ | ⟨h1, h2⟩ | ⟨h1, h2⟩
  · have HE : Hid (Cx.put 1 a = [-1 - a]) := by unfold Hid Cx.put; rw [if_pos (by omega)]
    clear hfr
    go_enter Tryz.func95, Tryz.ntmps95
    go_wp2_with (first | (go_at_call 98; refine (rawByte_any _ _ (by omega) (by omega)).mono ?_; rintro e w' ⟨rfl, rfl⟩) | (at_builtin; refine wpList_append_own _ rfl _ _ 35 rfl base 5 i0 (.int .u8 0) 1 1 Tryz.underlying35 hi hz0 hz1 hz2 rfl (by decide) _ _ _ rfl ((hown.alloc _).alloc _) ⟨w.heap.size + 1, 0, none⟩ 1 1 ([-1 - a].map (Value.int .u8)) rfl rfl (cell_lit1 _ _ _ _) (ones_u8 _) (by unfold maxLen; omega) (by omega) (by simp; omega) ?_; intro v' w' hown' hg' hx'))
    go_ret
    exact ⟨_, rfl, by rw [HE.out, List.length_append, List.map_append]; exact hown', below_put hbase hlt hg'⟩
  · have HE : Hid (Cx.put 1 a = [a]) := by unfold Hid Cx.put Cx.put8; rw [if_neg (by omega), if_pos rfl, if_pos h2]
    clear hfr
    go_enter Tryz.func95, Tryz.ntmps95
    go_wp2_with (first | (at_builtin; refine wpList_append_own _ rfl _ _ 35 rfl base 5 i0 (.int .u8 0) 1 1 Tryz.underlying35 hi hz0 hz1 hz2 rfl (by decide) _ _ _ rfl ((hown.alloc _).alloc _) ⟨w.heap.size + 1, 0, none⟩ 1 1 ([a].map (Value.int .u8)) rfl rfl (cell_lit1 _ _ _ _) (ones_u8 _) (by unfold maxLen; omega) (by omega) (by simp; omega) ?_; intro v' w' hown' hg' hx'))
    go_ret
    exact ⟨_, rfl, by rw [HE.out, List.length_append, List.map_append]; exact hown', below_put hbase hlt hg'⟩
  · have HE : Hid (Cx.put 1 a = [192 + a / 64, 128 + a % 64]) := by unfold Hid Cx.put Cx.put8; rw [if_neg (by omega), if_pos rfl, if_neg (by omega), if_pos h2]
    have e1 : bits .or .i64 192 (a / 64) = 192 + a / 64 := orJ 5 (by omega) (by decide) (by omega) (by omega) (by omega) (by omega)
    clear hfr
    go_enter Tryz.func95, Tryz.ntmps95
    go_wp2_with (first | (go_at_call 99; refine (further_any _ _ (by omega) (by omega)).mono ?_; rintro e wf ⟨rfl, rfl⟩) | (at_builtin; refine wpList_append_own _ rfl _ _ 35 rfl base 5 i0 (.int .u8 0) 1 1 Tryz.underlying35 hi hz0 hz1 hz2 rfl (by decide) _ _ _ rfl ((hown.alloc _).alloc _) ⟨w.heap.size + 1, 0, none⟩ 2 2 ([192 + a / 64, 128 + a % 64].map (Value.int .u8)) rfl rfl (cell_lit1 _ _ _ _) (ones_u8 _) (by unfold maxLen; omega) (by omega) (by simp; omega) ?_; intro v' w' hown' hg' hx'))
    go_ret
    exact ⟨_, rfl, by rw [HE.out, List.length_append, List.map_append]; exact hown', below_put hbase hlt hg'⟩
  · have HE : Hid (Cx.put 1 a = [224 + a / 4096, 128 + a / 64 % 64, 128 + a % 64]) := by unfold Hid Cx.put Cx.put8; rw [if_neg (by omega), if_pos rfl, if_neg (by omega), if_neg (by omega), if_pos h2]
    have e1 : bits .or .i64 224 (a / 4096) = 224 + a / 4096 := orJ 4 (by omega) (by decide) (by omega) (by omega) (by omega) (by omega)
    clear hfr
    go_enter Tryz.func95, Tryz.ntmps95
    go_wp2_with (first | (go_at_call 99; refine (further_any _ _ (by omega) (by omega)).mono ?_; rintro e wf ⟨rfl, rfl⟩) | (at_builtin; refine wpList_append_own _ rfl _ _ 35 rfl base 5 i0 (.int .u8 0) 1 1 Tryz.underlying35 hi hz0 hz1 hz2 rfl (by decide) _ _ _ rfl ((hown.alloc _).alloc _) ⟨w.heap.size + 1, 0, none⟩ 3 3 ([224 + a / 4096, 128 + a / 64 % 64, 128 + a % 64].map (Value.int .u8)) rfl rfl (cell_lit1 _ _ _ _) (ones_u8 _) (by unfold maxLen; omega) (by omega) (by simp; omega) ?_; intro v' w' hown' hg' hx'))
    go_ret
    exact ⟨_, rfl, by rw [HE.out, List.length_append, List.map_append]; exact hown', below_put hbase hlt hg'⟩
  · have HE : Hid (Cx.put 1 a = [240 + a / 262144, 128 + a / 4096 % 64, 128 + a / 64 % 64, 128 + a % 64]) := by unfold Hid Cx.put Cx.put8; rw [if_neg (by omega), if_pos rfl, if_neg (by omega), if_neg (by omega), if_neg (by omega)]
    have e1 : bits .or .i64 240 (a / 262144) = 240 + a / 262144 := orJ 4 (by omega) (by decide) (by omega) (by omega) (by omega) (by omega)
    clear hfr
    go_enter Tryz.func95, Tryz.ntmps95
    go_wp2_with (first | (go_at_call 99; refine (further_any _ _ (by omega) (by omega)).mono ?_; rintro e wf ⟨rfl, rfl⟩) | (at_builtin; refine wpList_append_own _ rfl _ _ 35 rfl base 5 i0 (.int .u8 0) 1 1 Tryz.underlying35 hi hz0 hz1 hz2 rfl (by decide) _ _ _ rfl ((hown.alloc _).alloc _) ⟨w.heap.size + 1, 0, none⟩ 4 4 ([240 + a / 262144, 128 + a / 4096 % 64, 128 + a / 64 % 64, 128 + a % 64].map (Value.int .u8)) rfl rfl (cell_lit1 _ _ _ _) (ones_u8 _) (by unfold maxLen; omega) (by omega) (by simp; omega) ?_; intro v' w' hown' hg' hx'))
    go_ret
    exact ⟨_, rfl, by rw [HE.out, List.length_append, List.map_append]; exact hown', below_put hbase hlt hg'⟩

set_option maxRecDepth 100000 in
theorem put4_any (out : Value) (xs : List Int) (base : Nat) (a : Int) (w : World) (hown : w.ownsRow base 5 1 out xs.length (xs.map (Value.int .u8))) (hbase : base ≤ w.heap.size) (hl : xs.length + 4 ≤ 140737488355328) (hf : Cx.fits 4 a = true) :
    Calls Tryz.prog 117 #[.agg #[], out, .int .i64 a] w fun e w' => ∃ v', e = .returned v' ∧ w'.ownsRow base 5 1 v' (xs ++ Cx.put 4 a).length ((xs ++ Cx.put 4 a).map (Value.int .u8)) ∧ Below base w w' := by
  obtain ⟨i0, hi, hz0, hz1, hz2⟩ := info_parts Tryz.info_u8
  have hfr : 0 ≤ a ∧ a ≤ 255 := by
    unfold Cx.fits at hf
    simp at hf
    omega
  obtain ⟨h1, h2⟩ := hfr
  have hlt := hown.lt
  have HE : Hid (Cx.put 4 a = [a]) := by unfold Hid Cx.put; rw [if_neg (by omega)]; rfl
  clear hf
  go_enter Tryz.func117, Tryz.ntmps117
  go_wp2_with (at_builtin; refine wpList_append_own _ rfl _ _ 35 rfl base 5 i0 (.int .u8 0) 1 1 Tryz.underlying35 hi hz0 hz1 hz2 rfl (by decide) _ _ _ rfl ((hown.alloc _).alloc _) ⟨w.heap.size + 1, 0, none⟩ 1 1 ([a].map (Value.int .u8)) rfl rfl (cell_lit1 _ _ _ _) (ones_u8 _) (by unfold maxLen; omega) (by omega) (by simp; omega) ?_; intro v' w' hown' hg' hx')
  go_ret
  exact ⟨_, rfl, by rw [HE.out, List.length_append, List.map_append]; exact hown', below_put hbase hlt hg'⟩

theorem cell_lit2 (w : World) (o o' : Obj) (e : TypeId) (cs : List Value) : ∀ j u, cs[j]? = some u → (((w.alloc o).alloc o').alloc (.cells cs.toArray e)).cell? ((⟨w.heap.size + 1 + 1, 0, none⟩ : Addr).add j) = some u := by
  have h := cell_lit1 (w.alloc o) o' e cs
  rwa [World.size_alloc] at h

set_option maxRecDepth 100000 in
theorem putUnit_any (k : Int) (hk : k = 0 ∨ k = 1) (out : Value) (xs : List Int) (base : Nat) (u : Int) (w : World) (hown : w.ownsRow base 5 1 out xs.length (xs.map (Value.int .u8))) (hbase : base ≤ w.heap.size) (hl : xs.length + 4 ≤ 140737488355328) (h0 : 0 ≤ u) (h1 : u ≤ 65535) :
    Calls Tryz.prog 111 #[.agg #[.int .i64 k], out, .int .i64 u] w fun e w' => ∃ v', e = .returned v' ∧ w'.ownsRow base 5 1 v' (xs ++ Cx.unit (k + 2) u).length ((xs ++ Cx.unit (k + 2) u).map (Value.int .u8)) ∧ Below base w w' ∧ w.grownBy w' out.ownBlock := by
  obtain ⟨i0, hi, hz0, hz1, hz2⟩ := info_parts Tryz.info_u8
  have hlt := hown.lt
  rcases hk with rfl | rfl
  · have HE : Hid (Cx.unit (0 + 2) u = [u % 256, u / 256]) := rfl
    go_enter Tryz.func111, Tryz.ntmps111
    go_wp2_with (at_builtin; refine wpList_append_own _ rfl _ _ 35 rfl base 5 i0 (.int .u8 0) 1 1 Tryz.underlying35 hi hz0 hz1 hz2 rfl (by decide) _ _ _ rfl (((hown.alloc _).alloc _).alloc _) ⟨w.heap.size + 1 + 1, 0, none⟩ 2 2 ([u % 256, u / 256].map (Value.int .u8)) rfl rfl (cell_lit2 _ _ _ _ _) (ones_u8 _) (by unfold maxLen; omega) (by omega) (by simp; omega) ?_; intro v' w' hown' hg' hx')
    go_ret
    exact ⟨_, rfl, by rw [HE.out, List.length_append, List.map_append]; exact hown', below_put3 hbase hlt hg', grown_put3 hg'⟩
  · have HE : Hid (Cx.unit (1 + 2) u = [u / 256, u % 256]) := rfl
    go_enter Tryz.func111, Tryz.ntmps111
    go_wp2_with (at_builtin; refine wpList_append_own _ rfl _ _ 35 rfl base 5 i0 (.int .u8 0) 1 1 Tryz.underlying35 hi hz0 hz1 hz2 rfl (by decide) _ _ _ rfl (((hown.alloc _).alloc _).alloc _) ⟨w.heap.size + 1 + 1, 0, none⟩ 2 2 ([u / 256, u % 256].map (Value.int .u8)) rfl rfl (cell_lit2 _ _ _ _ _) (ones_u8 _) (by unfold maxLen; omega) (by omega) (by simp; omega) ?_; intro v' w' hown' hg' hx')
    go_ret
    exact ⟨_, rfl, by rw [HE.out, List.length_append, List.map_append]; exact hown', below_put3 hbase hlt hg', grown_put3 hg'⟩

set_option maxRecDepth 100000 in
theorem put2_any (k : Int) (hk : k = 0 ∨ k = 1) (out : Value) (xs : List Int) (base : Nat) (a : Int) (w : World) (hown : w.ownsRow base 5 1 out xs.length (xs.map (Value.int .u8))) (hbase : base ≤ w.heap.size) (hl : xs.length + 8 ≤ 140737488355328) (hf : Cx.fits (k + 2) a = true) :
    Calls Tryz.prog 105 #[.agg #[.int .i64 k], out, .int .i64 a] w fun e w' => ∃ v', e = .returned v' ∧ w'.ownsRow base 5 1 v' (xs ++ Cx.put (k + 2) a).length ((xs ++ Cx.put (k + 2) a).map (Value.int .u8)) ∧ Below base w w' := by
  obtain ⟨i0, hi, hz0, hz1, hz2⟩ := info_parts Tryz.info_u8
  have hfr : -256 ≤ a ∧ a ≤ 1114111 := by
    unfold Cx.fits at hf
    rcases hk with rfl | rfl <;> simp at hf <;> omega
  obtain ⟨h1, h2⟩ := hfr
  have hlt := hown.lt
  have HK : Hid (k = 0 ∨ k = 1) := hk
  clear hf
  rcases (show a < 0 ∨ (0 ≤ a ∧ a < 65536) ∨ 65536 ≤ a from by omega) with h3 | ⟨h3, h4⟩ | h3
  · have HE : Hid (Cx.put (k + 2) a = [-1 - a]) := by unfold Hid Cx.put; rw [if_pos h3]
    clear hk
    go_enter Tryz.func105, Tryz.ntmps105
    go_wp2_with (first | (go_at_call 98; refine (rawByte_any _ _ (by omega) (by omega)).mono ?_; rintro e w' ⟨rfl, rfl⟩) | (at_builtin; refine wpList_append_own _ rfl _ _ 35 rfl base 5 i0 (.int .u8 0) 1 1 Tryz.underlying35 hi hz0 hz1 hz2 rfl (by decide) _ _ _ rfl ((hown.alloc _).alloc _) ⟨w.heap.size + 1, 0, none⟩ 1 1 ([-1 - a].map (Value.int .u8)) rfl rfl (cell_lit1 _ _ _ _) (ones_u8 _) (by unfold maxLen; omega) (by omega) (by simp; omega) ?_; intro v' w' hown' hg' hx'))
    go_ret
    exact ⟨_, rfl, by rw [HE.out, List.length_append, List.map_append]; exact hown', below_put hbase hlt hg'⟩
  · have HE : Hid (Cx.put (k + 2) a = Cx.unit (k + 2) a) := by
      unfold Hid Cx.put; rw [if_neg (by omega), if_neg (by omega), if_neg (by omega), if_neg (by omega)]
    clear hk
    go_enter Tryz.func105, Tryz.ntmps105
    go_wp2_with fail
    refine (putUnit_any k HK.out _ xs base a _ (hown.alloc _) (by simp; omega) (by omega) h3 (by omega)).mono ?_
    rintro e w1 ⟨v1, rfl, hown1, hb1, hg1⟩
    have HO : Hid (w1.ownsRow base 5 1 v1 (xs ++ Cx.put (k + 2) a).length ((xs ++ Cx.put (k + 2) a).map (Value.int .u8))) := by rw [HE.out]; exact hown1
    clear hown1 hg1
    go_wp2
    go_ret
    exact ⟨_, rfl, HO.out, ((Below.refl base w).alloc hbase _).trans hb1⟩
  · have HE : Hid (xs ++ Cx.put (k + 2) a = (xs ++ Cx.unit (k + 2) (55296 + (a - 65536) / 1024)) ++ Cx.unit (k + 2) (56320 + (a - 65536) % 1024)) := by
      unfold Hid Cx.put; rw [if_neg (by omega), if_neg (by omega), if_neg (by omega), if_pos h3, List.append_assoc, show (a - 65536) % 1024 = a % 1024 from by omega]
    clear hk
    go_enter Tryz.func105, Tryz.ntmps105
    go_wp2_with fail
    refine (putUnit_any k HK.out _ xs base _ _ (hown.alloc _) (by simp; omega) (by omega) (by omega) (by omega)).mono ?_
    rintro e w1 ⟨v1, rfl, hown1, hb1, hg1⟩
    have hul : (xs ++ Cx.unit (k + 2) (55296 + (a - 65536) / 1024)).length = xs.length + 2 := by rw [List.length_append, Cx.unit_eq]; rfl
    have hcb : w1.cell? ⟨w.heap.size, 0, none⟩ = some (.int .i64 k) := by
      rw [World.cell?_of_block (w := w.alloc (.cells #[.int .i64 k] 78)) (hg1.block w.heap.size (by simp) (by intro e; have := hlt _ e.symm; omega))]
      simp
    have hb1' : Hid (Below base (w.alloc (.cells #[.int .i64 k] 78)) w1) := hb1
    have hsz : base ≤ w1.heap.size := by have := hb1.size; simp at this; omega
    clear hb1 hg1
    go_wp2_with fail
    refine (putUnit_any k HK.out _ _ base _ _ hown1 hsz (by rw [hul]; omega) (by omega) (by omega)).mono ?_
    rintro e w2 ⟨v2, rfl, hown2, hb2, hg2⟩
    have HO : Hid (w2.ownsRow base 5 1 v2 (xs ++ Cx.put (k + 2) a).length ((xs ++ Cx.put (k + 2) a).map (Value.int .u8))) := by rw [HE.out]; exact hown2
    clear hown2 hown1 hg2
    go_wp2
    go_ret
    exact ⟨_, rfl, HO.out, ((Below.refl base w).alloc hbase _).trans (hb1'.out.trans hb2)⟩
end Go.Proofs.YtmfbobibpebfnaaGreat
