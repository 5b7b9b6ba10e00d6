/- ClusterMeant: what the rows are, and that they hold together. -/
import Derived.Test.YtahjjpleceppaaaWalkCut
namespace Go.Proofs.Ytahjjpleceppaaa
open Go.RowKit

/-- Behind what stands alone (but CR) a boundary is. -/
theorem Cl.isB_after (zs : List Int) (k : Nat) (h0 : 0 < k) (hk : k ≤ zs.length) (ha : Gx.cls (Cl.at zs (k - 1)) = 2 ∨ Gx.cls (Cl.at zs (k - 1)) = 3) : Cl.isB zs k = true := by
  rcases Nat.eq_or_lt_of_le hk with h | h
  · rw [h]; exact Cl.isB_end zs
  · rw [Cl.isB_mid zs k h0 h]
    unfold Cl.jn Cl.J
    generalize Gx.cls (Cl.at zs (k - 1)) = c at *
    unfold Cl.JF
    rw [if_neg (by omega), if_pos (by simp [Cl.alone]; omega)]
    rfl
theorem Gx.cls_ten : Gx.cls 10 = 2 := by decide +kernel
theorem Cl.at_mid (hd tl : List Int) (x : Int) : Cl.at (hd ++ x :: tl) hd.length = x := by unfold Cl.at; simp
theorem Cl.lead_B (hd r : List Int) : Cl.isB (hd ++ [10] ++ r) (hd.length + 1) = true := by
  refine Cl.isB_after _ _ (by omega) (by simp) (.inl ?_)
  rw [Nat.add_sub_cancel, List.append_assoc]
  have := Cl.at_mid hd r 10
  rw [show [10] ++ r = (10 : Int) :: r from rfl, this]
  exact Gx.cls_ten
theorem Cl.meant_at (hd row tl : List Int) (i : Nat) (hi : i < row.length) : Cl.isB (hd ++ [10] ++ row ++ tl) (hd.length + 1 + i) = Cl.isB row i := by
  have hB := Cl.lead_B hd (row ++ tl)
  rw [← List.append_assoc] at hB
  have e : (hd ++ [10] ++ row ++ tl).drop (hd.length + 1) = row ++ tl := by
    rw [List.append_assoc, List.drop_left' (by simp)]
  rw [← Cl.isB_drop _ _ hB (by simp) i (by simp; omega), e, Cl.isB_app row tl i hi]

def Cl.flags (n : Nat) : List Int := (List.range n).map fun i => 127462 + ((i % 26 : Nat) : Int)
theorem Cl.flags_len (n : Nat) : (Cl.flags n).length = n := by simp [Cl.flags]
theorem Cl.flags_at (n i : Nat) (h : i < n) : Gx.cls (Cl.at (Cl.flags n) i) = 6 ∧ Gx.cnj (Cl.at (Cl.flags n) i) = 0 := by
  have e : Cl.at (Cl.flags n) i = 127462 + ((i % 26 : Nat) : Int) := by unfold Cl.at Cl.flags; simp [h]
  rw [e]
  have := Gx.join_facts (127462 + ((i % 26 : Nat) : Int))
  generalize Gx.cls (127462 + ((i % 26 : Nat) : Int)) = c at *
  generalize Gx.cnj (127462 + ((i % 26 : Nat) : Int)) = j at *
  rcases this with ⟨h, _⟩ | ⟨h, _⟩ | ⟨h, _⟩ | ⟨_, _, h1, h2⟩ | ⟨_, _, _, h, _⟩
  · omega
  · omega
  · omega
  · exact ⟨h1, h2⟩
  · omega
theorem Cl.flags_fl (n i : Nat) (h : i ≤ n) : Cl.fl (Cl.rv (Cl.flags n) i) = i := by
  induction i with
  | zero => rfl
  | succ i ih =>
    rw [Cl.rv_succ _ i (by rw [Cl.flags_len]; omega), Cl.fl_cons, (Cl.flags_at n i (by omega)).1, ih (by omega)]
    rfl
theorem Cl.flags_B (n i : Nat) (h0 : 0 < i) (h : i < n) : Cl.isB (Cl.flags n) i = (i % 2 == 0) := by
  rw [Cl.isB_mid _ i h0 (by rw [Cl.flags_len]; omega)]
  unfold Cl.jn Cl.J
  rw [(Cl.flags_at n i h).1, (Cl.flags_at n i h).2, (Cl.flags_at n (i - 1) (by omega)).1, Cl.flags_fl n i (by omega)]
  unfold Cl.JF
  rw [if_neg (by omega), if_neg (by decide), if_neg (by decide)]
  rw [show Cl.hg 6 6 = false from rfl]
  simp
  rcases Nat.mod_two_eq_zero_or_one i with h | h <;> simp [h]

/-- The rows by kind. -/
def Cl.row (kind : Int) (n : Nat) : List Int :=
  if kind = 0 then [13, 10] else if kind = 1 then [101, 769, 776, 8205] else if kind = 2 then [128104, 8205, 128105, 65039, 8205, 128102] else if kind = 3 then [4352, 4449, 4520]
  else if kind = 4 then [2325, 2364, 2381, 2359, 2381, 8205, 2352, 2366] else if kind = 6 then [1536, 49, 769] else if kind = 7 then [44032, 4449, 4520, 4520] else Cl.flags n
def Cl.whole (l : List Int) : Bool := (List.range l.length).all fun i => i == 0 || !Cl.isB l i
theorem Cl.whole_no {l : List Int} (h : Cl.whole l = true) (i : Nat) (h0 : 0 < i) (hi : i < l.length) : Cl.isB l i = false := by
  have := List.all_eq_true.1 h i (List.mem_range.2 hi)
  simp at this
  rcases this with h | h
  · omega
  · exact h
theorem Cl.row_B (kind : Int) (n i : Nat) (h0 : 0 < i) (hi : i < (Cl.row kind n).length) (hk : 0 ≤ kind) (hk7 : kind ≤ 7) : Cl.isB (Cl.row kind n) i = (kind == 5 && i % 2 == 0) := by
  rcases (show kind = 0 ∨ kind = 1 ∨ kind = 2 ∨ kind = 3 ∨ kind = 4 ∨ kind = 5 ∨ kind = 6 ∨ kind = 7 from by omega) with rfl | rfl | rfl | rfl | rfl | rfl | rfl | rfl
  · exact Cl.whole_no (l := [13, 10]) (by decide +kernel) i h0 hi
  · exact Cl.whole_no (l := [101, 769, 776, 8205]) (by decide +kernel) i h0 hi
  · exact Cl.whole_no (l := [128104, 8205, 128105, 65039, 8205, 128102]) (by decide +kernel) i h0 hi
  · exact Cl.whole_no (l := [4352, 4449, 4520]) (by decide +kernel) i h0 hi
  · exact Cl.whole_no (l := [2325, 2364, 2381, 2359, 2381, 8205, 2352, 2366]) (by decide +kernel) i h0 hi
  · have hi' : i < (Cl.flags n).length := hi
    rw [Cl.flags_len] at hi'
    exact Cl.flags_B n i h0 hi'
  · exact Cl.whole_no (l := [1536, 49, 769]) (by decide +kernel) i h0 hi
  · exact Cl.whole_no (l := [44032, 4449, 4520, 4520]) (by decide +kernel) i h0 hi
theorem Cl.row_len (kind : Int) (n : Nat) (h : n ≤ 64) : (Cl.row kind n).length ≤ 64 := by
  unfold Cl.row
  repeat' split
  all_goals first | (simp; done) | (rw [Cl.flags_len]; exact h)
theorem Cl.flags_succ (n : Nat) : Cl.flags (n + 1) = Cl.flags n ++ [127462 + ((n % 26 : Nat) : Int)] := by unfold Cl.flags; rw [List.range_succ, List.map_append]; rfl

set_option maxRecDepth 100000 in
set_option maxHeartbeats 1000000 in
theorem meant_any (kind : Int) (n : Nat) (w : World) (hk : 0 ≤ kind) (hk7 : kind ≤ 7) (hn : n ≤ 64) :
    Calls Try.prog 27 #[.int .i64 kind, .int .i64 n] w fun e w' => ∃ v', e = .returned v' ∧ Rd .i64 w' v' (Cl.row kind n) ∧ Below w.heap.size w w' := by
  rcases (show kind = 0 ∨ kind = 1 ∨ kind = 2 ∨ kind = 3 ∨ kind = 4 ∨ kind = 6 ∨ kind = 7 ∨ kind = 5 from by omega) with rfl | rfl | rfl | rfl | rfl | rfl | rfl | rfl
  · go_enter Try.func27, Try.ntmps27
    go_wp2
    go_ret
    exact ⟨_, rfl, Rd.lit .i64 w 3 [13, 10] (by simp [maxLen]), ext_alloc (Below.refl _ _) _⟩
  · go_enter Try.func27, Try.ntmps27
    go_wp2
    go_ret
    exact ⟨_, rfl, Rd.lit .i64 w 3 [101, 769, 776, 8205] (by simp [maxLen]), ext_alloc (Below.refl _ _) _⟩
  · go_enter Try.func27, Try.ntmps27
    go_wp2
    go_ret
    exact ⟨_, rfl, Rd.lit .i64 w 3 [128104, 8205, 128105, 65039, 8205, 128102] (by simp [maxLen]), ext_alloc (Below.refl _ _) _⟩
  · go_enter Try.func27, Try.ntmps27
    go_wp2
    go_ret
    exact ⟨_, rfl, Rd.lit .i64 w 3 [4352, 4449, 4520] (by simp [maxLen]), ext_alloc (Below.refl _ _) _⟩
  · go_enter Try.func27, Try.ntmps27
    go_wp2
    go_ret
    exact ⟨_, rfl, Rd.lit .i64 w 3 [2325, 2364, 2381, 2359, 2381, 8205, 2352, 2366] (by simp [maxLen]), ext_alloc (Below.refl _ _) _⟩
  · go_enter Try.func27, Try.ntmps27
    go_wp2
    go_ret
    exact ⟨_, rfl, Rd.lit .i64 w 3 [1536, 49, 769] (by simp [maxLen]), ext_alloc (Below.refl _ _) _⟩
  · go_enter Try.func27, Try.ntmps27
    go_wp2
    go_ret
    exact ⟨_, rfl, Rd.lit .i64 w 3 [44032, 4449, 4520, 4520] (by simp [maxLen]), ext_alloc (Below.refl _ _) _⟩
  · rw [show Cl.row 5 n = Cl.flags n from rfl]
    obtain ⟨i0, hi, hz0, hz1, hz2⟩ := info_parts Try.info_i64
    go_enter Try.func27, Try.ntmps27
    go_wp2_with fail
    go_loopw [5, 6] (fun o i wr => ∃ k : Nat, k ≤ n ∧ i = .int .i64 k ∧ wr.ownsRow w.heap.size 3 1 o k ((Cl.flags k).map (Value.int .i64)) ∧ Below w.heap.size w wr) (fun _ i _ => n - (intOf i).toNat)
    case atStart => exact ⟨0, Nat.zero_le _, rfl, World.ownsRow_nil _ _ _ _, Below.refl _ _⟩
    case round =>
      obtain ⟨k, hk', rfl, hown, hb⟩ := hrel
      have hz' : w.heap.size ≤ wr.heap.size := hb.size
      by_cases hlt : k < n
      · have HT : Hid ((Cl.flags (k + 1)).map (Value.int .i64) = (Cl.flags k).map (Value.int .i64) ++ [.int .i64 (127462 + ((k % 26 : Nat) : Int))]) := by unfold Hid; rw [Cl.flags_succ, List.map_append]; rfl
        generalize (Cl.flags k).map (Value.int .i64) = xs at *
        go_wp2_with (at_builtin; refine wpList_append_own _ rfl _ _ 22 rfl w.heap.size 3 i0 (.int .i64 0) 1 8 Try.underlying22 hi hz0 hz1 hz2 rfl (by decide) _ _ _ rfl (hown.alloc _) ⟨wr.heap.size, 0, none⟩ 1 1 [.int .i64 (127462 + (k : Int) % 26)] rfl rfl (cell_one_new _ _ _) (one_i64 _) (by unfold maxLen; omega) (by omega) (by simp; omega) ?_; intro v' w' hown' hg' hx')
        go_roundw
        case rel => exact ⟨k + 1, by omega, by go_num, by rw [HT.out]; exact hown', below_push hb hown hg'⟩
        case measure => simp [intOf]; omega
      · have hke : k = n := by omega
        subst hke
        have HR : Hid (Rd .i64 wr u5 (Cl.flags k)) := Rd.of_own hown
        clear hown
        go_wp2
        go_ret
        exact ⟨_, rfl, HR.out, hb⟩
end Go.Proofs.Ytahjjpleceppaaa
