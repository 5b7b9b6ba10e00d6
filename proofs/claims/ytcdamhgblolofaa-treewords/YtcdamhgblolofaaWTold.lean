/- Items as a value; walked as a call. -/
import Derived.Test.YtcdamhgblolofaaWWalked
namespace Go.Proofs.Ytcdamhgblolofaa.W
open Go.RowKit

theorem BlkT.cell {w : World} {g : Nat} {u : Option Addr} (h : BlkT w g u) : w.cell? ⟨g, 0, none⟩ = some (.pointer u) := by rw [cell_of_row w _ 0 _ _ _ h]; rfl

set_option maxRecDepth 100000 in
set_option maxHeartbeats 1000000 in
theorem Items_any (u : Option Addr) (fr : Int) (m : Nat) (w : World) (hm : (m : Int) = max fr 0) :
    Calls Try.prog 71 #[.agg #[.pointer u], .int .i64 fr] w fun e w' => ∃ a b, e = .returned (.func (.func 84) #[] #[.pointer (some ⟨a, 0, none⟩), .pointer (some ⟨b, 0, none⟩)]) ∧ Hid (IterAt w' (.func (.func 84) #[] #[.pointer (some ⟨a, 0, none⟩), .pointer (some ⟨b, 0, none⟩)]) u m) ∧ Below w.heap.size w w' := by
  have hA : BlkT (w.alloc (.cells #[.pointer u] 62)) w.heap.size u := heap_alloc_new _ _
  have HE : Hid (IterAt ((w.alloc (.cells #[.pointer u] 62)).alloc (.cells #[.int .i64 m] 3)) (.func (.func 84) #[] #[.pointer (some ⟨w.heap.size, 0, none⟩), .pointer (some ⟨w.heap.size + 1, 0, none⟩)]) u m) := by
    refine ⟨w.heap.size, w.heap.size + 1, rfl, hA.ext (ext_alloc (Below.refl _ _) _), ?_⟩
    have := heap_alloc_new (w.alloc (.cells #[.pointer u] 62)) (.cells #[.int .i64 m] 3)
    rw [World.size_alloc] at this
    exact this
  by_cases h : fr < 0
  · obtain rfl : m = 0 := by omega
    clear hm hA
    go_enter Try.func71, Try.ntmps71
    go_wp2_with fail
    go_ret
    exact ⟨w.heap.size, w.heap.size + 1, rfl, HE.out, ext_alloc (ext_alloc (Below.refl _ _) _) _⟩
  · have hfm : fr = (m : Int) := by omega
    have hnn : ¬ (m : Int) < 0 := by omega
    clear hm hA h
    subst hfm
    go_enter Try.func71, Try.ntmps71
    go_wp2_with fail
    go_ret
    exact ⟨w.heap.size, w.heap.size + 1, rfl, HE.out, ext_alloc (ext_alloc (Below.refl _ _) _) _⟩

/-- What walked is told: all, or one thing. -/
theorem tell_st (st : Bool) : ∀ (a d : List It), (st && !d.isEmpty) = false → (tell (fun d => !(st && !d.isEmpty)) d a).1 = d ++ (if st then a.take 1 else a)
  | [], d, _ => by cases st <;> simp [tell]
  | x :: a, d, h => by
    have e : (d ++ [x]).isEmpty = false := by cases d <;> rfl
    cases st with
    | true => simp [tell]
    | false =>
      have := tell_st false a (d ++ [x]) rfl
      simp only [tell, Bool.false_and, Bool.not_false, if_true] at this ⊢
      rw [this]
      simp

set_option maxRecDepth 100000 in
set_option maxHeartbeats 2000000 in
theorem ItemsW_any {w0 : World} {u : Option Addr} {m q : Nat} {l : List It} {a b : Nat} {ao : Option Addr} {cap : Nat} {st : Bool} (hI : IterAt w0 (.func (.func 84) #[] #[.pointer (some ⟨a, 0, none⟩), .pointer (some ⟨b, 0, none⟩)]) u m) (hT : TT w0 (.agg #[.pointer u]) l) (hR : RdR w0 (.slice ao l.length cap) l) (hx : l.length ≤ 4194304) (hqm : l.drop m = l.drop q) (w : World) (hJ : WkJ w0 ao cap l q st [] w) :
    Calls Try.prog 84 #[.func (.func 86) #[] #[.pointer (some ⟨w0.heap.size + 3, 0, none⟩), .pointer (some ⟨w0.heap.size + 4, 0, none⟩), .pointer (some ⟨w0.heap.size + 2, 0, none⟩), .pointer (some ⟨w0.heap.size, 0, none⟩), .pointer (some ⟨w0.heap.size + 1, 0, none⟩)], .pointer (some ⟨a, 0, none⟩), .pointer (some ⟨b, 0, none⟩)] w fun e w' => e = .returned (.tuple #[]) ∧ WkJ w0 ao cap l q st (if st then (l.drop q).take 1 else l.drop q) w' := by
  obtain ⟨u', t, hu, ht, hl, _⟩ := hT
  obtain rfl : u = u' := by simpa using hu
  have Y : Yields 86 #[.pointer (some ⟨w0.heap.size + 3, 0, none⟩), .pointer (some ⟨w0.heap.size + 4, 0, none⟩), .pointer (some ⟨w0.heap.size + 2, 0, none⟩), .pointer (some ⟨w0.heap.size, 0, none⟩), .pointer (some ⟨w0.heap.size + 1, 0, none⟩)] (fun d => !(st && !d.isEmpty)) (WkJ w0 ao cap l q st) w0 (l.drop q) := ⟨fun d x w hJ hg hp => by
      have hg2 : (st && !d.isEmpty) = false := by
        have h2 : (!(st && !d.isEmpty)) = true := hg
        cases h : (st && !d.isEmpty) with
        | false => rfl
        | true => rw [h] at h2; cases h2
      have := walkedY hR hx d x w hJ hg2 hp
      rw [show (!(st && !(d ++ [x]).isEmpty)) = !st by rw [show (d ++ [x]).isEmpty = false by cases d <;> rfl]; cases st <;> rfl]
      exact this, fun d w ⟨_, _, _, _, _, h⟩ => h⟩
  have W := walkW_any Y t u m [] w ht (by rw [hl]; exact hx) hJ (by cases st <;> rfl) (by rw [hl, hqm]; exact List.prefix_rfl)
  rw [hl, hqm, tell_st st (l.drop q) [] (by cases st <;> rfl)] at W
  simp only [List.nil_append] at W
  generalize (if st then (l.drop q).take 1 else l.drop q) = ys at *
  generalize (tell (fun d => !(st && !d.isEmpty)) [] (l.drop q)).2 = bb at W
  have HW := hidIt W
  have hB : Below w0.heap.size w0 w := Y.fr _ _ hJ
  obtain ⟨a', b', e1, e2, e3⟩ := hI.ext hB
  simp only [Value.func.injEq, Array.mk.injEq, List.cons.injEq, Value.pointer.injEq, Option.some.injEq, Addr.mk.injEq, and_true, true_and] at e1
  obtain ⟨rfl, rfl⟩ := e1
  have c0 := e2.cell
  have c1 : w.cell? ⟨b, 0, none⟩ = some (.int .i64 (m : Nat)) := by rw [cell_of_row w _ 0 _ _ _ e3]; rfl
  clear W Y hI ht hl hJ hB e2 e3
  go_enter Try.func84, Try.ntmps84
  go_wp2_with fail
  refine HW.out.mono ?_
  rintro e w2 ⟨rfl, hJ2⟩
  have HJ2 := hidIt hJ2
  clear hJ2
  go_wp2_with fail
  go_end0
  exact ⟨rfl, HJ2.out⟩

set_option maxRecDepth 100000 in
set_option maxHeartbeats 2000000 in
theorem walked_any (w : World) (it : Value) (u : Option Addr) (p m : Nat) (l : List It) (ao : Option Addr) (cap : Nat) (st : Bool) (hI : IterAt w it u p) (hT : TT w (.agg #[.pointer u]) l) (hR : RdR w (.slice ao l.length cap) l) (hx : l.length ≤ 4194304) (hm : m = min p l.length) :
    Calls Try.prog 72 #[it, .slice ao l.length cap, .int .i64 (m : Nat), .bool st] w fun e w' => e = .returned (.bool true) ∧ Below w.heap.size w w' := by
  obtain ⟨a, b, rfl, hi2⟩ := id hI
  obtain ⟨w1, hw1⟩ : ∃ w1, w1 = ((((w.alloc (.cells #[.slice ao l.length cap] 59)).alloc (.cells #[.bool st] 4)).alloc (.cells #[.int .i64 (m : Nat)] 3)).alloc (.cells #[.bool true] 4)).alloc (.cells #[.bool false] 4) := ⟨_, rfl⟩
  have hJ : WkJ w ao cap l m st [] w1 := by
    obtain ⟨v1, hv1⟩ : ∃ v, v = w.alloc (.cells #[.slice ao l.length cap] 59) := ⟨_, rfl⟩
    obtain ⟨v2, hv2⟩ : ∃ v, v = v1.alloc (.cells #[.bool st] 4) := ⟨_, rfl⟩
    obtain ⟨v3, hv3⟩ : ∃ v, v = v2.alloc (.cells #[.int .i64 (m : Nat)] 3) := ⟨_, rfl⟩
    obtain ⟨v4, hv4⟩ : ∃ v, v = v3.alloc (.cells #[.bool true] 4) := ⟨_, rfl⟩
    rw [← hv1, ← hv2, ← hv3, ← hv4] at hw1
    have s1 : v1.heap.size = w.heap.size + 1 := by rw [hv1]; simp
    have s2 : v2.heap.size = w.heap.size + 2 := by rw [hv2]; simp [s1]
    have s3 : v3.heap.size = w.heap.size + 3 := by rw [hv3]; simp [s2]
    have s4 : v4.heap.size = w.heap.size + 4 := by rw [hv4]; simp [s3]
    have b1 : Below w.heap.size w v1 := by rw [hv1]; exact ext_alloc (Below.refl _ _) _
    have b2 : Below v1.heap.size v1 v2 := by rw [hv2]; exact ext_alloc (Below.refl _ _) _
    have b3 : Below v2.heap.size v2 v3 := by rw [hv3]; exact ext_alloc (Below.refl _ _) _
    have b4 : Below v3.heap.size v3 v4 := by rw [hv4]; exact ext_alloc (Below.refl _ _) _
    have b5 : Below v4.heap.size v4 w1 := by rw [hw1]; exact ext_alloc (Below.refl _ _) _
    have h0 : v1.heap[w.heap.size]? = some (.cells #[.slice ao l.length cap] 59 (0, 0)) := by rw [hv1]; exact heap_alloc_new _ _
    have h1 : v2.heap[w.heap.size + 1]? = some (.cells #[.bool st] 4 (0, 0)) := by rw [hv2, ← s1]; exact heap_alloc_new _ _
    have h2 : v3.heap[w.heap.size + 2]? = some (.cells #[.int .i64 (m : Nat)] 3 (0, 0)) := by rw [hv3, ← s2]; exact heap_alloc_new _ _
    have h3 : v4.heap[w.heap.size + 3]? = some (.cells #[.bool true] 4 (0, 0)) := by rw [hv4, ← s3]; exact heap_alloc_new _ _
    have h4 : w1.heap[w.heap.size + 4]? = some (.cells #[.bool false] 4 (0, 0)) := by rw [hw1, ← s4]; exact heap_alloc_new _ _
    refine ⟨?_, ?_, ?_, ?_, ?_, ?_⟩
    · rw [b5.block _ (by omega), b4.block _ (by omega), b3.block _ (by omega), b2.block _ (by omega)]; exact h0
    · rw [b5.block _ (by omega), b4.block _ (by omega), b3.block _ (by omega)]; exact h1
    · rw [b5.block _ (by omega), b4.block _ (by omega)]; exact h2
    · rw [b5.block _ (by omega)]; exact h3
    · rw [h4]; cases st <;> rfl
    · exact b1.trans ((b2.mono (by omega)).trans ((b3.mono (by omega)).trans ((b4.mono (by omega)).trans (b5.mono (by omega)))))
  have hqm : l.drop p = l.drop m := by
    rw [hm]
    rcases Nat.le_total p l.length with h | h
    · rw [Nat.min_eq_left h]
    · rw [Nat.min_eq_right h, List.drop_eq_nil_of_le h, List.drop_length]
  have HC := hidIt (ItemsW_any hI hT hR hx hqm w1 hJ)
  replace hm : m ≤ l.length := by omega
  have hlen : (m + (if st then (l.drop m).take 1 else l.drop m).length : Nat) = if st then min (m + 1) l.length else l.length := by
    cases st <;> simp <;> omega
  clear hI hT hJ hi2 hR
  generalize (if st then (l.drop m).take 1 else l.drop m) = ys at *
  go_enter Try.func72, Try.ntmps72
  go_wp2_with fail
  rw [← hw1]
  clear hw1
  refine HC.out.mono ?_
  rintro e w2 ⟨rfl, hJ2⟩
  obtain ⟨j0, j1, j2, j3, j4, j5⟩ := hJ2
  rw [hlen] at j2
  have q0 : w2.cell? ⟨w.heap.size, 0, none⟩ = some (.slice ao l.length cap) := by rw [cell_of_row w2 _ 0 _ _ _ j0]; rfl
  have q1 : w2.cell? ⟨w.heap.size + 1, 0, none⟩ = some (.bool st) := by rw [cell_of_row w2 _ 0 _ _ _ j1]; rfl
  have q2 : w2.cell? ⟨w.heap.size + 2, 0, none⟩ = some (.int .i64 ((if st then min (m + 1) l.length else l.length : Nat) : Int)) := by rw [cell_of_row w2 _ 0 _ _ _ j2]; rfl
  have q3 : w2.cell? ⟨w.heap.size + 3, 0, none⟩ = some (.bool true) := by rw [cell_of_row w2 _ 0 _ _ _ j3]; rfl
  have HB := hidIt j5
  clear j0 j1 j2 j3 j4 j5 HC hlen
  cases st with
  | true =>
    simp only [if_true] at q2
    by_cases hml : m + 1 ≤ l.length
    · rw [Nat.min_eq_left hml] at q2
      by_cases hml2 : (m : Int) + 1 = (l.length : Int)
      · rw [Int.natCast_add, Int.natCast_one] at q2
        rw [hml2] at q2
        have hle : ¬ (l.length : Int) < (l.length : Int) := by omega
        go_wp2_with fail
        all_goals
          go_ret
          exact ⟨ret_bool (by simp), HB.out⟩
      · have hlt : (m : Int) + 1 < (l.length : Int) := by omega
        go_wp2_with fail
        all_goals
          go_ret
          exact ⟨ret_bool (by simp), HB.out⟩
    · have hlt : (l.length : Int) < (m : Int) + 1 := by omega
      rw [Nat.min_eq_right (by omega)] at q2
      go_wp2_with fail
      all_goals
        go_ret
        exact ⟨ret_bool (by simp), HB.out⟩
  | false =>
    simp only [Bool.false_eq_true, if_false] at q2
    go_wp2_with fail
    go_ret
    exact ⟨rfl, HB.out⟩
end Go.Proofs.Ytcdamhgblolofaa.W
