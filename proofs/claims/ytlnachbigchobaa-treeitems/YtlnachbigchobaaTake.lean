/- Items as a value; take. -/
import Derived.Test.YtlnachbigchobaaItems
namespace Go.Proofs.Ytlnachbigchobaa
open Go.RowKit

/-- The value it is an iterator over the tree at u, from m on. -/
def IterAt (w : World) (it : Value) (u : Option Addr) (m : Nat) : Prop := ∃ a b, it = .func (.func 94) #[] #[.pointer (some ⟨a, 0, none⟩), .pointer (some ⟨b, 0, none⟩)] ∧ BlkT w a u ∧ w.heap[b]? = some (.cells #[.int .i64 (m : Nat)] 3 (0, 0))
theorem IterAt.ext {w w' : World} {it : Value} {u : Option Addr} {m : Nat} (h : IterAt w it u m) (hb : Below w.heap.size w w') : IterAt w' it u m := by
  obtain ⟨a, b, h1, h2, h3⟩ := h
  exact ⟨a, b, h1, h2.ext hb, by rw [hb.block _ (Array.getElem?_eq_some_iff.1 h3).1]; exact h3⟩

set_option maxRecDepth 100000 in
set_option maxHeartbeats 1000000 in
theorem Items_any (u : Option Addr) (fr : Int) (m : Nat) (w : World) (hm : (m : Int) = max fr 0) :
    Calls Try.prog 87 #[.agg #[.pointer u], .int .i64 fr] w fun e w' => ∃ a b, e = .returned (.func (.func 94) #[] #[.pointer (some ⟨a, 0, none⟩), .pointer (some ⟨b, 0, none⟩)]) ∧ Hid (IterAt w' (.func (.func 94) #[] #[.pointer (some ⟨a, 0, none⟩), .pointer (some ⟨b, 0, none⟩)]) u m) ∧ Below w.heap.size w w' := by
  have hA : BlkT (w.alloc (.cells #[.pointer u] 39)) w.heap.size u := heap_alloc_new _ _
  have HE : Hid (IterAt ((w.alloc (.cells #[.pointer u] 39)).alloc (.cells #[.int .i64 m] 3)) (.func (.func 94) #[] #[.pointer (some ⟨w.heap.size, 0, none⟩), .pointer (some ⟨w.heap.size + 1, 0, none⟩)]) u m) := by
    refine ⟨w.heap.size, w.heap.size + 1, rfl, hA.ext (ext_alloc (Below.refl _ _) _), ?_⟩
    have := heap_alloc_new (w.alloc (.cells #[.pointer u] 39)) (.cells #[.int .i64 m] 3)
    rw [World.size_alloc] at this
    exact this
  by_cases h : fr < 0
  · obtain rfl : m = 0 := by omega
    clear hm hA
    go_enter Try.func87, Try.ntmps87
    go_wp2_with fail
    go_ret
    exact ⟨w.heap.size, w.heap.size + 1, rfl, HE.out, ext_alloc (ext_alloc (Below.refl _ _) _) _⟩
  · have hfm : fr = (m : Int) := by omega
    have hnn : ¬ (m : Int) < 0 := by omega
    clear hm hA h
    subst hfm
    go_enter Try.func87, Try.ntmps87
    go_wp2_with fail
    go_ret
    exact ⟨w.heap.size, w.heap.size + 1, rfl, HE.out, ext_alloc (ext_alloc (Below.refl _ _) _) _⟩

/-- What take has told so far. -/
def TakeJ (w : World) (k : Nat) (d : List It) (wr : World) : Prop := ∃ gv, wr.heap[w.heap.size]? = some (.cells #[.int .i64 (k : Nat)] 3 (0, 0)) ∧ wr.heap[w.heap.size + 1]? = some (.cells #[gv] 22 (0, 0)) ∧ wr.heap[w.heap.size + 2]? = some (.cells #[.bool false] 4 (0, 0)) ∧ OwnR wr (w.heap.size + 3) 24 gv d ∧ Below w.heap.size w wr

set_option maxRecDepth 100000 in
set_option maxHeartbeats 2000000 in
theorem takeY (w0 : World) (k : Nat) (d : List It) (x : It) (w : World) (h : TakeJ w0 k d w) (hg : d.length < k) (hd : d.length < 4194304) :
    Calls Try.prog 96 #[.agg #[.int .i64 x.1, .int .i64 x.2], .pointer (some ⟨w0.heap.size + 1, 0, none⟩), .pointer (some ⟨w0.heap.size, 0, none⟩), .pointer (some ⟨w0.heap.size + 2, 0, none⟩)] w fun e w' => e = .returned (.bool (decide ((d ++ [x]).length < k))) ∧ TakeJ w0 k (d ++ [x]) w' := by
  obtain ⟨gv, h1, h2, h3, h4, h5⟩ := h
  obtain ⟨ao, cap, rfl⟩ := h4.form1
  have hl1 : w0.heap.size + 2 < w.heap.size := (Array.getElem?_eq_some_iff.1 h3).1
  obtain ⟨wx, hwx⟩ : ∃ wx, wx = w.alloc (.cells #[.int .i64 x.1, .int .i64 x.2] 24) := ⟨_, rfl⟩
  have bx : Below w.heap.size w wx := by rw [hwx]; exact ext_alloc (Below.refl _ _) _
  have hX : BlkI wx w.heap.size x := by rw [hwx]; exact heap_alloc_new _ _
  have g1 : wx.heap[w0.heap.size]? = some (.cells #[.int .i64 (k : Nat)] 3 (0, 0)) := by rw [bx.block _ (by omega)]; exact h1
  have g2 : wx.heap[w0.heap.size + 1]? = some (.cells #[.slice ao d.length cap] 22 (0, 0)) := by rw [bx.block _ (by omega)]; exact h2
  have g3 : wx.heap[w0.heap.size + 2]? = some (.cells #[.bool false] 4 (0, 0)) := by rw [bx.block _ (by omega)]; exact h3
  have HO := hidIt (h4.ext bx)
  have HB := hidIt (h5.trans (bx.mono (by omega)))
  have k0 : wx.cell? ⟨w0.heap.size, 0, none⟩ = some (.int .i64 (k : Nat)) := by rw [cell_of_row wx _ 0 _ _ _ g1]; rfl
  have k1 : wx.cell? ⟨w0.heap.size + 1, 0, none⟩ = some (.slice ao d.length cap) := by rw [cell_of_row wx _ 0 _ _ _ g2]; rfl
  obtain ⟨x0, x1, _⟩ := hX.cells
  have hxl := hX.lt
  have hge : ¬ (k : Int) ≤ (d.length : Int) := by omega
  have G1 := hidIt g1
  have G2 := hidIt g2
  have G3 := hidIt g3
  clear h1 h2 h3 h4 h5 bx hX g1 g2 g3
  go_enter Try.func96, Try.ntmps96
  go_upto_region 1 with fail
  rw [← hwx]
  clear hwx
  generalize w.heap.size = xb at *
  go_upto_region 5 with (at_builtin; refine wpList_append_runs rfl _ _ 22 rfl (w0.heap.size + 3) 24 Try.info_run Try.underlying22 (.slice ao d.length cap) d rfl (HO.out.ext (ext_alloc (Below.refl _ _) _)) _ [x] rfl (RdR.lit1 wx 24 x) (by simp only [List.length_cons, List.length_nil]; omega) (by simp; omega) ?_; intro v' w1 hO hg'; have HG := hidIt hg'; have HO1 := hidIt hO; obtain ⟨ao1, cap1, rfl⟩ := hO.form1; have HB1 : Hid (Below (w0.heap.size + 3) wx w1) := (((Below.refl (w0.heap.size + 3) wx).alloc (by omega) _).grown hg' (by simp; omega) (fun b hb => (World.ownsRow.lt HO.out b hb).1)); have q1 : w1.cell? ⟨w0.heap.size + 1, 0, none⟩ = some (.slice ao d.length cap) := (HB1.out.cell (p := ⟨w0.heap.size + 1, 0, none⟩) (by simp only; omega)).trans k1; have q0 : w1.cell? ⟨w0.heap.size, 0, none⟩ = some (.int .i64 (k : Nat)) := (HB1.out.cell (p := ⟨w0.heap.size, 0, none⟩) (by simp only; omega)).trans k0; have HG2 : Hid (w1.heap[w0.heap.size + 1]? = some (.cells #[.slice ao d.length cap] 22 (0, 0))) := (by unfold Hid; rw [HB1.out.block _ (by omega)]; exact G2.out); have qf : ∀ i, w1.frozen? ⟨w0.heap.size + 1, i, none⟩ = false := (by intro i; simp [World.frozen?, HG2.out]); clear hO hg')
  obtain ⟨y1, y2⟩ := set1 HG2.out 0 (.slice ao1 (d ++ [x]).length cap1)
  have HEND : Hid (TakeJ w0 k (d ++ [x]) (w1.setCell ⟨w0.heap.size + 1, 0, none⟩ (.slice ao1 (d ++ [x]).length cap1))) := by
    have hs1 := HB1.out.size
    refine ⟨.slice ao1 (d ++ [x]).length cap1, ?_, y1, ?_, ?_, ?_⟩
    · rw [y2.block _ (by omega) (by simp), HB1.out.block _ (by omega)]; exact G1.out
    · rw [y2.block _ (by omega) (by simp), HB1.out.block _ (by omega)]; exact G3.out
    · exact World.ownsRow.kept HO1.out y2 (by
        cases ao1 with
        | none => exact .inl rfl
        | some a =>
          refine .inr ?_
          have := (World.ownsRow.lt HO1.out a.block rfl).1
          simp only [Value.ownBlock, ne_eq, Option.some.injEq]
          omega)
    · exact below_put (HB.out.trans (HB1.out.mono (by omega))) (by omega) y2 (by omega)
  have hlen1 : (d ++ [x]).length = d.length + 1 := by simp
  rw [hlen1] at HEND
  clear y1 y2
  go_wp2_with fail
  go_ret
  exact ⟨ret_bool (by simp only [decide_eq_decide]; omega), HEND.out⟩

set_option maxRecDepth 100000 in
set_option maxHeartbeats 2000000 in
theorem ItemsT_any {w0 : World} {u : Option Addr} {m : Nat} {xs : List It} {a b k : Nat} (hI : IterAt w0 (.func (.func 94) #[] #[.pointer (some ⟨a, 0, none⟩), .pointer (some ⟨b, 0, none⟩)]) u m) (hT : TT w0 (.agg #[.pointer u]) xs) (hx : xs.length ≤ 4194304) (hk : 1 ≤ k) (w : World) (hJ : TakeJ w0 k [] w) :
    Calls Try.prog 94 #[.func (.func 96) #[] #[.pointer (some ⟨w0.heap.size + 1, 0, none⟩), .pointer (some ⟨w0.heap.size, 0, none⟩), .pointer (some ⟨w0.heap.size + 2, 0, none⟩)], .pointer (some ⟨a, 0, none⟩), .pointer (some ⟨b, 0, none⟩)] w fun e w' => e = .returned (.tuple #[]) ∧ TakeJ w0 k ((xs.drop m).take k) w' := by
  obtain ⟨u', t, hu, ht, hl, _⟩ := hT
  obtain rfl : u = u' := by simpa using hu
  have Y : Yields 96 #[.pointer (some ⟨w0.heap.size + 1, 0, none⟩), .pointer (some ⟨w0.heap.size, 0, none⟩), .pointer (some ⟨w0.heap.size + 2, 0, none⟩)] (fun d => decide (d.length < k)) (TakeJ w0 k) w0 := ⟨fun d x w hJ hg hd => takeY w0 k d x w hJ (by simpa using hg) hd, fun d w ⟨_, _, _, _, _, h⟩ => h⟩
  have W := walkT_any Y t u m [] w ht (by rw [hl]; exact hx) hJ (by simp; omega) (by rw [hl]; simp; omega)
  rw [hl, tell_take k (xs.drop m) [] (by simp; omega)] at W
  simp only [List.nil_append, List.length_nil, Nat.sub_zero] at W
  have HW := hidIt W
  have hB : Below w0.heap.size w0 w := Y.fr _ _ hJ
  obtain ⟨a', b', e1, e2, e3⟩ := hI.ext hB
  simp only [Value.func.injEq, Array.mk.injEq, List.cons.injEq, Value.pointer.injEq, Option.some.injEq, Addr.mk.injEq, and_true, true_and] at e1
  obtain ⟨rfl, rfl⟩ := e1
  obtain ⟨c0, _⟩ := e2.cells
  have c1 : w.cell? ⟨b, 0, none⟩ = some (.int .i64 (m : Nat)) := by rw [cell_of_row w _ 0 _ _ _ e3]; rfl
  clear W Y hI ht hl hJ hB e2 e3
  go_enter Try.func94, Try.ntmps94
  go_wp2_with fail
  refine HW.out.mono ?_
  rintro e w2 ⟨rfl, hJ2⟩
  have HJ2 := hidIt hJ2
  clear hJ2
  go_wp2_with fail
  go_end0
  exact ⟨rfl, HJ2.out⟩

set_option maxRecDepth 100000 in
set_option maxHeartbeats 2000000 in
theorem take_any (w : World) (it : Value) (u : Option Addr) (m : Nat) (xs : List It) (k : Nat) (hI : IterAt w it u m) (hT : TT w (.agg #[.pointer u]) xs) (hx : xs.length ≤ 4194304) (hk : 1 ≤ k) :
    Calls Try.prog 88 #[it, .int .i64 (k : Nat)] w fun e w' => ∃ ao cap, e = .returned (.tuple #[.slice ao ((xs.drop m).take k).length cap, .bool true]) ∧ Hid (OwnR w' w.heap.size 24 (.slice ao ((xs.drop m).take k).length cap) ((xs.drop m).take k)) ∧ Below w.heap.size w w' := by
  obtain ⟨a, b, rfl, hi2⟩ := id hI
  obtain ⟨w1, hw1⟩ : ∃ w1, w1 = ((w.alloc (.cells #[.int .i64 (k : Nat)] 3)).alloc (.cells #[.slice none 0 0] 22)).alloc (.cells #[.bool false] 4) := ⟨_, rfl⟩
  have hJ : TakeJ w k [] w1 := by
    rw [hw1]
    refine ⟨.slice none 0 0, ?_, ?_, ?_, OwnR.nil _ _ _, ext_alloc (ext_alloc (ext_alloc (Below.refl _ _) _) _) _⟩
    · rw [heap_alloc_old _ _ (by simp; omega), heap_alloc_old _ _ (by simp)]; exact heap_alloc_new _ _
    · rw [heap_alloc_old _ _ (by simp)]
      have := heap_alloc_new (w.alloc (.cells #[.int .i64 (k : Nat)] 3)) (.cells #[.slice none 0 0] 22)
      rw [World.size_alloc] at this
      exact this
    · have := heap_alloc_new ((w.alloc (.cells #[.int .i64 (k : Nat)] 3)).alloc (.cells #[.slice none 0 0] 22)) (.cells #[.bool false] 4)
      rw [World.size_alloc, World.size_alloc] at this
      exact this
  have HC := hidIt (ItemsT_any hI hT hx hk w1 hJ)
  clear hI hT hJ hi2
  generalize (xs.drop m).take k = ys at *
  go_enter Try.func88, Try.ntmps88
  go_wp2_with fail
  rw [← hw1]
  clear hw1
  refine HC.out.mono ?_
  rintro e w2 ⟨rfl, hJ2⟩
  obtain ⟨gv, j1, j2, j3, j4, j5⟩ := hJ2
  obtain ⟨ao, cap, rfl⟩ := j4.form1
  have q1 : w2.cell? ⟨w.heap.size + 1, 0, none⟩ = some (.slice ao ys.length cap) := by rw [cell_of_row w2 _ 0 _ _ _ j2]; rfl
  have q2 : w2.cell? ⟨w.heap.size + 2, 0, none⟩ = some (.bool false) := by rw [cell_of_row w2 _ 0 _ _ _ j3]; rfl
  have HO := hidIt j4
  have HB := hidIt j5
  clear j1 j2 j3 j4 j5
  go_wp2_with fail
  go_quiet (fail)
  go_wp2_with fail
  go_ret2
  exact ⟨ao, cap, rfl, HO.out.le (by omega), below_drewN HB.out _⟩
end Go.Proofs.Ytlnachbigchobaa
