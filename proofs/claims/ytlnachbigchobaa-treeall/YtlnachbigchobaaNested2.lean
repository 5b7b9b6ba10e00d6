/- nested: the whole. -/
import Derived.Test.YtlnachbigchobaaNested
namespace Go.Proofs.Ytlnachbigchobaa
open Go.RowKit

set_option maxRecDepth 100000 in
set_option maxHeartbeats 2000000 in
theorem ItemsN_any {w0 : World} {u : Option Addr} {m : Nat} {xs : List It} {a b : Nat} {gao : Option Addr} {gcap : Nat} {gl : List It} {st : Nat} (it : Value) (hit : it = .func (.func 94) #[] #[.pointer (some ⟨a, 0, none⟩), .pointer (some ⟨b, 0, none⟩)]) (hI : IterAt w0 it u m) (hT : TT w0 (.agg #[.pointer u]) xs) (hx : xs.length ≤ 4194304) (hR : RdR w0 (.slice gao gl.length gcap) gl) (hgl : (xs.drop m).take gl.length = gl) (h1 : 1 ≤ gl.length) (w : World) (hJ : NestJ w0 it gao gcap gl st [] w) :
    Calls Try.prog 94 #[.func (.func 97) #[] #[.pointer (some ⟨w0.heap.size + 3, 0, none⟩), .pointer (some ⟨w0.heap.size + 2, 0, none⟩), .pointer (some ⟨w0.heap.size, 0, none⟩), .pointer (some ⟨w0.heap.size + 1, 0, none⟩), .pointer (some ⟨w0.heap.size + 4, 0, none⟩)], .pointer (some ⟨a, 0, none⟩), .pointer (some ⟨b, 0, none⟩)] w fun e w' => e = .returned (.tuple #[]) ∧ NestJ w0 it gao gcap gl st gl w' := by
  have hT0 := hT
  obtain ⟨u', t, hu, ht, hl, _⟩ := hT
  obtain rfl : u = u' := by simpa using hu
  have Y : Yields 97 #[.pointer (some ⟨w0.heap.size + 3, 0, none⟩), .pointer (some ⟨w0.heap.size + 2, 0, none⟩), .pointer (some ⟨w0.heap.size, 0, none⟩), .pointer (some ⟨w0.heap.size + 1, 0, none⟩), .pointer (some ⟨w0.heap.size + 4, 0, none⟩)] (fun d => decide (d.length < gl.length)) (NestJ w0 it gao gcap gl st) w0 := ⟨fun d x w hJ hg hd => nestY it hit hI hT0 hx hR hgl h1 d x w hJ (by simpa using hg) hd, fun d w ⟨_, _, _, _, _, _, _, h⟩ => h⟩
  have W := walkN_any Y t u m [] w ht (by rw [hl]; exact hx) hJ (by simp; omega) (by rw [hl]; simp; omega)
  rw [hl, tell_take gl.length (xs.drop m) [] (by simp; omega)] at W
  simp only [List.nil_append, List.length_nil, Nat.sub_zero] at W
  rw [hgl] at W
  have HW := hidIt W
  have hB : Below w0.heap.size w0 w := Y.fr _ _ hJ
  rw [hit] at hI
  obtain ⟨a', b', e1, e2, e3⟩ := hI.ext hB
  simp only [Value.func.injEq, Array.mk.injEq, List.cons.injEq, Value.pointer.injEq, Option.some.injEq, Addr.mk.injEq, and_true, true_and] at e1
  obtain ⟨rfl, rfl⟩ := e1
  obtain ⟨c0, _⟩ := e2.cells
  have c1 : w.cell? ⟨b, 0, none⟩ = some (.int .i64 (m : Nat)) := by rw [cell_of_row w _ 0 _ _ _ e3]; rfl
  clear W Y hI ht hl hJ hB e2 e3 hgl hR hT0
  go_enter Try.func94, Try.ntmps94
  go_wp2_with fail
  refine HW.out.mono ?_
  rintro e w2 ⟨rfl, hJ2⟩
  have HJ2 := hidIt hJ2
  clear hJ2
  go_wp2_with fail
  go_end0
  exact ⟨rfl, HJ2.out⟩

set_option maxRecDepth 100000 in
set_option maxHeartbeats 4000000 in
theorem nested_any (w : World) (a b : Nat) (u : Option Addr) (m : Nat) (xs : List It) (gao : Option Addr) (gcap : Nat) (gl : List It) (st : Nat) (hI : IterAt w (.func (.func 94) #[] #[.pointer (some ⟨a, 0, none⟩), .pointer (some ⟨b, 0, none⟩)]) u m) (hT : TT w (.agg #[.pointer u]) xs) (hx : xs.length ≤ 4194304) (hR : RdR w (.slice gao gl.length gcap) gl) (hgl : (xs.drop m).take gl.length = gl) (h1 : 1 ≤ gl.length) :
    Calls Try.prog 89 #[.func (.func 94) #[] #[.pointer (some ⟨a, 0, none⟩), .pointer (some ⟨b, 0, none⟩)], .slice gao gl.length gcap, .int .i64 (st : Nat)] w fun e w' => e = .returned (.bool true) ∧ Below w.heap.size w w' := by
  obtain ⟨it, hit⟩ : ∃ it, it = Value.func (.func 94) #[] #[.pointer (some ⟨a, 0, none⟩), .pointer (some ⟨b, 0, none⟩)] := ⟨_, rfl⟩
  obtain ⟨w1, hw1⟩ : ∃ w1, w1 = ((((w.alloc (.cells #[it] 130)).alloc (.cells #[.slice gao gl.length gcap] 22)).alloc (.cells #[.int .i64 (st : Nat)] 3)).alloc (.cells #[.slice none 0 0] 22)).alloc (.cells #[.bool true] 4) := ⟨_, rfl⟩
  have hJ : NestJ w it gao gcap gl st [] w1 := by
    rw [hw1]
    refine ⟨.slice none 0 0, ?_, ?_, ?_, ?_, ?_, OwnR.nil _ _ _, by repeat (first | exact Below.refl _ _ | refine ext_alloc ?_ _)⟩
    · rw [heap_alloc_old _ _ (by simp <;> omega), heap_alloc_old _ _ (by simp <;> omega), heap_alloc_old _ _ (by simp <;> omega), heap_alloc_old _ _ (by simp)]; exact heap_alloc_new _ _
    · rw [heap_alloc_old _ _ (by simp <;> omega), heap_alloc_old _ _ (by simp <;> omega), heap_alloc_old _ _ (by simp)]
      have := heap_alloc_new (w.alloc (.cells #[it] 130)) (.cells #[.slice gao gl.length gcap] 22)
      simpa only [World.size_alloc] using this
    · rw [heap_alloc_old _ _ (by simp <;> omega), heap_alloc_old _ _ (by simp)]
      have := heap_alloc_new ((w.alloc (.cells #[it] 130)).alloc (.cells #[.slice gao gl.length gcap] 22)) (.cells #[.int .i64 (st : Nat)] 3)
      simpa only [World.size_alloc] using this
    · rw [heap_alloc_old _ _ (by simp)]
      have := heap_alloc_new (((w.alloc (.cells #[it] 130)).alloc (.cells #[.slice gao gl.length gcap] 22)).alloc (.cells #[.int .i64 (st : Nat)] 3)) (.cells #[.slice none 0 0] 22)
      simpa only [World.size_alloc] using this
    · have := heap_alloc_new ((((w.alloc (.cells #[it] 130)).alloc (.cells #[.slice gao gl.length gcap] 22)).alloc (.cells #[.int .i64 (st : Nat)] 3)).alloc (.cells #[.slice none 0 0] 22)) (.cells #[.bool true] 4)
      simpa only [World.size_alloc] using this
  have HC := hidIt (ItemsN_any it hit (by rw [hit]; exact hI) hT hx hR hgl h1 w1 hJ)
  have HR := hidIt hR
  have hcg : gl.length ≤ gcap ∧ gcap ≤ 9223372036854775807 := by obtain ⟨_, _, e1, e2, e3, _⟩ := hR; cases e1; exact ⟨e2, e3⟩
  rw [hit] at hw1
  have HIT := hidIt hit
  clear hI hT hJ hR hgl hit
  go_enter Try.func89, Try.ntmps89
  go_wp2_with fail
  rw [← hw1]
  clear hw1
  refine HC.out.mono ?_
  rintro e w2 ⟨rfl, hJ2⟩
  obtain ⟨ov, j1, j2, j3, j4, j5, j6, j7⟩ := hJ2
  obtain ⟨go', oc, rfl⟩ := j6.form_pos h1
  have q1 : w2.cell? ⟨w.heap.size + 1, 0, none⟩ = some (.slice gao gl.length gcap) := by rw [cell_of_row w2 _ 0 _ _ _ j2]; rfl
  have q3 : w2.cell? ⟨w.heap.size + 3, 0, none⟩ = some (.slice (some ⟨go', 0, none⟩) gl.length oc) := by rw [cell_of_row w2 _ 0 _ _ _ j4]; rfl
  have q4 : w2.cell? ⟨w.heap.size + 4, 0, none⟩ = some (.bool true) := by rw [cell_of_row w2 _ 0 _ _ _ j5]; rfl
  have hoc : gl.length ≤ oc ∧ oc ≤ 9223372036854775807 := by obtain ⟨_, _, e1, e2, e3, _⟩ := j6.rd; cases e1; exact ⟨e2, e3⟩
  have HO := hidIt j6
  have HB := hidIt j7
  clear j1 j2 j3 j4 j5 j6 j7 HC
  go_wp2_with fail
  go_loopw [9] (fun i wr => ∃ j : Nat, j ≤ gl.length ∧ i = .int .i64 j ∧ Hid (∃ nq, wr = w2.drewN nq)) (fun i _ => gl.length - (intOf i).toNat)
  case atStart => exact ⟨0, Nat.zero_le _, rfl, 0, rfl⟩
  case round =>
    obtain ⟨j, hj, rfl, HD⟩ := hrel
    obtain ⟨nq, rfl⟩ := HD.out
    by_cases hlt : j < gl.length
    · have hlt' : (j : Int) < (gl.length : Int) := by omega
      obtain ⟨bg, og, cg, e0, _, _, hbg, hcc⟩ := (HR.out.ext HB.out).at (by omega)
      simp only [Value.slice.injEq] at e0
      obtain ⟨rfl, _, rfl⟩ := e0
      obtain ⟨y0, y1⟩ := hcc j hlt
      obtain ⟨v0, v1⟩ := OwnR.cellAt HO.out rfl j hlt
      have hne : ((gl[j]?.getD (0, 0)).1 != (gl[j]?.getD (0, 0)).1) = false := by simp
      generalize gl[j]?.getD (0, 0) = z at *
      clear hcc
      go_wp2_with fail
      go_quiet (fail)
      go_wp2_with fail
      go_roundw
      case rel => exact ⟨j + 1, by omega, by go_num, _, rfl⟩
      case measure => simp [intOf]; omega
    · obtain rfl : j = gl.length := by omega
      have hge : ¬ (gl.length : Int) < (gl.length : Int) := by omega
      go_wp2_with fail
      go_ret
      exact ⟨rfl, below_drewN HB.out _⟩
end Go.Proofs.Ytlnachbigchobaa
