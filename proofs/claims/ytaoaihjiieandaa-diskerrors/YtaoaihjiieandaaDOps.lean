/- The calls that are steps. -/
import Derived.Test.YtaoaihjiieandaaDTake1
import Derived.Test.YtaoaihjiieandaaDTake2
import Derived.Test.YtaoaihjiieandaaDTake3
import Derived.Test.YtaoaihjiieandaaDTake4
namespace Go.Proofs.Ytaoaihjiieandaa
open Go.RowKit

/-- What a step answers and leaves. -/
def StepP (U : Prop) (F : Nat → Prop) (M : Nat) (w : World) (d : Nat) (on nm : ByteArray) (st : Nat) (r : Rs) (v : Value) (w' : World) : Prop := ErrV w' w.heap.size v on nm (st : Int) r.e ∧ Dsk F (M + 3) w' d r.d ∧ Ku U F w w'
theorem noAx (F : Nat → Prop) (w : World) : AxOk F none w NoAx := ⟨(fun _ e => by cases e), fun _ _ _ _ => trivial, fun _ _ _ => trivial, fun _ _ _ _ _ _ => trivial, fun _ _ _ _ _ => trivial⟩
theorem StepP.of {F : Nat → Prop} {M : Nat} {w w1 w' : World} {d : Nat} {on nm : ByteArray} {st : Nat} {r : Rs} {v : Value} (hb : Below w.heap.size w w1) (h1 : ErrV w' w1.heap.size v on nm (st : Int) r.e) (h2 : Dsk (Fx F w w1) (M + 3) w' d r.d) (h3 : Kn False (Fx F w w1) none w1 w') : StepP False F M w d on nm st r v w' :=
  ⟨h1.mono hb.size, h2.less (fun _ hq => .inl hq), Kd.ku ((Kd.of hb).trans ((Ku.kd (Kn.ku h3)).less (fun _ hq => .inl hq))) _⟩
theorem bx_of {F : Nat → Prop} {w w1 : World} {b : Nat} {v : Value} {T : TypeId} (h : w1.heap[b]? = some (.cells #[v] T (0, 0))) (hb : w.heap.size ≤ b) : Bx (Fx F w w1) none w1 b v :=
  ⟨by simp [World.cell?, h], .inr ⟨hb, (Array.getElem?_eq_some_iff.1 h).1⟩, by simp⟩
theorem alloc2 (w : World) (a b : Value) (S T : TypeId) : ∃ w1, w1 = (w.alloc (.cells #[a] S)).alloc (.cells #[b] T) ∧ w1.heap[w.heap.size]? = some (.cells #[a] S (0, 0)) ∧ w1.heap[w.heap.size + 1]? = some (.cells #[b] T (0, 0)) ∧ Below w.heap.size w w1 :=
  ⟨_, rfl, (heap_alloc_old _ _ (by simp)).trans (heap_alloc_new _ _), by have := heap_alloc_new (w.alloc (.cells #[a] S)) (.cells #[b] T); simpa using this, ext_alloc (ext_alloc (Below.refl _ _) _) _⟩

set_option maxRecDepth 100000 in
theorem Make_any (CR : CrashOk) {F : Nat → Prop} {M : Nat} {w : World} {d : Nat} {D : Dk} (h : Dsk F M w d D) (hM : M + 3 ≤ 1099511627776) (n : Nm) (hn : n.length ≤ 9223372036854775807) :
    Calls Try.prog 41 #[pp d, sv n] w fun e w' => ∃ v, e = .returned v ∧ StepP False F M w d ⟨#[109, 97, 107, 101]⟩ (bsOf n) (stepNo D) (take (opMake n) none D) v w' := by
  obtain ⟨w1, hw1, k0, k1, hb⟩ := alloc2 w (pp d) (sv n) 28 9
  have TK := hidIt (take_make CR (do_make hn (bx_of (F := F) k0 (Nat.le_refl _)) (bx_of (F := F) k1 (Nat.le_succ _))) (noAx _ _) M D (h.pen hb) hM ⟨#[109, 97, 107, 101]⟩ (bsOf n))
  have q0 : w1.cell? ⟨w.heap.size, 0, none⟩ = some (pp d) := by simp [World.cell?, k0]
  have q1 : w1.cell? ⟨w.heap.size + 1, 0, none⟩ = some (sv n) := by simp [World.cell?, k1]
  have HB := hidIt hb
  clear h hb k0 k1
  go_enter Try.func41, Try.ntmps41
  go_upto_region 1 with fail
  rw [← hw1]
  clear hw1
  go_wp2_with (go_at_call 47; refine TK.out.mono ?_; rintro e w2 ⟨v2, rfl, h1, h2, h3, _⟩; have H1 := hidIt h1; have H2 := hidIt h2; have H3 := hidIt h3; clear h1 h2 h3)
  go_ret
  exact ⟨_, rfl, StepP.of HB.out H1.out H2.out H3.out⟩

set_option maxRecDepth 100000 in
theorem Sync_any (CR : CrashOk) {F : Nat → Prop} {M : Nat} {w : World} {d : Nat} {D : Dk} (h : Dsk F M w d D) (hM : M + 3 ≤ 1099511627776) (n : Nm) (hn : n.length ≤ 9223372036854775807) :
    Calls Try.prog 26 #[pp d, sv n] w fun e w' => ∃ v, e = .returned v ∧ StepP False F M w d ⟨#[115, 121, 110, 99]⟩ (bsOf n) (stepNo D) (take (opSync n) none D) v w' := by
  obtain ⟨w1, hw1, k0, k1, hb⟩ := alloc2 w (pp d) (sv n) 28 9
  have TK := hidIt (take_sync CR (do_sync hn (bx_of (F := F) k0 (Nat.le_refl _)) (bx_of (F := F) k1 (Nat.le_succ _))) (noAx _ _) M D (h.pen hb) hM ⟨#[115, 121, 110, 99]⟩ (bsOf n))
  have q0 : w1.cell? ⟨w.heap.size, 0, none⟩ = some (pp d) := by simp [World.cell?, k0]
  have q1 : w1.cell? ⟨w.heap.size + 1, 0, none⟩ = some (sv n) := by simp [World.cell?, k1]
  have HB := hidIt hb
  clear h hb k0 k1
  go_enter Try.func26, Try.ntmps26
  go_upto_region 1 with fail
  rw [← hw1]
  clear hw1
  go_wp2_with (go_at_call 47; refine TK.out.mono ?_; rintro e w2 ⟨v2, rfl, h1, h2, h3, _⟩; have H1 := hidIt h1; have H2 := hidIt h2; have H3 := hidIt h3; clear h1 h2 h3)
  go_ret
  exact ⟨_, rfl, StepP.of HB.out H1.out H2.out H3.out⟩

set_option maxRecDepth 100000 in
theorem Remove_any (CR : CrashOk) {F : Nat → Prop} {M : Nat} {w : World} {d : Nat} {D : Dk} (h : Dsk F M w d D) (hM : M + 3 ≤ 1099511627776) (n : Nm) (hn : n.length ≤ 9223372036854775807) :
    Calls Try.prog 29 #[pp d, sv n] w fun e w' => ∃ v, e = .returned v ∧ StepP False F M w d ⟨#[114, 101, 109, 111, 118, 101]⟩ (bsOf n) (stepNo D) (take (opRem n) none D) v w' := by
  obtain ⟨w1, hw1, k0, k1, hb⟩ := alloc2 w (pp d) (sv n) 28 9
  have TK := hidIt (take_rem CR (do_rem hn (bx_of (F := F) k0 (Nat.le_refl _)) (bx_of (F := F) k1 (Nat.le_succ _))) (noAx _ _) M D (h.pen hb) hM ⟨#[114, 101, 109, 111, 118, 101]⟩ (bsOf n))
  have q0 : w1.cell? ⟨w.heap.size, 0, none⟩ = some (pp d) := by simp [World.cell?, k0]
  have q1 : w1.cell? ⟨w.heap.size + 1, 0, none⟩ = some (sv n) := by simp [World.cell?, k1]
  have HB := hidIt hb
  clear h hb k0 k1
  go_enter Try.func29, Try.ntmps29
  go_upto_region 1 with fail
  rw [← hw1]
  clear hw1
  go_wp2_with (go_at_call 47; refine TK.out.mono ?_; rintro e w2 ⟨v2, rfl, h1, h2, h3, _⟩; have H1 := hidIt h1; have H2 := hidIt h2; have H3 := hidIt h3; clear h1 h2 h3)
  go_ret
  exact ⟨_, rfl, StepP.of HB.out H1.out H2.out H3.out⟩

set_option maxRecDepth 100000 in
theorem SyncDir_any (CR : CrashOk) {F : Nat → Prop} {M : Nat} {w : World} {d : Nat} {D : Dk} (h : Dsk F M w d D) (hM : M + 3 ≤ 1099511627776) :
    Calls Try.prog 27 #[pp d] w fun e w' => ∃ v, e = .returned v ∧ StepP False F M w d ⟨#[115, 121, 110, 99, 100, 105, 114]⟩ ⟨#[]⟩ (stepNo D) (take opSyncDir none D) v w' := by
  obtain ⟨w1, hw1, k0, hb⟩ : ∃ w1, w1 = w.alloc (.cells #[pp d] 28) ∧ w1.heap[w.heap.size]? = some (.cells #[pp d] 28 (0, 0)) ∧ Below w.heap.size w w1 := ⟨_, rfl, heap_alloc_new _ _, ext_alloc (Below.refl _ _) _⟩
  have TK := hidIt (take_syncdir CR (do_syncdir (bx_of (F := F) k0 (Nat.le_refl _))) (noAx _ _) M D (h.pen hb) hM ⟨#[115, 121, 110, 99, 100, 105, 114]⟩ ⟨#[]⟩)
  have q0 : w1.cell? ⟨w.heap.size, 0, none⟩ = some (pp d) := by simp [World.cell?, k0]
  have HB := hidIt hb
  clear h hb k0
  go_enter Try.func27, Try.ntmps27
  go_upto_region 1 with fail
  rw [← hw1]
  clear hw1
  go_wp2_with (go_at_call 47; refine TK.out.mono ?_; rintro e w2 ⟨v2, rfl, h1, h2, h3, _⟩; have H1 := hidIt h1; have H2 := hidIt h2; have H3 := hidIt h3; clear h1 h2 h3)
  go_ret
  exact ⟨_, rfl, StepP.of HB.out H1.out H2.out H3.out⟩
set_option maxRecDepth 100000 in
theorem Rename_any (CR : CrashOk) {F : Nat → Prop} {M : Nat} {w : World} {d : Nat} {D : Dk} (h : Dsk F M w d D) (hM : M + 3 ≤ 1099511627776) (n m : Nm) (hn : n.length ≤ 9223372036854775807) (hm : m.length ≤ 9223372036854775807) :
    Calls Try.prog 42 #[pp d, sv n, sv m] w fun e w' => ∃ v, e = .returned v ∧ StepP False F M w d ⟨#[114, 101, 110, 97, 109, 101]⟩ (bsOf n) (stepNo D) (take (opRen n m) none D) v w' := by
  obtain ⟨w1, hw1, k0, k1, hb1⟩ := alloc2 w (pp d) (sv n) 28 9
  obtain ⟨w2, hw2, k2, hb2⟩ : ∃ w2, w2 = w1.alloc (.cells #[sv m] 9) ∧ w2.heap[w1.heap.size]? = some (.cells #[sv m] 9 (0, 0)) ∧ Below w1.heap.size w1 w2 := ⟨_, rfl, heap_alloc_new _ _, ext_alloc (Below.refl _ _) _⟩
  have hs1 : w1.heap.size = w.heap.size + 2 := by rw [hw1]; simp
  have hb := ext_trans hb1 hb2
  have k0 := (hb2.block _ (Array.getElem?_eq_some_iff.1 k0).1).trans k0
  have k1 := (hb2.block _ (Array.getElem?_eq_some_iff.1 k1).1).trans k1
  rw [hs1] at k2
  have TK := hidIt (take_ren CR (do_ren hn hm (bx_of (F := F) k0 (Nat.le_refl _)) (bx_of (F := F) k1 (Nat.le_succ _)) (bx_of (F := F) k2 (Nat.le_add_right _ 2))) (noAx _ _) M D (h.pen hb) hM ⟨#[114, 101, 110, 97, 109, 101]⟩ (bsOf n))
  have q0 : w2.cell? ⟨w.heap.size, 0, none⟩ = some (pp d) := by simp [World.cell?, k0]
  have q1 : w2.cell? ⟨w.heap.size + 1, 0, none⟩ = some (sv n) := by simp [World.cell?, k1]
  have HB := hidIt hb
  rw [hw1] at hw2
  clear h hb k0 k1 k2 hb1 hb2 hw1 hs1
  go_enter Try.func42, Try.ntmps42
  go_upto_region 1 with fail
  rw [← hw2]
  clear hw2
  go_wp2_with (go_at_call 47; refine TK.out.mono ?_; rintro e w2 ⟨v2, rfl, h1, h2, h3, _⟩; have H1 := hidIt h1; have H2 := hidIt h2; have H3 := hidIt h3; clear h1 h2 h3)
  go_ret
  exact ⟨_, rfl, StepP.of HB.out H1.out H2.out H3.out⟩
end Go.Proofs.Ytaoaihjiieandaa
