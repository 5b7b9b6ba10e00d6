/- tagged and copied of the laws. -/
import Derived.Test.YtdfmpnnenjnllaaKPlcG
import Derived.Test.YtdfmpnnenjnllaaKBase
import Derived.Test.YtdfmpnnenjnllaaKJoin
import Derived.Laws.BytesArg
namespace Go.Proofs.Ytdfmpnnenjnllaa
open Go.RowKit

def tgS (n : Int) : ByteArray := strOfNums [n % 256, n / 256 % 256]
/-- The tag of a number. -/
def tgOf (n : Int) : Tg := if n = 0 then ⟨0, ByteArray.mk #[]⟩ else ⟨n, tgS n⟩
abbrev tgV (x : Tg) : Value := .agg #[.int .i64 x.n, .string x.s]
theorem conv_two (n : Int) (w : World) : (convert 71 9 (.slice (some ⟨w.heap.size, 0, none⟩) 2 2)).run Try.prog (w.alloc (.cells #[.int .u8 (n % 256), .int .u8 (n / 256 % 256)] 5)) = .ok (.string (tgS n)) (w.alloc (.cells #[.int .u8 (n % 256), .int .u8 (n / 256 % 256)] 5)) := by
  obtain ⟨_, c0, c1, _⟩ := cells2 (heap_alloc_new w (.cells #[.int .u8 (n % 256), .int .u8 (n / 256 % 256)] 5))
  refine run_convert_bytes_arg _ 71 5 Try.underlying71 Try.underlying5 w.heap.size 0 2 2 [n % 256, n / 256 % 256] rfl (fun i hi => ?_) 9 Try.underlying9
  obtain rfl | rfl : i = 0 ∨ i = 1 := by omega
  · exact c0
  · exact c1
set_option maxRecDepth 100000 in
theorem tagged_any (n : Int) (w : World) :
    Calls Try.prog 10 #[.int .i64 n] w fun e w' => e = .returned (tgV (tgOf n)) ∧ Below w.heap.size w w' := by
  obtain ⟨w0, hw0, k0, hb0⟩ : ∃ w0, w0 = w.alloc (.cells #[.int .i64 0, .string (ByteArray.mk #[])] 50) ∧ w0.heap[w.heap.size]? = some (.cells #[.int .i64 0, .string (ByteArray.mk #[])] 50 (0, 0)) ∧ Below w.heap.size w w0 := ⟨_, rfl, heap_alloc_new _ _, ext_alloc (Below.refl _ _) _⟩
  by_cases h0 : n = 0
  · subst h0
    obtain ⟨_, q0, q1, qf⟩ := cells2 k0
    go_enter Try.func10, Try.ntmps10
    go_upto_region 1 with fail
    rw [← hw0]
    clear hw0
    go_wp2
    refine bodyPost_ret (v := .agg #[.int .i64 0, .string (ByteArray.mk #[])]) (by simp [results, Try.results10, go_sem, q0, q1]) rfl ⟨rfl, ?_⟩
    exact below_put hb0 hb0.size (put2 k0 _ _).2 (Nat.le_refl _)
  · have hb : (n == 0) = false := by simpa using h0
    have HE := hidIt (show tgV (tgOf n) = .agg #[.int .i64 n, .string (tgS n)] by simp [tgOf, h0])
    have k1 : ∀ ob, (w0.alloc ob).heap[w.heap.size]? = some (.cells #[.int .i64 0, .string (ByteArray.mk #[])] 50 (0, 0)) := fun ob => ((ext_alloc (Below.refl _ w0) ob).block _ (Array.getElem?_eq_some_iff.1 k0).1).trans k0
    obtain ⟨_, q0, q1, qf⟩ := cells2 (k1 (.cells #[.int .u8 (n % 256), .int .u8 (n / 256 % 256)] 5))
    have cv := conv_two n w0
    have K1 := hidIt k1
    have HB0 := hidIt hb0
    clear k1 k0 hb0
    go_enter Try.func10, Try.ntmps10
    go_upto_region 1 with fail
    rw [← hw0]
    clear hw0
    go_wp2
    refine bodyPost_ret (v := .agg #[.int .i64 n, .string (tgS n)]) (by simp [results, Try.results10, go_sem, q0, q1]) rfl ⟨by rw [HE.out], ?_⟩
    exact below_put (ext_alloc HB0.out _) (ext_alloc HB0.out _).size (put2 (K1.out _) _ _).2 (Nat.le_refl _)
set_option maxRecDepth 100000 in
theorem copied_any (l : Value) (zs : List Int) (w : World) (h : RdS w l zs) (hl : zs.length * 8 ≤ 140737488355328) :
    Calls Try.prog 16 #[l] w fun e w' => ∃ v, e = .returned v ∧ OwnI w' w.heap.size v zs ∧ Below w.heap.size w w' := by
  obtain ⟨ao, c, rfl, _⟩ := h.len
  have H := hidIt h
  have HL := hidIt (show (([] : List Int).length + zs.length) * 8 ≤ 140737488355328 by simpa using hl)
  clear h hl
  go_enter Try.func16, Try.ntmps16
  go_wp2_with (at_builtin; refine wpl_ints rfl _ _ _ rfl w.heap.size Try.info_i64 Try.underlying32 (.slice none 0 0) [] rfl (OwnI.nil _ _) _ zs rfl H.out HL.out (Nat.le_refl _) ?_; intro v' w' ho' hb'; obtain ⟨a', n', c', e'⟩ := own_form ho'; subst e'; have HO' := hidIt ho'; have HB' := hidIt hb'; clear ho' hb')
  go_ret
  exact ⟨_, rfl, HO'.out, HB'.out⟩
end Go.Proofs.Ytdfmpnnenjnllaa
