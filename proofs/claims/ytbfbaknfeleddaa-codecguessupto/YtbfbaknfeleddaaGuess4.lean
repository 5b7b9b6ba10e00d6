/- Guess of the code. -/
import Derived.Test.YtbfbaknfeleddaaGuess3
namespace Go.Proofs.Ytbfbaknfeleddaa
open Go.RowKit

def Cx.gue (zs : List Int) : Int × Nat :=
  if 0 < (Cx.det zs).2 then ((Cx.det zs).1, 4607182418800017408) else if (Cx.wid zs (zs.length / 2)).1 ≠ 0 then Cx.wid zs (zs.length / 2) else Cx.nar zs

set_option maxRecDepth 100000 in
/-- codec.Guess. -/
theorem Guess_any (v : Value) (zs : List Int) (w : World) (h : Rd .u8 w v zs) (hb : Byt zs) (hz : zs.length ≤ 140737488355328) :
    Calls Try.prog 60 #[v] w fun e w' => e = .returned (.tuple #[.int .i64 (Cx.gue zs).1, .float .f64 (Cx.gue zs).2]) ∧ Below w.heap.size w w' := by
  have HR : Hid (Rd .u8 w v zs) := h
  have HB : Hid (Byt zs) := hb
  have HG : Hid (Cx.gue zs = if 0 < (Cx.det zs).2 then ((Cx.det zs).1, 4607182418800017408) else if (Cx.wid zs (zs.length / 2)).1 ≠ 0 then Cx.wid zs (zs.length / 2) else Cx.nar zs) := rfl
  clear h hb
  generalize Cx.gue zs = G at *
  go_enter Try.func60, Try.ntmps60
  go_wp2_with fail
  refine (Detect_any _ zs _ HR.out HB.out).mono ?_
  rintro e w1 ⟨rfl, hb1⟩
  have HW1 : Hid (Below w.heap.size w w1) := hb1
  clear hb1
  generalize (Cx.det zs).1 = d1 at *
  generalize (Cx.det zs).2 = d2 at *
  by_cases hd : 0 < d2
  · have HE : Hid (G = (d1, 4607182418800017408)) := by unfold Hid; rw [HG.out, if_pos hd]
    clear HG
    go_wp2
    go_ret2
    exact ⟨by rw [HE.out]; rfl, HW1.out⟩
  · have HG' : Hid (G = if (Cx.wid zs (zs.length / 2)).1 ≠ 0 then Cx.wid zs (zs.length / 2) else Cx.nar zs) := by unfold Hid; rw [HG.out, if_neg hd]
    clear HG
    go_wp2_with fail
    refine (guessWide_any _ zs _ (HR.out.ext HW1.out) hz).mono ?_
    rintro e w2 ⟨rfl, hb2⟩
    have HW2 : Hid (Below w.heap.size w w2) := ext_trans HW1.out hb2
    clear hb2
    generalize Cx.wid zs (zs.length / 2) = W at *
    by_cases hw : W.1 = 0
    · have HE : Hid (G = Cx.nar zs) := by unfold Hid; rw [HG'.out, if_neg (fun h => h hw)]
      have hwb : (W.1 != 0) = false := by simp [hw]
      clear HG' hw
      go_wp2_with fail
      refine (guessNarrow_any _ zs _ (HR.out.ext HW2.out) HB.out hz).mono ?_
      rintro e w3 ⟨rfl, hb3⟩
      have HW3 : Hid (Below w.heap.size w w3) := ext_trans HW2.out hb3
      clear hb3
      go_wp2
      go_ret2
      exact ⟨by rw [HE.out]; rfl, HW3.out⟩
    · have HE : Hid (G = W) := by unfold Hid; rw [HG'.out, if_pos hw]
      have hwb : (W.1 != 0) = true := by simp [hw]
      clear HG'
      go_wp2
      go_ret2
      exact ⟨by rw [HE.out]; rfl, HW2.out⟩
end Go.Proofs.Ytbfbaknfeleddaa
