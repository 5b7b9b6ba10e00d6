/- least, pure: what wordy's loop finds is what Find tells. -/
import Derived.Test.YtcdamhgblolofaaWSums
namespace Go.Proofs.Ytcdamhgblolofaa.W

/-- What least is behind i rounds. -/
def lst (k n : Int) (l : List It) (i : Nat) : Nat := if wA.fnd k n Ws.zero l ≤ i then wA.fnd k n Ws.zero l else l.length + 1
theorem lst_zero (k n : Int) (l : List It) : lst k n l 0 = if n ≤ 0 then 0 else l.length + 1 := by
  have hz : wA.key Ws.zero k = 0 := wA.keyz k
  unfold lst
  by_cases h : n ≤ 0
  · rw [wA.fnd_here k n Ws.zero l (by omega)]; simp [h]
  · have hf : ¬ wA.fnd k n Ws.zero l ≤ 0 := by
      cases l with
      | nil => rw [Alg.fnd, if_neg (by omega)]; omega
      | cons x l => rw [Alg.fnd, if_neg (by omega)]; omega
    rw [if_neg hf, if_neg h]
theorem lst_over (k n : Int) (l : List It) (i : Nat) (hi : i ≤ l.length) : l.length < lst k n l i ↔ i < wA.fnd k n Ws.zero l := by
  unfold lst
  split <;> omega
/-- A round in which least stays. -/
theorem lst_stay (k n : Int) (l : List It) (i : Nat) (hi : i < l.length) (h : ¬ (l.length < lst k n l i ∧ n ≤ wA.key (wA.su (l.take (i + 1))) k)) : lst k n l (i + 1) = lst k n l i := by
  rw [lst_over k n l i (by omega)] at h
  have hit := wA.fnd_hit k n l Ws.zero wA.okz
  have ez : ∀ m, wA.add Ws.zero (wA.su (l.take m)) = wA.su (l.take m) := fun m => wA.zadd _ (wA.ok _)
  unfold lst
  by_cases h1 : wA.fnd k n Ws.zero l ≤ i
  · rw [if_pos (by omega), if_pos h1]
  · by_cases h2 : wA.fnd k n Ws.zero l ≤ i + 1
    · have e : wA.fnd k n Ws.zero l = i + 1 := by omega
      have := hit (by omega)
      rw [ez, e] at this
      exact absurd ⟨by omega, this⟩ h
    · rw [if_neg h2, if_neg h1]
/-- A round in which least is found. -/
theorem lst_hit (k n : Int) (l : List It) (i : Nat) (hi : i < l.length) (h1 : l.length < lst k n l i) (h2 : n ≤ wA.key (wA.su (l.take (i + 1))) k) : lst k n l (i + 1) = i + 1 := by
  rw [lst_over k n l i (by omega)] at h1
  have hless := wA.fnd_less k n l Ws.zero (i + 1) wA.okz
  have ez : wA.add Ws.zero (wA.su (l.take (i + 1))) = wA.su (l.take (i + 1)) := wA.zadd _ (wA.ok _)
  rw [ez] at hless
  have e : wA.fnd k n Ws.zero l = i + 1 := by
    by_cases h3 : i + 1 < wA.fnd k n Ws.zero l
    · have := hless h3; omega
    · omega
  unfold lst
  rw [if_pos (by omega), e]
theorem lst_end (k n : Int) (l : List It) : lst k n l l.length = wA.fnd k n Ws.zero l := by
  have := wA.fnd_le k n l Ws.zero
  unfold lst
  split <;> omega
end Go.Proofs.Ytcdamhgblolofaa.W
