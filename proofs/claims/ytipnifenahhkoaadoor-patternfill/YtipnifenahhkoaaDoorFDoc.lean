/- What the document's Fill has put, against the whole reading. -/
import Derived.Test.YtipnifenahhkoaaDoorFHex
namespace Go.Proofs.YtipnifenahhkoaaDoor

theorem tak_btw (line mt : List Int) (k : Nat) : tak line mt k = btw line (mt[2 * k]?.getD 0) (mt[2 * k + 1]?.getD 0) := rfl
/-- The state behind an order: what is put, and the two letters. -/
def stp (x : List Int × Int × Int) (o : Od) : List Int × Int × Int := (x.1 ++ giv (nxO x.2.1 o.letter) (nxD x.2.2 o.letter) o.gives, onc (nxO x.2.1 o.letter) o.gives, nxD x.2.2 o.letter)
def rn (x : List Int × Int × Int) (os : List Od) : List Int × Int × Int := os.foldl stp x
theorem rn_snoc (x : List Int × Int × Int) (os : List Od) (o : Od) : rn x (os ++ [o]) = stp (rn x os) o := by
  unfold rn
  rw [List.foldl_append]
  rfl
/-- Two staying letters that turn alike. -/
def Lk (s s' : Int) : Prop := s = s' ∨ (s = 0 ∧ s' = 69)
theorem Lk.tur {s s' : Int} (h : Lk s s') (a : Int) : tur a s = tur a s' := by
  rcases h with rfl | ⟨rfl, rfl⟩
  · rfl
  · simp [Proofs.YtipnifenahhkoaaDoor.tur]
theorem Lk.giv {s s' : Int} (h : Lk s s') (once : Int) (g : List Int) : giv once s g = giv once s' g := by
  cases g with
  | nil => rfl
  | cons a r => simp only [Proofs.YtipnifenahhkoaaDoor.giv, h.tur]
theorem Lk.nx {s s' : Int} (h : Lk s s') (l : Int) : Lk (nxD s l) (nxS s' l) := by
  unfold nxD nxS
  by_cases h1 : l = 85 ∨ l = 76
  · rw [if_pos h1, if_pos (by omega)]; exact .inl rfl
  by_cases h2 : l = 69
  · subst h2; simp [Lk]
  · rw [if_neg h1, if_neg h2, if_neg (by omega)]; exact h
theorem rn_oby : ∀ (os : List Od) (out : List Int) (once s s' : Int), Lk s s' → (rn (out, once, s) os).1 = out ++ oby once s' os
  | [], out, once, s, s', _ => by simp [rn, oby]
  | o :: r, out, once, s, s', h => by
    have ih := rn_oby r (out ++ giv (nxO once o.letter) (nxD s o.letter) o.gives) (onc (nxO once o.letter) o.gives) (nxD s o.letter) (nxS s' o.letter) (h.nx _)
    show (rn (stp (out, once, s) o) r).1 = _
    unfold stp
    rw [ih, oby, (h.nx o.letter).giv, List.append_assoc]
theorem rn_len (os : List Od) : (rn ([], 0, 0) os).1.length = siz os := by
  rw [rn_oby os [] 0 0 0 (.inl rfl), List.nil_append, oby_len]
/-- What holds behind the orders done. -/
def Inv (done : List Od) (out : List Int) (once stay : Int) : Prop :=
  (siz done ≤ 140000 ∧ (out, once, stay) = rn ([], 0, 0) done) ∨ (140000 < siz done ∧ 140000 < out.length ∧ out.length ≤ 140001 + done.length)
theorem Inv.nil : Inv [] [] 0 0 := .inl ⟨by simp [siz], rfl⟩
theorem Inv.len {done : List Od} {out : List Int} {once stay : Int} (h : Inv done out once stay) : out.length ≤ 140001 + done.length := by
  rcases h with ⟨h1, h2⟩ | ⟨_, _, h3⟩
  · have := rn_len done
    rw [← h2] at this
    simp only at this
    omega
  · exact h3
theorem Inv.full {done : List Od} {out : List Int} {once stay : Int} {o : Od} (h : Inv done out once stay) (ho : o.gives.length ≤ 1) : Inv (done ++ [o]) (out ++ giv (nxO once o.letter) (nxD stay o.letter) o.gives) (onc (nxO once o.letter) o.gives) (nxD stay o.letter) := by
  have hs := siz_snoc done o
  have hg := giv_len (nxO once o.letter) (nxD stay o.letter) o.gives
  rcases h with ⟨h1, h2⟩ | ⟨h1, h2, h3⟩
  · have hl := rn_len done
    rw [← h2] at hl
    simp only at hl
    by_cases h4 : siz (done ++ [o]) ≤ 140000
    · refine .inl ⟨h4, ?_⟩
      rw [rn_snoc, ← h2]
      rfl
    · refine .inr ⟨by omega, ?_, ?_⟩ <;> rw [List.length_append, hg]
      · omega
      · rw [List.length_append, List.length_singleton]; omega
  · refine .inr ⟨by omega, ?_, ?_⟩ <;> rw [List.length_append, hg]
    · omega
    · rw [List.length_append, List.length_singleton]; omega
theorem Inv.taken {done : List Od} {out : List Int} {once stay : Int} {T : List Int} {k : Nat} (h : Inv done out once stay) (hk : k ≤ T.length) (hor : k = T.length ∨ 140000 < out.length + k) (hm : out.length + k ≤ max out.length 140001) : Inv (done ++ [⟨T, 0⟩]) (out ++ giv once stay (T.take k)) (onc once (T.take k)) stay := by
  have hs := siz_snoc done ⟨T, 0⟩
  have hg := giv_len once stay (T.take k)
  rw [List.length_take, Nat.min_eq_left hk] at hg
  simp only at hs
  rcases h with ⟨h1, h2⟩ | ⟨h1, h2, h3⟩
  · have hl := rn_len done
    rw [← h2] at hl
    simp only at hl
    by_cases h4 : siz (done ++ [⟨T, 0⟩]) ≤ 140000
    · obtain rfl : k = T.length := by omega
      refine .inl ⟨h4, ?_⟩
      rw [rn_snoc, ← h2, List.take_length]
      have e1 : nxO once 0 = once := by simp [nxO]
      have e2 : nxD stay 0 = stay := by simp [nxD]
      simp only [stp, e1, e2]
    · refine .inr ⟨by omega, ?_, ?_⟩ <;> rw [List.length_append, hg]
      · omega
      · rw [List.length_append, List.length_singleton]; omega
  · refine .inr ⟨by omega, ?_, ?_⟩ <;> rw [List.length_append, hg]
    · omega
    · rw [List.length_append, List.length_singleton]; omega
/-- At the end. -/
theorem Inv.fin {line mt rep : List Int} {done : List Od} {out : List Int} {once stay : Int} (h : Inv done out once stay) (hr : ¬ 256 < rep.length) (hp : par line mt rep 0 = some done) : fll rep line mt = if 140000 < out.length then ([], 3) else (out, 0) := by
  unfold fll
  rw [if_neg hr, hp]
  simp only
  rcases h with ⟨h1, h2⟩ | ⟨h1, h2, h3⟩
  · have hl := rn_len done
    have ho := rn_oby done [] 0 0 0 (.inl rfl)
    rw [← h2] at hl ho
    simp only [List.nil_append] at hl ho
    rw [if_neg (by omega), if_neg (by omega), ho]
  · rw [if_pos h1, if_pos h2]
end Go.Proofs.YtipnifenahhkoaaDoor
