/- At, Find. -/
import Derived.Test.YtcdamhgblolofaaRepl
namespace Go.Proofs.Ytcdamhgblolofaa
open Go.RowKit

/-- What a node tells as its size. -/
def szAt (w : World) : Value → Nat
  | .pointer (some a) => match w.cell? ⟨a.block, 4, none⟩ with
    | some (.int _ n) => n.toNat
    | _ => 0
  | _ => 0
theorem szAt_tin {w : World} {t : Tr It} {u : Option Addr} (h : Tin w t u) : szAt w (.pointer u) = t.list.length := by
  cases t using Tr.ind with
  | nil => simp only [Tin] at h; subst h; rfl
  | node l x r =>
    obtain ⟨g, lv, rv, rfl, hg, hl, hr⟩ := h
    have c4 : w.cell? ⟨g, 4, none⟩ = some (.int .i64 ((l.list ++ x :: r.list).length : Nat)) := by rw [cell_of_row w g 4 _ _ _ hg]; rfl
    simp [szAt, c4, Tr.list]
    omega
/-- The thing of a number. -/
def atL (l : List It) (i : Int) : Option It := if i < 0 then none else l[i.toNat]?
theorem atL_nil (i : Int) : atL [] i = none := by unfold atL; split <;> simp
theorem atL_here (l r : List It) (x : It) : atL (l ++ x :: r) l.length = some x := by
  unfold atL; rw [if_neg (by omega)]; simp
theorem atL_left (l r : List It) (x : It) (i : Int) (h : i < l.length) : atL (l ++ x :: r) i = atL l i := by
  unfold atL
  split
  · rfl
  · rw [List.getElem?_append_left (by omega)]
theorem atL_right (l r : List It) (x : It) (i : Int) (h : l.length < i) : atL (l ++ x :: r) i = atL r (i - (l.length + 1)) := by
  unfold atL
  rw [if_neg (by omega), if_neg (by omega), List.getElem?_append_right (by omega), show i.toNat - l.length = (i - (l.length + 1)).toNat + 1 by omega]
  rfl

/-- What At tells. -/
def AtP (xs : List It) (i : Int) (x : It) (b : Bool) : Prop := (atL xs i = some x ∧ b = true) ∨ (atL xs i = none ∧ b = false ∧ x = (0, 0))

set_option maxRecDepth 100000 in
set_option maxHeartbeats 2000000 in
theorem At_any (u : Option Addr) (xs : List It) (i : Int) (w : World) (h : TT w (.agg #[.pointer u]) xs) (hw : wt xs ≤ 4611686018427387904) (hi : i ≤ 9223372036854775807) :
    Calls Try.prog 27 #[.agg #[.pointer u], .int .i64 i] w fun e w' => ∃ x b, e = .returned (.tuple #[.agg #[.int .i64 x.1, .int .i64 x.2], .bool b]) ∧ AtP xs i x b ∧ Below w.heap.size w w' := by
  obtain ⟨u', tr, hu, ht, hl, _⟩ := h
  obtain rfl : u = u' := by simpa using hu
  obtain ⟨w0, hw0⟩ : ∃ w0, w0 = (w.alloc (.cells #[.pointer u] 39)).alloc (.cells #[.int .i64 0, .int .i64 0] 24) := ⟨_, rfl⟩
  have hb0 : Below w.heap.size w w0 := by rw [hw0]; exact ext_alloc (ext_alloc (Below.refl _ _) _) _
  have hA : BlkI w0 (w.heap.size + 1) (0, 0) := by
    have := heap_alloc_new (w.alloc (.cells #[.pointer u] 39)) (.cells #[.int .i64 0, .int .i64 0] 24)
    rw [World.size_alloc] at this
    rw [hw0]; exact this
  have hlt := hA.lt
  have HT := hidIt (ht.ext hb0)
  have HL := hidIt hl
  have HB0 := hidIt hb0
  have HW := hidIt hw
  clear ht hl hb0 hu hw
  go_enter Try.func27, Try.ntmps27
  go_wp2_with fail
  rw [← hw0]
  clear hw0
  go_loopw [1, 6] (fun i' p wr => ∃ (t : Tr It) (q : Option Addr) (j : Int), i' = .int .i64 j ∧ p = .pointer q ∧ Tin wr t q ∧ Hid (atL xs i = atL t.list j ∧ wt t.list ≤ 4611686018427387904) ∧ j ≤ 9223372036854775807 ∧ wr = w0) (fun _ p wr => szAt wr p)
  case atStart => exact ⟨tr, u, i, rfl, rfl, HT.out, ⟨by rw [HL.out], by rw [HL.out]; exact HW.out⟩, hi, rfl⟩
  case round =>
    obtain ⟨t, q, j, rfl, rfl, htq, HA, hj, rfl⟩ := hrel
    obtain ⟨z0, z1, zf⟩ := hA.cells
    cases t using Tr.ind with
    | nil =>
      simp only [Tin] at htq
      subst htq
      go_wp2_with fail
      obtain ⟨p1, p2⟩ := hA.put (0, 0)
      have HN : atL xs i = none := by rw [HA.out.1, Tr.list, atL_nil]
      exact bodyPost_ret (v := .tuple #[.agg #[.int .i64 0, .int .i64 0], .bool false]) (by simp [results, Try.results27, go_sem, z0, z1, hlt]) rfl ⟨0, 0, .inl ⟨rfl, .inr ⟨HN, rfl, rfl⟩, ext_alloc (below_put HB0.out (by omega) p2 (by omega)) _⟩⟩
    | node l x r =>
      have hsz := szAt_tin htq
      have HTQ := hidIt htq
      obtain ⟨g, lu, ru, rfl, hgl, h2, h3, c0, c1, c2, c3⟩ := htq.lt
      have hlen : l.list.length ≤ 4611686018427387904 := by
        have := HA.out.2
        have := wt_len l.list
        rw [Tr.list, wt_app] at *
        omega
      have HLL := hidIt h2
      have HRR := hidIt h3
      have K : Hid (Calls Try.prog 42 #[.pointer lu] wr fun e w'' => e = .returned (.int .i64 l.list.length) ∧ w'' = wr) := count_any l lu wr h2
      have sl := szAt_tin h2
      have sr := szAt_tin h3
      have HS : Hid (szAt wr (.pointer (some ⟨g, 0, none⟩)) = l.list.length + 1 + r.list.length ∧ szAt wr (.pointer lu) = l.list.length ∧ szAt wr (.pointer ru) = r.list.length) := ⟨by rw [hsz, Tr.list]; simp; omega, sl, sr⟩
      clear htq h2 h3 hsz sl sr
      rcases Int.lt_trichotomy j l.list.length with hj1 | hj1 | hj1
      · have hne : ¬ j = (l.list.length : Int) := by omega
        have HN : Hid (atL xs i = atL l.list j ∧ wt l.list ≤ 4611686018427387904) := by
          obtain ⟨a1, a2⟩ := HA.out
          rw [Tr.list] at a1 a2
          rw [wt_app] at a2
          exact ⟨by rw [a1, atL_left _ _ _ _ hj1], by omega⟩
        generalize l.list.length = nl at *
        go_wp2_with (go_at_call 42; refine K.out.mono ?_; rintro e w1 ⟨rfl, rfl⟩)
        go_roundw
        case rel => exact ⟨l, lu, j, rfl, rfl, HLL.out, HN, hj, trivial⟩
        case measure => rw [HS.out.1, HS.out.2.1]; omega
      · have HN : Hid (atL xs i = some x) := by
          obtain ⟨a1, a2⟩ := HA.out
          rw [Tr.list] at a1
          unfold Hid
          rw [a1, hj1, atL_here]
        generalize l.list.length = nl at *
        subst hj1
        go_wp2_with (go_at_call 42; refine K.out.mono ?_; rintro e w1 ⟨rfl, rfl⟩)
        obtain ⟨p1, p2⟩ := hA.put x
        exact bodyPost_ret (v := .tuple #[.agg #[.int .i64 x.1, .int .i64 x.2], .bool true]) (by simp [results, Try.results27, go_sem, z0, z1]) rfl ⟨x, true, rfl, .inl ⟨HN.out, rfl⟩, below_put HB0.out (by omega) p2 (by omega)⟩
      · have hne : ¬ j = (l.list.length : Int) := by omega
        have hge : ¬ j < (l.list.length : Int) := by omega
        have HN : Hid (atL xs i = atL r.list (j - (l.list.length + 1)) ∧ wt r.list ≤ 4611686018427387904) := by
          obtain ⟨a1, a2⟩ := HA.out
          rw [Tr.list] at a1 a2
          rw [wt_app, wt_cons] at a2
          exact ⟨by rw [a1, atL_right _ _ _ _ hj1], by omega⟩
        generalize l.list.length = nl at *
        go_wp2_with (go_at_call 42; refine K.out.mono ?_; rintro e w1 ⟨rfl, rfl⟩)
        go_roundw
        case rel => exact ⟨r, ru, _, rfl, rfl, HRR.out, HN, by omega, trivial⟩
        case measure => rw [HS.out.1, HS.out.2.2]; omega
end Go.Proofs.Ytcdamhgblolofaa
