/- A stream in memory: what it holds; the copy into it. -/
import Derived.Test.YtmfbobibpebfnaaConcat
import Derived.Laws.CopyOwn
namespace Go.Proofs.Ytmfbobibpebfnaa
open Go.RowKit Go.Lib

/-- The stream's block. -/
def strow (enc : Int) (x : Int × Int × Int) (n : Nat) : Array Value := #[Cx.cv enc, .int .u8 x.1, .int .u8 x.2.1, .int .u8 x.2.2, .int .i64 n]
/-- At block g lies a stream of the encoding that holds the bytes h. -/
def St (w : World) (g : Nat) (enc : Int) (h : List Int) : Prop :=
  ∃ x : Int × Int × Int, w.heap[g]? = some (.cells (strow enc x h.length) 46 (0, 0)) ∧ h = [x.1, x.2.1, x.2.2].take h.length ∧ h.length ≤ 3

theorem St.lt {w : World} {g : Nat} {enc : Int} {h : List Int} (s : St w g enc h) : g < w.heap.size := by
  obtain ⟨x, hg, _⟩ := s
  exact (Array.getElem?_eq_some_iff.1 hg).1
theorem St.ext {w w' : World} {g : Nat} {enc : Int} {h : List Int} (s : St w g enc h) (hb : Below w.heap.size w w') : St w' g enc h := by
  have hl := s.lt
  obtain ⟨x, hg, h1, h2⟩ := s
  exact ⟨x, by rw [hb.block g hl]; exact hg, h1, h2⟩
theorem St.other {w w' : World} {g k : Nat} {enc : Int} {h : List Int} (s : St w g enc h) (hb : w.grownBy w' (some k)) (hk : g ≠ k) : St w' g enc h := by
  have hl := s.lt
  obtain ⟨x, hg, h1, h2⟩ := s
  exact ⟨x, by rw [hb.block g hl (by intro e; cases e; exact hk rfl)]; exact hg, h1, h2⟩

theorem row_facts {w : World} {g : Nat} {enc : Int} {x : Int × Int × Int} {n : Nat} (hg : w.heap[g]? = some (.cells (strow enc x n) 46 (0, 0))) :
    w.cell? ⟨g, 0, none⟩ = some (Cx.cv enc) ∧ w.cell? ⟨g, 1, none⟩ = some (.int .u8 x.1) ∧ w.cell? ⟨g, 2, none⟩ = some (.int .u8 x.2.1) ∧ w.cell? ⟨g, 3, none⟩ = some (.int .u8 x.2.2) ∧ w.cell? ⟨g, 4, none⟩ = some (.int .i64 n) ∧ w.frozen? ⟨g, 4, none⟩ = false := by
  refine ⟨?_, ?_, ?_, ?_, ?_, ?_⟩
  · rw [cell_of_row w g 0 _ _ _ hg]; rfl
  · rw [cell_of_row w g 1 _ _ _ hg]; rfl
  · rw [cell_of_row w g 2 _ _ _ hg]; rfl
  · rw [cell_of_row w g 3 _ _ _ hg]; rfl
  · rw [cell_of_row w g 4 _ _ _ hg]; rfl
  · simp [World.frozen?, hg]

theorem held_rd {w : World} {g : Nat} {enc : Int} {h : List Int} (s : St w g enc h) : Rd .u8 w (.slice (some ⟨g, 1, none⟩) h.length 3) h := by
  have hl := s.lt
  obtain ⟨x, hg, h1, h2⟩ := s
  obtain ⟨_, c1, c2, c3, _⟩ := row_facts hg
  refine ⟨_, 3, rfl, h2, by simp [maxLen], fun _ => ⟨g, 1, rfl, hl, fun i hi => ?_⟩⟩
  have hi3 : i = 0 ∨ i = 1 ∨ i = 2 := by omega
  have e : h[i]? = [x.1, x.2.1, x.2.2][i]? := by rw [h1, List.getElem?_take, if_pos hi]
  rw [e]
  rcases hi3 with rfl | rfl | rfl
  · simpa using c1
  · simpa using c2
  · simpa using c3

theorem grown_below {w w' : World} {k : Option Nat} (h : Below w.heap.size w w') : w.grownBy w' k := ⟨h.os, h.tape, h.output, h.size, fun j hj _ => h.block j hj⟩
theorem grown_trans {a b c : World} {k : Nat} (h : a.grownBy b (some k)) (h' : b.grownBy c (some k)) : a.grownBy c (some k) :=
  ⟨h'.os.trans h.os, h'.tape.trans h.tape, h'.output.trans h.output, Nat.le_trans h.size h'.size, fun j hj hk => (h'.block j (Nat.lt_of_lt_of_le hj h.size) hk).trans (h.block j hj hk)⟩
theorem grown_setRow (w : World) (g : Nat) (cs : Array Value) : w.grownBy (w.setRow g cs) (some g) :=
  ⟨rfl, rfl, rfl, by simp [World.setRow], fun j _ hk => setRow_other w g j cs (by intro e; subst e; exact hk rfl)⟩

/-- copy(s.held[:], b), where b is short. -/
theorem wpList_copy_held {w : World} {ops : Array Oper} {rest : List Oper} {o : Oper} {a : Act} {Q : Exit → Act → World → Prop} (hgd : o.guard = none) (d s : Operand)
    (ho : o.op = .call { callee := .builtin .copy, args := #[d, s], argTypes := #[24, 24] }) (g : Nat) (enc : Int) (x : Int × Int × Int) (n : Nat) (v : Value) (ys : List Int)
    (hd : a.eval d = .slice (some ⟨g, 1, none⟩) 3 3) (hs : a.eval s = v) (hg : w.heap[g]? = some (.cells (strow enc x n) 46 (0, 0))) (hr : Rd .u8 w v ys) (hl : ys.length ≤ 3)
    (h : ∀ w' y, w'.heap[g]? = some (.cells (strow enc y n) 46 (0, 0)) → ys = [y.1, y.2.1, y.2.2].take ys.length → w.grownBy w' (some g) → wpList Try.prog ops Q rest (a.put o.dst (.int .i64 ys.length)) w') :
    wpList Try.prog ops Q (o :: rest) a w := by
  obtain ⟨i0, hi, hz0, hz1, hz2⟩ := info_parts Try.info_u8
  have hsz : (Try.prog.info? 5).map (·.size) = some 1 := by rw [hi]; simp [hz1]
  obtain ⟨ao, cap, rfl, h1, h2, h3⟩ := id hr
  by_cases hn : ys = []
  · subst hn
    refine wpList_copy_nothing hgd d s _ _ ho 5 Try.underlying24 hsz _ _ _ _ _ _ hd hs (by simp) ?_
    exact h w x hg rfl ⟨rfl, rfl, rfl, Nat.le_refl _, fun _ _ _ => rfl⟩
  · obtain ⟨b, off, rfl, hb, hc⟩ := h3 hn
    refine wpList_copy_own hgd d s _ _ ho 5 Try.underlying24 hsz g 1 3 3 ⟨b, off, none⟩ ys.length cap hd hs _ _ hg (ys.map (Value.int .u8)) ?_ (rd_cells hr).2 ?_ (one_all _ _) ?_
    · simp only [List.length_map]; exact (Nat.min_eq_left hl).symm
    · simp [strow]; omega
    · rw [List.length_map]
      have hgo : goInt (ys.length : Int) = .int .i64 ys.length := rfl
      rw [hgo]
      match ys, hl, hn with
      | [y0], _, _ =>
        refine h _ (y0, x.2.1, x.2.2) ?_ rfl (grown_setRow _ _ _)
        rw [setRow_heap w g _ _ 46 (0, 0) hg]; rfl
      | [y0, y1], _, _ =>
        refine h _ (y0, y1, x.2.2) ?_ rfl (grown_setRow _ _ _)
        rw [setRow_heap w g _ _ 46 (0, 0) hg]; rfl
      | [y0, y1, y2], _, _ =>
        refine h _ (y0, y1, y2) ?_ rfl (grown_setRow _ _ _)
        rw [setRow_heap w g _ _ 46 (0, 0) hg]; rfl

theorem st_count {w : World} {g : Nat} {enc : Int} {x : Int × Int × Int} {n m : Nat} (hg : w.heap[g]? = some (.cells (strow enc x n) 46 (0, 0))) :
    (w.setCell ⟨g, 4, none⟩ (.int .i64 m)).heap[g]? = some (.cells (strow enc x m) 46 (0, 0)) ∧ w.grownBy (w.setCell ⟨g, 4, none⟩ (.int .i64 m)) (some g) := by
  rw [setCell_eq_setRow w g 4 _ _ _ _ hg]
  refine ⟨?_, grown_setRow _ _ _⟩
  rw [setRow_heap w g _ _ 46 (0, 0) hg]
  rfl

theorem Held_any (w : World) (g : Nat) (enc : Int) (h : List Int) (s : St w g enc h) : Calls Try.prog 20 #[.pointer (some ⟨g, 0, none⟩)] w fun e w' => e = .returned (.int .i64 h.length) ∧ w' = w := by
  obtain ⟨x, hg, h1, h2⟩ := s
  obtain ⟨_, _, _, _, c4, _⟩ := row_facts hg
  clear hg h1 h2
  go_enter Try.func20, Try.ntmps20
  go_wp2_with fail
  go_ret
  exact ⟨rfl, rfl⟩

set_option maxRecDepth 100000 in
theorem NewStream_any (enc : Int) (he : Cx.known enc = true) (w : World) : Calls Try.prog 5 #[.int .i64 enc] w fun e w' => e = .returned (.tuple #[.pointer (some ⟨w.heap.size, 0, none⟩), .int .i64 0]) ∧ St w' w.heap.size enc [] ∧ Below w.heap.size w w' := by
  have hk : enc = 1 ∨ enc = 2 ∨ enc = 3 ∨ enc = 4 := by unfold Cx.known at he; simp at he; omega
  clear he
  rcases hk with rfl | rfl | rfl | rfl
  · go_enter Try.func5, Try.ntmps5
    go_wp2_with fail
    refine (coderOf_1 _).mono ?_
    rintro e w' ⟨rfl, rfl⟩
    go_wp2_with fail
    go_ret2
    exact ⟨rfl, ⟨(0, 0, 0), heap_alloc_new _ _, rfl, by simp⟩, ext_alloc (Below.refl _ _) _⟩
  · go_enter Try.func5, Try.ntmps5
    go_wp2_with fail
    refine (coderOf_2 _).mono ?_
    rintro e w' ⟨rfl, rfl⟩
    go_wp2_with fail
    go_ret2
    exact ⟨rfl, ⟨(0, 0, 0), heap_alloc_new _ _, rfl, by simp⟩, ext_alloc (Below.refl _ _) _⟩
  · go_enter Try.func5, Try.ntmps5
    go_wp2_with fail
    refine (coderOf_3 _).mono ?_
    rintro e w' ⟨rfl, rfl⟩
    go_wp2_with fail
    go_ret2
    exact ⟨rfl, ⟨(0, 0, 0), heap_alloc_new _ _, rfl, by simp⟩, ext_alloc (Below.refl _ _) _⟩
  · go_enter Try.func5, Try.ntmps5
    go_wp2_with fail
    refine (coderOf_4 _).mono ?_
    rintro e w' ⟨rfl, rfl⟩
    go_wp2_with fail
    go_ret2
    exact ⟨rfl, ⟨(0, 0, 0), heap_alloc_new _ _, rfl, by simp⟩, ext_alloc (Below.refl _ _) _⟩
end Go.Proofs.Ytmfbobibpebfnaa
