/- digit, number, beginning, rowText, readRow, holds. -/
import Derived.Test.YtipnifenahhkoaaDoorTab
import Derived.Laws.RangeAny
import Derived.LoopTactic
import Derived.Deep.RegionWith
namespace Go.Proofs.YtipnifenahhkoaaDoor
open Go.RowKit

theorem ret_int {k : IntKind} {a b : Int} (h : a = b) : Ending.returned (.int k a) = .returned (.int k b) := by rw [h]
theorem ret_bool {a b : Bool} (h : a = b) : Ending.returned (.bool a) = .returned (.bool b) := by rw [h]
theorem ext_trans {a b c : World} (h : Below a.heap.size a b) (k : Below b.heap.size b c) : Below a.heap.size a c := h.trans (k.mono h.size)

theorem ext_alloc {a b : World} (h : Below a.heap.size a b) (o : Obj) : Below a.heap.size a (b.alloc o) := h.alloc h.size o

theorem results_cell_one {fn : Func} {p : Tmp} {ty : TypeId} (h : fn.results = #[.cell p ty]) (tmps : Array Value) (P : Program) (w : World) :
    (results fn tmps).run P w = ((asAddr (tmps.getD p undef)).run P w).andThen fun a w₁ => (loadVar ty a).run P w₁ := by
  simp only [results, h]
  simp [Sem.run_bind, Result.andThen]

theorem digit_any (d : Nat) (h : d < 16) (w : World) : Calls Tryd.prog 55 #[.int .i32 ((Gx.hd d).toNat : Int)] w fun e w' => e = .returned (.int .i64 d) ∧ w' = w := by
  rw [Gx.hd_nat d h]
  by_cases h10 : d < 10
  · rw [if_pos h10]
    push_cast
    go_enter Tryd.func55, Tryd.ntmps55
    go_wp2
    go_ret
    refine ⟨ret_int ?_, rfl⟩
    omega
  · rw [if_neg h10]
    push_cast
    go_enter Tryd.func55, Tryd.ntmps55
    go_wp2
    go_ret
    refine ⟨ret_int ?_, rfl⟩
    omega

/-- How far a number is read behind its first p digits. -/
theorem Gx.val_take (ds : List Nat) (p : Nat) (h : p < ds.length) : Gx.val (ds.take (p + 1)) = Gx.val (ds.take p) * 16 + ds[p] := by
  unfold Gx.val
  rw [List.take_succ_eq_append_getElem h, List.foldl_append]
  rfl
theorem Gx.val_lt (ds : List Nat) (h : ∀ d ∈ ds, d < 16) : Gx.val ds < 16 ^ ds.length := by
  unfold Gx.val
  suffices H : ∀ (l : List Nat) (s n : Nat), s < 16 ^ n → (∀ d ∈ l, d < 16) → l.foldl (fun s d => s * 16 + d) s < 16 ^ (n + l.length) from by
    have := H ds 0 0 (by simp) h
    simpa using this
  intro l
  induction l with
  | nil => intro s n hs _; simpa using hs
  | cons d l ih =>
    intro s n hs hl
    have hd := hl d (by simp)
    have := ih (s * 16 + d) (n + 1) (by rw [Nat.pow_succ]; omega) (fun x hx => hl x (by simp [hx]))
    simp only [List.foldl_cons, List.length_cons]
    rw [show n + (l.length + 1) = n + 1 + l.length from by omega]
    exact this

set_option maxRecDepth 100000 in
theorem number_any (ds : List Nat) (hd : ∀ d ∈ ds, d < 16) (hl : ds.length ≤ 5) (w : World) :
    Calls Tryd.prog 54 #[.string (Gx.hexS ds)] w fun e w' => e = .returned (.int .i64 (Gx.val ds)) ∧ w' = w.alloc (.stringIter (Gx.hexS ds) ds.length) := by
  have hsz := Gx.hexS_size ds
  have HD : Hid (∀ d ∈ ds, d < 16) := hd
  have HG : Hid (∀ i (h : i < (Gx.hexS ds).size) (h' : i < ds.length), (Gx.hexS ds)[i] = Gx.hd ds[i]) := fun i h _ => Gx.hexS_get ds i h
  have HV : Hid (∀ p, p ≤ ds.length → Gx.val (ds.take p) < 1048576) := by
    intro p hp
    have h1 := Gx.val_lt (ds.take p) (fun d hx => hd d (List.mem_of_mem_take hx))
    have h2 : 16 ^ (ds.take p).length ≤ 16 ^ 5 := Nat.pow_le_pow_right (by omega) (by rw [List.length_take]; omega)
    have h3 : (16 : Nat) ^ 5 = 1048576 := by decide
    omega
  have HT : Hid (Gx.val (ds.take ds.length) = Gx.val ds) := by unfold Hid; rw [List.take_length]
  clear hd
  generalize hs : Gx.hexS ds = s at *
  clear hs
  go_enter Tryd.func54, Tryd.ntmps54
  go_wp2
  go_loopw [3] (fun n w' => ∃ (p : Nat), p ≤ ds.length ∧ w' = w.iter s p ∧ n = .int .i64 (Gx.val (ds.take p))) (fun _ w' => s.size - w'.iterPos w.heap.size)
  case atStart => exact ⟨0, Nat.zero_le _, rfl, rfl⟩
  case round =>
    obtain ⟨p, hp, rfl, rfl⟩ := hrel
    by_cases hlt : p < s.size
    · have hpl : p < ds.length := by omega
      have hd16 : ds[p] < 16 := HD.out _ (List.getElem_mem hpl)
      have hb : (s[p]).toNat < 128 := by
        rw [HG.out p hlt hpl, Gx.hd_nat _ hd16]
        split <;> omega
      have hb2 : (s[p]).toNat = (Gx.hd ds[p]).toNat := by rw [HG.out p hlt hpl]
      have hnx : ∀ ty, (Instr.next (.pointer (some ⟨w.heap.size, 0, none⟩)) true ty).run Tryd.prog (w.iter s p) = _ := fun ty => run_next_ascii w s p ty hlt hb
      rw [hb2] at hnx
      have hv := HV.out p hp
      have HN : Hid (Gx.val (ds.take (p + 1)) = Gx.val (ds.take p) * 16 + ds[p]) := Gx.val_take ds p hpl
      clear hb hb2
      generalize Gx.val (ds.take p) = n at *
      generalize ds[p] = d at *
      go_wp2_with (go_at_call 55; refine (digit_any d hd16 _).mono ?_; rintro e w' ⟨rfl, rfl⟩)
      go_roundw
      case rel => exact ⟨p + 1, by omega, rfl, by rw [HN.out]; push_cast; rfl⟩
      case measure => simp; omega
    · have hnx : ∀ ty, (Instr.next (.pointer (some ⟨w.heap.size, 0, none⟩)) true ty).run Tryd.prog (w.iter s p) = _ := fun ty => run_next_end w s p ty hlt
      have hpe : p = ds.length := by omega
      subst hpe
      rw [HT.out]
      go_wp2
      go_ret
      exact ⟨rfl, rfl⟩

/-- A row's numbers are of five digits and of one. -/
def Gx.okRow (r : Gx.Row) : Prop := r.1 < 1048576 ∧ r.2.1 < 1048576 ∧ r.2.2 < 16

theorem beginning_any (r : Gx.Row) (h : r.1 < 1048576) (w : World) :
    Calls Tryd.prog 50 #[.string (Gx.rowS r)] w fun e w' => e = .returned (.int .i64 r.1) ∧ w' = w.alloc (.stringIter (Gx.hexS (Gx.digs r.1)) 5) := by
  have hs := Gx.row_size r
  have hx := Gx.row_from r
  have HC : Hid (∀ w, Calls Tryd.prog 54 #[.string (Gx.hexS (Gx.digs r.1))] w fun e w' => e = .returned (.int .i64 r.1) ∧ w' = w.alloc (.stringIter (Gx.hexS (Gx.digs r.1)) 5)) := by
    intro w
    have := number_any (Gx.digs r.1) (Gx.digs_lt _ h) (by simp [Gx.digs]) w
    rwa [Gx.val_digs] at this
  generalize Gx.rowS r = s at *
  generalize Gx.hexS (Gx.digs r.1) = t at *
  go_enter Tryd.func50, Tryd.ntmps50
  go_wp2_with fail
  refine (HC.out _).mono ?_
  rintro e w' ⟨rfl, rfl⟩
  go_wp2
  go_ret
  exact ⟨rfl, rfl⟩

theorem rowText_any (T : List Gx.Row) (i : Nat) (h : i < T.length) (hT : T.length ≤ 1000) (w : World) :
    Calls Tryd.prog 51 #[.string (Gx.str T), .int .i64 i] w fun e w' => e = .returned (.string (Gx.rowS T[i])) ∧ w' = w := by
  have hs := Gx.str_size T
  have hx := Gx.str_row T i h
  have e1 : ((i : Int) * 14).toNat = i * 14 := by omega
  have e2 : (((i : Int) + 1) * 14).toNat = (i + 1) * 14 := by omega
  generalize Gx.str T = s at *
  generalize Gx.rowS T[i] = t at *
  go_enter Tryd.func51, Tryd.ntmps51
  go_wp2
  go_ret
  exact ⟨rfl, rfl⟩

theorem holds_any (f t v a : Int) (w : World) :
    Calls Tryd.prog 53 #[.agg #[.int .i64 f, .int .i64 t, .int .i64 v], .int .i64 a] w fun e w' => e = .returned (.bool (decide (f ≤ a) && decide (a ≤ t))) ∧ Below w.heap.size w w' := by
  by_cases h1 : f ≤ a
  all_goals
    go_enter Tryd.func53, Tryd.ntmps53
    go_wp2
    go_ret
    refine ⟨ret_bool ?_, (Below.refl _ _).alloc (Nat.le_refl _) _⟩
    first | (simp [h1]; done) | (rw [Bool.eq_iff_iff]; simp; omega)

def Gx.rowV (r : Gx.Row) : Value := .agg #[.int .i64 r.1, .int .i64 r.2.1, .int .i64 r.2.2]

set_option maxRecDepth 100000 in
theorem readRow_any (r : Gx.Row) (h1 : r.1 < 1048576) (h2 : r.2.1 < 1048576) (h3 : r.2.2 < 16) (w : World) :
    Calls Tryd.prog 52 #[.string (Gx.rowS r)] w fun e w' => e = .returned (.agg #[.int .i64 r.1, .int .i64 r.2.1, .int .i64 r.2.2]) ∧ Below w.heap.size w w' := by
  have hs := Gx.row_size r
  have hx2 := Gx.row_to r
  have hx3 := Gx.row_value r
  have HB : Hid (∀ w, Calls Tryd.prog 50 #[.string (Gx.rowS r)] w fun e w' => e = .returned (.int .i64 r.1) ∧ w' = w.alloc (.stringIter (Gx.hexS (Gx.digs r.1)) 5)) := beginning_any r h1
  have HT : Hid (∀ w, Calls Tryd.prog 54 #[.string (Gx.hexS (Gx.digs r.2.1))] w fun e w' => e = .returned (.int .i64 r.2.1) ∧ w' = w.alloc (.stringIter (Gx.hexS (Gx.digs r.2.1)) 5)) := by
    intro w
    have := number_any (Gx.digs r.2.1) (Gx.digs_lt _ h2) (by simp [Gx.digs]) w
    rwa [Gx.val_digs] at this
  have HV : Hid (∀ w, Calls Tryd.prog 54 #[.string (Gx.hexS [r.2.2])] w fun e w' => e = .returned (.int .i64 r.2.2) ∧ w' = w.alloc (.stringIter (Gx.hexS [r.2.2]) 1)) := by
    intro w
    have := number_any [r.2.2] (by simpa using h3) (by simp) w
    simpa [Gx.val] using this
  generalize Gx.rowS r = s at *
  generalize Gx.hexS (Gx.digs r.1) = t1 at *
  generalize Gx.hexS (Gx.digs r.2.1) = t2 at *
  generalize Gx.hexS [r.2.2] = t3 at *
  clear h1 h2 h3
  generalize r.1 = a at *
  generalize r.2.1 = b at *
  generalize r.2.2 = c at *
  go_enter Tryd.func52, Tryd.ntmps52
  go_wp2_with fail
  first | go_region_with (first | (go_at_call 50; refine (HB.out _).mono ?_; rintro e w' ⟨rfl, rfl⟩) | (go_at_call_of 54 (Value.string t2); refine (HT.out _).mono ?_; rintro e w' ⟨rfl, rfl⟩) | (go_at_call 54; refine (HV.out _).mono ?_; rintro e w' ⟨rfl, rfl⟩)) | fail
  all_goals
    go_wp2_with fail
    (try simp only [Exit.inBlock, Exit.then])
    refine bodyPost_ret (v := .agg #[.int .i64 a, .int .i64 b, .int .i64 c]) ?_ rfl ⟨rfl, (ext_alloc (ext_alloc (ext_alloc (ext_alloc (Below.refl _ _) _) _) _) _).drew⟩
    rw [results_cell_one rfl]
    go_simp
end Go.Proofs.YtipnifenahhkoaaDoor
