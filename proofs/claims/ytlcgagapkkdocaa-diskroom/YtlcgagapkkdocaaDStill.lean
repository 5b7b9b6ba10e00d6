/- A disk without faults; a shot of it. -/
import Derived.Test.YtlcgagapkkdocaaDNames
import Derived.Laws.BytesArg
namespace Go.Proofs.Ytlcgagapkkdocaa
open Go.RowKit

/-- Nothing but the steps has changed; it is up, and no fault waits. -/
structure Still (D D' : Dk) : Prop where
  sp : D'.sp = D.sp
  fi : D'.fi = D.fi
  se : D'.se = D.se
  la : D'.la = D.la
  ac : D'.ac = D.ac
  dn : D'.dn = false
  pl : ∀ k, D'.pl k = none
theorem take_calm {D : Dk} (hd : D.dn = false) (hp : ∀ k, D.pl k = none) (op : Dk → Rs) (part : Option (Int → Dk → Rs)) : take op part D = op D.tick := by
  unfold take
  rw [if_neg (by rw [hd]; decide), hp]
  rfl
theorem Still.tick {D D' : Dk} (h : Still D D') : Still D D'.tick := ⟨h.sp, h.fi, h.se, h.la, h.ac, h.dn, fun k => by show (if _ then none else D'.pl k) = none; rw [h.pl]; split <;> rfl⟩
theorem Still.get {D D' : Dk} (h : Still D D') {n : Nat} (hok : DirOk n D.se) {j : Nat} {p : Nm × Nat} (hp : D.se[j]? = some p) : okN p.1 = true ∧ Dir.get p.1 D'.se = some p.2 := by
  rw [h.se]
  exact ⟨(hok.ok p (List.mem_of_getElem? hp)).1, get_at hok hp⟩
theorem read_calm {D D' : Dk} (h : Still D D') {n : Nat} (hok : DirOk n D.se) {j : Nat} {p : Nm × Nat} (hp : D.se[j]? = some p) : take (opRead p.1) none D' = ⟨D'.tick, 0, 0, (fiAt D.fi p.2).bs, (0, 0, 0)⟩ := by
  obtain ⟨h1, h2⟩ := h.get hok hp
  rw [take_calm h.dn h.pl]
  have e : D'.tick.se = D'.se := rfl
  have e2 : D'.tick.fi = D'.fi := rfl
  unfold opRead opWith
  rw [if_pos h1, e, h2]
  dsimp only
  rw [e2, h.fi]
theorem stamp_calm {D D' : Dk} (h : Still D D') {n : Nat} (hok : DirOk n D.se) {j : Nat} {p : Nm × Nat} (hp : D.se[j]? = some p) : take (opStamp p.1) none D' = ⟨D'.tick, 0, 0, [], ((p.2 : Int) + 1, ((fiAt D.fi p.2).bs.length : Int), ((fiAt D.fi p.2).ct : Int))⟩ := by
  obtain ⟨h1, h2⟩ := h.get hok hp
  rw [take_calm h.dn h.pl]
  have e : D'.tick.se = D'.se := rfl
  have e2 : D'.tick.fi = D'.fi := rfl
  unfold opStamp opWith
  rw [if_pos h1, e, h2]
  dsimp only
  rw [e2, h.fi]
theorem conv_Rd {w : World} {v : Value} {zs : List Int} (h : Rd .u8 w v zs) : (convert 22 9 v).run Try.prog w = .ok (.string (strOfNums zs)) w := by
  obtain ⟨ao, cap, rfl, h1, h2, h3⟩ := h
  by_cases hn : zs = []
  · subst hn
    rw [run_convert_bytes_string w _ _ _ _ _ _ Try.underlying22 Try.underlying5 Try.underlying9]
    cases ao with
    | none => simp [Conv.bytesToString]; rfl
    | some a =>
      exact (run_bytesToString w a 0 cap [] (by simp [loadCells, loadCellsFrom])).trans rfl
  · obtain ⟨b, off, rfl, hb, hc⟩ := h3 hn
    exact run_convert_bytes_arg w _ _ Try.underlying22 Try.underlying5 b off zs.length cap zs rfl (fun i hi => by rw [hc i hi]; simp [List.getD]) _ Try.underlying9
/-- The bytes of the files, as strings. -/
def dat (D : Dk) (p : Nm × Nat) : Value := .string (strOfNums (fiAt D.fi p.2).bs)
def stm (D : Dk) (p : Nm × Nat) : List Value := [.int .i64 ((p.2 : Int) + 1), .int .i64 ((fiAt D.fi p.2).bs.length : Int), .int .i64 ((fiAt D.fi p.2).ct : Int)]
/-- A shot in memory: names, bytes, stamps. -/
structure Shot (w : World) (vn vd vs : Value) (D : Dk) : Prop where
  n : w.ownsRow 0 9 1 vn D.se.length (D.se.map (fun p => sv p.1))
  d : w.ownsRow 0 9 1 vd D.se.length (D.se.map (dat D))
  s : w.ownsRow 0 55 3 vs D.se.length (D.se.flatMap (stm D))
theorem Shot.kd {F : Nat → Prop} {w w' : World} {vn vd vs : Value} {D : Dk} (h : Shot w vn vd vs D) (k : Kd F w w') : Shot w' vn vd vs D :=
  ⟨own_same h.n (fun g hg => by obtain ⟨cur, hc⟩ := own_lt h.n hg; exact k.keep hc (by decide)), own_same h.d (fun g hg => by obtain ⟨cur, hc⟩ := own_lt h.d hg; exact k.keep hc (by decide)), own_same h.s (fun g hg => by obtain ⟨cur, hc⟩ := own_lt h.s hg; exact k.keep hc (by decide))⟩
theorem info_stamp : (Try.prog.info? 55).map (fun i => (i.zero, i.size, i.bytes)) = some (some (.agg #[.int .i64 0, .int .i64 0, .int .i64 0]), 3, 24) := by kernel_rfl
end Go.Proofs.Ytlcgagapkkdocaa
