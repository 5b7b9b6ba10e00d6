/- A disk without faults; a shot of it. -/
import Derived.Test.YtaoaihjiieandaaDNames
import Derived.Laws.BytesArg
namespace Go.Proofs.Ytaoaihjiieandaa
open Go.RowKit

/-- Nothing but the steps has changed; it is up, and no fault waits. -/
structure Still (D D' : Dk) : Prop where
  sp : D'.sp = D.sp
  fi : D'.fi = D.fi
  se : D'.se = D.se
  la : D'.la = D.la
  ac : D'.ac = D.ac
  dn : D'.dn = false
  pl : ∀ k, D'.pl k = none
theorem take_calm {D : Dk} (hd : D.dn = false) (hp : ∀ k, D.pl k = none) (op : Dk → Rs) (part : Option (Int → Dk → Rs)) : take op part D = op D.tick := by
  unfold take
  rw [if_neg (by rw [hd]; decide), hp]
  rfl
theorem Still.tick {D D' : Dk} (h : Still D D') : Still D D'.tick := ⟨h.sp, h.fi, h.se, h.la, h.ac, h.dn, fun k => by show (if _ then none else D'.pl k) = none; rw [h.pl]; split <;> rfl⟩
theorem Still.get {D D' : Dk} (h : Still D D') {n : Nat} (hok : DirOk n D.se) {j : Nat} {p : Nm × Nat} (hp : D.se[j]? = some p) : okN p.1 = true ∧ Dir.get p.1 D'.se = some p.2 := by
  rw [h.se]
  exact ⟨(hok.ok p (List.mem_of_getElem? hp)).1, get_at hok hp⟩
theorem read_calm {D D' : Dk} (h : Still D D') {n : Nat} (hok : DirOk n D.se) {j : Nat} {p : Nm × Nat} (hp : D.se[j]? = some p) : take (opRead p.1) none D' = ⟨D'.tick, 0, 0, (fiAt D.fi p.2).bs, (0, 0, 0)⟩ := by
  obtain ⟨h1, h2⟩ := h.get hok hp
  rw [take_calm h.dn h.pl]
  have e : D'.tick.se = D'.se := rfl
  have e2 : D'.tick.fi = D'.fi := rfl
  unfold opRead opWith
  rw [if_pos h1, e, h2]
  dsimp only
  rw [e2, h.fi]
theorem stamp_calm {D D' : Dk} (h : Still D D') {n : Nat} (hok : DirOk n D.se) {j : Nat} {p : Nm × Nat} (hp : D.se[j]? = some p) : take (opStamp p.1) none D' = ⟨D'.tick, 0, 0, [], ((p.2 : Int) + 1, ((fiAt D.fi p.2).bs.length : Int), ((fiAt D.fi p.2).ct : Int))⟩ := by
  obtain ⟨h1, h2⟩ := h.get hok hp
  rw [take_calm h.dn h.pl]
  have e : D'.tick.se = D'.se := rfl
  have e2 : D'.tick.fi = D'.fi := rfl
  unfold opStamp opWith
  rw [if_pos h1, e, h2]
  dsimp only
  rw [e2, h.fi]
theorem conv_Rd {w : World} {v : Value} {zs : List Int} (h : Rd .u8 w v zs) : (convert 22 9 v).run Try.prog w = .ok (.string (strOfNums zs)) w := by
  obtain ⟨ao, cap, rfl, h1, h2, h3⟩ := h
  by_cases hn : zs = []
  · subst hn
    rw [run_convert_bytes_string w _ _ _ _ _ _ Try.underlying22 Try.underlying5 Try.underlying9]
    cases ao with
    | none => simp [Conv.bytesToString]; rfl
    | some a =>
      exact (run_bytesToString w a 0 cap [] (by simp [loadCells, loadCellsFrom])).trans rfl
  · obtain ⟨b, off, rfl, hb, hc⟩ := h3 hn
    exact run_convert_bytes_arg w _ _ Try.underlying22 Try.underlying5 b off zs.length cap zs rfl (fun i hi => by rw [hc i hi]; simp [List.getD]) _ Try.underlying9
/-- The bytes of the files, as strings. -/
def dat (D : Dk) (p : Nm × Nat) : Value := .string (strOfNums (fiAt D.fi p.2).bs)
def stm (D : Dk) (p : Nm × Nat) : List Value := [.int .i64 ((p.2 : Int) + 1), .int .i64 ((fiAt D.fi p.2).bs.length : Int), .int .i64 ((fiAt D.fi p.2).ct : Int)]
/-- A shot in memory: names, bytes, stamps. -/
structure Shot (w : World) (vn vd vs : Value) (D : Dk) : Prop where
  n : w.ownsRow 0 9 1 vn D.se.length (D.se.map (fun p => sv p.1))
  d : w.ownsRow 0 9 1 vd D.se.length (D.se.map (dat D))
  s : w.ownsRow 0 55 3 vs D.se.length (D.se.flatMap (stm D))
theorem Shot.kd {F : Nat → Prop} {w w' : World} {vn vd vs : Value} {D : Dk} (h : Shot w vn vd vs D) (k : Kd F w w') : Shot w' vn vd vs D :=
  ⟨own_same h.n (fun g hg => by obtain ⟨cur, hc⟩ := own_lt h.n hg; exact k.keep hc (by decide)), own_same h.d (fun g hg => by obtain ⟨cur, hc⟩ := own_lt h.d hg; exact k.keep hc (by decide)), own_same h.s (fun g hg => by obtain ⟨cur, hc⟩ := own_lt h.s hg; exact k.keep hc (by decide))⟩
theorem info_stamp : (Try.prog.info? 55).map (fun i => (i.zero, i.size, i.bytes)) = some (some (.agg #[.int .i64 0, .int .i64 0, .int .i64 0]), 3, 24) := by kernel_rfl
theorem usd_cons (fi : List Fi) (p : Nm × Nat) (d : Dir) : usd fi (p :: d) = (fiAt fi p.2).bs.length + usd fi d := by simp [usd]
theorem usd_del (fi : List Fi) (n : Nm) : ∀ d : Dir, usd fi (Dir.del n d) ≤ usd fi d
  | [] => Nat.le_refl _
  | p :: r => by
    have ih := usd_del fi n r
    unfold Dir.del at *
    rw [List.filter_cons, usd_cons]
    split
    · rw [usd_cons]; omega
    · omega
theorem usd_ins (fi : List Fi) (x : Nm × Nat) : ∀ d : Dir, usd fi (Dir.ins x d) = (fiAt fi x.2).bs.length + usd fi d
  | [] => by simp [Dir.ins, usd]
  | y :: r => by
    have ih := usd_ins fi x r
    unfold Dir.ins
    split
    · rw [usd_cons]
    · rw [usd_cons, ih, usd_cons]; omega
theorem usd_put (fi : List Fi) (n : Nm) (i : Nat) (d : Dir) : usd fi (Dir.put n i d) = (fiAt fi i).bs.length + usd fi (Dir.del n d) := usd_ins fi (n, i) _
theorem usd_out {fi : List Fi} {n : Nm} {i : Nat} : ∀ {d : Dir}, Dir.get n d = some i → usd fi (Dir.del n d) + (fiAt fi i).bs.length ≤ usd fi d
  | [], h => by simp [Dir.get] at h
  | p :: r, h => by
    have h0 := usd_del fi n r
    have ih := @usd_out fi n i r
    unfold Dir.get at *
    unfold Dir.del at *
    rw [List.find?_cons] at h
    rw [List.filter_cons, usd_cons]
    cases hp : p.1 == n
    · rw [hp] at h
      have := ih h
      simp only [Bool.not_false, if_true, usd_cons]
      omega
    · rw [hp] at h
      simp at h
      subst h
      simp only [Bool.not_true, Bool.false_eq_true, if_false]
      omega
theorem usd_same {fi fi' : List Fi} : ∀ {d : Dir}, (∀ p ∈ d, (fiAt fi' p.2).bs.length = (fiAt fi p.2).bs.length) → usd fi' d = usd fi d
  | [], _ => rfl
  | p :: r, h => by
    rw [usd_cons, usd_cons, h p List.mem_cons_self, usd_same (fun q hq => h q (List.mem_cons_of_mem _ hq))]
theorem fiAt_set {fi : List Fi} {i : Nat} {f : Fi} (hi : i < fi.length) (j : Nat) : fiAt (fi.set i f) j = if j = i then f else fiAt fi j := by
  unfold fiAt
  rw [List.getElem?_set]
  by_cases e : i = j
  · subst e; simp [hi]
  · rw [if_neg e, if_neg (fun h => e h.symm)]
theorem usd_set {fi : List Fi} {n : Nm} {i : Nat} {f : Fi} (hi : i < fi.length) : ∀ {d : Dir}, d.Pairwise (fun p q => p.2 ≠ q.2) → (n, i) ∈ d → usd (fi.set i f) d + (fiAt fi i).bs.length = usd fi d + f.bs.length
  | [], _, h => by simp at h
  | p :: r, hd, h => by
    obtain ⟨h1, h2⟩ := List.pairwise_cons.1 hd
    rw [usd_cons, usd_cons, fiAt_set hi]
    rcases List.mem_cons.1 h with rfl | h3
    · rw [if_pos rfl, usd_same (fi := fi) (fun q hq => by rw [fiAt_set hi, if_neg (fun e => h1 q hq e.symm)])]
      show f.bs.length + usd fi r + (fiAt fi i).bs.length = (fiAt fi i).bs.length + usd fi r + f.bs.length
      omega
    · rw [if_neg (fun e => h1 _ h3 e)]
      have := usd_set (f := f) hi h2 h3
      omega
/-- Up, no plan, and no more is used than there is. -/
structure Calm (s : Nat) (D : Dk) : Prop where
  dn : D.dn = false
  pl : ∀ k, D.pl k = none
  sp : D.sp = s
  us : usd D.fi D.se ≤ s
section
variable {s N : Nat} {D : Dk}
theorem Calm.tick (h : Calm s D) : Calm s D.tick := ⟨h.dn, fun k => by show (if _ then none else D.pl k) = none; rw [h.pl]; split <;> rfl, h.sp, h.us⟩
theorem Calm.still {D' : Dk} (h : Calm s D) (k : Still D D') : Calm s D' := ⟨k.dn, k.pl, k.sp.trans h.sp, by rw [k.fi, k.se]; exact h.us⟩
theorem clm_with (h : Calm s D) {n : Nm} {f : Nat → Dk → Rs} (hf : ∀ i, okN n = true → Dir.get n D.se = some i → Calm s (f i D).d) : Calm s (opWith n f D).d := by
  unfold opWith
  split
  · rename_i ho
    cases hg : Dir.get n D.se with
    | none => exact h
    | some i => exact hf i ho hg
  · exact h
theorem clm_act (h : Calm s D) {a : Ac} (ha : usd D.fi (a.on D.se) ≤ s) : Calm s (D.act a) := ⟨h.dn, h.pl, h.sp, ha⟩
theorem fiAt_old {fi : List Fi} {i : Nat} (f : Fi) (hi : i < fi.length) : fiAt (fi ++ [f]) i = fiAt fi i := by unfold fiAt; rw [List.getElem?_append_left hi]
theorem clm_make (h : Calm s D) (hw : Wf N D) (n : Nm) : Calm s (take (opMake n) none D).d := by
  rw [take_calm h.dn h.pl]
  have h' := h.tick
  have hw' := hw.tick.seen
  generalize D.tick = E at *
  unfold opMake
  split
  · exact h'
  · split
    · exact h'
    · split
      · exact h'
      · refine ⟨h'.dn, h'.pl, h'.sp, ?_⟩
        show usd (E.fi ++ [⟨[], 0, 0⟩]) (Dir.put n E.fi.length (Dir.del [] E.se)) ≤ s
        rw [usd_put]
        have e1 : (fiAt (E.fi ++ [⟨[], 0, 0⟩]) E.fi.length).bs.length = 0 := by simp [fiAt]
        have e2 := usd_del (E.fi ++ [⟨[], 0, 0⟩]) n (Dir.del [] E.se)
        have e3 := usd_del (E.fi ++ [⟨[], 0, 0⟩]) [] E.se
        have e4 : usd (E.fi ++ [⟨[], 0, 0⟩]) E.se = usd E.fi E.se := usd_same (fun p hp => by rw [fiAt_old _ (hw'.ok p hp).2])
        have := h'.us
        omega
theorem clm_sync (h : Calm s D) (hw : Wf N D) (n : Nm) : Calm s (take (opSync n) none D).d := by
  rw [take_calm h.dn h.pl]
  have h' := h.tick
  have hw' := hw.tick.seen
  generalize D.tick = E at *
  refine clm_with h' (fun i ho hg => ⟨h'.dn, h'.pl, h'.sp, ?_⟩)
  show usd (E.fi.set i _) E.se ≤ s
  have hi := (hw'.ok _ (get_mem hg)).2
  rw [usd_same (fi := E.fi) (fun p hp => by rw [fiAt_set hi]; split <;> simp_all)]
  exact h'.us
theorem clm_dir (h : Calm s D) : Calm s (take opSyncDir none D).d := by
  rw [take_calm h.dn h.pl]
  exact ⟨h.tick.dn, h.tick.pl, h.tick.sp, h.tick.us⟩
theorem clm_ren (h : Calm s D) (a b : Nm) : Calm s (take (opRen a b) none D).d := by
  rw [take_calm h.dn h.pl]
  have h' := h.tick
  generalize D.tick = E at *
  unfold opRen
  split
  · refine clm_with h' (fun i ho hg => ?_)
    dsimp only [Rs.err]
    split
    · exact h'
    · refine clm_act h' ?_
      show usd E.fi (Dir.put b i (Dir.del a E.se)) ≤ s
      rw [usd_put]
      have := usd_del E.fi b (Dir.del a E.se)
      have := usd_out (fi := E.fi) hg
      have := h'.us
      omega
  · exact h'
theorem clm_rem (h : Calm s D) (n : Nm) : Calm s (take (opRem n) none D).d := by
  rw [take_calm h.dn h.pl]
  have h' := h.tick
  generalize D.tick = E at *
  refine clm_with h' (fun i ho hg => clm_act h' (Nat.le_trans (usd_del E.fi n E.se) h'.us))
theorem clm_read (h : Calm s D) (n : Nm) : Calm s (take (opRead n) none D).d := by
  rw [take_calm h.dn h.pl]
  exact clm_with h.tick (fun i _ _ => h.tick)
theorem clm_stamp (h : Calm s D) (n : Nm) : Calm s (take (opStamp n) none D).d := by
  rw [take_calm h.dn h.pl]
  exact clm_with h.tick (fun i _ _ => h.tick)
theorem clm_restart (h : Calm s D) : Calm s D.restart := by
  unfold Dk.restart
  rw [if_neg (by rw [h.dn]; decide)]
  exact h
theorem clm_put (h : Calm s D) (hw : Wf N D) (n : Nm) (b : List Int) : Calm s (opPut n b D).d := by
  unfold opPut
  split
  · exact h
  · rename_i hz
    have hz' : putE n b.length D = 0 := by simpa using hz
    obtain ⟨_, hok, hso, hno⟩ := put_ok hz'
    cases hg : Dir.get n D.se with
    | none =>
      refine ⟨h.dn, h.pl, h.sp, ?_⟩
      show usd (D.fi ++ [⟨b, b.length, 1⟩]) (Dir.put n D.fi.length D.se) ≤ s
      rw [usd_put]
      have e1 : (fiAt (D.fi ++ [⟨b, b.length, 1⟩]) D.fi.length).bs.length = b.length := by simp [fiAt]
      have e2 := usd_del (D.fi ++ [⟨b, b.length, 1⟩]) n D.se
      have e4 : usd (D.fi ++ [⟨b, b.length, 1⟩]) D.se = usd D.fi D.se := usd_same (fun p hp => by rw [fiAt_old _ (hw.seen.ok p hp).2])
      have := (hno hg).2
      have := h.sp
      omega
    | some i =>
      refine ⟨h.dn, h.pl, h.sp, ?_⟩
      show usd (D.fi.set i ⟨b, b.length, (fiAt D.fi i).ct + 1⟩) D.se ≤ s
      have hm := get_mem hg
      have hi := (hw.seen.ok _ hm).2
      have e := usd_set (f := ⟨b, b.length, (fiAt D.fi i).ct + 1⟩) hi hw.seen.inj hm
      have := hso i hg
      have := usd_ge (fi := D.fi) hm
      have := h.sp
      simp only at *
      omega
/-- What an Append of a calm disk does. -/
theorem clm_app (h : Calm s D) (hw : Wf N D) (n : Nm) (b : List Int) :
    Calm s (take (opApp n b) (some (opPart n b)) D).d ∧ (take (opApp n b) (some (opPart n b)) D).n ≤ b.length ∧ ((take (opApp n b) (some (opPart n b)) D).e = 0 → (take (opApp n b) (some (opPart n b)) D).n = b.length) ∧
    (0 < (take (opApp n b) (some (opPart n b)) D).n → (take (opApp n b) (some (opPart n b)) D).n < b.length → usd (take (opApp n b) (some (opPart n b)) D).d.fi (take (opApp n b) (some (opPart n b)) D).d.se = s) := by
  rw [take_calm h.dn h.pl]
  have h' := h.tick
  have hw' := hw.tick.seen
  generalize D.tick = E at *
  have hu := h'.us
  have hsp := h'.sp
  unfold opApp opPart opWith
  by_cases ho : okN n = true
  · rw [if_pos ho]
    cases hg : Dir.get n E.se with
    | none => exact ⟨by simpa [Rs.err] using h', by simp [Rs.err], by simp [Rs.err], by simp [Rs.err]⟩
    | some i =>
      have hm := get_mem hg
      have hi : i < E.fi.length := (hw'.ok _ hm).2
      obtain ⟨k, hk⟩ : ∃ k, k = clip (b.length : Int) (min b.length E.room) := ⟨_, rfl⟩
      have hk2 : k = min b.length (s - usd E.fi E.se) := by rw [hk]; unfold clip Dk.room; rw [hsp]; omega
      have e := usd_set (f := wrF (fiAt E.fi i) (b.take k)) hi hw'.inj hm
      have hl : (wrF (fiAt E.fi i) (b.take k)).bs.length = (fiAt E.fi i).bs.length + k := by
        unfold wrF
        split
        · rename_i h0
          have : (b.take k).length = 0 := by rw [h0]; rfl
          rw [List.length_take] at this
          omega
        · simp only [List.length_append, List.length_take]; omega
      rw [hl] at e
      have hc : Calm s (E.setF i (wrF (fiAt E.fi i) (b.take k))) := ⟨h'.dn, h'.pl, h'.sp, by show usd (E.fi.set i _) E.se ≤ s; omega⟩
      have hx : k < b.length → usd (E.fi.set i (wrF (fiAt E.fi i) (b.take k))) E.se = s := fun _ => by omega
      dsimp only
      rw [← hk]
      by_cases hkb : k < b.length
      · rw [if_pos ⟨rfl, hkb⟩]
        refine ⟨hc, Nat.le_of_lt hkb, fun e => ?_, fun _ _ => hx hkb⟩
        exact absurd (show (161 : Int) = 0 from e) (by decide)
      · rw [if_neg (fun e => hkb e.2)]
        exact ⟨hc, by show k ≤ _; omega, fun _ => by show k = _; omega, fun _ h2 => absurd h2 hkb⟩
  · rw [if_neg ho]
    exact ⟨by simpa [Rs.err] using h', by simp [Rs.err], by simp [Rs.err], by simp [Rs.err]⟩
end
end Go.Proofs.Ytaoaihjiieandaa
