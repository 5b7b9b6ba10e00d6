/- The disk in memory. -/
import Derived.Test.YtaoaihjiieandaaDPure
import Derived.Test.YtaoaihjiieandaaGKit
import Derived.Maps.Range
namespace Go.Proofs.Ytaoaihjiieandaa
open Go.RowKit

abbrev pp (b : Nat) : Value := .pointer (some ⟨b, 0, none⟩)
def bsOf (n : Nm) : ByteArray := ⟨n.toArray⟩
theorem bsOf_size (n : Nm) : (bsOf n).size = n.length := by simp [bsOf, ByteArray.size]
theorem bsOf_at (n : Nm) (i : Nat) (h : i < (bsOf n).size) : (bsOf n)[i] = n[i]'(by rw [← bsOf_size]; exact h) := by
  unfold bsOf at h ⊢
  exact List.getElem_toArray _
theorem bsOf_data (s : ByteArray) : bsOf s.data.toList = s := by unfold bsOf; simp
abbrev sv (n : Nm) : Value := .string (bsOf n)
def heldR (v : Value) : Option (DataW Value × List MemPlace) := some (.held v, [])
theorem lawS : Maps.Keyed Try.prog 9 := Maps.string_keyed Try.underlying9
theorem lawI : Maps.Keyed Try.prog 3 := Maps.int_keyed Try.underlying3
def In64 (k : Int) : Prop := (Lit.int .i64 k).wf = true
theorem In64.of {k : Int} (h0 : -9223372036854775808 ≤ k) (h1 : k ≤ 9223372036854775807) : In64 k := WalkArith.wf_i64 (by omega)
theorem key_of {k : Int} (h : In64 k) : keyOf Try.prog 3 (.int .i64 k) = some (.int .i64 k) := Maps.keyOf_int_mk Try.underlying3 h
theorem key_str (n : Nm) (h : n.length ≤ maxLen) : keyOf Try.prog 9 (sv n) = some (.string n) := by
  have := WideMaps.keyOf_string_mk (P := Try.prog) Try.underlying9 (s := bsOf n) (by rw [bsOf_size]; exact h)
  rw [this]
  simp [bsOf]

/-- A directory as the map's datum. -/
def enE (fq : Nat → Nat) (p : Nm × Nat) : Lit × DataW Value := (.string p.1, .held (pp (fq p.2)))
def enD (fq : Nat → Nat) (d : Dir) : DataW Value := .map (d.map (enE fq))
theorem enD_del (fq : Nat → Nat) (n : Nm) (d : Dir) : (enD fq d).del (.string n) = enD fq (Dir.del n d) := by
  unfold enD DataW.del Dir.del
  simp only [List.filter_map]
  congr 1
theorem ins_map (fq : Nat → Nat) (x : Nm × Nat) (d : Dir) : DataW.insert (enE fq x) (d.map (enE fq)) = (Dir.ins x d).map (enE fq) := by
  induction d with
  | nil => rfl
  | cons y r ih =>
    show (if bytesBefore x.1 y.1 then _ else _) = _
    unfold Dir.ins
    split
    · rfl
    · rw [List.map_cons, ← ih]
theorem enD_put (fq : Nat → Nat) (n : Nm) (i : Nat) (d : Dir) : (enD fq d).put (.string n) (.held (pp (fq i))) = enD fq (Dir.put n i d) := by
  have h := enD_del fq n d
  unfold enD DataW.del at h
  unfold enD DataW.put Dir.put
  rw [← ins_map]
  injection h with h
  rw [← h]
  rfl
theorem enD_find (fq : Nat → Nat) (n : Nm) (d : Dir) : (d.map (enE fq)).find? (fun p => p.1.sameKey (.string n)) = (d.find? (fun p => p.1 == n)).map (enE fq) := by
  induction d with
  | nil => rfl
  | cons y r ih =>
    have e : ((enE fq y).1.sameKey (.string n)) = (y.1 == n) := rfl
    rw [List.map_cons, List.find?_cons, List.find?_cons, e]
    cases y.1 == n
    · exact ih
    · rfl
theorem enD_at (fq : Nat → Nat) (n : Nm) (d : Dir) (z : DataW Value) : (enD fq d).atKey (.string n) z = match Dir.get n d with | none => z | some i => .held (pp (fq i)) := by
  unfold enD DataW.atKey Dir.get
  simp only [enD_find]
  cases d.find? (fun p => p.1 == n) <;> rfl
theorem enD_size (fq : Nat → Nat) (d : Dir) : Maps.size (enD fq d) = d.length := by simp [enD, Maps.size]
theorem enD_keys (fq : Nat → Nat) (d : Dir) : strKeys (enD fq d) = d.map (·.1) := by simp [enD, strKeys, enE, strOf, Function.comp_def]
theorem enD_congr {fq fq' : Nat → Nat} {d : Dir} (h : ∀ p ∈ d, fq' p.2 = fq p.2) : enD fq' d = enD fq d := by
  unfold enD
  congr 1
  exact List.map_congr_left (fun p hp => by unfold enE; rw [h p hp])

/-- Block b is the map of a directory. -/
def DirM (w : World) (b : Nat) (fq : Nat → Nat) (d : Dir) : Prop := w.ownsMap Try.prog 9 heldR b d.length (enD fq d)
theorem tight {w : World} {b n : Nat} {k : TypeId} {D : DataW Value} (h : w.ownsMap Try.prog k heldR b n D) : w.ownsMap Try.prog k heldR b (Maps.size D) D := by
  obtain ⟨es, cl, h1, h2, _, h3⟩ := h
  refine ⟨es, cl, h1, h2, ?_, h3⟩
  rw [h3, Maps.size_eq, length_sorted]
  simp
theorem DirM.of {w : World} {b n : Nat} {fq : Nat → Nat} {d : Dir} (h : w.ownsMap Try.prog 9 heldR b n (enD fq d)) : DirM w b fq d := by
  have := tight h
  rwa [enD_size] at this
theorem DirM.lt {w : World} {b : Nat} {fq : Nat → Nat} {d : Dir} (h : DirM w b fq d) : b < w.heap.size := World.ownsMap.lt h
theorem DirM.heap {w : World} {b : Nat} {fq : Nat → Nat} {d : Dir} (h : DirM w b fq d) : ∃ es cl, w.heap[b]? = some (.map es cl) := by
  obtain ⟨es, cl, h1, _⟩ := h
  exact ⟨es, cl, h1⟩
theorem DirM.same {w w' : World} {b : Nat} {fq : Nat → Nat} {d : Dir} (h : DirM w b fq d) (e : w'.heap[b]? = w.heap[b]?) : DirM w' b fq d := by
  obtain ⟨es, cl, h1, r⟩ := h
  exact ⟨es, cl, e.trans h1, r⟩
theorem DirM.congr {w : World} {b : Nat} {fq fq' : Nat → Nat} {d : Dir} (h : DirM w b fq d) (e : ∀ p ∈ d, fq' p.2 = fq p.2) : DirM w b fq' d := by
  unfold DirM
  rw [enD_congr e]
  exact h

/-- The cells of an act. -/
def acP (fq : Nat → Nat) (o : Option Nat) : Value := match o with
  | none => .pointer none
  | some i => pp (fq i)
def acC (fq : Nat → Nat) (a : Ac) : List Value := [sv a.gone, sv a.to, acP fq a.fi]
/-- A fault in the plan. -/
def PEnt (F : Nat → Prop) (w : World) (D : DataW Value) (k : Int) : Option Ft → Prop
  | none => Maps.has D (.int .i64 k) = false
  | some f => Maps.has D (.int .i64 k) = true ∧ (1 ≤ f.kd ∧ f.kd ≤ 5 ∧ In64 f.pt ∧ In64 f.cut.nm) ∧ (∀ x ∈ f.cut.bs, In64 x) ∧ ∃ u, D.atKey (.int .i64 k) .nil = .held (.agg #[.int .i64 k, .int .i64 f.kd, .int .i64 f.pt, .int .i64 f.cut.nm, u]) ∧ OwnI w 0 u f.cut.bs ∧ ∀ g, u.ownBlock = some g → ¬ F g
def PlanM (F : Nat → Prop) (w : World) (mp : Option Nat) (N : Nat) (pl : Int → Option Ft) : Prop := match mp with
  | none => ∀ k, pl k = none
  | some b => ∃ D, w.ownsMap Try.prog 3 heldR b N D ∧ ∀ k, In64 k → PEnt F w D k (pl k)
/-- A file in memory: its block, its bytes. -/
def FiB (w : World) (q : Nat) (v : Value) (i : Nat) (f : Fi) : Prop :=
  w.heap[q]? = some (.cells #[.int .i64 ((i : Int) + 1), v, .int .i64 (f.sy : Int), .int .i64 (f.ct : Int)] 130 (0, 0)) ∧ w.ownsRow 0 5 1 v f.bs.length (f.bs.map (Value.int .u8))

/-- All that a disk is but its own block. -/
structure Rst (F : Nat → Prop) (N : Nat) (w : World) (d ms ml : Nat) (mp : Option Nat) (va : Value) (fq : Nat → Nat) (fv : Nat → Value) (fi : List Fi) (se la : Dir) (ac : List Ac) (pl : Int → Option Ft) : Prop where
  hs : DirM w ms fq se
  hl : DirM w ml fq la
  ne : ms ≠ ml
  ha : w.ownsRow 0 98 3 va ac.length (ac.flatMap (acC fq))
  hp : PlanM F w mp N pl
  pe : mp ≠ some ms ∧ mp ≠ some ml
  hf : ∀ i f, fi[i]? = some f → FiB w (fq i) (fv i) i f
  f1 : ∀ i j, i < fi.length → j < fi.length → fq i = fq j → i = j
  f2 : ∀ i j g, i < fi.length → j < fi.length → (fv i).ownBlock = some g → (fv j).ownBlock = some g → i = j
  fd : ¬ F d
  fs : ¬ F ms
  fl : ¬ F ml
  fp : ∀ b, mp = some b → ¬ F b
  fa : ∀ g, va.ownBlock = some g → ¬ F g
  ff : ∀ i, i < fi.length → ¬ F (fq i)
  fb : ∀ i g, i < fi.length → (fv i).ownBlock = some g → ¬ F g
  fw : ∀ q, F q → q < w.heap.size

theorem own_lt {w : World} {e : TypeId} {size n : Nat} {v : Value} {xs : List Value} (h : w.ownsRow 0 e size v n xs) {g : Nat} (hg : v.ownBlock = some g) : ∃ cur, w.heap[g]? = some (.cells cur e (0, 0)) := by
  rcases h.2 with ⟨rfl, _⟩ | ⟨g', cap, cur, rfl, _, hc, _⟩
  · cases hg
  · cases hg
    exact ⟨cur, hc⟩
theorem own_same {w w' : World} {e : TypeId} {size n : Nat} {v : Value} {xs : List Value} (h : w.ownsRow 0 e size v n xs) (hs : ∀ g, v.ownBlock = some g → w'.heap[g]? = w.heap[g]?) : w'.ownsRow 0 e size v n xs := by
  refine ⟨h.1, ?_⟩
  rcases h.2 with h2 | ⟨g, cap, cur, rfl, h0, hc, r⟩
  · exact .inl h2
  · exact .inr ⟨g, cap, cur, rfl, h0, (hs g rfl).trans hc, r⟩
theorem FiB.same {w w' : World} {q : Nat} {v : Value} {i : Nat} {f : Fi} (h : FiB w q v i f) (h1 : w'.heap[q]? = w.heap[q]?) (h2 : ∀ g, v.ownBlock = some g → w'.heap[g]? = w.heap[g]?) : FiB w' q v i f := ⟨h1.trans h.1, own_same h.2 h2⟩
theorem PEnt.same {F F' : Nat → Prop} {w w' : World} {D : DataW Value} {k : Int} {o : Option Ft} (h : PEnt F w D k o) (hs : ∀ g cur, w.heap[g]? = some (.cells cur 3 (0, 0)) → ¬ F g → w'.heap[g]? = w.heap[g]? ∧ ¬ F' g) : PEnt F' w' D k o := by
  cases o with
  | none => exact h
  | some f =>
    obtain ⟨h1, h2, h3, u, h4, h5, h6⟩ := h
    refine ⟨h1, h2, h3, u, h4, own_same h5 (fun g hg => ?_), fun g hg => ?_⟩
    · obtain ⟨cur, hc⟩ := own_lt h5 hg
      exact (hs g cur hc (h6 g hg)).1
    · obtain ⟨cur, hc⟩ := own_lt h5 hg
      exact (hs g cur hc (h6 g hg)).2
theorem PlanM.same {F F' : Nat → Prop} {w w' : World} {mp : Option Nat} {N : Nat} {pl : Int → Option Ft} (h : PlanM F w mp N pl) (hm : ∀ b, mp = some b → w'.heap[b]? = w.heap[b]?) (hs : ∀ g cur, w.heap[g]? = some (.cells cur 3 (0, 0)) → ¬ F g → w'.heap[g]? = w.heap[g]? ∧ ¬ F' g) : PlanM F' w' mp N pl := by
  cases mp with
  | none => exact h
  | some b =>
    obtain ⟨D, ⟨es, cl, h1, r⟩, h2⟩ := h
    exact ⟨D, ⟨es, cl, (hm b rfl).trans h1, r⟩, fun k hk => (h2 k hk).same hs⟩
theorem PlanM.heap {F : Nat → Prop} {w : World} {b : Nat} {N : Nat} {pl : Int → Option Ft} (h : PlanM F w (some b) N pl) : ∃ es cl, w.heap[b]? = some (.map es cl) := by
  obtain ⟨D, ⟨es, cl, h1, _⟩, _⟩ := h
  exact ⟨es, cl, h1⟩

section
variable {F : Nat → Prop} {N : Nat} {w : World} {d ms ml : Nat} {mp : Option Nat} {va : Value} {fq : Nat → Nat} {fv : Nat → Value} {fi : List Fi} {se la : Dir} {ac : List Ac} {pl : Int → Option Ft}
theorem lt_get {fi : List Fi} {i : Nat} {f : Fi} (h : fi[i]? = some f) : i < fi.length := (List.getElem?_eq_some_iff.1 h).1
theorem Rst.fget (h : Rst F N w d ms ml mp va fq fv fi se la ac pl) {i : Nat} (hi : i < fi.length) : FiB w (fq i) (fv i) i (fiAt fi i) := by
  have : fi[i]? = some (fiAt fi i) := by unfold fiAt; simp [hi]
  exact h.hf i _ this
/-- What no disk's block is stays out of it: the world moves on. -/
theorem Rst.move {w' : World} {F' : Nat → Prop} (h : Rst F N w d ms ml mp va fq fv fi se la ac pl) (hsame : ∀ k, k < w.heap.size → ¬ F k → w'.heap[k]? = w.heap[k]? ∧ ¬ F' k) (hd : d < w.heap.size) (hF : ∀ q, F' q → q < w'.heap.size) : Rst F' N w' d ms ml mp va fq fv fi se la ac pl := by
  have lt : ∀ {k : Nat} {o : Obj}, w.heap[k]? = some o → k < w.heap.size := fun e => (Array.getElem?_eq_some_iff.1 e).1
  have hrow : ∀ {e : TypeId} {size n : Nat} {v : Value} {xs : List Value}, w.ownsRow 0 e size v n xs → ∀ g, v.ownBlock = some g → ¬ F g → w'.heap[g]? = w.heap[g]? ∧ ¬ F' g := fun hr g hg hn => by
    obtain ⟨cur, hc⟩ := own_lt hr hg
    exact hsame g (lt hc) hn
  have hfl : ∀ i, i < fi.length → fq i < w.heap.size := fun i hi => lt (h.fget hi).1
  exact {
    hs := h.hs.same (hsame ms h.hs.lt h.fs).1
    hl := h.hl.same (hsame ml h.hl.lt h.fl).1
    ne := h.ne
    ha := own_same h.ha (fun g hg => (hrow h.ha g hg (h.fa g hg)).1)
    hp := h.hp.same (fun b e => by subst e; obtain ⟨es, cl, hb⟩ := h.hp.heap; exact (hsame b (lt hb) (h.fp b rfl)).1) (fun g cur hc hn => hsame g (lt hc) hn)
    pe := h.pe
    hf := fun i f hi => (h.hf i f hi).same (hsame _ (lt (h.hf i f hi).1) (h.ff i (lt_get hi))).1 (fun g hg => (hrow (h.hf i f hi).2 g hg (h.fb i g (lt_get hi) hg)).1)
    f1 := h.f1
    f2 := h.f2
    fd := (hsame d hd h.fd).2
    fs := (hsame ms h.hs.lt h.fs).2
    fl := (hsame ml h.hl.lt h.fl).2
    fp := fun b e => by subst e; obtain ⟨es, cl, hb⟩ := h.hp.heap; exact (hsame b (lt hb) (h.fp b rfl)).2
    fa := fun g hg => (hrow h.ha g hg (h.fa g hg)).2
    ff := fun i hi => (hsame _ (hfl i hi) (h.ff i hi)).2
    fb := fun i g hi hg => (hrow (h.fget hi).2 g hg (h.fb i g hi hg)).2
    fw := hF }
end

/-- What a disk may hold. -/
structure DirOk (n : Nat) (d : Dir) : Prop where
  ok : ∀ p ∈ d, okN p.1 = true ∧ p.2 < n
  up : d.Pairwise (fun p q => bytesBefore p.1 q.1 = true)
  inj : d.Pairwise (fun p q => p.2 ≠ q.2)
  few : d.length ≤ 16
structure Wf (N : Nat) (D : Dk) : Prop where
  sp : D.sp ≤ 1048576
  fi : ∀ f ∈ D.fi, f.sy ≤ f.bs.length ∧ f.bs.length ≤ D.sp ∧ f.ct ≤ N ∧ ∀ x ∈ f.bs, 0 ≤ x ∧ x < 256
  dir : ∀ k, k ≤ D.ac.length → DirOk D.fi.length (acts (D.ac.take k) D.la)
  ac : ∀ a ∈ D.ac, a.gone.length ≤ 32 ∧ a.to.length ≤ 32 ∧ ∀ i, a.fi = some i → i < D.fi.length
  see : D.se = acts D.ac D.la
  lfi : D.fi.length ≤ N
  lac : D.ac.length ≤ N
  lst : D.st ≤ N
theorem Wf.seen {N : Nat} {D : Dk} (h : Wf N D) : DirOk D.fi.length D.se := by
  have := h.dir D.ac.length (Nat.le_refl _)
  rwa [List.take_length, ← h.see] at this
theorem Wf.last {N : Nat} {D : Dk} (h : Wf N D) : DirOk D.fi.length D.la := by
  have := h.dir 0 (Nat.zero_le _)
  simpa [acts] using this
/-- The disk's own block. -/
abbrev dC (D : Dk) (ms ml : Nat) (mp : Option Nat) (va : Value) : Array Value := #[.int .i64 (D.sp : Int), .int .i64 (D.fi.length : Int), .map (some ms), .map (some ml), va, .map mp, .int .i64 (D.st : Int), .bool D.dn]
/-- At block d lies a disk. -/
def Dsk (F : Nat → Prop) (N : Nat) (w : World) (d : Nat) (D : Dk) : Prop :=
  ∃ ms ml mp va fq fv, w.heap[d]? = some (.cells (dC D ms ml mp va) 88 (0, 0)) ∧ Rst F N w d ms ml mp va fq fv D.fi D.se D.la D.ac D.pl ∧ Wf N D ∧ N ≤ 1099511627776
theorem Dsk.lt {F : Nat → Prop} {N : Nat} {w : World} {d : Nat} {D : Dk} (h : Dsk F N w d D) : d < w.heap.size := by
  obtain ⟨ms, ml, mp, va, fq, fv, h1, _⟩ := h
  exact (Array.getElem?_eq_some_iff.1 h1).1
theorem Dsk.fd {F : Nat → Prop} {N : Nat} {w : World} {d : Nat} {D : Dk} (h : Dsk F N w d D) : ¬ F d := by
  obtain ⟨ms, ml, mp, va, fq, fv, _, h1, _⟩ := h
  exact h1.fd
theorem Dsk.fw {F : Nat → Prop} {N : Nat} {w : World} {d : Nat} {D : Dk} (h : Dsk F N w d D) : ∀ q, F q → q < w.heap.size := by
  obtain ⟨ms, ml, mp, va, fq, fv, _, h1, _⟩ := h
  exact h1.fw
theorem Dsk.wf {F : Nat → Prop} {N : Nat} {w : World} {d : Nat} {D : Dk} (h : Dsk F N w d D) : Wf N D := by
  obtain ⟨ms, ml, mp, va, fq, fv, _, _, h1, _⟩ := h
  exact h1
theorem Dsk.move {F F' : Nat → Prop} {N : Nat} {w w' : World} {d : Nat} {D : Dk} (h : Dsk F N w d D) (hsame : ∀ k, k < w.heap.size → ¬ F k → w'.heap[k]? = w.heap[k]? ∧ ¬ F' k) (hF : ∀ q, F' q → q < w'.heap.size) : Dsk F' N w' d D := by
  have hl := h.lt
  obtain ⟨ms, ml, mp, va, fq, fv, h1, h2, h3⟩ := h
  exact ⟨ms, ml, mp, va, fq, fv, (hsame d hl h2.fd).1.trans h1, h2.move hsame hl hF, h3⟩
/-- New memory, or blocks of F have turned. -/
theorem Dsk.kps {F o : Nat → Prop} {N : Nat} {w w' : World} {d : Nat} {D : Dk} (h : Dsk F N w d D) (k : Kps o w w') (ho : ∀ i, i < w.heap.size → o i → F i) : Dsk F N w' d D :=
  h.move (fun i hi hn => ⟨k.same i hi (fun e => hn (ho i hi e)), hn⟩) (fun q hq => Nat.lt_of_lt_of_le (h.fw q hq) k.size)
theorem Dsk.ext {F : Nat → Prop} {N : Nat} {w w' : World} {d : Nat} {D : Dk} (h : Dsk F N w d D) (hb : Below w.heap.size w w') : Dsk F N w' d D :=
  h.kps (Kps.of_below (fun _ => False) hb) (fun _ _ e => e.elim)
/-- What was made since w may be kept out of the disk. -/
def Fx (F : Nat → Prop) (w w' : World) : Nat → Prop := fun k => F k ∨ (w.heap.size ≤ k ∧ k < w'.heap.size)
theorem Dsk.pen {F : Nat → Prop} {N : Nat} {w w' : World} {d : Nat} {D : Dk} (h : Dsk F N w d D) (hb : Below w.heap.size w w') : Dsk (Fx F w w') N w' d D :=
  h.move (fun i hi hn => ⟨hb.block i hi, fun e => e.elim hn (fun e => by omega)⟩) (fun q hq => hq.elim (fun e => Nat.lt_of_lt_of_le (h.fw q e) hb.size) (fun e => e.2))
/-- Less is kept out. -/
theorem Dsk.less {F F' : Nat → Prop} {N : Nat} {w : World} {d : Nat} {D : Dk} (h : Dsk F N w d D) (hF : ∀ q, F' q → F q) : Dsk F' N w d D :=
  h.move (fun _ _ hn => ⟨rfl, fun e => hn (hF _ e)⟩) (fun q hq => h.fw q (hF q hq))
/-- The types of a disk's own blocks. -/
abbrev DK (T : TypeId) : Prop := T = 88 ∨ T = 130 ∨ T = 98
/-- A block as a disk has them. -/
def NI (w : World) (k : Nat) : Prop := (∃ es cl, w.heap[k]? = some (.map es cl)) ∨ ∃ cs T, w.heap[k]? = some (.cells cs T (0, 0)) ∧ DK T
theorem NI.of {w : World} {k : Nat} {cs : Array Value} {T : TypeId} (h : w.heap[k]? = some (.cells cs T (0, 0))) (hT : DK T) : NI w k := .inr ⟨cs, T, h, hT⟩
theorem NI.not {w : World} {k : Nat} {cs : Array Value} {T : TypeId} (h : w.heap[k]? = some (.cells cs T (0, 0))) (hT : ¬ DK T) : ¬ NI w k := fun e => by
  rcases e with ⟨es, cl, e⟩ | ⟨cs', T', e, h'⟩
  · rw [h] at e; cases e
  · rw [h] at e; cases e; exact hT h'
theorem NI.same {w w' : World} {k : Nat} (h : NI w' k) (e : w'.heap[k]? = w.heap[k]?) : NI w k := by
  unfold NI at *
  rw [e] at h
  exact h
/-- A row of bytes. -/
def BR (w : World) (k : Nat) : Prop := ∃ cs, w.heap[k]? = some (.cells cs 5 (0, 0))
theorem BR.same {w w' : World} {k : Nat} (h : BR w' k) (e : w'.heap[k]? = w.heap[k]?) : BR w k := by
  unfold BR at *
  rw [e] at h
  exact h
/-- The disk's blocks alone have turned, as its kinds are; rows of bytes only where U. -/
abbrev Ku (U : Prop) (F : Nat → Prop) (w w' : World) : Prop := Kps (fun k => ¬ F k ∧ (NI w k ∨ U ∧ BR w k)) w w'
/-- The disk's blocks alone have turned, as its kinds are. -/
abbrev Kd (F : Nat → Prop) (w w' : World) : Prop := Kps (fun k => ¬ F k ∧ NI w k) w w'
theorem Kd.of {F : Nat → Prop} {w w' : World} (hb : Below w.heap.size w w') : Kd F w w' := Kps.of_below _ hb
theorem Kd.trans {F : Nat → Prop} {w w' w'' : World} (h : Kd F w w') (k : Kd F w' w'') : Kd F w w'' :=
  Kps.trans h k (fun i hi e => ⟨e.1, Classical.byContradiction fun hn => hn (e.2.same (h.same i hi (fun o => hn o.2)))⟩)
theorem Kd.refl (F : Nat → Prop) (w : World) : Kd F w w := Kps.refl _ _
theorem Kd.less {F F' : Nat → Prop} {w w' : World} (h : Kd F w w') (hF : ∀ q, F' q → F q) : Kd F' w w' := h.mono (fun k _ e => ⟨fun f => e.1 (hF k f), e.2⟩)
theorem Kd.of_own {F : Nat → Prop} {w w' : World} {d : Nat} {cs : Array Value} {T : TypeId} (h : w.heap[d]? = some (.cells cs T (0, 0))) (hT : DK T) (hd : ¬ F d) (hg : w.grownBy w' (some d)) : Kd F w w' :=
  Kps.grown hg (fun k e _ => by cases e; exact ⟨hd, NI.of h hT⟩)
theorem Kd.of_map {F : Nat → Prop} {w w' : World} {d : Nat} {es : Array MapEntry} {cl : Nat} (h : w.heap[d]? = some (.map es cl)) (hd : ¬ F d) (hg : w.grownBy w' (some d)) : Kd F w w' :=
  Kps.grown hg (fun k e _ => by cases e; exact ⟨hd, .inl ⟨es, cl, h⟩⟩)
theorem Kd.of_row {F : Nat → Prop} {w w' : World} {v : Value} {T : TypeId} {size n : Nat} {xs : List Value} (h : w.ownsRow 0 T size v n xs) (hT : DK T) (hd : ∀ g, v.ownBlock = some g → ¬ F g) (hg : w.grownBy w' v.ownBlock) : Kd F w w' :=
  Kps.grown hg (fun k e _ => by
    obtain ⟨cur, hc⟩ := own_lt h e
    exact ⟨hd k e, NI.of hc hT⟩)
theorem Kd.ku {F : Nat → Prop} {w w' : World} (h : Kd F w w') (U : Prop) : Ku U F w w' := h.mono (fun _ _ e => ⟨e.1, .inl e.2⟩)
theorem Ku.kd {F : Nat → Prop} {w w' : World} (h : Ku False F w w') : Kd F w w' := h.mono (fun _ _ e => ⟨e.1, e.2.elim id (fun e => e.1.elim)⟩)
/-- What is of no disk's kind stays. -/
theorem Kd.keep {F : Nat → Prop} {w w' : World} (h : Kd F w w') {k : Nat} {cs : Array Value} {T : TypeId} (hc : w.heap[k]? = some (.cells cs T (0, 0))) (hT : ¬ DK T) : w'.heap[k]? = w.heap[k]? :=
  h.same k (Array.getElem?_eq_some_iff.1 hc).1 (fun e => NI.not hc hT e.2)
end Go.Proofs.Ytaoaihjiieandaa
