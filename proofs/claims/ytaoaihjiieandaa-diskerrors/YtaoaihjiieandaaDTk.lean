/- What lies about while a shot is taken. -/
import Derived.Test.YtaoaihjiieandaaDStill
namespace Go.Proofs.Ytaoaihjiieandaa
open Go.RowKit

theorem own_sameB {w w' : World} {base : Nat} {e : TypeId} {size n : Nat} {v : Value} {xs : List Value} (h : w.ownsRow base e size v n xs) (hs : ∀ g, v.ownBlock = some g → w'.heap[g]? = w.heap[g]?) : w'.ownsRow base e size v n xs := by
  refine ⟨h.1, ?_⟩
  rcases h.2 with h2 | ⟨g, cap, cur, rfl, h0, hc, r⟩
  · exact .inl h2
  · exact .inr ⟨g, cap, cur, rfl, h0, (hs g rfl).trans hc, r⟩
/-- The shot's box and its rows, beside the disk. -/
structure Tk (F G : Nat → Prop) (N : Nat) (w0 : World) (d : Nat) (Dj : Dk) (c : Nat) (wr : World) (vn vd vs : Value) (nl j k : Nat) (ns ds ss : List Value) : Prop where
  e1 : wr.heap[w0.heap.size + 1]? = some (.cells #[vn, vd, vs] 51 (0, 0))
  e0 : wr.heap[w0.heap.size]? = some (.cells #[.slice none 0 0, .slice none 0 0, .slice none 0 0] 51 (0, 0))
  on : wr.ownsRow 0 9 1 vn nl ns
  lo : ∀ g, vn.ownBlock = some g → g < c
  od : wr.ownsRow c 9 1 vd j ds
  os : wr.ownsRow c 55 3 vs k ss
  gd : ∀ g, vd.ownBlock = some g → G g
  gs : ∀ g, vs.ownBlock = some g → G g
  g1 : G (w0.heap.size + 1)
  g0 : G w0.heap.size
  gf : ∀ q, F q → G q
  dk : Dsk G N wr d Dj
  kd : Kd F w0 wr
  sz : c ≤ wr.heap.size
  cz : w0.heap.size ≤ c
section
variable {F G : Nat → Prop} {N : Nat} {w0 : World} {d : Nat} {Dj : Dk} {c : Nat} {wr w' : World} {vn vd vs : Value} {nl j k : Nat} {ns ds ss : List Value}
theorem Tk.ext (t : Tk F G N w0 d Dj c wr vn vd vs nl j k ns ds ss) (hb : Below wr.heap.size wr w') : Tk F G N w0 d Dj c w' vn vd vs nl j k ns ds ss :=
  ⟨(hb.block _ (Array.getElem?_eq_some_iff.1 t.e1).1).trans t.e1, (hb.block _ (Array.getElem?_eq_some_iff.1 t.e0).1).trans t.e0, own_ext t.on hb, t.lo, own_ext t.od hb, own_ext t.os hb, t.gd, t.gs, t.g1, t.g0, t.gf, t.dk.ext hb, t.kd.trans (Kd.of hb), Nat.le_trans t.sz hb.size, t.cz⟩
theorem Tk.call (t : Tk F G N w0 d Dj c wr vn vd vs nl j k ns ds ss) {N' : Nat} {D' : Dk} (h : Kd G wr w') (hd : Dsk G N' w' d D') : Tk F G N' w0 d D' c w' vn vd vs nl j k ns ds ss :=
  ⟨(h.keep t.e1 (by decide)).trans t.e1, (h.keep t.e0 (by decide)).trans t.e0, own_same t.on (fun g hg => by obtain ⟨cur, hc⟩ := own_lt t.on hg; exact h.keep hc (by decide)), t.lo, own_sameB t.od (fun g hg => by obtain ⟨cur, hc⟩ := own_lt (own_zero t.od) hg; exact h.keep hc (by decide)), own_sameB t.os (fun g hg => by obtain ⟨cur, hc⟩ := own_lt (own_zero t.os) hg; exact h.keep hc (by decide)), t.gd, t.gs, t.g1, t.g0, t.gf, hd, t.kd.trans (h.less t.gf), Nat.le_trans t.sz h.size, t.cz⟩
/-- A row has grown, and the box is told. -/
theorem Tk.turn (t : Tk F G N w0 d Dj c wr vn vd vs nl j k ns ds ss) {row : Option Nat} (hr : ∀ g, row = some g → G g ∧ c ≤ g) (hg : wr.grownBy w' row) (hn : row ≠ some (w0.heap.size + 1)) (i : Nat) (v : Value) :
    w'.heap[w0.heap.size + 1]? = some (.cells #[vn, vd, vs] 51 (0, 0)) ∧ (w'.setCell ⟨w0.heap.size + 1, i, none⟩ v).heap[w0.heap.size + 1]? = some (.cells (#[vn, vd, vs].setIfInBounds i v) 51 (0, 0)) ∧ (∀ q, q < wr.heap.size → row ≠ some q → q ≠ w0.heap.size + 1 → (w'.setCell ⟨w0.heap.size + 1, i, none⟩ v).heap[q]? = wr.heap[q]?) ∧ (∀ q, q < w'.heap.size → q ≠ w0.heap.size + 1 → (w'.setCell ⟨w0.heap.size + 1, i, none⟩ v).heap[q]? = w'.heap[q]?) ∧ Dsk (Fx G wr w') N (w'.setCell ⟨w0.heap.size + 1, i, none⟩ v) d Dj ∧ Kd F w0 (w'.setCell ⟨w0.heap.size + 1, i, none⟩ v) ∧ c ≤ (w'.setCell ⟨w0.heap.size + 1, i, none⟩ v).heap.size := by
  have h1 := (hg.block _ (Array.getElem?_eq_some_iff.1 t.e1).1 (fun e => hn e.symm)).trans t.e1
  obtain ⟨s1, g1⟩ := set1 h1 i v
  have hA : ∀ q, q < w'.heap.size → q ≠ w0.heap.size + 1 → (w'.setCell ⟨w0.heap.size + 1, i, none⟩ v).heap[q]? = w'.heap[q]? := fun q hq hne => g1.block q hq (by simpa using hne)
  have hB : ∀ q, q < wr.heap.size → row ≠ some q → q ≠ w0.heap.size + 1 → (w'.setCell ⟨w0.heap.size + 1, i, none⟩ v).heap[q]? = wr.heap[q]? := fun q hq h2 h3 => (hA q (Nat.lt_of_lt_of_le hq hg.size) h3).trans (hg.block q hq (fun e => h2 e.symm))
  refine ⟨h1, s1, hB, hA, t.dk.move (fun q hq hnG => ⟨hB q hq (fun e => hnG (hr q e).1) (fun e => hnG (e ▸ t.g1)), fun e => e.elim hnG (fun e => by omega)⟩) (fun q hq => hq.elim (fun e => Nat.lt_of_lt_of_le (t.dk.fw q e) (Nat.le_trans hg.size g1.size)) (fun e => Nat.lt_of_lt_of_le e.2 g1.size)), ?_, Nat.le_trans t.sz (Nat.le_trans hg.size g1.size)⟩
  refine Kps.trans (Kps.trans t.kd (Kps.grown (o := fun q => c ≤ q) hg (fun q e _ => (hr q e).2)) (fun q hq e => by have := t.cz; omega)) (Kps.grown (o := fun q => q = w0.heap.size + 1) g1 (fun q e _ => by cases e; rfl)) (fun q hq e => by omega)
theorem Tk.pushD (t : Tk F G N w0 d Dj c wr vn vd vs nl j k ns ds ss) {v : Value} {j' : Nat} {ds' : List Value} (ho : w'.ownsRow c 9 1 v j' ds') (hg : wr.grownBy w' vd.ownBlock) (hv : v.ownBlock = vd.ownBlock ∨ v.ownBlock = some wr.heap.size) :
    w'.heap[w0.heap.size + 1]? = some (.cells #[vn, vd, vs] 51 (0, 0)) ∧ (∀ (q : Nat) (cs : Array Value), wr.heap[q]? = some (.cells cs 55 (0, 0)) → (w'.setCell ⟨w0.heap.size + 1, 1, none⟩ v).heap[q]? = wr.heap[q]?) ∧ ∃ G', Tk F G' N w0 d Dj c (w'.setCell ⟨w0.heap.size + 1, 1, none⟩ v) vn v vs nl j' k ns ds' ss := by
  have hne : ∀ (q : Nat) (T : TypeId) (cs : Array Value), wr.heap[q]? = some (.cells cs T (0, 0)) → T ≠ 9 → vd.ownBlock ≠ some q := fun q T cs hq hT e => by
    obtain ⟨cur, hc⟩ := own_lt (own_zero t.od) e
    rw [hq] at hc
    cases hc
    exact hT rfl
  have hns : ∀ (q : Nat) (T : TypeId) (cs : Array Value), wr.heap[q]? = some (.cells cs T (0, 0)) → T ≠ 51 → q ≠ w0.heap.size + 1 := fun q T cs hq hT e => by
    rw [e, t.e1] at hq
    cases hq
    exact hT rfl
  obtain ⟨h1, h2, hB, hA, h5, h6, h7⟩ := t.turn (fun g hg => ⟨t.gd g hg, (World.ownsRow.lt t.od g hg).1⟩) hg (hne _ _ _ t.e1 (by decide)) 1 v
  refine ⟨h1, fun q cs hq => hB q (Array.getElem?_eq_some_iff.1 hq).1 (hne _ _ _ hq (by decide)) (hns _ _ _ hq (by decide)), Fx G wr w', ⟨by rw [h2]; rfl, (hB _ (Array.getElem?_eq_some_iff.1 t.e0).1 (hne _ _ _ t.e0 (by decide)) (by omega)).trans t.e0, own_same t.on (fun g hg' => ?_), t.lo, own_sameB ho (fun g hg' => ?_), own_sameB t.os (fun g hg' => ?_), fun g hg' => ?_, fun g hg' => .inl (t.gs g hg'), .inl t.g1, .inl t.g0, fun q hq => .inl (t.gf q hq), h5, h6, h7, t.cz⟩⟩
  · obtain ⟨cur, hc⟩ := own_lt t.on hg'
    exact hB g (Array.getElem?_eq_some_iff.1 hc).1 (fun e => by have := (World.ownsRow.lt t.od g e).1; have := t.lo g hg'; omega) (hns _ _ _ hc (by decide))
  · obtain ⟨cur, hc⟩ := own_lt (own_zero ho) hg'
    exact hA g (Array.getElem?_eq_some_iff.1 hc).1 (ne_obj hc h1 (by simp))
  · obtain ⟨cur, hc⟩ := own_lt (own_zero t.os) hg'
    exact hB g (Array.getElem?_eq_some_iff.1 hc).1 (hne _ _ _ hc (by decide)) (hns _ _ _ hc (by decide))
  · rcases hv with e | e
    · exact .inl (t.gd g (e ▸ hg'))
    · have hl := (World.ownsRow.lt ho g hg').2
      rw [e] at hg'
      cases hg'
      exact .inr ⟨Nat.le_refl _, hl⟩
theorem Tk.pushS (t : Tk F G N w0 d Dj c wr vn vd vs nl j k ns ds ss) {v : Value} {k' : Nat} {ss' : List Value} (ho : w'.ownsRow c 55 3 v k' ss') (hg : wr.grownBy w' vs.ownBlock) (hv : v.ownBlock = vs.ownBlock ∨ v.ownBlock = some wr.heap.size) :
    w'.heap[w0.heap.size + 1]? = some (.cells #[vn, vd, vs] 51 (0, 0)) ∧ ∃ G', Tk F G' N w0 d Dj c (w'.setCell ⟨w0.heap.size + 1, 2, none⟩ v) vn vd v nl j k' ns ds ss' := by
  have hne : ∀ (q : Nat) (T : TypeId) (cs : Array Value), wr.heap[q]? = some (.cells cs T (0, 0)) → T ≠ 55 → vs.ownBlock ≠ some q := fun q T cs hq hT e => by
    obtain ⟨cur, hc⟩ := own_lt (own_zero t.os) e
    rw [hq] at hc
    cases hc
    exact hT rfl
  have hns : ∀ (q : Nat) (T : TypeId) (cs : Array Value), wr.heap[q]? = some (.cells cs T (0, 0)) → T ≠ 51 → q ≠ w0.heap.size + 1 := fun q T cs hq hT e => by
    rw [e, t.e1] at hq
    cases hq
    exact hT rfl
  obtain ⟨h1, h2, hB, hA, h5, h6, h7⟩ := t.turn (fun g hg => ⟨t.gs g hg, (World.ownsRow.lt t.os g hg).1⟩) hg (hne _ _ _ t.e1 (by decide)) 2 v
  refine ⟨h1, Fx G wr w', ⟨by rw [h2]; rfl, (hB _ (Array.getElem?_eq_some_iff.1 t.e0).1 (hne _ _ _ t.e0 (by decide)) (by omega)).trans t.e0, own_same t.on (fun g hg' => ?_), t.lo, own_sameB t.od (fun g hg' => ?_), own_sameB ho (fun g hg' => ?_), fun g hg' => .inl (t.gd g hg'), fun g hg' => ?_, .inl t.g1, .inl t.g0, fun q hq => .inl (t.gf q hq), h5, h6, h7, t.cz⟩⟩
  · obtain ⟨cur, hc⟩ := own_lt t.on hg'
    exact hB g (Array.getElem?_eq_some_iff.1 hc).1 (hne _ _ _ hc (by decide)) (hns _ _ _ hc (by decide))
  · obtain ⟨cur, hc⟩ := own_lt (own_zero t.od) hg'
    exact hB g (Array.getElem?_eq_some_iff.1 hc).1 (hne _ _ _ hc (by decide)) (hns _ _ _ hc (by decide))
  · obtain ⟨cur, hc⟩ := own_lt (own_zero ho) hg'
    exact hA g (Array.getElem?_eq_some_iff.1 hc).1 (ne_obj hc h1 (by simp))
  · rcases hv with e | e
    · exact .inl (t.gs g (e ▸ hg'))
    · have hl := (World.ownsRow.lt ho g hg').2
      rw [e] at hg'
      cases hg'
      exact .inr ⟨Nat.le_refl _, hl⟩
/-- The box goes into the answer's. -/
theorem Tk.leave (t : Tk F G N w0 d Dj c wr vn vd vs nl j k ns ds ss) : ∀ w5, (((wr.setCell ⟨w0.heap.size, 0, none⟩ vn).setCell ⟨w0.heap.size, 1, none⟩ vd).setCell ⟨w0.heap.size, 2, none⟩ vs) = w5 → (w5.ownsRow 0 9 1 vn nl ns ∧ w5.ownsRow 0 9 1 vd j ds ∧ w5.ownsRow 0 55 3 vs k ss ∧ Dsk F N w5 d Dj ∧ Kd F w0 w5) ∧ w5.cell? ⟨w0.heap.size, 0, none⟩ = some vn ∧ w5.cell? ⟨w0.heap.size, 1, none⟩ = some vd ∧ w5.cell? ⟨w0.heap.size, 2, none⟩ = some vs := by
  rintro w5 rfl
  obtain ⟨s1, g1⟩ := set1 t.e0 0 vn
  obtain ⟨s2, g2⟩ := set1 s1 1 vd
  obtain ⟨s3, g3⟩ := set1 s2 2 vs
  have g := grown_trans (grown_trans g1 g2) g3
  obtain ⟨r0, r1, r2, _⟩ := cells3 (a := vn) (b := vd) (c := vs) (by rw [s3]; rfl)
  have hk : ∀ (q : Nat) (T : TypeId) (cs : Array Value), wr.heap[q]? = some (.cells cs T (0, 0)) → T ≠ 51 → (((wr.setCell ⟨w0.heap.size, 0, none⟩ vn).setCell ⟨w0.heap.size, 1, none⟩ vd).setCell ⟨w0.heap.size, 2, none⟩ vs).heap[q]? = wr.heap[q]? := fun q T cs hq hT => g.block q (Array.getElem?_eq_some_iff.1 hq).1 (fun e => by
    cases e
    rw [t.e0] at hq
    cases hq
    exact hT rfl)
  refine ⟨⟨own_same t.on (fun q hq => ?_), own_same (own_zero t.od) (fun q hq => ?_), own_same (own_zero t.os) (fun q hq => ?_), (t.dk.kps (Kps.grown (o := fun q => q = w0.heap.size) g (fun q e _ => by cases e; rfl)) (fun q _ e => by rw [e]; exact t.g0)).less t.gf, Kps.trans t.kd (Kps.grown (o := fun q => q = w0.heap.size) g (fun q e _ => by cases e; rfl)) (fun q hq e => by omega)⟩, r0, r1, r2⟩
  · obtain ⟨cur, hc⟩ := own_lt t.on hq
    exact hk _ _ _ hc (by decide)
  · obtain ⟨cur, hc⟩ := own_lt (own_zero t.od) hq
    exact hk _ _ _ hc (by decide)
  · obtain ⟨cur, hc⟩ := own_lt (own_zero t.os) hq
    exact hk _ _ _ hc (by decide)
end
/-- Read and Stamp of a calm disk. -/
theorem calm_read (CR : CrashOk) {G : Nat → Prop} {N : Nat} {w : World} {d : Nat} {D Dj : Dk} (h : Dsk G N w d Dj) (hN : N + 3 ≤ 1099511627776) (hs : Still D Dj) {n : Nat} (hok : DirOk n D.se) {j : Nat} {p : Nm × Nat} (hp : D.se[j]? = some p) :
    Calls Try.prog 17 #[pp d, sv p.1] w fun e w' => ∃ u, e = .returned (.tuple #[u, .nilIface]) ∧ OwnU w' 0 u (fiAt D.fi p.2).bs ∧ Dsk G (N + 3) w' d Dj.tick ∧ Kd G w w' := by
  have hl := len_of_ok (hs.get hok hp).1
  refine (Read_any CR h hN p.1 (by omega)).mono ?_
  rintro e w' ⟨u, v, rfl, ⟨h1, h2, h3⟩, h4⟩
  rw [read_calm hs hok hp] at h1 h2 h4
  obtain ⟨base, h4⟩ := h4 rfl
  rcases h1 with ⟨_, rfl⟩ | ⟨h1, _⟩
  · exact ⟨u, rfl, own_zero h4, h2, h3.kd⟩
  · exact absurd rfl h1
theorem calm_stamp (CR : CrashOk) {G : Nat → Prop} {N : Nat} {w : World} {d : Nat} {D Dj : Dk} (h : Dsk G N w d Dj) (hN : N + 3 ≤ 1099511627776) (hs : Still D Dj) {n : Nat} (hok : DirOk n D.se) {j : Nat} {p : Nm × Nat} (hp : D.se[j]? = some p) :
    Calls Try.prog 52 #[pp d, sv p.1] w fun e w' => e = .returned (.tuple #[.agg #[.int .i64 ((p.2 : Int) + 1), .int .i64 ((fiAt D.fi p.2).bs.length : Int), .int .i64 ((fiAt D.fi p.2).ct : Int)], .nilIface]) ∧ Dsk G (N + 3) w' d Dj.tick ∧ Kd G w w' := by
  have hl := len_of_ok (hs.get hok hp).1
  refine (Stamp_any CR h hN p.1 (by omega)).mono ?_
  rintro e w' ⟨a, b, c, v, rfl, ⟨h1, h2, h3⟩, h4⟩
  rw [stamp_calm hs hok hp] at h1 h2 h4
  have h4 := h4 rfl
  cases h4
  rcases h1 with ⟨_, rfl⟩ | ⟨h1, _⟩
  · exact ⟨rfl, h2, h3.kd⟩
  · exact absurd rfl h1
end Go.Proofs.Ytaoaihjiieandaa
