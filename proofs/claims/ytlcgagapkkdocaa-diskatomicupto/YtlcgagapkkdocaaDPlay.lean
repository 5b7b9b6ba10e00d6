/- What the laws of power loss share: a script of every kind is played. -/
import Derived.Test.YtlcgagapkkdocaaDTwo
import Derived.Test.YtlcgagapkkdocaaDFau
import Derived.Test.YtlcgagapkkdocaaDLawK
namespace Go.Proofs.Ytlcgagapkkdocaa
open Go.RowKit

theorem cutF_synced {f : Fi} (h : f.sy = f.bs.length) (m : Int) : cutF f m = f := by
  unfold cutF
  have e : clip m (f.bs.length - f.sy) = 0 := by unfold clip; omega
  rw [e, h]
  simp only [Nat.add_zero, List.take_length]
  cases f
  simp at h
  subst h
  rfl
theorem set_same {fi : List Fi} (i : Nat) : fi.set i (fiAt fi i) = fi := by
  by_cases h : i < fi.length
  · unfold fiAt
    rw [List.getElem?_eq_getElem h]
    exact List.set_getElem_self h
  · exact List.set_eq_of_length_le (by omega)
theorem cutAll_synced : ∀ {d : Dir} {bs : List Int} {fi : List Fi}, (∀ p ∈ d, (fiAt fi p.2).sy = (fiAt fi p.2).bs.length) → cutAll d bs fi = fi
  | [], _, _, _ => rfl
  | p :: r, bs, fi, h => by
    unfold cutAll
    rw [cutF_synced (h p List.mem_cons_self), set_same]
    exact cutAll_synced (fun q hq => h q (List.mem_cons_of_mem _ hq))
/-- What syncing the first j files has left. -/
structure Syd (D E : Dk) (j : Nat) : Prop where
  se : E.se = D.se
  dn : E.dn = false
  pl : ∀ k, E.pl k = none
  fi : ∀ q, (fiAt E.fi q).bs = (fiAt D.fi q).bs ∧ (fiAt E.fi q).ct = (fiAt D.fi q).ct
  sy : ∀ i p, i < j → D.se[i]? = some p → (fiAt E.fi p.2).sy = (fiAt E.fi p.2).bs.length
theorem Syd.zero {D E : Dk} (h : Still D E) : Syd D E 0 := ⟨h.se, h.dn, h.pl, fun q => by rw [h.fi]; exact ⟨rfl, rfl⟩, fun i p hi => by omega⟩
theorem Syd.one {D E : Dk} {j n : Nat} (h : Syd D E j) (hw : DirOk n E.se) (hn : n = E.fi.length) {p : Nm × Nat} (hp : D.se[j]? = some p) : (take (opSync p.1) none E).e = 0 ∧ Syd D (take (opSync p.1) none E).d (j + 1) := by
  have hse := h.se
  have hp' : E.se[j]? = some p := by rw [hse]; exact hp
  have hok := (hw.ok p (List.mem_of_getElem? hp')).1
  have hlt : p.2 < E.fi.length := by rw [← hn]; exact (hw.ok p (List.mem_of_getElem? hp')).2
  have hg := get_at hw hp'
  have e : take (opSync p.1) none E = Rs.err (E.tick.setF p.2 ⟨(fiAt E.fi p.2).bs, (fiAt E.fi p.2).bs.length, (fiAt E.fi p.2).ct⟩) 0 := by
    rw [take_calm h.dn h.pl]
    unfold opSync opWith
    rw [if_pos hok]
    show (match Dir.get p.1 E.se with | none => _ | some i => _) = _
    rw [hg]
    rfl
  rw [e]
  refine ⟨rfl, hse, h.dn, fun k => ?_, fun q => ?_, fun i r hi hr => ?_⟩
  · show (if _ then none else E.pl k) = none
    rw [h.pl]
    split <;> rfl
  · show (fiAt (E.fi.set p.2 _) q).bs = _ ∧ (fiAt (E.fi.set p.2 _) q).ct = _
    rw [fiAt_set hlt]
    split
    · rename_i e2; subst e2; exact h.fi p.2
    · exact h.fi q
  · show (fiAt (E.fi.set p.2 _) r.2).sy = (fiAt (E.fi.set p.2 _) r.2).bs.length
    rw [fiAt_set hlt]
    split
    · rfl
    · rename_i e2
      by_cases hij : i < j
      · exact h.sy i r hij hr
      · have : i = j := by omega
        subst this
        rw [hp] at hr
        cases hr
        exact absurd rfl e2
/-- Behind SyncDir, a power loss and Restart: the same. -/
theorem Syd.after {D E : Dk} {c : Ct} (h : Syd D E D.se.length) : (take opSyncDir none E).e = 0 ∧ ((take opSyncDir none E).d.crash c).dn = true ∧ (((take opSyncDir none E).d.crash c).restart).dn = false ∧ (∀ k, (((take opSyncDir none E).d.crash c).restart).pl k = none) ∧ (((take opSyncDir none E).d.crash c).restart).se = D.se ∧ ∀ p ∈ D.se, (fiAt (((take opSyncDir none E).d.crash c).restart).fi p.2).bs = (fiAt D.fi p.2).bs ∧ (fiAt (((take opSyncDir none E).d.crash c).restart).fi p.2).ct = (fiAt D.fi p.2).ct := by
  have e1 : take opSyncDir none E = Rs.err E.tick.settle 0 := by rw [take_calm h.dn h.pl]; rfl
  rw [e1]
  have e2 : E.tick.settle.crash c = { E.tick.settle with se := E.se, la := E.se, ac := [], fi := cutAll E.se c.bs E.fi, dn := true } := by
    unfold Dk.crash
    rw [if_neg (by show ¬ E.dn = true; rw [h.dn]; decide)]
    have e3 : acts (E.tick.settle.ac.take (clip c.nm E.tick.settle.ac.length)) E.tick.settle.la = E.se := by show acts ([].take _) E.se = E.se; simp [acts]
    rw [e3]
    rfl
  have e4 : cutAll E.se c.bs E.fi = E.fi := cutAll_synced (fun p hp => by
    rw [h.se] at hp
    obtain ⟨i, hi⟩ := List.getElem?_of_mem hp
    exact h.sy i p (List.getElem?_eq_some_iff.1 hi).1 hi)
  rw [show (Rs.err E.tick.settle 0).d = E.tick.settle from rfl, e2, e4]
  refine ⟨rfl, rfl, rfl, fun _ => rfl, h.se, fun p _ => h.fi p.2⟩
set_option maxRecDepth 100000 in
set_option maxHeartbeats 2000000 in
theorem law_plan {F : Nat → Prop} {M : Nat} {w : World} {d : Nat} {D : Dk} (h : Dsk F M w d D) (x : So) (hk : x.k = 10) (hf : RdF w (.slice x.fa x.fn x.fc) x.fs) (hfl : x.fs.length ≤ 4194304) (hM : M + x.fs.length ≤ 1099511627776) :
    Calls Try.prog 21 #[pp d, opV x] w fun e w' => DoneE 0 e ∧ Dsk F (M + x.fs.length) w' d (D.plan (plOf x.fs)) ∧ Kd F w w' := by
  unfold opV
  rw [hk]
  obtain ⟨w1, hw1, k1, hb1⟩ : ∃ w1, w1 = w.alloc (.cells #[.int .i64 10, .int .i64 x.who, sv x.nm, sv x.tn, x.bv, .slice x.fa x.fn x.fc, .int .i64 x.cn, .slice x.ca x.cl x.cc] 48) ∧ w1.heap[w.heap.size]? = some (.cells #[.int .i64 10, .int .i64 x.who, sv x.nm, sv x.tn, x.bv, .slice x.fa x.fn x.fc, .int .i64 x.cn, .slice x.ca x.cl x.cc] 48 (0, 0)) ∧ Below w.heap.size w w1 := ⟨_, rfl, heap_alloc_new _ _, ext_alloc (Below.refl _ _) _⟩
  have z0 : w1.cell? ⟨w.heap.size, 0, none⟩ = some (.int .i64 10) := op_cell k1 rfl 0
  have z5 : w1.cell? ⟨w.heap.size, 5, none⟩ = some (.slice x.fa x.fn x.fc) := op_cell k1 rfl 5
  have hok : ∀ y ∈ x.fs, y.Ok := by obtain ⟨_, _, _, _, _, h5, _⟩ := hf; exact h5
  have FA := hidIt (faults_any _ _ w1 (hf.ext hb1) hfl)
  have PL : Hid (∀ (w2 : World) (v : Value) (L : List Fa), L.length = x.fs.length → Fcp w2 w1.heap.size v x.fs L → Below w1.heap.size w1 w2 → Calls Try.prog 11 #[pp d, v] w2 fun e w' => e = .returned (.tuple #[]) ∧ Dsk F (M + x.fs.length) w' d (D.plan (plOf x.fs)) ∧ Kd F w w') := fun w2 v L hL hc hb => by
    obtain ⟨hr, hi⟩ := hc.read hok
    have hp : plOf L = plOf x.fs := plOf_as hL hc.lk _
    refine (Plan_any ((h.ext hb1).pen hb) v L hr (hi _ (fun k a b => .inr ⟨a, b⟩)) (by omega)).mono ?_
    rintro e w' ⟨rfl, p2, p3⟩
    rw [hL, hp] at p2
    exact ⟨rfl, p2.less (fun _ hq => .inl hq), (Kd.of hb1).trans ((Kd.of hb).trans (p3.less (fun _ hq => .inl hq)))⟩
  clear k1 hb1 h hf hok
  go_enter Try.func21, Try.ntmps21
  go_upto_region 1 with fail
  rw [← hw1]
  clear hw1
  go_upto_region 27 with (first | (go_at_call 12; refine FA.out.mono ?_; rintro e w2 ⟨v2, L2, rfl, hl2, hc2, hb2⟩; have HL2 := hidIt hl2; have HC2 := hidIt hc2; have HB2 := hidIt hb2; clear hl2 hc2 hb2) | (go_at_call 11; refine (PL.out w2 v2 L2 HL2.out HC2.out HB2.out).mono ?_; rintro e w4 ⟨rfl, h2, h3⟩; have H2 := hidIt h2; have H3 := hidIt h3; clear h2 h3))
  go_wp2_with fail
  go_ret
  exact ⟨⟨_, rfl, by simp⟩, H2.out, H3.out⟩
set_option maxRecDepth 100000 in
set_option maxHeartbeats 2000000 in
theorem law_crash {F : Nat → Prop} {M : Nat} {w : World} {d : Nat} {D : Dk} (h : Dsk F M w d D) (x : So) (hk : x.k = 11) (hc : RdS w (.slice x.ca x.cl x.cc) x.cb) (hu : x.cb ≠ [] → UOk F w (.slice x.ca x.cl x.cc)) (hcb : ∀ z ∈ x.cb, In64 z) (hcn : In64 x.cn) :
    Calls Try.prog 21 #[pp d, opV x] w fun e w' => DoneE 0 e ∧ Dsk F M w' d (D.crash ⟨x.cn, x.cb⟩) ∧ Kd F w w' := by
  unfold opV
  rw [hk]
  obtain ⟨w1, hw1, k1, hb1⟩ : ∃ w1, w1 = w.alloc (.cells #[.int .i64 11, .int .i64 x.who, sv x.nm, sv x.tn, x.bv, .slice x.fa x.fn x.fc, .int .i64 x.cn, .slice x.ca x.cl x.cc] 48) ∧ w1.heap[w.heap.size]? = some (.cells #[.int .i64 11, .int .i64 x.who, sv x.nm, sv x.tn, x.bv, .slice x.fa x.fn x.fc, .int .i64 x.cn, .slice x.ca x.cl x.cc] 48 (0, 0)) ∧ Below w.heap.size w w1 := ⟨_, rfl, heap_alloc_new _ _, ext_alloc (Below.refl _ _) _⟩
  have z0 : w1.cell? ⟨w.heap.size, 0, none⟩ = some (.int .i64 11) := op_cell k1 rfl 0
  have z6 : w1.cell? ⟨w.heap.size, 6, none⟩ = some (.int .i64 x.cn) := op_cell k1 rfl 6
  have z7 : w1.cell? ⟨w.heap.size, 7, none⟩ = some (.slice x.ca x.cl x.cc) := op_cell k1 rfl 7
  have MK := hidIt (crash_gen F M w1 d D ⟨x.cn, x.cb⟩ _ (h.ext hb1) (hc.ext hb1) (fun hn g hg => (hu hn g hg).elim .inl (fun ⟨cur, e⟩ => .inr ⟨cur, (hb1.block g (Array.getElem?_eq_some_iff.1 e).1).trans e⟩)) hcb hcn)
  have HB := hidIt hb1
  clear k1 hb1 h hc hu
  go_enter Try.func21, Try.ntmps21
  go_upto_region 1 with fail
  rw [← hw1]
  clear hw1
  go_upto_region 27 with (go_at_call 14; refine MK.out.mono ?_; rintro e w4 ⟨rfl, h2, h3⟩; have H2 := hidIt h2; have H3 := hidIt h3; clear h2 h3)
  have FI : Hid (Dsk F M w4 d (D.crash ⟨x.cn, x.cb⟩) ∧ Kd F w w4) := ⟨H2.out, (Kd.of HB.out).trans H3.out⟩
  go_wp2_with fail
  go_ret
  exact ⟨⟨_, rfl, by simp⟩, FI.out⟩
/-- do has answered, and a disk is left. -/
def DoA (F : Nat → Prop) (M : Nat) (w : World) (d : Nat) (e : Ending) (w' : World) : Prop := DoneR e ∧ ∃ D', Dsk F M w' d D' ∧ Ku True F w w'
theorem do_all (CR : CrashOk) {F : Nat → Prop} {M : Nat} {w : World} {d : Nat} {D : Dk} (h : Dsk F M w d D) (x : So) (hx : x.Ok) (hr : RdU w x.bv x.b) (hbl : x.b.length ≤ 1099511627776) (hf : RdF w (.slice x.fa x.fn x.fc) x.fs) (hfl : x.fs.length ≤ 4194304) (hc : RdS w (.slice x.ca x.cl x.cc) x.cb) (hF : ∀ g, x.cb ≠ [] → (Value.slice x.ca x.cl x.cc).ownBlock = some g → F g) (hM : M + 3 + x.fs.length ≤ 1099511627776) :
    Calls Try.prog 21 #[pp d, opV x] w (DoA F (M + 3 + x.fs.length) w d) := by
  by_cases k10 : x.k = 10
  · exact (law_plan h x k10 hf hfl (by omega)).mono fun _ _ ⟨a, b, c⟩ => ⟨a.r, _, b.monoN (by omega) hM, c.ku _⟩
  by_cases k11 : x.k = 11
  · exact (law_crash h x k11 hc (fun hn g hg => .inl (hF g hn hg)) hx.cb hx.cn).mono fun _ _ ⟨a, b, c⟩ => ⟨a.r, _, b.monoN (by omega) hM, c.ku _⟩
  exact (do_any CR h (by omega) x hx.short.1 hx.short.2 hx.byt hr hbl k10 k11).mono fun _ _ ⟨a, b, c⟩ => ⟨a.r, _, b.monoN (by omega) hM, c⟩
theorem rds_lt {w : World} {u : Value} {zs : List Int} (h : RdS w u zs) (hn : zs ≠ []) {g : Nat} (hg : u.ownBlock = some g) : g < w.heap.size := by
  obtain ⟨⟨ao, cap, rfl, _, _, h3⟩, _⟩ := h
  obtain ⟨b, off, rfl, hb, _⟩ := h3 hn
  cases hg
  exact hb
theorem bulk_le_take (l : List So) (k : Nat) : bulk (l.take k) ≤ bulk l := by
  unfold bulk
  rw [← List.take_append_drop k l, List.map_append, List.sum_append, List.take_append_drop]
  omega
/-- What came in is as it was, and the box of the cut. -/
def Syn (W : World) (bx : Array Value) (w : World) : Prop := Below W.heap.size W w ∧ w.heap[W.heap.size]? = some (.cells bx 27 (0, 0))
theorem Syn.ku {U : Prop} {W w w' : World} {bx : Array Value} (h : Syn W bx w) (k : Ku U (fun q => q < W.heap.size) w w') : Syn W bx w' :=
  ⟨h.1.trans (k.below h.1.size (fun _ h => h)), (k.keep h.2 (by decide) (by decide)).trans h.2⟩
theorem Syn.ext {W w w' : World} {bx : Array Value} (h : Syn W bx w) (hb : Below w.heap.size w w') : Syn W bx w' :=
  ⟨h.1.trans (hb.mono h.1.size), (hb.block _ (Array.getElem?_eq_some_iff.1 h.2).1).trans h.2⟩
theorem restart_dn (D : Dk) : D.restart.dn = false := by
  unfold Dk.restart
  split
  · rfl
  · rename_i h; simpa using h
theorem zz_len {s : Nat} (hs : 8 ≤ s) (p : Int → Option Ft) : ((zzD s).restart.plan p).se.length = 1 := by
  have h : putE [122, 122] 4 (dk0 s) = 0 := by
    have h1 : okN [122, 122] = true := by decide
    have h2 : ¬ s < 4 := by omega
    simp [putE, dk0, h1, Dir.get, Dk.full, usd, h2]
  have e : zzD s = (Rs.err ({ (dk0 s).fresh with se := Dir.put [122, 122] (dk0 s).fi.length (dk0 s).se, fi := (dk0 s).fi ++ [⟨[49, 50, 51, 52], 4, 1⟩] } : Dk).settle 0).d := by
    unfold zzD opPut
    rw [if_neg (by show ¬ putE _ 4 _ ≠ 0; rw [h]; simp)]
    rfl
  rw [e]
  rfl
theorem plan_nil {F : Nat → Prop} {M : Nat} {w : World} {d : Nat} {D : Dk} (h : Dsk F M w d D) :
    Calls Try.prog 11 #[pp d, .slice none 0 0] w fun z w' => z = .returned (.tuple #[]) ∧ Dsk F M w' d (D.plan (fun _ => none)) ∧ Kd F w w' := by
  have hM : M ≤ 1099511627776 := by obtain ⟨_, _, _, _, _, _, _, _, _, hM⟩ := h; exact hM
  exact (Plan_any h (.slice none 0 0) [] ⟨none, 0, rfl, Nat.le_refl _, by omega, (fun x hx => by cases hx), fun h => absurd rfl h⟩ ⟨(fun g hg => by cases hg), fun x hx => by cases hx⟩ (by simpa using hM)).mono fun z w' ⟨a, b, c⟩ => ⟨a, b, c⟩
/-- A shot's box, with the block. -/
theorem shot_new (w : World) (a b c : Value) : ∃ w1, w.alloc (.cells #[a, b, c] 51) = w1 ∧ Below w.heap.size w w1 ∧ w1.heap[w.heap.size]? = some (.cells #[a, b, c] 51 (0, 0)) := ⟨_, rfl, ext_alloc (Below.refl _ _) _, heap_alloc_new _ _⟩
end Go.Proofs.Ytlcgagapkkdocaa
