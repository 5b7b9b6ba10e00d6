/- Power loss: what it needs. -/
import Derived.Test.YtlcgagapkkdocaaDHand
namespace Go.Proofs.Ytlcgagapkkdocaa
open Go.RowKit

/-- What is seen and what lasts change places. -/
theorem Rst.swap {F : Nat → Prop} {N : Nat} {w : World} {d ms ml : Nat} {mp : Option Nat} {va : Value} {fq : Nat → Nat} {fv : Nat → Value} {fi : List Fi} {se la : Dir} {ac : List Ac} {pl : Int → Option Ft} (h : Rst F N w d ms ml mp va fq fv fi se la ac pl) : Rst F N w d ml ms mp va fq fv fi la se ac pl :=
  { h with hs := h.hl, hl := h.hs, ne := h.ne.symm, pe := ⟨h.pe.2, h.pe.1⟩, fs := h.fl, fl := h.fs }
set_option maxRecDepth 100000 in
/-- settle, wherever the pointer of what lasts leads. -/
theorem settle2_any {F : Nat → Prop} {N : Nat} {w : World} {d x : Nat} {D : Dk} {ms ml : Nat} {mp : Option Nat} {va : Value} {fq : Nat → Nat} {fv : Nat → Value} (h1 : w.heap[d]? = some (.cells (dC D ms x mp va) 88 (0, 0))) (h2 : Rst F N w d ms ml mp va fq fv D.fi D.se D.la D.ac D.pl) (h3 : Wf N D.settle) (h4 : N ≤ 1099511627776) :
    Calls Try.prog 38 #[pp d] w fun e w' => e = .returned (.tuple #[]) ∧ (∃ ml', Dx F N w' d D.settle ms ml' mp (.slice none 0 0) fq fv) ∧ Kd F w w' := by
  have hdl : d < w.heap.size := (Array.getElem?_eq_some_iff.1 h1).1
  obtain ⟨es, cl, hm⟩ := h2.hs.heap
  have CL := hidIt (clone_dir ms es cl w hm)
  obtain ⟨c0, c1, c2, c3, c4, c5, c6, c7, fr⟩ := dC_cells h1
  obtain ⟨w1, hw1, m1, b1⟩ : ∃ w1, w1 = w.alloc (.map es cl) ∧ w1.heap[w.heap.size]? = some (.map es cl) ∧ Below w.heap.size w w1 := ⟨_, rfl, heap_alloc_new _ _, ext_alloc (Below.refl _ _) _⟩
  have d1 := (b1.block d hdl).trans h1
  obtain ⟨s2, g2⟩ := set1 d1 3 (.map (some w.heap.size))
  generalize hw2 : w1.setCell ⟨d, 3, none⟩ (.map (some w.heap.size)) = w2 at *
  obtain ⟨s3, g3⟩ := set1 s2 4 (.slice none 0 0)
  generalize hw3 : w2.setCell ⟨d, 4, none⟩ (.slice none 0 0) = w3 at *
  have f1 : w1.frozen? ⟨d, 3, none⟩ = false := frozen_of_row _ _ _ _ _ d1
  have f2 : w2.frozen? ⟨d, 4, none⟩ = false := frozen_of_row _ _ _ _ _ s2
  have e1 : w1.cell? ⟨d, 3, none⟩ = some (.map (some x)) := by simp [World.cell?, d1]
  have e2 : w2.cell? ⟨d, 4, none⟩ = some va := by simp [World.cell?, s2]
  have K3 : Hid (Kps (fun k => k = d) w w3) := ((Kps.of_below _ b1).trans (Kps.grown g2 (fun k e _ => by cases e; rfl)) (fun _ _ e => e)).trans (Kps.grown g3 (fun k e _ => by cases e; rfl)) (fun _ _ e => e)
  have m3 : w3.heap[w.heap.size]? = some (.map es cl) := by
    have l1 : w.heap.size < w1.heap.size := by rw [hw1]; simp
    rw [g3.block _ (Nat.lt_of_lt_of_le l1 g2.size) (by simp; omega), g2.block _ l1 (by simp; omega), m1]
  have FIN : Hid (Dx F N w3 d D.settle ms w.heap.size mp (.slice none 0 0) fq fv) := by
    have lt : ∀ {k : Nat} {o : Obj}, w.heap[k]? = some o → k < w.heap.size := fun e => (Array.getElem?_eq_some_iff.1 e).1
    have keep : ∀ {k : Nat} {o : Obj}, w.heap[k]? = some o → (∀ cs, o ≠ .cells cs 88 (0, 0)) → w3.heap[k]? = w.heap[k]? := fun {k o} e ho => K3.out.same _ (lt e) (fun e2 => ne_obj e h1 (ho _) e2)
    have hms : DirM w3 ms fq D.se := h2.hs.same (keep hm (by simp))
    refine ⟨by rw [s3]; rfl, { h2 with hs := hms, hl := ?_, ne := ?_, ha := ⟨rfl, .inl ⟨rfl, rfl⟩⟩, hp := ?_, pe := ?_, hf := ?_, fl := h2.new (Nat.le_refl _), fa := fun g hg => (by cases hg), fw := fun q hq => Nat.lt_of_lt_of_le (h2.fw q hq) K3.out.size }, h3, h4⟩
    · obtain ⟨es2, cl2, e1, r⟩ := h2.hs
      rw [hm] at e1
      cases e1
      exact ⟨es, cl, m3, r⟩
    · intro e
      have := lt hm
      omega
    · exact h2.noplan (fun b e => by subst e; obtain ⟨es, cl, e⟩ := h2.hp.heap; exact keep e (by simp)) (fun g cur hc => keep hc (by simp))
    · refine ⟨h2.pe.1, fun e => ?_⟩
      subst e
      obtain ⟨es, cl, e⟩ := h2.hp.heap
      have := lt e
      omega
    · intro i f hi
      exact (h2.hf i f hi).same (keep (h2.hf i f hi).1 (by simp)) (fun g hg => by obtain ⟨cur, hc⟩ := own_lt (h2.hf i f hi).2 hg; exact keep hc (by simp))
  have HK : Hid (Kd F w w3) := K3.out.mono (fun k _ e => by rw [e]; exact ⟨h2.fd, NI.of h1 (by decide)⟩)
  clear h1 h2 hm d1 s2 g2 s3 g3 m3 K3 m1 c0 c1 c3 c5 c6 c7 fr b1 c4
  go_enter Try.func38, Try.ntmps38
  go_wp2_with (go_at_call 75; refine CL.out.mono ?_; rintro e w9 ⟨rfl, h9⟩; obtain rfl : w9 = w1 := h9.trans hw1.symm; clear h9 hw1)
  exact bodyPost_end (results_none rfl _ _ _) rfl ⟨rfl, ⟨_, FIN.out⟩, HK.out⟩

theorem cutAll_len : ∀ (d : Dir) (bs : List Int) (fi : List Fi), (cutAll d bs fi).length = fi.length
  | [], _, _ => rfl
  | p :: r, bs, fi => by unfold cutAll; rw [cutAll_len r]; simp
theorem cutAll_snoc : ∀ (d : Dir) (bs : List Int) (fi : List Fi) (p : Nm × Nat), cutAll (d ++ [p]) bs fi = (cutAll d bs fi).set p.2 (cutF (fiAt (cutAll d bs fi) p.2) (bs[d.length]?.getD 0))
  | [], bs, fi, p => by
    show cutAll [] bs.tail _ = _
    cases bs <;> rfl
  | q :: r, bs, fi, p => by
    show cutAll (r ++ [p]) bs.tail _ = _
    rw [cutAll_snoc r bs.tail]
    show _ = (cutAll r bs.tail _).set p.2 (cutF (fiAt (cutAll r bs.tail _) p.2) _)
    have e : bs.tail[r.length]?.getD 0 = bs[(q :: r).length]?.getD 0 := by cases bs <;> simp
    rw [e]
theorem cutF_ok (f : Fi) (m : Int) (h : f.sy ≤ f.bs.length) : (cutF f m).sy ≤ (cutF f m).bs.length ∧ (cutF f m).bs.length ≤ f.bs.length ∧ (cutF f m).ct = f.ct ∧ ∀ x ∈ (cutF f m).bs, x ∈ f.bs := by
  have hk : f.sy + clip m (f.bs.length - f.sy) ≤ f.bs.length := by unfold clip; omega
  refine ⟨?_, ?_, rfl, fun x hx => List.mem_of_mem_take hx⟩
  · show f.sy + clip m (f.bs.length - f.sy) ≤ (f.bs.take (f.sy + clip m (f.bs.length - f.sy))).length
    rw [List.length_take]
    omega
  · show (f.bs.take _).length ≤ _
    rw [List.length_take]
    omega
/-- The disk once its directory is the one that lasts. -/
def crD (D : Dk) (d : Dir) (fi : List Fi) : Dk := { D with se := d, la := d, ac := [], fi := fi }
theorem crash_eq (D : Dk) (c : Ct) (h : D.dn = false) : D.crash c = { crD D (acts (D.ac.take (clip c.nm D.ac.length)) D.la) (cutAll (acts (D.ac.take (clip c.nm D.ac.length)) D.la) c.bs D.fi) with dn := true } := by
  unfold Dk.crash
  rw [if_neg (by rw [h]; decide)]
  rfl
theorem Wf.crD {N : Nat} {D : Dk} (h : Wf N D) {k : Nat} (hk : k ≤ D.ac.length) : Wf N (crD D (acts (D.ac.take k) D.la) D.fi) :=
  ⟨h.sp, h.fi, fun j hj => by
    have : j = 0 := by simpa [Go.Proofs.Ytlcgagapkkdocaa.crD] using hj
    subst this
    exact h.dir k hk, fun a ha => by simp [Go.Proofs.Ytlcgagapkkdocaa.crD] at ha, rfl, h.lfi, Nat.zero_le _, h.lst⟩
end Go.Proofs.Ytlcgagapkkdocaa
