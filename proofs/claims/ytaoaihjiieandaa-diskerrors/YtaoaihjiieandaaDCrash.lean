/- Power loss. -/
import Derived.Test.YtaoaihjiieandaaDHand
namespace Go.Proofs.Ytaoaihjiieandaa
open Go.RowKit

theorem acts_take {l : List Ac} {d : Dir} {j : Nat} {a : Ac} (h : l[j]? = some a) : acts (l.take (j + 1)) d = a.on (acts (l.take j) d) := by
  rw [List.take_add_one, h]
  exact acts_snoc _ _ _
theorem fm3 {l : List Ac} {fq : Nat → Nat} : ∀ {j : Nat} {a : Ac}, l[j]? = some a → (l.flatMap (acC fq))[j * 3]? = some (sv a.gone) ∧ (l.flatMap (acC fq))[j * 3 + 1]? = some (sv a.to) ∧ (l.flatMap (acC fq))[j * 3 + 2]? = some (acP fq a.fi) := by
  induction l with
  | nil => intro j a h; simp at h
  | cons x r ih =>
    intro j a h
    cases j with
    | zero =>
      simp at h
      subst h
      exact ⟨rfl, rfl, rfl⟩
    | succ j =>
      obtain ⟨h1, h2, h3⟩ := ih (by simpa using h)
      have e : (x :: r).flatMap (acC fq) = sv x.gone :: sv x.to :: acP fq x.fi :: r.flatMap (acC fq) := rfl
      rw [e, Nat.succ_mul]
      exact ⟨h1, h2, h3⟩
theorem act_cells {w : World} {va : Value} {l : List Ac} {fq : Nat → Nat} (h : w.ownsRow 0 98 3 va l.length (l.flatMap (acC fq))) {j : Nat} {a : Ac} (hj : l[j]? = some a) : ∃ g cap, va = .slice (some ⟨g, 0, none⟩) l.length cap ∧ w.cell? ⟨g, j * 3, none⟩ = some (sv a.gone) ∧ w.cell? ⟨g, j * 3 + 1, none⟩ = some (sv a.to) ∧ w.cell? ⟨g, j * 3 + 2, none⟩ = some (acP fq a.fi) ∧ l.length ≤ cap := by
  have hjl := (List.getElem?_eq_some_iff.1 hj).1
  rcases h.2 with ⟨_, h0⟩ | ⟨g, cap, cur, hv, _, hc, h1, h2, h3, h4⟩
  · omega
  · obtain ⟨f1, f2, f3⟩ := fm3 (fq := fq) hj
    have e : ∀ i u, (l.flatMap (acC fq))[i]? = some u → w.cell? ⟨g, i, none⟩ = some u := fun i u hu => by
      rw [← h4, List.getElem?_take] at hu
      split at hu
      · simpa [World.cell?, hc] using hu
      · cases hu
    exact ⟨g, cap, hv, e _ _ f1, e _ _ f2, e _ _ f3, h1⟩
theorem RdS.kd {F : Nat → Prop} {w w' : World} {u : Value} {zs : List Int} (h : RdS w u zs) (k : Kd F w w') (huo : zs ≠ [] → UOk F w u) : RdS w' u zs := by
  obtain ⟨⟨ao, cap, hv, h1, h2, h3⟩, hs⟩ := h
  refine ⟨⟨ao, cap, hv, h1, h2, fun hn => ?_⟩, hs⟩
  obtain ⟨b, off, ha, hl, hc⟩ := h3 hn
  have e : w'.heap[b]? = w.heap[b]? := by
    rcases huo hn b (by rw [hv, ha]; rfl) with hf | ⟨cur, hcur⟩
    · exact k.same b hl (fun e => e.1 hf)
    · exact k.keep hcur (by decide)
  refine ⟨b, off, ha, Nat.lt_of_lt_of_le hl k.size, fun i hi => ?_⟩
  rw [← hc i hi]
  unfold World.cell?
  simp only [e]
theorem hd_cells {w : World} {v : Value} {l : Dir} {fq : Nat → Nat} (h : w.ownsRow 0 96 2 v l.length (l.flatMap (hdC fq))) {j : Nat} {p : Nm × Nat} (hj : l[j]? = some p) : ∃ g cap, v = .slice (some ⟨g, 0, none⟩) l.length cap ∧ w.cell? ⟨g, j * 2, none⟩ = some (sv p.1) ∧ w.cell? ⟨g, j * 2 + 1, none⟩ = some (pp (fq p.2)) ∧ l.length ≤ cap := by
  have hjl := (List.getElem?_eq_some_iff.1 hj).1
  have fm2 : ∀ (l : Dir) (j : Nat) (p : Nm × Nat), l[j]? = some p → (l.flatMap (hdC fq))[j * 2]? = some (sv p.1) ∧ (l.flatMap (hdC fq))[j * 2 + 1]? = some (pp (fq p.2)) := by
    intro l
    induction l with
    | nil => intro j a h; simp at h
    | cons x r ih =>
      intro j a h
      cases j with
      | zero =>
        simp at h
        subst h
        exact ⟨rfl, rfl⟩
      | succ j =>
        obtain ⟨h1, h2⟩ := ih j a (by simpa using h)
        have e : (x :: r).flatMap (hdC fq) = sv x.1 :: pp (fq x.2) :: r.flatMap (hdC fq) := rfl
        rw [e, Nat.succ_mul]
        exact ⟨h1, h2⟩
  rcases h.2 with ⟨_, h0⟩ | ⟨g, cap, cur, hv, _, hc, h1, h2, h3, h4⟩
  · omega
  · obtain ⟨f1, f2⟩ := fm2 l j p hj
    have e : ∀ i u, (l.flatMap (hdC fq))[i]? = some u → w.cell? ⟨g, i, none⟩ = some u := fun i u hu => by
      rw [← h4, List.getElem?_take] at hu
      split at hu
      · simpa [World.cell?, hc] using hu
      · cases hu
    exact ⟨g, cap, hv, e _ _ f1, e _ _ f2, h1⟩
set_option maxRecDepth 100000 in
set_option maxHeartbeats 4000000 in
/-- Power loss; where nothing is told of bytes, wherever the slice points. -/
theorem crash_gen : ∀ (F : Nat → Prop) (M : Nat) (w : World) (d : Nat) (D : Dk) (c : Ct) (u : Value), Dsk F M w d D → RdS w u c.bs → (c.bs ≠ [] → UOk F w u) → (∀ x ∈ c.bs, In64 x) → In64 c.nm →
    Calls Try.prog 14 #[pp d, .agg #[.int .i64 c.nm, u]] w fun e w' => e = .returned (.tuple #[]) ∧ Dsk F M w' d (D.crash c) ∧ Kd F w w' := by
  intro F M w d D c u h hu huo hbs hnm
  obtain ⟨ua, uc, rfl, hul⟩ := hu.len
  obtain ⟨w1, hw1, k1, hb1⟩ : ∃ w1, w1 = w.alloc (.cells #[.int .i64 c.nm, .slice ua c.bs.length uc] 27) ∧ w1.heap[w.heap.size]? = some (.cells #[.int .i64 c.nm, .slice ua c.bs.length uc] 27 (0, 0)) ∧ Below w.heap.size w w1 := ⟨_, rfl, heap_alloc_new _ _, ext_alloc (Below.refl _ _) _⟩
  obtain ⟨ms, ml, mp, va, fq, fv, hx⟩ := h.open
  have x1 := hx.ext hb1
  obtain ⟨c0, c1, c2, c3, c4, c5, c6, c7, fr⟩ := dC_cells x1.1
  obtain ⟨q0, q1, _⟩ := cells2v k1
  have HB1 := hidIt hb1
  cases hdn : D.dn with
  | true =>
    have E : Hid (D.crash c = D) := by unfold Hid Dk.crash; rw [if_pos hdn]
    rw [E.out]
    rw [hdn] at c7
    have X1 := hidIt x1
    clear h hx x1 hb1 k1 c0 c1 c2 c3 c4 c5 c6 fr hu huo
    go_enter Try.func14, Try.ntmps14
    go_upto_region 1 with fail
    rw [← hw1]
    clear hw1
    go_wp2_with fail
    (try simp only [Exit.inBlock, Exit.then])
    exact bodyPost_ret (results_none rfl _ _ _) rfl ⟨rfl, X1.out.dsk, Kd.of HB1.out⟩
  | false =>
    rw [hdn] at c7
    obtain ⟨kk, hkk⟩ : ∃ kk, kk = clip c.nm D.ac.length := ⟨_, rfl⟩
    have hkl : kk ≤ D.ac.length := by rw [hkk]; unfold clip; omega
    have hCE := hidIt (crash_eq D c hdn)
    obtain ⟨aa, an, ac, hva⟩ := form_own x1.2.1.ha
    subst hva
    have hac : an = D.ac.length ∧ D.ac.length ≤ ac := by
      rcases x1.2.1.ha.2 with ⟨hv, h0⟩ | ⟨g, cap, cur, hv, _, _, h1, _⟩
      · cases hv; exact ⟨h0.symm, by omega⟩
      · cases hv; exact ⟨rfl, h1⟩
    obtain ⟨rfl, hacc⟩ := hac
    have hlac := x1.2.2.1.lac
    have hkc : kk ≤ ac := Nat.le_trans hkl hacc
    have hN := x1.2.2.2
    have WI := fun w => hidIt (within_any c.nm D.ac.length w)
    rw [← hkk] at WI
    have X1 := hidIt x1
    have K1 := hidIt k1
    have HUO := hidIt huo
    have HU := hidIt hu
    have HWF := hidIt hx.2.2.1
    rw [← hkk] at hCE
    clear h hx x1 hb1 k1 c0 c1 c2 c3 c5 c6 fr hu huo hkk
    go_enter Try.func14, Try.ntmps14
    go_upto_region 1 with fail
    rw [← hw1]
    clear hw1
    go_upto_region 2 with fail
    go_region_held3 (fun w' => w'.cell? ⟨d, 4, none⟩ = some (.slice aa D.ac.length ac) ∧ w'.cell? ⟨w.heap.size, 0, none⟩ = some (.int .i64 c.nm)) (go_keep) (
      (go_at_call 43; refine (WI _).out.mono ?_; rintro e w2 ⟨rfl, rfl⟩))
    go_wp2_with fail
    have X2 : Hid (w1.drew.heap[d]? = some (.cells (dC D ms ml mp (.slice aa D.ac.length ac)) 88 (0, 0)) ∧ Rst F M w1.drew d ms ml mp (.slice aa D.ac.length ac) fq fv D.fi D.se (acts (D.ac.take 0) D.la) D.ac D.pl) := ⟨X1.out.drew.1, by simpa [acts] using X1.out.drew.2.1⟩
    have KD0 : Hid (Kd F w w1.drew) := (Kd.of HB1.out).trans (Kd.of (Below.refl _ w1).drew)
    clear c4 c7
    go_loopw [27] (fun i wr => ∃ j : Nat, j ≤ kk ∧ i = .int .i64 j ∧ Hid (wr.heap[d]? = some (.cells (dC D ms ml mp (.slice aa D.ac.length ac)) 88 (0, 0)) ∧ Rst F M wr d ms ml mp (.slice aa D.ac.length ac) fq fv D.fi D.se (acts (D.ac.take j) D.la) D.ac D.pl) ∧ Hid (Kd F w wr) ∧ Hid (wr.heap[w.heap.size]? = some (.cells #[.int .i64 c.nm, .slice ua c.bs.length uc] 27 (0, 0)))) (fun i _ => kk - (RowKit.intOf i).toNat)
    case atStart => exact ⟨0, Nat.zero_le _, rfl, X2.out, KD0.out, K1.out⟩
    case round =>
      obtain ⟨j, hj, rfl, HX, HK, HC⟩ := hrel
      by_cases hlt : j < kk
      · have hlt' : (j : Int) < (kk : Int) := by omega
        obtain ⟨a, ha⟩ : ∃ a, D.ac[j]? = some a := ⟨D.ac[j]'(by omega), by simp⟩
        obtain ⟨g, cap, hv, a0, a1, a2, _⟩ := act_cells HX.out.2.ha ha
        cases hv
        obtain ⟨ap, hap⟩ : ∃ ap, acP fq a.fi = .pointer ap := by cases a.fi <;> exact ⟨_, rfl⟩
        rw [hap] at a2
        have hbA : Below wr.heap.size wr (wr.alloc (.cells #[sv a.gone, sv a.to, .pointer ap] 98)) := ext_alloc (Below.refl _ _) _
        have hdl : d < wr.heap.size := (Array.getElem?_eq_some_iff.1 HX.out.1).1
        have rA := HX.out.2.ext hdl hbA
        have dA := (hbA.block d hdl).trans HX.out.1
        have hac := HWF.out.ac a (List.mem_of_getElem? ha)
        have d3 : (wr.alloc (.cells #[sv a.gone, sv a.to, .pointer ap] 98)).cell? ⟨d, 3, none⟩ = some (.map (some ml)) := by simp [World.cell?, dA]
        have ON : Hid (Calls Try.prog 44 #[.agg #[sv a.gone, sv a.to, .pointer ap], .map (some ml)] (wr.alloc (.cells #[sv a.gone, sv a.to, .pointer ap] 98)).drew fun e w2 => e = .returned (.tuple #[]) ∧ (w2.heap[d]? = some (.cells (dC D ms ml mp (.slice (some ⟨g, 0, none⟩) D.ac.length ac)) 88 (0, 0)) ∧ Rst F M w2 d ms ml mp (.slice (some ⟨g, 0, none⟩) D.ac.length ac) fq fv D.fi D.se (acts (D.ac.take (j + 1)) D.la) D.ac D.pl) ∧ Kd F w w2 ∧ w2.heap[w.heap.size]? = some (.cells #[.int .i64 c.nm, .slice ua c.bs.length uc] 27 (0, 0)) ∧ (w2.cell? ⟨wr.heap.size, 0, none⟩ = some (sv a.gone) ∧ w2.cell? ⟨wr.heap.size, 1, none⟩ = some (sv a.to) ∧ w2.cell? ⟨wr.heap.size, 2, none⟩ = some (.pointer ap) ∧ w2.cell? ⟨d, 3, none⟩ = some (.map (some ml)))) := by
          have hdr : Below (wr.alloc (.cells #[sv a.gone, sv a.to, .pointer ap] 98)).heap.size (wr.alloc (.cells #[sv a.gone, sv a.to, .pointer ap] 98)) (wr.alloc (.cells #[sv a.gone, sv a.to, .pointer ap] 98)).drew := (Below.refl _ _).drew
          have A := on_any (w := (wr.alloc (.cells #[sv a.gone, sv a.to, .pointer ap] 98)).drew) a rA.hl hac.1 hac.2.1 (HWF.out.dir j (by omega)).few
          rw [hap] at A
          refine A.mono ?_
          rintro e w2 ⟨rfl, hm2, hg2⟩
          obtain ⟨es, cl, hml⟩ := rA.hl.heap
          have keep : ∀ {k : Nat} {o : Obj}, (wr.alloc (.cells #[sv a.gone, sv a.to, .pointer ap] 98)).drew.heap[k]? = some o → (∀ es cl, o ≠ .map es cl) → w2.heap[k]? = some o := fun {k o} e ho => (hg2.block k (Array.getElem?_eq_some_iff.1 e).1 (by simpa using ne_obj e (show (wr.alloc (.cells #[sv a.gone, sv a.to, .pointer ap] 98)).drew.heap[ml]? = some (.map es cl) from hml) (ho _ _))).trans e
          have r2 := (rA.ext (by exact Nat.lt_of_lt_of_le hdl hbA.size) hdr).lasts hm2 hg2
          have dd := keep (k := d) dA (by simp)
          have bx := keep (k := wr.heap.size) (heap_alloc_new _ _) (by simp)
          have cx := keep (k := w.heap.size) ((hbA.block _ (Array.getElem?_eq_some_iff.1 HC.out).1).trans HC.out) (by simp)
          obtain ⟨b0, b1, b2, _⟩ := cells3 bx
          rw [acts_take ha]
          exact ⟨rfl, ⟨dd, r2⟩, (HK.out.trans (Kd.of hbA)).trans ((Kd.of hdr).trans (Kd.of_map (w := (wr.alloc (.cells #[sv a.gone, sv a.to, .pointer ap] 98)).drew) hml rA.fl hg2)), cx, b0, b1, b2, by simp [World.cell?, dd]⟩
        clear rA dA hac ha hbA hap
        go_upto_region 5 with fail
        go_region_held3 (fun w' => w'.cell? ⟨wr.heap.size, 0, none⟩ = some (sv a.gone) ∧ w'.cell? ⟨wr.heap.size, 1, none⟩ = some (sv a.to) ∧ w'.cell? ⟨wr.heap.size, 2, none⟩ = some (.pointer ap) ∧ w'.cell? ⟨d, 3, none⟩ = some (.map (some ml))) (first | exact ⟨y0, y1, y2, y3⟩ | go_keep) (
          (go_at_call 44; refine ON.out.mono ?_; rintro e w2 ⟨rfl, hx2, hk2, hc2, y0, y1, y2, y3⟩; have HX2 := hidIt hx2; have HK2 := hidIt hk2; have HC2 := hidIt hc2; clear hx2 hk2 hc2))
        go_wp2_with fail
        go_roundw
        case rel => exact ⟨j + 1, by omega, by go_num, HX2.out, HK2.out, HC2.out⟩
        case measure => simp [RowKit.intOf]; omega
      · have ejk : kk = j := by omega
        subst ejk
        have hge : ¬ (kk : Int) < (kk : Int) := by omega
        obtain ⟨c0, c1, c2, c3, c4, c5, c6, c7, fr⟩ := dC_cells HX.out.1
        have fr2 := fr 2
        obtain ⟨s7, g7⟩ := set1 HX.out.1 2 (.map (some ml))
        have k7 : Hid (Kd F w (wr.setCell ⟨d, 2, none⟩ (.map (some ml)))) := HK.out.trans (Kd.of_own HX.out.1 (by decide) HX.out.2.fd g7)
        have r7 := (HX.out.2.own HX.out.1 g7).swap
        have b7 := (g7.block w.heap.size (Array.getElem?_eq_some_iff.1 HC.out).1 (by simpa using ne_obj HC.out HX.out.1 (by simp))).trans HC.out
        generalize hw7 : wr.setCell ⟨d, 2, none⟩ (.map (some ml)) = w7 at *
        have ST : Hid (Calls Try.prog 38 #[pp d] w7 fun e w8 => e = .returned (.tuple #[]) ∧ ∃ ml', Dx F M w8 d (crD D (acts (D.ac.take kk) D.la) D.fi) ml ml' mp (.slice none 0 0) fq fv ∧ Kd F w w8 ∧ w8.heap[w.heap.size]? = some (.cells #[.int .i64 c.nm, .slice ua c.bs.length uc] 27 (0, 0)) ∧ w8.cell? ⟨d, 2, none⟩ = some (.map (some ml))) := by
          refine (settle2_any (D := { D with se := acts (D.ac.take kk) D.la, la := D.se }) (x := ml) (by rw [s7]; rfl) r7 (HWF.out.crD hkl) hN).mono ?_
          rintro e w8 ⟨rfl, ⟨ml8, x8⟩, k8⟩
          exact ⟨rfl, ml8, x8, k7.out.trans k8, (k8.keep b7 (by decide)).trans b7, by have := x8.1; simp [World.cell?, this]⟩
        clear r7 b7 s7 g7 c0 c1 c4 c5 c6 c7 fr
        go_upto_region 9 with (first
          | (go_at_call 38; refine ST.out.mono ?_; rintro e w8 ⟨rfl, ml8, hx8, hk8, hc8, d8⟩; have HX8 := hidIt hx8; have HK8 := hidIt hk8; have HC8 := hidIt hc8; clear hx8 hk8 hc8))
        have HS := hidIt (handles_any HX8.out.2.1.hs HX8.out.2.2.1.seen)
        obtain ⟨dd, hdd⟩ : ∃ dd, dd = acts (D.ac.take kk) D.la := ⟨_, rfl⟩
        rw [← hdd] at HX8 hCE HS
        have hok : DirOk D.fi.length dd := by rw [hdd]; exact HWF.out.dir kk hkl
        clear hdd HX HK HC k7 ST
        go_upto_region 10 with (first
          | (go_at_call 45; refine HS.out.mono ?_; rintro e w9 ⟨v9, rfl, hr9, hb9⟩; obtain ⟨ha9, hn9, hc9, rfl⟩ := form_own hr9; have HR9 := hidIt hr9; have HB9 := hidIt hb9; clear hr9 hb9))
        have hn9 : hn9 = dd.length := by
          rcases HR9.out.2 with ⟨hv, h0⟩ | ⟨_, _, _, hv, _⟩
          · cases hv; exact h0.symm
          · cases hv; rfl
        subst hn9
        have hddl := hok.few
        have HOK := hidIt hok
        have HSP := hidIt HWF.out.sp
        have R9 : Hid (w9.ownsRow 0 96 2 (.slice ha9 dd.length hc9) dd.length (dd.flatMap (hdC fq))) := by
          obtain ⟨r1, r2⟩ := HR9.out
          refine ⟨r1, ?_⟩
          rcases r2 with r2 | ⟨g, cap, cur, hv, _, r⟩
          · exact .inl r2
          · exact .inr ⟨g, cap, cur, hv, Nat.zero_le _, r⟩
        have X9 : Hid (∃ fv', Dx F M w9 d (crD D dd (cutAll (dd.take 0) c.bs D.fi)) ml ml8 mp (.slice none 0 0) fq fv') := ⟨fv, HX8.out.ext HB9.out⟩
        have K9 : Hid (Kd F w w9) := HK8.out.trans (Kd.of HB9.out)
        have C9 : Hid (w9.heap[w.heap.size]? = some (.cells #[.int .i64 c.nm, .slice ua c.bs.length uc] 27 (0, 0))) := (HB9.out.block _ (Array.getElem?_eq_some_iff.1 HC8.out).1).trans HC8.out
        clear HX8 HK8 HC8 HR9 HB9 HS hok d8
        go_wp2_with fail
        go_loopw [53] (fun i wq => ∃ j : Nat, j ≤ dd.length ∧ i = .int .i64 j ∧ Hid (∃ fv', Dx F M wq d (crD D dd (cutAll (dd.take j) c.bs D.fi)) ml ml8 mp (.slice none 0 0) fq fv') ∧ Hid (Kd F w wq) ∧ Hid (wq.heap[w.heap.size]? = some (.cells #[.int .i64 c.nm, .slice ua c.bs.length uc] 27 (0, 0))) ∧ Hid (wq.ownsRow 0 96 2 (.slice ha9 dd.length hc9) dd.length (dd.flatMap (hdC fq)))) (fun i _ => dd.length - (RowKit.intOf i).toNat)
        case atStart => exact ⟨0, Nat.zero_le _, rfl, X9.out, K9.out, C9.out, R9.out⟩
        case round =>
          obtain ⟨j, hj, rfl, HX, HK, HC, HR⟩ := hrel
          obtain ⟨fv1, hx1⟩ := HX.out
          by_cases hlt : j < dd.length
          · have hlt' : (j : Int) < (dd.length : Int) := by omega
            obtain ⟨p, hp⟩ : ∃ p, dd[j]? = some p := ⟨dd[j], by simp [hlt]⟩
            obtain ⟨g, cap, hv, a0, a1, hcap⟩ := hd_cells HR.out hp
            cases hv
            obtain ⟨z0, z1, _⟩ := cells2v HC.out
            have hpi := (HOK.out.ok p (List.mem_of_getElem? hp)).2
            have hpi' : p.2 < (crD D dd (cutAll (dd.take j) c.bs D.fi)).fi.length := by show p.2 < (cutAll _ _ _).length; rw [cutAll_len]; exact hpi
            have hru := HU.out.kd HK.out HUO.out
            have HRU := hidIt hru
            obtain ⟨more, hmore⟩ : ∃ m, m = c.bs[j]?.getD 0 := ⟨_, rfl⟩
            have hst : cutAll (dd.take (j + 1)) c.bs D.fi = (cutAll (dd.take j) c.bs D.fi).set p.2 (cutF (fiAt (cutAll (dd.take j) c.bs D.fi) p.2) more) := by
              rw [List.take_add_one, hp]
              show cutAll (dd.take j ++ [p]) c.bs D.fi = _
              rw [cutAll_snoc, hmore, List.length_take, Nat.min_eq_left hj]
            obtain ⟨wb, hwb, kb, hbb⟩ : ∃ wb, wb = wr.alloc (.cells #[sv p.1, pp (fq p.2)] 96) ∧ wb.heap[wr.heap.size]? = some (.cells #[sv p.1, pp (fq p.2)] 96 (0, 0)) ∧ Below wr.heap.size wr wb := ⟨_, rfl, heap_alloc_new _ _, ext_alloc (Below.refl _ _) _⟩
            have xb := hx1.ext hbb
            have CU : Hid (Calls Try.prog 46 #[pp (fq p.2), .int .i64 more] wb fun e w2 => e = .returned (.tuple #[]) ∧ (∃ fv', Dx F M w2 d (crD D dd (cutAll (dd.take (j + 1)) c.bs D.fi)) ml ml8 mp (.slice none 0 0) fq fv') ∧ Kd F w w2 ∧ w2.heap[w.heap.size]? = some (.cells #[.int .i64 c.nm, .slice ua c.bs.length uc] 27 (0, 0)) ∧ w2.ownsRow 0 96 2 (.slice (some ⟨g, 0, none⟩) dd.length hc9) dd.length (dd.flatMap (hdC fq))) := by
              have hf := xb.fok hpi'
              have hsp := HSP.out
              have hsp2 : (crD D dd (cutAll (dd.take j) c.bs D.fi)).sp = D.sp := rfl
              refine (cut_any (xb.fget hpi') ⟨hf.1, by omega⟩ more).mono ?_
              rintro e w2 ⟨rfl, v2, u2⟩
              have hc := cutF_ok (fiAt (crD D dd (cutAll (dd.take j) c.bs D.fi)).fi p.2) more hf.1
              have r := xb.file (Nat.le_refl M) xb.2.2.2 hpi' u2 hc.1 (Nat.le_trans hc.2.1 hf.2.1) (by rw [hc.2.2.1]; exact hf.2.2.1) (fun x hx => hf.2.2.2 x (hc.2.2.2 x hx))
              have kd := (HK.out.trans (Kd.of hbb)).trans r.2
              refine ⟨rfl, ⟨_, by rw [hst]; exact r.1⟩, kd, ?_, ?_⟩
              · have cb := (hbb.block _ (Array.getElem?_eq_some_iff.1 HC.out).1).trans HC.out
                exact (r.2.keep cb (by decide)).trans cb
              · have rb := own_ext HR.out hbb
                exact own_same rb (fun q hq => by obtain ⟨cur, hcur⟩ := own_lt rb hq; exact r.2.keep hcur (by decide))
            obtain ⟨kb0, kb1, _⟩ := cells2v kb
            have zb1 := (hbb.cell (p := ⟨w.heap.size, 1, none⟩) (cell_lt z1)).trans z1
            have HRB := hidIt (hru.ext hbb)
            clear hx1 xb kb hbb HX HK HC HR hp hpi hpi' hst hru
            go_upto_region 12 with fail
            rw [← hwb]
            clear hwb a0 a1 z0 z1
            by_cases hlb : j < c.bs.length
            · have hlb' : (j : Int) < (c.bs.length : Int) := by omega
              obtain ⟨b, off, hua, hcl⟩ : ∃ b off, ua = some ⟨b, off, none⟩ ∧ wb.cell? ⟨b, off + j, none⟩ = some (.int .i64 more) := by
                obtain ⟨⟨ao, cp, hv, _, _, h3⟩, _⟩ := HRB.out
                cases hv
                obtain ⟨b, off, ha, _, hc⟩ := h3 (fun e => by rw [e] at hlb; simp at hlb)
                exact ⟨b, off, ha, by rw [hc j hlb, hmore]⟩
              subst hua
              clear hmore
              go_wp2_with (go_at_call 46; refine CU.out.mono ?_; rintro e w2 ⟨rfl, hx2, hk2, hc2, hr2⟩; have HX2 := hidIt hx2; have HK2 := hidIt hk2; have HC2 := hidIt hc2; have HR2 := hidIt hr2; clear hx2 hk2 hc2 hr2)
              go_roundw
              case rel => exact ⟨j + 1, by omega, by go_num, HX2.out, HK2.out, HC2.out, HR2.out⟩
              case measure => simp [RowKit.intOf]; omega
            · have hlb' : ¬ (j : Int) < (c.bs.length : Int) := by omega
              have hm0 : more = 0 := by rw [hmore]; simp [List.getElem?_eq_none (by omega : c.bs.length ≤ j)]
              subst hm0
              clear hmore
              go_wp2_with (go_at_call 46; refine CU.out.mono ?_; rintro e w2 ⟨rfl, hx2, hk2, hc2, hr2⟩; have HX2 := hidIt hx2; have HK2 := hidIt hk2; have HC2 := hidIt hc2; have HR2 := hidIt hr2; clear hx2 hk2 hc2 hr2)
              go_roundw
              case rel => exact ⟨j + 1, by omega, by go_num, HX2.out, HK2.out, HC2.out, HR2.out⟩
              case measure => simp [RowKit.intOf]; omega
          · have ejk : dd.length = j := by omega
            subst ejk
            rw [List.take_length] at hx1
            have hge : ¬ (dd.length : Int) < (dd.length : Int) := by omega
            obtain ⟨_, _, _, _, _, _, _, c7, fr⟩ := dC_cells hx1.1
            have fr7 := fr 7
            obtain ⟨s8, g8⟩ := set1 hx1.1 7 (.bool true)
            have FIN : Hid (Dsk F M (wr.setCell ⟨d, 7, none⟩ (.bool true)) d (D.crash c) ∧ Kd F w (wr.setCell ⟨d, 7, none⟩ (.bool true))) := by
              refine ⟨?_, HK.out.trans (Kd.of_own hx1.1 (by decide) hx1.2.1.fd g8)⟩
              rw [hCE.out]
              have hw := hx1.2.2.1
              exact Dx.dsk (ms := ml) (ml := ml8) (mp := mp) (va := .slice none 0 0) (fq := fq) (fv := fv1) ⟨by rw [s8]; simp [crD], hx1.2.1.own hx1.1 g8, ⟨hw.sp, hw.fi, hw.dir, hw.ac, hw.see, hw.lfi, hw.lac, hw.lst⟩, hx1.2.2.2⟩
            clear hx1 HX s8 g8 fr
            go_wp2_with fail
            exact bodyPost_end (results_none rfl _ _ _) rfl ⟨rfl, FIN.out⟩
theorem crash_any : CrashOk := fun F M w d D c u h hu huo hbs hnm => crash_gen F M w d D c u h hu (fun _ => huo) hbs hnm
end Go.Proofs.Ytaoaihjiieandaa
