import Derived.Test.YtfdceljdhgbkcaaGreatDoorJ38
/- The document's parser: Feed, Reset. -/
namespace Go.Proofs.YtfdceljdhgbkcaaGreatDoor
open Go.RowKit
/-- Blocks that are none of a table's. -/
def Othr2 (w : World) (o : Nat → Prop) : Prop := ∀ k, o k → ∃ cur T, w.heap[k]? = some (.cells cur T (0, 0)) ∧ T ≠ 3 ∧ T ≠ 71 ∧ T ≠ 66 ∧ T ≠ 69
theorem Othr2.one {w : World} {o : Nat → Prop} (h : Othr2 w o) : Othr w o := fun k e => by
  obtain ⟨cur, T, h1, h2, h3, _⟩ := h k e
  exact ⟨cur, T, h1, h2, h3⟩
theorem TlM.keep {w w' : World} {o : Nat → Prop} {tv : Value} {os : List DRw} (h : TlM w tv os) (hk : Kps o w w') (ho : Othr2 w o) : TlM w' tv os := by
  obtain ⟨ta, tc, h1, h2, h3, h4⟩ := h.ex
  refine ⟨ta, tc, h1, h2, h3, fun i o' hi => ?_⟩
  obtain ⟨g, u, zs, k1, ⟨cur, hc⟩, k2, k3, k4⟩ := h4 i o' hi
  have e : w'.heap[g]? = w.heap[g]? := hk.same g (Array.getElem?_eq_some_iff.1 hc).1 (fun e => by
    obtain ⟨cur2, T, h5, _, _, h6, _⟩ := ho g e
    rw [hc] at h5
    injection h5 with h5
    injection h5 with _ h7
    exact h6 h7.symm)
  refine ⟨g, u, zs, k1, ⟨cur, e.trans hc⟩, ?_, k3.keep hk ho.one, k4⟩
  unfold World.cell? at k2 ⊢
  simp only [e]
  exact k2
theorem TbM.keep {w w' : World} {o : Nat → Prop} {b : Nat} {sl : Bool} (h : TbM w b sl) (hk : Kps o w w') (ho : Othr2 w o) : TbM w' b sl := by
  obtain ⟨rv, ov, tv, xs, os, h1, h2, h3, h4, h5, h6⟩ := h.ex
  refine ⟨rv, ov, tv, xs, os, (hk.same b (Array.getElem?_eq_some_iff.1 h1).1 (fun e => ?_)).trans h1, h2.keep hk ho.one, h3, h4.keep hk ho.one, h5, h6.keep hk ho⟩
  obtain ⟨cur2, T, h7, _, _, _, h8⟩ := ho b e
  rw [h1] at h7
  injection h7 with h7
  injection h7 with _ h9
  exact h8 h9.symm
theorem cells4p {w : World} {b : Nat} {T : TypeId} {v0 v1 v2 v3 : Value} (h : w.heap[b]? = some (.cells #[v0, v1, v2, v3] T (0, 0))) : w.cell? ⟨b, 0, none⟩ = some v0 ∧ w.cell? ⟨b, 1, none⟩ = some v1 ∧ w.cell? ⟨b, 2, none⟩ = some v2 ∧ w.cell? ⟨b, 3, none⟩ = some v3 ∧ (∀ i, w.frozen? ⟨b, i, none⟩ = false) ∧ b < w.heap.size := by
  refine ⟨?_, ?_, ?_, ?_, fun i => ?_, (Array.getElem?_eq_some_iff.1 h).1⟩ <;> simp [World.cell?, World.frozen?, h]
theorem set4p {w : World} {b : Nat} {v0 v1 v2 v3 : Value} (h : w.heap[b]? = some (.cells #[v0, v1, v2, v3] 40 (0, 0))) (i : Nat) (v : Value) : (w.setCell ⟨b, i, none⟩ v).heap[b]? = some (.cells (#[v0, v1, v2, v3].setIfInBounds i v) 40 (0, 0)) ∧ Kps (fun k => k = b) w (w.setCell ⟨b, i, none⟩ v) := by
  obtain ⟨h1, h2⟩ := set1 h i v
  exact ⟨h1, Kps.grown h2 (fun k e _ => (Option.some.inj e).symm)⟩
set_option maxRecDepth 100000 in
set_option maxHeartbeats 2000000 in
theorem r_Reset_any {w : World} {b : Nat} {p0 p1 pv : Value} {sl : Bool} (h : w.heap[b]? = some (.cells #[p0, p1, pv, .bool sl] 40 (0, 0))) : Calls Tryz.prog 18 #[.pointer (some ⟨b, 0, none⟩)] w fun e w' => e = .returned (.tuple #[]) ∧ w'.heap[b]? = some (.cells #[p0, p1, .slice none 0 0, .bool sl] 40 (0, 0)) ∧ Kps (fun k => k = b) w w' := by
  obtain ⟨c0, c1, c2, c3, cf, cb⟩ := cells4p h
  have HS := hidIt (set4p h 2 (.slice none 0 0))
  clear h
  go_enter Tryz.func18, Tryz.ntmps18
  go_wp2
  refine bodyPost_end (results_none rfl _ _ _) rfl ⟨rfl, HS.out.1, HS.out.2⟩
/-- What the document's parser says to a key, and what is pending then (m: is it a selection's mode?). -/
def dFd (m sl : Bool) (ks : List Int) (key : Int) : (Cm × Int) × List Int :=
  if key = 27 then ((cmZ, 3), []) else (dRds m ((if m = sl then ks else []) ++ [key]), if (dRds m ((if m = sl then ks else []) ++ [key])).2 = 0 then (if m = sl then ks else []) ++ [key] else [])
/-- The parser while Feed goes on. -/
structure FdG (w W : World) (b b0 b1 : Nat) (m : Bool) (pv : Value) (ks : List Int) : Prop where
  hr : W.heap[b]? = some (.cells #[.pointer (some ⟨b0, 0, none⟩), .pointer (some ⟨b1, 0, none⟩), pv, .bool m] 40 (0, 0))
  t0 : TbM W b0 false
  t1 : TbM W b1 true
  ki : OwnI W 0 pv ks
  kp : Kps (fun k => k = b) w W
  rz : W.heap[w.heap.size]? = some (.cells #[.int .i64 0, .int .i64 0, .int .i64 0, .int .i64 0, .int .i64 0] 33 (0, 0))
theorem FdG.oth {w W : World} {b b0 b1 : Nat} {m : Bool} {pv : Value} {ks : List Int} (h : FdG w W b b0 b1 m pv ks) : Othr2 W (fun k => k = b) := fun k (e : k = b) => by subst e; exact ⟨_, 40, h.hr, by decide, by decide, by decide, by decide⟩
theorem FdG.ne {w W : World} {b b0 b1 : Nat} {m : Bool} {pv : Value} {ks : List Int} (h : FdG w W b b0 b1 m pv ks) : ¬ w.heap.size = b := fun e => by
  have h1 := h.rz
  rw [e, h.hr] at h1
  cases h1
theorem FdG.put {w W : World} {b b0 b1 : Nat} {m : Bool} {pv : Value} {ks : List Int} (h : FdG w W b b0 b1 m pv ks) {pv' : Value} {ks' : List Int} (hk : OwnI W 0 pv' ks') : FdG w (W.setCell ⟨b, 2, none⟩ pv') b b0 b1 m pv' ks' := by
  obtain ⟨s1, s2⟩ := set4p h.hr 2 pv'
  exact ⟨s1, h.t0.keep s2 h.oth, h.t1.keep s2 h.oth, hk.stay (fun g hg => s2.same g (by obtain ⟨_, cur, hc⟩ := hk.blk hg; exact (Array.getElem?_eq_some_iff.1 hc).1) (fun e => by subst e; obtain ⟨_, cur, hc⟩ := hk.blk hg; rw [h.hr] at hc; cases hc)), Kps.trans h.kp s2 (fun _ _ e => e), (s2.same _ (Array.getElem?_eq_some_iff.1 h.rz).1 h.ne).trans h.rz⟩
theorem FdG.sel {w W : World} {b b0 b1 : Nat} {m : Bool} {pv : Value} {ks : List Int} (h : FdG w W b b0 b1 m pv ks) (m' : Bool) : FdG w (W.setCell ⟨b, 3, none⟩ (.bool m')) b b0 b1 m' pv ks := by
  obtain ⟨s1, s2⟩ := set4p h.hr 3 (.bool m')
  exact ⟨s1, h.t0.keep s2 h.oth, h.t1.keep s2 h.oth, h.ki.stay (fun g hg => s2.same g (by obtain ⟨_, cur, hc⟩ := h.ki.blk hg; exact (Array.getElem?_eq_some_iff.1 hc).1) (fun e => by subst e; obtain ⟨_, cur, hc⟩ := h.ki.blk hg; rw [h.hr] at hc; cases hc)), Kps.trans h.kp s2 (fun _ _ e => e), (s2.same _ (Array.getElem?_eq_some_iff.1 h.rz).1 h.ne).trans h.rz⟩
theorem FdG.ext {w W y : World} {b b0 b1 : Nat} {m : Bool} {pv : Value} {ks : List Int} (h : FdG w W b b0 b1 m pv ks) (hb : Below W.heap.size W y) : FdG w y b b0 b1 m pv ks :=
  ⟨(hb.block _ (Array.getElem?_eq_some_iff.1 h.hr).1).trans h.hr, h.t0.ext hb, h.t1.ext hb, h.ki.ext hb, Kps.trans h.kp (Kps.of_below (fun k => k = b) hb) (fun _ _ e => e), (hb.block _ (Array.getElem?_eq_some_iff.1 h.rz).1).trans h.rz⟩
theorem FdG.nb {w wA : World} (hs : w.heap.size ≤ wA.heap.size) {W : World} {pv : Value} {ks : List Int} (h : OwnI W wA.heap.size pv ks) : ∀ g, pv.ownBlock = some g → w.heap.size ≤ g := fun _ hg => Nat.le_trans hs (h.blk hg).1
/-- What Feed leaves. -/
def FdQ (w : World) (b b0 b1 : Nat) (m : Bool) (x : (Cm × Int) × List Int) (e : Ending) (w' : World) : Prop := ∃ pv', e = .returned (.tuple #[cmV x.1.1, .int .i64 x.1.2]) ∧ w'.heap[b]? = some (.cells #[.pointer (some ⟨b0, 0, none⟩), .pointer (some ⟨b1, 0, none⟩), pv', .bool m] 40 (0, 0)) ∧ TbM w' b0 false ∧ TbM w' b1 true ∧ OwnI w' 0 pv' x.2 ∧ Kps (fun k => k = b) w w' ∧ (∀ g, pv'.ownBlock = some g → w.heap.size ≤ g)
theorem FdG.fin {w W : World} {b b0 b1 : Nat} {m : Bool} {pv : Value} {ks : List Int} (h : FdG w W b b0 b1 m pv ks) (z0 z1 z2 z3 z4 : Int) : ∀ W', W' = (((((W.setCell ⟨w.heap.size, 0, none⟩ (.int .i64 z0)).setCell ⟨w.heap.size, 1, none⟩ (.int .i64 z1)).setCell ⟨w.heap.size, 2, none⟩ (.int .i64 z2)).setCell ⟨w.heap.size, 3, none⟩ (.int .i64 z3)).setCell ⟨w.heap.size, 4, none⟩ (.int .i64 z4)) → W'.heap[b]? = some (.cells #[.pointer (some ⟨b0, 0, none⟩), .pointer (some ⟨b1, 0, none⟩), pv, .bool m] 40 (0, 0)) ∧ TbM W' b0 false ∧ TbM W' b1 true ∧ OwnI W' 0 pv ks ∧ Kps (fun k => k = b) w W' := by
  intro W' e
  obtain ⟨_, g⟩ := put5 h.rz (.int .i64 z0) (.int .i64 z1) (.int .i64 z2) (.int .i64 z3) (.int .i64 z4)
  rw [← e] at g
  have hg : Kps (fun k => k = w.heap.size) W W' := Kps.grown g (fun k e _ => (Option.some.inj e).symm)
  have ho : Othr2 W (fun k => k = w.heap.size) := fun k (e : k = w.heap.size) => by subst e; exact ⟨_, 33, h.rz, by decide, by decide, by decide, by decide⟩
  exact ⟨(hg.same b (Array.getElem?_eq_some_iff.1 h.hr).1 (fun e => h.ne e.symm)).trans h.hr, h.t0.keep hg ho, h.t1.keep hg ho, h.ki.stay (fun g hg2 => hg.same g (by obtain ⟨_, cur, hc⟩ := h.ki.blk hg2; exact (Array.getElem?_eq_some_iff.1 hc).1) (fun e => by subst e; obtain ⟨_, cur, hc⟩ := h.ki.blk hg2; rw [h.rz] at hc; cases hc)), Kps.trans h.kp hg (fun i hi (e : i = _) => absurd e (by omega))⟩
set_option maxRecDepth 100000 in
set_option maxHeartbeats 8000000 in
theorem r_Feed_any {w : World} {b b0 b1 : Nat} {sl : Bool} {pa : Option Addr} {pn pc : Nat} {ks : List Int} (h : w.heap[b]? = some (.cells #[.pointer (some ⟨b0, 0, none⟩), .pointer (some ⟨b1, 0, none⟩), .slice pa pn pc, .bool sl] 40 (0, 0))) (t0 : TbM w b0 false) (t1 : TbM w b1 true) (hk : OwnI w 0 (.slice pa pn pc) ks) (hl : ks.length < 17592186044416) (mode key : Int) :
    Calls Tryz.prog 10 #[.pointer (some ⟨b, 0, none⟩), .int .i64 mode, .int .i64 key] w fun e w' => FdQ w b b0 b1 (isl mode) (dFd (isl mode) sl ks key) e w' := by
  have HSL := hidIt (fun y => r_Selects_any mode y)
  generalize isl mode = m at HSL ⊢
  have hX : (if key = 27 then ((cmZ, (3 : Int)), ([] : List Int)) else (dRds m ((if m = sl then ks else []) ++ [key]), if (dRds m ((if m = sl then ks else []) ++ [key])).2 = 0 then (if m = sl then ks else []) ++ [key] else [])) = dFd m sl ks key := rfl
  generalize dFd m sl ks key = X at hX ⊢
  obtain ⟨w0, hw0⟩ : ∃ w0, w0 = w.alloc (.cells #[.int .i64 0, .int .i64 0, .int .i64 0, .int .i64 0, .int .i64 0] 33) := ⟨_, rfl⟩
  have hb0 : Below w.heap.size w w0 := by rw [hw0]; exact ext_alloc (Below.refl _ _) _
  have HF0 : Hid (FdG w w0 b b0 b1 sl (.slice pa pn pc) ks) := ⟨(hb0.block _ (Array.getElem?_eq_some_iff.1 h).1).trans h, t0.ext hb0, t1.ext hb0, hk.ext hb0, Kps.of_below _ hb0, by rw [hw0]; exact heap_alloc_new _ _⟩
  have HX := hidIt hX
  have HL := hidIt hl
  clear h t0 t1 hk hb0 hX hl
  go_enter Tryz.func10, Tryz.ntmps10
  go_upto_region 1 with fail
  rw [← hw0]
  clear hw0
  obtain ⟨c0, c1, c2, c3, cf, cb⟩ := cells4p HF0.out.hr
  by_cases hms : m = sl
  · have hne : (m == sl) = true := by rw [hms]; simp
    rw [if_pos hms] at HX
    clear hms
    obtain ⟨wA, hwA⟩ : ∃ wA, wA = w0.setCell ⟨b, 3, none⟩ (.bool m) := ⟨_, rfl⟩
    have HA : Hid (FdG w wA b b0 b1 m (.slice pa pn pc) ks) := by unfold Hid; rw [hwA]; exact HF0.out.sel m
    go_upto_region 5 with (go_at_call 21; refine (HSL.out _).mono ?_; rintro e y ⟨rfl, hy⟩; rw [hy]; clear hy; (try dsimp only))
    rw [← hwA]
    clear hwA HF0 c0 c1 c2 c3 cf cb
    by_cases hk : key = 27
    · have hk27 : (key == 27) = true := by simpa using hk
      rw [if_pos hk] at HX
      clear hk
      obtain ⟨c0, c1, c2, c3, cf, cb⟩ := cells4p HA.out.hr
      obtain ⟨wB, hwB⟩ : ∃ wB, wB = wA.setCell ⟨b, 2, none⟩ (.slice none 0 0) := ⟨_, rfl⟩
      have HB : Hid (FdG w wB b b0 b1 m (.slice none 0 0) []) := by unfold Hid; rw [hwB]; exact HA.out.put (OwnI.nil _ _)
      go_upto_region 7 with fail
      rw [← hwB]
      clear hwB c0 c1 c2 c3 cf cb
      obtain ⟨_, r0, r1, r2, r3, r4, rf⟩ := cells5 HB.out.rz
      go_wp2_with fail
      obtain ⟨f1, f2, f3, f4, f5⟩ := HB.out.fin 0 0 0 0 0 _ rfl
      refine bodyPost_ret (v := .tuple #[.agg #[.int .i64 0, .int .i64 0, .int .i64 0, .int .i64 0, .int .i64 0], .int .i64 3]) (by simp [results, Tryz.results10, go_sem, r0, r1, r2, r3, r4]) rfl ⟨_, by rw [← HX.out]; rfl, f1, f2, f3, by rw [← HX.out]; exact f4, f5, fun g hg => by cases hg⟩
    · have hk27 : (key == 27) = false := by simpa using hk
      rw [if_neg hk] at HX
      clear hk
      cases m
      · skip
        obtain ⟨c0, c1, c2, c3, cf, cb⟩ := cells4p HA.out.hr
        obtain ⟨K, HKE⟩ : ∃ K, Hid (K = ks) := ⟨_, hidIt rfl⟩
        rw [← HKE.out] at HA
        have hpl : (pn : Nat) = K.length := by
          obtain ⟨ao', c', e, _⟩ := HA.out.ki.rds.len
          injection e
        subst hpl
        have hKL : K.length < 17592186044416 := by rw [HKE.out]; have := HL.out; exact this
        go_upto_region 13 with fail
        go_loopw [10, 11] (fun kv iv wr => ∃ (p : Nat) (a : Option Addr) (n c : Nat), p ≤ K.length ∧ iv = .int .i64 p ∧ kv = .slice a n c ∧ Hid (OwnI wr wA.heap.size (.slice a n c) (K.take p)) ∧ Hid (Below wA.heap.size wA wr)) (fun _ iv _ => K.length - (RowKit.intOf iv).toNat)
        case atStart => exact ⟨0, none, 0, 0, Nat.zero_le _, rfl, rfl, OwnI.nil _ _, Below.refl _ _⟩
        case round =>
          obtain ⟨p, a, n, c, hp, rfl, rfl, HO, HBW⟩ := hrel
          have HW := hidIt (HA.out.ext HBW.out)
          obtain ⟨c0, c1, c2, c3, cf, cb⟩ := cells4p HW.out.hr
          by_cases hlt : p < K.length
          · have hltI : (p : Int) < (K.length : Int) := by omega
            obtain ⟨kb, ko, rfl, ck⟩ := rd_at HW.out.ki.rds hlt
            have HN : Hid (K.take (p + 1) = K.take p ++ [K[p]?.getD 0]) := by unfold Hid; rw [List.take_add_one, List.getElem?_eq_getElem hlt]; rfl
            have HTL : Hid ((K.take p).length = p) := by unfold Hid; rw [List.length_take]; omega
            generalize K[p]?.getD 0 = z at ck HN
            obtain ⟨K2, HK2⟩ : ∃ K2, Hid (K2 = K.take (p + 1)) := ⟨_, hidIt rfl⟩
            rw [← HK2.out] at HN
            go_wp2_with (at_builtin; refine wpl_ints rfl _ _ 38 rfl wA.heap.size Tryz.info_i64 Tryz.underlying38 _ (K.take p) rfl (HO.out.ext (ext_alloc (Below.refl _ _) _)) _ [z] rfl (own_lit1 _ _ _ HBW.out.size).rds (by rw [HTL.out]; simp; omega) (Nat.le_trans HBW.out.size (by simp)) ?_; intro v2 w2 own2 hb2; rw [← HN.out] at own2; obtain ⟨ao2, cu2, rfl, _⟩ := own2.rds.len; have HO2 := hidIt own2; have HBB := hidIt ((ext_alloc HBW.out _).trans hb2); clear own2 hb2; (try dsimp only))
            go_roundw
            case rel => exact ⟨p + 1, _, _, _, by omega, by go_num, rfl, by rw [← HK2.out]; exact HO2.out, HBB.out⟩
            case measure => simp [RowKit.intOf]; omega
          · obtain rfl : p = K.length := by omega
            have hge : ¬ (K.length : Int) < (K.length : Int) := by omega
            have HOK : Hid (OwnI wr wA.heap.size (.slice a n c) K) := by have := HO.out; rwa [List.take_length] at this
            obtain ⟨K2, HK2⟩ : ∃ K2, Hid (K2 = K ++ [key]) := ⟨_, hidIt rfl⟩
            rw [show ks ++ [key] = K2 by rw [HK2.out, HKE.out]] at HX
            go_upto_region 17 with (at_builtin; refine wpl_ints rfl _ _ 38 rfl wA.heap.size Tryz.info_i64 Tryz.underlying38 _ K rfl (HOK.out.ext (ext_alloc (Below.refl _ _) _)) _ [key] rfl (own_lit1 _ _ _ HBW.out.size).rds (by simp; omega) (Nat.le_trans HBW.out.size (by simp)) ?_; intro v2 w2 own2 hb2; rw [← HK2.out] at own2; obtain ⟨ao2, cu2, rfl, _⟩ := own2.rds.len; have HO2 := hidIt own2; have HBB := hidIt ((ext_alloc HBW.out _).trans hb2); clear own2 hb2; (try dsimp only))
            have HW2 := hidIt (HA.out.ext HBB.out)
            have HRE := hidIt (r_Reads_any (b := b0) (sl := false) _ K2 w2 HW2.out.t0 HO2.out.rds (by rw [HK2.out]; simp) (by rw [HK2.out, List.length_append, List.length_singleton]; omega))
            generalize dRds false K2 = x9 at HX HRE
            obtain ⟨⟨d0, d1, d2, d3, d4⟩, s9⟩ := x9
            dsimp only at HX HRE
            clear c0 c1 c2 c3 cf cb
            go_upto_region 18 with (go_at_call 22; refine HRE.out.mono ?_; rintro e y9 ⟨rfl, hb9⟩; (try dsimp only); have HB9 := hidIt hb9; clear hb9 HRE)
            obtain ⟨w5, hw5⟩ : ∃ w5, w5 = y9.alloc (.cells #[.int .i64 d0, .int .i64 d1, .int .i64 d2, .int .i64 d3, .int .i64 d4] 33) := ⟨_, rfl⟩
            rw [← hw5]
            have HB5 : Hid (Below w2.heap.size w2 w5) := by unfold Hid; rw [hw5]; exact ext_alloc HB9.out _
            have HC5 : Hid (w5.heap[y9.heap.size]? = some (.cells #[.int .i64 d0, .int .i64 d1, .int .i64 d2, .int .i64 d3, .int .i64 d4] 33 (0, 0))) := by unfold Hid; rw [hw5]; exact heap_alloc_new _ _
            clear hw5 HB9
            generalize y9.heap.size = g5 at HC5 ⊢
            have HW5 := hidIt (HW2.out.ext HB5.out)
            have HK5 : Hid (OwnI w5 0 (.slice ao2 K2.length cu2) K2) := (HO2.out.ext HB5.out).le (Nat.zero_le _)
            obtain ⟨c0, c1, c2, c3, cf, cb⟩ := cells4p HW5.out.hr
            obtain ⟨w6, hw6⟩ : ∃ w6, w6 = w5.setCell ⟨b, 2, none⟩ (.slice none 0 0) := ⟨_, rfl⟩
            have HW6 : Hid (FdG w w6 b b0 b1 false (.slice none 0 0) []) := by unfold Hid; rw [hw6]; exact HW5.out.put (OwnI.nil _ _)
            have hgb : ¬ g5 = b := fun e => by
              have h1 := HC5.out
              rw [e, HW5.out.hr] at h1
              cases h1
            have HKS : Hid (Kps (fun k => k = b) w5 w6) := by unfold Hid; rw [hw6]; exact (set4p HW5.out.hr 2 (.slice none 0 0)).2
            have HC6 := hidIt ((HKS.out.same _ (Array.getElem?_eq_some_iff.1 HC5.out).1 hgb).trans HC5.out)
            have HK6 := hidIt (HK5.out.stay (fun g hg => HKS.out.same g (by obtain ⟨_, cur, hc⟩ := HK5.out.blk hg; exact (Array.getElem?_eq_some_iff.1 hc).1) (fun e => by subst e; obtain ⟨_, cur, hc⟩ := HK5.out.blk hg; rw [HW5.out.hr] at hc; cases hc)))
            go_upto_region 19 with fail
            rw [← hw6]
            clear hw6 c0 c1 c2 c3 cf cb
            by_cases h0 : s9 = 0
            · subst h0
              rw [if_pos rfl] at HX
              obtain ⟨c0, c1, c2, c3, cf, cb⟩ := cells4p HW6.out.hr
              obtain ⟨w7, hw7⟩ : ∃ w7, w7 = w6.setCell ⟨b, 2, none⟩ (.slice ao2 K2.length cu2) := ⟨_, rfl⟩
              have HW7 : Hid (FdG w w7 b b0 b1 false (.slice ao2 K2.length cu2) K2) := by unfold Hid; rw [hw7]; exact HW6.out.put HK6.out
              have HC7 : Hid (w7.heap[g5]? = some (.cells #[.int .i64 d0, .int .i64 d1, .int .i64 d2, .int .i64 d3, .int .i64 d4] 33 (0, 0))) := by unfold Hid; rw [hw7]; exact ((set4p HW6.out.hr 2 (.slice ao2 K2.length cu2)).2.same _ (Array.getElem?_eq_some_iff.1 HC6.out).1 hgb).trans HC6.out
              go_upto_region 21 with fail
              rw [← hw7]
              clear hw7 c0 c1 c2 c3 cf cb
              obtain ⟨_, f0, f1, f2, f3, f4, ff⟩ := cells5 HC7.out
              obtain ⟨_, r0, r1, r2, r3, r4, rf⟩ := cells5 HW7.out.rz
              go_wp2_with fail
              obtain ⟨q1, q2, q3, q4, q5⟩ := HW7.out.fin d0 d1 d2 d3 d4 _ rfl
              refine bodyPost_ret (v := .tuple #[.agg #[.int .i64 d0, .int .i64 d1, .int .i64 d2, .int .i64 d3, .int .i64 d4], .int .i64 0]) (by simp [results, Tryz.results10, go_sem, r0, r1, r2, r3, r4]) rfl ⟨_, by rw [← HX.out], q1, q2, q3, by rw [← HX.out]; exact q4, q5, FdG.nb HA.out.kp.size HO2.out⟩
            · have h0b : (s9 == 0) = false := by simpa using h0
              rw [if_neg h0] at HX
              clear h0
              obtain ⟨_, f0, f1, f2, f3, f4, ff⟩ := cells5 HC6.out
              obtain ⟨_, r0, r1, r2, r3, r4, rf⟩ := cells5 HW6.out.rz
              go_wp2_with fail
              obtain ⟨q1, q2, q3, q4, q5⟩ := HW6.out.fin d0 d1 d2 d3 d4 _ rfl
              refine bodyPost_ret (v := .tuple #[.agg #[.int .i64 d0, .int .i64 d1, .int .i64 d2, .int .i64 d3, .int .i64 d4], .int .i64 s9]) (by simp [results, Tryz.results10, go_sem, r0, r1, r2, r3, r4]) rfl ⟨_, by rw [← HX.out], q1, q2, q3, by rw [← HX.out]; exact q4, q5, fun g hg => by cases hg⟩
      · skip
        obtain ⟨c0, c1, c2, c3, cf, cb⟩ := cells4p HA.out.hr
        obtain ⟨K, HKE⟩ : ∃ K, Hid (K = ks) := ⟨_, hidIt rfl⟩
        rw [← HKE.out] at HA
        have hpl : (pn : Nat) = K.length := by
          obtain ⟨ao', c', e, _⟩ := HA.out.ki.rds.len
          injection e
        subst hpl
        have hKL : K.length < 17592186044416 := by rw [HKE.out]; have := HL.out; exact this
        go_upto_region 13 with fail
        go_loopw [10, 11] (fun kv iv wr => ∃ (p : Nat) (a : Option Addr) (n c : Nat), p ≤ K.length ∧ iv = .int .i64 p ∧ kv = .slice a n c ∧ Hid (OwnI wr wA.heap.size (.slice a n c) (K.take p)) ∧ Hid (Below wA.heap.size wA wr)) (fun _ iv _ => K.length - (RowKit.intOf iv).toNat)
        case atStart => exact ⟨0, none, 0, 0, Nat.zero_le _, rfl, rfl, OwnI.nil _ _, Below.refl _ _⟩
        case round =>
          obtain ⟨p, a, n, c, hp, rfl, rfl, HO, HBW⟩ := hrel
          have HW := hidIt (HA.out.ext HBW.out)
          obtain ⟨c0, c1, c2, c3, cf, cb⟩ := cells4p HW.out.hr
          by_cases hlt : p < K.length
          · have hltI : (p : Int) < (K.length : Int) := by omega
            obtain ⟨kb, ko, rfl, ck⟩ := rd_at HW.out.ki.rds hlt
            have HN : Hid (K.take (p + 1) = K.take p ++ [K[p]?.getD 0]) := by unfold Hid; rw [List.take_add_one, List.getElem?_eq_getElem hlt]; rfl
            have HTL : Hid ((K.take p).length = p) := by unfold Hid; rw [List.length_take]; omega
            generalize K[p]?.getD 0 = z at ck HN
            obtain ⟨K2, HK2⟩ : ∃ K2, Hid (K2 = K.take (p + 1)) := ⟨_, hidIt rfl⟩
            rw [← HK2.out] at HN
            go_wp2_with (at_builtin; refine wpl_ints rfl _ _ 38 rfl wA.heap.size Tryz.info_i64 Tryz.underlying38 _ (K.take p) rfl (HO.out.ext (ext_alloc (Below.refl _ _) _)) _ [z] rfl (own_lit1 _ _ _ HBW.out.size).rds (by rw [HTL.out]; simp; omega) (Nat.le_trans HBW.out.size (by simp)) ?_; intro v2 w2 own2 hb2; rw [← HN.out] at own2; obtain ⟨ao2, cu2, rfl, _⟩ := own2.rds.len; have HO2 := hidIt own2; have HBB := hidIt ((ext_alloc HBW.out _).trans hb2); clear own2 hb2; (try dsimp only))
            go_roundw
            case rel => exact ⟨p + 1, _, _, _, by omega, by go_num, rfl, by rw [← HK2.out]; exact HO2.out, HBB.out⟩
            case measure => simp [RowKit.intOf]; omega
          · obtain rfl : p = K.length := by omega
            have hge : ¬ (K.length : Int) < (K.length : Int) := by omega
            have HOK : Hid (OwnI wr wA.heap.size (.slice a n c) K) := by have := HO.out; rwa [List.take_length] at this
            obtain ⟨K2, HK2⟩ : ∃ K2, Hid (K2 = K ++ [key]) := ⟨_, hidIt rfl⟩
            rw [show ks ++ [key] = K2 by rw [HK2.out, HKE.out]] at HX
            go_upto_region 17 with (at_builtin; refine wpl_ints rfl _ _ 38 rfl wA.heap.size Tryz.info_i64 Tryz.underlying38 _ K rfl (HOK.out.ext (ext_alloc (Below.refl _ _) _)) _ [key] rfl (own_lit1 _ _ _ HBW.out.size).rds (by simp; omega) (Nat.le_trans HBW.out.size (by simp)) ?_; intro v2 w2 own2 hb2; rw [← HK2.out] at own2; obtain ⟨ao2, cu2, rfl, _⟩ := own2.rds.len; have HO2 := hidIt own2; have HBB := hidIt ((ext_alloc HBW.out _).trans hb2); clear own2 hb2; (try dsimp only))
            have HW2 := hidIt (HA.out.ext HBB.out)
            have HRE := hidIt (r_Reads_any (b := b1) (sl := true) _ K2 w2 HW2.out.t1 HO2.out.rds (by rw [HK2.out]; simp) (by rw [HK2.out, List.length_append, List.length_singleton]; omega))
            generalize dRds true K2 = x9 at HX HRE
            obtain ⟨⟨d0, d1, d2, d3, d4⟩, s9⟩ := x9
            dsimp only at HX HRE
            clear c0 c1 c2 c3 cf cb
            go_upto_region 18 with (go_at_call 22; refine HRE.out.mono ?_; rintro e y9 ⟨rfl, hb9⟩; (try dsimp only); have HB9 := hidIt hb9; clear hb9 HRE)
            obtain ⟨w5, hw5⟩ : ∃ w5, w5 = y9.alloc (.cells #[.int .i64 d0, .int .i64 d1, .int .i64 d2, .int .i64 d3, .int .i64 d4] 33) := ⟨_, rfl⟩
            rw [← hw5]
            have HB5 : Hid (Below w2.heap.size w2 w5) := by unfold Hid; rw [hw5]; exact ext_alloc HB9.out _
            have HC5 : Hid (w5.heap[y9.heap.size]? = some (.cells #[.int .i64 d0, .int .i64 d1, .int .i64 d2, .int .i64 d3, .int .i64 d4] 33 (0, 0))) := by unfold Hid; rw [hw5]; exact heap_alloc_new _ _
            clear hw5 HB9
            generalize y9.heap.size = g5 at HC5 ⊢
            have HW5 := hidIt (HW2.out.ext HB5.out)
            have HK5 : Hid (OwnI w5 0 (.slice ao2 K2.length cu2) K2) := (HO2.out.ext HB5.out).le (Nat.zero_le _)
            obtain ⟨c0, c1, c2, c3, cf, cb⟩ := cells4p HW5.out.hr
            obtain ⟨w6, hw6⟩ : ∃ w6, w6 = w5.setCell ⟨b, 2, none⟩ (.slice none 0 0) := ⟨_, rfl⟩
            have HW6 : Hid (FdG w w6 b b0 b1 true (.slice none 0 0) []) := by unfold Hid; rw [hw6]; exact HW5.out.put (OwnI.nil _ _)
            have hgb : ¬ g5 = b := fun e => by
              have h1 := HC5.out
              rw [e, HW5.out.hr] at h1
              cases h1
            have HKS : Hid (Kps (fun k => k = b) w5 w6) := by unfold Hid; rw [hw6]; exact (set4p HW5.out.hr 2 (.slice none 0 0)).2
            have HC6 := hidIt ((HKS.out.same _ (Array.getElem?_eq_some_iff.1 HC5.out).1 hgb).trans HC5.out)
            have HK6 := hidIt (HK5.out.stay (fun g hg => HKS.out.same g (by obtain ⟨_, cur, hc⟩ := HK5.out.blk hg; exact (Array.getElem?_eq_some_iff.1 hc).1) (fun e => by subst e; obtain ⟨_, cur, hc⟩ := HK5.out.blk hg; rw [HW5.out.hr] at hc; cases hc)))
            go_upto_region 19 with fail
            rw [← hw6]
            clear hw6 c0 c1 c2 c3 cf cb
            by_cases h0 : s9 = 0
            · subst h0
              rw [if_pos rfl] at HX
              obtain ⟨c0, c1, c2, c3, cf, cb⟩ := cells4p HW6.out.hr
              obtain ⟨w7, hw7⟩ : ∃ w7, w7 = w6.setCell ⟨b, 2, none⟩ (.slice ao2 K2.length cu2) := ⟨_, rfl⟩
              have HW7 : Hid (FdG w w7 b b0 b1 true (.slice ao2 K2.length cu2) K2) := by unfold Hid; rw [hw7]; exact HW6.out.put HK6.out
              have HC7 : Hid (w7.heap[g5]? = some (.cells #[.int .i64 d0, .int .i64 d1, .int .i64 d2, .int .i64 d3, .int .i64 d4] 33 (0, 0))) := by unfold Hid; rw [hw7]; exact ((set4p HW6.out.hr 2 (.slice ao2 K2.length cu2)).2.same _ (Array.getElem?_eq_some_iff.1 HC6.out).1 hgb).trans HC6.out
              go_upto_region 21 with fail
              rw [← hw7]
              clear hw7 c0 c1 c2 c3 cf cb
              obtain ⟨_, f0, f1, f2, f3, f4, ff⟩ := cells5 HC7.out
              obtain ⟨_, r0, r1, r2, r3, r4, rf⟩ := cells5 HW7.out.rz
              go_wp2_with fail
              obtain ⟨q1, q2, q3, q4, q5⟩ := HW7.out.fin d0 d1 d2 d3 d4 _ rfl
              refine bodyPost_ret (v := .tuple #[.agg #[.int .i64 d0, .int .i64 d1, .int .i64 d2, .int .i64 d3, .int .i64 d4], .int .i64 0]) (by simp [results, Tryz.results10, go_sem, r0, r1, r2, r3, r4]) rfl ⟨_, by rw [← HX.out], q1, q2, q3, by rw [← HX.out]; exact q4, q5, FdG.nb HA.out.kp.size HO2.out⟩
            · have h0b : (s9 == 0) = false := by simpa using h0
              rw [if_neg h0] at HX
              clear h0
              obtain ⟨_, f0, f1, f2, f3, f4, ff⟩ := cells5 HC6.out
              obtain ⟨_, r0, r1, r2, r3, r4, rf⟩ := cells5 HW6.out.rz
              go_wp2_with fail
              obtain ⟨q1, q2, q3, q4, q5⟩ := HW6.out.fin d0 d1 d2 d3 d4 _ rfl
              refine bodyPost_ret (v := .tuple #[.agg #[.int .i64 d0, .int .i64 d1, .int .i64 d2, .int .i64 d3, .int .i64 d4], .int .i64 s9]) (by simp [results, Tryz.results10, go_sem, r0, r1, r2, r3, r4]) rfl ⟨_, by rw [← HX.out], q1, q2, q3, by rw [← HX.out]; exact q4, q5, fun g hg => by cases hg⟩
  · have hne : (m == sl) = false := by simpa using hms
    rw [if_neg hms] at HX
    clear hms
    obtain ⟨wA, hwA⟩ : ∃ wA, wA = (w0.setCell ⟨b, 2, none⟩ (.slice none 0 0)).setCell ⟨b, 3, none⟩ (.bool m) := ⟨_, rfl⟩
    have HN0 := hidIt (HF0.out.put (OwnI.nil _ _))
    have HA : Hid (FdG w wA b b0 b1 m (.slice none 0 0) []) := by unfold Hid; rw [hwA]; exact HN0.out.sel m
    go_upto_region 5 with (go_at_call 21; refine (HSL.out _).mono ?_; rintro e y ⟨rfl, hy⟩; rw [hy]; clear hy; (try dsimp only))
    rw [← hwA]
    clear hwA HF0 HN0 c0 c1 c2 c3 cf cb
    by_cases hk : key = 27
    · have hk27 : (key == 27) = true := by simpa using hk
      rw [if_pos hk] at HX
      clear hk
      obtain ⟨c0, c1, c2, c3, cf, cb⟩ := cells4p HA.out.hr
      obtain ⟨wB, hwB⟩ : ∃ wB, wB = wA.setCell ⟨b, 2, none⟩ (.slice none 0 0) := ⟨_, rfl⟩
      have HB : Hid (FdG w wB b b0 b1 m (.slice none 0 0) []) := by unfold Hid; rw [hwB]; exact HA.out.put (OwnI.nil _ _)
      go_upto_region 7 with fail
      rw [← hwB]
      clear hwB c0 c1 c2 c3 cf cb
      obtain ⟨_, r0, r1, r2, r3, r4, rf⟩ := cells5 HB.out.rz
      go_wp2_with fail
      obtain ⟨f1, f2, f3, f4, f5⟩ := HB.out.fin 0 0 0 0 0 _ rfl
      refine bodyPost_ret (v := .tuple #[.agg #[.int .i64 0, .int .i64 0, .int .i64 0, .int .i64 0, .int .i64 0], .int .i64 3]) (by simp [results, Tryz.results10, go_sem, r0, r1, r2, r3, r4]) rfl ⟨_, by rw [← HX.out]; rfl, f1, f2, f3, by rw [← HX.out]; exact f4, f5, fun g hg => by cases hg⟩
    · have hk27 : (key == 27) = false := by simpa using hk
      rw [if_neg hk] at HX
      clear hk
      cases m
      · skip
        obtain ⟨c0, c1, c2, c3, cf, cb⟩ := cells4p HA.out.hr
        obtain ⟨K, HKE⟩ : ∃ K, Hid (K = ([] : List Int)) := ⟨_, hidIt rfl⟩
        rw [← HKE.out] at HA
        have hpl : (0 : Nat) = K.length := by
          obtain ⟨ao', c', e, _⟩ := HA.out.ki.rds.len
          injection e
        have HKN : Hid (K.length = 0) := hpl.symm
        clear hpl
        have hKL : K.length < 17592186044416 := by rw [HKE.out]; have := HL.out; simp
        go_upto_region 13 with fail
        go_loopw [10, 11] (fun kv iv wr => ∃ (p : Nat) (a : Option Addr) (n c : Nat), p ≤ K.length ∧ iv = .int .i64 p ∧ kv = .slice a n c ∧ Hid (OwnI wr wA.heap.size (.slice a n c) (K.take p)) ∧ Hid (Below wA.heap.size wA wr)) (fun _ iv _ => K.length - (RowKit.intOf iv).toNat)
        case atStart => exact ⟨0, none, 0, 0, Nat.zero_le _, rfl, rfl, OwnI.nil _ _, Below.refl _ _⟩
        case round =>
          obtain ⟨p, a, n, c, hp, rfl, rfl, HO, HBW⟩ := hrel
          have HW := hidIt (HA.out.ext HBW.out)
          obtain ⟨c0, c1, c2, c3, cf, cb⟩ := cells4p HW.out.hr
          by_cases hlt : p < K.length
          · have hltI : (p : Int) < (K.length : Int) := by omega
            exact absurd hlt (by have := HKN.out; omega)
          · obtain rfl : p = K.length := by omega
            have hge : ¬ (K.length : Int) < 0 := by omega
            have HOK : Hid (OwnI wr wA.heap.size (.slice a n c) K) := by have := HO.out; rwa [List.take_length] at this
            obtain ⟨K2, HK2⟩ : ∃ K2, Hid (K2 = K ++ [key]) := ⟨_, hidIt rfl⟩
            rw [show ([] : List Int) ++ [key] = K2 by rw [HK2.out, HKE.out]] at HX
            go_upto_region 17 with (at_builtin; refine wpl_ints rfl _ _ 38 rfl wA.heap.size Tryz.info_i64 Tryz.underlying38 _ K rfl (HOK.out.ext (ext_alloc (Below.refl _ _) _)) _ [key] rfl (own_lit1 _ _ _ HBW.out.size).rds (by simp; omega) (Nat.le_trans HBW.out.size (by simp)) ?_; intro v2 w2 own2 hb2; rw [← HK2.out] at own2; obtain ⟨ao2, cu2, rfl, _⟩ := own2.rds.len; have HO2 := hidIt own2; have HBB := hidIt ((ext_alloc HBW.out _).trans hb2); clear own2 hb2; (try dsimp only))
            have HW2 := hidIt (HA.out.ext HBB.out)
            have HRE := hidIt (r_Reads_any (b := b0) (sl := false) _ K2 w2 HW2.out.t0 HO2.out.rds (by rw [HK2.out]; simp) (by rw [HK2.out, List.length_append, List.length_singleton]; omega))
            generalize dRds false K2 = x9 at HX HRE
            obtain ⟨⟨d0, d1, d2, d3, d4⟩, s9⟩ := x9
            dsimp only at HX HRE
            clear c0 c1 c2 c3 cf cb
            go_upto_region 18 with (go_at_call 22; refine HRE.out.mono ?_; rintro e y9 ⟨rfl, hb9⟩; (try dsimp only); have HB9 := hidIt hb9; clear hb9 HRE)
            obtain ⟨w5, hw5⟩ : ∃ w5, w5 = y9.alloc (.cells #[.int .i64 d0, .int .i64 d1, .int .i64 d2, .int .i64 d3, .int .i64 d4] 33) := ⟨_, rfl⟩
            rw [← hw5]
            have HB5 : Hid (Below w2.heap.size w2 w5) := by unfold Hid; rw [hw5]; exact ext_alloc HB9.out _
            have HC5 : Hid (w5.heap[y9.heap.size]? = some (.cells #[.int .i64 d0, .int .i64 d1, .int .i64 d2, .int .i64 d3, .int .i64 d4] 33 (0, 0))) := by unfold Hid; rw [hw5]; exact heap_alloc_new _ _
            clear hw5 HB9
            generalize y9.heap.size = g5 at HC5 ⊢
            have HW5 := hidIt (HW2.out.ext HB5.out)
            have HK5 : Hid (OwnI w5 0 (.slice ao2 K2.length cu2) K2) := (HO2.out.ext HB5.out).le (Nat.zero_le _)
            obtain ⟨c0, c1, c2, c3, cf, cb⟩ := cells4p HW5.out.hr
            obtain ⟨w6, hw6⟩ : ∃ w6, w6 = w5.setCell ⟨b, 2, none⟩ (.slice none 0 0) := ⟨_, rfl⟩
            have HW6 : Hid (FdG w w6 b b0 b1 false (.slice none 0 0) []) := by unfold Hid; rw [hw6]; exact HW5.out.put (OwnI.nil _ _)
            have hgb : ¬ g5 = b := fun e => by
              have h1 := HC5.out
              rw [e, HW5.out.hr] at h1
              cases h1
            have HKS : Hid (Kps (fun k => k = b) w5 w6) := by unfold Hid; rw [hw6]; exact (set4p HW5.out.hr 2 (.slice none 0 0)).2
            have HC6 := hidIt ((HKS.out.same _ (Array.getElem?_eq_some_iff.1 HC5.out).1 hgb).trans HC5.out)
            have HK6 := hidIt (HK5.out.stay (fun g hg => HKS.out.same g (by obtain ⟨_, cur, hc⟩ := HK5.out.blk hg; exact (Array.getElem?_eq_some_iff.1 hc).1) (fun e => by subst e; obtain ⟨_, cur, hc⟩ := HK5.out.blk hg; rw [HW5.out.hr] at hc; cases hc)))
            go_upto_region 19 with fail
            rw [← hw6]
            clear hw6 c0 c1 c2 c3 cf cb
            by_cases h0 : s9 = 0
            · subst h0
              rw [if_pos rfl] at HX
              obtain ⟨c0, c1, c2, c3, cf, cb⟩ := cells4p HW6.out.hr
              obtain ⟨w7, hw7⟩ : ∃ w7, w7 = w6.setCell ⟨b, 2, none⟩ (.slice ao2 K2.length cu2) := ⟨_, rfl⟩
              have HW7 : Hid (FdG w w7 b b0 b1 false (.slice ao2 K2.length cu2) K2) := by unfold Hid; rw [hw7]; exact HW6.out.put HK6.out
              have HC7 : Hid (w7.heap[g5]? = some (.cells #[.int .i64 d0, .int .i64 d1, .int .i64 d2, .int .i64 d3, .int .i64 d4] 33 (0, 0))) := by unfold Hid; rw [hw7]; exact ((set4p HW6.out.hr 2 (.slice ao2 K2.length cu2)).2.same _ (Array.getElem?_eq_some_iff.1 HC6.out).1 hgb).trans HC6.out
              go_upto_region 21 with fail
              rw [← hw7]
              clear hw7 c0 c1 c2 c3 cf cb
              obtain ⟨_, f0, f1, f2, f3, f4, ff⟩ := cells5 HC7.out
              obtain ⟨_, r0, r1, r2, r3, r4, rf⟩ := cells5 HW7.out.rz
              go_wp2_with fail
              obtain ⟨q1, q2, q3, q4, q5⟩ := HW7.out.fin d0 d1 d2 d3 d4 _ rfl
              refine bodyPost_ret (v := .tuple #[.agg #[.int .i64 d0, .int .i64 d1, .int .i64 d2, .int .i64 d3, .int .i64 d4], .int .i64 0]) (by simp [results, Tryz.results10, go_sem, r0, r1, r2, r3, r4]) rfl ⟨_, by rw [← HX.out], q1, q2, q3, by rw [← HX.out]; exact q4, q5, FdG.nb HA.out.kp.size HO2.out⟩
            · have h0b : (s9 == 0) = false := by simpa using h0
              rw [if_neg h0] at HX
              clear h0
              obtain ⟨_, f0, f1, f2, f3, f4, ff⟩ := cells5 HC6.out
              obtain ⟨_, r0, r1, r2, r3, r4, rf⟩ := cells5 HW6.out.rz
              go_wp2_with fail
              obtain ⟨q1, q2, q3, q4, q5⟩ := HW6.out.fin d0 d1 d2 d3 d4 _ rfl
              refine bodyPost_ret (v := .tuple #[.agg #[.int .i64 d0, .int .i64 d1, .int .i64 d2, .int .i64 d3, .int .i64 d4], .int .i64 s9]) (by simp [results, Tryz.results10, go_sem, r0, r1, r2, r3, r4]) rfl ⟨_, by rw [← HX.out], q1, q2, q3, by rw [← HX.out]; exact q4, q5, fun g hg => by cases hg⟩
      · skip
        obtain ⟨c0, c1, c2, c3, cf, cb⟩ := cells4p HA.out.hr
        obtain ⟨K, HKE⟩ : ∃ K, Hid (K = ([] : List Int)) := ⟨_, hidIt rfl⟩
        rw [← HKE.out] at HA
        have hpl : (0 : Nat) = K.length := by
          obtain ⟨ao', c', e, _⟩ := HA.out.ki.rds.len
          injection e
        have HKN : Hid (K.length = 0) := hpl.symm
        clear hpl
        have hKL : K.length < 17592186044416 := by rw [HKE.out]; have := HL.out; simp
        go_upto_region 13 with fail
        go_loopw [10, 11] (fun kv iv wr => ∃ (p : Nat) (a : Option Addr) (n c : Nat), p ≤ K.length ∧ iv = .int .i64 p ∧ kv = .slice a n c ∧ Hid (OwnI wr wA.heap.size (.slice a n c) (K.take p)) ∧ Hid (Below wA.heap.size wA wr)) (fun _ iv _ => K.length - (RowKit.intOf iv).toNat)
        case atStart => exact ⟨0, none, 0, 0, Nat.zero_le _, rfl, rfl, OwnI.nil _ _, Below.refl _ _⟩
        case round =>
          obtain ⟨p, a, n, c, hp, rfl, rfl, HO, HBW⟩ := hrel
          have HW := hidIt (HA.out.ext HBW.out)
          obtain ⟨c0, c1, c2, c3, cf, cb⟩ := cells4p HW.out.hr
          by_cases hlt : p < K.length
          · have hltI : (p : Int) < (K.length : Int) := by omega
            exact absurd hlt (by have := HKN.out; omega)
          · obtain rfl : p = K.length := by omega
            have hge : ¬ (K.length : Int) < 0 := by omega
            have HOK : Hid (OwnI wr wA.heap.size (.slice a n c) K) := by have := HO.out; rwa [List.take_length] at this
            obtain ⟨K2, HK2⟩ : ∃ K2, Hid (K2 = K ++ [key]) := ⟨_, hidIt rfl⟩
            rw [show ([] : List Int) ++ [key] = K2 by rw [HK2.out, HKE.out]] at HX
            go_upto_region 17 with (at_builtin; refine wpl_ints rfl _ _ 38 rfl wA.heap.size Tryz.info_i64 Tryz.underlying38 _ K rfl (HOK.out.ext (ext_alloc (Below.refl _ _) _)) _ [key] rfl (own_lit1 _ _ _ HBW.out.size).rds (by simp; omega) (Nat.le_trans HBW.out.size (by simp)) ?_; intro v2 w2 own2 hb2; rw [← HK2.out] at own2; obtain ⟨ao2, cu2, rfl, _⟩ := own2.rds.len; have HO2 := hidIt own2; have HBB := hidIt ((ext_alloc HBW.out _).trans hb2); clear own2 hb2; (try dsimp only))
            have HW2 := hidIt (HA.out.ext HBB.out)
            have HRE := hidIt (r_Reads_any (b := b1) (sl := true) _ K2 w2 HW2.out.t1 HO2.out.rds (by rw [HK2.out]; simp) (by rw [HK2.out, List.length_append, List.length_singleton]; omega))
            generalize dRds true K2 = x9 at HX HRE
            obtain ⟨⟨d0, d1, d2, d3, d4⟩, s9⟩ := x9
            dsimp only at HX HRE
            clear c0 c1 c2 c3 cf cb
            go_upto_region 18 with (go_at_call 22; refine HRE.out.mono ?_; rintro e y9 ⟨rfl, hb9⟩; (try dsimp only); have HB9 := hidIt hb9; clear hb9 HRE)
            obtain ⟨w5, hw5⟩ : ∃ w5, w5 = y9.alloc (.cells #[.int .i64 d0, .int .i64 d1, .int .i64 d2, .int .i64 d3, .int .i64 d4] 33) := ⟨_, rfl⟩
            rw [← hw5]
            have HB5 : Hid (Below w2.heap.size w2 w5) := by unfold Hid; rw [hw5]; exact ext_alloc HB9.out _
            have HC5 : Hid (w5.heap[y9.heap.size]? = some (.cells #[.int .i64 d0, .int .i64 d1, .int .i64 d2, .int .i64 d3, .int .i64 d4] 33 (0, 0))) := by unfold Hid; rw [hw5]; exact heap_alloc_new _ _
            clear hw5 HB9
            generalize y9.heap.size = g5 at HC5 ⊢
            have HW5 := hidIt (HW2.out.ext HB5.out)
            have HK5 : Hid (OwnI w5 0 (.slice ao2 K2.length cu2) K2) := (HO2.out.ext HB5.out).le (Nat.zero_le _)
            obtain ⟨c0, c1, c2, c3, cf, cb⟩ := cells4p HW5.out.hr
            obtain ⟨w6, hw6⟩ : ∃ w6, w6 = w5.setCell ⟨b, 2, none⟩ (.slice none 0 0) := ⟨_, rfl⟩
            have HW6 : Hid (FdG w w6 b b0 b1 true (.slice none 0 0) []) := by unfold Hid; rw [hw6]; exact HW5.out.put (OwnI.nil _ _)
            have hgb : ¬ g5 = b := fun e => by
              have h1 := HC5.out
              rw [e, HW5.out.hr] at h1
              cases h1
            have HKS : Hid (Kps (fun k => k = b) w5 w6) := by unfold Hid; rw [hw6]; exact (set4p HW5.out.hr 2 (.slice none 0 0)).2
            have HC6 := hidIt ((HKS.out.same _ (Array.getElem?_eq_some_iff.1 HC5.out).1 hgb).trans HC5.out)
            have HK6 := hidIt (HK5.out.stay (fun g hg => HKS.out.same g (by obtain ⟨_, cur, hc⟩ := HK5.out.blk hg; exact (Array.getElem?_eq_some_iff.1 hc).1) (fun e => by subst e; obtain ⟨_, cur, hc⟩ := HK5.out.blk hg; rw [HW5.out.hr] at hc; cases hc)))
            go_upto_region 19 with fail
            rw [← hw6]
            clear hw6 c0 c1 c2 c3 cf cb
            by_cases h0 : s9 = 0
            · subst h0
              rw [if_pos rfl] at HX
              obtain ⟨c0, c1, c2, c3, cf, cb⟩ := cells4p HW6.out.hr
              obtain ⟨w7, hw7⟩ : ∃ w7, w7 = w6.setCell ⟨b, 2, none⟩ (.slice ao2 K2.length cu2) := ⟨_, rfl⟩
              have HW7 : Hid (FdG w w7 b b0 b1 true (.slice ao2 K2.length cu2) K2) := by unfold Hid; rw [hw7]; exact HW6.out.put HK6.out
              have HC7 : Hid (w7.heap[g5]? = some (.cells #[.int .i64 d0, .int .i64 d1, .int .i64 d2, .int .i64 d3, .int .i64 d4] 33 (0, 0))) := by unfold Hid; rw [hw7]; exact ((set4p HW6.out.hr 2 (.slice ao2 K2.length cu2)).2.same _ (Array.getElem?_eq_some_iff.1 HC6.out).1 hgb).trans HC6.out
              go_upto_region 21 with fail
              rw [← hw7]
              clear hw7 c0 c1 c2 c3 cf cb
              obtain ⟨_, f0, f1, f2, f3, f4, ff⟩ := cells5 HC7.out
              obtain ⟨_, r0, r1, r2, r3, r4, rf⟩ := cells5 HW7.out.rz
              go_wp2_with fail
              obtain ⟨q1, q2, q3, q4, q5⟩ := HW7.out.fin d0 d1 d2 d3 d4 _ rfl
              refine bodyPost_ret (v := .tuple #[.agg #[.int .i64 d0, .int .i64 d1, .int .i64 d2, .int .i64 d3, .int .i64 d4], .int .i64 0]) (by simp [results, Tryz.results10, go_sem, r0, r1, r2, r3, r4]) rfl ⟨_, by rw [← HX.out], q1, q2, q3, by rw [← HX.out]; exact q4, q5, FdG.nb HA.out.kp.size HO2.out⟩
            · have h0b : (s9 == 0) = false := by simpa using h0
              rw [if_neg h0] at HX
              clear h0
              obtain ⟨_, f0, f1, f2, f3, f4, ff⟩ := cells5 HC6.out
              obtain ⟨_, r0, r1, r2, r3, r4, rf⟩ := cells5 HW6.out.rz
              go_wp2_with fail
              obtain ⟨q1, q2, q3, q4, q5⟩ := HW6.out.fin d0 d1 d2 d3 d4 _ rfl
              refine bodyPost_ret (v := .tuple #[.agg #[.int .i64 d0, .int .i64 d1, .int .i64 d2, .int .i64 d3, .int .i64 d4], .int .i64 s9]) (by simp [results, Tryz.results10, go_sem, r0, r1, r2, r3, r4]) rfl ⟨_, by rw [← HX.out], q1, q2, q3, by rw [← HX.out]; exact q4, q5, fun g hg => by cases hg⟩
end Go.Proofs.YtfdceljdhgbkcaaGreatDoor
