import Derived.Test.YtmfbobibpebfnaaGreatJ21
/- crowded: five more streams, each with the document's. -/
namespace Go.Proofs.YtmfbobibpebfnaaGreat
open Go.RowKit

/-- What crowded leaves. -/
def CrR (w : World) (N : Nat → Prop) (S T : Option Pq) (e : Ending) (w' : World) : Prop :=
  ∃ c C sv rv N', e = .returned (.tuple #[.pointer (some ⟨c, 0, none⟩), .bool true]) ∧ Cwd w.heap.size w' c C sv rv ∧ CwN N' c sv rv ∧ Crw w' N' (LL S T C) ∧ (∀ k, N k → N' k) ∧ Kps (fun k => ¬ N k) w w' ∧ C.length ≤ 5 ∧ ∀ p ∈ C, p.all.length ≤ 3
/-- On the way. -/
structure Cw (w : World) (N : Nat → Prop) (S T : Option Pq) (c j : Nat) (y : World) (C : List Pq) (sv rv : Value) (N' : Nat → Prop) : Prop where
  cd : Cwd w.heap.size y c C sv rv
  cn : CwN N' c sv rv
  cr : Crw y N' (LL S T C)
  up : ∀ k, N k → N' k
  kp : Kps (fun k => ¬ N k) w y
  lo : ∀ k, N k → k < w.heap.size
  ln : C.length ≤ j
  sm : ∀ p ∈ C, p.all.length ≤ 3
section
variable {w y y' : World} {N N' : Nat → Prop} {S T : Option Pq} {c j : Nat} {C : List Pq} {sv rv : Value}
theorem Cw.ext (h : Cw w N S T c j y C sv rv N') (hb : Below y.heap.size y y') : Cw w N S T c j y' C sv rv N' :=
  ⟨h.cd.ext hb, h.cn, h.cr.ext hb, h.up, h.kp.trans (Kps.of_below (fun _ => False) hb) (fun _ _ e => e.elim), h.lo, h.ln, h.sm⟩
theorem Cw.less (h : Cw w N S T c j y C sv rv N') {j' : Nat} (hj : j ≤ j') : Cw w N S T c j' y C sv rv N' := ⟨h.cd, h.cn, h.cr, h.up, h.kp, h.lo, Nat.le_trans h.ln hj, h.sm⟩
end
theorem info_sp : (Tryz.prog.info? 23).map (fun i => (i.zero, i.size, i.bytes)) = some (some (.pointer none), 1, 8) := by kernel_rfl
theorem info_rp : (Tryz.prog.info? 27).map (fun i => (i.zero, i.size, i.bytes)) = some (some (.pointer none), 1, 8) := by kernel_rfl
theorem one_ptr (a : Option Addr) : ∀ u ∈ [Value.pointer a], u.oneCell' = true := by intro u hu; simp at hu; subst hu; rfl
theorem rd_lit (k : IntKind) (w : World) (e : TypeId) (zs : List Int) (hl : zs.length ≤ maxLen) : Rd k (w.alloc (.cells (zs.map (Value.int k)).toArray e)) (.slice (some ⟨w.heap.size, 0, none⟩) zs.length zs.length) zs := by
  refine ⟨_, _, rfl, Nat.le_refl _, hl, fun _ => ⟨_, 0, rfl, by simp, fun i hi => ?_⟩⟩
  rw [Nat.zero_add, cell_of_row _ _ _ _ _ _ (heap_alloc_new _ _)]
  simp [hi]
/-- The pair that joins the crowd: fed with three bytes. -/
theorem Cw.join {w y y1 y2 y3 y4 : World} {N N' : Nat → Prop} {S T : Option Pq} {c j : Nat} {C : List Pq} {sv rv : Value} {K : Int} {d : List Int} (h : Cw w N S T c j y C sv rv N') (hb2 : Below y.heap.size y y2) (hp : Pr (fun k => y.heap.size ≤ k) y2 y.heap.size y1.heap.size K [])
    (hb3 : Below y2.heap.size y2 y3) (hs3 : y2.heap.size < y3.heap.size) (hb4 : Below y3.heap.size y3 y4) :
    ∃ P : Nat → Prop, Pr P y4 y.heap.size y1.heap.size K [] ∧ (∀ k, P k → k < y4.heap.size ∧ k ≠ y2.heap.size) ∧ ∀ y6, Kps P y4 y6 → Pr (fun k => P k ∨ y4.heap.size ≤ k) y6 y.heap.size y1.heap.size K d → ∃ N3, Cwd w.heap.size y6 c C sv rv ∧ CwN N3 c sv rv ∧ Crw y6 N3 (LL S T (C ++ [(Pq.mk y.heap.size y1.heap.size K d)])) ∧ (∀ k, N k → N3 k) ∧ Kps (fun k => ¬ N k) w y6 := by
  have x2 : Crw y2 N' (LL S T (C ++ [(Pq.mk y.heap.size y1.heap.size K [])])) := (h.cr.new (C.length + 2) hb2 (Pq.mk y.heap.size y1.heap.size K []) hp).same (LL_push S T C _)
  have x4 : Crw y4 (fun k => N' k ∨ k = y2.heap.size) (LL S T (C ++ [(Pq.mk y.heap.size y1.heap.size K [])])) := by
    refine Crw.ext (x2.turn (Kps.of_below _ hb3) (fun k e => ?_)) hb4
    rcases e with e | e
    · exact ⟨.inl e, Nat.lt_of_lt_of_le (x2.1 k e) hb3.size⟩
    · subst e; exact ⟨.inr (Nat.le_refl _), hs3⟩
  obtain ⟨P, p1, p2, p3, p4⟩ := x4.at (C.length + 2) (Pq.mk y.heap.size y1.heap.size K []) (by simp [LL])
  refine ⟨P, p1, fun k e => ⟨p2 k e, fun e2 => p3 k e (.inr e2)⟩, fun y6 k6 q6 => ⟨fun k => N' k ∨ k = y2.heap.size, ?_, h.cn.mono (fun k e => .inl e), ((p4 y6 (Pq.mk y.heap.size y1.heap.size K d) k6 q6).same (L' := LL S T ((C ++ [(Pq.mk y.heap.size y1.heap.size K [])]).set C.length (Pq.mk y.heap.size y1.heap.size K d))) (LL_set S T _ C.length _)).same (fun i r e => by rw [List.set_append_right _ _ (Nat.le_refl _)]; simpa using e), fun k e => .inl (h.up k e), ?_⟩⟩
  · exact (h.cd.ext (ext_trans hb2 (ext_trans hb3 hb4))).kps h.cn k6 (fun i e e2 => p3 i e2 (.inl e))
  · exact (h.kp.trans (Kps.of_below (fun _ => False) (ext_trans hb2 (ext_trans hb3 hb4))) (fun _ _ e => e.elim)).trans k6 (fun i _ e e2 => p3 i e (.inl (h.up i e2)))
/-- It stands in the crowd's rows. -/
theorem cw_done {w y7 z1 z2 : World} {N N3 : Nat → Prop} {S T : Option Pq} {c j : Nat} {C : List Pq} {p : Pq} {sv rv s9 r9 : Value} (lo : ∀ k, N k → k < w.heap.size) (ln : C.length ≤ j) (sm : ∀ p ∈ C, p.all.length ≤ 3) (hp : p.all.length ≤ 3)
    (cd : Cwd w.heap.size y7 c C sv rv) (cn : CwN N3 c sv rv) (cr : Crw y7 N3 (LL S T (C ++ [p]))) (up : ∀ k, N k → N3 k) (kp : Kps (fun k => ¬ N k) w y7)
    (g2 : Cwg w.heap.size z2 c ((C.map fun p => .pointer (some ⟨p.g, 0, none⟩)) ++ [.pointer (some ⟨p.g, 0, none⟩)]) ((C.map fun p => .pointer (some ⟨p.q, 0, none⟩)) ++ [.pointer (some ⟨p.q, 0, none⟩)]) s9 r9) (k1 : Kps (fun k => k = c ∨ sv.ownBlock = some k) y7 z1) (k2 : Kps (fun k => k = c ∨ rv.ownBlock = some k) z1 z2) (hs : s9.ownBlock = sv.ownBlock ∨ ∀ k, s9.ownBlock = some k → y7.heap.size ≤ k) (hr : r9.ownBlock = rv.ownBlock ∨ ∀ k, r9.ownBlock = some k → y7.heap.size ≤ k) :
    ∃ sv' rv' N', Cw w N S T c (j + 1) z2 (C ++ [p]) sv' rv' N' ∧ sv' = s9 ∧ rv' = r9 := by
  have kk : Kps N3 y7 z2 := (k1.mono (fun k _ e => e.elim (fun e => e ▸ cn.1) (fun e => cn.2.1 k e))).trans k2 (fun k _ e => e.elim (fun e => e ▸ cn.1) (fun e => cn.2.2 k e))
  have hx := cr.1
  have kq : Kps (fun k => ¬ N k) y7 z2 := (k1.mono (fun k _ e en => e.elim (fun e => by have := lo k en; have := cd.2.1; omega) (fun e => by have := lo k en; have := (own_blk cd.2.2.1 e).1; omega))).trans k2 (fun k _ e en => e.elim (fun e => by have := lo k en; have := cd.2.1; omega) (fun e => by have := lo k en; have := (own_blk cd.2.2.2 e).1; omega))
  refine ⟨s9, r9, fun k => N3 k ∨ (y7.heap.size ≤ k ∧ k < z2.heap.size), ⟨⟨g2.1, g2.2.1, ?_, ?_⟩, ⟨.inl cn.1, fun k e => ?_, fun k e => ?_⟩, cr.turn kk (fun k e => ?_), fun k e => .inl (up k e), kp.trans kq (fun _ _ e => e), lo, by rw [List.length_append]; simpa using ln, ?_⟩, rfl, rfl⟩
  · have := g2.2.2.1
    simpa using this
  · have := g2.2.2.2
    simpa using this
  · rcases hs with h | h
    · exact .inl (cn.2.1 k (h ▸ e))
    · exact .inr ⟨h k e, own_lt g2.2.2.1 e⟩
  · rcases hr with h | h
    · exact .inl (cn.2.2 k (h ▸ e))
    · exact .inr ⟨h k e, own_lt g2.2.2.2 e⟩
  · rcases e with e | e
    · exact ⟨.inl e, Nat.lt_of_lt_of_le (hx k e) kk.size⟩
    · exact ⟨.inr e.1, e.2⟩
  · intro r hr
    rcases List.mem_append.1 hr with h | h
    · exact sm r h
    · rw [List.mem_singleton.1 h]; exact hp

set_option maxRecDepth 100000 in
set_option maxHeartbeats 16000000 in
theorem crowded_any (w : World) (N : Nat → Prop) (S T : Option Pq) (enc : Int) (h : Crw w N (LL S T [])) : Calls Tryz.prog 7 #[.int .i64 enc] w fun e w' => CrR w N S T e w' := by
  obtain ⟨i1, hi1, hy0, hy1, hy2⟩ := info_parts info_sp
  obtain ⟨i2, hi2, hx0, hx1, hx2⟩ := info_parts info_rp
  obtain ⟨w0, hw0⟩ : ∃ w0, w0 = w.alloc (.cells #[.slice none 0 0, .slice none 0 0] 58) := ⟨_, rfl⟩
  have hb0 : Below w.heap.size w w0 := by rw [hw0]; exact ext_alloc (Below.refl _ _) _
  have hc0 : w0.heap[w.heap.size]? = some (.cells #[.slice none 0 0, .slice none 0 0] 58 (0, 0)) := by rw [hw0]; exact heap_alloc_new _ _
  have hsz : w.heap.size < w0.heap.size := (Array.getElem?_eq_some_iff.1 hc0).1
  have HC0 : Hid (Cw w N S T w.heap.size 0 w0 [] (.slice none 0 0) (.slice none 0 0) (fun k => N k ∨ k = w.heap.size)) := ⟨⟨hc0, Nat.le_refl _, ⟨rfl, .inl ⟨rfl, rfl⟩⟩, ⟨rfl, .inl ⟨rfl, rfl⟩⟩⟩, ⟨.inr rfl, (fun k e => by cases e), (fun k e => by cases e)⟩, h.turn (Kps.of_below _ hb0) (fun k e => e.elim (fun e => ⟨.inl e, by have := h.1 k e; omega⟩) (fun e => ⟨.inr (by omega), by omega⟩)), fun k e => .inl e, Kps.of_below _ hb0, h.1, Nat.le_refl _, (fun p e => by cases e)⟩
  have HEN : Hid (∀ (C : List Pq) (sv rv : Value) (N' : Nat → Prop) (y : World), Cw w N S T w.heap.size 5 y C sv rv N' → CrR w N S T (.returned (.tuple #[.pointer (some ⟨w.heap.size, 0, none⟩), .bool true])) y) := fun C sv rv N' y c => ⟨_, C, sv, rv, N', rfl, c.cd, c.cn, c.cr, c.up, c.kp, c.ln, c.sm⟩
  clear h hb0 hc0 hsz
  go_enter Tryz.func7, Tryz.ntmps7
  go_upto_region 2 with fail
  rw [← hw0]
  clear hw0
  go_wp2_with fail
  go_loopw [5] (fun i wr => ∃ (j : Nat) (C : List Pq) (sv rv : Value) (N' : Nat → Prop), j ≤ 5 ∧ i = .int .i64 j ∧ Hid (Cw w N S T w.heap.size j wr C sv rv N')) (fun i _ => 5 - (intOf i).toNat)
  case atStart => exact ⟨0, [], _, _, _, by omega, rfl, HC0.out⟩
  case round =>
    obtain ⟨j, C, sv, rv, N', hj, rfl, HCW⟩ := hrel
    clear HC0
    by_cases hj5 : j < 5
    · have hd1 : decide ((j : Int) < 5) = true := by simp; omega
      have s1 : IntKind.i64.wrap (226 - (j : Int)) = 226 - (j : Int) := by rw [IntKind.wrap_i64]; omega
      have s2 : IntKind.i64.wrap (129 + (j : Int)) = 129 + (j : Int) := by rw [IntKind.wrap_i64]; omega
      have s3 : IntKind.u8.wrap (226 - (j : Int)) = 226 - (j : Int) := by rw [IntKind.wrap_u8]; omega
      have s4 : IntKind.u8.wrap (129 + (j : Int)) = 129 + (j : Int) := by rw [IntKind.wrap_u8]; omega
      have s5 : IntKind.i64.wrap (1 + (j : Int)) = 1 + (j : Int) := by rw [IntKind.wrap_i64]; omega
      by_cases hj4 : j = 4
      · have hd2 : ((j : Int) == 4) = true := by simp; omega
        have HJ4 := hidIt hj4
        clear hj4
        cases hkn : Cx.known enc
        · have HNS := hidIt (NewStream_no enc hkn)
          have HNR := hidIt (rNew_any enc wr)
          have HKF := hidIt hkn
          clear hkn
          go_upto_region 8 with fail
          go_upto_region 10 with (first | (go_at_call 4; refine (HNS.out _).mono ?_; rintro e y1 ⟨rfl, h9⟩; obtain rfl := h9.symm; (try dsimp only)) | (go_at_call 5; refine HNR.out.mono ?_; rintro e y2 h2; obtain ⟨_, rfl, hb2⟩ := h2.resolve_left (fun h => by rw [HKF.out] at h; cases h.1); (try dsimp only); have B2 := hidIt hb2; clear hb2 h2))
          go_wp2_with (go_at_call 6; refine (num_any _ _).mono ?_; rintro e y9 ⟨rfl, h9⟩; obtain rfl := h9.symm; (try dsimp only))
          go_roundw
          case rel => exact ⟨j + 1, C, sv, rv, N', by omega, by go_num, (HCW.out.ext B2.out).less (by omega)⟩
          case measure => simp [intOf]; omega
        · have HKN := hidIt hkn
          clear hkn
          go_upto_region 8 with fail
          have HNS := hidIt (NewStream_any enc HKN.out wr)
          go_upto_region 9 with (go_at_call 4; refine HNS.out.mono ?_; rintro e y1 ⟨rfl, hs1, hb1⟩; (try dsimp only); have S1 := hidIt hs1; have B1 := hidIt hb1; clear hs1 hb1)
          have HNR := hidIt (rNew_any enc y1)
          go_upto_region 10 with (go_at_call 5; refine HNR.out.mono ?_; rintro e y2 h2; obtain ⟨_, rfl, hr2, hb2⟩ := h2.resolve_right (fun h => by rw [HKN.out] at h; cases h.1); (try dsimp only); have R2 := hidIt hr2; have B2 := hidIt hb2; clear hr2 hb2 h2)
          have PN := hidIt (pr_new HKN.out S1.out B2.out R2.out)
          have B12 := hidIt (ext_trans B1.out B2.out)
          clear S1 R2 HNS HNR
          obtain ⟨d, hd⟩ : ∃ d : List Int, d = [65, 226 - (j : Int), 129 + (j : Int)] := ⟨_, rfl⟩
          have HDL : Hid (d.length = 3) := by rw [hd]; rfl
          have HDB : Hid (Byt d) := by rw [hd]; intro z hz; simp at hz; omega
          have hdm : (#[.int .u8 65, .int .u8 (226 - (j : Int)), .int .u8 (129 + (j : Int))] : Array Value) = (d.map (Value.int .u8)).toArray := by rw [hd]; rfl
          go_upto_region 14 with (go_at_call 6; refine (num_any _ _).mono ?_; rintro e y9 ⟨rfl, h9⟩; obtain rfl := h9.symm; (try dsimp only))
          try rw [hdm]
          obtain ⟨y3, hy3⟩ : ∃ y3, y3 = y2.alloc (.cells (d.map (Value.int .u8)).toArray 5) := ⟨_, rfl⟩
          rw [← hy3]
          have RL3 : Hid (Rd .u8 y3 (.slice (some ⟨y2.heap.size, 0, none⟩) 3 3) d) := by
            have := rd_lit .u8 y2 5 d (by rw [HDL.out]; unfold maxLen; omega)
            rw [← hy3, HDL.out] at this
            exact this
          have B3 : Hid (Below y2.heap.size y2 y3) := by unfold Hid; rw [hy3]; exact ext_alloc (Below.refl _ _) _
          have Z3 : Hid (y2.heap.size < y3.heap.size) := by unfold Hid; rw [hy3]; simp
          clear hy3 hd hdm
          have HCB := hidIt (copyBytes_any _ d y3 RL3.out (by rw [HDL.out]; omega))
          have HFF : Hid (∀ (y4 : World) (v4 : Value), Below y3.heap.size y3 y4 → y4.ownsRow y3.heap.size 5 1 v4 d.length (d.map (Value.int .u8)) → ∃ P : Nat → Prop, (∀ k, P k → k < y4.heap.size ∧ k ≠ y2.heap.size) ∧ (∀ y6, Kps P y4 y6 → Pr (fun k => P k ∨ y4.heap.size ≤ k) y6 wr.heap.size y1.heap.size enc d → ∃ N3, Cwd w.heap.size y6 w.heap.size C sv rv ∧ CwN N3 w.heap.size sv rv ∧ Crw y6 N3 (LL S T (C ++ [(Pq.mk wr.heap.size y1.heap.size enc d)])) ∧ (∀ k, N k → N3 k) ∧ Kps (fun k => ¬ N k) w y6) ∧ Calls Tryz.prog 14 #[.pointer (some ⟨wr.heap.size, 0, none⟩), v4] y4 fun e w' => ∃ v', e = .returned v' ∧ w'.ownsRow y4.heap.size 3 1 v' ((Cx.fd enc ([] ++ d)).1.drop (Cx.fd enc []).1.length).length (((Cx.fd enc ([] ++ d)).1.drop (Cx.fd enc []).1.length).map (Value.int .i64)) ∧ Ph P w' wr.heap.size y1.heap.size enc [] d ∧ y4.grownBy w' (some wr.heap.size)) := fun y4 v4 hb4 ho4 => by
            obtain ⟨P, p1, p2, p3⟩ := HCW.out.join (d := d) B12.out PN.out B3.out Z3.out hb4
            exact ⟨P, p2, p3, pr_feed p1 (Rd.of_own ho4) (Sl.of_own ho4) HDB.out (by rw [HDL.out]; omega)⟩
          generalize hZS : (Cx.fd enc ([] ++ d)).1.drop (Cx.fd enc []).1.length = zs at *
          go_upto_region 15 with (first | (go_at_call 15; refine HCB.out.mono ?_; rintro e y4 ⟨v4, rfl, ho4, hb4⟩; obtain ⟨P, hP, hJ, hF⟩ := HFF.out y4 v4 hb4 ho4; have HPP := hidIt hP; have HJJ := hidIt hJ; have HFC := hidIt hF; have B4 := hidIt hb4; clear hP hJ hF ho4 hb4; (try dsimp only)) | (go_at_call 14; refine HFC.out.mono ?_; rintro e y5 ⟨l, rfl, ho5, hp5, hg5⟩; have O5 := hidIt ho5; have P5 := hidIt hp5; have G5 := hidIt hg5; clear ho5 hp5 hg5; (try dsimp only)))
          have K45 : Hid (Kps P y4 y5) := Kps.grown G5.out (fun k e _ => by cases e; exact P5.out.2.2.1)
          have HF6 := hidIt (ph_feed (v := .slice (some ⟨y2.heap.size, 0, none⟩) 3 3) P5.out (fun w' k => rd_kps (RL3.out.ext B4.out) (K45.out.trans k (fun _ _ e => e)) (fun b off n c e _ e2 => by cases e; exact (HPP.out _ e2).2 rfl)) (by rw [HDL.out]; simp))
          rw [hZS] at HF6
          clear hZS HFF HCB HFC
          have HSI : Hid (∀ y6 m, Kps (fun k => P k ∧ k ≠ wr.heap.size) y5 y6 → Rd .i64 y6 m zs → Calls Tryz.prog 16 #[l, m] y6 fun e w' => e = .returned (.bool true) ∧ Below y6.heap.size y6 w') := fun y6 m k h => sameInts_any _ _ _ y6 (rdi_stay O5.out k (fun i h1 _ e => by have := (HPP.out _ e.1).1; omega)) h
          go_upto_region 17 with (first | (go_at_call 17; refine HF6.out.mono ?_; rintro e y6 ⟨m, rfl, hm6, hp6, hk6⟩; have Z6 := hidIt (HSI.out y6 m hk6 hm6); have P6 := hidIt hp6; have K56 := hidIt hk6; clear hm6 hp6 hk6; (try dsimp only)) | (go_at_call 16; refine Z6.out.mono ?_; rintro e y7 ⟨rfl, hb7⟩; have B7 := hidIt hb7; clear hb7; (try dsimp only)))
          obtain ⟨N3, cd, cn, cr, up, kp⟩ := HJJ.out y6 (K45.out.trans K56.out (fun _ _ e => e.1)) (P6.out.mono (fun k _ e => e.imp id (fun h => by have := G5.out.size; omega)))
          have CD7 := hidIt (cd.ext B7.out)
          have CN7 := hidIt cn
          have CR7 := hidIt (cr.ext B7.out)
          have UP7 := hidIt up
          have KP7 : Hid (Kps (fun k => ¬ N k) w y7) := kp.trans (Kps.of_below (fun _ => False) B7.out) (fun _ _ e => e.elim)
          have SV := form_own CD7.out.2.2.1
          have RV := form_own CD7.out.2.2.2
          obtain ⟨sa, sc, rfl⟩ := SV
          obtain ⟨ra, rc, rfl⟩ := RV
          clear cd cn cr up kp HJJ HSI Z6 P6 K56 HF6 O5 P5 G5 K45 HPP RL3 PN B12 B3 Z3 B4 B7 B1 B2
          have HLN : Hid (C.length ≤ 5) := by have := HCW.out.ln; unfold Hid; omega
          have g7 := hidIt CD7.out.gen
          have CE7 := cells2 CD7.out.1
          obtain ⟨ce0, ce1⟩ := CE7
          have hcl : w.heap.size < y7.heap.size := (Array.getElem?_eq_some_iff.1 CD7.out.1).1
          go_upto_region 18 with (at_builtin; refine wpList_append_blk _ rfl _ _ 55 rfl w.heap.size 23 i1 (.pointer none) 1 8 Tryz.underlying55 hi1 hy0 hy1 hy2 rfl (by decide) (.slice sa C.length sc) C.length _ rfl (own_ext CD7.out.2.2.1 (ext_alloc (Below.refl _ _) _)) ⟨y7.heap.size, 0, none⟩ 1 1 [.pointer (some ⟨wr.heap.size, 0, none⟩)] rfl rfl (cell_one_new _ _ _) (one_ptr _) (by have := HLN.out; unfold maxLen; omega) (by have := HLN.out; omega) (by simp; omega) (by decide) ?_; intro s9 z1 own9 hg9 hv9; obtain ⟨sa9, sc9, rfl⟩ := form_own own9; have PU := hidIt ((g7.out.ext (ext_alloc (Below.refl _ _) _)).push0 (by rw [List.length_map]; exact own9) hg9); have V9 := hidIt hv9; obtain ⟨f0, f1⟩ := cells2 PU.out.1; have ff := unfrozen PU.out.1 0; clear own9 hg9 hv9; (try dsimp only))
          have G8 := hidIt PU.out.2.1
          have K78 := hidIt ((Kps.of_below (fun k => k = w.heap.size ∨ (Value.slice sa C.length sc).ownBlock = some k) (ext_alloc (Below.refl y7.heap.size y7) _)).trans PU.out.2.2 (fun _ _ e => e))
          clear PU f0 f1 ff ce0 ce1
          generalize z1.setCell ⟨w.heap.size, 0, none⟩ (.slice sa9 (C.length + 1) sc9) = y8 at *
          have OR8 : Hid (y8.ownsRow w.heap.size 27 1 (.slice ra C.length rc) C.length (C.map fun p => .pointer (some ⟨p.q, 0, none⟩))) := by
            have := G8.out.2.2.2
            rw [List.length_map] at this
            exact this
          obtain ⟨ce0, ce1⟩ := cells2 G8.out.1
          have hcl8 : w.heap.size < y8.heap.size := (Array.getElem?_eq_some_iff.1 G8.out.1).1
          have Z78 : Hid (y7.heap.size ≤ y8.heap.size) := K78.out.size
          go_upto_region 4 with (at_builtin; refine wpList_append_blk _ rfl _ _ 56 rfl w.heap.size 27 i2 (.pointer none) 1 8 Tryz.underlying56 hi2 hx0 hx1 hx2 rfl (by decide) (.slice ra C.length rc) C.length _ rfl (own_ext OR8.out (ext_alloc (Below.refl _ _) _)) ⟨y8.heap.size, 0, none⟩ 1 1 [.pointer (some ⟨y1.heap.size, 0, none⟩)] rfl rfl (cell_one_new _ _ _) (one_ptr _) (by have := HLN.out; unfold maxLen; omega) (by have := HLN.out; omega) (by simp; omega) (by decide) ?_; intro r9 z2 own9 hg9 hv9; obtain ⟨ra9, rc9, rfl⟩ := form_own own9; have PU := hidIt ((G8.out.ext (ext_alloc (Below.refl _ _) _)).push1 (by rw [List.length_map]; exact own9) hg9); have V10 := hidIt hv9; obtain ⟨f0, f1⟩ := cells2 PU.out.1; have ff := unfrozen PU.out.1 1; clear own9 hg9 hv9; (try dsimp only))
          have FIN : Hid (∃ sv' rv' N', Cw w N S T w.heap.size (j + 1) (z2.setCell ⟨w.heap.size, 1, none⟩ (.slice ra9 (C.length + 1) rc9)) (C ++ [(Pq.mk wr.heap.size y1.heap.size enc d)]) sv' rv' N' ∧ sv' = .slice sa9 (C.length + 1) sc9 ∧ rv' = .slice ra9 (C.length + 1) rc9) :=
            cw_done HCW.out.lo HCW.out.ln HCW.out.sm (by show d.length ≤ 3; rw [HDL.out]; omega) CD7.out CN7.out CR7.out UP7.out KP7.out PU.out.2.1 K78.out ((Kps.of_below (fun k => k = w.heap.size ∨ (Value.slice ra C.length rc).ownBlock = some k) (ext_alloc (Below.refl y8.heap.size y8) _)).trans PU.out.2.2 (fun _ _ e => e)) (V9.out.imp id (fun h k e => by rw [h] at e; cases e; simp)) (V10.out.imp id (fun h k e => by rw [h] at e; cases e; have := Z78.out; simp; omega))
          clear PU f0 f1 ff ce0 ce1 G8 K78 OR8 V9 V10 CD7 CN7 CR7 UP7 KP7 g7 HCW
          generalize z2.setCell ⟨w.heap.size, 1, none⟩ (.slice ra9 (C.length + 1) rc9) = y10 at *
          go_wp2_with fail
          go_roundw
          case rel =>
            obtain ⟨sv', rv', N'', hcw, _⟩ := FIN.out
            exact ⟨j + 1, _, sv', rv', N'', by omega, by go_num, hcw⟩
          case measure => simp [intOf]; omega
      · have hd2 : ((j : Int) == 4) = false := by simp; omega
        have HKN : Hid (Cx.known (1 + (j : Int)) = true) := by unfold Hid; rw [Cx.known_iff]; omega
        go_upto_region 8 with fail
        have HNS := hidIt (NewStream_any (1 + (j : Int)) HKN.out wr)
        go_upto_region 9 with (go_at_call 4; refine HNS.out.mono ?_; rintro e y1 ⟨rfl, hs1, hb1⟩; (try dsimp only); have S1 := hidIt hs1; have B1 := hidIt hb1; clear hs1 hb1)
        have HNR := hidIt (rNew_any (1 + (j : Int)) y1)
        go_upto_region 10 with (go_at_call 5; refine HNR.out.mono ?_; rintro e y2 h2; obtain ⟨_, rfl, hr2, hb2⟩ := h2.resolve_right (fun h => by rw [HKN.out] at h; cases h.1); (try dsimp only); have R2 := hidIt hr2; have B2 := hidIt hb2; clear hr2 hb2 h2)
        have PN := hidIt (pr_new HKN.out S1.out B2.out R2.out)
        have B12 := hidIt (ext_trans B1.out B2.out)
        clear S1 R2 HNS HNR
        obtain ⟨d, hd⟩ : ∃ d : List Int, d = [65, 226 - (j : Int), 129 + (j : Int)] := ⟨_, rfl⟩
        have HDL : Hid (d.length = 3) := by rw [hd]; rfl
        have HDB : Hid (Byt d) := by rw [hd]; intro z hz; simp at hz; omega
        have hdm : (#[.int .u8 65, .int .u8 (226 - (j : Int)), .int .u8 (129 + (j : Int))] : Array Value) = (d.map (Value.int .u8)).toArray := by rw [hd]; rfl
        go_upto_region 14 with (go_at_call 6; refine (num_any _ _).mono ?_; rintro e y9 ⟨rfl, h9⟩; obtain rfl := h9.symm; (try dsimp only))
        try rw [hdm]
        obtain ⟨y3, hy3⟩ : ∃ y3, y3 = y2.alloc (.cells (d.map (Value.int .u8)).toArray 5) := ⟨_, rfl⟩
        rw [← hy3]
        have RL3 : Hid (Rd .u8 y3 (.slice (some ⟨y2.heap.size, 0, none⟩) 3 3) d) := by
          have := rd_lit .u8 y2 5 d (by rw [HDL.out]; unfold maxLen; omega)
          rw [← hy3, HDL.out] at this
          exact this
        have B3 : Hid (Below y2.heap.size y2 y3) := by unfold Hid; rw [hy3]; exact ext_alloc (Below.refl _ _) _
        have Z3 : Hid (y2.heap.size < y3.heap.size) := by unfold Hid; rw [hy3]; simp
        clear hy3 hd hdm
        have HCB := hidIt (copyBytes_any _ d y3 RL3.out (by rw [HDL.out]; omega))
        have HFF : Hid (∀ (y4 : World) (v4 : Value), Below y3.heap.size y3 y4 → y4.ownsRow y3.heap.size 5 1 v4 d.length (d.map (Value.int .u8)) → ∃ P : Nat → Prop, (∀ k, P k → k < y4.heap.size ∧ k ≠ y2.heap.size) ∧ (∀ y6, Kps P y4 y6 → Pr (fun k => P k ∨ y4.heap.size ≤ k) y6 wr.heap.size y1.heap.size (1 + (j : Int)) d → ∃ N3, Cwd w.heap.size y6 w.heap.size C sv rv ∧ CwN N3 w.heap.size sv rv ∧ Crw y6 N3 (LL S T (C ++ [(Pq.mk wr.heap.size y1.heap.size (1 + (j : Int)) d)])) ∧ (∀ k, N k → N3 k) ∧ Kps (fun k => ¬ N k) w y6) ∧ Calls Tryz.prog 14 #[.pointer (some ⟨wr.heap.size, 0, none⟩), v4] y4 fun e w' => ∃ v', e = .returned v' ∧ w'.ownsRow y4.heap.size 3 1 v' ((Cx.fd (1 + (j : Int)) ([] ++ d)).1.drop (Cx.fd (1 + (j : Int)) []).1.length).length (((Cx.fd (1 + (j : Int)) ([] ++ d)).1.drop (Cx.fd (1 + (j : Int)) []).1.length).map (Value.int .i64)) ∧ Ph P w' wr.heap.size y1.heap.size (1 + (j : Int)) [] d ∧ y4.grownBy w' (some wr.heap.size)) := fun y4 v4 hb4 ho4 => by
          obtain ⟨P, p1, p2, p3⟩ := HCW.out.join (d := d) B12.out PN.out B3.out Z3.out hb4
          exact ⟨P, p2, p3, pr_feed p1 (Rd.of_own ho4) (Sl.of_own ho4) HDB.out (by rw [HDL.out]; omega)⟩
        generalize hZS : (Cx.fd (1 + (j : Int)) ([] ++ d)).1.drop (Cx.fd (1 + (j : Int)) []).1.length = zs at *
        go_upto_region 15 with (first | (go_at_call 15; refine HCB.out.mono ?_; rintro e y4 ⟨v4, rfl, ho4, hb4⟩; obtain ⟨P, hP, hJ, hF⟩ := HFF.out y4 v4 hb4 ho4; have HPP := hidIt hP; have HJJ := hidIt hJ; have HFC := hidIt hF; have B4 := hidIt hb4; clear hP hJ hF ho4 hb4; (try dsimp only)) | (go_at_call 14; refine HFC.out.mono ?_; rintro e y5 ⟨l, rfl, ho5, hp5, hg5⟩; have O5 := hidIt ho5; have P5 := hidIt hp5; have G5 := hidIt hg5; clear ho5 hp5 hg5; (try dsimp only)))
        have K45 : Hid (Kps P y4 y5) := Kps.grown G5.out (fun k e _ => by cases e; exact P5.out.2.2.1)
        have HF6 := hidIt (ph_feed (v := .slice (some ⟨y2.heap.size, 0, none⟩) 3 3) P5.out (fun w' k => rd_kps (RL3.out.ext B4.out) (K45.out.trans k (fun _ _ e => e)) (fun b off n c e _ e2 => by cases e; exact (HPP.out _ e2).2 rfl)) (by rw [HDL.out]; simp))
        rw [hZS] at HF6
        clear hZS HFF HCB HFC
        have HSI : Hid (∀ y6 m, Kps (fun k => P k ∧ k ≠ wr.heap.size) y5 y6 → Rd .i64 y6 m zs → Calls Tryz.prog 16 #[l, m] y6 fun e w' => e = .returned (.bool true) ∧ Below y6.heap.size y6 w') := fun y6 m k h => sameInts_any _ _ _ y6 (rdi_stay O5.out k (fun i h1 _ e => by have := (HPP.out _ e.1).1; omega)) h
        go_upto_region 17 with (first | (go_at_call 17; refine HF6.out.mono ?_; rintro e y6 ⟨m, rfl, hm6, hp6, hk6⟩; have Z6 := hidIt (HSI.out y6 m hk6 hm6); have P6 := hidIt hp6; have K56 := hidIt hk6; clear hm6 hp6 hk6; (try dsimp only)) | (go_at_call 16; refine Z6.out.mono ?_; rintro e y7 ⟨rfl, hb7⟩; have B7 := hidIt hb7; clear hb7; (try dsimp only)))
        obtain ⟨N3, cd, cn, cr, up, kp⟩ := HJJ.out y6 (K45.out.trans K56.out (fun _ _ e => e.1)) (P6.out.mono (fun k _ e => e.imp id (fun h => by have := G5.out.size; omega)))
        have CD7 := hidIt (cd.ext B7.out)
        have CN7 := hidIt cn
        have CR7 := hidIt (cr.ext B7.out)
        have UP7 := hidIt up
        have KP7 : Hid (Kps (fun k => ¬ N k) w y7) := kp.trans (Kps.of_below (fun _ => False) B7.out) (fun _ _ e => e.elim)
        have SV := form_own CD7.out.2.2.1
        have RV := form_own CD7.out.2.2.2
        obtain ⟨sa, sc, rfl⟩ := SV
        obtain ⟨ra, rc, rfl⟩ := RV
        clear cd cn cr up kp HJJ HSI Z6 P6 K56 HF6 O5 P5 G5 K45 HPP RL3 PN B12 B3 Z3 B4 B7 B1 B2
        have HLN : Hid (C.length ≤ 5) := by have := HCW.out.ln; unfold Hid; omega
        have g7 := hidIt CD7.out.gen
        have CE7 := cells2 CD7.out.1
        obtain ⟨ce0, ce1⟩ := CE7
        have hcl : w.heap.size < y7.heap.size := (Array.getElem?_eq_some_iff.1 CD7.out.1).1
        go_upto_region 18 with (at_builtin; refine wpList_append_blk _ rfl _ _ 55 rfl w.heap.size 23 i1 (.pointer none) 1 8 Tryz.underlying55 hi1 hy0 hy1 hy2 rfl (by decide) (.slice sa C.length sc) C.length _ rfl (own_ext CD7.out.2.2.1 (ext_alloc (Below.refl _ _) _)) ⟨y7.heap.size, 0, none⟩ 1 1 [.pointer (some ⟨wr.heap.size, 0, none⟩)] rfl rfl (cell_one_new _ _ _) (one_ptr _) (by have := HLN.out; unfold maxLen; omega) (by have := HLN.out; omega) (by simp; omega) (by decide) ?_; intro s9 z1 own9 hg9 hv9; obtain ⟨sa9, sc9, rfl⟩ := form_own own9; have PU := hidIt ((g7.out.ext (ext_alloc (Below.refl _ _) _)).push0 (by rw [List.length_map]; exact own9) hg9); have V9 := hidIt hv9; obtain ⟨f0, f1⟩ := cells2 PU.out.1; have ff := unfrozen PU.out.1 0; clear own9 hg9 hv9; (try dsimp only))
        have G8 := hidIt PU.out.2.1
        have K78 := hidIt ((Kps.of_below (fun k => k = w.heap.size ∨ (Value.slice sa C.length sc).ownBlock = some k) (ext_alloc (Below.refl y7.heap.size y7) _)).trans PU.out.2.2 (fun _ _ e => e))
        clear PU f0 f1 ff ce0 ce1
        generalize z1.setCell ⟨w.heap.size, 0, none⟩ (.slice sa9 (C.length + 1) sc9) = y8 at *
        have OR8 : Hid (y8.ownsRow w.heap.size 27 1 (.slice ra C.length rc) C.length (C.map fun p => .pointer (some ⟨p.q, 0, none⟩))) := by
          have := G8.out.2.2.2
          rw [List.length_map] at this
          exact this
        obtain ⟨ce0, ce1⟩ := cells2 G8.out.1
        have hcl8 : w.heap.size < y8.heap.size := (Array.getElem?_eq_some_iff.1 G8.out.1).1
        have Z78 : Hid (y7.heap.size ≤ y8.heap.size) := K78.out.size
        go_upto_region 4 with (at_builtin; refine wpList_append_blk _ rfl _ _ 56 rfl w.heap.size 27 i2 (.pointer none) 1 8 Tryz.underlying56 hi2 hx0 hx1 hx2 rfl (by decide) (.slice ra C.length rc) C.length _ rfl (own_ext OR8.out (ext_alloc (Below.refl _ _) _)) ⟨y8.heap.size, 0, none⟩ 1 1 [.pointer (some ⟨y1.heap.size, 0, none⟩)] rfl rfl (cell_one_new _ _ _) (one_ptr _) (by have := HLN.out; unfold maxLen; omega) (by have := HLN.out; omega) (by simp; omega) (by decide) ?_; intro r9 z2 own9 hg9 hv9; obtain ⟨ra9, rc9, rfl⟩ := form_own own9; have PU := hidIt ((G8.out.ext (ext_alloc (Below.refl _ _) _)).push1 (by rw [List.length_map]; exact own9) hg9); have V10 := hidIt hv9; obtain ⟨f0, f1⟩ := cells2 PU.out.1; have ff := unfrozen PU.out.1 1; clear own9 hg9 hv9; (try dsimp only))
        have FIN : Hid (∃ sv' rv' N', Cw w N S T w.heap.size (j + 1) (z2.setCell ⟨w.heap.size, 1, none⟩ (.slice ra9 (C.length + 1) rc9)) (C ++ [(Pq.mk wr.heap.size y1.heap.size (1 + (j : Int)) d)]) sv' rv' N' ∧ sv' = .slice sa9 (C.length + 1) sc9 ∧ rv' = .slice ra9 (C.length + 1) rc9) :=
          cw_done HCW.out.lo HCW.out.ln HCW.out.sm (by show d.length ≤ 3; rw [HDL.out]; omega) CD7.out CN7.out CR7.out UP7.out KP7.out PU.out.2.1 K78.out ((Kps.of_below (fun k => k = w.heap.size ∨ (Value.slice ra C.length rc).ownBlock = some k) (ext_alloc (Below.refl y8.heap.size y8) _)).trans PU.out.2.2 (fun _ _ e => e)) (V9.out.imp id (fun h k e => by rw [h] at e; cases e; simp)) (V10.out.imp id (fun h k e => by rw [h] at e; cases e; have := Z78.out; simp; omega))
        clear PU f0 f1 ff ce0 ce1 G8 K78 OR8 V9 V10 CD7 CN7 CR7 UP7 KP7 g7 HCW
        generalize z2.setCell ⟨w.heap.size, 1, none⟩ (.slice ra9 (C.length + 1) rc9) = y10 at *
        go_wp2_with fail
        go_roundw
        case rel =>
          obtain ⟨sv', rv', N'', hcw, _⟩ := FIN.out
          exact ⟨j + 1, _, sv', rv', N'', by omega, by go_num, hcw⟩
        case measure => simp [intOf]; omega
    · obtain rfl : j = 5 := by omega
      go_wp2_with fail
      go_ret2
      exact HEN.out _ _ _ _ _ HCW.out
end Go.Proofs.YtmfbobibpebfnaaGreat
