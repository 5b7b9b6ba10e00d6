/- tells, of every kind but the iterators. -/
import Derived.Test.YtlnachbigchobaaHanded
import Derived.Test.YtlnachbigchobaaAlive
namespace Go.Proofs.Ytlnachbigchobaa
open Go.RowKit

theorem AtP.uniq {xs : List It} {i : Int} {x y : It} {b c : Bool} (h : AtP xs i x b) (k : AtP xs i y c) : x = y ∧ b = c := by
  rcases h with ⟨h1, h2⟩ | ⟨h1, h2, h3⟩ <;> rcases k with ⟨k1, k2⟩ | ⟨k1, k2, k3⟩
  · rw [h1] at k1; cases k1; exact ⟨rfl, by rw [h2, k2]⟩
  · rw [h1] at k1; cases k1
  · rw [h1] at k1; cases k1
  · exact ⟨by rw [h3, k3], by rw [h2, k2]⟩
theorem wt_small {xs : List It} (h : xs.length ≤ 4194304) : wt xs ≤ 4611686018427387904 := by have := wt_le xs; omega

set_option maxRecDepth 100000 in
set_option maxHeartbeats 8000000 in
theorem tells_any {base gw gt ct gl cl : Nat} {us : List (Option Addr)} {ls : List Value} {xss : List (List It)} (o : Sp) (w : World) (h : Wd w base gw gt ct gl cl us ls xss xss) (h1 : 1 ≤ us.length) (h2 : us.length ≤ 4611686018427387904) (hs : ∀ xs ∈ xss, xs.length ≤ 4194304) (hn : o.n ≤ 9223372036854775807)
    (h8 : o.kind = 8 → ∀ (u : Option Addr) (v : Value) (xs : List It) (w' : World), TT w' (.agg #[.pointer u]) xs → RdR w' v xs → xs.length ≤ 4194304 → Calls Try.prog 80 #[.agg #[.pointer u], v, .int .i64 o.n, .int .i64 o.k] w' fun e w'' => e = .returned (.bool true) ∧ Below w'.heap.size w' w'') :
    Calls Try.prog 63 #[.pointer (some ⟨gw, 0, none⟩), opv o] w fun e w' => e = .returned (.bool true) ∧ Below w.heap.size w w' := by
  obtain ⟨w0, hw0⟩ : ∃ w0, w0 = w.alloc (.cells #[.int .i64 o.kind, .int .i64 o.who, .int .i64 o.fr, .int .i64 o.to, .int .i64 o.k, .int .i64 o.n, .slice o.ai o.zs.length o.ci] 95) := ⟨_, rfl⟩
  have hb0 : Below w.heap.size w w0 := by rw [hw0]; exact ext_alloc (Below.refl _ _) _
  have hs0 : w.heap.size < w0.heap.size := by rw [hw0]; simp
  have HW0 := hidIt (h.ext hb0)
  have WHO : Hid (Calls Try.prog 76 #[.pointer (some ⟨gw, 0, none⟩), .agg #[.int .i64 o.kind, .int .i64 o.who, .int .i64 o.fr, .int .i64 o.to, .int .i64 o.k, .int .i64 o.n, .slice o.ai o.zs.length o.ci]] w0 fun e w' => ∃ k : Nat, e = .returned (.int .i64 k) ∧ k < us.length ∧ Below w0.heap.size w0 w') := who_any o w0 HW0.out h1 h2
  have hop : w0.heap[w.heap.size]? = some (.cells #[.int .i64 o.kind, .int .i64 o.who, .int .i64 o.fr, .int .i64 o.to, .int .i64 o.k, .int .i64 o.n, .slice o.ai o.zs.length o.ci] 95 (0, 0)) := by rw [hw0]; exact heap_alloc_new _ _
  have HOP : Hid (∀ w', Below w0.heap.size w0 w' → w'.cell? ⟨w.heap.size, 0, none⟩ = some (.int .i64 o.kind) ∧ w'.cell? ⟨w.heap.size, 4, none⟩ = some (.int .i64 o.k) ∧ w'.cell? ⟨w.heap.size, 5, none⟩ = some (.int .i64 o.n)) := fun w' hb => by
    have hop' : w'.heap[w.heap.size]? = some (.cells #[.int .i64 o.kind, .int .i64 o.who, .int .i64 o.fr, .int .i64 o.to, .int .i64 o.k, .int .i64 o.n, .slice o.ai o.zs.length o.ci] 95 (0, 0)) := by rw [hb.block _ hs0]; exact hop
    refine ⟨?_, ?_, ?_⟩
    · rw [cell_of_row w' _ 0 _ _ _ hop']; rfl
    · rw [cell_of_row w' _ 4 _ _ _ hop']; rfl
    · rw [cell_of_row w' _ 5 _ _ _ hop']; rfl
  have HB0 := hidIt hb0
  have HSX := hidIt hs
  have H8 := hidIt h8
  clear hb0 hop hs h8 h
  unfold opv
  obtain ⟨kind, who, fr, tt, kk, nn, ai, ci, zs⟩ := o
  simp only at *
  go_enter Try.func63, Try.ntmps63
  go_upto_region 2 with (go_at_call 76; rw [← hw0]; refine WHO.out.mono ?_; clear hw0 WHO; rintro e w1 ⟨k, rfl, hk, hb1⟩; have HB1 := hidIt hb1; have HW1 := hidIt (HW0.out.ext hb1); obtain ⟨c0, c1, _⟩ := HW1.out.cells; clear hb1; obtain ⟨u, hu⟩ : ∃ u, us[k]? = some u := ⟨us[k], List.getElem?_eq_getElem hk⟩; obtain ⟨v, hv⟩ : ∃ v, ls[k]? = some v := ⟨ls[k]'(by rw [HW1.out.ll, ← HW1.out.ul]; exact hk), List.getElem?_eq_getElem _⟩; obtain ⟨xs, hx⟩ : ∃ xs, xss[k]? = some xs := ⟨xss[k]'(by rw [← HW1.out.ul]; exact hk), List.getElem?_eq_getElem _⟩; have HTT := hidIt (HW1.out.tt k u xs hu hx); have HLL := hidIt (HW1.out.lo k v xs hv hx); have HLN := hidIt (HSX.out xs (List.mem_of_getElem? hx)); have d0 := HW1.out.tcell k u hu; have d1 := HW1.out.lcell k v hv; obtain ⟨m1, m2, m3, m4, _, _, m5, m6⟩ := HW1.out.caps; have hkl : k < ls.length := (by rw [HW1.out.ll, ← HW1.out.ul]; exact hk); have hk1 : (k : Int) < (us.length : Int) := (by omega); have hk2 : (k : Int) < (ls.length : Int) := (by omega); obtain ⟨ao, cap, rfl⟩ := HLL.out.form1; clear hu hv hx)
  obtain ⟨w2, hw2⟩ : ∃ w2, w2 = w1.alloc (.cells #[.pointer u] 39) := ⟨_, rfl⟩
  have hb2 : Below w1.heap.size w1 w2 := by rw [hw2]; exact ext_alloc (Below.refl _ _) _
  have q0 : w2.cell? ⟨w1.heap.size, 0, none⟩ = some (.pointer u) := by rw [hw2]; simp
  have hq : w1.heap.size < w2.heap.size := by rw [hw2]; simp
  have HB2 := hidIt (ext_trans HB1.out hb2)
  have HC : Hid (∀ w', Below w2.heap.size w2 w' → w'.cell? ⟨w1.heap.size, 0, none⟩ = some (.pointer u) ∧ (w'.cell? ⟨w.heap.size, 0, none⟩ = some (.int .i64 kind) ∧ w'.cell? ⟨w.heap.size, 4, none⟩ = some (.int .i64 kk) ∧ w'.cell? ⟨w.heap.size, 5, none⟩ = some (.int .i64 nn)) ∧ TT w' (.agg #[.pointer u]) xs ∧ RdR w' (.slice ao xs.length cap) xs ∧ Below w.heap.size w w') := fun w' hb => ⟨(hb.cell (p := ⟨w1.heap.size, 0, none⟩) hq).trans q0, HOP.out w' (ext_trans HB2.out hb), (HTT.out.ext hb2).ext hb, (HLL.out.rd.ext hb2).ext hb, ext_trans HB0.out (ext_trans HB2.out hb)⟩
  have c1' : w2.cell? ⟨gw, 1, none⟩ = some (.slice (some ⟨gl, 0, none⟩) ls.length cl) := (hb2.cell (p := ⟨gw, 1, none⟩) HW1.out.lt).trans c1
  have d1' : w2.cell? ⟨gl, k, none⟩ = some (.slice ao xs.length cap) := (hb2.cell (p := ⟨gl, k, none⟩) m6).trans d1
  go_upto_region 3 with fail
  rw [← hw2]
  clear hw2 HW0 HW1 HTT HLL HOP c0 c1 d0 d1 hb2
  go_upto_region 4 with fail
  clear c1' d1' m1 m2 m3 m4 m5 m6 hk1 hk2 hkl
  generalize w1.heap.size = tb at *
  have hwt := wt_small HLN.out
  have HWT := hidIt hwt
  have hlen : xs.length ≤ 4194304 := HLN.out
  clear hwt
  have HF : Hid (Below w2.heap.size w2 w2) := Below.refl _ _
  obtain ⟨_, ⟨p0, p4, p5⟩, t2, r2, _⟩ := HC.out w2 HF.out
  by_cases k3 : kind = 3
  · subst k3
    go_wp2_with (go_at_call 22; refine (Size_any u xs w2 t2).mono ?_; rintro e w3 ⟨rfl, hb3⟩; have HZ := hidIt hb3; clear hb3)
    go_ret
    exact ⟨ret_bool (by simp), (HC.out _ HZ.out).2.2.2.2⟩
  by_cases k4 : kind = 4
  · subst k4
    have HS4 : Hid (∀ s q : Rs, Hid (s = rA.su xs) → Hid (q = rA.su (xs.take ((xs.length : Int)).toNat)) → s = q) := fun s q a b => by rw [a.out, b.out, Int.toNat_natCast, List.take_length]
    go_wp2_with (first
      | (go_at_call 21; refine (Sum_any u xs w2 t2).mono ?_; rintro e w3 ⟨s3, HS, rfl, hb3⟩; have HZ := hidIt hb3; have r3 := r2.ext hb3; clear hb3)
      | (go_at_call 15; refine (rUpto_any _ xs _ w3 r3 HWT.out).mono ?_; rintro e w4 ⟨s4, HS', rfl, hb4⟩; have HZ4 := hidIt (ext_trans HZ.out hb4); clear hb4)
      | (go_at_call 17; refine (sameRuns_any s3 s4 w4 (HS4.out _ _ HS HS')).mono ?_; rintro e w5 ⟨rfl, hb5⟩; have HZ5 := hidIt (ext_trans HZ4.out hb5); clear hb5))
    go_ret
    exact ⟨rfl, (HC.out _ HZ5.out).2.2.2.2⟩
  by_cases k5 : kind = 5
  · subst k5
    obtain ⟨q1, _⟩ := HC.out w2 HF.out
    have HP : Hid (∀ w', Below w2.heap.size w2 w' → w'.cell? ⟨tb, 0, none⟩ = some (.pointer u) ∧ w'.cell? ⟨w.heap.size, 5, none⟩ = some (.int .i64 nn)) := fun w' hb => ⟨(HC.out w' hb).1, (HC.out w' hb).2.1.2.2⟩
    have UA : Hid (∀ w', Below w2.heap.size w2 w' → Calls Try.prog 24 #[.agg #[.pointer u], .int .i64 nn] w' fun e w'' => e = .returned (.agg #[.int .i64 (rA.su (xs.take nn.toNat)).l, .int .i64 (rA.su (xs.take nn.toNat)).s, .int .i64 (rA.su (xs.take nn.toNat)).f, .int .i64 (rA.su (xs.take nn.toNat)).z]) ∧ Below w2.heap.size w2 w'') := fun w' hb => (Upto_any u xs nn w' (HC.out w' hb).2.2.1 HWT.out hn).mono fun _ _ ⟨s, k0, k1, k2⟩ => ⟨by rw [← k0.out]; exact k1, ext_trans hb k2⟩
    have UB : Hid (∀ w', Below w2.heap.size w2 w' → Calls Try.prog 15 #[.slice ao xs.length cap, .int .i64 nn] w' fun e w'' => e = .returned (.agg #[.int .i64 (rA.su (xs.take nn.toNat)).l, .int .i64 (rA.su (xs.take nn.toNat)).s, .int .i64 (rA.su (xs.take nn.toNat)).f, .int .i64 (rA.su (xs.take nn.toNat)).z]) ∧ Below w2.heap.size w2 w'') := fun w' hb => (rUpto_any _ xs nn w' (HC.out w' hb).2.2.2.1 HWT.out).mono fun _ _ ⟨s, k0, k1, k2⟩ => ⟨by rw [← k0.out]; exact k1, ext_trans hb k2⟩
    generalize rA.su (xs.take nn.toNat) = sx at *
    have UC : Hid (∀ w', Below w2.heap.size w2 w' → Calls Try.prog 17 #[.agg #[.int .i64 sx.l, .int .i64 sx.s, .int .i64 sx.f, .int .i64 sx.z], .agg #[.int .i64 sx.l, .int .i64 sx.s, .int .i64 sx.f, .int .i64 sx.z]] w' fun e w'' => e = .returned (.bool true) ∧ Below w2.heap.size w2 w'') := fun w' hb => (sameRuns_any sx sx w' rfl).mono fun _ _ ⟨k1, k2⟩ => ⟨k1, ext_trans hb k2⟩
    clear t2 r2 p4 q0
    go_wp2_with fail
    go_region_held3 (fun w' => w'.cell? ⟨tb, 0, none⟩ = some (.pointer u) ∧ w'.cell? ⟨w.heap.size, 5, none⟩ = some (.int .i64 nn)) (go_keep) (first
      | (go_at_call 24; refine (UA.out _ (by repeat (first | exact HBB.out | exact Below.refl _ _ | apply Below.drew))).mono ?_; rintro e w3 ⟨rfl, hb⟩; (try clear HBB); clear q1 p5; have HBB := hidIt hb; obtain ⟨q1, p5⟩ := HP.out w3 hb; clear hb)
      | (go_at_call 15; refine (UB.out _ (by repeat (first | exact HBB.out | exact Below.refl _ _ | apply Below.drew))).mono ?_; rintro e w3 ⟨rfl, hb⟩; (try clear HBB); clear q1 p5; have HBB := hidIt hb; obtain ⟨q1, p5⟩ := HP.out w3 hb; clear hb)
      | (go_at_call 17; refine (UC.out _ (by repeat (first | exact HBB.out | exact Below.refl _ _ | apply Below.drew))).mono ?_; rintro e w3 ⟨rfl, hb⟩; (try clear HBB); clear q1 p5; have HBB := hidIt hb; obtain ⟨q1, p5⟩ := HP.out w3 hb; clear hb))
    all_goals
      go_wp2_with fail
      go_ret
      exact ⟨rfl, (HC.out _ HBB.out).2.2.2.2⟩
  by_cases k6 : kind = 6
  · subst k6
    clear p4
    go_wp2_with fail
    refine (At_any u xs nn w2 t2 HWT.out hn).mono ?_
    rintro e w3 ⟨x, b, rfl, HX, hb3⟩
    have HZ := hidIt hb3
    have HXX := hidIt HX
    clear hb3 HX
    obtain ⟨w4, hw4⟩ : ∃ w4, w4 = w3.alloc (.cells #[.int .i64 x.1, .int .i64 x.2] 24) := ⟨_, rfl⟩
    have e4 : Below w3.heap.size w3 w4 := by rw [hw4]; exact ext_alloc (Below.refl _ _) _
    have hI : BlkI w4 w3.heap.size x := by rw [hw4]; exact heap_alloc_new _ _
    have H4 := hidIt (ext_trans HZ.out e4)
    clear p5 t2 r2 e4
    obtain ⟨_, ⟨_, _, p5⟩, _, r2, _⟩ := HC.out w4 H4.out
    go_upto_region 13 with fail
    rw [← hw4]
    clear hw4
    generalize w3.heap.size = xb at *
    go_wp2_with fail
    refine (rAt_any _ xs nn w4 r2).mono ?_
    rintro e w5 ⟨y, c, rfl, HY, hb5⟩
    have HZ5 := hidIt (ext_trans H4.out hb5)
    obtain ⟨z0, z1, _⟩ := (hI.ext hb5).cells
    have hx5 := (hI.ext hb5).lt
    obtain ⟨rfl, rfl⟩ := HXX.out.uniq HY
    clear hb5 HY
    go_wp2_with (go_at_call 75; refine (sameRun_any x _).mono ?_; rintro e w6 ⟨rfl, hb6⟩; have HZ6 := hidIt (ext_trans (ext_alloc HZ5.out _) hb6); clear hb6)
    go_ret
    exact ⟨ret_bool (by simp), (HC.out _ HZ6.out).2.2.2.2⟩
  by_cases k7 : kind = 7
  · subst k7
    obtain ⟨q1, _⟩ := HC.out w2 HF.out
    have HP : Hid (∀ w', Below w2.heap.size w2 w' → w'.cell? ⟨tb, 0, none⟩ = some (.pointer u) ∧ w'.cell? ⟨w.heap.size, 4, none⟩ = some (.int .i64 kk) ∧ w'.cell? ⟨w.heap.size, 5, none⟩ = some (.int .i64 nn)) := fun w' hb => ⟨(HC.out w' hb).1, (HC.out w' hb).2.1.2.1, (HC.out w' hb).2.1.2.2⟩
    have UA : Hid (∀ w', Below w2.heap.size w2 w' → Calls Try.prog 23 #[.agg #[.pointer u], .int .i64 kk, .int .i64 nn] w' fun e w'' => e = .returned (.int .i64 (rA.fnd kk nn Rs.zero xs : Nat)) ∧ Below w2.heap.size w2 w'') := fun w' hb => (Find_any u xs kk nn w' (HC.out w' hb).2.2.1 HWT.out).mono fun _ _ ⟨k1, k2⟩ => ⟨k1, ext_trans hb k2⟩
    have UB : Hid (∀ w', Below w2.heap.size w2 w' → Calls Try.prog 79 #[.slice ao xs.length cap, .int .i64 kk, .int .i64 nn] w' fun e w'' => e = .returned (.int .i64 (rA.fnd kk nn Rs.zero xs : Nat)) ∧ Below w2.heap.size w2 w'') := fun w' hb => (rFind_any _ xs kk nn w' (HC.out w' hb).2.2.2.1 HWT.out).mono fun _ _ ⟨k1, k2⟩ => ⟨k1, ext_trans hb k2⟩
    generalize rA.fnd kk nn Rs.zero xs = F at *
    clear t2 r2 q0
    go_wp2_with fail
    go_region_held3 (fun w' => w'.cell? ⟨tb, 0, none⟩ = some (.pointer u) ∧ w'.cell? ⟨w.heap.size, 4, none⟩ = some (.int .i64 kk) ∧ w'.cell? ⟨w.heap.size, 5, none⟩ = some (.int .i64 nn)) (go_keep) (first
      | (go_at_call 23; refine (UA.out _ (by repeat (first | exact HBB.out | exact Below.refl _ _ | apply Below.drew))).mono ?_; rintro e w3 ⟨rfl, hb⟩; (try clear HBB); clear q1 p4 p5; have HBB := hidIt hb; obtain ⟨q1, p4, p5⟩ := HP.out w3 hb; clear hb)
      | (go_at_call 79; refine (UB.out _ (by repeat (first | exact HBB.out | exact Below.refl _ _ | apply Below.drew))).mono ?_; rintro e w3 ⟨rfl, hb⟩; (try clear HBB); clear q1 p4 p5; have HBB := hidIt hb; obtain ⟨q1, p4, p5⟩ := HP.out w3 hb; clear hb))
    all_goals
      go_wp2_with fail
      go_ret
      exact ⟨ret_bool (by simp), (HC.out _ HBB.out).2.2.2.2⟩
  by_cases k8 : kind = 8
  · subst k8
    have L8 := hidIt (H8.out rfl u (.slice ao xs.length cap) xs w2 t2 r2 HLN.out)
    clear t2 r2 H8
    go_wp2_with fail
    refine L8.out.mono ?_
    rintro e w3 ⟨rfl, hb3⟩
    have HZ := hidIt hb3
    clear hb3
    go_wp2_with fail
    go_ret
    exact ⟨rfl, (HC.out _ HZ.out).2.2.2.2⟩
  by_cases k9 : kind = 9
  · subst k9
    have hd := dig_bd xs.length (by omega)
    go_wp2_with fail
    refine (Height_any u xs w2 t2).mono ?_
    rintro e w3 ⟨hh, rfl, HH, hb3⟩
    have HZ := hidIt hb3
    clear hb3
    go_wp2_with fail
    refine (Digits_any xs.length w3 (by omega)).mono ?_
    rintro e w4 ⟨rfl, hw34⟩
    obtain rfl : w3 = w4 := hw34.symm
    obtain ⟨y1, y2, y3⟩ := HH.out
    generalize dig xs.length = dd at *
    have y1' : (hh : Int) ≤ 3 * (dd : Int) := by omega
    have HY2 := hidIt y2
    clear HH y2 y1
    by_cases hp : 0 < xs.length
    · have hp1 : 0 < hh := HY2.out.2 hp
      have hp2 : (0 : Int) < (hh : Int) := by omega
      have hp3 : (0 : Int) < (xs.length : Int) := by omega
      go_wp2_with fail
      go_ret
      exact ⟨ret_bool (by simp), (HC.out _ HZ.out).2.2.2.2⟩
    · have hp1 : hh = 0 := by have := HY2.out; omega
      have hp0 : xs.length = 0 := by omega
      subst hp1
      have hp2 : decide ((0 : Int) < ((0 : Nat) : Int)) = false := by decide
      rw [hp0]
      go_wp2_with fail
      go_ret
      exact ⟨ret_bool (by simp), (HC.out _ HZ.out).2.2.2.2⟩
  go_wp2_with fail
  go_ret
  exact ⟨rfl, (HC.out _ HF.out).2.2.2.2⟩
end Go.Proofs.Ytlnachbigchobaa
