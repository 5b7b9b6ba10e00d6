/- register's isNothing, write, take. -/
import Derived.Test.YtmldfjhfgaggpaaGWr
namespace Go.Proofs.Ytmldfjhfgaggpaa
open Go.RowKit
variable {F : Nat → Prop}

set_option maxRecDepth 100000 in
theorem isNothing_any (k : Int) (v : Value) (t : List Int) (w : World) (h : RdS w v t) : Calls Try.prog 39 #[.agg #[.int .i64 k, v]] w fun e w' => e = .returned (.bool (k == 0 && (t.length : Int) == 0)) ∧ Below w.heap.size w w' := by
  obtain ⟨ao, c, rfl, _⟩ := h.len
  generalize t.length = n at *
  by_cases hk : k = 0
  · subst hk
    go_enter Try.func39, Try.ntmps39
    go_wp2_with fail
    go_ret
    exact ⟨by simp, ext_alloc (Below.refl _ _) _⟩
  · have hb : (k == 0) = false := by simp [hk]
    rw [hb]
    go_enter Try.func39, Try.ntmps39
    go_wp2_with fail
    go_ret
    exact ⟨by simp, ext_alloc (Below.refl _ _) _⟩

/-- The registers and what the unnamed one points to. -/
structure Bs where
  m : Int → Option Rg
  p : Int
def errW (o : Option Rg) : Int := match o with
  | none => 3
  | some _ => 0
def putW (m : Int → Option Rg) (k : Int) (o : Option Rg) : Int → Option Rg := match o with
  | none => m
  | some x => upd m k (some x)
def writeB (s : Bs) (n : Int) (r : Rg) : Int × Bs := (errW (wrtn s.m n r), ⟨putW s.m (sml n) (wrtn s.m n r), s.p⟩)
def nil? (r : Rg) : Bool := r.k == 0 && (r.t.length : Int) == 0
def takeB (s : Bs) (n : Int) (r : Rg) : Int × Bs := if (n == 95 || nil? r) = true then (0, s) else ((writeB s n r).1, ⟨(writeB s n r).2.m, if (wrtn s.m n r).isSome = true then sml n else s.p⟩)
/-- What a call on a bank answers and leaves. -/
def OpR (F : Nat → Prop) (w : World) (b bm N : Nat) (x : Int × Bs) (e : Ending) (w' : World) : Prop := e = .returned (.int .i64 x.1) ∧ Bk F w' b bm N x.2.m x.2.p ∧ Kb b bm w w'
theorem wrtn_ok {m : Int → Option Rg} {n : Int} {r x : Rg} (h : wrtn m n r = some x) (hr : r.t ≠ [] ∨ r.k = 1) (hrk : r.k = 0 ∨ r.k = 1) (hm : ∀ own, m (sml n) = some own → own.t ≠ []) : x.t ≠ [] ∧ x.t.length ≤ 140000 ∧ (x.k = 0 ∨ x.k = 1) := by
  unfold wrtn at h
  split at h
  · cases h
  · rename_i hc
    cases h
    refine ⟨?_, by omega, ?_⟩
    rotate_left 1
    · unfold nxt apd
      cases m (sml n) with
      | none => exact hrk
      | some own =>
        dsimp only
        split
        · split
          · exact hrk
          · split
            · exact .inr rfl
            · exact .inr rfl
        · exact hrk
    have hp := cls_pos r hr
    unfold nxt
    cases hx : m (sml n) with
    | none => exact List.length_pos_iff.1 hp
    | some own =>
      dsimp only
      split
      · have := (apd_len own ⟨r.k, cls r.k r.t⟩).2
        have := List.length_pos_iff.2 (hm own hx)
        exact List.length_pos_iff.1 (by omega)
      · exact List.length_pos_iff.1 hp
theorem Bk.ne {w : World} {b bm N : Nat} {m : Int → Option Rg} {p : Int} (h : Bk F w b bm N m p) {k : Int} (hk : In64 k) (own : Rg) (e : m k = some own) : own.t ≠ [] := by
  obtain ⟨_, _, _, D, _, he⟩ := h
  have := he k hk
  rw [e] at this
  obtain ⟨_, _, _, _, h, _⟩ := this
  exact h

set_option maxRecDepth 100000 in
set_option maxHeartbeats 4000000 in
theorem write_any (w : World) (b bm N : Nat) (s : Bs) (n : Int) (r : Rg) (v : Value) (hB : Bk F w b bm N s.m s.p) (hv : RdS w v r.t) (hn : In64 n) (hr : r.t ≠ [] ∨ r.k = 1) (hrk : r.k = 0 ∨ r.k = 1) (hN : N < 9223372036854775807) :
    Calls Try.prog 40 #[.pointer (some ⟨b, 0, none⟩), .int .i64 n, .agg #[.int .i64 r.k, v]] w (OpR F w b bm (N + 1) (writeB s n r)) := by
  obtain ⟨ao, c, rfl, _⟩ := hv.len
  obtain ⟨w1, hw1, k0, hb1⟩ : ∃ w1, w1 = w.alloc (.cells #[.int .i64 r.k, .slice ao r.t.length c] 31) ∧ w1.heap[w.heap.size]? = some (.cells #[.int .i64 r.k, .slice ao r.t.length c] 31 (0, 0)) ∧ Below w.heap.size w w1 := ⟨_, rfl, heap_alloc_new _ _, ext_alloc (Below.refl _ _) _⟩
  have HBK := hidIt (hB.ext hb1)
  have HB1 := hidIt hb1
  have HBL := hidIt hB.lt
  have WR := hidIt (written_any w1 b bm N s.m s.p n r _ (hB.ext hb1) (hv.ext hb1) hn hr hrk)
  have SMA : Hid (∀ y, Calls Try.prog 42 #[.int .i64 n] y fun e w' => e = .returned (.int .i64 (sml n)) ∧ y = w') := fun y => small_any n y
  have HI := hidIt (sml_in hn)
  have WO := hidIt (fun x h => wrtn_ok (m := s.m) (n := n) (r := r) (x := x) h hr hrk (fun own e => hB.ne (sml_in hn) own e))
  obtain ⟨_, c0, c1, _⟩ := cells2 k0
  clear hB hv hr hrk k0 hb1 hn
  have HWB := hidIt (show writeB s n r = (errW (wrtn s.m n r), ⟨putW s.m (sml n) (wrtn s.m n r), s.p⟩) from rfl)
  cases hw : wrtn s.m n r with
  | none =>
    rw [hw] at WR HWB
    go_enter Try.func40, Try.ntmps40
    go_upto_region 1 with fail
    rw [← hw1]
    clear hw1
    go_upto_region 2 with (go_at_call 54; refine WR.out.mono ?_; rintro e w2 ⟨hx, hb2⟩; have HX := hidIt hx; have HB2 := hidIt hb2; clear hx hb2; have HX2 := hidIt (show e = .returned (.tuple #[.agg #[.int .i64 0, .int .i64 0, .pointer none], .int .i64 3]) from HX.out); clear HX; have hx2 := HX2.out; subst hx2; clear HX2; (try dsimp only))
    generalize hw3 : World.alloc _ _ = w3
    have HB3 : Hid (Below w2.heap.size w2 w3) := by unfold Hid; rw [← hw3]; exact ext_alloc (Below.refl _ _) _
    clear hw3
    go_wp2_with fail
    go_ret
    exact ⟨by rw [HWB.out]; rfl, by rw [HWB.out]; exact ((HBK.out.ext HB2.out).ext HB3.out).mono (by omega), Kb.of (ext_trans (ext_trans HB1.out HB2.out) HB3.out)⟩
  | some x =>
    rw [hw] at WR HWB
    obtain ⟨x1, x2, x3⟩ := WO.out x hw
    go_enter Try.func40, Try.ntmps40
    go_upto_region 1 with fail
    rw [← hw1]
    clear hw1
    go_upto_region 2 with (go_at_call 54; refine WR.out.mono ?_; rintro e w2 ⟨hx, hb2⟩; have HX := hidIt hx; have HB2 := hidIt hb2; clear hx hb2; obtain ⟨au, he, hu⟩ : ∃ au, e = .returned (.tuple #[.agg #[.int .i64 x.k, .int .i64 x.t.length, .pointer au], .int .i64 0]) ∧ Hg F w2 (.pointer au) x.t := HX.out; clear HX; subst he; have HU := hidIt hu; clear hu; (try dsimp only))
    generalize hw3 : World.alloc _ _ = w3
    have HB3 : Hid (Below w2.heap.size w2 w3) := by unfold Hid; rw [← hw3]; exact ext_alloc (Below.refl _ _) _
    have HK3 : Hid (w3.heap[w2.heap.size]? = some (.cells #[.int .i64 x.k, .int .i64 x.t.length, .pointer au] 73 (0, 0))) := by unfold Hid; rw [← hw3]; exact heap_alloc_new _ _
    clear hw3 c0 c1
    obtain ⟨_, d0, d1, d2, _⟩ := cells3 HK3.out
    have HB13 := hidIt (ext_trans HB2.out HB3.out)
    have ks : w3.cell? ⟨b, 0, none⟩ = some (.map (some bm)) ∧ w3.cell? ⟨w2.heap.size, 0, none⟩ = some (.int .i64 x.k) ∧ w3.cell? ⟨w2.heap.size, 1, none⟩ = some (.int .i64 x.t.length) ∧ w3.cell? ⟨w2.heap.size, 2, none⟩ = some (.pointer au) := ⟨(HBK.out.ext HB13.out).cells.1, d0, d1, d2⟩
    obtain ⟨w4, hrun, hbk4, hg4⟩ := (HBK.out.ext HB13.out.drew).store HI.out hN (a := au) (r := x) (HU.out.ext HB3.out.drew) x1 x2 x3
    have ks4 : w4.cell? ⟨b, 0, none⟩ = some (.map (some bm)) ∧ w4.cell? ⟨w2.heap.size, 0, none⟩ = some (.int .i64 x.k) ∧ w4.cell? ⟨w2.heap.size, 1, none⟩ = some (.int .i64 x.t.length) ∧ w4.cell? ⟨w2.heap.size, 2, none⟩ = some (.pointer au) := by
      have e4 := (hg4.block w2.heap.size (Array.getElem?_eq_some_iff.1 HK3.out).1 (by simp; have := HB1.out.size; have := HB2.out.size; have := HBL.out.2.1; omega)).trans HK3.out
      exact ⟨hbk4.cells.1, (cells3 e4).2.1, (cells3 e4).2.2.1, (cells3 e4).2.2.2.1⟩
    have HBK4 := hidIt hbk4
    have HG4 := hidIt hg4
    clear hbk4 hg4 d0 d1 d2
    go_upto_region 3 with fail
    refine wp_region_held_drew (S := fun w'' => w''.cell? ⟨b, 0, none⟩ = some (.map (some bm)) ∧ w''.cell? ⟨w2.heap.size, 0, none⟩ = some (.int .i64 x.k) ∧ w''.cell? ⟨w2.heap.size, 1, none⟩ = some (.int .i64 x.t.length) ∧ w''.cell? ⟨w2.heap.size, 2, none⟩ = some (.pointer au)) (by kernel_rfl) (ks) (fun hHeld => ?_)
    refine wpAnyH_take (i := 0) (oi := _) (v := ?_) rfl (by kernel_rfl) (by kernel_rfl) (by kernel_rfl) (fun _ _ _ h => h) (Or.inl ⟨by rfl, ?_⟩) (by assumption) ?_
    rotate_left 1
    · intro wq hSw; (try dsimp only at hSw); go_simp; try (with_reducible rfl)
    try simp only [Act.put, List.getElem_toArray, List.getElem_cons_zero, List.setIfInBounds_toArray, List.set_cons_zero, List.set_cons_succ]
    refine wpAnyH_take (i := 1) (oi := _) (v := ?_) rfl (by kernel_rfl) (by kernel_rfl) (by kernel_rfl) (fun _ _ _ h => h) (Or.inl ⟨by rfl, ?_⟩) (by assumption) ?_
    rotate_left 1
    · intro wq hSw; (try dsimp only at hSw); go_simp; try (with_reducible rfl)
    try simp only [Act.put, List.getElem_toArray, List.getElem_cons_succ, List.getElem_cons_zero, List.setIfInBounds_toArray, List.set_cons_zero, List.set_cons_succ]
    refine wpAnyH_take (i := 2) (oi := _) (v := ?_) rfl (by kernel_rfl) (by kernel_rfl) (by kernel_rfl) (fun _ _ _ h => h) (Or.inl ⟨by rfl, ?_⟩) (by assumption) ?_
    rotate_left 1
    · intro wq hSw; (try dsimp only at hSw); go_simp; try (with_reducible rfl)
    try simp only [Act.put, List.getElem_toArray, List.getElem_cons_succ, List.getElem_cons_zero, List.setIfInBounds_toArray, List.set_cons_zero, List.set_cons_succ]
    refine wpAnyH_take (i := 3) (oi := _) (v := ?_) rfl (by kernel_rfl) (by kernel_rfl) (by kernel_rfl) (fun _ _ _ h => h) (Or.inl ⟨by rfl, ?_⟩) (by assumption) ?_
    rotate_left 1
    · intro wq hSw; (try dsimp only at hSw); go_simp; try (with_reducible rfl)
    try simp only [Act.put, List.getElem_toArray, List.getElem_cons_succ, List.getElem_cons_zero, List.setIfInBounds_toArray, List.set_cons_zero, List.set_cons_succ]
    refine wpAnyH_take (i := 4) (oi := _) (v := ?_) rfl (by kernel_rfl) (by kernel_rfl) (by kernel_rfl) (fun _ _ _ h => h) (Or.inl ⟨by rfl, ?_⟩) (by assumption) ?_
    rotate_left 1
    · intro wq hSw; (try dsimp only at hSw); go_simp; try (with_reducible rfl)
    try simp only [Act.put, List.getElem_toArray, List.getElem_cons_succ, List.getElem_cons_zero, List.setIfInBounds_toArray, List.set_cons_zero, List.set_cons_succ]
    refine wpAnyH_take (i := 6) (oi := _) (v := ?_) rfl (by kernel_rfl) (by kernel_rfl) (by kernel_rfl) (fun _ _ _ h => h) (Or.inl ⟨by rfl, ?_⟩) (by assumption) ?_
    rotate_left 1
    · intro wq hSw; (try dsimp only at hSw); go_simp; try (with_reducible rfl)
    try simp only [Act.put, List.getElem_toArray, List.getElem_cons_succ, List.getElem_cons_zero, List.setIfInBounds_toArray, List.set_cons_zero, List.set_cons_succ]
    refine wpAnyH_ready (rs := [5]) (by kernel_rfl) (by simp) ?_
    refine AllReadyH.cons (o := _) rfl (fun K hK => ?_) AllReadyH.nil
    go_simp
    refine (SMA.out _).mono ?_; rintro e y9 ⟨rfl, rfl⟩; try dsimp only
    refine hK.out _ _ ?_ (fun hHeld => ?_)
    · (try simp only [World.cell?_drew]); exact ks
    clear hK K
    try simp only [Act.put, List.getElem_toArray, List.getElem_cons_succ, List.getElem_cons_zero, List.setIfInBounds_toArray, List.set_cons_zero, List.set_cons_succ]
    refine wpAnyH_ready (rs := [7]) (by kernel_rfl) (by simp) ?_
    refine AllReadyH.cons (o := _) rfl (fun K hK => ?_) AllReadyH.nil
    go_simp
    refine hK.out _ _ ?_ (fun hHeld => ?_)
    · exact ks4
    clear hK K
    try simp only [Act.put, List.getElem_toArray, List.getElem_cons_succ, List.getElem_cons_zero, List.setIfInBounds_toArray, List.set_cons_zero, List.set_cons_succ]
    refine wpAnyH_done (by kernel_rfl) ?_ _
    go_wp2_with fail
    go_ret
    exact ⟨by rw [HWB.out]; rfl, by rw [HWB.out]; exact HBK4.out, (Kb.of (ext_trans HB1.out HB13.out.drew)).trans (Kb.of_m HG4.out)⟩

end Go.Proofs.Ytmldfjhfgaggpaa
