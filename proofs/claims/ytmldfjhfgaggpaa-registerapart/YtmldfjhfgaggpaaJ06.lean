import Derived.Test.YtmldfjhfgaggpaaJ05
/- register's isNothing, write, take. -/
namespace Go.Proofs.Ytmldfjhfgaggpaa
open Go.RowKit
variable {F : Nat → Prop}

set_option maxRecDepth 100000 in
theorem isNothing_any (k : Int) (v : Value) (t : List Int) (w : World) (h : RdS w v t) : Calls Try.prog 39 #[.agg #[.int .i64 k, v]] w fun e w' => e = .returned (.bool (k == 0 && (t.length : Int) == 0)) ∧ Below w.heap.size w w' := by
  obtain ⟨ao, c, rfl, _⟩ := h.len
  generalize t.length = n at *
  by_cases hk : k = 0
  · subst hk
    go_enter Try.func39, Try.ntmps39
    go_wp2_with fail
    go_ret
    exact ⟨by simp, ext_alloc (Below.refl _ _) _⟩
  · have hb : (k == 0) = false := by simp [hk]
    rw [hb]
    go_enter Try.func39, Try.ntmps39
    go_wp2_with fail
    go_ret
    exact ⟨by simp, ext_alloc (Below.refl _ _) _⟩

/-- The registers and what the unnamed one points to. -/
structure Bs where
  m : Int → Option Rg
  p : Int
def errW (o : Option Rg) : Int := match o with
  | none => 3
  | some _ => 0
def putW (m : Int → Option Rg) (k : Int) (o : Option Rg) : Int → Option Rg := match o with
  | none => m
  | some x => upd m k (some x)
def writeB (s : Bs) (n : Int) (r : Rg) : Int × Bs := (errW (wrtn s.m n r), ⟨putW s.m (sml n) (wrtn s.m n r), s.p⟩)
def nil? (r : Rg) : Bool := r.k == 0 && (r.t.length : Int) == 0
def takeB (s : Bs) (n : Int) (r : Rg) : Int × Bs := if (n == 95 || nil? r) = true then (0, s) else ((writeB s n r).1, ⟨(writeB s n r).2.m, if (wrtn s.m n r).isSome = true then sml n else s.p⟩)
/-- What a call on a bank answers and leaves. -/
def OpR (F : Nat → Prop) (w : World) (b bm N : Nat) (x : Int × Bs) (e : Ending) (w' : World) : Prop := e = .returned (.int .i64 x.1) ∧ Bk F w' b bm N x.2.m x.2.p ∧ Kb b bm w w'
theorem wrtn_ok {m : Int → Option Rg} {n : Int} {r x : Rg} (h : wrtn m n r = some x) (hr : r.t ≠ [] ∨ r.k = 1) (hrk : r.k = 0 ∨ r.k = 1) (hm : ∀ own, m (sml n) = some own → own.t ≠ []) : x.t ≠ [] ∧ x.t.length ≤ 140000 ∧ (x.k = 0 ∨ x.k = 1) := by
  unfold wrtn at h
  split at h
  · cases h
  · rename_i hc
    cases h
    refine ⟨?_, by omega, ?_⟩
    rotate_left 1
    · unfold nxt apd
      cases m (sml n) with
      | none => exact hrk
      | some own =>
        dsimp only
        split
        · split
          · exact hrk
          · split
            · exact .inr rfl
            · exact .inr rfl
        · exact hrk
    have hp := cls_pos r hr
    unfold nxt
    cases hx : m (sml n) with
    | none => exact List.length_pos_iff.1 hp
    | some own =>
      dsimp only
      split
      · have := (apd_len own ⟨r.k, cls r.k r.t⟩).2
        have := List.length_pos_iff.2 (hm own hx)
        exact List.length_pos_iff.1 (by omega)
      · exact List.length_pos_iff.1 hp
theorem Bk.ne {w : World} {b bm N : Nat} {m : Int → Option Rg} {p : Int} (h : Bk F w b bm N m p) {k : Int} (hk : In64 k) (own : Rg) (e : m k = some own) : own.t ≠ [] := by
  obtain ⟨_, _, _, D, _, he⟩ := h
  have := he k hk
  rw [e] at this
  obtain ⟨_, _, _, _, h, _⟩ := this
  exact h

set_option maxRecDepth 100000 in
set_option maxHeartbeats 4000000 in
theorem write_any (w : World) (b bm N : Nat) (s : Bs) (n : Int) (r : Rg) (v : Value) (hB : Bk F w b bm N s.m s.p) (hv : RdS w v r.t) (hn : In64 n) (hr : r.t ≠ [] ∨ r.k = 1) (hrk : r.k = 0 ∨ r.k = 1) (hN : N < 9223372036854775807) :
    Calls Try.prog 40 #[.pointer (some ⟨b, 0, none⟩), .int .i64 n, .agg #[.int .i64 r.k, v]] w (OpR F w b bm (N + 1) (writeB s n r)) := by
  obtain ⟨ao, c, rfl, _⟩ := hv.len
  obtain ⟨w1, hw1, k0, hb1⟩ : ∃ w1, w1 = w.alloc (.cells #[.int .i64 r.k, .slice ao r.t.length c] 31) ∧ w1.heap[w.heap.size]? = some (.cells #[.int .i64 r.k, .slice ao r.t.length c] 31 (0, 0)) ∧ Below w.heap.size w w1 := ⟨_, rfl, heap_alloc_new _ _, ext_alloc (Below.refl _ _) _⟩
  have HBK := hidIt (hB.ext hb1)
  have HB1 := hidIt hb1
  have HBL := hidIt hB.lt
  have WR := hidIt (written_any w1 b bm N s.m s.p n r _ (hB.ext hb1) (hv.ext hb1) hn hr hrk)
  have SMA : Hid (∀ y, Calls Try.prog 42 #[.int .i64 n] y fun e w' => e = .returned (.int .i64 (sml n)) ∧ y = w') := fun y => small_any n y
  have HI := hidIt (sml_in hn)
  have WO := hidIt (fun x h => wrtn_ok (m := s.m) (n := n) (r := r) (x := x) h hr hrk (fun own e => hB.ne (sml_in hn) own e))
  obtain ⟨_, c0, c1, _⟩ := cells2 k0
  clear hB hv hr hrk k0 hb1 hn
  have HWB := hidIt (show writeB s n r = (errW (wrtn s.m n r), ⟨putW s.m (sml n) (wrtn s.m n r), s.p⟩) from rfl)
  cases hw : wrtn s.m n r with
  | none =>
    rw [hw] at WR HWB
    go_enter Try.func40, Try.ntmps40
    go_upto_region 1 with fail
    rw [← hw1]
    clear hw1
    go_upto_region 2 with (go_at_call 54; refine WR.out.mono ?_; rintro e w2 ⟨hx, hb2⟩; have HX := hidIt hx; have HB2 := hidIt hb2; clear hx hb2; have HX2 := hidIt (show e = .returned (.tuple #[.agg #[.int .i64 0, .int .i64 0, .pointer none], .int .i64 3]) from HX.out); clear HX; have hx2 := HX2.out; subst hx2; clear HX2; (try dsimp only))
    generalize hw3 : World.alloc _ _ = w3
    have HB3 : Hid (Below w2.heap.size w2 w3) := by unfold Hid; rw [← hw3]; exact ext_alloc (Below.refl _ _) _
    clear hw3
    go_wp2_with fail
    go_ret
    exact ⟨by rw [HWB.out]; rfl, by rw [HWB.out]; exact ((HBK.out.ext HB2.out).ext HB3.out).mono (by omega), Kb.of (ext_trans (ext_trans HB1.out HB2.out) HB3.out)⟩
  | some x =>
    rw [hw] at WR HWB
    obtain ⟨x1, x2, x3⟩ := WO.out x hw
    go_enter Try.func40, Try.ntmps40
    go_upto_region 1 with fail
    rw [← hw1]
    clear hw1
    go_upto_region 2 with (go_at_call 54; refine WR.out.mono ?_; rintro e w2 ⟨hx, hb2⟩; have HX := hidIt hx; have HB2 := hidIt hb2; clear hx hb2; obtain ⟨au, he, hu⟩ : ∃ au, e = .returned (.tuple #[.agg #[.int .i64 x.k, .int .i64 x.t.length, .pointer au], .int .i64 0]) ∧ Hg F w2 (.pointer au) x.t := HX.out; clear HX; subst he; have HU := hidIt hu; clear hu; (try dsimp only))
    generalize hw3 : World.alloc _ _ = w3
    have HB3 : Hid (Below w2.heap.size w2 w3) := by unfold Hid; rw [← hw3]; exact ext_alloc (Below.refl _ _) _
    have HK3 : Hid (w3.heap[w2.heap.size]? = some (.cells #[.int .i64 x.k, .int .i64 x.t.length, .pointer au] 73 (0, 0))) := by unfold Hid; rw [← hw3]; exact heap_alloc_new _ _
    clear hw3 c0 c1
    obtain ⟨_, d0, d1, d2, _⟩ := cells3 HK3.out
    have HB13 := hidIt (ext_trans HB2.out HB3.out)
    have ks : w3.cell? ⟨b, 0, none⟩ = some (.map (some bm)) ∧ w3.cell? ⟨w2.heap.size, 0, none⟩ = some (.int .i64 x.k) ∧ w3.cell? ⟨w2.heap.size, 1, none⟩ = some (.int .i64 x.t.length) ∧ w3.cell? ⟨w2.heap.size, 2, none⟩ = some (.pointer au) := ⟨(HBK.out.ext HB13.out).cells.1, d0, d1, d2⟩
    obtain ⟨w4, hrun, hbk4, hg4⟩ := (HBK.out.ext HB13.out.drew).store HI.out hN (a := au) (r := x) (HU.out.ext HB3.out.drew) x1 x2 x3
    have ks4 : w4.cell? ⟨b, 0, none⟩ = some (.map (some bm)) ∧ w4.cell? ⟨w2.heap.size, 0, none⟩ = some (.int .i64 x.k) ∧ w4.cell? ⟨w2.heap.size, 1, none⟩ = some (.int .i64 x.t.length) ∧ w4.cell? ⟨w2.heap.size, 2, none⟩ = some (.pointer au) := by
      have e4 := (hg4.block w2.heap.size (Array.getElem?_eq_some_iff.1 HK3.out).1 (by simp; have := HB1.out.size; have := HB2.out.size; have := HBL.out.2.1; omega)).trans HK3.out
      exact ⟨hbk4.cells.1, (cells3 e4).2.1, (cells3 e4).2.2.1, (cells3 e4).2.2.2.1⟩
    have HBK4 := hidIt hbk4
    have HG4 := hidIt hg4
    clear hbk4 hg4 d0 d1 d2
    go_upto_region 3 with fail
    refine wp_region_held_drew (S := fun w'' => w''.cell? ⟨b, 0, none⟩ = some (.map (some bm)) ∧ w''.cell? ⟨w2.heap.size, 0, none⟩ = some (.int .i64 x.k) ∧ w''.cell? ⟨w2.heap.size, 1, none⟩ = some (.int .i64 x.t.length) ∧ w''.cell? ⟨w2.heap.size, 2, none⟩ = some (.pointer au)) (by kernel_rfl) (ks) (fun hHeld => ?_)
    refine wpAnyH_take (i := 0) (oi := _) (v := ?_) rfl (by kernel_rfl) (by kernel_rfl) (by kernel_rfl) (fun _ _ _ h => h) (Or.inl ⟨by rfl, ?_⟩) (by assumption) ?_
    rotate_left 1
    · intro wq hSw; (try dsimp only at hSw); go_simp; try (with_reducible rfl)
    try simp only [Act.put, List.getElem_toArray, List.getElem_cons_zero, List.setIfInBounds_toArray, List.set_cons_zero, List.set_cons_succ]
    refine wpAnyH_take (i := 1) (oi := _) (v := ?_) rfl (by kernel_rfl) (by kernel_rfl) (by kernel_rfl) (fun _ _ _ h => h) (Or.inl ⟨by rfl, ?_⟩) (by assumption) ?_
    rotate_left 1
    · intro wq hSw; (try dsimp only at hSw); go_simp; try (with_reducible rfl)
    try simp only [Act.put, List.getElem_toArray, List.getElem_cons_succ, List.getElem_cons_zero, List.setIfInBounds_toArray, List.set_cons_zero, List.set_cons_succ]
    refine wpAnyH_take (i := 2) (oi := _) (v := ?_) rfl (by kernel_rfl) (by kernel_rfl) (by kernel_rfl) (fun _ _ _ h => h) (Or.inl ⟨by rfl, ?_⟩) (by assumption) ?_
    rotate_left 1
    · intro wq hSw; (try dsimp only at hSw); go_simp; try (with_reducible rfl)
    try simp only [Act.put, List.getElem_toArray, List.getElem_cons_succ, List.getElem_cons_zero, List.setIfInBounds_toArray, List.set_cons_zero, List.set_cons_succ]
    refine wpAnyH_take (i := 3) (oi := _) (v := ?_) rfl (by kernel_rfl) (by kernel_rfl) (by kernel_rfl) (fun _ _ _ h => h) (Or.inl ⟨by rfl, ?_⟩) (by assumption) ?_
    rotate_left 1
    · intro wq hSw; (try dsimp only at hSw); go_simp; try (with_reducible rfl)
    try simp only [Act.put, List.getElem_toArray, List.getElem_cons_succ, List.getElem_cons_zero, List.setIfInBounds_toArray, List.set_cons_zero, List.set_cons_succ]
    refine wpAnyH_take (i := 4) (oi := _) (v := ?_) rfl (by kernel_rfl) (by kernel_rfl) (by kernel_rfl) (fun _ _ _ h => h) (Or.inl ⟨by rfl, ?_⟩) (by assumption) ?_
    rotate_left 1
    · intro wq hSw; (try dsimp only at hSw); go_simp; try (with_reducible rfl)
    try simp only [Act.put, List.getElem_toArray, List.getElem_cons_succ, List.getElem_cons_zero, List.setIfInBounds_toArray, List.set_cons_zero, List.set_cons_succ]
    refine wpAnyH_take (i := 6) (oi := _) (v := ?_) rfl (by kernel_rfl) (by kernel_rfl) (by kernel_rfl) (fun _ _ _ h => h) (Or.inl ⟨by rfl, ?_⟩) (by assumption) ?_
    rotate_left 1
    · intro wq hSw; (try dsimp only at hSw); go_simp; try (with_reducible rfl)
    try simp only [Act.put, List.getElem_toArray, List.getElem_cons_succ, List.getElem_cons_zero, List.setIfInBounds_toArray, List.set_cons_zero, List.set_cons_succ]
    refine wpAnyH_ready (rs := [5]) (by kernel_rfl) (by simp) ?_
    refine AllReadyH.cons (o := _) rfl (fun K hK => ?_) AllReadyH.nil
    go_simp
    refine (SMA.out _).mono ?_; rintro e y9 ⟨rfl, rfl⟩; try dsimp only
    refine hK.out _ _ ?_ (fun hHeld => ?_)
    · (try simp only [World.cell?_drew]); exact ks
    clear hK K
    try simp only [Act.put, List.getElem_toArray, List.getElem_cons_succ, List.getElem_cons_zero, List.setIfInBounds_toArray, List.set_cons_zero, List.set_cons_succ]
    refine wpAnyH_ready (rs := [7]) (by kernel_rfl) (by simp) ?_
    refine AllReadyH.cons (o := _) rfl (fun K hK => ?_) AllReadyH.nil
    go_simp
    refine hK.out _ _ ?_ (fun hHeld => ?_)
    · exact ks4
    clear hK K
    try simp only [Act.put, List.getElem_toArray, List.getElem_cons_succ, List.getElem_cons_zero, List.setIfInBounds_toArray, List.set_cons_zero, List.set_cons_succ]
    refine wpAnyH_done (by kernel_rfl) ?_ _
    go_wp2_with fail
    go_ret
    exact ⟨by rw [HWB.out]; rfl, by rw [HWB.out]; exact HBK4.out, (Kb.of (ext_trans HB1.out HB13.out.drew)).trans (Kb.of_m HG4.out)⟩

end Go.Proofs.Ytmldfjhfgaggpaa

/- register's take, New. -/
namespace Go.Proofs.Ytmldfjhfgaggpaa
open Go.RowKit
variable {F : Nat → Prop}

theorem takeB_skip {s : Bs} {n : Int} {r : Rg} (h : (n == 95 || nil? r) = true) : takeB s n r = (0, s) := by unfold takeB; rw [if_pos h]
theorem takeB_none {s : Bs} {n : Int} {r : Rg} (h : (n == 95 || nil? r) = false) (hw : wrtn s.m n r = none) : takeB s n r = (3, s) := by unfold takeB writeB; rw [if_neg (by simp [h]), hw]; rfl
theorem takeB_some {s : Bs} {n : Int} {r x : Rg} (h : (n == 95 || nil? r) = false) (hw : wrtn s.m n r = some x) : takeB s n r = (0, ⟨upd s.m (sml n) (some x), sml n⟩) := by unfold takeB writeB; rw [if_neg (by simp [h]), hw]; rfl
theorem writeB_none {s : Bs} {n : Int} {r : Rg} (hw : wrtn s.m n r = none) : writeB s n r = (3, s) := by unfold writeB; rw [hw]; rfl
theorem writeB_some {s : Bs} {n : Int} {r x : Rg} (hw : wrtn s.m n r = some x) : writeB s n r = (0, ⟨upd s.m (sml n) (some x), s.p⟩) := by unfold writeB; rw [hw]; rfl
theorem not_nil {r : Rg} (h : nil? r = false) (hk : r.k = 0 ∨ r.k = 1) : r.t ≠ [] ∨ r.k = 1 := by
  rcases hk with hk | hk
  · left
    intro e
    unfold nil? at h
    rw [hk, e] at h
    exact absurd h (by decide)
  · exact .inr hk

set_option maxRecDepth 100000 in
set_option maxHeartbeats 4000000 in
theorem take_any (w : World) (b bm N : Nat) (s : Bs) (n : Int) (r : Rg) (v : Value) (hB : Bk F w b bm N s.m s.p) (hv : RdS w v r.t) (hn : In64 n) (hk : r.k = 0 ∨ r.k = 1) (hN : N < 9223372036854775807) :
    Calls Try.prog 34 #[.pointer (some ⟨b, 0, none⟩), .int .i64 n, .agg #[.int .i64 r.k, v]] w (OpR F w b bm (N + 1) (takeB s n r)) := by
  obtain ⟨ao, c, rfl, _⟩ := hv.len
  obtain ⟨w1, hw1, k0, hb1⟩ : ∃ w1, w1 = w.alloc (.cells #[.int .i64 r.k, .slice ao r.t.length c] 31) ∧ w1.heap[w.heap.size]? = some (.cells #[.int .i64 r.k, .slice ao r.t.length c] 31 (0, 0)) ∧ Below w.heap.size w w1 := ⟨_, rfl, heap_alloc_new _ _, ext_alloc (Below.refl _ _) _⟩
  have HB1 := hidIt hb1
  have HBK := hidIt (hB.ext hb1)
  have HK0 := hidIt k0
  have IN := hidIt (isNothing_any r.k _ r.t w1 (hv.ext hb1))
  have HI := hidIt (sml_in hn)
  have SMA : Hid (∀ y, Calls Try.prog 42 #[.int .i64 n] y fun e w' => e = .returned (.int .i64 (sml n)) ∧ y = w') := fun y => small_any n y
  obtain ⟨_, c0, c1, _⟩ := cells2 k0
  by_cases h95 : n = 95
  · have hb95 : (n == 95) = true := by simp [h95]
    have HT := hidIt (takeB_skip (s := s) (r := r) (show (n == 95 || nil? r) = true by simp [hb95]))
    clear hB hv hk k0 hb1 h95 hn
    go_enter Try.func34, Try.ntmps34
    go_upto_region 1 with fail
    rw [← hw1]
    clear hw1
    go_wp2_with fail
    go_ret
    exact ⟨by rw [HT.out]; rfl, by rw [HT.out]; exact HBK.out.mono (by omega), Kb.of HB1.out⟩
  have hb95 : (n == 95) = false := by simp [h95]
  clear h95
  cases hnil : nil? r
  case true =>
    have HT := hidIt (takeB_skip (s := s) (n := n) (r := r) (show (n == 95 || nil? r) = true by simp [hnil]))
    have IN2 : Hid (Calls Try.prog 39 #[.agg #[.int .i64 r.k, .slice ao r.t.length c]] w1 fun e w' => e = .returned (.bool true) ∧ Below w1.heap.size w1 w') := by
      have h := IN.out
      rw [show (r.k == 0 && (r.t.length : Int) == 0) = true from hnil] at h
      exact h
    clear hB hv hk k0 hb1 hn IN
    go_enter Try.func34, Try.ntmps34
    go_upto_region 1 with fail
    rw [← hw1]
    clear hw1
    go_wp2_with (go_at_call 39; refine IN2.out.mono ?_; rintro e w2 ⟨rfl, hb2⟩; have HB2 := hidIt hb2; clear hb2; (try dsimp only))
    go_ret
    exact ⟨by rw [HT.out]; rfl, by rw [HT.out]; exact (HBK.out.ext HB2.out).mono (by omega), Kb.of (ext_trans HB1.out HB2.out)⟩
  have IN2 : Hid (Calls Try.prog 39 #[.agg #[.int .i64 r.k, .slice ao r.t.length c]] w1 fun e w' => e = .returned (.bool false) ∧ Below w1.heap.size w1 w') := by
    have h := IN.out
    rw [show (r.k == 0 && (r.t.length : Int) == 0) = false from hnil] at h
    exact h
  have WR : Hid (∀ w2, Below w1.heap.size w1 w2 → Calls Try.prog 40 #[.pointer (some ⟨b, 0, none⟩), .int .i64 n, .agg #[.int .i64 r.k, .slice ao r.t.length c]] w2 (OpR F w2 b bm (N + 1) (writeB s n r))) := fun w2 hb => write_any w2 b bm N s n r _ (HBK.out.ext hb) ((hv.ext hb1).ext hb) hn (not_nil hnil hk) hk hN
  have HC : Hid (∀ w2, Below w1.heap.size w1 w2 → w2.cell? ⟨w.heap.size, 0, none⟩ = some (.int .i64 r.k) ∧ w2.cell? ⟨w.heap.size, 1, none⟩ = some (.slice ao r.t.length c)) := fun w2 hb => by
    have e := (hb.block _ (Array.getElem?_eq_some_iff.1 HK0.out).1).trans HK0.out
    exact ⟨(cells2 e).2.1, (cells2 e).2.2.1⟩
  have hcond : (n == 95 || nil? r) = false := by simp [hb95, hnil]
  cases hw : wrtn s.m n r with
  | none =>
    have HT := hidIt (takeB_none hcond hw)
    rw [writeB_none hw] at WR
    clear hB hv hk k0 hb1 hn IN hcond hnil hw
    go_enter Try.func34, Try.ntmps34
    go_upto_region 1 with fail
    rw [← hw1]
    clear hw1
    go_wp2_with (first | (go_at_call 39; refine IN2.out.mono ?_; rintro e w2 ⟨rfl, hb2⟩; have HB2 := hidIt hb2; clear hb2; clear c0 c1; obtain ⟨c0, c1⟩ := HC.out w2 HB2.out; (try dsimp only)) | (go_at_call 40; refine (WR.out _ HB2.out).mono ?_; rintro e w3 ⟨rfl, hbk, hkb⟩; have HB3 := hidIt hbk; have HK3 := hidIt hkb; clear hbk hkb; (try dsimp only)))
    go_ret
    exact ⟨by rw [HT.out]; rfl, by rw [HT.out]; exact HB3.out, (Kb.of (ext_trans HB1.out HB2.out)).trans HK3.out⟩
  | some x =>
    have HT := hidIt (takeB_some hcond hw)
    rw [writeB_some hw] at WR
    clear hB hv hk k0 hb1 hn IN hcond hnil hw
    go_enter Try.func34, Try.ntmps34
    go_upto_region 1 with fail
    rw [← hw1]
    clear hw1
    go_wp2_with (first | (go_at_call 39; refine IN2.out.mono ?_; rintro e w2 ⟨rfl, hb2⟩; have HB2 := hidIt hb2; clear hb2; clear c0 c1; obtain ⟨c0, c1⟩ := HC.out w2 HB2.out; (try dsimp only)) | (go_at_call 40; refine (WR.out _ HB2.out).mono ?_; rintro e w3 ⟨rfl, hbk, hkb⟩; have HB3 := hidIt hbk; have HK3 := hidIt hkb; clear c0 c1; obtain ⟨c0, c1, cf⟩ := hbk.cells; clear hbk hkb; (try dsimp only)) | (go_at_call 42; refine (SMA.out _).mono ?_; rintro e y9 ⟨rfl, rfl⟩; (try dsimp only)))
    go_ret
    have hp := HB3.out.point HI.out
    exact ⟨by rw [HT.out]; rfl, by rw [HT.out]; exact hp.1, ((Kb.of (ext_trans HB1.out HB2.out)).trans HK3.out).trans (Kb.of_b hp.2)⟩

set_option maxRecDepth 100000 in
theorem New_any (w : World) : Calls Try.prog 31 #[] w fun e w' => ∃ b bm, e = .returned (.pointer (some ⟨b, 0, none⟩)) ∧ Bk (F1 b) w' b bm 0 (fun _ => none) 0 ∧ w.heap.size ≤ b ∧ w.heap.size ≤ bm ∧ Below w.heap.size w w' := by
  have hmm := @run_makeMap Try.prog
  go_enter Try.func31, Try.ntmps31
  go_wp2_with fail
  go_ret
  refine ⟨w.heap.size + 1, w.heap.size, by simp, ⟨?_, In64.of (by omega) (by omega), ⟨rfl, fun q hq => by rw [hq]; simp⟩, .map [], ?_, fun k _ => rfl⟩, by omega, Nat.le_refl _, ext_alloc (ext_alloc (Below.refl _ _) _) _⟩
  · have := heap_alloc_new (w.alloc (.map #[] 0)) (.cells #[.map (some w.heap.size), .int .i64 0] 70)
    simpa using this
  · exact (World.ownsMap_made w Try.prog 3 heldR).alloc _
end Go.Proofs.Ytmldfjhfgaggpaa

/- register's move, takeIntoRing. -/
namespace Go.Proofs.Ytmldfjhfgaggpaa
open Go.RowKit
variable {F : Nat → Prop}

set_option maxRecDepth 100000 in
set_option maxHeartbeats 4000000 in
theorem move_any (w : World) (b bm N : Nat) (m : Int → Option Rg) (p : Int) (f d : Int) (hB : Bk F w b bm N m p) (hf : In64 f) (hd : In64 d) (hN : N < 9223372036854775807) :
    Calls Try.prog 55 #[.pointer (some ⟨b, 0, none⟩), .int .i64 f, .int .i64 d] w fun e w' => e = .returned (.tuple #[]) ∧ Bk F w' b bm (N + 1) (upd m d (m f)) p ∧ Kb b bm w w' := by
  obtain ⟨lv, hlook, hshw⟩ := hB.look hf
  obtain ⟨c0, _, _⟩ := hB.cells
  have hlk := hlook w rfl
  have HBK := hidIt hB
  have HBL := hidIt hB.lt
  clear hlook
  cases hm : m f with
  | none =>
    rw [hm] at hlk hshw
    have h3 : lv = .agg #[.int .i64 0, .int .i64 0, .pointer none] := hshw
    subst h3
    clear hshw
    obtain ⟨w1, hw1, hb1⟩ : ∃ w1, w1 = w.alloc (.cells #[.int .i64 0, .int .i64 0, .pointer none] 73) ∧ Below w.heap.size w w1 := ⟨_, rfl, ext_alloc (Below.refl _ _) _⟩
    obtain ⟨w2, hrun, hbk2, hg2⟩ := (hB.ext hb1).drop hd 0
    have c0' := (hB.ext hb1).cells.1
    have HB1 := hidIt hb1
    have HBK2 := hidIt hbk2
    have HG2 := hidIt hg2
    clear hB hbk2 hg2 hb1
    go_enter Try.func55, Try.ntmps55
    go_upto_region 1 with fail
    rw [← hw1]
    clear hw1 c0
    go_wp2_with fail
    refine bodyPost_end (results_none rfl _ _ _) rfl ⟨rfl, HBK2.out.mono (by omega), (Kb.of HB1.out).trans (Kb.of_m HG2.out)⟩
  | some x =>
    rw [hm] at hlk hshw
    obtain ⟨au, h3, hu, hn, hl, hxk⟩ := hshw
    subst h3
    obtain ⟨w1, hw1, k1, hb1⟩ : ∃ w1, w1 = w.alloc (.cells #[.int .i64 x.k, .int .i64 x.t.length, .pointer au] 73) ∧ w1.heap[w.heap.size]? = some (.cells #[.int .i64 x.k, .int .i64 x.t.length, .pointer au] 73 (0, 0)) ∧ Below w.heap.size w w1 := ⟨_, rfl, heap_alloc_new _ _, ext_alloc (Below.refl _ _) _⟩
    obtain ⟨w4, hrun, hbk4, hg4⟩ := (hB.ext hb1.drew).store hd hN (a := au) (r := x) (hu.ext hb1.drew) hn hl hxk
    obtain ⟨_, d0, d1, d2, _⟩ := cells3 k1
    have ks : w1.cell? ⟨b, 0, none⟩ = some (.map (some bm)) ∧ w1.cell? ⟨w.heap.size, 0, none⟩ = some (.int .i64 x.k) ∧ w1.cell? ⟨w.heap.size, 1, none⟩ = some (.int .i64 x.t.length) ∧ w1.cell? ⟨w.heap.size, 2, none⟩ = some (.pointer au) := ⟨(hB.ext hb1).cells.1, d0, d1, d2⟩
    have ks4 : w4.cell? ⟨b, 0, none⟩ = some (.map (some bm)) ∧ w4.cell? ⟨w.heap.size, 0, none⟩ = some (.int .i64 x.k) ∧ w4.cell? ⟨w.heap.size, 1, none⟩ = some (.int .i64 x.t.length) ∧ w4.cell? ⟨w.heap.size, 2, none⟩ = some (.pointer au) := by
      have e4 := (hg4.block w.heap.size (Array.getElem?_eq_some_iff.1 k1).1 (by simp; have := HBL.out.2.1; omega)).trans k1
      exact ⟨hbk4.cells.1, (cells3 e4).2.1, (cells3 e4).2.2.1, (cells3 e4).2.2.2.1⟩
    have HB1 := hidIt hb1
    have HBK4 := hidIt hbk4
    have HG4 := hidIt hg4
    clear hB hbk4 hg4 hb1 hu hn hl hxk d0 d1 d2
    go_enter Try.func55, Try.ntmps55
    go_upto_region 1 with fail
    rw [← hw1]
    clear hw1 c0
    go_upto_region 2 with fail
    refine wp_region_held_drew (S := fun w'' => w''.cell? ⟨b, 0, none⟩ = some (.map (some bm)) ∧ w''.cell? ⟨w.heap.size, 0, none⟩ = some (.int .i64 x.k) ∧ w''.cell? ⟨w.heap.size, 1, none⟩ = some (.int .i64 x.t.length) ∧ w''.cell? ⟨w.heap.size, 2, none⟩ = some (.pointer au)) (by kernel_rfl) (ks) (fun hHeld => ?_)
    refine wpAnyH_take (i := 0) (oi := _) (v := ?_) rfl (by kernel_rfl) (by kernel_rfl) (by kernel_rfl) (fun _ _ _ h => h) (Or.inl ⟨by rfl, ?_⟩) (by assumption) ?_
    rotate_left 1
    · intro wq hSw; (try dsimp only at hSw); go_simp; try (with_reducible rfl)
    try simp only [Act.put, List.getElem_toArray, List.getElem_cons_zero, List.setIfInBounds_toArray, List.set_cons_zero, List.set_cons_succ]
    refine wpAnyH_take (i := 1) (oi := _) (v := ?_) rfl (by kernel_rfl) (by kernel_rfl) (by kernel_rfl) (fun _ _ _ h => h) (Or.inl ⟨by rfl, ?_⟩) (by assumption) ?_
    rotate_left 1
    · intro wq hSw; (try dsimp only at hSw); go_simp; try (with_reducible rfl)
    try simp only [Act.put, List.getElem_toArray, List.getElem_cons_succ, List.getElem_cons_zero, List.setIfInBounds_toArray, List.set_cons_zero, List.set_cons_succ]
    refine wpAnyH_take (i := 2) (oi := _) (v := ?_) rfl (by kernel_rfl) (by kernel_rfl) (by kernel_rfl) (fun _ _ _ h => h) (Or.inl ⟨by rfl, ?_⟩) (by assumption) ?_
    rotate_left 1
    · intro wq hSw; (try dsimp only at hSw); go_simp; try (with_reducible rfl)
    try simp only [Act.put, List.getElem_toArray, List.getElem_cons_succ, List.getElem_cons_zero, List.setIfInBounds_toArray, List.set_cons_zero, List.set_cons_succ]
    refine wpAnyH_take (i := 3) (oi := _) (v := ?_) rfl (by kernel_rfl) (by kernel_rfl) (by kernel_rfl) (fun _ _ _ h => h) (Or.inl ⟨by rfl, ?_⟩) (by assumption) ?_
    rotate_left 1
    · intro wq hSw; (try dsimp only at hSw); go_simp; try (with_reducible rfl)
    try simp only [Act.put, List.getElem_toArray, List.getElem_cons_succ, List.getElem_cons_zero, List.setIfInBounds_toArray, List.set_cons_zero, List.set_cons_succ]
    refine wpAnyH_take (i := 4) (oi := _) (v := ?_) rfl (by kernel_rfl) (by kernel_rfl) (by kernel_rfl) (fun _ _ _ h => h) (Or.inl ⟨by rfl, ?_⟩) (by assumption) ?_
    rotate_left 1
    · intro wq hSw; (try dsimp only at hSw); go_simp; try (with_reducible rfl)
    try simp only [Act.put, List.getElem_toArray, List.getElem_cons_succ, List.getElem_cons_zero, List.setIfInBounds_toArray, List.set_cons_zero, List.set_cons_succ]
    refine wpAnyH_take (i := 5) (oi := _) (v := ?_) rfl (by kernel_rfl) (by kernel_rfl) (by kernel_rfl) (fun _ _ _ h => h) (Or.inl ⟨by rfl, ?_⟩) (by assumption) ?_
    rotate_left 1
    · intro wq hSw; (try dsimp only at hSw); go_simp; try (with_reducible rfl)
    try simp only [Act.put, List.getElem_toArray, List.getElem_cons_succ, List.getElem_cons_zero, List.setIfInBounds_toArray, List.set_cons_zero, List.set_cons_succ]
    refine wpAnyH_ready (rs := [6]) (by kernel_rfl) (by simp) ?_
    refine AllReadyH.cons (o := _) rfl (fun K hK => ?_) AllReadyH.nil
    go_simp
    refine hK.out _ _ ?_ (fun hHeld => ?_)
    · exact ks4
    clear hK K
    try simp only [Act.put, List.getElem_toArray, List.getElem_cons_succ, List.getElem_cons_zero, List.setIfInBounds_toArray, List.set_cons_zero, List.set_cons_succ]
    refine wpAnyH_done (by kernel_rfl) ?_ _
    go_wp2_with fail
    refine bodyPost_end (results_none rfl _ _ _) rfl ⟨rfl, HBK4.out, (Kb.of HB1.out.drew).trans (Kb.of_m HG4.out)⟩


/-- The ring, moved on down to d. -/
def rng (m : Int → Option Rg) (d : Int) : Int → Option Rg := fun j => if d < j ∧ j ≤ 57 then m (j - 1) else m j
theorem rng_top (m : Int → Option Rg) : rng m 57 = m := by
  funext j
  unfold rng
  rw [if_neg (by omega)]
theorem rng_step (m : Int → Option Rg) (d : Int) (h : d ≤ 57) : upd (rng m d) d (rng m d (d - 1)) = rng m (d - 1) := by
  funext j
  unfold upd rng
  by_cases hj : j = d
  · subst hj
    rw [if_pos rfl, if_neg (by omega), if_pos (by omega)]
  · rw [if_neg hj]
    by_cases h1 : d < j ∧ j ≤ 57
    · rw [if_pos h1, if_pos (by omega)]
    · rw [if_neg h1, if_neg (by omega)]
def ringB (s : Bs) (r : Rg) : Int × Bs := match wrtn s.m 49 r with
  | none => (3, s)
  | some x => (0, ⟨upd (rng s.m 49) 49 (some x), 49⟩)

set_option maxRecDepth 100000 in
set_option maxHeartbeats 4000000 in
theorem ring_any (w : World) (b bm N : Nat) (s : Bs) (r : Rg) (v : Value) (hB : Bk F w b bm N s.m s.p) (hv : RdS w v r.t) (hr : r.t ≠ [] ∨ r.k = 1) (hrk : r.k = 0 ∨ r.k = 1) (hN : N < 9223372036854775000) :
    Calls Try.prog 37 #[.pointer (some ⟨b, 0, none⟩), .agg #[.int .i64 r.k, v]] w (OpR F w b bm (N + 9) (ringB s r)) := by
  obtain ⟨ao, c, rfl, _⟩ := hv.len
  obtain ⟨w1, hw1, k0, hb1⟩ : ∃ w1, w1 = w.alloc (.cells #[.int .i64 r.k, .slice ao r.t.length c] 31) ∧ w1.heap[w.heap.size]? = some (.cells #[.int .i64 r.k, .slice ao r.t.length c] 31 (0, 0)) ∧ Below w.heap.size w w1 := ⟨_, rfl, heap_alloc_new _ _, ext_alloc (Below.refl _ _) _⟩
  have HBK := hidIt (hB.ext hb1)
  have HB1 := hidIt hb1
  have HBL := hidIt hB.lt
  have h49 : In64 49 := In64.of (by omega) (by omega)
  have WR := hidIt (written_any w1 b bm N s.m s.p 49 r _ (hB.ext hb1) (hv.ext hb1) h49 hr hrk)
  have WO := hidIt (fun x h => wrtn_ok (m := s.m) (n := 49) (r := r) (x := x) h hr hrk (fun own e => hB.ne (sml_in h49) own e))
  obtain ⟨_, c0, c1, _⟩ := cells2 k0
  clear hB hv hr hrk k0 hb1 h49
  cases hw : wrtn s.m 49 r with
  | none =>
    have HT := hidIt (show ringB s r = (3, s) by unfold ringB; rw [hw])
    rw [hw] at WR
    go_enter Try.func37, Try.ntmps37
    go_upto_region 1 with fail
    rw [← hw1]
    clear hw1
    go_upto_region 2 with (go_at_call 54; refine WR.out.mono ?_; rintro e w2 ⟨hx, hb2⟩; have HX := hidIt hx; have HB2 := hidIt hb2; clear hx hb2; have HX2 := hidIt (show e = .returned (.tuple #[.agg #[.int .i64 0, .int .i64 0, .pointer none], .int .i64 3]) from HX.out); clear HX; have hx2 := HX2.out; subst hx2; clear HX2; (try dsimp only))
    generalize hw3 : World.alloc _ _ = w3
    have HB3 : Hid (Below w2.heap.size w2 w3) := by unfold Hid; rw [← hw3]; exact ext_alloc (Below.refl _ _) _
    clear hw3
    go_wp2_with fail
    go_ret
    exact ⟨by rw [HT.out]; rfl, by rw [HT.out]; exact ((HBK.out.ext HB2.out).ext HB3.out).mono (by omega), Kb.of (ext_trans (ext_trans HB1.out HB2.out) HB3.out)⟩
  | some x =>
    have HT := hidIt (show ringB s r = (0, ⟨upd (rng s.m 49) 49 (some x), 49⟩) by unfold ringB; rw [hw])
    rw [hw] at WR
    obtain ⟨x1, x2, x3⟩ := WO.out x hw
    clear hw WO
    go_enter Try.func37, Try.ntmps37
    go_upto_region 1 with fail
    rw [← hw1]
    clear hw1
    go_upto_region 2 with (go_at_call 54; refine WR.out.mono ?_; rintro e w2 ⟨hx, hb2⟩; have HX := hidIt hx; have HB2 := hidIt hb2; clear hx hb2; obtain ⟨au, he, hu⟩ : ∃ au, e = .returned (.tuple #[.agg #[.int .i64 x.k, .int .i64 x.t.length, .pointer au], .int .i64 0]) ∧ Hg F w2 (.pointer au) x.t := HX.out; clear HX; subst he; have HU := hidIt hu; clear hu; (try dsimp only))
    generalize hw3 : World.alloc _ _ = w3
    have HB3 : Hid (Below w2.heap.size w2 w3) := by unfold Hid; rw [← hw3]; exact ext_alloc (Below.refl _ _) _
    have HK3 : Hid (w3.heap[w2.heap.size]? = some (.cells #[.int .i64 x.k, .int .i64 x.t.length, .pointer au] 73 (0, 0))) := by unfold Hid; rw [← hw3]; exact heap_alloc_new _ _
    clear hw3 c0 c1
    have HB13 := hidIt (ext_trans HB2.out HB3.out)
    go_wp2_with fail
    go_loopw [7] (fun i wr => ∃ k : Nat, k ≤ 8 ∧ i = .int .i64 (49 + (k : Int)) ∧ Bk F wr b bm (N + (8 - k)) (rng s.m (49 + (k : Int))) s.p ∧ Kb b bm w3 wr) (fun i _ => ((RowKit.intOf i) - 49).toNat)
    case atStart => exact ⟨8, Nat.le_refl _, rfl, by rw [show (49 + ((8 : Nat) : Int)) = 57 by omega, rng_top]; exact HBK.out.ext HB13.out, Kb.refl _ _ _⟩
    case round =>
      obtain ⟨k, hk, rfl, hbw, hkw⟩ := hrel
      have HBW := hidIt hbw
      have HKW := hidIt hkw
      clear hbw hkw
      by_cases hk0 : 0 < k
      · have hgt : (49 + (k : Int)) > 49 := by omega
        have hwr : IntKind.i64.wrap (49 + (k : Int) - 1) = 49 + (k : Int) - 1 := by rw [IntKind.wrap_i64]; omega
        have MV := hidIt (move_any wr b bm _ _ _ (49 + (k : Int) - 1) (49 + (k : Int)) HBW.out (In64.of (by omega) (by omega)) (In64.of (by omega) (by omega)) (by omega))
        rw [rng_step _ _ (by omega)] at MV
        have HST := hidIt (show 49 + (k : Int) - 1 = 49 + ((k - 1 : Nat) : Int) by omega)
        have hkk : N + (8 - k) + 1 = N + (8 - (k - 1)) := by omega
        rw [hkk] at MV
        clear hkk
        generalize hq : (49 : Int) + (k : Int) = q at *
        go_wp2_with (go_at_call 55; refine MV.out.mono ?_; rintro e w5 ⟨rfl, hb5, hk5⟩; have HB5 := hidIt hb5; have HK5 := hidIt hk5; clear hb5 hk5; (try dsimp only))
        go_roundw
        case rel => exact ⟨k - 1, by omega, by rw [HST.out], by rw [← HST.out]; exact HB5.out, HKW.out.trans HK5.out⟩
        case measure => simp [RowKit.intOf]; omega
      · have hkz : k = 0 := by omega
        subst hkz
        have HBW2 : Hid (Bk F wr b bm (N + 8) (rng s.m 49) s.p) := by
          have h := HBW.out
          unfold Hid
          simpa using h
        obtain ⟨w4, hrun, hbk4, hg4⟩ := (HBW2.out.ext (Below.drew (Below.refl _ _))).store (k := 49) (In64.of (by omega) (by omega)) (by omega) (a := au) (r := x) (by
          obtain ⟨_, _, hFb, D, ⟨es, cl, hmp, _⟩, _⟩ := HBK.out.ext HB13.out
          exact (Kb.hg (HU.out.ext HB3.out) HKW.out hFb.1 hmp).ext (Below.drew (Below.refl _ _))) x1 x2 x3
        have hk7 := (HKW.out.block (k := w2.heap.size) (Array.getElem?_eq_some_iff.1 HK3.out).1 (by have := HB1.out.size; have := HB2.out.size; have := HBL.out.1; omega) (by have := HB1.out.size; have := HB2.out.size; have := HBL.out.2.1; omega)).trans HK3.out
        obtain ⟨_, d0, d1, d2, _⟩ := cells3 hk7
        have ks : wr.cell? ⟨b, 0, none⟩ = some (.map (some bm)) ∧ wr.cell? ⟨w2.heap.size, 0, none⟩ = some (.int .i64 x.k) ∧ wr.cell? ⟨w2.heap.size, 1, none⟩ = some (.int .i64 x.t.length) ∧ wr.cell? ⟨w2.heap.size, 2, none⟩ = some (.pointer au) := ⟨HBW2.out.cells.1, d0, d1, d2⟩
        have ks4 : w4.cell? ⟨b, 0, none⟩ = some (.map (some bm)) ∧ w4.cell? ⟨w2.heap.size, 0, none⟩ = some (.int .i64 x.k) ∧ w4.cell? ⟨w2.heap.size, 1, none⟩ = some (.int .i64 x.t.length) ∧ w4.cell? ⟨w2.heap.size, 2, none⟩ = some (.pointer au) := by
          have e4 := (hg4.block w2.heap.size (Array.getElem?_eq_some_iff.1 hk7).1 (by simp; have := HB1.out.size; have := HB2.out.size; have := HBL.out.2.1; omega)).trans hk7
          exact ⟨hbk4.cells.1, (cells3 e4).2.1, (cells3 e4).2.2.1, (cells3 e4).2.2.2.1⟩
        have HBK4 := hidIt hbk4
        have HG4 := hidIt hg4
        clear hbk4 hg4 d0 d1 d2 hk7
        go_upto_region 8 with fail
        refine wp_region_held_drew (S := fun w'' => w''.cell? ⟨b, 0, none⟩ = some (.map (some bm)) ∧ w''.cell? ⟨w2.heap.size, 0, none⟩ = some (.int .i64 x.k) ∧ w''.cell? ⟨w2.heap.size, 1, none⟩ = some (.int .i64 x.t.length) ∧ w''.cell? ⟨w2.heap.size, 2, none⟩ = some (.pointer au)) (by kernel_rfl) (ks) (fun hHeld => ?_)
        refine wpAnyH_take (i := 0) (oi := _) (v := ?_) rfl (by kernel_rfl) (by kernel_rfl) (by kernel_rfl) (fun _ _ _ h => h) (Or.inl ⟨by rfl, ?_⟩) (by assumption) ?_
        rotate_left 1
        · intro wq hSw; (try dsimp only at hSw); go_simp; try (with_reducible rfl)
        try simp only [Act.put, List.getElem_toArray, List.getElem_cons_zero, List.setIfInBounds_toArray, List.set_cons_zero, List.set_cons_succ]
        refine wpAnyH_take (i := 1) (oi := _) (v := ?_) rfl (by kernel_rfl) (by kernel_rfl) (by kernel_rfl) (fun _ _ _ h => h) (Or.inl ⟨by rfl, ?_⟩) (by assumption) ?_
        rotate_left 1
        · intro wq hSw; (try dsimp only at hSw); go_simp; try (with_reducible rfl)
        try simp only [Act.put, List.getElem_toArray, List.getElem_cons_succ, List.getElem_cons_zero, List.setIfInBounds_toArray, List.set_cons_zero, List.set_cons_succ]
        refine wpAnyH_take (i := 2) (oi := _) (v := ?_) rfl (by kernel_rfl) (by kernel_rfl) (by kernel_rfl) (fun _ _ _ h => h) (Or.inl ⟨by rfl, ?_⟩) (by assumption) ?_
        rotate_left 1
        · intro wq hSw; (try dsimp only at hSw); go_simp; try (with_reducible rfl)
        try simp only [Act.put, List.getElem_toArray, List.getElem_cons_succ, List.getElem_cons_zero, List.setIfInBounds_toArray, List.set_cons_zero, List.set_cons_succ]
        refine wpAnyH_take (i := 3) (oi := _) (v := ?_) rfl (by kernel_rfl) (by kernel_rfl) (by kernel_rfl) (fun _ _ _ h => h) (Or.inl ⟨by rfl, ?_⟩) (by assumption) ?_
        rotate_left 1
        · intro wq hSw; (try dsimp only at hSw); go_simp; try (with_reducible rfl)
        try simp only [Act.put, List.getElem_toArray, List.getElem_cons_succ, List.getElem_cons_zero, List.setIfInBounds_toArray, List.set_cons_zero, List.set_cons_succ]
        refine wpAnyH_take (i := 4) (oi := _) (v := ?_) rfl (by kernel_rfl) (by kernel_rfl) (by kernel_rfl) (fun _ _ _ h => h) (Or.inl ⟨by rfl, ?_⟩) (by assumption) ?_
        rotate_left 1
        · intro wq hSw; (try dsimp only at hSw); go_simp; try (with_reducible rfl)
        try simp only [Act.put, List.getElem_toArray, List.getElem_cons_succ, List.getElem_cons_zero, List.setIfInBounds_toArray, List.set_cons_zero, List.set_cons_succ]
        refine wpAnyH_ready (rs := [5]) (by kernel_rfl) (by simp) ?_
        refine AllReadyH.cons (o := _) rfl (fun K hK => ?_) AllReadyH.nil
        go_simp
        refine hK.out _ _ ?_ (fun hHeld => ?_)
        · exact ks4
        clear hK K
        try simp only [Act.put, List.getElem_toArray, List.getElem_cons_succ, List.getElem_cons_zero, List.setIfInBounds_toArray, List.set_cons_zero, List.set_cons_succ]
        refine wpAnyH_done (by kernel_rfl) ?_ _
        have c4 := HBK4.out.cells
        go_wp2_with fail
        go_ret
        have hp := HBK4.out.point (q := 49) (In64.of (by omega) (by omega))
        exact ⟨by rw [HT.out]; rfl, by rw [HT.out]; exact hp.1.mono (by omega), ((Kb.of (ext_trans HB1.out HB13.out)).trans (HKW.out.trans (Kb.of (Below.drew (Below.refl _ _))))).trans ((Kb.of_m HG4.out).trans (Kb.of_b hp.2))⟩

end Go.Proofs.Ytmldfjhfgaggpaa
