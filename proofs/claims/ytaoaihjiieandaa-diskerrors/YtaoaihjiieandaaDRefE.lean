/- The document's disk without files: New, Do of a Sync and of a Remove. -/
import Derived.Test.YtaoaihjiieandaaDDir
import Derived.Deep.CutBlock
namespace Go.Proofs.Ytaoaihjiieandaa
open Go.RowKit

/-- The document's disk without files, behind so many steps. -/
def Re (w : World) (q : Nat) (s n : Int) : Prop := w.heap[q]? = some (.cells #[.int .i64 s, .slice none 0 0, .slice none 0 0, .slice none 0 0, .bool false, .slice none 0 0, .int .i64 n] 118 (0, 0))
theorem Re.cs {w : World} {q : Nat} {s n : Int} (h : Re w q s n) : q < w.heap.size ∧ w.cell? ⟨q, 2, none⟩ = some (.slice none 0 0) ∧ w.cell? ⟨q, 3, none⟩ = some (.slice none 0 0) ∧ w.cell? ⟨q, 4, none⟩ = some (.bool false) ∧ w.cell? ⟨q, 5, none⟩ = some (.slice none 0 0) ∧ w.cell? ⟨q, 6, none⟩ = some (.int .i64 n) ∧ ∀ i, w.frozen? ⟨q, i, none⟩ = false := by
  unfold Re at h
  refine ⟨(Array.getElem?_eq_some_iff.1 h).1, ?_, ?_, ?_, ?_, ?_, fun i => by simp [World.frozen?, h]⟩ <;> simp [World.cell?, h]
theorem Re.ext {w w' : World} {q : Nat} {s n : Int} (h : Re w q s n) (hb : Below w.heap.size w w') : Re w' q s n := (hb.block q h.cs.1).trans h

theorem cells7 {w : World} {b : Nat} {T : TypeId} {v0 v1 v2 v3 v4 v5 v6 : Value} (h : w.heap[b]? = some (.cells #[v0, v1, v2, v3, v4, v5, v6] T (0, 0))) : w.cell? ⟨b, 0, none⟩ = some v0 ∧ w.cell? ⟨b, 1, none⟩ = some v1 ∧ w.cell? ⟨b, 2, none⟩ = some v2 ∧ w.cell? ⟨b, 3, none⟩ = some v3 ∧ w.cell? ⟨b, 4, none⟩ = some v4 ∧ w.cell? ⟨b, 5, none⟩ = some v5 ∧ w.cell? ⟨b, 6, none⟩ = some v6 ∧ ∀ i, w.frozen? ⟨b, i, none⟩ = false := by
  refine ⟨?_, ?_, ?_, ?_, ?_, ?_, ?_, fun i => by simp [World.frozen?, h]⟩ <;> simp [World.cell?, h]
/-- Seven stores into a block of seven. -/
theorem put7 {w : World} {b : Nat} {T : TypeId} {v0 v1 v2 v3 v4 v5 v6 : Value} (h : w.heap[b]? = some (.cells #[v0, v1, v2, v3, v4, v5, v6] T (0, 0))) (x0 x1 x2 x3 x4 x5 x6 : Value) :
    (((((((w.setCell ⟨b, 0, none⟩ x0).setCell ⟨b, 1, none⟩ x1).setCell ⟨b, 2, none⟩ x2).setCell ⟨b, 3, none⟩ x3).setCell ⟨b, 4, none⟩ x4).setCell ⟨b, 5, none⟩ x5).setCell ⟨b, 6, none⟩ x6).heap[b]? = some (.cells #[x0, x1, x2, x3, x4, x5, x6] T (0, 0)) ∧ w.grownBy (((((((w.setCell ⟨b, 0, none⟩ x0).setCell ⟨b, 1, none⟩ x1).setCell ⟨b, 2, none⟩ x2).setCell ⟨b, 3, none⟩ x3).setCell ⟨b, 4, none⟩ x4).setCell ⟨b, 5, none⟩ x5).setCell ⟨b, 6, none⟩ x6) (some b) := by
  have h0 : (w.setCell ⟨b, 0, none⟩ x0).heap[b]? = some (.cells #[x0, v1, v2, v3, v4, v5, v6] T (0, 0)) := (set1 h 0 x0).1
  have g0 := (set1 h 0 x0).2
  have h1 : ((w.setCell ⟨b, 0, none⟩ x0).setCell ⟨b, 1, none⟩ x1).heap[b]? = some (.cells #[x0, x1, v2, v3, v4, v5, v6] T (0, 0)) := (set1 h0 1 x1).1
  have g1 := (set1 h0 1 x1).2
  have h2 : (((w.setCell ⟨b, 0, none⟩ x0).setCell ⟨b, 1, none⟩ x1).setCell ⟨b, 2, none⟩ x2).heap[b]? = some (.cells #[x0, x1, x2, v3, v4, v5, v6] T (0, 0)) := (set1 h1 2 x2).1
  have g2 := (set1 h1 2 x2).2
  have h3 : ((((w.setCell ⟨b, 0, none⟩ x0).setCell ⟨b, 1, none⟩ x1).setCell ⟨b, 2, none⟩ x2).setCell ⟨b, 3, none⟩ x3).heap[b]? = some (.cells #[x0, x1, x2, x3, v4, v5, v6] T (0, 0)) := (set1 h2 3 x3).1
  have g3 := (set1 h2 3 x3).2
  have h4 : (((((w.setCell ⟨b, 0, none⟩ x0).setCell ⟨b, 1, none⟩ x1).setCell ⟨b, 2, none⟩ x2).setCell ⟨b, 3, none⟩ x3).setCell ⟨b, 4, none⟩ x4).heap[b]? = some (.cells #[x0, x1, x2, x3, x4, v5, v6] T (0, 0)) := (set1 h3 4 x4).1
  have g4 := (set1 h3 4 x4).2
  have h5 : ((((((w.setCell ⟨b, 0, none⟩ x0).setCell ⟨b, 1, none⟩ x1).setCell ⟨b, 2, none⟩ x2).setCell ⟨b, 3, none⟩ x3).setCell ⟨b, 4, none⟩ x4).setCell ⟨b, 5, none⟩ x5).heap[b]? = some (.cells #[x0, x1, x2, x3, x4, x5, v6] T (0, 0)) := (set1 h4 5 x5).1
  have g5 := (set1 h4 5 x5).2
  have h6 : (((((((w.setCell ⟨b, 0, none⟩ x0).setCell ⟨b, 1, none⟩ x1).setCell ⟨b, 2, none⟩ x2).setCell ⟨b, 3, none⟩ x3).setCell ⟨b, 4, none⟩ x4).setCell ⟨b, 5, none⟩ x5).setCell ⟨b, 6, none⟩ x6).heap[b]? = some (.cells #[x0, x1, x2, x3, x4, x5, x6] T (0, 0)) := (set1 h5 6 x6).1
  have g6 := (set1 h5 6 x6).2
  exact ⟨h6, grown_trans (grown_trans (grown_trans (grown_trans (grown_trans (grown_trans g0 g1) g2) g3) g4) g5) g6⟩
set_option maxRecDepth 100000 in
theorem rNew_any (s : Nat) (hs : s ≤ 1048576) (w : World) : Calls Try.prog 28 #[.int .i64 (s : Int)] w fun e w' => e = .returned (.tuple #[pp w.heap.size, .int .i64 0]) ∧ Re w' w.heap.size s 0 ∧ Below w.heap.size w w' := by
  have h1 : ¬ (s : Int) < 0 := by omega
  have h2 : ¬ (s : Int) > 1048576 := by omega
  go_enter Try.func28, Try.ntmps28
  go_wp2_with fail
  go_ret2
  exact ⟨rfl, heap_alloc_new _ _, ext_alloc (Below.refl _ _) _⟩

set_option maxRecDepth 100000 in
set_option maxHeartbeats 2000000 in
theorem rIsName_any (n : Nm) (hn : n.length ≤ 9223372036854775807) (w : World) : Calls Try.prog 87 #[sv n] w fun e w' => e = .returned (.bool (okN n)) ∧ w = w' := by
  obtain ⟨s, hs, hsz, hat⟩ : ∃ s, bsOf n = s ∧ s.size = n.length ∧ ∀ i (h : i < s.size) (g : i < n.length), s[i]'h = n[i]'g := ⟨_, rfl, bsOf_size n, fun i h _ => bsOf_at n i h⟩
  unfold okN sv
  rw [hs]
  clear hs
  by_cases h0 : n.length = 0
  · have : n = [] := List.length_eq_zero_iff.1 h0
    subst this
    have hz : s.size = 0 := hsz
    clear hat hsz
    go_enter Try.func87, Try.ntmps87
    go_wp2_with fail
    go_ret
    exact ⟨rfl, rfl⟩
  by_cases h1 : 32 < n.length
  · have e : (decide (1 ≤ n.length) && decide (n.length ≤ 32) && n.all okB) = false := by
      have : decide (n.length ≤ 32) = false := by simpa using h1
      simp [this]
    rw [e]
    clear hat e h0
    have hp : 32 < s.size := by omega
    have hq : s.size ≤ 9223372036854775807 := by omega
    clear hsz hn h1
    go_enter Try.func87, Try.ntmps87
    go_wp2_with fail
    go_ret
    exact ⟨rfl, rfl⟩
  · have e : (decide (1 ≤ n.length) && decide (n.length ≤ 32)) = true := by simp; omega
    rw [e, Bool.true_and]
    clear e
    have hp : 1 ≤ s.size := by omega
    have hq : s.size ≤ 32 := by omega
    have HSZ := hidIt hsz
    have HAT := hidIt hat
    clear hn h1 h0 hsz hat
    go_enter Try.func87, Try.ntmps87
    go_wp2_with fail
    go_loopw [3] (fun i wr => ∃ j : Nat, j ≤ s.size ∧ i = .int .i64 j ∧ Hid ((n.take j).all okB = true) ∧ Hid (wr = w)) (fun i _ => s.size - (intOf i).toNat)
    case atStart => exact ⟨0, Nat.zero_le _, rfl, rfl, rfl⟩
    case round =>
      obtain ⟨j, hj, rfl, HA, HW⟩ := hrel
      by_cases hlt : j < s.size
      · have hlt' : (j : Int) < (s.size : Int) := by omega
        have hjn : j < n.length := by have := HSZ.out; omega
        have HT : Hid ((n.take (j + 1)).all okB = okB (n[j]'hjn)) := by
          unfold Hid
          rw [List.take_succ_eq_append_getElem hjn, List.all_append, HA.out]
          simp
        have HL : Hid (okB (n[j]'hjn) = false → n.all okB = false) := by
          intro hf
          rw [List.all_eq_false]
          exact ⟨_, List.getElem_mem hjn, by simp [hf]⟩
        have HE := hidIt (HAT.out j hlt hjn)
        generalize n[j]'hjn = c at *
        have HB : Hid (okB (s[j]'hlt) = okB c) := by unfold Hid; rw [HE.out]
        go_upto_region 7 with fail
        go_cut [4, 5] from 20 to 60 (fun y b wF => y = y ∧ b = .bool (okB (s[j]'hlt)) ∧ wF = wr)
        case first =>
          go_wp2_with fail
          all_goals go_meet
          all_goals (refine ⟨by trivial, ?_, rfl⟩; congr 1; rw [Bool.eq_iff_iff]; unfold okB; simp; omega)
        case rest =>
          obtain ⟨_, rfl, rfl⟩ := hcut
          rw [HB.out]
          clear HB HE HAT
          cases hc : okB c with
          | true =>
            rw [hc] at HT
            go_wp2_with fail
            go_roundw
            case rel => exact ⟨j + 1, by omega, by go_num, HT.out, HW.out⟩
            case measure => simp [intOf]; omega
          | false =>
            go_wp2_with fail
            go_ret
            exact ⟨ret_bool (HL.out hc).symm, HW.out.symm⟩
      · obtain rfl : j = s.size := by omega
        have hge : ¬ (s.size : Int) < (s.size : Int) := by omega
        have HF : Hid (n.all okB = true) := by
          have := HA.out
          rw [List.take_of_length_le (by have := HSZ.out; omega)] at this
          exact this
        go_wp2_with fail
        go_ret
        exact ⟨ret_bool HF.out.symm, HW.out.symm⟩

set_option maxRecDepth 100000 in
theorem rAfter_none {w : World} {q : Nat} {s n : Int} (h : Re w q s n) : Calls Try.prog 91 #[pp q, .int .i64 0] w fun e w' => e = .returned (.slice none 0 0) ∧ w = w' := by
  obtain ⟨_, c2, c3, _, _, _, _⟩ := h.cs
  clear h
  go_enter Try.func91, Try.ntmps91
  go_wp2_with fail
  refine wp_loop_rounds 1 ?_
  rw [rounds_succ]
  go_wp2_with fail
  go_ret
  exact ⟨rfl, rfl⟩
set_option maxRecDepth 100000 in
theorem rSeen_none {w : World} {q : Nat} {s n : Int} (h : Re w q s n) : Calls Try.prog 86 #[pp q] w fun e w' => e = .returned (.slice none 0 0) ∧ w = w' := by
  have AF := hidIt (rAfter_none h)
  obtain ⟨_, c2, c3, _, _, _, _⟩ := h.cs
  clear h
  go_enter Try.func86, Try.ntmps86
  go_wp2_with (go_at_call 91; refine AF.out.mono ?_; rintro e w2 ⟨rfl, rfl⟩)
  go_ret
  exact ⟨rfl, rfl⟩
set_option maxRecDepth 100000 in
theorem rFile_none {w : World} {q : Nat} {s n : Int} (h : Re w q s n) (nm : Value) : Calls Try.prog 88 #[pp q, nm] w fun e w' => e = .returned (.int .i64 0) ∧ w = w' := by
  have SE := hidIt (rSeen_none h)
  clear h
  go_enter Try.func88, Try.ntmps88
  go_wp2_with (go_at_call 86; refine SE.out.mono ?_; rintro e w2 ⟨rfl, rfl⟩)
  refine wp_loop_rounds 1 ?_
  rw [rounds_succ]
  go_wp2_with fail
  go_ret
  exact ⟨rfl, rfl⟩
set_option maxRecDepth 100000 in
theorem rFault_none {w : World} {q : Nat} {s n : Int} (h : Re w q s n) (k : Int) : Calls Try.prog 65 #[pp q, .int .i64 k] w fun e w' => e = .returned (.agg #[.int .i64 0, .int .i64 0, .int .i64 0, .int .i64 0, .slice none 0 0]) ∧ Below w.heap.size w w' := by
  obtain ⟨hq, _, _, _, c5, _, _⟩ := h.cs
  clear h
  go_enter Try.func65, Try.ntmps65
  go_wp2_with fail
  refine wp_loop_rounds 1 ?_
  rw [rounds_succ]
  go_wp2_with fail
  refine bodyPost_ret (v := .agg #[.int .i64 0, .int .i64 0, .int .i64 0, .int .i64 0, .slice none 0 0]) (by simp [results, Try.results65, go_sem]) rfl ⟨rfl, ?_⟩
  exact ext_alloc (Below.refl _ _) _
/-- What Do answers there. -/
def eE (n : Nm) : Int := if okN n = true then 162 else 164
set_option maxRecDepth 100000 in
set_option maxHeartbeats 2000000 in
theorem rOwn_none {w : World} {q : Nat} {s n : Int} (h : Re w q s n) (op : ByteArray) (hop : op = ⟨#[115, 121, 110, 99]⟩ ∨ op = ⟨#[114, 101, 109, 111, 118, 101]⟩) (nm : Nm) (hn : nm.length ≤ 9223372036854775807) :
    Calls Try.prog 66 #[pp q, .agg #[.string op, sv nm, .string ⟨#[]⟩, .slice none 0 0]] w fun e w' => e = .returned (.agg #[.int .i64 0, .slice none 0 0, .int .i64 0, .int .i64 0, .int .i64 0, .int .i64 (eE nm), .int .i64 0]) ∧ Below w.heap.size w w' := by
  have IS := hidIt (rIsName_any nm hn)
  have FI : Hid (∀ w', Below w.heap.size w w' → Calls Try.prog 88 #[pp q, sv nm] w' fun e w'' => e = .returned (.int .i64 0) ∧ w' = w'') := fun w' hb => rFile_none (h.ext hb) _
  have hE := hidIt (show eE nm = if okN nm = true then 162 else 164 from rfl)
  clear h
  generalize eE nm = ee at *
  generalize okN nm = ok at *
  generalize sv nm = nv at *
  rcases hop with rfl | rfl
  · cases ok with
    | true =>
      go_enter Try.func66, Try.ntmps66
      go_upto_region 5 with fail
      go_wp2_with (first | (go_at_call 87; refine (IS.out _).mono ?_; rintro e w2 ⟨rfl, rfl⟩) | (go_at_call 88; refine (FI.out _ (ext_alloc (ext_alloc (Below.refl _ _) _) _)).mono ?_; rintro e w2 ⟨rfl, rfl⟩))
      refine bodyPost_ret (v := .agg #[.int .i64 0, .slice none 0 0, .int .i64 0, .int .i64 0, .int .i64 0, .int .i64 162, .int .i64 0]) (by simp [results, Try.results66, go_sem]) rfl ⟨by rw [hE.out]; rfl, ?_⟩
      exact ext_alloc (ext_alloc (Below.refl _ _) _) _
    | false =>
      go_enter Try.func66, Try.ntmps66
      go_upto_region 5 with fail
      go_wp2_with (first | (go_at_call 87; refine (IS.out _).mono ?_; rintro e w2 ⟨rfl, rfl⟩) | (go_at_call 88; refine (FI.out _ (ext_alloc (ext_alloc (Below.refl _ _) _) _)).mono ?_; rintro e w2 ⟨rfl, rfl⟩))
      refine bodyPost_ret (v := .agg #[.int .i64 0, .slice none 0 0, .int .i64 0, .int .i64 0, .int .i64 0, .int .i64 164, .int .i64 0]) (by simp [results, Try.results66, go_sem]) rfl ⟨by rw [hE.out]; rfl, ?_⟩
      exact ext_alloc (ext_alloc (Below.refl _ _) _) _
  · cases ok with
    | true =>
      go_enter Try.func66, Try.ntmps66
      go_upto_region 5 with fail
      go_wp2_with (first | (go_at_call 87; refine (IS.out _).mono ?_; rintro e w2 ⟨rfl, rfl⟩) | (go_at_call 88; refine (FI.out _ (ext_alloc (ext_alloc (Below.refl _ _) _) _)).mono ?_; rintro e w2 ⟨rfl, rfl⟩))
      refine bodyPost_ret (v := .agg #[.int .i64 0, .slice none 0 0, .int .i64 0, .int .i64 0, .int .i64 0, .int .i64 162, .int .i64 0]) (by simp [results, Try.results66, go_sem]) rfl ⟨by rw [hE.out]; rfl, ?_⟩
      exact ext_alloc (ext_alloc (Below.refl _ _) _) _
    | false =>
      go_enter Try.func66, Try.ntmps66
      go_upto_region 5 with fail
      go_wp2_with (first | (go_at_call 87; refine (IS.out _).mono ?_; rintro e w2 ⟨rfl, rfl⟩) | (go_at_call 88; refine (FI.out _ (ext_alloc (ext_alloc (Below.refl _ _) _) _)).mono ?_; rintro e w2 ⟨rfl, rfl⟩))
      refine bodyPost_ret (v := .agg #[.int .i64 0, .slice none 0 0, .int .i64 0, .int .i64 0, .int .i64 0, .int .i64 164, .int .i64 0]) (by simp [results, Try.results66, go_sem]) rfl ⟨by rw [hE.out]; rfl, ?_⟩
      exact ext_alloc (ext_alloc (Below.refl _ _) _) _

set_option maxRecDepth 100000 in
set_option maxHeartbeats 2000000 in
theorem rDo_none {w : World} {q : Nat} {s : Int} {n : Nat} (h : Re w q s n) (hn0 : n ≤ 1099511627776) (op : ByteArray) (hop : op = ⟨#[115, 121, 110, 99]⟩ ∨ op = ⟨#[114, 101, 109, 111, 118, 101]⟩) (nm : Nm) (hn : nm.length ≤ 9223372036854775807) :
    Calls Try.prog 30 #[pp q, .agg #[.string op, sv nm, .string ⟨#[]⟩, .slice none 0 0]] w fun e w' => e = .returned (.agg #[.int .i64 0, .slice none 0 0, .int .i64 0, .int .i64 0, .int .i64 0, .int .i64 (eE nm), .int .i64 ((n : Int) + 1)]) ∧ Re w' q s ((n : Int) + 1) ∧ w.grownBy w' (some q) := by
  have FA : Hid (∀ w', Re w' q s ((n : Int) + 1) → Calls Try.prog 65 #[pp q, .int .i64 ((n : Int) + 1)] w' fun e w'' => e = .returned (.agg #[.int .i64 0, .int .i64 0, .int .i64 0, .int .i64 0, .slice none 0 0]) ∧ Below w'.heap.size w' w'') := fun w' h' => rFault_none h' _
  have OW : Hid (∀ w', Re w' q s ((n : Int) + 1) → Calls Try.prog 66 #[pp q, .agg #[.string op, sv nm, .string ⟨#[]⟩, .slice none 0 0]] w' fun e w'' => e = .returned (.agg #[.int .i64 0, .slice none 0 0, .int .i64 0, .int .i64 0, .int .i64 0, .int .i64 (eE nm), .int .i64 0]) ∧ Below w'.heap.size w' w'') := fun w' h' => rOwn_none h' op hop nm hn
  have HR := hidIt h
  obtain ⟨hq, c2, c3, c4, c5, c6, fz⟩ := h.cs
  clear h hop
  generalize eE nm = ee at *
  generalize sv nm = nv at *
  go_enter Try.func30, Try.ntmps30
  go_upto_region 5 with fail
  generalize hw1 : World.alloc _ _ = w1
  have HG : Hid (Re w1 q s ((n : Int) + 1) ∧ w.grownBy w1 (some q) ∧ w1.heap[w.heap.size]? = some (.cells #[.string op, nv, .string ⟨#[]⟩, .slice none 0 0] 75 (0, 0)) ∧ w1.heap[w.heap.size + 1]? = some (.cells #[.int .i64 0, .slice none 0 0, .int .i64 0, .int .i64 0, .int .i64 0, .int .i64 0, .int .i64 0] 71 (0, 0))) := by
    obtain ⟨g1, g2⟩ := set1 HR.out 6 (.int .i64 ((n : Int) + 1))
    have z := g2.size
    unfold Hid
    rw [← hw1]
    have e1 : (w.setCell ⟨q, 6, none⟩ (.int .i64 ((n : Int) + 1))).heap.size = w.heap.size := by simp
    refine ⟨((ext_alloc (ext_alloc (Below.refl _ _) _) _).block q (by rw [e1]; exact hq)).trans g1, ?_, ?_, ?_⟩
    · have hb := ext_alloc (ext_alloc (Below.refl _ (w.setCell ⟨q, 6, none⟩ (.int .i64 ((n : Int) + 1)))) (.cells #[.string op, nv, .string ⟨#[]⟩, .slice none 0 0] 75)) (.cells #[.int .i64 0, .slice none 0 0, .int .i64 0, .int .i64 0, .int .i64 0, .int .i64 0, .int .i64 0] 71)
      exact ⟨hb.os.trans g2.os, hb.tape.trans g2.tape, hb.output.trans g2.output, Nat.le_trans g2.size hb.size, fun k hk hn => (hb.block k (Nat.lt_of_lt_of_le hk g2.size)).trans (g2.block k hk hn)⟩
    · rw [← e1]
      exact (heap_alloc_old _ _ (by simp)).trans (heap_alloc_new _ _)
    · have e2 : w.heap.size + 1 = ((w.setCell ⟨q, 6, none⟩ (.int .i64 ((n : Int) + 1))).alloc (.cells #[.string op, nv, .string ⟨#[]⟩, .slice none 0 0] 75)).heap.size := by simp
      rw [e2]
      exact heap_alloc_new _ _
  clear hw1 c2 c3 c4 c5 c6 fz HR
  have CL : Hid (∀ w', Below w1.heap.size w1 w' → w'.cell? ⟨w.heap.size, 0, none⟩ = some (.string op) ∧ w'.cell? ⟨w.heap.size, 1, none⟩ = some nv ∧ w'.cell? ⟨w.heap.size, 2, none⟩ = some (.string ⟨#[]⟩) ∧ w'.cell? ⟨w.heap.size, 3, none⟩ = some (.slice none 0 0) ∧ Re w' q s ((n : Int) + 1)) := fun w' hb => by
    have e := (hb.block _ (Array.getElem?_eq_some_iff.1 HG.out.2.2.1).1).trans HG.out.2.2.1
    refine ⟨?_, ?_, ?_, ?_, HG.out.1.ext hb⟩ <;> simp [World.cell?, e]
  go_upto_region 8 with (go_at_call 65; refine (FA.out _ HG.out.1).mono ?_; rintro e w2 ⟨rfl, hb2⟩; have HB2 := hidIt hb2; clear hb2)
  generalize hw3 : World.alloc _ _ = w3
  have HG3 : Hid (Below w1.heap.size w1 w3 ∧ w3.heap[w2.heap.size + 1]? = some (.cells #[.int .i64 0, .slice none 0 0, .int .i64 0, .int .i64 0, .int .i64 0, .int .i64 0, .int .i64 0] 71 (0, 0))) := by
    unfold Hid
    rw [← hw3]
    refine ⟨ext_alloc (ext_alloc HB2.out _) _, ?_⟩
    have e2 : w2.heap.size + 1 = (w2.alloc (.cells #[.int .i64 0, .int .i64 0, .int .i64 0, .int .i64 0, .slice none 0 0] 62)).heap.size := by simp
    rw [e2]
    exact heap_alloc_new _ _
  clear hw3
  obtain ⟨d0, d1, d2, d3, d4⟩ := CL.out w3 HG3.out.1
  have HD4 := hidIt d4
  clear d4
  go_upto_region 29 with (go_at_call 66; refine (OW.out _ HD4.out).mono ?_; rintro e w4 ⟨rfl, hb4⟩; have HB4 := hidIt (ext_trans HG3.out.1 hb4); have HA4 := hidIt ((hb4.block _ (Array.getElem?_eq_some_iff.1 HG3.out.2).1).trans HG3.out.2); clear hb4 d0 d1 d2 d3; obtain ⟨a0, a1, a2, a3, a4, a5, a6, af⟩ := cells7 HA4.out)
  generalize hw5 : World.setCell _ _ _ = w5
  have z1 : w.heap.size + 1 < w1.heap.size := (Array.getElem?_eq_some_iff.1 HG.out.2.2.2).1
  have z2 := HB2.out.size
  have HG5 : Hid (w5.heap[w2.heap.size + 1]? = some (.cells #[.int .i64 0, .slice none 0 0, .int .i64 0, .int .i64 0, .int .i64 0, .int .i64 ee, .int .i64 0] 71 (0, 0)) ∧ Below w1.heap.size w1 w5) := by
    obtain ⟨p1, p2⟩ := put7 HA4.out (.int .i64 0) (.slice none 0 0) (.int .i64 0) (.int .i64 0) (.int .i64 0) (.int .i64 ee) (.int .i64 0)
    unfold Hid
    rw [← hw5]
    exact ⟨p1, ⟨p2.os.trans HB4.out.os, p2.tape.trans HB4.out.tape, p2.output.trans HB4.out.output, Nat.le_trans HB4.out.size p2.size, fun k hk => (p2.block k (Nat.lt_of_lt_of_le hk HB4.out.size) (by intro e; have := Option.some.inj e; omega)).trans (HB4.out.block k hk)⟩⟩
  clear hw5 a0 a1 a2 a3 a4 a5 a6 af
  obtain ⟨a0, a1, a2, a3, a4, a5, a6, af⟩ := cells7 HG5.out.1
  have HR5 := hidIt ((HG5.out.2.block _ z1).trans HG.out.2.2.2)
  obtain ⟨r0, r1, r2, r3, r4, r5, r6, rf⟩ := cells7 HR5.out
  have hne : w2.heap.size + 1 ≠ w.heap.size + 1 := by omega
  go_wp2_with fail
  generalize hw6 : World.setCell _ _ _ = w6
  have HG6 : Hid (w6.heap[w.heap.size + 1]? = some (.cells #[.int .i64 0, .slice none 0 0, .int .i64 0, .int .i64 0, .int .i64 0, .int .i64 ee, .int .i64 ((n : Int) + 1)] 71 (0, 0)) ∧ Re w6 q s ((n : Int) + 1) ∧ w.grownBy w6 (some q)) := by
    obtain ⟨p1, p2⟩ := set1 HG5.out.1 6 (.int .i64 ((n : Int) + 1))
    have e5 := (p2.block _ (Nat.lt_of_lt_of_le z1 HG5.out.2.size) (by intro e; exact hne (Option.some.inj e).symm)).trans HR5.out
    obtain ⟨p3, p4⟩ := put7 e5 (.int .i64 0) (.slice none 0 0) (.int .i64 0) (.int .i64 0) (.int .i64 0) (.int .i64 ee) (.int .i64 ((n : Int) + 1))
    rw [hw6] at p3 p4
    have g1 := HG.out.2.1
    have z5 := HG5.out.2.size
    have z6 := p2.size
    have zq : ∀ k, k < w.heap.size → w6.heap[k]? = w1.heap[k]? := fun k hk => (p4.block k (by omega) (by intro e; have := Option.some.inj e; omega)).trans ((p2.block k (by omega) (by intro e; have := Option.some.inj e; omega)).trans (HG5.out.2.block k (by omega)))
    refine ⟨p3, (zq q hq).trans HG.out.1, ⟨p4.os.trans (p2.os.trans (HG5.out.2.os.trans g1.os)), p4.tape.trans (p2.tape.trans (HG5.out.2.tape.trans g1.tape)), p4.output.trans (p2.output.trans (HG5.out.2.output.trans g1.output)), by have := p4.size; have := g1.size; omega, fun k hk hn => (zq k hk).trans (g1.block k hk hn)⟩⟩
  clear hw6 a0 a1 a2 a3 a4 a5 a6 af r0 r1 r2 r3 r4 r5 r6 rf
  obtain ⟨r0, r1, r2, r3, r4, r5, r6, rf⟩ := cells7 HG6.out.1
  exact bodyPost_ret (v := .agg #[.int .i64 0, .slice none 0 0, .int .i64 0, .int .i64 0, .int .i64 0, .int .i64 ee, .int .i64 ((n : Int) + 1)]) (by simp [results, Try.results30, go_sem, r0, r1, r2, r3, r4, r5, r6]) rfl ⟨rfl, HG6.out.2.1, HG6.out.2.2⟩
set_option maxRecDepth 100000 in
theorem words_any (k : Int) (hk : k = 3 ∨ k = 6) (w : World) : Calls Try.prog 31 #[.int .i64 k] w fun e w' => e = .returned (.string (if k = 3 then ⟨#[115, 121, 110, 99]⟩ else ⟨#[114, 101, 109, 111, 118, 101]⟩)) ∧ Below w.heap.size w w' := by
  rcases hk with rfl | rfl
  · go_enter Try.func31, Try.ntmps31
    go_wp2_with fail
    go_ret
    exact ⟨rfl, ext_alloc (Below.refl _ _) _⟩
  · go_enter Try.func31, Try.ntmps31
    go_wp2_with fail
    go_ret
    exact ⟨rfl, ext_alloc (Below.refl _ _) _⟩
end Go.Proofs.Ytaoaihjiieandaa
