/- KeysTrie, as a walk. -/
import Derived.Test.YtdfmpnnenjnllaaKLkd
namespace Go.Proofs.Ytdfmpnnenjnllaa
open Go.RowKit

/-- A call of the script. -/
structure Lk where
  p : Bool
  who : Int
  v : Int
  a : Option Addr
  c : Nat
  ks : List Int
def tot (xs : List Lk) : Nat := (xs.map fun x => x.ks.length + 1).sum
theorem tot_take (xs : List Lk) (i : Nat) (h : i < xs.length) : tot (xs.take (i + 1)) = tot (xs.take i) + xs[i].ks.length + 1 := by
  unfold tot
  rw [List.take_succ_eq_append_getElem h, List.map_append, List.sum_append]
  simp
  omega
theorem tot_le (xs : List Lk) (i : Nat) : tot (xs.take i) ≤ tot xs := by
  unfold tot
  conv => rhs; rw [← List.take_append_drop i xs]
  rw [List.map_append, List.sum_append]
  omega
/-- The script in memory. -/
def RdK (w : World) (v : Value) (xs : List Lk) : Prop := ∃ ao cap, v = .slice ao xs.length cap ∧ xs.length ≤ cap ∧ cap ≤ 9223372036854775807 ∧ (xs ≠ [] → ∃ b off, ao = some ⟨b, off, none⟩ ∧ b < w.heap.size ∧ ∀ i x, xs[i]? = some x →
  w.cell? ⟨b, off + i * 4, none⟩ = some (.bool x.p) ∧ w.cell? ⟨b, off + i * 4 + 1, none⟩ = some (.int .i64 x.who) ∧ w.cell? ⟨b, off + i * 4 + 2, none⟩ = some (.int .i64 x.v) ∧ w.cell? ⟨b, off + i * 4 + 3, none⟩ = some (.slice x.a x.ks.length x.c) ∧ RdS w (.slice x.a x.ks.length x.c) x.ks ∧ ∀ k ∈ x.ks, In64 k)

/-- Both threes of tries. -/
def Kk (w wr : World) (zb bt bg br bu bh bs N : Nat) : Prop :=
  ∃ A B C L A' B' C' L', Tp wr bt bg br A B C N L ∧ Tp wr bu bh bs A' B' C' N L' ∧ (∀ k, U3 A B C k → ¬ U3 A' B' C' k) ∧ (∀ k, U3 A B C k → w.heap.size ≤ k ∧ k < zb) ∧ (∀ k, U3 A' B' C' k → w.heap.size ≤ k ∧ k < zb) ∧ Below w.heap.size w wr
section
variable {w wr : World} {zb bt bg br bu bh bs N : Nat}
theorem Kk.bel (h : Kk w wr zb bt bg br bu bh bs N) : Below w.heap.size w wr := by obtain ⟨_, _, _, _, _, _, _, _, _, _, _, _, _, h⟩ := h; exact h
theorem Kk.ext {w' : World} (h : Kk w wr zb bt bg br bu bh bs N) (hb : Below wr.heap.size wr w') : Kk w w' zb bt bg br bu bh bs N := by
  obtain ⟨A, B, C, L, A', B', C', L', h1, h2, h3, h4, h5, h6⟩ := h
  exact ⟨A, B, C, L, A', B', C', L', h1.ext hb, h2.ext hb, h3, h4, h5, h6.trans (hb.mono h6.size)⟩
theorem Kk.mono {N' zb' : Nat} (h : Kk w wr zb bt bg br bu bh bs N) (hN : N ≤ N') (hz : zb ≤ zb') : Kk w wr zb' bt bg br bu bh bs N' := by
  obtain ⟨A, B, C, L, A', B', C', L', h1, h2, h3, h4, h5, h6⟩ := h
  exact ⟨A, B, C, L, A', B', C', L', h1.mono hN, h2.mono hN, h3, fun k hk => ⟨(h4 k hk).1, by have := (h4 k hk).2; omega⟩, fun k hk => ⟨(h5 k hk).1, by have := (h5 k hk).2; omega⟩, h6⟩
theorem Kk.flip (h : Kk w wr zb bt bg br bu bh bs N) : Kk w wr zb bu bh bs bt bg br N := by
  obtain ⟨A, B, C, L, A', B', C', L', h1, h2, h3, h4, h5, h6⟩ := h
  exact ⟨A', B', C', L', A, B, C, L, h2, h1, fun k hk hk2 => h3 k hk2 hk, h5, h4, h6⟩
theorem Kk.call (h : Kk w wr zb bt bg br bu bh bs N) (pf : Bool) (who v : Int) (ka : Option Addr) (kc : Nat) (ks : List Int) (hk : ∀ w', Kps (fun k => w.heap.size ≤ k ∧ k < zb) wr w' → RdS w' (.slice ka ks.length kc) ks) (h64 : ∀ k ∈ ks, In64 k) (hN : N + ks.length + 1 ≤ 4294967296) :
    Calls Try.prog 5 #[.pointer (some ⟨bt, 0, none⟩), .pointer (some ⟨bg, 0, none⟩), .pointer (some ⟨br, 0, none⟩), .agg #[.bool pf, .int .i64 who, .int .i64 v, .slice ka ks.length kc]] wr fun e w' => e = .returned (.bool true) ∧ Kk w w' w'.heap.size bt bg br bu bh bs (N + ks.length + 1) ∧ wr.heap.size ≤ w'.heap.size := by
  obtain ⟨A, B, C, L, A', B', C', L', h1, h2, h3, h4, h5, h6⟩ := h
  refine (looked_any bt bg br A B C N L pf who v ka ks.length kc ks wr h1 (fun w' hw => hk w' (hw.mono (fun k _ e => h4 k e))) h64 hN).mono ?_
  rintro e w' ⟨rfl, A2, B2, C2, L2, t1, t2, t3⟩
  have hs := t2.size
  have hs6 := h6.size
  refine ⟨rfl, ⟨A2, B2, C2, L2, A', B', C', L', t1, (h2.same (fun k hk => t2.same k (h2.lt k hk) (fun e => h3 k e hk))).mono (by omega), fun k hk hk2 => ?_, fun k hk => ⟨?_, t1.lt k hk⟩, fun k hk => ⟨(h5 k hk).1, by have := h2.lt k hk; omega⟩, ?_⟩, hs⟩
  · rcases t3 k hk with e | e
    · exact h3 k e hk2
    · have := h2.lt k hk2
      omega
  · rcases t3 k hk with e | e
    · exact (h4 k e).1
    · omega
  · refine h6.trans (t2.below (n := w.heap.size) h6.size (fun k e => (h4 k e).1))
/-- Keys that lie in the elder memory. -/
theorem Kk.old (h : Kk w wr zb bt bg br bu bh bs N) {l : Value} {ks : List Int} (hr : RdS w l ks) : ∀ w', Kps (fun k => w.heap.size ≤ k ∧ k < zb) wr w' → RdS w' l ks := fun _ hw =>
  hr.ext (h.bel.trans (hw.below (n := w.heap.size) h.bel.size (fun _ e => e.1)))
end
theorem lit_rd {w w' : World} {xs : List Int} {T : TypeId} {zb base : Nat} (hz : zb = w.heap.size) (hl : xs.length ≤ 100) (hk : Kps (fun k => base ≤ k ∧ k < zb) (w.alloc (.cells (xs.map (Value.int .i64)).toArray T)) w') : RdS w' (.slice (some ⟨w.heap.size, 0, none⟩) xs.length xs.length) xs := by
  have h1 : w'.heap[w.heap.size]? = some (.cells (xs.map (Value.int .i64)).toArray T (0, 0)) := (hk.same _ (by rw [World.size_alloc]; omega) (fun e => by omega)).trans (heap_alloc_new _ _)
  refine ⟨⟨_, xs.length, rfl, Nat.le_refl _, by unfold maxLen; omega, fun _ => ⟨w.heap.size, 0, rfl, (Array.getElem?_eq_some_iff.1 h1).1, fun i hi => ?_⟩⟩, .inr ⟨_, _, _, rfl⟩⟩
  rw [cell_of_row _ _ _ _ _ _ h1, Nat.zero_add]
  simp [hi]
/-- A call with keys that are written out. -/
theorem Kk.lit {w y : World} {bt bg br bu bh bs N : Nat} (h : Kk w y y.heap.size bt bg br bu bh bs N) (pf : Bool) (who v : Int) (xs : List Int) (hl : xs.length ≤ 100) (h64 : ∀ k ∈ xs, In64 k) (hN : N + xs.length + 1 ≤ 4294967296) :
    Calls Try.prog 5 #[.pointer (some ⟨bt, 0, none⟩), .pointer (some ⟨bg, 0, none⟩), .pointer (some ⟨br, 0, none⟩), .agg #[.bool pf, .int .i64 who, .int .i64 v, .slice (some ⟨y.heap.size, 0, none⟩) xs.length xs.length]] (y.alloc (.cells (xs.map (Value.int .i64)).toArray 3)) fun e w' => e = .returned (.bool true) ∧ Kk w w' w'.heap.size bt bg br bu bh bs (N + xs.length + 1) := by
  refine ((h.ext (ext_alloc (Below.refl _ _) _)).call pf who v (some ⟨y.heap.size, 0, none⟩) xs.length xs (fun w' hw => lit_rd rfl hl hw) h64 hN).mono ?_
  rintro e w' ⟨h1, h2, _⟩
  exact ⟨h1, h2⟩
/-- A trie that was made just now. -/
theorem BI.new {w : World} {b : Nat} (h : w.heap[b]? = some (.cells #[.map none, .slice none 0 0] 26 (0, 0))) : BI w b (fun k => k = b) 0 [] :=
  ⟨fun _ => False, 0, [], [], _, _, h, TeI.empty _ _ _, Tri.empty, Nat.le_refl _, Nat.le_refl _, fun _ e => e.elim, fun e => e, rfl, fun k e => by subst e; exact (Array.getElem?_eq_some_iff.1 h).1⟩
theorem BG.new {w : World} {b : Nat} (h : w.heap[b]? = some (.cells #[.map none, .slice none 0 0] 29 (0, 0))) : BG w b (fun k => k = b) 0 [] :=
  ⟨fun _ => False, 0, [], [], _, _, h, TeG.empty _ _ _, Tri.empty, Nat.le_refl _, Nat.le_refl _, fun _ e => e.elim, fun e => e, rfl, fun k e => by subst e; exact (Array.getElem?_eq_some_iff.1 h).1⟩
theorem DT.new {w : World} {b : Nat} (h : w.heap[b]? = some (.cells #[.slice none 0 0, .slice none 0 0] 34 (0, 0))) : DT w b (fun k => k = b) [] (.slice none 0 0) (.slice none 0 0) [] :=
  ⟨h, rfl, rfl, World.ownsRow_nil _ _ _ _, OwnI.nil _ _, (fun g e => by cases e), (fun g e => by cases e), (fun i u r hu => by simp at hu), (fun u hu => by cases hu), (fun k e => by subst e; exact (Array.getElem?_eq_some_iff.1 h).1)⟩
theorem Tp.new {w : World} {bt bg br : Nat} (h1 : w.heap[bt]? = some (.cells #[.map none, .slice none 0 0] 26 (0, 0))) (h2 : w.heap[bg]? = some (.cells #[.map none, .slice none 0 0] 29 (0, 0))) (h3 : w.heap[br]? = some (.cells #[.slice none 0 0, .slice none 0 0] 34 (0, 0))) :
    Tp w bt bg br (fun k => k = bt) (fun k => k = bg) (fun k => k = br) 0 [] :=
  ⟨.new h1, .new h2, ⟨_, _, _, .new h3⟩, fun k e e2 => typ_ne h1 h2 (by decide) (e.symm.trans e2), fun k e e2 => typ_ne h1 h3 (by decide) (e.symm.trans e2), fun k e e2 => typ_ne h2 h3 (by decide) (e.symm.trans e2), Nat.le_refl _⟩

set_option maxRecDepth 100000 in
set_option maxHeartbeats 4000000 in
theorem trie_any (v : Value) (xs : List Lk) (w : World) (h : RdK w v xs) (ht : tot xs ≤ 1048576) :
    Calls Try.prog 3 #[v] w fun e w' => e = .returned (.bool true) ∧ Below w.heap.size w w' := by
  obtain ⟨ao, cap, rfl, hl1, hl2, hcl⟩ := h
  have HCL := hidIt hcl
  have HTT := hidIt ht
  clear hcl ht
  obtain ⟨w6, hw6⟩ : ∃ w6, w6 = ((((((w.alloc (.cells #[.map none, .slice none 0 0] 26)).alloc (.cells #[.map none, .slice none 0 0] 26)).alloc (.cells #[.map none, .slice none 0 0] 29)).alloc (.cells #[.map none, .slice none 0 0] 29)).alloc (.cells #[.slice none 0 0, .slice none 0 0] 34)).alloc (.cells #[.slice none 0 0, .slice none 0 0] 34)) := ⟨_, rfl⟩
  have HK0 : Hid (Kk w w6 w6.heap.size w.heap.size (w.heap.size + 2) (w.heap.size + 4) (w.heap.size + 1) (w.heap.size + 3) (w.heap.size + 5) 0) := by
    have hb : Below w.heap.size w w6 := by rw [hw6]; exact ext_alloc (ext_alloc (ext_alloc (ext_alloc (ext_alloc (ext_alloc (Below.refl _ _) _) _) _) _) _) _
    have g : ∀ (a : World) (o : Obj) (j : Nat) (ob : Obj), a.heap[j]? = some ob → (a.alloc o).heap[j]? = some ob := fun a o j ob h => ((MapKept.heap_alloc a o).2 j (Array.getElem?_eq_some_iff.1 h).1).trans h
    have n : ∀ (a : World) (o : Obj) (j : Nat), a.heap.size = j → (a.alloc o).heap[j]? = some o := fun a o j h => by rw [← h]; exact heap_alloc_new _ _
    have e0 : w6.heap[w.heap.size]? = some (.cells #[.map none, .slice none 0 0] 26 (0, 0)) := by rw [hw6]; exact g _ _ _ _ (g _ _ _ _ (g _ _ _ _ (g _ _ _ _ (g _ _ _ _ (n _ _ _ rfl)))))
    have e1 : w6.heap[w.heap.size + 1]? = some (.cells #[.map none, .slice none 0 0] 26 (0, 0)) := by rw [hw6]; exact g _ _ _ _ (g _ _ _ _ (g _ _ _ _ (g _ _ _ _ (n _ _ _ (by simp [World.size_alloc])))))
    have e2 : w6.heap[w.heap.size + 2]? = some (.cells #[.map none, .slice none 0 0] 29 (0, 0)) := by rw [hw6]; exact g _ _ _ _ (g _ _ _ _ (g _ _ _ _ (n _ _ _ (by simp [World.size_alloc]))))
    have e3 : w6.heap[w.heap.size + 3]? = some (.cells #[.map none, .slice none 0 0] 29 (0, 0)) := by rw [hw6]; exact g _ _ _ _ (g _ _ _ _ (n _ _ _ (by simp [World.size_alloc])))
    have e4 : w6.heap[w.heap.size + 4]? = some (.cells #[.slice none 0 0, .slice none 0 0] 34 (0, 0)) := by rw [hw6]; exact g _ _ _ _ (n _ _ _ (by simp [World.size_alloc]))
    have e5 : w6.heap[w.heap.size + 5]? = some (.cells #[.slice none 0 0, .slice none 0 0] 34 (0, 0)) := by rw [hw6]; exact n _ _ _ (by simp [World.size_alloc])
    have hs : w.heap.size + 5 < w6.heap.size := (Array.getElem?_eq_some_iff.1 e5).1
    refine ⟨_, _, _, _, _, _, _, _, Tp.new e0 e2 e4, Tp.new e1 e3 e5, ?_, ?_, ?_, hb⟩
    · rintro k (h | h | h) (h2 | h2 | h2) <;> omega
    · rintro k (h | h | h) <;> omega
    · rintro k (h | h | h) <;> omega
  have h103 : ∀ k ∈ [(103 : Int), 103], In64 k := fun k hk => by simp at hk; rw [hk]; exact In64.of (by omega) (by omega)
  have h103' : ∀ k ∈ [(103 : Int)], In64 k := fun k hk => by simp at hk; rw [hk]; exact In64.of (by omega) (by omega)
  have HC := hidIt (fun (y : World) (pf : Bool) (v : Int) (N0 : Nat) (hN0 : N0 ≤ 1000) (hk : Kk w y y.heap.size w.heap.size (w.heap.size + 2) (w.heap.size + 4) (w.heap.size + 1) (w.heap.size + 3) (w.heap.size + 5) N0) => (show Calls Try.prog 5 #[.pointer (some ⟨w.heap.size, 0, none⟩), .pointer (some ⟨w.heap.size + 2, 0, none⟩), .pointer (some ⟨w.heap.size + 4, 0, none⟩), .agg #[.bool pf, .int .i64 0, .int .i64 v, .slice (some ⟨y.heap.size, 0, none⟩) 2 2]] (y.alloc (.cells #[.int .i64 103, .int .i64 103] 3)) (fun e w' => e = .returned (.bool true) ∧ Kk w w' w'.heap.size w.heap.size (w.heap.size + 2) (w.heap.size + 4) (w.heap.size + 1) (w.heap.size + 3) (w.heap.size + 5) (N0 + 3)) from hk.lit pf 0 v [103, 103] (by decide) h103 (by simp; omega)))
  have HC' := hidIt (fun (y : World) (N0 : Nat) (hN0 : N0 ≤ 1000) (hk : Kk w y y.heap.size w.heap.size (w.heap.size + 2) (w.heap.size + 4) (w.heap.size + 1) (w.heap.size + 3) (w.heap.size + 5) N0) => (show Calls Try.prog 5 #[.pointer (some ⟨w.heap.size + 1, 0, none⟩), .pointer (some ⟨w.heap.size + 3, 0, none⟩), .pointer (some ⟨w.heap.size + 5, 0, none⟩), .agg #[.bool false, .int .i64 0, .int .i64 0, .slice (some ⟨y.heap.size, 0, none⟩) 1 1]] (y.alloc (.cells #[.int .i64 103] 3)) (fun e w' => e = .returned (.bool true) ∧ Kk w w' w'.heap.size (w.heap.size + 1) (w.heap.size + 3) (w.heap.size + 5) w.heap.size (w.heap.size + 2) (w.heap.size + 4) (N0 + 2)) from hk.flip.lit false 0 0 [103] (by decide) h103' (by simp; omega)))
  clear h103 h103'
  go_enter Try.func3, Try.ntmps3
  go_upto_region 7 with fail
  rw [← hw6]
  clear hw6
  go_upto_region 8 with (first
    | (go_at_call 5; refine (HC.out w6 true 7 0 (by omega) HK0.out).mono ?_; rintro e y1 ⟨rfl, hk1⟩; (try dsimp only); have HK1 := hidIt hk1; clear hk1 HK0)
    | (go_at_call 5; refine (HC.out y1 false 0 3 (by omega) HK1.out).mono ?_; rintro e y2 ⟨rfl, hk2⟩; (try dsimp only); have HK2 := hidIt hk2; clear hk2 HK1)
    | (go_at_call 5; refine (HC'.out y2 6 (by omega) HK2.out).mono ?_; rintro e y3 ⟨rfl, hk3⟩; (try dsimp only); have HK3 := hidIt hk3.flip; clear hk3 HK2))
  go_wp2
  go_loopw [9, 10] (fun o i wr => ∃ p : Nat, p ≤ xs.length ∧ o = .bool true ∧ i = .int .i64 p ∧ Hid (Kk w wr wr.heap.size w.heap.size (w.heap.size + 2) (w.heap.size + 4) (w.heap.size + 1) (w.heap.size + 3) (w.heap.size + 5) (8 + tot (xs.take p)))) (fun _ i _ => xs.length - (RowKit.intOf i).toNat)
  case atStart => exact ⟨0, Nat.zero_le _, rfl, rfl, HK3.out⟩
  case round =>
    obtain ⟨p, hp, rfl, rfl, HKp⟩ := hrel
    by_cases hlt : p < xs.length
    · obtain ⟨b, off, rfl, hb, hcl⟩ := HCL.out (by intro e; rw [e] at hlt; simp at hlt)
      obtain ⟨c0, c1, c2, c3, hrd, h64⟩ := hcl p xs[p] (List.getElem?_eq_getElem hlt)
      have bel := HKp.out.bel
      have d0 := (bel.cell (p := ⟨b, off + p * 4, none⟩) hb).trans c0
      have d1 := (bel.cell (p := ⟨b, off + p * 4 + 1, none⟩) hb).trans c1
      have d2 := (bel.cell (p := ⟨b, off + p * 4 + 2, none⟩) hb).trans c2
      have d3 := (bel.cell (p := ⟨b, off + p * 4 + 3, none⟩) hb).trans c3
      have htt := tot_take xs p hlt
      have htl := tot_le xs (p + 1)
      have hbd : 8 + tot (xs.take p) + xs[p].ks.length + 1 ≤ 4294967296 := by have := HTT.out; omega
      have hi1 : (p : Int) < (xs.length : Int) := by omega
      have HA := hidIt (HKp.out.call xs[p].p xs[p].who xs[p].v xs[p].a xs[p].c xs[p].ks (HKp.out.old hrd) h64 hbd)
      have HB := hidIt (HKp.out.flip.call xs[p].p xs[p].who xs[p].v xs[p].a xs[p].c xs[p].ks (HKp.out.flip.old hrd) h64 hbd)
      have HE := hidIt (show 8 + tot (xs.take p) + xs[p].ks.length + 1 = 8 + tot (xs.take (p + 1)) by omega)
      rw [HE.out] at HA HB
      clear c0 c1 c2 c3 hcl hrd h64 htt htl hbd bel
      generalize xs[p].p = xp at *
      generalize xs[p].who = xw at *
      generalize xs[p].v = xv at *
      generalize xs[p].a = xa at *
      generalize xs[p].c = xc at *
      generalize xs[p].ks.length = xn at *
      by_cases he : Int.tmod xw 2 = 0
      · have heb : (Int.tmod xw 2 == 0) = true := by simpa using he
        clear he
        go_wp2_with (go_at_call 5; refine HA.out.mono ?_; rintro e y ⟨rfl, hk, _⟩; (try dsimp only); have HKy := hidIt hk; clear hk)
        go_roundw
        case rel => exact ⟨p + 1, by omega, rfl, by go_num, HKy.out⟩
        case measure => simp [RowKit.intOf]; omega
      · have heb : (Int.tmod xw 2 == 0) = false := by simpa using he
        clear he
        go_wp2_with (go_at_call 5; refine HB.out.mono ?_; rintro e y ⟨rfl, hk, _⟩; (try dsimp only); have HKy := hidIt hk.flip; clear hk)
        go_roundw
        case rel => exact ⟨p + 1, by omega, rfl, by go_num, HKy.out⟩
        case measure => simp [RowKit.intOf]; omega
    · go_wp2
      go_ret
      exact ⟨rfl, HKp.out.bel⟩
end Go.Proofs.Ytdfmpnnenjnllaa
