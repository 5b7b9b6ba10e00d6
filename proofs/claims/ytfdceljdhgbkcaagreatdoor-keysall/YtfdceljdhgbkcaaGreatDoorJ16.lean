import Derived.Test.YtfdceljdhgbkcaaGreatDoorJ15
import Derived.Test.YtfdceljdhgbkcaaGreatDoorJ14
import Derived.Test.YtfdceljdhgbkcaaGreatDoorJ13
/- The parser whole, and which bindings it asks. -/
namespace Go.Proofs.YtfdceljdhgbkcaaGreatDoor
open Go.RowKit
/-- What lies at k is no block of cells but places of bindings. -/
def Hv (w : World) (k : Nat) : Prop := ∀ c T r, w.heap[k]? = some (.cells c T r) → T = 125
theorem TeB.typed {w : World} {own : Nat → Prop} {n : Nat} {ns : List (List Int)} {vs : List (Option Bd)} {m s : Value} (h : TeB w own n ns vs m s) : ∃ own', TeB w own' n ns vs m s ∧ ∀ k, own' k → own k ∧ Hv w k := by
  rcases h with h | ⟨hn, bm, g, c, e1, e2, o1, o2, hm, hp⟩
  · exact ⟨fun _ => False, .inl h, fun k hk => hk.elim⟩
  · refine ⟨fun k => k = bm ∨ k = g, .inr ⟨hn, bm, g, c, e1, e2, .inl rfl, .inr rfl, hm, hp⟩, ?_⟩
    rintro k (rfl | rfl)
    · refine ⟨o1, fun c T r e => ?_⟩
      obtain ⟨es, cl, hmm⟩ := hm.ismap
      rw [hmm] at e
      cases e
    · refine ⟨o2, fun c T r e => ?_⟩
      rw [e2] at hp
      obtain ⟨_, cur, hg, _⟩ := hp.blk
      rw [hg] at e
      cases e
      rfl
/-- A trie of the parser: empty yet, or filled with its rows. -/
def Tr1 (w : World) (L : List (List Int × Bd)) (m s : Value) : Prop :=
  (m = .map none ∧ s = .slice none 0 0) ∨ ∃ own ns vs, TeB w own 1000 ns vs m s ∧ Tri ns vs L ∧ ns.length ≤ 1000 ∧ ∀ k, own k → k < w.heap.size ∧ Hv w k
/-- What is written is no trie's. -/
theorem Tr1.turn {w w' : World} {o : Nat → Prop} {L : List (List Int × Bd)} {m s : Value} (h : Tr1 w L m s) (k : Kps o w w') (ho : ∀ i, i < w.heap.size → o i → ¬ Hv w i) : Tr1 w' L m s := by
  rcases h with h | ⟨own, ns, vs, h1, h2, h3, h4⟩
  · exact .inl h
  · have hs : ∀ i, own i → w'.heap[i]? = w.heap[i]? := fun i hi => k.same i (h4 i hi).1 (fun e => ho i (h4 i hi).1 e (h4 i hi).2)
    exact .inr ⟨own, ns, vs, h1.same hs, h2, h3, fun i hi => ⟨Nat.lt_of_lt_of_le (h4 i hi).1 k.size, fun c T r e => (h4 i hi).2 c T r (by rw [← hs i hi]; exact e)⟩⟩
theorem not_hv {w : World} {i : Nat} {c : Array Value} {T : TypeId} {r : Nat × Nat} (h : w.heap[i]? = some (.cells c T r)) (ht : T ≠ 125) : ¬ Hv w i := fun e => ht (e c T r h)
theorem Tr1.kps {w w' : World} {b : Nat} {L : List (List Int × Bd)} {m s : Value} (h : Tr1 w L m s) (k : Kps (fun k => k = b) w w') {m0 s0 m1 s1 m2 s2 sl pv : Value} {t : Rdg} (hp : PB w b m0 s0 m1 s1 m2 s2 sl pv t) : Tr1 w' L m s :=
  h.turn k (fun i _ e => by subst e; exact not_hv hp (by decide))
/-- A parser at block b. -/
def Psr (w : World) (b : Nat) (sl : Bool) (pv : Value) (t : Rdg) : Prop :=
  ∃ m0 s0 m1 s1 m2 s2, PB w b m0 s0 m1 s1 m2 s2 (.bool sl) pv t ∧ Tr1 w (fil tNor) m0 s0 ∧ Tr1 w (fil tSln) m1 s1 ∧ Tr1 w (fil tTar) m2 s2
theorem Psr.lt {w : World} {b : Nat} {sl : Bool} {pv : Value} {t : Rdg} (h : Psr w b sl pv t) : b < w.heap.size := by
  obtain ⟨_, _, _, _, _, _, hp, _⟩ := h
  exact hp.lt
theorem Psr.ext {w w' : World} {b : Nat} {sl : Bool} {pv : Value} {t : Rdg} (h : Psr w b sl pv t) (hb : Below w.heap.size w w') : Psr w' b sl pv t := by
  obtain ⟨m0, s0, m1, s1, m2, s2, hp, h0, h1, h2⟩ := h
  have hk := Kps.of_below (fun k => k = b) hb
  exact ⟨m0, s0, m1, s1, m2, s2, hp.ext hb, h0.kps hk hp, h1.kps hk hp, h2.kps hk hp⟩
/-- Blocks have turned that are no trie's. -/
theorem Psr.turn {w w' : World} {b : Nat} {sl sl' : Bool} {pv pv' : Value} {t t' : Rdg} {o : Nat → Prop} (h : Psr w b sl pv t) (hk : Kps o w w') (ho : ∀ i, i < w.heap.size → o i → ¬ Hv w i) (hp' : ∀ m0 s0 m1 s1 m2 s2, PB w b m0 s0 m1 s1 m2 s2 (.bool sl) pv t → PB w' b m0 s0 m1 s1 m2 s2 (.bool sl') pv' t') : Psr w' b sl' pv' t' := by
  obtain ⟨m0, s0, m1, s1, m2, s2, hp, h0, h1, h2⟩ := h
  exact ⟨m0, s0, m1, s1, m2, s2, hp' _ _ _ _ _ _ hp, h0.turn hk ho, h1.turn hk ho, h2.turn hk ho⟩
/-- The trie that is asked, filled. -/
def BnR (w w' : World) (b off : Nat) (L : List (List Int × Bd)) (sl : Bool) (pv : Value) (t : Rdg) : Prop :=
  Psr w' b sl pv t ∧ Kps (fun k => k = b) w w' ∧ ∃ cs own ns vs m s, w'.heap[b]? = some (.cells cs 52 (0, 0)) ∧ cs[off]? = some m ∧ cs[off + 1]? = some s ∧ TeB w' own 1000 ns vs m s ∧ Tri ns vs L ∧ ns.length ≤ 1000
theorem filN_any {w : World} {b : Nat} {sl : Bool} {pv : Value} {t : Rdg} (h : Psr w b sl pv t) :
    Calls Tryz.prog 61 #[.pointer (some ⟨b, 0, none⟩), .func (.func 49) #[] #[]] w fun e w' => e = .returned (.pointer (some ⟨b, 0, none⟩)) ∧ BnR w w' b 0 (fil tNor) sl pv t := by
  obtain ⟨m0, s0, m1, s1, m2, s2, hp, h0, h1, h2⟩ := h
  have hbl := hp.lt
  rcases h0 with ⟨rfl, rfl⟩ | ⟨own, ns, vs, q1, q2, q3, q4⟩
  · refine (filledN_new b 0 _ w hp rfl rfl).mono ?_
    rintro e w' ⟨rfl, own, m, s, ns, vs, r1, r2, r3, r4, r5, r6⟩
    obtain ⟨ow2, n1, n2⟩ := r2.typed
    have hp' : PB w' b m s m1 s1 m2 s2 (.bool sl) pv t := r1
    exact ⟨rfl, ⟨m, s, m1, s1, m2, s2, hp', .inr ⟨ow2, ns, vs, n1, r3, r4, fun k hk => ⟨(r5 k (n2 k hk).1).2, (n2 k hk).2⟩⟩, h1.kps r6 hp, h2.kps r6 hp⟩, r6, _, own, ns, vs, m, s, hp', rfl, rfl, r2, r3, r4⟩
  · refine (filled_old b 0 _ w m0 s0 own 1000 ns vs (fil tNor) _ hp rfl rfl q1 q2 q3 sayN).mono ?_
    rintro e w' ⟨rfl, hb⟩
    have hk := Kps.of_below (fun k => k = b) hb
    exact ⟨rfl, ⟨m0, s0, m1, s1, m2, s2, hp.ext hb, Tr1.kps (.inr ⟨own, ns, vs, q1, q2, q3, q4⟩) hk hp, h1.kps hk hp, h2.kps hk hp⟩, hk, _, own, ns, vs, m0, s0, hp.ext hb, rfl, rfl, q1.ext hb, q2, q3⟩
theorem filS_any {w : World} {b : Nat} {sl : Bool} {pv : Value} {t : Rdg} (h : Psr w b sl pv t) :
    Calls Tryz.prog 61 #[.pointer (some ⟨b, 2, none⟩), .func (.func 50) #[] #[]] w fun e w' => e = .returned (.pointer (some ⟨b, 2, none⟩)) ∧ BnR w w' b 2 (fil tSln) sl pv t := by
  obtain ⟨m0, s0, m1, s1, m2, s2, hp, h0, h1, h2⟩ := h
  have hbl := hp.lt
  rcases h1 with ⟨rfl, rfl⟩ | ⟨own, ns, vs, q1, q2, q3, q4⟩
  · refine (filledS_new b 2 _ w hp rfl rfl).mono ?_
    rintro e w' ⟨rfl, own, m, s, ns, vs, r1, r2, r3, r4, r5, r6⟩
    obtain ⟨ow2, n1, n2⟩ := r2.typed
    have hp' : PB w' b m0 s0 m s m2 s2 (.bool sl) pv t := r1
    exact ⟨rfl, ⟨m0, s0, m, s, m2, s2, hp', h0.kps r6 hp, .inr ⟨ow2, ns, vs, n1, r3, r4, fun k hk => ⟨(r5 k (n2 k hk).1).2, (n2 k hk).2⟩⟩, h2.kps r6 hp⟩, r6, _, own, ns, vs, m, s, hp', rfl, rfl, r2, r3, r4⟩
  · refine (filled_old b 2 _ w m1 s1 own 1000 ns vs (fil tSln) _ hp rfl rfl q1 q2 q3 sayS).mono ?_
    rintro e w' ⟨rfl, hb⟩
    have hk := Kps.of_below (fun k => k = b) hb
    exact ⟨rfl, ⟨m0, s0, m1, s1, m2, s2, hp.ext hb, h0.kps hk hp, Tr1.kps (.inr ⟨own, ns, vs, q1, q2, q3, q4⟩) hk hp, h2.kps hk hp⟩, hk, _, own, ns, vs, m1, s1, hp.ext hb, rfl, rfl, q1.ext hb, q2, q3⟩
theorem filT_any {w : World} {b : Nat} {sl : Bool} {pv : Value} {t : Rdg} (h : Psr w b sl pv t) :
    Calls Tryz.prog 61 #[.pointer (some ⟨b, 4, none⟩), .func (.func 62) #[] #[]] w fun e w' => e = .returned (.pointer (some ⟨b, 4, none⟩)) ∧ BnR w w' b 4 (fil tTar) sl pv t := by
  obtain ⟨m0, s0, m1, s1, m2, s2, hp, h0, h1, h2⟩ := h
  have hbl := hp.lt
  rcases h2 with ⟨rfl, rfl⟩ | ⟨own, ns, vs, q1, q2, q3, q4⟩
  · refine (filledT_new b 4 _ w hp rfl rfl).mono ?_
    rintro e w' ⟨rfl, own, m, s, ns, vs, r1, r2, r3, r4, r5, r6⟩
    obtain ⟨ow2, n1, n2⟩ := r2.typed
    have hp' : PB w' b m0 s0 m1 s1 m s (.bool sl) pv t := r1
    exact ⟨rfl, ⟨m0, s0, m1, s1, m, s, hp', h0.kps r6 hp, h1.kps r6 hp, .inr ⟨ow2, ns, vs, n1, r3, r4, fun k hk => ⟨(r5 k (n2 k hk).1).2, (n2 k hk).2⟩⟩⟩, r6, _, own, ns, vs, m, s, hp', rfl, rfl, r2, r3, r4⟩
  · refine (filled_old b 4 _ w m2 s2 own 1000 ns vs (fil tTar) _ hp rfl rfl q1 q2 q3 sayT).mono ?_
    rintro e w' ⟨rfl, hb⟩
    have hk := Kps.of_below (fun k => k = b) hb
    exact ⟨rfl, ⟨m0, s0, m1, s1, m2, s2, hp.ext hb, h0.kps hk hp, h1.kps hk hp, Tr1.kps (.inr ⟨own, ns, vs, q1, q2, q3, q4⟩) hk hp⟩, hk, _, own, ns, vs, m2, s2, hp.ext hb, rfl, rfl, q1.ext hb, q2, q3⟩
def bOff (sl : Bool) (t : Rdg) : Nat := if t.o = 0 then (if sl then 2 else 0) else 4
def bLs (sl : Bool) (t : Rdg) : List (List Int × Bd) := if t.o = 0 then (if sl then fil tSln else fil tNor) else fil tTar
set_option maxRecDepth 100000 in
theorem bindings_any {w : World} {b : Nat} {sl : Bool} {pv : Value} {t : Rdg} (h : Psr w b sl pv t) :
    Calls Tryz.prog 42 #[.pointer (some ⟨b, 0, none⟩)] w fun e w' => e = .returned (.pointer (some ⟨b, bOff sl t, none⟩)) ∧ BnR w w' b (bOff sl t) (bLs sl t) sl pv t := by
  obtain ⟨c6, c12⟩ : w.cell? ⟨b, 6, none⟩ = some (.bool sl) ∧ w.cell? ⟨b, 12, none⟩ = some (.int .i64 t.o) := by
    obtain ⟨_, _, _, _, _, _, hp, _⟩ := h
    obtain ⟨_, _, _, _, _, _, _, c6, _, _, _, _, _, c12, _⟩ := cells13 hp
    exact ⟨c6, c12⟩
  by_cases ho : t.o = 0
  · have hob : (t.o != 0) = false := by simpa using ho
    cases sl
    · skip
      have HF := hidIt (filN_any h)
      have HE : Hid (bOff false t = 0 ∧ bLs false t = fil tNor) := by unfold Hid bOff bLs; simp [ho]
      generalize fil tNor = L at HF HE
      clear h ho
      go_enter Tryz.func42, Tryz.ntmps42
      go_wp2_with (go_at_call 61; refine HF.out.mono ?_; rintro e y ⟨rfl, hr⟩; (try dsimp only); have HR := hidIt hr; clear hr)
      refine bodyPost_ret (v := .pointer (some ⟨b, 0, none⟩)) (by simp [results, Tryz.results42, go_sem]) rfl ⟨by rw [HE.out.1], ?_⟩
      rw [HE.out.1, HE.out.2]
      exact HR.out
    · skip
      have HF := hidIt (filS_any h)
      have HE : Hid (bOff true t = 2 ∧ bLs true t = fil tSln) := by unfold Hid bOff bLs; simp [ho]
      generalize fil tSln = L at HF HE
      clear h ho
      go_enter Tryz.func42, Tryz.ntmps42
      go_wp2_with (go_at_call 61; refine HF.out.mono ?_; rintro e y ⟨rfl, hr⟩; (try dsimp only); have HR := hidIt hr; clear hr)
      refine bodyPost_ret (v := .pointer (some ⟨b, 2, none⟩)) (by simp [results, Tryz.results42, go_sem]) rfl ⟨by rw [HE.out.1], ?_⟩
      rw [HE.out.1, HE.out.2]
      exact HR.out
  · have hob : (t.o != 0) = true := by simpa using ho
    have HF := hidIt (filT_any h)
    have HE : Hid (bOff sl t = 4 ∧ bLs sl t = fil tTar) := by unfold Hid bOff bLs; simp [ho]
    generalize fil tTar = L at HF HE
    clear h ho
    go_enter Tryz.func42, Tryz.ntmps42
    go_wp2_with (go_at_call 61; refine HF.out.mono ?_; rintro e y ⟨rfl, hr⟩; (try dsimp only); have HR := hidIt hr; clear hr)
    refine bodyPost_ret (v := .pointer (some ⟨b, 4, none⟩)) (by simp [results, Tryz.results42, go_sem]) rfl ⟨by rw [HE.out.1], ?_⟩
    rw [HE.out.1, HE.out.2]
    exact HR.out
end Go.Proofs.YtfdceljdhgbkcaaGreatDoor

/- isSelection, New, Reset. -/
namespace Go.Proofs.YtfdceljdhgbkcaaGreatDoor
open Go.RowKit
def isl (mode : Int) : Bool := mode == 3 || mode == 4
def rdg0 : Rdg := ⟨0, 0, 0, 0, 0⟩
set_option maxRecDepth 100000 in
theorem isl_any (mode : Int) (w : World) : Calls Tryz.prog 19 #[.int .i64 mode] w fun e w' => e = .returned (.bool (isl mode)) ∧ w' = w := by
  by_cases h3 : mode = 3
  · have h3b : (mode == 3) = true := by simpa using h3
    have HE : Hid (isl mode = true) := by unfold Hid isl; simp [h3]
    clear h3
    go_enter Tryz.func19, Tryz.ntmps19
    go_wp2
    refine bodyPost_ret (v := .bool true) (by simp [results, Tryz.results19, go_sem]) rfl ⟨by rw [HE.out], rfl⟩
  · have h3b : (mode == 3) = false := by simpa using h3
    obtain ⟨x, hx⟩ : ∃ x, x = (mode == 4) := ⟨_, rfl⟩
    have HE : Hid (isl mode = x) := by unfold Hid isl; rw [h3b, hx]; rfl
    clear h3
    go_enter Tryz.func19, Tryz.ntmps19
    go_wp2
    refine bodyPost_ret (v := .bool x) (by simp [results, Tryz.results19, go_sem, hx]) rfl ⟨by rw [HE.out], rfl⟩
set_option maxRecDepth 100000 in
theorem new_any (w : World) : Calls Tryz.prog 6 #[] w fun e w' => e = .returned (.pointer (some ⟨w.heap.size, 0, none⟩)) ∧ Below w.heap.size w w' ∧ Psr w' w.heap.size false (.slice none 0 0) rdg0 := by
  go_enter Tryz.func6, Tryz.ntmps6
  go_wp2
  refine bodyPost_ret (v := .pointer (some ⟨w.heap.size, 0, none⟩)) (by simp [results, Tryz.results6, go_sem]) rfl ⟨rfl, ?_, ?_⟩
  · exact ext_alloc (Below.refl _ _) _
  · exact ⟨_, _, _, _, _, _, heap_alloc_new w (.cells #[.map none, .slice none 0 0, .map none, .slice none 0 0, .map none, .slice none 0 0, .bool false, .slice none 0 0, .int .i64 0, .int .i64 0, .int .i64 0, .int .i64 0, .int .i64 0] 52), .inl ⟨rfl, rfl⟩, .inl ⟨rfl, rfl⟩, .inl ⟨rfl, rfl⟩⟩
theorem PB.setP {w : World} {b : Nat} {m0 s0 m1 s1 m2 s2 sl pv : Value} {t : Rdg} (h : PB w b m0 s0 m1 s1 m2 s2 sl pv t) (x : Value) : PB (w.setCell ⟨b, 7, none⟩ x) b m0 s0 m1 s1 m2 s2 sl x t ∧ Kps (fun k => k = b) w (w.setCell ⟨b, 7, none⟩ x) := by
  obtain ⟨h1, g1⟩ := set1 h 7 x
  exact ⟨h1, Kps.grown g1 (fun k e _ => by cases e; rfl)⟩
theorem PB.setS {w : World} {b : Nat} {m0 s0 m1 s1 m2 s2 sl pv : Value} {t : Rdg} (h : PB w b m0 s0 m1 s1 m2 s2 sl pv t) (x : Value) : PB (w.setCell ⟨b, 6, none⟩ x) b m0 s0 m1 s1 m2 s2 x pv t ∧ Kps (fun k => k = b) w (w.setCell ⟨b, 6, none⟩ x) := by
  obtain ⟨h1, g1⟩ := set1 h 6 x
  exact ⟨h1, Kps.grown g1 (fun k e _ => by cases e; rfl)⟩
set_option maxRecDepth 100000 in
theorem reset_any {w : World} {b : Nat} {sl : Bool} {pv : Value} {t : Rdg} (h : Psr w b sl pv t) :
    Calls Tryz.prog 17 #[.pointer (some ⟨b, 0, none⟩)] w fun e w' => e = .returned (.tuple #[]) ∧ Psr w' b sl (.slice none 0 0) rdg0 ∧ Kps (fun k => k = b) w w' := by
  obtain ⟨w1, hw1⟩ : ∃ w1, w1 = w.setCell ⟨b, 7, none⟩ (.slice none 0 0) := ⟨_, rfl⟩
  obtain ⟨cf, hp1, hk1⟩ : ((∃ x, w.cell? ⟨b, 7, none⟩ = some x) ∧ w.frozen? ⟨b, 7, none⟩ = false) ∧ Psr w1 b sl (.slice none 0 0) t ∧ Kps (fun k => k = b) w w1 := by
    obtain ⟨m0, s0, m1, s1, m2, s2, hp, h0, h1, h2⟩ := h
    obtain ⟨_, _, _, _, _, _, _, _, c7, _, _, _, _, _, cf⟩ := cells13 hp
    obtain ⟨q1, q2⟩ := hp.setP (.slice none 0 0)
    rw [← hw1] at q1 q2
    exact ⟨⟨⟨_, c7⟩, cf 7⟩, ⟨m0, s0, m1, s1, m2, s2, q1, h0.kps q2 hp, h1.kps q2 hp, h2.kps q2 hp⟩, q2⟩
  obtain ⟨⟨x7, c7⟩, f7⟩ := cf
  obtain ⟨w2, hw2⟩ : ∃ w2, w2 = ((((w1.setCell ⟨b, 8, none⟩ (.int .i64 0)).setCell ⟨b, 9, none⟩ (.int .i64 0)).setCell ⟨b, 10, none⟩ (.int .i64 0)).setCell ⟨b, 11, none⟩ (.int .i64 0)).setCell ⟨b, 12, none⟩ (.int .i64 0) := ⟨_, rfl⟩
  obtain ⟨d8, d9, d10, d11, d12, df, hp2, hk2⟩ : w1.cell? ⟨b, 8, none⟩ = some (.int .i64 t.k) ∧ w1.cell? ⟨b, 9, none⟩ = some (.int .i64 t.r) ∧ w1.cell? ⟨b, 10, none⟩ = some (.int .i64 t.c) ∧ w1.cell? ⟨b, 11, none⟩ = some (.int .i64 t.n) ∧ w1.cell? ⟨b, 12, none⟩ = some (.int .i64 t.o) ∧ (∀ i, w1.frozen? ⟨b, i, none⟩ = false) ∧ Psr w2 b sl (.slice none 0 0) rdg0 ∧ Kps (fun k => k = b) w1 w2 := by
    obtain ⟨m0, s0, m1, s1, m2, s2, hp, h0, h1, h2⟩ := hp1
    obtain ⟨_, _, _, _, _, _, _, _, _, c8, c9, c10, c11, c12, cf⟩ := cells13 hp
    obtain ⟨a1, k1⟩ := hp.setK 0
    obtain ⟨a2, k2⟩ := a1.setR 0
    obtain ⟨a3, k3⟩ := a2.setC 0
    obtain ⟨a4, k4⟩ := a3.setN 0
    obtain ⟨a5, k5⟩ := a4.setO 0
    have kk := Kps.trans (Kps.trans (Kps.trans (Kps.trans k1 k2 (fun _ _ e => e)) k3 (fun _ _ e => e)) k4 (fun _ _ e => e)) k5 (fun _ _ e => e)
    rw [← hw2] at a5 kk
    exact ⟨c8, c9, c10, c11, c12, cf, ⟨m0, s0, m1, s1, m2, s2, a5, h0.kps kk hp, h1.kps kk hp, h2.kps kk hp⟩, kk⟩
  have HP := hidIt (And.intro hp2 (Kps.trans hk1 hk2 (fun _ _ e => e)))
  have HW2 := hidIt hw2
  clear h hp1 hk1 hp2 hk2 hw2
  go_enter Tryz.func17, Tryz.ntmps17
  go_upto_region 1 with fail
  rw [← hw1]
  clear hw1
  go_wp2
  rw [← HW2.out]
  exact bodyPost_end (results_none rfl _ _ _) rfl ⟨rfl, HP.out⟩
end Go.Proofs.YtfdceljdhgbkcaaGreatDoor

/- One turn of the reading, by what the trie says. -/
namespace Go.Proofs.YtfdceljdhgbkcaaGreatDoor
open Go.RowKit
structure Stp where
  g : Bool
  t : Rdg
  c : Cm
  s : Int
def Stp.go (t : Rdg) : Stp := ⟨true, t, cmZ, 0⟩
def Stp.fin (t : Rdg) (c : Cm) (s : Int) : Stp := ⟨false, t, c, s⟩
def bd0 : Bd := ⟨0, 0, 0, 0⟩
/-- One turn of the reading, at keys that are left. -/
def rst (sl : Bool) (t : Rdg) (l : List Int) : Stp :=
  if gow t (l.headD 0) then .go (addD t (l.headD 0))
  else if l.headD 0 = 34 ∧ t.o = 0 then
    (if l.length = 1 then .fin t cmZ 0 else if l[1]?.getD 0 = 0 then .fin t cmZ 2 else .go (addR t (l[1]?.getD 0)))
  else match bgn (bLs sl t) l with
    | none => .fin t cmZ 0
    | some n =>
      if lkS (bLs sl t) (l.take (n + 1)) = 2 then .fin t cmZ 2
      else if ((lkV (bLs sl t) (l.take (n + 1))).getD bd0).t = 1 ∧ l.length = n + 1 then .fin t cmZ 0
      else if ((lkV (bLs sl t) (l.take (n + 1))).getD bd0).t = 2 then .go (addO t ((lkV (bLs sl t) (l.take (n + 1))).getD bd0).v (n + 1))
      else .fin (endN t) (rcm t ((lkV (bLs sl t) (l.take (n + 1))).getD bd0) (l.drop (n + 1))).1 (rcm t ((lkV (bLs sl t) (l.take (n + 1))).getD bd0) (l.drop (n + 1))).2
/-- The reading of all that is pending: so many turns at most. -/
def rdo (sl : Bool) (ks : List Int) : Nat → Rdg → Option (Rdg × Cm × Int)
  | 0, _ => none
  | f + 1, t => if t.k < ks.length then (if (rst sl t (ks.drop t.k.toNat)).g = true then rdo sl ks f (rst sl t (ks.drop t.k.toNat)).t else some ((rst sl t (ks.drop t.k.toNat)).t, (rst sl t (ks.drop t.k.toNat)).c, (rst sl t (ks.drop t.k.toNat)).s)) else some (t, cmZ, 0)
def Rdo (sl : Bool) (ks : List Int) (t t' : Rdg) (c : Cm) (s : Int) : Prop := ∃ f, rdo sl ks f t = some (t', c, s)
theorem Rdo.over {sl : Bool} {ks : List Int} {t : Rdg} (h : ¬ t.k < ks.length) : Rdo sl ks t t cmZ 0 := ⟨1, by rw [rdo, if_neg h]⟩
theorem Rdo.more {sl : Bool} {ks : List Int} {t t' t'' : Rdg} {c : Cm} {s : Int} (h : t.k < ks.length) (e : rst sl t (ks.drop t.k.toNat) = .go t') (r : Rdo sl ks t' t'' c s) : Rdo sl ks t t'' c s := by
  obtain ⟨f, hf⟩ := r
  exact ⟨f + 1, by rw [rdo, if_pos h, e]; exact hf⟩
theorem Rdo.done {sl : Bool} {ks : List Int} {t t' : Rdg} {c : Cm} {s : Int} (h : t.k < ks.length) (e : rst sl t (ks.drop t.k.toNat) = .fin t' c s) : Rdo sl ks t t' c s := ⟨1, by rw [rdo, if_pos h, e]; rfl⟩
/-- What comes of it is one thing. -/
theorem rdo_more {sl : Bool} {ks : List Int} {r : Rdg × Cm × Int} : ∀ (f g : Nat) (t : Rdg), rdo sl ks f t = some r → f ≤ g → rdo sl ks g t = some r
  | 0, _, _, h, _ => by cases h
  | f + 1, 0, _, _, hg => absurd hg (by omega)
  | f + 1, g + 1, t, h, hg => by
    rw [rdo] at h ⊢
    split at h
    · rename_i h1
      rw [if_pos h1]
      split at h
      · rename_i h2
        rw [if_pos h2]
        exact rdo_more f g _ h (by omega)
      · rename_i h2
        rw [if_neg h2]
        exact h
    · rename_i h1
      rw [if_neg h1]
      exact h
theorem Rdo.det {sl : Bool} {ks : List Int} {t t1 t2 : Rdg} {c1 c2 : Cm} {s1 s2 : Int} (h : Rdo sl ks t t1 c1 s1) (g : Rdo sl ks t t2 c2 s2) : t1 = t2 ∧ c1 = c2 ∧ s1 = s2 := by
  obtain ⟨f, hf⟩ := h
  obtain ⟨e, he⟩ := g
  have a := rdo_more f (f + e) t hf (by omega)
  have b := rdo_more e (f + e) t he (by omega)
  rw [a] at b
  injection b with b
  injection b with b1 b2
  injection b2 with b2 b3
  exact ⟨b1, b2, b3⟩
theorem vlB_getD (o : Option Bd) : vlB o = .agg #[.int .i64 (o.getD bd0).v, .int .i64 (o.getD bd0).m, .int .i64 (o.getD bd0).a, .int .i64 (o.getD bd0).t] := by
  cases o <;> rfl
theorem Rdg.Ok.addD {t : Rdg} (h : t.Ok) (x : Int) (hx0 : 48 ≤ x) (hk : t.k < 1152921504606846976) : (addD t x).Ok := by
  obtain ⟨k0, k1, c0, c1, n0, n1⟩ := h
  refine ⟨by show 0 ≤ t.k + 1; omega, by show t.k + 1 ≤ _; omega, c0, c1, ?_, ?_⟩
  · show 0 ≤ min (t.n * 10 + x - 48) 9999
    omega
  · show min (t.n * 10 + x - 48) 9999 ≤ 9999
    omega
theorem Rdg.Ok.addR {t : Rdg} (h : t.Ok) (x : Int) (hk : t.k < 1152921504606846976) : (addR t x).Ok := by
  obtain ⟨k0, k1, c0, c1, n0, n1⟩ := h.endN
  have e : (Go.Proofs.YtfdceljdhgbkcaaGreatDoor.endN t).k = t.k := rfl
  exact ⟨by show 0 ≤ t.k + 2; omega, by show t.k + 2 ≤ _; omega, c0, c1, n0, n1⟩
theorem Rdg.Ok.addO {t : Rdg} (h : t.Ok) (v n : Int) (hn0 : 0 ≤ n) (hn : n ≤ 1152921504606846976) (hk : t.k < 1152921504606846976) : (addO t v n).Ok := by
  obtain ⟨k0, k1, c0, c1, n0, n1⟩ := h.endN
  have e : (Go.Proofs.YtfdceljdhgbkcaaGreatDoor.endN t).k = t.k := rfl
  exact ⟨by show 0 ≤ t.k + n; omega, by show t.k + n ≤ _; omega, c0, c1, n0, n1⟩
/-- A rest of what is read. -/
theorem RdS.rest {w : World} {b off n c : Nat} {zs : List Int} (h : RdS w (.slice (some ⟨b, off, none⟩) n c) zs) (k : Nat) (hk : k < zs.length) : RdS w (.slice (some ⟨b, off + k, none⟩) (n - k) (c - k)) (zs.drop k) := by
  obtain ⟨⟨ao', cap', e, g1, g2, g3⟩, _⟩ := h
  obtain ⟨b', off', e4, h1, h2⟩ := g3 (by intro e; rw [e] at hk; simp at hk)
  injection e with e1 e2 e3
  rw [e4] at e1
  cases e1
  subst e2
  subst e3
  refine ⟨⟨_, c - k, by rw [List.length_drop], by rw [List.length_drop]; omega, by omega, fun hn => ⟨b, off + k, rfl, h1, fun i hi => ?_⟩⟩, .inr ⟨_, _, _, rfl⟩⟩
  rw [List.length_drop] at hi
  rw [Nat.add_assoc, h2 (k + i) (by omega), List.getElem?_drop]
/-- What stands when a command is laid into its block. -/
theorem ron_fin {w wz : World} {b : Nat} {sl : Bool} {pv : Value} {u : Rdg} {v0 v1 v2 v3 v4 : Value} (hbl : b < w.heap.size) (hps : Psr wz b sl pv u) (hk : Kps (fun k => k = b) w wz) (hr : wz.heap[w.heap.size]? = some (.cells #[v0, v1, v2, v3, v4] 33 (0, 0))) (x0 x1 x2 x3 x4 : Value) :
    Psr (((((wz.setCell ⟨w.heap.size, 0, none⟩ x0).setCell ⟨w.heap.size, 1, none⟩ x1).setCell ⟨w.heap.size, 2, none⟩ x2).setCell ⟨w.heap.size, 3, none⟩ x3).setCell ⟨w.heap.size, 4, none⟩ x4) b sl pv u ∧ Kps (fun k => k = b) w (((((wz.setCell ⟨w.heap.size, 0, none⟩ x0).setCell ⟨w.heap.size, 1, none⟩ x1).setCell ⟨w.heap.size, 2, none⟩ x2).setCell ⟨w.heap.size, 3, none⟩ x3).setCell ⟨w.heap.size, 4, none⟩ x4) ∧ (((((wz.setCell ⟨w.heap.size, 0, none⟩ x0).setCell ⟨w.heap.size, 1, none⟩ x1).setCell ⟨w.heap.size, 2, none⟩ x2).setCell ⟨w.heap.size, 3, none⟩ x3).setCell ⟨w.heap.size, 4, none⟩ x4).heap[w.heap.size]? = some (.cells #[x0, x1, x2, x3, x4] 33 (0, 0)) := by
  obtain ⟨g0, g⟩ := put5 hr x0 x1 x2 x3 x4
  generalize ((((wz.setCell ⟨w.heap.size, 0, none⟩ x0).setCell ⟨w.heap.size, 1, none⟩ x1).setCell ⟨w.heap.size, 2, none⟩ x2).setCell ⟨w.heap.size, 3, none⟩ x3).setCell ⟨w.heap.size, 4, none⟩ x4 = wq at *
  have hg : Kps (fun k => k = w.heap.size) wz wq := Kps.grown g (fun k e _ => (Option.some.inj e).symm)
  refine ⟨hps.turn hg (fun i _ e => by subst e; exact not_hv hr (by decide)) (fun _ _ _ _ _ _ hp => (g.block _ hp.lt (by simp; omega)).trans hp), Kps.trans hk hg (fun i hi (e : i = _) => absurd e (by omega)), g0⟩
theorem psr_kps {w w' : World} {b : Nat} {m0 s0 m1 s1 m2 s2 pv : Value} {sl : Bool} {t t' : Rdg} (hp : PB w b m0 s0 m1 s1 m2 s2 (.bool sl) pv t) (tr : Tr1 w (fil tNor) m0 s0 ∧ Tr1 w (fil tSln) m1 s1 ∧ Tr1 w (fil tTar) m2 s2) (hk : Kps (fun k => k = b) w w') (hp' : PB w' b m0 s0 m1 s1 m2 s2 (.bool sl) pv t') : Psr w' b sl pv t' :=
  ⟨m0, s0, m1, s1, m2, s2, hp', tr.1.kps hk hp, tr.2.1.kps hk hp, tr.2.2.kps hk hp⟩
theorem gow_dig {u : Rdg} {x : Int} (h : gow u x = true) : 48 ≤ x ∧ x ≤ 57 := by
  unfold gow at h
  simp only [Bool.or_eq_true, Bool.and_eq_true, decide_eq_true_eq, beq_iff_eq] at h
  omega
def bX (L : List (List Int × Bd)) (l : List Int) : Bd := ((bgn L l).bind fun n => lkV L (l.take (n + 1))).getD bd0
def bB (L : List (List Int × Bd)) (l : List Int) : List Int := (bgn L l).elim [] fun n => l.drop (n + 1)
def bS (L : List (List Int × Bd)) (l : List Int) : Int := (bgn L l).elim 0 fun n => lkS L (l.take (n + 1))
/-- What the trie that is asked says. -/
theorem asked_any {wv yb : World} {b off : Nat} {L : List (List Int × Bd)} {sl : Bool} {pv : Value} {u : Rdg} (hr : BnR wv yb b off L sl pv u) (l : Value) (lf : List Int) (hk : RdS yb l lf) (h64 : ∀ k ∈ lf, In64 k) :
    Calls Tryz.prog 41 #[.pointer (some ⟨b, off, none⟩), l] yb fun e y => ∃ ao c, e = .returned (.tuple #[.agg #[.int .i64 (bX L lf).v, .int .i64 (bX L lf).m, .int .i64 (bX L lf).a, .int .i64 (bX L lf).t], .slice ao (bB L lf).length c, .int .i64 (bS L lf)]) ∧ (∀ z, RdS z l lf → RdS z (.slice ao (bB L lf).length c) (bB L lf)) ∧ Below yb.heap.size yb y := by
  obtain ⟨_, _, cs, own, ns, vs, m, s, h1, h2, h3, h4, h5, h6⟩ := hr
  refine (begun_any b off _ cs yb m s own 1000 ns vs L l lf h1 h2 h3 h4 h5 (by omega) hk h64).mono ?_
  rintro e y ⟨⟨uv, rfl, hu⟩, hb⟩
  obtain ⟨ao, c, he, _⟩ := (hu yb hk).len
  subst he
  refine ⟨ao, c, ?_, hu, hb⟩
  rw [vlB_getD]
  rfl
theorem bgn_spec {L : List (List Int × Bd)} {l : List Int} {n : Nat} (h : bgn L l = some n) : n < l.length ∧ lkS L (l.take (n + 1)) ≠ 0 := by
  unfold bgn at h
  refine ⟨List.mem_range.1 (List.mem_of_find?_eq_some h), ?_⟩
  have h1 := List.find?_some h
  simpa using h1
theorem rst_ask {sl : Bool} {t : Rdg} {l : List Int} (hg : ¬ gow t (l.headD 0) = true) (hq : ¬ (l.headD 0 = 34 ∧ t.o = 0)) :
    rst sl t l = if bS (bLs sl t) l = 2 then .fin t cmZ 2
      else if bS (bLs sl t) l = 0 ∨ ((bX (bLs sl t) l).t = 1 ∧ (bB (bLs sl t) l).length = 0) then .fin t cmZ 0
      else if (bX (bLs sl t) l).t = 2 then .go (addO t (bX (bLs sl t) l).v ((l.length : Int) - (bB (bLs sl t) l).length))
      else .fin (endN t) (rcm t (bX (bLs sl t) l) (bB (bLs sl t) l)).1 (rcm t (bX (bLs sl t) l) (bB (bLs sl t) l)).2 := by
  unfold rst
  rw [if_neg hg, if_neg hq]
  generalize bLs sl t = L
  cases hb : bgn L l with
  | none =>
    have hS : bS L l = 0 := by unfold bS; rw [hb]; rfl
    rw [hS, if_neg (by omega), if_pos (.inl rfl)]
  | some n =>
    obtain ⟨hn, hne⟩ := bgn_spec hb
    have hS : bS L l = lkS L (l.take (n + 1)) := by unfold bS; rw [hb]; rfl
    have hX : bX L l = (lkV L (l.take (n + 1))).getD bd0 := by unfold bX; rw [hb]; rfl
    have hB : bB L l = l.drop (n + 1) := by unfold bB; rw [hb]; rfl
    have hl : (l.drop (n + 1)).length = l.length - (n + 1) := List.length_drop
    rw [hS, hX, hB, hl]
    dsimp only
    generalize (lkV L (l.take (n + 1))).getD bd0 = x
    by_cases h2 : lkS L (l.take (n + 1)) = 2
    · rw [if_pos h2, if_pos h2]
    · rw [if_neg h2, if_neg h2]
      by_cases h1 : x.t = 1 ∧ l.length = n + 1
      · rw [if_pos h1, if_pos (show lkS L (l.take (n + 1)) = 0 ∨ x.t = 1 ∧ l.length - (n + 1) = 0 from .inr ⟨h1.1, by omega⟩)]
      · have hno : ¬ (lkS L (l.take (n + 1)) = 0 ∨ x.t = 1 ∧ l.length - (n + 1) = 0) := by
          rintro (e | ⟨e1, e2⟩)
          · exact hne e
          · exact h1 ⟨e1, by omega⟩
        rw [if_neg h1, if_neg hno]
        have he : (l.length : Int) - ((l.length - (n + 1) : Nat) : Int) = (n : Int) + 1 := by omega
        rw [he]
theorem bB_lt {L : List (List Int × Bd)} {l : List Int} (h : bS L l ≠ 0) : (bB L l).length < l.length := by
  unfold bS at h
  unfold bB
  cases hb : bgn L l with
  | none => rw [hb] at h; exact absurd rfl h
  | some n =>
    obtain ⟨hn, _⟩ := bgn_spec hb
    show (l.drop (n + 1)).length < l.length
    rw [List.length_drop]
    omega
end Go.Proofs.YtfdceljdhgbkcaaGreatDoor
