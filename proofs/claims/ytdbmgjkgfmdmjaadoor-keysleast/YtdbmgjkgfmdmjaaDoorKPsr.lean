/- The parser whole, and which bindings it asks. -/
import Derived.Test.YtdbmgjkgfmdmjaaDoorKFil
import Derived.Test.YtdbmgjkgfmdmjaaDoorKBgn
import Derived.Test.YtdbmgjkgfmdmjaaDoorKRcm
namespace Go.Proofs.YtdbmgjkgfmdmjaaDoor
open Go.RowKit
/-- What lies at k is no block of cells but places of bindings. -/
def Hv (w : World) (k : Nat) : Prop := ∀ c T r, w.heap[k]? = some (.cells c T r) → T = 139
theorem TeB.typed {w : World} {own : Nat → Prop} {n : Nat} {ns : List (List Int)} {vs : List (Option Bd)} {m s : Value} (h : TeB w own n ns vs m s) : ∃ own', TeB w own' n ns vs m s ∧ ∀ k, own' k → own k ∧ Hv w k := by
  rcases h with h | ⟨hn, bm, g, c, e1, e2, o1, o2, hm, hp⟩
  · exact ⟨fun _ => False, .inl h, fun k hk => hk.elim⟩
  · refine ⟨fun k => k = bm ∨ k = g, .inr ⟨hn, bm, g, c, e1, e2, .inl rfl, .inr rfl, hm, hp⟩, ?_⟩
    rintro k (rfl | rfl)
    · refine ⟨o1, fun c T r e => ?_⟩
      obtain ⟨es, cl, hmm⟩ := hm.ismap
      rw [hmm] at e
      cases e
    · refine ⟨o2, fun c T r e => ?_⟩
      rw [e2] at hp
      obtain ⟨_, cur, hg, _⟩ := hp.blk
      rw [hg] at e
      cases e
      rfl
/-- A trie of the parser: empty yet, or filled with its rows. -/
def Tr1 (w : World) (L : List (List Int × Bd)) (m s : Value) : Prop :=
  (m = .map none ∧ s = .slice none 0 0) ∨ ∃ own ns vs, TeB w own 1000 ns vs m s ∧ Tri ns vs L ∧ ns.length ≤ 1000 ∧ ∀ k, own k → k < w.heap.size ∧ Hv w k
/-- What is written is no trie's. -/
theorem Tr1.turn {w w' : World} {o : Nat → Prop} {L : List (List Int × Bd)} {m s : Value} (h : Tr1 w L m s) (k : Kps o w w') (ho : ∀ i, i < w.heap.size → o i → ¬ Hv w i) : Tr1 w' L m s := by
  rcases h with h | ⟨own, ns, vs, h1, h2, h3, h4⟩
  · exact .inl h
  · have hs : ∀ i, own i → w'.heap[i]? = w.heap[i]? := fun i hi => k.same i (h4 i hi).1 (fun e => ho i (h4 i hi).1 e (h4 i hi).2)
    exact .inr ⟨own, ns, vs, h1.same hs, h2, h3, fun i hi => ⟨Nat.lt_of_lt_of_le (h4 i hi).1 k.size, fun c T r e => (h4 i hi).2 c T r (by rw [← hs i hi]; exact e)⟩⟩
theorem not_hv {w : World} {i : Nat} {c : Array Value} {T : TypeId} {r : Nat × Nat} (h : w.heap[i]? = some (.cells c T r)) (ht : T ≠ 139) : ¬ Hv w i := fun e => ht (e c T r h)
theorem Tr1.kps {w w' : World} {b : Nat} {L : List (List Int × Bd)} {m s : Value} (h : Tr1 w L m s) (k : Kps (fun k => k = b) w w') {m0 s0 m1 s1 m2 s2 sl pv : Value} {t : Rdg} (hp : PB w b m0 s0 m1 s1 m2 s2 sl pv t) : Tr1 w' L m s :=
  h.turn k (fun i _ e => by subst e; exact not_hv hp (by decide))
/-- A parser at block b. -/
def Psr (w : World) (b : Nat) (sl : Bool) (pv : Value) (t : Rdg) : Prop :=
  ∃ m0 s0 m1 s1 m2 s2, PB w b m0 s0 m1 s1 m2 s2 (.bool sl) pv t ∧ Tr1 w (fil tNor) m0 s0 ∧ Tr1 w (fil tSln) m1 s1 ∧ Tr1 w (fil tTar) m2 s2
theorem Psr.lt {w : World} {b : Nat} {sl : Bool} {pv : Value} {t : Rdg} (h : Psr w b sl pv t) : b < w.heap.size := by
  obtain ⟨_, _, _, _, _, _, hp, _⟩ := h
  exact hp.lt
theorem Psr.ext {w w' : World} {b : Nat} {sl : Bool} {pv : Value} {t : Rdg} (h : Psr w b sl pv t) (hb : Below w.heap.size w w') : Psr w' b sl pv t := by
  obtain ⟨m0, s0, m1, s1, m2, s2, hp, h0, h1, h2⟩ := h
  have hk := Kps.of_below (fun k => k = b) hb
  exact ⟨m0, s0, m1, s1, m2, s2, hp.ext hb, h0.kps hk hp, h1.kps hk hp, h2.kps hk hp⟩
/-- Blocks have turned that are no trie's. -/
theorem Psr.turn {w w' : World} {b : Nat} {sl sl' : Bool} {pv pv' : Value} {t t' : Rdg} {o : Nat → Prop} (h : Psr w b sl pv t) (hk : Kps o w w') (ho : ∀ i, i < w.heap.size → o i → ¬ Hv w i) (hp' : ∀ m0 s0 m1 s1 m2 s2, PB w b m0 s0 m1 s1 m2 s2 (.bool sl) pv t → PB w' b m0 s0 m1 s1 m2 s2 (.bool sl') pv' t') : Psr w' b sl' pv' t' := by
  obtain ⟨m0, s0, m1, s1, m2, s2, hp, h0, h1, h2⟩ := h
  exact ⟨m0, s0, m1, s1, m2, s2, hp' _ _ _ _ _ _ hp, h0.turn hk ho, h1.turn hk ho, h2.turn hk ho⟩
/-- The trie that is asked, filled. -/
def BnR (w w' : World) (b off : Nat) (L : List (List Int × Bd)) (sl : Bool) (pv : Value) (t : Rdg) : Prop :=
  Psr w' b sl pv t ∧ Kps (fun k => k = b) w w' ∧ ∃ cs own ns vs m s, w'.heap[b]? = some (.cells cs 66 (0, 0)) ∧ cs[off]? = some m ∧ cs[off + 1]? = some s ∧ TeB w' own 1000 ns vs m s ∧ Tri ns vs L ∧ ns.length ≤ 1000
theorem filN_any {w : World} {b : Nat} {sl : Bool} {pv : Value} {t : Rdg} (h : Psr w b sl pv t) :
    Calls Tryd.prog 77 #[.pointer (some ⟨b, 0, none⟩), .func (.func 45) #[] #[]] w fun e w' => e = .returned (.pointer (some ⟨b, 0, none⟩)) ∧ BnR w w' b 0 (fil tNor) sl pv t := by
  obtain ⟨m0, s0, m1, s1, m2, s2, hp, h0, h1, h2⟩ := h
  have hbl := hp.lt
  rcases h0 with ⟨rfl, rfl⟩ | ⟨own, ns, vs, q1, q2, q3, q4⟩
  · refine (filledN_new b 0 _ w hp rfl rfl).mono ?_
    rintro e w' ⟨rfl, own, m, s, ns, vs, r1, r2, r3, r4, r5, r6⟩
    obtain ⟨ow2, n1, n2⟩ := r2.typed
    have hp' : PB w' b m s m1 s1 m2 s2 (.bool sl) pv t := r1
    exact ⟨rfl, ⟨m, s, m1, s1, m2, s2, hp', .inr ⟨ow2, ns, vs, n1, r3, r4, fun k hk => ⟨(r5 k (n2 k hk).1).2, (n2 k hk).2⟩⟩, h1.kps r6 hp, h2.kps r6 hp⟩, r6, _, own, ns, vs, m, s, hp', rfl, rfl, r2, r3, r4⟩
  · refine (filled_old b 0 _ w m0 s0 own 1000 ns vs (fil tNor) _ hp rfl rfl q1 q2 q3 sayN).mono ?_
    rintro e w' ⟨rfl, hb⟩
    have hk := Kps.of_below (fun k => k = b) hb
    exact ⟨rfl, ⟨m0, s0, m1, s1, m2, s2, hp.ext hb, Tr1.kps (.inr ⟨own, ns, vs, q1, q2, q3, q4⟩) hk hp, h1.kps hk hp, h2.kps hk hp⟩, hk, _, own, ns, vs, m0, s0, hp.ext hb, rfl, rfl, q1.ext hb, q2, q3⟩
theorem filS_any {w : World} {b : Nat} {sl : Bool} {pv : Value} {t : Rdg} (h : Psr w b sl pv t) :
    Calls Tryd.prog 77 #[.pointer (some ⟨b, 2, none⟩), .func (.func 46) #[] #[]] w fun e w' => e = .returned (.pointer (some ⟨b, 2, none⟩)) ∧ BnR w w' b 2 (fil tSln) sl pv t := by
  obtain ⟨m0, s0, m1, s1, m2, s2, hp, h0, h1, h2⟩ := h
  have hbl := hp.lt
  rcases h1 with ⟨rfl, rfl⟩ | ⟨own, ns, vs, q1, q2, q3, q4⟩
  · refine (filledS_new b 2 _ w hp rfl rfl).mono ?_
    rintro e w' ⟨rfl, own, m, s, ns, vs, r1, r2, r3, r4, r5, r6⟩
    obtain ⟨ow2, n1, n2⟩ := r2.typed
    have hp' : PB w' b m0 s0 m s m2 s2 (.bool sl) pv t := r1
    exact ⟨rfl, ⟨m0, s0, m, s, m2, s2, hp', h0.kps r6 hp, .inr ⟨ow2, ns, vs, n1, r3, r4, fun k hk => ⟨(r5 k (n2 k hk).1).2, (n2 k hk).2⟩⟩, h2.kps r6 hp⟩, r6, _, own, ns, vs, m, s, hp', rfl, rfl, r2, r3, r4⟩
  · refine (filled_old b 2 _ w m1 s1 own 1000 ns vs (fil tSln) _ hp rfl rfl q1 q2 q3 sayS).mono ?_
    rintro e w' ⟨rfl, hb⟩
    have hk := Kps.of_below (fun k => k = b) hb
    exact ⟨rfl, ⟨m0, s0, m1, s1, m2, s2, hp.ext hb, h0.kps hk hp, Tr1.kps (.inr ⟨own, ns, vs, q1, q2, q3, q4⟩) hk hp, h2.kps hk hp⟩, hk, _, own, ns, vs, m1, s1, hp.ext hb, rfl, rfl, q1.ext hb, q2, q3⟩
theorem filT_any {w : World} {b : Nat} {sl : Bool} {pv : Value} {t : Rdg} (h : Psr w b sl pv t) :
    Calls Tryd.prog 77 #[.pointer (some ⟨b, 4, none⟩), .func (.func 70) #[] #[]] w fun e w' => e = .returned (.pointer (some ⟨b, 4, none⟩)) ∧ BnR w w' b 4 (fil tTar) sl pv t := by
  obtain ⟨m0, s0, m1, s1, m2, s2, hp, h0, h1, h2⟩ := h
  have hbl := hp.lt
  rcases h2 with ⟨rfl, rfl⟩ | ⟨own, ns, vs, q1, q2, q3, q4⟩
  · refine (filledT_new b 4 _ w hp rfl rfl).mono ?_
    rintro e w' ⟨rfl, own, m, s, ns, vs, r1, r2, r3, r4, r5, r6⟩
    obtain ⟨ow2, n1, n2⟩ := r2.typed
    have hp' : PB w' b m0 s0 m1 s1 m s (.bool sl) pv t := r1
    exact ⟨rfl, ⟨m0, s0, m1, s1, m, s, hp', h0.kps r6 hp, h1.kps r6 hp, .inr ⟨ow2, ns, vs, n1, r3, r4, fun k hk => ⟨(r5 k (n2 k hk).1).2, (n2 k hk).2⟩⟩⟩, r6, _, own, ns, vs, m, s, hp', rfl, rfl, r2, r3, r4⟩
  · refine (filled_old b 4 _ w m2 s2 own 1000 ns vs (fil tTar) _ hp rfl rfl q1 q2 q3 sayT).mono ?_
    rintro e w' ⟨rfl, hb⟩
    have hk := Kps.of_below (fun k => k = b) hb
    exact ⟨rfl, ⟨m0, s0, m1, s1, m2, s2, hp.ext hb, h0.kps hk hp, h1.kps hk hp, Tr1.kps (.inr ⟨own, ns, vs, q1, q2, q3, q4⟩) hk hp⟩, hk, _, own, ns, vs, m2, s2, hp.ext hb, rfl, rfl, q1.ext hb, q2, q3⟩
def bOff (sl : Bool) (t : Rdg) : Nat := if t.o = 0 then (if sl then 2 else 0) else 4
def bLs (sl : Bool) (t : Rdg) : List (List Int × Bd) := if t.o = 0 then (if sl then fil tSln else fil tNor) else fil tTar
set_option maxRecDepth 100000 in
theorem bindings_any {w : World} {b : Nat} {sl : Bool} {pv : Value} {t : Rdg} (h : Psr w b sl pv t) :
    Calls Tryd.prog 55 #[.pointer (some ⟨b, 0, none⟩)] w fun e w' => e = .returned (.pointer (some ⟨b, bOff sl t, none⟩)) ∧ BnR w w' b (bOff sl t) (bLs sl t) sl pv t := by
  obtain ⟨c6, c12⟩ : w.cell? ⟨b, 6, none⟩ = some (.bool sl) ∧ w.cell? ⟨b, 12, none⟩ = some (.int .i64 t.o) := by
    obtain ⟨_, _, _, _, _, _, hp, _⟩ := h
    obtain ⟨_, _, _, _, _, _, _, c6, _, _, _, _, _, c12, _⟩ := cells13 hp
    exact ⟨c6, c12⟩
  by_cases ho : t.o = 0
  · have hob : (t.o != 0) = false := by simpa using ho
    cases sl
    · skip
      have HF := hidIt (filN_any h)
      have HE : Hid (bOff false t = 0 ∧ bLs false t = fil tNor) := by unfold Hid bOff bLs; simp [ho]
      generalize fil tNor = L at HF HE
      clear h ho
      go_enter Tryd.func55, Tryd.ntmps55
      go_wp2_with (go_at_call 77; refine HF.out.mono ?_; rintro e y ⟨rfl, hr⟩; (try dsimp only); have HR := hidIt hr; clear hr)
      refine bodyPost_ret (v := .pointer (some ⟨b, 0, none⟩)) (by simp [results, Tryd.results55, go_sem]) rfl ⟨by rw [HE.out.1], ?_⟩
      rw [HE.out.1, HE.out.2]
      exact HR.out
    · skip
      have HF := hidIt (filS_any h)
      have HE : Hid (bOff true t = 2 ∧ bLs true t = fil tSln) := by unfold Hid bOff bLs; simp [ho]
      generalize fil tSln = L at HF HE
      clear h ho
      go_enter Tryd.func55, Tryd.ntmps55
      go_wp2_with (go_at_call 77; refine HF.out.mono ?_; rintro e y ⟨rfl, hr⟩; (try dsimp only); have HR := hidIt hr; clear hr)
      refine bodyPost_ret (v := .pointer (some ⟨b, 2, none⟩)) (by simp [results, Tryd.results55, go_sem]) rfl ⟨by rw [HE.out.1], ?_⟩
      rw [HE.out.1, HE.out.2]
      exact HR.out
  · have hob : (t.o != 0) = true := by simpa using ho
    have HF := hidIt (filT_any h)
    have HE : Hid (bOff sl t = 4 ∧ bLs sl t = fil tTar) := by unfold Hid bOff bLs; simp [ho]
    generalize fil tTar = L at HF HE
    clear h ho
    go_enter Tryd.func55, Tryd.ntmps55
    go_wp2_with (go_at_call 77; refine HF.out.mono ?_; rintro e y ⟨rfl, hr⟩; (try dsimp only); have HR := hidIt hr; clear hr)
    refine bodyPost_ret (v := .pointer (some ⟨b, 4, none⟩)) (by simp [results, Tryd.results55, go_sem]) rfl ⟨by rw [HE.out.1], ?_⟩
    rw [HE.out.1, HE.out.2]
    exact HR.out
end Go.Proofs.YtdbmgjkgfmdmjaaDoor
