import Derived.Test.YtfdceljdhgbkcaaGreatDoorJ02
import Derived.Test.YtfdceljdhgbkcaaGreatDoorJ11
/- Put of a trie, at keys.binding. -/
namespace Go.Proofs.YtfdceljdhgbkcaaGreatDoor
open Go.RowKit

set_option maxRecDepth 100000 in
set_option maxHeartbeats 1000000 in
theorem putB_any (b o : Nat) (T : TypeId) (cs : Array Value) (w : World) (m s : Value) (own : Nat → Prop) (n : Nat) (ns : List (List Int)) (vs : List (Option Bd)) (L : List (List Int × Bd)) (l : Value) (ks : List Int) (v : Bd)
    (hb : w.heap[b]? = some (.cells cs T (0, 0))) (hm : cs[o]? = some m) (hs : cs[o + 1]? = some s) (ht : TeB w own n ns vs m s) (hT : Tri ns vs L) (hns : ns.length + ks.length ≤ 1099511627776) (hn : n + ks.length ≤ 1099511627776) (hk : Rd .i64 w l ks) (h64 : ∀ k ∈ ks, In64 k)
    (hob : ¬ own b) (hol : ∀ k, own k → k < w.heap.size) (hko : ∀ k off nn c, l = .slice (some ⟨k, off, none⟩) nn c → k ≠ b ∧ ¬ own k) :
    Calls Tryz.prog 78 #[.pointer (some ⟨b, o, none⟩), .agg #[.int .i64 v.v, .int .i64 v.m, .int .i64 v.a, .int .i64 v.t], l] w fun e w' => e = .returned (.bool (can L ks)) ∧ PRB w w' b o T cs own (n + ks.length) (ns.length + ks.length + 1) (if can L ks = true then L ++ [(ks, v)] else L) := by
  have hbl : b < w.heap.size := (Array.getElem?_eq_some_iff.1 hb).1
  have hos : o + 1 < cs.size := (Array.getElem?_eq_some_iff.1 hs).1
  obtain ⟨w0, hw0, k0, hb0⟩ : ∃ w0, w0 = w.alloc (.cells #[.int .i64 v.v, .int .i64 v.m, .int .i64 v.a, .int .i64 v.t] 62) ∧ w0.heap[w.heap.size]? = some (.cells #[.int .i64 v.v, .int .i64 v.m, .int .i64 v.a, .int .i64 v.t] 62 (0, 0)) ∧ Below w.heap.size w w0 := ⟨_, rfl, heap_alloc_new _ _, ext_alloc (Below.refl _ _) _⟩
  have HB0 := hidIt hb0
  have hb' : w0.heap[b]? = some (.cells cs T (0, 0)) := (hb0.block _ hbl).trans hb
  have ht' := ht.ext hb0
  have HW := hidIt (walkB_any b o T cs w0 m s own n ns vs l ks hb' hm ht' (by omega) (hk.ext hb0) h64)
  have ha : (wk ns 0 0 ks).1 < ns.length ∨ ns = [] := by
    by_cases hn0 : ns = []
    · exact .inr hn0
    · have := hT.here hn0 ks
      rw [hT.len] at this
      exact .inl this
  have HH := hidIt (hasB_any b o T cs w0 m s own n ns vs (wk ns 0 0 ks).1 hb' hs ht' hT.len (by omega) ha (by
    rcases ha with ha | ha
    · omega
    · subst ha; rw [wk_nil]; simp))
  have hcan := hT.can ks
  have hlen := hk.len
  have hgl : (wk ns 0 0 ks).2 ≤ ks.length := by
    by_cases hn0 : ns = []
    · subst hn0; rw [wk_nil]; simp
    · obtain ⟨g, g1, g2, _⟩ := hT.walk hn0 ks
      omega
  have hk0 := hk
  obtain ⟨ao, cap, rfl, hl1, hc1, hcl⟩ := hk
  -- what stays as it is
  have same : ∀ wf : World, Below w.heap.size w wf → PRB w wf b o T cs own (n + ks.length) (ns.length + ks.length + 1) L := by
    intro wf hf
    refine ⟨m, s, own, ns, vs, ?_, (ht.ext hf).mono (fun _ h => h) (by omega), hT, by omega, Kps.of_below _ hf, fun k h => .inl h, fun k h => Nat.lt_of_lt_of_le (hol k h) hf.size⟩
    rw [set_same hm hs]
    exact (hf.block _ hbl).trans hb
  by_cases hge : (wk ns 0 0 ks).2 = ks.length
  · have e : can L ks = false := by rw [hcan]; simp [hge]
    rw [e]
    have hq : (((wk ns 0 0 ks).2 : Int) == (ks.length : Int)) = true := by rw [hge]; simp
    have SM := hidIt same
    generalize (wk ns 0 0 ks).1 = a at *
    generalize (wk ns 0 0 ks).2 = q at *
    clear hT ht ht' hcan ha hge same hb hb' hcl hk0 h64 hko hol hob hns hn hgl e hm hs
    go_enter Tryz.func78, Tryz.ntmps78
    go_upto_region 1 with fail
    rw [← hw0]; clear hw0
    go_wp2_with (first | (go_at_call 77; refine HW.out.mono ?_; rintro e y ⟨rfl, rfl⟩; (try dsimp only)) | (go_at_call 92; refine HH.out.mono ?_; rintro e y ⟨rfl, rfl⟩; (try dsimp only)))
    go_ret
    exact ⟨rfl, SM.out _ HB0.out⟩
  have hq : (((wk ns 0 0 ks).2 : Int) == (ks.length : Int)) = false := by simpa using (show ¬ ((wk ns 0 0 ks).2 : Int) = (ks.length : Int) by omega)
  cases hv : (vs[(wk ns 0 0 ks).1]?).join with
  | some v' =>
    have e : can L ks = false := by rw [hcan]; simp [hv]
    rw [e]
    rw [hv, Option.isSome_some] at HH
    have SM := hidIt same
    generalize (wk ns 0 0 ks).1 = a at *
    generalize (wk ns 0 0 ks).2 = q at *
    clear hT ht ht' hcan ha hge same hb hb' hcl hk0 h64 hko hol hob hns hn hgl e hv hm hs
    go_enter Tryz.func78, Tryz.ntmps78
    go_upto_region 1 with fail
    rw [← hw0]; clear hw0
    go_wp2_with (first | (go_at_call 77; refine HW.out.mono ?_; rintro e y ⟨rfl, rfl⟩; (try dsimp only)) | (go_at_call 92; refine HH.out.mono ?_; rintro e y ⟨rfl, rfl⟩; (try dsimp only)))
    go_ret
    exact ⟨rfl, SM.out _ HB0.out⟩
  | none =>
    have e : can L ks = true := by rw [hcan]; simp [hv, hge]
    rw [e]
    rw [hv, Option.isSome_none] at HH
    have hlt : (wk ns 0 0 ks).2 < ks.length := by omega
    have hway := hT.way0 hlt
    have hput := hT.put v e hlt
    clear same
    obtain ⟨bk, off, rfl, hbk, hcl⟩ := hcl (by intro e; rw [e] at hlt; simp at hlt)
    obtain ⟨hkb, hkn⟩ := hko bk off _ _ rfl
    have hks : Hid (∀ wr, Kps (fun k => k = b ∨ own k) w0 wr → ∀ j, j < ks.length → wr.cell? ⟨bk, off + j, none⟩ = some (.int .i64 (ks[j]?.getD 0))) := by
      intro wr hkp j hj
      have : wr.heap[bk]? = w0.heap[bk]? := hkp.same bk (Nat.lt_of_lt_of_le hbk hb0.size) (fun e => by rcases e with e | e; exact hkb e; exact hkn e)
      have h2 : w0.cell? ⟨bk, off + j, none⟩ = some (.int .i64 (ks[j]?.getD 0)) := (hb0.cell (p := ⟨bk, off + j, none⟩) hbk).trans (hcl j hj)
      rw [← h2]
      unfold World.cell?
      simp only [this]
    have HBX : Hid (∀ wr, Kps (fun k => k = b ∨ own k) w0 wr → wr.heap[w.heap.size]? = some (.cells #[.int .i64 v.v, .int .i64 v.m, .int .i64 v.a, .int .i64 v.t] 62 (0, 0))) := fun wr hkp => (hkp.same _ (Array.getElem?_eq_some_iff.1 k0).1 (fun e => by rcases e with e | e; omega; have := hol _ e; omega)).trans k0
    have H64 := hidIt h64
    have HOB := hidIt hob
    have hb0l : b < w0.heap.size := Nat.lt_of_lt_of_le hbl hb0.size
    rcases ht' with ⟨hnse, hvse, rfl, rfl⟩ | ⟨hn0, bm, g, c, rfl, rfl, o1, o2, hmp, hpl⟩
    · have hn0' : ns0 ns = [[]] := by rw [hnse]; rfl
      have hv0' : vs0 ns vs = [none] := by rw [hnse]; rfl
      rw [hn0'] at hway hput
      rw [hv0'] at hput
      obtain ⟨n0, hn0e⟩ : ∃ n0 : List (List Int), n0 = [[]] := ⟨_, rfl⟩
      obtain ⟨v0, hv0e⟩ : ∃ v0 : List (Option Bd), v0 = [none] := ⟨_, rfl⟩
      rw [← hn0e] at hway hput
      rw [← hv0e] at hput
      have hvl : v0.length = n0.length := by rw [hn0e, hv0e]; rfl
      have hnl1 : n0.length = 1 := by rw [hn0e]; rfl
      have hnl : n0.length ≤ ns.length + 1 := by omega
      obtain ⟨wB, hwB⟩ : ∃ wB, wB = (w0.alloc (.map #[] 0)).setCell ⟨b, o, none⟩ (.map (some w0.heap.size)) := ⟨_, rfl⟩
      obtain ⟨wD, hwD⟩ : ∃ wD, wD = (wB.alloc (.cells #[.int .i64 0, .int .i64 0, .int .i64 0, .int .i64 0, .bool false] 125)).setCell ⟨b, o + 1, none⟩ (.slice (some ⟨wB.heap.size, 0, none⟩) 1 1) := ⟨_, rfl⟩
      have hA : (w0.alloc (.map #[] 0)).heap[b]? = some (.cells cs T (0, 0)) := ((MapKept.heap_alloc w0 _).2 b hb0l).trans hb'
      have fA : (w0.alloc (.map #[] 0)).cell? ⟨b, o, none⟩ = some (.map none) := by rw [cell_of_row _ _ _ _ _ _ hA]; exact hm
      have fAf : (w0.alloc (.map #[] 0)).frozen? ⟨b, o, none⟩ = false := by simp [World.frozen?, hA]
      have sA : (w0.alloc (.map #[] 0)).heap.size = w0.heap.size + 1 := World.size_alloc _ _
      obtain ⟨hB, gB⟩ := set1 hA o (.map (some w0.heap.size))
      rw [← hwB] at hB gB
      have sB : wB.heap.size = w0.heap.size + 1 := by rw [hwB]; simp [World.size_alloc]
      have hC : (wB.alloc (.cells #[.int .i64 0, .int .i64 0, .int .i64 0, .int .i64 0, .bool false] 125)).heap[b]? = some (.cells (cs.setIfInBounds o (.map (some w0.heap.size))) T (0, 0)) := ((MapKept.heap_alloc wB _).2 b (by omega)).trans hB
      have fC : (wB.alloc (.cells #[.int .i64 0, .int .i64 0, .int .i64 0, .int .i64 0, .bool false] 125)).cell? ⟨b, o + 1, none⟩ = some (.slice none 0 0) := by rw [cell_of_row _ _ _ _ _ _ hC, Array.getElem?_setIfInBounds_ne (by omega)]; exact hs
      have fCf : (wB.alloc (.cells #[.int .i64 0, .int .i64 0, .int .i64 0, .int .i64 0, .bool false] 125)).frozen? ⟨b, o + 1, none⟩ = false := by simp [World.frozen?, hC]
      obtain ⟨hD, gD⟩ := set1 hC (o + 1) (.slice (some ⟨wB.heap.size, 0, none⟩) 1 1)
      rw [← hwD] at hD gD
      have sC : (wB.alloc (.cells #[.int .i64 0, .int .i64 0, .int .i64 0, .int .i64 0, .bool false] 125)).heap.size = wB.heap.size + 1 := World.size_alloc _ _
      have hps : PSB w0 wD b o T cs own w0.heap.size 0 n0 v0 ks (wk ns 0 0 ks).2 0 wB.heap.size 1 := by
        refine ⟨?_, ?_, ?_, .inr (by omega), .inr (Nat.le_refl _), ?_⟩
        · rw [hD, Nat.add_zero, hnl1]
        · rw [gro_zero, hn0e]
          refine (MpS.made (w := w0) 0).same ?_
          rw [gD.block _ (by omega) (by simp; omega), (MapKept.heap_alloc wB _).2 _ (by omega), gB.block _ (by omega) (by simp; omega)]
        · rw [Nat.add_zero, hnl1, List.replicate_zero, List.append_nil]
          refine PlB.of (xs := v0) (cur := #[.int .i64 0, .int .i64 0, .int .i64 0, .int .i64 0, .bool false]) ?_ rfl (by rw [hv0e]; exact Nat.le_refl _) (by omega) (by rw [hv0e]; rfl) |> fun h => by rw [hv0e] at h ⊢; exact h
          rw [gD.block _ (by omega) (by simp; omega)]
          exact heap_alloc_new _ _
        · have k1 : Kps (fun k => k = b ∨ own k) w0 (w0.alloc (.map #[] 0)) := Kps.of_below _ (ext_alloc (Below.refl _ _) _)
          have k2 : Kps (fun k => k = b) (w0.alloc (.map #[] 0)) wB := Kps.grown gB (fun k e _ => by cases e; rfl)
          have k3 : Kps (fun _ => False) wB (wB.alloc (.cells #[.int .i64 0, .int .i64 0, .int .i64 0, .int .i64 0, .bool false] 125)) := Kps.of_below _ (ext_alloc (Below.refl _ _) _)
          have k4 : Kps (fun k => k = b) (wB.alloc (.cells #[.int .i64 0, .int .i64 0, .int .i64 0, .int .i64 0, .bool false] 125)) wD := Kps.grown gD (fun k e _ => by cases e; rfl)
          exact Kps.trans (Kps.trans (Kps.trans k1 k2 (fun _ _ e => .inl e)) k3 (fun _ _ e => e.elim)) k4 (fun _ _ e => .inl e)
      have mq := meq_none w0
      have hmm := @run_makeMap Tryz.prog
      have hmk := mk_oneB
      have cm0 : w0.cell? ⟨b, o, none⟩ = some (.map none) := by rw [cell_of_row _ _ _ _ _ _ hb']; exact hm
      have HPS := hidIt hps
      have HWAY := hidIt hway
      have HVL := hidIt hvl
      have hns : n0.length + ks.length ≤ 1099511627777 := by omega
      have FIN : Hid (∀ wr wf gp c p, ks.length = (wk ns 0 0 ks).2 + p → PSB w0 wr b o T cs own w0.heap.size 0 n0 v0 ks (wk ns 0 0 ks).2 p gp c → PlB wf (.slice (some ⟨gp, 0, none⟩) (n0.length + p) c) ((v0 ++ List.replicate p none).set (n0.length + p - 1) (some v)) → wr.grownBy wf (some gp) → PRB w wf b o T cs own (n + ks.length) (ns.length + ks.length + 1) (L ++ [(ks, v)])) := by
        intro wr wf gp c p hp hps hpl hgs
        obtain ⟨f1, f2, f3⟩ := hps.ne hb0l hob
        have hs1 := hps.kp.size
        have hs2 := hgs.size
        have hs0 := hb0.size
        have hpp : ks.length - (wk ns 0 0 ks).2 = p := by omega
        rw [hpp] at hput
        have hgl := gro_len (n0) ks (wk ns 0 0 ks).2 p
        have hbm : w0.heap.size < wr.heap.size := hps.mp.lt
        have hgp : gp < wr.heap.size := by obtain ⟨_, cur, h2, _⟩ := hps.pl.blk; exact (Array.getElem?_eq_some_iff.1 h2).1
        obtain ⟨D, hD1, hD2⟩ := hps.mp.same (hgs.block w0.heap.size hbm (by simpa using f3.symm))
        refine ⟨.map (some w0.heap.size), .slice (some ⟨gp, 0, none⟩) (gro (n0) ks (wk ns 0 0 ks).2 p).length c, fun k => (own k ∨ w.heap.size ≤ k) ∧ k < wf.heap.size, _, _, ?_, .inr ⟨?_, w0.heap.size, gp, c, rfl, rfl, ⟨?_, by omega⟩, ⟨?_, by omega⟩, ⟨D, hD1.mono (by omega), hD2⟩, ?_⟩, hput, ?_, ?_, fun k h => h.1, fun k h => h.2⟩
        · rw [hgl]
          exact (hgs.block b (by omega) (by simpa using f1.symm)).trans hps.blk
        · intro e
          rw [e] at hgl
          have := hlt
          simp only [List.length_nil] at hgl
          omega
        · rcases hps.om with h | h
          · exact .inl h
          · exact .inr (by omega)
        · rcases hps.og with h | h
          · exact .inl h
          · exact .inr (by omega)
        · rw [hgl]
          rw [set_last _ _ _ (by omega) hvl] at hpl
          exact hpl
        · rw [hgl]
          omega
        · refine Kps.trans (Kps.trans (Kps.of_below _ hb0) hps.kp (fun _ _ e => e)) (Kps.grown (o := fun k => k = gp) hgs (fun k e _ => by cases e; rfl)) ?_
          rintro j hj rfl
          rcases hps.og with h | h
          · exact .inr h
          · omega
      have cm1 := cm0
      have HWB := hidIt hwB
      have HWD := hidIt hwD
      have HNL := hidIt hnl
      clear hwB hwD hps hput hway hT ht hcan hb hb' hcl hk0 h64 hko hm hs hn0' hv0' ha hv e hge hA hB gB hC hD gD sA sB sC hnse hvse hn0e hv0e hnl1 hvl hnl
      generalize (wk ns 0 0 ks).1 = a at *
      generalize (wk ns 0 0 ks).2 = q at *
      go_enter Tryz.func78, Tryz.ntmps78
      go_upto_region 1 with fail
      rw [← hw0]; clear hw0
      go_upto_region 6 with (first | (go_at_call 77; refine HW.out.mono ?_; rintro e y ⟨rfl, rfl⟩; (try dsimp only)) | (go_at_call 92; refine HH.out.mono ?_; rintro e y ⟨rfl, rfl⟩; (try dsimp only)))
      rw [← World.setCell_alloc_past _ _ _ _ hb0l, ← HWB.out]
      go_upto_region 7 with (first | (go_at_call 77; refine HW.out.mono ?_; rintro e y ⟨rfl, rfl⟩; (try dsimp only)) | (go_at_call 92; refine HH.out.mono ?_; rintro e y ⟨rfl, rfl⟩; (try dsimp only)))
      rw [← HWD.out]
      clear fA fAf fC fCf hmm hmk
      go_wp2
      generalize hdd : ks.length - q = dd
      have HDD := hidIt (show ks.length = q + dd by omega)
      have HDP := hidIt (show 0 < dd by omega)
      have HNS := hidIt hns
      have HNN := hidIt hn
      have HOL := hidIt hol
      clear hdd hns hn hol hob cm0 cm1 mq HW HH
      go_loopw [7, 44] (fun a' i wr => ∃ p qq gp c : Nat, p ≤ dd ∧ a' = .int .i64 (qq : Int) ∧ i = .int .i64 (p : Int) ∧ Hid (PSB w0 wr b o T cs own w0.heap.size 0 n0 v0 ks q p gp c ∧ qq = if p = 0 then a else n0.length + p - 1)) (fun _ i _ => dd - (RowKit.intOf i).toNat)
      case atStart => exact ⟨0, a, _, _, Nat.zero_le _, rfl, rfl, HPS.out, rfl⟩
      case round =>
        obtain ⟨p, qq, gp, c, hp, rfl, rfl, HR⟩ := hrel
        obtain ⟨m0, m1, mf⟩ := HR.out.1.cells hos
        by_cases hlt2 : p < dd
        · have hi1 : (p : Int) < (dd : Int) := by omega
          have hqp : q + p < ks.length := by have := HDD.out; omega
          have c1 : wr.cell? ⟨bk, off + q + p, none⟩ = some (.int .i64 ks[q + p]) := by
            have := hks.out wr HR.out.1.kp (q + p) hqp
            rw [Nat.add_assoc, this]
            simp [hqp]
          have way := HWAY.out.gro p (by omega)
          rw [← HR.out.2] at way
          have hqb : qq ≤ 4611686018427387904 := by
            have h1 := (List.getElem?_eq_some_iff.1 way.at_).1
            rw [gro_len] at h1
            have := HNS.out
            have := HDD.out
            omega
          obtain ⟨w1, hrun, hb1, hpl1, hnext⟩ := HR.out.1.step hb0l HOB.out way hqp (H64.out _ (List.getElem_mem hqp)) hqb (by have := HNN.out; have := HDD.out; omega)
          have HPL1 : Hid (∀ ob, PlB (w1.alloc ob) (.slice (some ⟨gp, 0, none⟩) (n0.length + p) c) (v0 ++ List.replicate p none)) := fun ob => hpl1.same ((MapKept.heap_alloc w1 ob).2 gp (by obtain ⟨_, cur, h2, _⟩ := hpl1.blk; exact (Array.getElem?_eq_some_iff.1 h2).1))
          have HNX := hidIt hnext
          have m1' : w1.cell? ⟨b, o + 1, none⟩ = some (.slice (some ⟨gp, 0, none⟩) (n0.length + p) c) := by
            rw [← m1]
            unfold World.cell?
            simp only [hb1]
          have HBY : Hid (((v0 ++ List.replicate p (none : Option Bd)).length + 1) * 40 ≤ 140737488355328) := by
            have e1 := HVL.out
            have e2 := HNS.out
            have e3 := HDD.out
            unfold Hid
            rw [List.length_append, List.length_replicate, e1]
            omega
          have HPP := hidIt hlt2
          have hpb : p + 1 ≤ 9223372036854775807 := by have := HDD.out; omega
          have HM1 := hidIt m1
          have HB1 := hidIt hb1
          have HBK := hidIt HR.out.1.blk
          generalize ks[q + p] = x at *
          generalize hnp : n0.length + p = np at *
          have HNP := hidIt hnp
          clear hnp
          clear way hnext hpl1 hb1 hqp HR hp hqb mf
          go_wp2_with (at_builtin; refine wpl_plB rfl _ _ rfl gp np c (v0 ++ List.replicate p none) rfl (HPL1.out _) w1.heap.size rfl (heap_alloc_new _ _) HBY.out ?_; intro g' c' w2 hp2 hg2 hn2; obtain ⟨hb2, hps2⟩ := HNX.out _ w2 g' c' hp2 hg2 hn2; have f2 : w2.frozen? ⟨b, o + 1, none⟩ = false := (by simp [World.frozen?, hb2, HBK.out]); have m2 : w2.cell? ⟨b, o + 1, none⟩ = some (.slice (some ⟨gp, 0, none⟩) np c) := (by rw [← HM1.out]; unfold World.cell?; simp only [hb2]); have HPS2 := hidIt hps2; clear hps2 hp2 hg2 hn2 hb2)
          go_roundw
          case rel => exact ⟨p + 1, np, g', c', by have := HPP.out; omega, by go_num, by go_num, HPS2.out, by rw [if_neg (by omega)]; have := HNP.out; omega⟩
          case measure => have := HPP.out; simp [RowKit.intOf]; omega
        · obtain rfl : p = dd := by omega
          have hqq := HR.out.2
          rw [if_neg (by have := HDP.out; omega)] at hqq
          have hpl := HR.out.1.pl
          have hxl : (v0 ++ List.replicate p (none : Option Bd)).length = n0.length + p := by have := HVL.out; simp only [List.length_append, List.length_replicate, this]
          have hqx : qq < (v0 ++ List.replicate p (none : Option Bd)).length := by rw [hxl, hqq]; have := HDP.out; omega
          have hnone : (v0 ++ List.replicate p (none : Option Bd))[qq]?.getD none = none := by
            rw [List.getElem?_append_right (by have := HVL.out; have := HDP.out; omega), List.getElem?_replicate]
            split <;> rfl
          have HCZ : Hid (∀ r, r < 5 → wr.cell? ⟨gp, qq * 5 + r, none⟩ = (pcB none)[r]?) := fun r hr => by
            have := hpl.cell qq hqx r hr
            rw [hnone] at this
            exact this
          obtain ⟨_, x0, x1, x2, x3, _⟩ := cells4 (HBX.out wr HR.out.1.kp)
          have z0 := HCZ.out 0 (by omega)
          have z1 := HCZ.out 1 (by omega)
          have z2 := HCZ.out 2 (by omega)
          have z3 := HCZ.out 3 (by omega)
          have z4 := HCZ.out 4 (by omega)
          replace z0 : wr.cell? ⟨gp, qq * 5, none⟩ = some (.int .i64 0) := z0
          replace z1 : wr.cell? ⟨gp, qq * 5 + 1, none⟩ = some (.int .i64 0) := z1
          replace z2 : wr.cell? ⟨gp, qq * 5 + 2, none⟩ = some (.int .i64 0) := z2
          replace z3 : wr.cell? ⟨gp, qq * 5 + 3, none⟩ = some (.int .i64 0) := z3
          replace z4 : wr.cell? ⟨gp, qq * 5 + 4, none⟩ = some (.bool false) := z4
          have zf := fun j => hpl.frz j
          obtain ⟨hset, hgs⟩ := hpl.set qq hqx v
          have HSET := hidIt hset
          have HGS := hidIt hgs
          have hi1 : (qq : Int) < ((n0.length + p : Nat) : Int) := by rw [hxl] at hqx; omega
          have HR2 := hidIt HR.out.1
          have HQQ := hidIt hqq
          have HXL := hidIt hxl
          have HQX := hidIt hqx
          clear hset hgs hpl hqx hxl hnone HR hqq hp hlt2
          generalize hnp : n0.length + p = np at *
          have HNP := hidIt hnp
          clear hnp
          skip
          go_wp2
          go_region
          go_wp2
          go_ret
          refine ⟨rfl, FIN.out wr _ gp c p HDD.out HR2.out (by rw [HNP.out, ← HQQ.out]; exact HSET.out.same rfl) (grown_drew HGS.out)⟩
    · have hn0' : ns0 ns = ns := by unfold ns0; rw [if_neg hn0]
      have hv0' : vs0 ns vs = vs := by unfold vs0; rw [if_neg hn0]
      rw [hn0'] at hway hput
      rw [hv0'] at hput
      have hps : PSB w0 w0 b o T cs own bm n ns vs ks (wk ns 0 0 ks).2 0 g c := by
        refine ⟨?_, ?_, ?_, .inl o2, .inl o1, Kps.refl _ _⟩
        · show w0.heap[b]? = some (.cells ((cs.setIfInBounds o (.map (some bm))).setIfInBounds (o + 1) (.slice (some ⟨g, 0, none⟩) ns.length c)) T (0, 0))
          rw [set_same hm hs]; exact hb'
        · rw [gro_zero]; exact hmp
        · simpa using hpl
      obtain ⟨cm0, cm1, _⟩ := hps.cells hos
      replace cm1 : w0.cell? ⟨b, o + 1, none⟩ = some (.slice (some ⟨g, 0, none⟩) ns.length c) := cm1
      have mq := meq_some w0 bm
      have HPS := hidIt hps
      have HPUT := hidIt hput
      have HWAY := hidIt hway
      have hvl : vs.length = ns.length := hT.len
      have hnl : ns.length ≤ ns.length + 1 := Nat.le_succ _
      have HVL := hidIt hvl
      have FIN : Hid (∀ wr wf gp c p, ks.length = (wk ns 0 0 ks).2 + p → PSB w0 wr b o T cs own bm n ns vs ks (wk ns 0 0 ks).2 p gp c → PlB wf (.slice (some ⟨gp, 0, none⟩) (ns.length + p) c) ((vs ++ List.replicate p none).set (ns.length + p - 1) (some v)) → wr.grownBy wf (some gp) → PRB w wf b o T cs own (n + ks.length) (ns.length + ks.length + 1) (L ++ [(ks, v)])) := by
        intro wr wf gp c p hp hps hpl hgs
        obtain ⟨f1, f2, f3⟩ := hps.ne hb0l hob
        have hs1 := hps.kp.size
        have hs2 := hgs.size
        have hs0 := hb0.size
        have hpp : ks.length - (wk ns 0 0 ks).2 = p := by omega
        rw [hpp] at hput
        have hgl := gro_len (ns) ks (wk ns 0 0 ks).2 p
        have hbm : bm < wr.heap.size := hps.mp.lt
        have hgp : gp < wr.heap.size := by obtain ⟨_, cur, h2, _⟩ := hps.pl.blk; exact (Array.getElem?_eq_some_iff.1 h2).1
        obtain ⟨D, hD1, hD2⟩ := hps.mp.same (hgs.block bm hbm (by simpa using f3.symm))
        refine ⟨.map (some bm), .slice (some ⟨gp, 0, none⟩) (gro (ns) ks (wk ns 0 0 ks).2 p).length c, fun k => (own k ∨ w.heap.size ≤ k) ∧ k < wf.heap.size, _, _, ?_, .inr ⟨?_, bm, gp, c, rfl, rfl, ⟨?_, by omega⟩, ⟨?_, by omega⟩, ⟨D, hD1.mono (by omega), hD2⟩, ?_⟩, hput, ?_, ?_, fun k h => h.1, fun k h => h.2⟩
        · rw [hgl]
          exact (hgs.block b (by omega) (by simpa using f1.symm)).trans hps.blk
        · intro e
          rw [e] at hgl
          have := hlt
          simp only [List.length_nil] at hgl
          omega
        · rcases hps.om with h | h
          · exact .inl h
          · exact .inr (by omega)
        · rcases hps.og with h | h
          · exact .inl h
          · exact .inr (by omega)
        · rw [hgl]
          rw [set_last _ _ _ (by omega) hvl] at hpl
          exact hpl
        · rw [hgl]
          omega
        · refine Kps.trans (Kps.trans (Kps.of_below _ hb0) hps.kp (fun _ _ e => e)) (Kps.grown (o := fun k => k = gp) hgs (fun k e _ => by cases e; rfl)) ?_
          rintro j hj rfl
          rcases hps.og with h | h
          · exact .inr h
          · omega
      clear hps hput hway hmp hpl hT ht hcan hb hb' hcl hk0 h64 hko hm hs hn0' hv0' ha hv e hge
      generalize (wk ns 0 0 ks).1 = a at *
      generalize (wk ns 0 0 ks).2 = q at *
      go_enter Tryz.func78, Tryz.ntmps78
      go_upto_region 1 with fail
      rw [← hw0]; clear hw0
      go_upto_region 7 with (first | (go_at_call 77; refine HW.out.mono ?_; rintro e y ⟨rfl, rfl⟩; (try dsimp only)) | (go_at_call 92; refine HH.out.mono ?_; rintro e y ⟨rfl, rfl⟩; (try dsimp only)))
      go_wp2
      generalize hdd : ks.length - q = dd
      have HDD := hidIt (show ks.length = q + dd by omega)
      have HDP := hidIt (show 0 < dd by omega)
      have HNS := hidIt hns
      have HNN := hidIt hn
      have HOL := hidIt hol
      clear hdd hns hn hol hob cm0 cm1 mq HW HH
      go_loopw [7, 44] (fun a' i wr => ∃ p qq gp c : Nat, p ≤ dd ∧ a' = .int .i64 (qq : Int) ∧ i = .int .i64 (p : Int) ∧ Hid (PSB w0 wr b o T cs own bm n ns vs ks q p gp c ∧ qq = if p = 0 then a else ns.length + p - 1)) (fun _ i _ => dd - (RowKit.intOf i).toNat)
      case atStart => exact ⟨0, a, _, _, Nat.zero_le _, rfl, rfl, HPS.out, rfl⟩
      case round =>
        obtain ⟨p, qq, gp, c, hp, rfl, rfl, HR⟩ := hrel
        obtain ⟨m0, m1, mf⟩ := HR.out.1.cells hos
        by_cases hlt2 : p < dd
        · have hi1 : (p : Int) < (dd : Int) := by omega
          have hqp : q + p < ks.length := by have := HDD.out; omega
          have c1 : wr.cell? ⟨bk, off + q + p, none⟩ = some (.int .i64 ks[q + p]) := by
            have := hks.out wr HR.out.1.kp (q + p) hqp
            rw [Nat.add_assoc, this]
            simp [hqp]
          have way := HWAY.out.gro p (by omega)
          rw [← HR.out.2] at way
          have hqb : qq ≤ 4611686018427387904 := by
            have h1 := (List.getElem?_eq_some_iff.1 way.at_).1
            rw [gro_len] at h1
            have := HNS.out
            have := HDD.out
            omega
          obtain ⟨w1, hrun, hb1, hpl1, hnext⟩ := HR.out.1.step hb0l HOB.out way hqp (H64.out _ (List.getElem_mem hqp)) hqb (by have := HNN.out; have := HDD.out; omega)
          have HPL1 : Hid (∀ ob, PlB (w1.alloc ob) (.slice (some ⟨gp, 0, none⟩) (ns.length + p) c) (vs ++ List.replicate p none)) := fun ob => hpl1.same ((MapKept.heap_alloc w1 ob).2 gp (by obtain ⟨_, cur, h2, _⟩ := hpl1.blk; exact (Array.getElem?_eq_some_iff.1 h2).1))
          have HNX := hidIt hnext
          have m1' : w1.cell? ⟨b, o + 1, none⟩ = some (.slice (some ⟨gp, 0, none⟩) (ns.length + p) c) := by
            rw [← m1]
            unfold World.cell?
            simp only [hb1]
          have HBY : Hid (((vs ++ List.replicate p (none : Option Bd)).length + 1) * 40 ≤ 140737488355328) := by
            have e1 := HVL.out
            have e2 := HNS.out
            have e3 := HDD.out
            unfold Hid
            rw [List.length_append, List.length_replicate, e1]
            omega
          have HPP := hidIt hlt2
          have hpb : p + 1 ≤ 9223372036854775807 := by have := HDD.out; omega
          have HM1 := hidIt m1
          have HB1 := hidIt hb1
          have HBK := hidIt HR.out.1.blk
          generalize ks[q + p] = x at *
          generalize hnp : ns.length + p = np at *
          have HNP := hidIt hnp
          clear hnp
          clear way hnext hpl1 hb1 hqp HR hp hqb mf
          go_wp2_with (at_builtin; refine wpl_plB rfl _ _ rfl gp np c (vs ++ List.replicate p none) rfl (HPL1.out _) w1.heap.size rfl (heap_alloc_new _ _) HBY.out ?_; intro g' c' w2 hp2 hg2 hn2; obtain ⟨hb2, hps2⟩ := HNX.out _ w2 g' c' hp2 hg2 hn2; have f2 : w2.frozen? ⟨b, o + 1, none⟩ = false := (by simp [World.frozen?, hb2, HBK.out]); have m2 : w2.cell? ⟨b, o + 1, none⟩ = some (.slice (some ⟨gp, 0, none⟩) np c) := (by rw [← HM1.out]; unfold World.cell?; simp only [hb2]); have HPS2 := hidIt hps2; clear hps2 hp2 hg2 hn2 hb2)
          go_roundw
          case rel => exact ⟨p + 1, np, g', c', by have := HPP.out; omega, by go_num, by go_num, HPS2.out, by rw [if_neg (by omega)]; have := HNP.out; omega⟩
          case measure => have := HPP.out; simp [RowKit.intOf]; omega
        · obtain rfl : p = dd := by omega
          have hqq := HR.out.2
          rw [if_neg (by have := HDP.out; omega)] at hqq
          have hpl := HR.out.1.pl
          have hxl : (vs ++ List.replicate p (none : Option Bd)).length = ns.length + p := by have := HVL.out; simp only [List.length_append, List.length_replicate, this]
          have hqx : qq < (vs ++ List.replicate p (none : Option Bd)).length := by rw [hxl, hqq]; have := HDP.out; omega
          have hnone : (vs ++ List.replicate p (none : Option Bd))[qq]?.getD none = none := by
            rw [List.getElem?_append_right (by have := HVL.out; have := HDP.out; omega), List.getElem?_replicate]
            split <;> rfl
          have HCZ : Hid (∀ r, r < 5 → wr.cell? ⟨gp, qq * 5 + r, none⟩ = (pcB none)[r]?) := fun r hr => by
            have := hpl.cell qq hqx r hr
            rw [hnone] at this
            exact this
          obtain ⟨_, x0, x1, x2, x3, _⟩ := cells4 (HBX.out wr HR.out.1.kp)
          have z0 := HCZ.out 0 (by omega)
          have z1 := HCZ.out 1 (by omega)
          have z2 := HCZ.out 2 (by omega)
          have z3 := HCZ.out 3 (by omega)
          have z4 := HCZ.out 4 (by omega)
          replace z0 : wr.cell? ⟨gp, qq * 5, none⟩ = some (.int .i64 0) := z0
          replace z1 : wr.cell? ⟨gp, qq * 5 + 1, none⟩ = some (.int .i64 0) := z1
          replace z2 : wr.cell? ⟨gp, qq * 5 + 2, none⟩ = some (.int .i64 0) := z2
          replace z3 : wr.cell? ⟨gp, qq * 5 + 3, none⟩ = some (.int .i64 0) := z3
          replace z4 : wr.cell? ⟨gp, qq * 5 + 4, none⟩ = some (.bool false) := z4
          have zf := fun j => hpl.frz j
          obtain ⟨hset, hgs⟩ := hpl.set qq hqx v
          have HSET := hidIt hset
          have HGS := hidIt hgs
          have hi1 : (qq : Int) < ((ns.length + p : Nat) : Int) := by rw [hxl] at hqx; omega
          have HR2 := hidIt HR.out.1
          have HQQ := hidIt hqq
          have HXL := hidIt hxl
          have HQX := hidIt hqx
          clear hset hgs hpl hqx hxl hnone HR hqq hp hlt2
          generalize hnp : ns.length + p = np at *
          have HNP := hidIt hnp
          clear hnp
          skip
          go_wp2
          go_region
          go_wp2
          go_ret
          refine ⟨rfl, FIN.out wr _ gp c p HDD.out HR2.out (by rw [HNP.out, ← HQQ.out]; exact HSET.out.same rfl) (grown_drew HGS.out)⟩
end Go.Proofs.YtfdceljdhgbkcaaGreatDoor
