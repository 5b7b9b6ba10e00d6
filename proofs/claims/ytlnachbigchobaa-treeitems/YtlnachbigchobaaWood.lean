/- The wood of a script: trees, and the lists that they are; what stays as it was, by the blocks' types. -/
import Derived.Test.YtlnachbigchobaaWalkFinds
import Derived.Test.YtlnachbigchobaaWalkGrows
import Derived.Test.YtlnachbigchobaaRef5
import Derived.Test.YtlnachbigchobaaNestT
import Derived.Deep.LoopGhost
namespace Go.Proofs.Ytlnachbigchobaa
open Go.RowKit

/-- Blocks whose type is none of S are as they were. -/
structure Fr (S : List TypeId) (w w' : World) : Prop where
  size : w.heap.size ≤ w'.heap.size
  blk : ∀ (k : Nat) (cs : Array Value) (T : TypeId), w.heap[k]? = some (.cells cs T (0, 0)) → T ∉ S → w'.heap[k]? = some (.cells cs T (0, 0))
theorem Fr.refl (S : List TypeId) (w : World) : Fr S w w := ⟨Nat.le_refl _, fun _ _ _ h _ => h⟩
theorem Fr.trans {S : List TypeId} {a b c : World} (h : Fr S a b) (k : Fr S b c) : Fr S a c := ⟨Nat.le_trans h.size k.size, fun i cs T h1 h2 => k.blk i cs T (h.blk i cs T h1 h2) h2⟩
theorem Fr.of_below {S : List TypeId} {w w' : World} (hb : Below w.heap.size w w') : Fr S w w' := ⟨hb.size, fun k cs T h _ => by rw [hb.block k (Array.getElem?_eq_some_iff.1 h).1]; exact h⟩
theorem Fr.of_grown {S : List TypeId} {w w' : World} {g : Nat} {cs : Array Value} {T : TypeId} (hA : w.heap[g]? = some (.cells cs T (0, 0))) (hT : T ∈ S) (hg : w.grownBy w' (some g)) : Fr S w w' :=
  ⟨hg.size, fun k cs' T' h hn => by
    have hne : some k ≠ some g := by
      intro e
      obtain rfl : k = g := by simpa using e
      rw [hA] at h
      cases h
      exact hn hT
    rw [hg.block k (Array.getElem?_eq_some_iff.1 h).1 hne]; exact h⟩
theorem Fr.of_own {S : List TypeId} {w w' : World} {base : Nat} {e : TypeId} {size : Nat} {v : Value} {n : Nat} {xs : List Value} (h : w.ownsRow base e size v n xs) (he : e ∈ S) (hg : w.grownBy w' v.ownBlock) : Fr S w w' := by
  rcases h.2 with ⟨rfl, _⟩ | ⟨g, cap, cur, rfl, _, hA, _⟩
  · exact ⟨hg.size, fun k cs T h _ => by rw [hg.block k (Array.getElem?_eq_some_iff.1 h).1 (by simp [Value.ownBlock])]; exact h⟩
  · exact Fr.of_grown hA he hg
theorem Tin.fr {S : List TypeId} {w w' : World} (hf : Fr S w w') (hn : 81 ∉ S) : ∀ {t : Tr It} {u : Option Addr}, Tin w t u → Tin w' t u
  | ⟨none⟩, _, h => h
  | ⟨some (_, _, _)⟩, _, ⟨g, lv, rv, hu, hg, hl, hr⟩ => ⟨g, lv, rv, hu, hf.blk g _ _ hg hn, Tin.fr hf hn hl, Tin.fr hf hn hr⟩
theorem TT.fr {S : List TypeId} {w w' : World} {v : Value} {xs : List It} (h : TT w v xs) (hf : Fr S w w') (hn : 81 ∉ S) : TT w' v xs := by
  obtain ⟨u, t, h1, h2, h3⟩ := h
  exact ⟨u, t, h1, h2.fr hf hn, h3⟩
theorem own_fr {S : List TypeId} {w w' : World} {base : Nat} {e : TypeId} {size : Nat} {v : Value} {n : Nat} {xs : List Value} (h : w.ownsRow base e size v n xs) (hf : Fr S w w') (hn : e ∉ S) : w'.ownsRow base e size v n xs := by
  refine ⟨h.1, ?_⟩
  rcases h.2 with h2 | ⟨g, cap, cur, hv, hb, hg, r⟩
  · exact .inl h2
  · exact .inr ⟨g, cap, cur, hv, hb, hf.blk g _ _ hg hn, r⟩

/-- A step as a value. -/
def opv (o : Sp) : Value := .agg #[.int .i64 o.kind, .int .i64 o.who, .int .i64 o.fr, .int .i64 o.to, .int .i64 o.k, .int .i64 o.n, .slice o.ai o.zs.length o.ci]

/-- At block gw lies the wood. -/
structure Wd (w : World) (base gw gt ct gl cl : Nat) (us : List (Option Addr)) (ls : List Value) (tss lss : List (List It)) : Prop where
  hb : base ≤ gw
  blk : w.heap[gw]? = some (.cells #[.slice (some ⟨gt, 0, none⟩) us.length ct, .slice (some ⟨gl, 0, none⟩) ls.length cl] 116 (0, 0))
  tr : w.ownsRow base 39 1 (.slice (some ⟨gt, 0, none⟩) us.length ct) us.length (us.map Value.pointer)
  lr : w.ownsRow base 31 1 (.slice (some ⟨gl, 0, none⟩) ls.length cl) ls.length ls
  ul : us.length = tss.length
  ll : ls.length = lss.length
  tt : ∀ (i : Nat) (u : Option Addr) (xs : List It), us[i]? = some u → tss[i]? = some xs → TT w (.agg #[.pointer u]) xs
  lo : ∀ (i : Nat) (v : Value) (xs : List It), ls[i]? = some v → lss[i]? = some xs → OwnR w base 76 v xs

section
variable {w w' : World} {base gw gt ct gl cl : Nat} {us : List (Option Addr)} {ls : List Value} {tss lss : List (List It)}
theorem Wd.fr {S : List TypeId} (h : Wd w base gw gt ct gl cl us ls tss lss) (hf : Fr S w w') (hS : ∀ T ∈ [116, 39, 31, 76, 81], T ∉ S) : Wd w' base gw gt ct gl cl us ls tss lss :=
  ⟨h.hb, hf.blk _ _ _ h.blk (hS _ (by simp)), own_fr h.tr hf (hS _ (by simp)), own_fr h.lr hf (hS _ (by simp)), h.ul, h.ll, fun i u xs h1 h2 => (h.tt i u xs h1 h2).fr hf (hS _ (by simp)), fun i v xs h1 h2 => own_fr (h.lo i v xs h1 h2) hf (hS _ (by simp))⟩
theorem Wd.ext (h : Wd w base gw gt ct gl cl us ls tss lss) (hb : Below w.heap.size w w') : Wd w' base gw gt ct gl cl us ls tss lss := h.fr (S := []) (Fr.of_below hb) (by simp)
theorem Wd.lt (h : Wd w base gw gt ct gl cl us ls tss lss) : gw < w.heap.size := (Array.getElem?_eq_some_iff.1 h.blk).1
theorem Wd.cells (h : Wd w base gw gt ct gl cl us ls tss lss) : w.cell? ⟨gw, 0, none⟩ = some (.slice (some ⟨gt, 0, none⟩) us.length ct) ∧ w.cell? ⟨gw, 1, none⟩ = some (.slice (some ⟨gl, 0, none⟩) ls.length cl) ∧ (∀ i, w.frozen? ⟨gw, i, none⟩ = false) := by
  refine ⟨?_, ?_, ?_⟩
  · rw [cell_of_row w gw 0 _ _ _ h.blk]; rfl
  · rw [cell_of_row w gw 1 _ _ _ h.blk]; rfl
  · intro i; simp [World.frozen?, h.blk]
theorem Wd.tcell (h : Wd w base gw gt ct gl cl us ls tss lss) (i : Nat) (u : Option Addr) (hi : us[i]? = some u) : w.cell? ⟨gt, i, none⟩ = some (.pointer u) := by
  have hl := (List.getElem?_eq_some_iff.1 hi).1
  rw [h.tr.cellAt i (by omega), List.getElem?_map, hi]; rfl
theorem Wd.lcell (h : Wd w base gw gt ct gl cl us ls tss lss) (i : Nat) (v : Value) (hi : ls[i]? = some v) : w.cell? ⟨gl, i, none⟩ = some v := by
  have hl := (List.getElem?_eq_some_iff.1 hi).1
  rw [h.lr.cellAt i (by omega), hi]
theorem Wd.caps (h : Wd w base gw gt ct gl cl us ls tss lss) : us.length ≤ ct ∧ ct ≤ 9223372036854775807 ∧ ls.length ≤ cl ∧ cl ≤ 9223372036854775807 ∧ base ≤ gt ∧ base ≤ gl ∧ gt < w.heap.size ∧ gl < w.heap.size := by
  rcases h.tr.2 with ⟨h1, _⟩ | ⟨g, cap, cur, hv, hb, hg, h1, h2, _⟩
  · cases h1
  rcases h.lr.2 with ⟨h3, _⟩ | ⟨g', cap', cur', hv', hb', hg', h3, h4, _⟩
  · cases h3
  simp only [Value.slice.injEq, Option.some.injEq, Addr.mk.injEq, and_true, true_and] at hv hv'
  obtain ⟨rfl, rfl⟩ := hv
  obtain ⟨rfl, rfl⟩ := hv'
  unfold maxLen at h2 h4
  exact ⟨h1, h2, h3, h4, hb, hb', (Array.getElem?_eq_some_iff.1 hg).1, (Array.getElem?_eq_some_iff.1 hg').1⟩

theorem form_pos {e : TypeId} {v : Value} {n : Nat} {xs : List Value} (h : w.ownsRow base e 1 v (n + 1) xs) : ∃ g cap, v = .slice (some ⟨g, 0, none⟩) (n + 1) cap ∧ base ≤ g ∧ g < w.heap.size := by
  rcases h.2 with ⟨_, h2⟩ | ⟨g, cap, cur, hv, hb, hg, _⟩
  · omega
  · exact ⟨g, cap, hv, hb, (Array.getElem?_eq_some_iff.1 hg).1⟩
theorem Wd.ne_tl (h : Wd w base gw gt ct gl cl us ls tss lss) : gw ≠ gt ∧ gw ≠ gl ∧ gt ≠ gl := by
  rcases h.tr.2 with ⟨h1, _⟩ | ⟨g, cap, cur, hv, hb, hg, _⟩
  · cases h1
  rcases h.lr.2 with ⟨h3, _⟩ | ⟨g', cap', cur', hv', hb', hg', _⟩
  · cases h3
  simp only [Value.slice.injEq, Option.some.injEq, Addr.mk.injEq, and_true, true_and] at hv hv'
  obtain ⟨rfl, rfl⟩ := hv
  obtain ⟨rfl, rfl⟩ := hv'
  have hA := h.blk
  refine ⟨?_, ?_, ?_⟩
  · rintro rfl; rw [hg] at hA; simp at hA
  · rintro rfl; rw [hg'] at hA; simp at hA
  · rintro rfl; rw [hg] at hg'; simp at hg'

/-- A tree more. -/
theorem Wd.pushT (h : Wd w base gw gt ct gl cl us ls tss lss) {v' : Value} {w1 : World} {u : Option Addr} {xs : List It} (hown : w1.ownsRow base 39 1 v' (us.length + 1) (us.map Value.pointer ++ [.pointer u])) (hg : w.grownBy w1 (some gt)) (ht : TT w (.agg #[.pointer u]) xs) :
    ∃ gt' ct', v' = .slice (some ⟨gt', 0, none⟩) (us.length + 1) ct' ∧ Wd (w1.setCell ⟨gw, 0, none⟩ v') base gw gt' ct' gl cl (us ++ [u]) ls (tss ++ [xs]) lss ∧ Fr [116, 39] w (w1.setCell ⟨gw, 0, none⟩ v') ∧ Below base w (w1.setCell ⟨gw, 0, none⟩ v') ∧ (w1.cell? ⟨gw, 0, none⟩ = some (.slice (some ⟨gt, 0, none⟩) us.length ct) ∧ ∀ i, w1.frozen? ⟨gw, i, none⟩ = false) := by
  obtain ⟨n1, n2, n3⟩ := h.ne_tl
  have hF : Fr [116, 39] w w1 := Fr.of_own h.tr (by simp) hg
  have hb1 : w1.heap[gw]? = some (.cells #[.slice (some ⟨gt, 0, none⟩) us.length ct, .slice (some ⟨gl, 0, none⟩) ls.length cl] 116 (0, 0)) := by
    rw [hg.block gw h.lt (by simpa using n1)]; exact h.blk
  obtain ⟨p1, p2⟩ := set1 hb1 0 v'
  have hF2 : Fr [116] w1 (w1.setCell ⟨gw, 0, none⟩ v') := Fr.of_grown hb1 (by simp) p2
  have hF3 : Fr [116, 39] w1 (w1.setCell ⟨gw, 0, none⟩ v') := Fr.of_grown hb1 (by simp) p2
  have hFF := hF.trans hF3
  have hbs : base ≤ w.heap.size := by have h3 := h.hb; have h4 := h.lt; omega
  have hBB : Below base w (w1.setCell ⟨gw, 0, none⟩ v') := below_put ((Below.refl base w).grown hg hbs (fun k hk => by cases hk; exact (h.caps).2.2.2.2.1)) (Nat.le_trans hbs hg.size) p2 h.hb
  obtain ⟨gt', ct', rfl, hbg, hlt⟩ := form_pos hown
  refine ⟨gt', ct', rfl, ⟨h.hb, ?_, ?_, own_fr h.lr hFF (by decide), by simp [h.ul], h.ll, ?_, fun i v xs h1 h2 => own_fr (h.lo i v xs h1 h2) hFF (by decide)⟩, hFF, hBB, ?_, ?_⟩
  · rw [p1]; simp
  · rw [List.length_append, List.map_append]
    exact own_fr hown hF2 (by decide)
  · intro i u' xs' h1 h2
    by_cases hi : i < us.length
    · rw [List.getElem?_append_left hi] at h1
      rw [List.getElem?_append_left (by rw [← h.ul]; exact hi)] at h2
      exact (h.tt i u' xs' h1 h2).fr hFF (by decide)
    · rw [List.getElem?_append_right (by omega)] at h1
      rw [List.getElem?_append_right (by rw [← h.ul]; omega)] at h2
      have e : i - us.length = 0 := by
        have := (List.getElem?_eq_some_iff.1 h1).1
        simp at this
        omega
      rw [e] at h1
      rw [← h.ul, e] at h2
      simp at h1 h2
      subst h1; subst h2
      exact ht.fr hFF (by decide)
  · rw [cell_of_row w1 gw 0 _ _ _ hb1]; rfl
  · intro i; simp [World.frozen?, hb1]
/-- A list more. -/
theorem Wd.pushL (h : Wd w base gw gt ct gl cl us ls tss lss) {v' : Value} {w1 : World} {l : Value} {xs : List It} (hown : w1.ownsRow base 31 1 v' (ls.length + 1) (ls ++ [l])) (hg : w.grownBy w1 (some gl)) (ht : OwnR w base 76 l xs) :
    ∃ gl' cl', v' = .slice (some ⟨gl', 0, none⟩) (ls.length + 1) cl' ∧ Wd (w1.setCell ⟨gw, 1, none⟩ v') base gw gt ct gl' cl' us (ls ++ [l]) tss (lss ++ [xs]) ∧ Fr [116, 31] w (w1.setCell ⟨gw, 1, none⟩ v') ∧ Below base w (w1.setCell ⟨gw, 1, none⟩ v') ∧ (w1.cell? ⟨gw, 1, none⟩ = some (.slice (some ⟨gl, 0, none⟩) ls.length cl) ∧ ∀ i, w1.frozen? ⟨gw, i, none⟩ = false) := by
  obtain ⟨n1, n2, n3⟩ := h.ne_tl
  have hF : Fr [116, 31] w w1 := Fr.of_own h.lr (by simp) hg
  have hb1 : w1.heap[gw]? = some (.cells #[.slice (some ⟨gt, 0, none⟩) us.length ct, .slice (some ⟨gl, 0, none⟩) ls.length cl] 116 (0, 0)) := by
    rw [hg.block gw h.lt (by simpa using n2)]; exact h.blk
  obtain ⟨p1, p2⟩ := set1 hb1 1 v'
  have hF2 : Fr [116] w1 (w1.setCell ⟨gw, 1, none⟩ v') := Fr.of_grown hb1 (by simp) p2
  have hF3 : Fr [116, 31] w1 (w1.setCell ⟨gw, 1, none⟩ v') := Fr.of_grown hb1 (by simp) p2
  have hFF := hF.trans hF3
  have hbs : base ≤ w.heap.size := by have h3 := h.hb; have h4 := h.lt; omega
  have hBB : Below base w (w1.setCell ⟨gw, 1, none⟩ v') := below_put ((Below.refl base w).grown hg hbs (fun k hk => by cases hk; exact (h.caps).2.2.2.2.2.1)) (Nat.le_trans hbs hg.size) p2 h.hb
  obtain ⟨gl', cl', rfl, hbg, hlt⟩ := form_pos hown
  refine ⟨gl', cl', rfl, ⟨h.hb, ?_, own_fr h.tr hFF (by decide), ?_, h.ul, by simp [h.ll], fun i u xs h1 h2 => (h.tt i u xs h1 h2).fr hFF (by decide), ?_⟩, hFF, hBB, ?_, ?_⟩
  · rw [p1]; simp
  · rw [List.length_append]
    exact own_fr hown hF2 (by decide)
  · intro i u' xs' h1 h2
    by_cases hi : i < ls.length
    · rw [List.getElem?_append_left hi] at h1
      rw [List.getElem?_append_left (by rw [← h.ll]; exact hi)] at h2
      exact own_fr (h.lo i u' xs' h1 h2) hFF (by decide)
    · rw [List.getElem?_append_right (by omega)] at h1
      rw [List.getElem?_append_right (by rw [← h.ll]; omega)] at h2
      have e : i - ls.length = 0 := by
        have := (List.getElem?_eq_some_iff.1 h1).1
        simp at this
        omega
      rw [e] at h1
      rw [← h.ll, e] at h2
      simp at h1 h2
      subst h1; subst h2
      exact own_fr ht hFF (by decide)
  · rw [cell_of_row w1 gw 1 _ _ _ hb1]; rfl
  · intro i; simp [World.frozen?, hb1]
end

theorem RdR.old {w w' : World} {ai : Option Addr} {n ci base : Nat} {zs : List It} (h : RdR w (.slice ai n ci) zs) (hold : ∀ b off, zs ≠ [] → ai = some ⟨b, off, none⟩ → b < base) (hb : Below base w w') : RdR w' (.slice ai n ci) zs := by
  obtain ⟨ao, cap, hv, h1, h2, h0, h3⟩ := h
  refine ⟨ao, cap, hv, h1, h2, h0, fun hn => ?_⟩
  obtain ⟨b, off, ha, hlt, hc⟩ := h3 hn
  have hlb : b < base := hold b off hn (by simp only [Value.slice.injEq] at hv; rw [hv.1]; exact ha)
  exact ⟨b, off, ha, Nat.lt_of_lt_of_le hlt hb.size, fun i hi => ⟨(hb.cell (p := ⟨b, off + i * 2, none⟩) hlb).trans (hc i hi).1, (hb.cell (p := ⟨b, off + i * 2 + 1, none⟩) hlb).trans (hc i hi).2⟩⟩

set_option maxRecDepth 100000 in
set_option maxHeartbeats 1000000 in
theorem who_any {base gw gt ct gl cl : Nat} {us : List (Option Addr)} {ls : List Value} {tss lss : List (List It)} (o : Sp) (w : World) (h : Wd w base gw gt ct gl cl us ls tss lss) (h1 : 1 ≤ us.length) (h2 : us.length ≤ 4611686018427387904) :
    Calls Try.prog 76 #[.pointer (some ⟨gw, 0, none⟩), opv o] w fun e w' => ∃ k : Nat, e = .returned (.int .i64 k) ∧ k < us.length ∧ Below w.heap.size w w' := by
  obtain ⟨c0, c1, _⟩ := h.cells
  have hlt := h.lt
  obtain ⟨kind, who, fr, tt, kk, nn, ai, ci, zs⟩ := o
  unfold opv
  generalize us.length = n at *
  clear h
  have hn1 : (n : Int) ≤ 4611686018427387904 := by omega
  have hn2 : ¬ (n : Int) = 0 := by omega
  have q1 : Int.tmod who (n : Int) < (n : Int) := Int.tmod_lt_of_pos who (by omega)
  have q2 : -(n : Int) < Int.tmod who (n : Int) := by
    have := Int.tmod_lt_of_pos (-who) (b := (n : Int)) (by omega)
    rw [Int.neg_tmod] at this
    omega
  generalize hq : Int.tmod who (n : Int) = q at *
  by_cases hs : q < 0
  · go_enter Try.func76, Try.ntmps76
    go_wp2_with fail
    go_quiet (fail)
    go_wp2_with fail
    go_ret
    exact ⟨(q + n).toNat, by rw [Int.toNat_of_nonneg (by omega)]; rfl, by omega, by repeat (first | exact Below.refl _ _ | apply below_drewN | refine ext_alloc ?_ _)⟩
  · go_enter Try.func76, Try.ntmps76
    go_wp2_with fail
    go_quiet (fail)
    go_wp2_with fail
    go_ret
    exact ⟨q.toNat, by rw [Int.toNat_of_nonneg (by omega)]; rfl, by omega, by repeat (first | exact Below.refl _ _ | apply below_drewN | refine ext_alloc ?_ _)⟩
end Go.Proofs.Ytlnachbigchobaa
