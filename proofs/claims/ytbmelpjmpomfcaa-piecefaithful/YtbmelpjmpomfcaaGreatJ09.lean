import Derived.Test.YtbmelpjmpomfcaaGreatJ08
import Derived.RangeFuncCalls
import Derived.RangeFuncLeaves
import Derived.Shelf.Abstract
import Derived.WalkKit
import Derived.OwnWalkIn
import Derived.TacticsInMore
import Derived.LoopNIn
import Derived.LoopIn
import Derived.OrdersHeld
import Derived.ControlIn
import Derived.Deep.CutRange
import Derived.Deep.LoopGhost
namespace Go.Proofs.YtbmelpjmpomfcaaGreat.P
open Go.RowKit

theorem sh_succ {enc : Int} {ps : List PG} {k : Nat} {x : It} {g : List Int} (h : ps[k]? = some (x, g)) : sh enc (ps.take (k + 1)) = sh enc (ps.take k) ++ ctn enc x.pl g := by
  rw [List.take_add_one, h, Option.toList_some, sh_app, sh_one]
theorem sh_part (enc : Int) (ps : List PG) (k : Nat) : sh enc (ps.take k) <+: sh enc ps := by
  conv => rhs; rw [← List.take_append_drop k ps, sh_app]
  exact List.prefix_append _ _
def btw (enc : Int) (ps : List PG) (f t : Nat) : List (Int × Int) := ((sh enc ps).drop f).take (t - f)
theorem btw_len {enc : Int} {ps : List PG} {f t : Nat} (h : t ≤ (sh enc ps).length) : (btw enc ps f t).length = t - f := by
  unfold btw; rw [List.length_take, List.length_drop]; omega
def told (enc : Int) (ps : List PG) (f k m : Nat) : List (Int × Int) := ((sh enc ps).take ((sh enc (ps.take k)).length + m)).drop f
theorem told_len {enc : Int} {ps : List PG} {f k m : Nat} (h : (sh enc (ps.take k)).length + m ≤ (sh enc ps).length) : (told enc ps f k m).length = (sh enc (ps.take k)).length + m - f := by
  unfold told; rw [List.length_drop, List.length_take]; omega
theorem told_pre {enc : Int} {ps : List PG} {f t k m : Nat} (h : (sh enc (ps.take k)).length + m ≤ t) : told enc ps f k m <+: btw enc ps f t := by
  unfold told btw
  rw [List.drop_take]
  exact List.take_prefix_take_left (by omega)
theorem told_all {enc : Int} {ps : List PG} {f t k m : Nat} (h : (sh enc (ps.take k)).length + m = t) : told enc ps f k m = btw enc ps f t := by
  unfold told btw
  rw [List.drop_take, h]
theorem told_next {enc : Int} {ps : List PG} {f k : Nat} {x : It} {g : List Int} (h : ps[k]? = some (x, g)) : told enc ps f k g.length = told enc ps f (k + 1) 0 := by
  unfold told
  rw [sh_succ h, List.length_append, ctn_len, Nat.add_zero]
theorem sh_get {enc : Int} {ps : List PG} {k m : Nat} {x : It} {g : List Int} (h : ps[k]? = some (x, g)) (hm : m < g.length) : (sh enc ps)[(sh enc (ps.take k)).length + m]? = (ctn enc x.pl g)[m]? := by
  obtain ⟨z, hz⟩ := sh_part enc ps (k + 1)
  rw [← hz, sh_succ h, List.getElem?_append_left (by rw [List.length_append, ctn_len]; omega), List.getElem?_append_right (by omega)]
  congr 1; omega
theorem ctn_get {enc : Int} {g : List Int} {pl : Int} (h : -1 ≤ pl) {m : Nat} {a : Int} (ha : g[m]? = some a) : (ctn enc pl g)[m]? = some (a, tg pl (ln enc (g.take m) : Nat)) := by
  have e := (ctn_take enc g pl h m).2
  have k : (ctn enc pl g)[m]? = ((ctn enc pl g).drop m)[0]? := by rw [List.getElem?_drop, Nat.add_zero]
  rw [k, e, drop_of ha]
  rfl
theorem told_snoc {enc : Int} {ps : List PG} {f k m : Nat} {x : It} {g : List Int} {a : Int} (h : ps[k]? = some (x, g)) (hl : -1 ≤ x.pl) (ha : g[m]? = some a) (hf : f ≤ (sh enc (ps.take k)).length + m) : told enc ps f k (m + 1) = told enc ps f k m ++ [(a, tg x.pl (ln enc (g.take m) : Nat))] := by
  have hm : m < g.length := (List.getElem?_eq_some_iff.1 ha).1
  have e := sh_get (enc := enc) h hm
  rw [ctn_get hl ha] at e
  unfold told
  have hlt := (List.getElem?_eq_some_iff.1 e).1
  rw [← Nat.add_assoc, List.take_add_one, e, Option.toList_some, List.drop_append_of_le_length (by rw [List.length_take]; omega)]
theorem find_from {enc : Int} {L : List Int} {w : World} {ps : List PG} (h : Pcs enc L w ps) (f : Nat) :
    ∃ i, rA.fnd 0 ((f : Int) + 1) Rs.zero (xsOf ps) = i + 1 ∧ i ≤ ps.length ∧ (sh enc (ps.take i)).length ≤ f ∧ ∀ x g, ps[i]? = some (x, g) → f - (sh enc (ps.take i)).length < g.length := by
  have l2 := rA.fnd_le 0 ((f : Int) + 1) (xsOf ps) Rs.zero
  rw [xsOf_len] at l2
  have h0 : rA.fnd 0 ((f : Int) + 1) Rs.zero (xsOf ps) ≠ 0 := by
    intro e
    have := rA.fnd_hit 0 ((f : Int) + 1) (xsOf ps) Rs.zero Rs.ok_zero (by rw [e]; exact Nat.zero_le _)
    rw [e, key_len h] at this
    simp [sh] at this
    omega
  obtain ⟨i, hi⟩ : ∃ i, rA.fnd 0 ((f : Int) + 1) Rs.zero (xsOf ps) = i + 1 := ⟨_, (Nat.succ_pred_eq_of_ne_zero h0).symm⟩
  have hle : (sh enc (ps.take i)).length ≤ f := by
    have := rA.fnd_less 0 ((f : Int) + 1) (xsOf ps) Rs.zero i Rs.ok_zero (by omega)
    rw [key_len h] at this
    omega
  refine ⟨i, hi, by omega, hle, ?_⟩
  · intro x g hg
    have hlt := (List.getElem?_eq_some_iff.1 hg).1
    have := rA.fnd_hit 0 ((f : Int) + 1) (xsOf ps) Rs.zero Rs.ok_zero (by rw [hi, xsOf_len]; omega)
    rw [hi, key_len h, sh_succ hg, List.length_append, ctn_len] at this
    omega
end Go.Proofs.YtbmelpjmpomfcaaGreat.P

namespace Go.Proofs.YtbmelpjmpomfcaaGreat.P
open Go.RowKit Go.Shelf

attribute [local go_sem] Oper.semAt_some

theorem hdd (k : Nat) : Fence.wide.depth.isSome = true → 1 ≤ k := fun h => by cases h
theorem round_any {m m' : Nat} {P : Program} {l : Nat} {f : FuncId} {tmps : Array Value} {assign body : Code} {w : World} {R : Ending → World → Prop} (h : RoundIn Fence.wide m P l f tmps assign body w R) : RoundIn Fence.wide m' P l f tmps assign body w R := ⟨h.1, fun c cs _ => h.2 c cs (fun d h => by cases h)⟩
theorem yield_any {m : Nat} (m' : Nat) {P : Program} {l : Nat} {args : Array Value} {W : World} {R : Ending → World → Prop} (h : YieldAt Fence.wide m P l args W R) : YieldAt Fence.wide m' P l args W R := by
  obtain ⟨fn, tmps, assign, body, hy, hR⟩ := h
  exact ⟨fn, tmps, assign, body, hy, round_any hR⟩

def OnX {σ : Type} (G : Guest σ It) (s : σ) (pre xs : List It) (W : World) (e : Ending) (W' : World) : Prop :=
  (e = .returned (.bool true) ∧ ∃ s', G.J s' (pre ++ xs) W' ∧ Kps (G.own s) W W' ∧ Newer G.own s s' W) ∨ (e = .returned (.bool false) ∧ ∃ s' q, q <+: xs ∧ G.Jx s' (pre ++ q) W' ∧ Kps (G.own s) W W' ∧ Newer G.own s s' W)

theorem Newer.trans {σ : Type} {own : σ → Nat → Prop} {s s' s'' : σ} {W W' : World} (h : Newer own s s' W) (h' : Newer own s' s'' W') (hz : W.heap.size ≤ W'.heap.size) : Newer own s s'' W := fun k hk => by
  rcases h' k hk with h1 | h1
  · exact h k h1
  · exact .inr (by omega)
theorem Kps.next {σ : Type} {own : σ → Nat → Prop} {s s' : σ} {A B C : World} (h : Kps (own s) A B) (hn : Newer own s s' A) (k : Kps (own s') B C) : Kps (own s) A C :=
  h.trans k (fun i hi hp => by rcases hn i hp with h1 | h1; exact h1; omega)
theorem OnX.next {σ : Type} {G : Guest σ It} {s s' : σ} {pre xs ys : List It} {W W' W'' : World} {e : Ending} (k : Kps (G.own s) W W') (hn : Newer G.own s s' W) (h : OnX G s' (pre ++ xs) ys W' e W'') : OnX G s pre (xs ++ ys) W e W'' := by
  rcases h with ⟨rfl, t, h1, h2, h3⟩ | ⟨rfl, t, q, h0, h1, h2, h3⟩
  · exact .inl ⟨rfl, t, by rw [← List.append_assoc]; exact h1, k.next hn h2, hn.trans h3 k.size⟩
  · refine .inr ⟨rfl, t, xs ++ q, ?_, by rw [← List.append_assoc]; exact h1, k.next hn h2, hn.trans h3 k.size⟩
    obtain ⟨z, hz⟩ := h0
    exact ⟨z, by rw [List.append_assoc, hz]⟩

def RdX {σ α : Type} (G : Guest σ α) (s : σ) (pre : List α) (x : α) (W : World) (e : Ending) (W' : World) : Prop :=
  (e = .returned (.bool true) ∧ ∃ s', G.J s' (pre ++ [x]) W' ∧ Kps (G.own s) W W' ∧ Newer G.own s s' W) ∨ (e = .returned (.bool false) ∧ ∃ s', G.Jx s' (pre ++ [x]) W' ∧ Kps (G.own s) W W' ∧ Newer G.own s s' W)
theorem own_on {σ α : Type} {G : Guest σ α} {s s' : σ} {w0 W W' : World} (hB : Below w0.heap.size w0 W) (ho : ∀ k, G.own s k → w0.heap.size ≤ k) (k : Kps (G.own s) W W') (hn : Newer G.own s s' W) : Below w0.heap.size w0 W' ∧ ∀ k, G.own s' k → w0.heap.size ≤ k := by
  have h1 := hB.size
  refine ⟨hB.trans (k.below h1 ho), fun i hi => ?_⟩
  rcases hn i hi with h | h
  · exact ho i h
  · omega

set_option maxRecDepth 100000 in
set_option maxHeartbeats 4000000 in
theorem walk_in {σ : Type} (G : Guest σ It) (l : Nat) (full : List It) (w0 : World)
    (hY : ∀ m s pre x W1, G.J s pre W1 → pre ++ [x] <+: full → YieldAt Fence.wide m Tryz.prog l #[.agg #[.slice x.p x.n x.c, .int .i64 x.pl, .int .i64 x.sp.a, .int .i64 x.sp.s, .int .i64 x.sp.b, .bool x.sp.lf, .bool x.sp.cr]] W1 (RdX G s pre x W1)) (t : Tr It) :
    ∀ (n : Nat) (u : Option Addr) (fr : Nat) (s : σ) (pre : List It) (W : World), Tin w0 t u → Below w0.heap.size w0 W → (∀ k, G.own s k → w0.heap.size ≤ k) → t.list.length ≤ 4611686018427387904 → fr ≤ 9223372036854775807 → G.J s pre W → pre ++ t.list.drop fr <+: full →
      CallsIn Fence.wide n Tryz.prog 98 #[.pointer u, .int .i64 fr, .func (.yield l) #[] #[]] W (OnX G s pre (t.list.drop fr) W) := by
  induction t using Tr.ind with
  | nil =>
    intro n u fr s pre W hT hB ho hl hf hJ hN
    have CN : CallsIn Fence.wide (n - 1) Tryz.prog 102 #[.pointer u] W fun e w' => e = .returned (.int .i64 0) ∧ w' = W := callsIn_wide.2 (count_any .nil u W (hT.ext hB))
    have HE : Hid (OnX G s pre ((Tr.nil : Tr It).list.drop fr) W (.returned (.bool true)) W) := .inl ⟨rfl, s, by simpa [Tr.list] using hJ, Kps.refl _ _, fun k h => .inl h⟩
    have h00 : (0 : Int) ≤ (fr : Int) := by omega
    clear hT hY
    refine callsIn_of_wp Tryz.func98 rfl trivial ?_ rfl
    simp only [Tryz.ntmps98, List.size_toArray, List.length_cons, List.length_nil, Nat.reduceAdd, Nat.reduceSub, Array.replicate_succ, Array.replicate_zero, List.push_toArray, List.append_toArray, List.nil_append, List.cons_append]
    gi_wp2_with (refine ⟨trivial, hdd _, ?_⟩; gi_at_call 102; refine CN.mono ?_; clear CN; rintro e W1 ⟨rfl, hw1⟩; obtain rfl : W = W1 := hw1.symm)
    go_ret
    exact HE.out
  | node tl x tr ihl ihr =>
    intro n u fr s pre W hT hB ho hl hf hJ hN
    have CN := hidIt (callsIn_wide (n := n - 1) |>.2 (count_any (.node tl x tr) u W (hT.ext hB)))
    have HLEN : Hid ((Tr.node tl x tr).list.length = tl.list.length + 1 + tr.list.length) := by unfold Hid; simp only [Tr.list, List.length_append, List.length_cons]; omega
    by_cases hge : (Tr.node tl x tr).list.length ≤ fr
    · have HE : Hid (OnX G s pre ((Tr.node tl x tr).list.drop fr) W (.returned (.bool true)) W) := .inl ⟨rfl, s, by rw [List.drop_of_length_le hge, List.append_nil]; exact hJ, Kps.refl _ _, fun k h => .inl h⟩
      generalize (Tr.node tl x tr).list.length = nn at *
      have hge' : (nn : Int) ≤ (fr : Int) := by omega
      clear hT hY ihl ihr
      refine callsIn_of_wp Tryz.func98 rfl trivial ?_ rfl
      simp only [Tryz.ntmps98, List.size_toArray, List.length_cons, List.length_nil, Nat.reduceAdd, Nat.reduceSub, Array.replicate_succ, Array.replicate_zero, List.push_toArray, List.append_toArray, List.nil_append, List.cons_append]
      gi_wp2_with (refine ⟨trivial, hdd _, ?_⟩; gi_at_call 102; refine CN.out.mono ?_; clear CN; rintro e W1 ⟨rfl, hw1⟩; obtain rfl : W = W1 := hw1.symm)
      go_ret
      exact HE.out
    · obtain ⟨g, lv, rv, rfl, hb, hlt, hrt⟩ := hT
      have hgw : g < w0.heap.size := (Array.getElem?_eq_some_iff.1 hb).1
      have HN : Hid (∀ W', Below w0.heap.size w0 W' → (W'.cell? ⟨g, 0, none⟩ = some (.slice x.p x.n x.c) ∧ W'.cell? ⟨g, 1, none⟩ = some (.int .i64 x.pl) ∧ W'.cell? ⟨g, 2, none⟩ = some (.int .i64 x.sp.a) ∧ W'.cell? ⟨g, 3, none⟩ = some (.int .i64 x.sp.s) ∧ W'.cell? ⟨g, 4, none⟩ = some (.int .i64 x.sp.b) ∧ W'.cell? ⟨g, 5, none⟩ = some (.bool x.sp.lf) ∧ W'.cell? ⟨g, 6, none⟩ = some (.bool x.sp.cr)) ∧ W'.cell? ⟨g, 7, none⟩ = some (.pointer lv) ∧ W'.cell? ⟨g, 8, none⟩ = some (.pointer rv) ∧ g < W'.heap.size) := fun W' hB' => by
        have hb' := hB'.block g hgw
        rw [hb] at hb'
        refine ⟨?_, ?_, ?_, (Array.getElem?_eq_some_iff.1 hb').1⟩
        · refine ⟨?_, ?_, ?_, ?_, ?_, ?_, ?_⟩ <;> (rw [cell_of_row W' g _ _ _ _ hb']; rfl)
        · rw [cell_of_row W' g _ _ _ _ hb']; rfl
        · rw [cell_of_row W' g _ _ _ _ hb']; rfl
      have CL := hidIt (callsIn_wide (n := n - 1) |>.2 (count_any tl lv W (hlt.ext hB)))
      have e1 : (Tr.node tl x tr).list.drop fr = tl.list.drop fr ++ (x :: tr.list).drop (fr - tl.list.length) := by simp only [Tr.list]; rw [List.drop_append]
      rw [e1] at hN
      rw [e1]
      have hlen := HLEN.out
      have WL := hidIt (ihl (n - 1) lv fr s pre W hlt hB ho (by omega) hf hJ (by rw [← List.append_assoc] at hN; exact (List.prefix_append _ _).trans hN))
      obtain ⟨c0, c1, c2, hgl⟩ := HN.out W hB
      have hlt' : ¬ ((Tr.node tl x tr).list.length : Int) ≤ (fr : Int) := by omega
      have HB := hidIt hB
      have HO := hidIt ho
      have HRT := hidIt hrt
      have HNN := hidIt hN
      have HLL := hidIt hl
      clear hb e1 hB ho hrt hlt hN hJ ihl hl
      generalize hnn : (Tr.node tl x tr).list.length = nn at *
      refine callsIn_of_wp Tryz.func98 rfl trivial ?_ rfl
      simp only [Tryz.ntmps98, List.size_toArray, List.length_cons, List.length_nil, Nat.reduceAdd, Nat.reduceSub, Array.replicate_succ, Array.replicate_zero, List.push_toArray, List.append_toArray, List.nil_append, List.cons_append]
      gi_wp2_with fail
      refine ⟨trivial, hdd _, ?_⟩
      refine CN.out.mono ?_
      rintro e W1 ⟨rfl, hw1⟩
      obtain rfl : W = W1 := hw1.symm
      gi_wp2_with fail
      refine ⟨trivial, hdd _, ?_⟩
      refine CL.out.mono ?_
      rintro e W1 ⟨rfl, hw1⟩
      obtain rfl : W = W1 := hw1.symm
      clear CN CL
      gi_wp2_with fail
      refine ⟨trivial, hdd _, ?_⟩
      refine WL.out.mono ?_
      clear WL c0 c1 c2 hgl
      rintro e W1 (⟨rfl, s1, hJ1, k1, n1⟩ | ⟨rfl, s1, q, hq, hx1, k1, n1⟩)
      case inr =>
        have HE : Hid (OnX G s pre (tl.list.drop fr ++ (x :: tr.list).drop (fr - tl.list.length)) W (.returned (.bool false)) W1) := .inr ⟨rfl, s1, q, hq.trans (List.prefix_append _ _), hx1, k1, n1⟩
        clear hY ihr
        gi_wp2_with fail
        go_ret
        exact HE.out
      obtain ⟨hB1, ho1⟩ := own_on HB.out HO.out k1 n1
      obtain ⟨c0, c1, c2, hgl⟩ := HN.out W1 hB1
      have K1 := hidIt k1
      have N1 := hidIt n1
      by_cases hle : fr ≤ tl.list.length
      · have e2 : (x :: tr.list).drop (fr - tl.list.length) = [x] ++ tr.list.drop 0 := by rw [show fr - tl.list.length = 0 by omega]; rfl
        have HNN2 : Hid (pre ++ tl.list.drop fr ++ [x] ++ tr.list <+: full) := by have h := HNN.out; rw [e2, List.drop_zero, ← List.append_assoc, ← List.append_assoc] at h; exact h
        have E2 := hidIt e2
        obtain ⟨fn, tmps, assign, body, hy, hR⟩ := hY (n - 1) s1 (pre ++ tl.list.drop fr) x W1 hJ1 ((List.prefix_append _ _).trans HNN2.out)
        have HR := hidIt hR
        have hle' : (fr : Int) ≤ (tl.list.length : Int) := by omega
        have hmx : (fr : Int) - tl.list.length - 1 < 0 := by omega
        have hmx' : ¬ 0 ≤ (fr : Int) - tl.list.length - 1 := by omega
        have HB1 := hidIt hB1
        have HO1 := hidIt ho1
        have hl1 : tl.list.length ≤ 4611686018427387904 := by have := HLL.out; have := HLEN.out; omega
        clear hR e2 hB1 ho1 hJ1 k1 n1
        generalize hnl : tl.list.length = nl at *
        gi_wp2_with fail
        refine ⟨hdd _, ?_⟩
        refine HR.out.mono ?_
        clear hy HR c0 c1 c2 hgl
        rintro e W2 (⟨rfl, s2, hJ2, k2, n2⟩ | ⟨rfl, s2, hx2, k2, n2⟩)
        case inr =>
          have HE : Hid (OnX G s pre (tl.list.drop fr ++ (x :: tr.list).drop (fr - nl)) W (.returned (.bool false)) W2) := by rw [E2.out]; exact OnX.next K1.out N1.out (.inr ⟨rfl, s2, [x], List.prefix_append _ _, hx2, k2, n2⟩)
          clear ihr hY
          gi_wp2_with fail
          go_ret
          exact HE.out
        obtain ⟨hB2, ho2⟩ := own_on HB1.out HO1.out k2 n2
        obtain ⟨c0, c1, c2, hgl⟩ := HN.out W2 hB2
        have WR := hidIt (ihr (n - 1) rv 0 s2 (pre ++ tl.list.drop fr ++ [x]) W2 HRT.out hB2 ho2 (by have := HLL.out; have := HLEN.out; omega) (by omega) hJ2 (by rw [List.drop_zero]; exact HNN2.out))
        have K2 := hidIt k2
        have N2 := hidIt n2
        clear hB2 ho2 hJ2 k2 n2 ihr hY
        gi_wp2_with fail
        refine ⟨trivial, hdd _, ?_⟩
        refine WR.out.mono ?_
        clear WR c0 c1 c2 hgl
        intro e W3 h3
        have HE : Hid (OnX G s pre (tl.list.drop fr ++ (x :: tr.list).drop (fr - nl)) W e W3) := by rw [E2.out]; exact OnX.next K1.out N1.out (OnX.next K2.out N2.out h3)
        rcases h3 with ⟨rfl, _⟩ | ⟨rfl, _⟩
        · gi_wp2_with fail
          go_ret
          exact HE.out
        · gi_wp2_with fail
          go_ret
          exact HE.out
      · have e2 : (x :: tr.list).drop (fr - tl.list.length) = tr.list.drop (fr - tl.list.length - 1) := by
          obtain ⟨m, hm⟩ : ∃ m, fr - tl.list.length = m + 1 := ⟨fr - tl.list.length - 1, by omega⟩
          rw [hm]; rfl
        have HNN2 : Hid (pre ++ tl.list.drop fr ++ tr.list.drop (fr - tl.list.length - 1) <+: full) := by have h := HNN.out; rw [e2, ← List.append_assoc] at h; exact h
        have E2 := hidIt e2
        obtain ⟨q, hq⟩ : ∃ q : Nat, q = fr - tl.list.length - 1 := ⟨_, rfl⟩
        rw [← hq] at HNN2 E2
        have hle' : ¬ (fr : Int) ≤ (tl.list.length : Int) := by omega
        have hled : decide ((fr : Int) ≤ (tl.list.length : Int)) = false := by simpa using hle'
        have hsb : (fr : Int) - tl.list.length - 1 = (q : Int) := by omega
        have hq0 : ¬ (q : Int) < 0 := by omega
        have hfr : (fr : Int) ≤ 9223372036854775807 := by omega
        have WR := hidIt (ihr (n - 1) rv q s1 (pre ++ tl.list.drop fr) W1 HRT.out hB1 ho1 (by have := HLL.out; have := HLEN.out; omega) (by omega) hJ1 HNN2.out)
        have hl1 : tl.list.length ≤ 4611686018427387904 := by have := HLL.out; have := HLEN.out; omega
        clear e2 hB1 ho1 hJ1 k1 n1 ihr hY hq
        generalize hnl : tl.list.length = nl at *
        gi_wp2_with fail
        refine ⟨fun _ h => (by cases h), ?_⟩
        gi_wp2_with fail
        refine ⟨trivial, hdd _, ?_⟩
        refine WR.out.mono ?_
        clear WR c0 c1 c2 hgl
        intro e W3 h3
        have HE : Hid (OnX G s pre (tl.list.drop fr ++ (x :: tr.list).drop (fr - nl)) W e W3) := by rw [E2.out]; exact OnX.next K1.out N1.out h3
        rcases h3 with ⟨rfl, _⟩ | ⟨rfl, _⟩
        · gi_wp2_with fail
          go_ret
          exact HE.out
        · gi_wp2_with fail
          go_ret
          exact HE.out

theorem Items_any (u : Option Addr) (fr : Int) (m : Nat) (w : World) (hm : (m : Int) = max fr 0) :
    Calls Tryz.prog 60 #[.agg #[.pointer u], .int .i64 fr] w fun e w' => e = .returned (.func (.func 97) #[] #[.pointer (some ⟨w.heap.size, 0, none⟩), .pointer (some ⟨w.heap.size + 1, 0, none⟩)]) ∧
      w' = (w.alloc (.cells #[.pointer u] 114)).alloc (.cells #[.int .i64 m] 3) := by
  by_cases h : fr < 0
  · obtain rfl : m = 0 := by omega
    clear hm
    go_enter Tryz.func60, Tryz.ntmps60
    go_wp2_with fail
    go_ret
    exact ⟨rfl, rfl⟩
  · have hfm : fr = (m : Int) := by omega
    have hnn : ¬ (m : Int) < 0 := by omega
    clear hm h
    subst hfm
    go_enter Tryz.func60, Tryz.ntmps60
    go_wp2_with fail
    go_ret
    exact ⟨rfl, rfl⟩

theorem items_stops (n : Nat) (t : Tr It) (u : Option Addr) (m : Nat) (w : World) (a b n₀ : Nat) (hn : n₀ ≤ w.heap.size) (ha : a < w.heap.size) (hb : b < w.heap.size) (wT : World) (hwT : wT.heap.size = n₀) (hBT : Below n₀ wT w) (hT : Tin wT t u) (hl : t.list.length ≤ 4611686018427387904) (hm : m ≤ 9223372036854775807)
    (hA : w.heap[a]? = some (.cells #[.pointer u] 114 (0, 0))) (hB : w.heap[b]? = some (.cells #[.int .i64 m] 3 (0, 0))) :
    SeqX Fence.wide n Tryz.prog 97 #[.pointer (some ⟨a, 0, none⟩), .pointer (some ⟨b, 0, none⟩)] (fun x : It => #[.agg #[.slice x.p x.n x.c, .int .i64 x.pl, .int .i64 x.sp.a, .int .i64 x.sp.s, .int .i64 x.sp.b, .bool x.sp.lf, .bool x.sp.cr]]) (fun k => k < n₀ ∨ k = a ∨ k = b) (fun xs => xs = t.list.drop m) (fun pre => pre <+: t.list.drop m) w := by
  intro l σ G s W hK hrel _ hY h0
  have hbW : Below wT.heap.size wT W := by
    rw [hwT]
    exact ⟨hK.os.trans hBT.os, hK.tape.trans hBT.tape, hK.output.trans hBT.output, by have := hK.size; omega, fun k hk => (hK.same k (by omega) (fun e => e (.inl hk))).trans (hBT.block k hk)⟩
  have hA' : W.heap[a]? = some (.cells #[.pointer u] 114 (0, 0)) := (hK.same a ha (fun e => e (.inr (.inl rfl)))).trans hA
  have hB' : W.heap[b]? = some (.cells #[.int .i64 m] 3 (0, 0)) := (hK.same b hb (fun e => e (.inr (.inr rfl)))).trans hB
  have c0 : W.cell? ⟨a, 0, none⟩ = some (.pointer u) := by rw [cell_of_row W a _ _ _ _ hA']; rfl
  have c1 : W.cell? ⟨b, 0, none⟩ = some (.int .i64 m) := by rw [cell_of_row W b _ _ _ _ hB']; rfl
  have hw := hidIt (walk_in G l (t.list.drop m) wT (fun k s pre x W1 hj hlen => yield_any k (hY s pre x W1 hj hlen)) t (n - 1) u m s [] W hT hbW (fun k ho => by
    rw [hwT]
    by_cases hk : k < n₀
    · exact absurd ho (hrel k (.inl hk)).2
    · omega) hl hm h0 (List.prefix_refl _))
  clear hY hA' hB' hA hB hT hbW
  generalize t.list.drop m = xs at *
  refine callsIn_of_wp Tryz.func97 rfl trivial ?_ rfl
  simp only [Tryz.ntmps97, List.size_toArray, List.length_cons, List.length_nil, Nat.reduceAdd, Nat.reduceSub, Array.replicate_succ, Array.replicate_zero, List.push_toArray, List.append_toArray, List.nil_append, List.cons_append]
  gi_wp2_with fail
  refine ⟨trivial, hdd _, ?_⟩
  refine hw.out.mono ?_
  rintro e W1 (⟨rfl, s1, hJ1, k1, n1⟩ | ⟨rfl, s1, q, hq, hx1, k1, n1⟩)
  · have HE := hidIt (show ∃ s', Kps (G.own s) W W1 ∧ Newer G.own s s' W ∧ ((∃ ys, ys = xs ∧ G.J s' ys W1) ∨ (∃ pre, pre <+: xs ∧ G.Jx s' pre W1)) from ⟨s1, k1, n1, .inl ⟨xs, rfl, by simpa using hJ1⟩⟩)
    clear hw hJ1
    gi_wp2_with fail
    go_end0
    exact ⟨⟨_, rfl⟩, HE.out⟩
  · have HE := hidIt (show ∃ s', Kps (G.own s) W W1 ∧ Newer G.own s s' W ∧ ((∃ ys, ys = xs ∧ G.J s' ys W1) ∨ (∃ pre, pre <+: xs ∧ G.Jx s' pre W1)) from ⟨s1, k1, n1, .inr ⟨q, hq, by simpa using hx1⟩⟩)
    clear hw hx1
    gi_wp2_with fail
    go_end0
    exact ⟨⟨_, rfl⟩, HE.out⟩
end Go.Proofs.YtbmelpjmpomfcaaGreat.P

namespace Go.Proofs.YtbmelpjmpomfcaaGreat.P
open Go.RowKit

def Quiet (P : Program) (o : Oper) : Prop := (∀ c, o.op ≠ .defer c) ∧ ∀ ρ w y w', (execOp ρ o).run P w = .ok y w' → (∃ v, y = .value v) ∨ y = .skip
theorem ops_in {F : Fence} {n : Nat} {P : Program} {ops : Array Oper} {Q : Exit → Act → World → Prop} (hfn : ∀ f, F.fn f) (hq : ∀ (i : Nat) (o : Oper), ops[i]? = some o → Quiet P o) (hlo : ¬ LetsOut Q) :
    ∀ (l : List Nat) (a : Act) (w : World), wpOps P ops Q l a w → wpOpsIn F n P ops Q l a w := by
  intro l
  induction l with
  | nil => intro a w h; exact h
  | cons i rest ih =>
    intro a w h
    unfold wpOps at h
    unfold wpOpsIn
    cases ho : ops[i]? with
    | none => rw [ho] at h; exact ih a w h
    | some o =>
      rw [ho] at h
      simp only at h ⊢
      obtain ⟨q1, q2⟩ := hq i o ho
      by_cases hw : Region.wanted o (yielded ops a.tmps) = true
      · rw [if_pos hw] at h ⊢
        rcases h with h | h
        · refine ⟨fun f _ => hfn f, ?_⟩
          rw [Oper.semAt_plain F _ _ q1]
          unfold Oper.wp at h
          cases hr : (execOp a.eval o).run P w with
          | ok y w' =>
            rw [hr] at h
            rcases q2 a.eval w y w' hr with ⟨v, rfl⟩ | rfl
            · exact ih _ _ h
            · exact ih _ _ h
          | halt k w' =>
            rw [hr] at h
            cases k with
            | panic v => exact h
            | _ => exact h.elim
        · exact absurd h.2 hlo
      · rw [if_neg hw] at h ⊢
        exact ⟨fun f _ => hfn f, ih _ _ h⟩
theorem wpIn_held {F : Fence} {n : Nat} {P : Program} {ops : Array Oper} {Q : Exit → Act → World → Prop} {S : World → Prop} {id : Nat} {a : Act} {w : World} (hfn : ∀ f, F.fn f) (hq : ∀ (i : Nat) (o : Oper), ops[i]? = some o → Quiet P o) (hlo : ¬ LetsOut Q) (hm : P.follows .mixedOrders = true) (hS : S w.drew)
    (h : S w.drew → wpAnyH P .any ops Q S ops.size (Array.replicate ops.size false) a w.drew) : (Code.region id ops true).wpIn F n P Q a w :=
  wpIn_region_draw fun t => by
    simp only [Region.schedule, hm, Bool.true_or, if_true]
    exact ops_in hfn hq hlo _ _ _ (wpAny_sound ops.size t _ a _ (wpAny_of_held _ _ _ _ (h hS)))
theorem quiet_val {P : Program} {o : Oper} (h1 : ∀ c, o.op ≠ .defer c) (f : (Operand → Value) → Sem Value) (h2 : ∀ ρ, execOp ρ o = (do pure (.value (← f ρ)))) : Quiet P o := by
  refine ⟨h1, fun ρ w y w' h => ?_⟩
  rw [h2] at h
  simp only [Sem.run_bind, Sem.run_pure] at h
  cases e : (f ρ).run P w with
  | ok v w1 => rw [e] at h; simp only [Result.andThen_ok] at h; cases h; exact .inl ⟨v, rfl⟩
  | halt k w1 => rw [e] at h; cases h
theorem quiet_unit {P : Program} {o : Oper} (h1 : ∀ c, o.op ≠ .defer c) (f : (Operand → Value) → Sem Unit) (h2 : ∀ ρ, execOp ρ o = (do f ρ; pure .skip)) : Quiet P o := by
  refine ⟨h1, fun ρ w y w' h => ?_⟩
  rw [h2] at h
  simp only [Sem.run_bind, Sem.run_pure] at h
  cases e : (f ρ).run P w with
  | ok v w1 => rw [e] at h; simp only [Result.andThen_ok] at h; cases h; exact .inr rfl
  | halt k w1 => rw [e] at h; cases h
end Go.Proofs.YtbmelpjmpomfcaaGreat.P

namespace Go.Proofs.YtbmelpjmpomfcaaGreat.P
open Go.RowKit

theorem oper_in {l n : Nat} {P : Program} {o : Oper} {a : Act} {w : World} {next next' : Act → World → Prop} {Q : Exit → Act → World → Prop} (hd : ∀ c, o.op ≠ .defer c) (hn : ∀ a w, next a w → next' a w) (h : o.wp P a w next Q) : o.wpIn (Fence.wide.inRound l) n P a w next' Q := by
  refine ⟨fun f _ => trivial, ?_⟩
  rw [Oper.semAt_plain _ _ _ hd]
  unfold Oper.wp at h
  cases hr : (execOp a.eval o).run P w with
  | ok y w' =>
    rw [hr] at h
    cases y with
    | value v => exact hn _ _ h
    | skip => exact hn _ _ h
    | defer d => exact hn _ _ h
    | enter f args =>
      refine ⟨(fun e => by cases e), ?_⟩
      refine (callsIn_wide (n := n - 1)).2 (Calls.mono h fun e w'' he => ?_)
      cases e with
      | returned v => exact hn _ _ he
      | panicked c => exact he
      | outgrown => exact he
    | row r args =>
      refine ⟨(fun e => by cases e), ?_⟩
      exact fun c cs _ => let ⟨v, w', r, s⟩ := h c cs; ⟨v, w', hn _ _ r, stepsIn_wide.2 s⟩
    | _ => exact h.elim
  | halt k w' =>
    rw [hr] at h
    cases k with
    | panic v => exact h
    | _ => exact h.elim
theorem ops_inC {l n : Nat} {P : Program} {ops : Array Oper} {Q : Exit → Act → World → Prop} (hq : ∀ (i : Nat) (o : Oper), ops[i]? = some o → ∀ c, o.op ≠ .defer c) (hlo : ¬ LetsOut Q) :
    ∀ (t : List Nat) (a : Act) (w : World), wpOps P ops Q t a w → wpOpsIn (Fence.wide.inRound l) n P ops Q t a w := by
  intro t
  induction t with
  | nil => intro a w h; exact h
  | cons i rest ih =>
    intro a w h
    unfold wpOps at h
    unfold wpOpsIn
    cases ho : ops[i]? with
    | none => rw [ho] at h; exact ih a w h
    | some o =>
      rw [ho] at h
      simp only at h ⊢
      by_cases hw : Region.wanted o (yielded ops a.tmps) = true
      · rw [if_pos hw] at h ⊢
        rcases h with h | h
        · exact oper_in (hq i o ho) (fun a w h => ih a w h) h
        · exact absurd h.2 hlo
      · rw [if_neg hw] at h ⊢
        exact ⟨fun f _ => trivial, ih _ _ h⟩
theorem wpIn_heldC {l n : Nat} {P : Program} {ops : Array Oper} {Q : Exit → Act → World → Prop} {S : World → Prop} {id : Nat} {a : Act} {w : World} (hq : ∀ (i : Nat) (o : Oper), ops[i]? = some o → ∀ c, o.op ≠ .defer c) (hlo : ¬ LetsOut Q) (hm : P.follows .mixedOrders = true) (hS : S w.drew)
    (h : S w.drew → wpAnyH P .any ops Q S ops.size (Array.replicate ops.size false) a w.drew) : (Code.region id ops true).wpIn (Fence.wide.inRound l) n P Q a w :=
  wpIn_region_draw fun t => by
    simp only [Region.schedule, hm, Bool.true_or, if_true]
    exact ops_inC hq hlo _ _ _ (wpAny_sound ops.size t _ a _ (wpAny_of_held _ _ _ _ (h hS)))
theorem wpIn_flatC {l n : Nat} {P : Program} {ops : Array Oper} {Q : Exit → Act → World → Prop} {id : Nat} {a : Act} {w : World} (hq : ∀ (i : Nat) (o : Oper), ops[i]? = some o → ∀ c, o.op ≠ .defer c) (hlo : ¬ LetsOut Q) (h : wpOps P ops Q (List.range ops.size) a w) : (Code.region id ops false).wpIn (Fence.wide.inRound l) n P Q a w :=
  wpIn_region (ops_inC hq hlo _ _ _ h)
theorem wpIn_lit {l n : Nat} {P : Program} {os : List Oper} {Q : Exit → Act → World → Prop} {id : Nat} {a : Act} {w : World} (hq : ∀ o ∈ os, ∀ c, o.op ≠ .defer c) (hlo : ¬ LetsOut Q) (h : wpList P os.toArray Q os a w) : (Code.region id os.toArray false).wpIn (Fence.wide.inRound l) n P Q a w :=
  wpIn_flatC (fun i o ho => hq o (by simpa using List.mem_of_getElem? (by simpa using ho))) hlo (by rw [List.range_eq_range', ← Array.length_toList, wpOps_eq_wpList os.toArray.toList 0 (by simp)]; simpa using h)
end Go.Proofs.YtbmelpjmpomfcaaGreat.P

namespace Go.Proofs.YtbmelpjmpomfcaaGreat.P
open Go.RowKit

theorem wt_sub (xs : List It) (i : Nat) : wt (xs.take i) ≤ wt xs ∧ wt (xs.drop i) ≤ wt xs := by
  have := wt_app (xs.take i) (xs.drop i)
  rw [List.take_append_drop] at this
  omega

set_option maxRecDepth 100000 in
set_option maxHeartbeats 2000000 in
theorem Replace_bad (u : Option Addr) (xs : List It) (f t : Int) (v : Value) (ys : List It) (w : World) (h : TT w (.agg #[.pointer u]) xs) (hv : RdR w v ys) (hb : f < 0 ∨ t < f ∨ (xs.length : Int) < t) :
    Calls Tryz.prog 95 #[.agg #[.pointer u], .int .i64 f, .int .i64 t, v] w fun e w' => e = .returned (.tuple #[.agg #[.pointer none], .int .i64 1]) ∧ Below w.heap.size w w' := by
  obtain ⟨ao, cap, rfl, _⟩ := hv
  have K : Hid (∀ w', Below w.heap.size w w' → Calls Tryz.prog 90 #[.agg #[.pointer u]] w' fun e w'' => e = .returned (.int .i64 xs.length) ∧ Below w'.heap.size w' w'') := fun w' hb => Size_any u xs w' (h.ext hb)
  clear h
  generalize xs.length = n at *
  by_cases h1 : f < 0
  · go_enter Tryz.func95, Tryz.ntmps95
    go_wp2_with fail
    exact bodyPost_ret (v := .tuple #[.agg #[.pointer none], .int .i64 1]) (by simp [results, Tryz.results95, go_sem]) rfl ⟨rfl, by repeat (first | exact Below.refl _ _ | refine ext_alloc ?_ _)⟩
  by_cases h2 : t < f
  · go_enter Tryz.func95, Tryz.ntmps95
    go_wp2_with fail
    exact bodyPost_ret (v := .tuple #[.agg #[.pointer none], .int .i64 1]) (by simp [results, Tryz.results95, go_sem]) rfl ⟨rfl, by repeat (first | exact Below.refl _ _ | refine ext_alloc ?_ _)⟩
  have h3 : (n : Int) < t := by omega
  obtain ⟨w0, hw0⟩ : ∃ w0, w0 = (w.alloc (.cells #[.pointer u] 114)).alloc (.cells #[.pointer none] 114) := ⟨_, rfl⟩
  have hb0 : Below w.heap.size w w0 := by rw [hw0]; exact ext_alloc (ext_alloc (Below.refl _ _) _) _
  have hA : w0.heap[w.heap.size + 1]? = some (.cells #[.pointer none] 114 (0, 0)) := by
    have := heap_alloc_new (w.alloc (.cells #[.pointer u] 114)) (.cells #[.pointer none] 114)
    rw [World.size_alloc] at this
    rw [hw0]; exact this
  have hlt : w.heap.size + 1 < w0.heap.size := (Array.getElem?_eq_some_iff.1 hA).1
  have c0 : w0.cell? ⟨w.heap.size, 0, none⟩ = some (.pointer u) := by first | trivial | (rw [hw0]; simp)
  have HZ : Hid (∀ w1, Below w0.heap.size w0 w1 → w1.heap[w.heap.size + 1]? = some (.cells #[.pointer none] 114 (0, 0))) := fun w1 hb1 => by rw [hb1.block _ hlt]; exact hA
  have HB0 := hidIt hb0
  clear hb0 hA hb
  go_enter Tryz.func95, Tryz.ntmps95
  go_wp2_with (rw [← hw0]; go_at_call 90; refine (K.out _ HB0.out).mono ?_; clear hw0; rintro e w1 ⟨rfl, hb1⟩; have HB1 := hidIt hb1; have z0 : w1.cell? ⟨w.heap.size + 1, 0, none⟩ = some (.pointer none) := by { rw [cell_of_row w1 _ 0 _ _ _ (HZ.out w1 hb1)]; rfl }; have zf : ∀ i, w1.frozen? ⟨w.heap.size + 1, i, none⟩ = false := by { intro i; simp [World.frozen?, HZ.out w1 hb1] }; clear hb1)
  obtain ⟨p1, p2⟩ := set1 (HZ.out w1 HB1.out) 0 (.pointer none)
  exact bodyPost_ret (v := .tuple #[.agg #[.pointer none], .int .i64 1]) (by simp [results, Tryz.results95, go_sem, z0]) rfl ⟨rfl, below_put (ext_trans HB0.out HB1.out) (by have := HB1.out.size; omega) p2 (by omega)⟩

set_option maxRecDepth 100000 in
set_option maxHeartbeats 2000000 in
theorem Replace_good (u : Option Addr) (xs : List It) (f t : Nat) (v : Value) (ys : List It) (w : World) (h : TT w (.agg #[.pointer u]) xs) (hv : RdR w v ys) (hft : f ≤ t) (htn : t ≤ xs.length) (hw : wt xs + wt ys ≤ 4611686018427387904) :
    Calls Tryz.prog 95 #[.agg #[.pointer u], .int .i64 f, .int .i64 t, v] w fun e w' => ∃ u', e = .returned (.tuple #[.agg #[.pointer u'], .int .i64 0]) ∧ TT w' (.agg #[.pointer u']) (xs.take f ++ ys ++ xs.drop t) ∧ Below w.heap.size w w' := by
  obtain ⟨w0, hw0⟩ : ∃ w0, w0 = (w.alloc (.cells #[.pointer u] 114)).alloc (.cells #[.pointer none] 114) := ⟨_, rfl⟩
  have hb0 : Below w.heap.size w w0 := by rw [hw0]; exact ext_alloc (ext_alloc (Below.refl _ _) _) _
  have hA : w0.heap[w.heap.size + 1]? = some (.cells #[.pointer none] 114 (0, 0)) := by
    have := heap_alloc_new (w.alloc (.cells #[.pointer u] 114)) (.cells #[.pointer none] 114)
    rw [World.size_alloc] at this
    rw [hw0]; exact this
  have hlt : w.heap.size + 1 < w0.heap.size := (Array.getElem?_eq_some_iff.1 hA).1
  have c0 : w0.cell? ⟨w.heap.size, 0, none⟩ = some (.pointer u) := by first | trivial | (rw [hw0]; simp)
  have K : Hid (Calls Tryz.prog 90 #[.agg #[.pointer u]] w0 fun e w'' => e = .returned (.int .i64 xs.length) ∧ Below w0.heap.size w0 w'') := Size_any u xs w0 (h.ext hb0)
  obtain ⟨u', tr, hu, ht, hl, hbal⟩ := h.ext hb0
  obtain rfl : u = u' := by simpa using hu
  have hwf := wt_sub xs f
  have hwt := wt_sub xs t
  have hsum : wt (xs.take f) + wt ys + wt (xs.drop t) ≤ 4611686018427387904 := by
    have e1 : wt (xs.take f) ≤ wt (xs.take t) := by
      have := (wt_sub (xs.take t) f).1
      rw [List.take_take, Nat.min_eq_left hft] at this
      exact this
    have e2 := wt_app (xs.take t) (xs.drop t)
    rw [List.take_append_drop] at e2
    omega
  have HD : Hid (∀ w', Below w0.heap.size w0 w' → Calls Tryz.prog 123 #[.pointer u, .int .i64 f] w' fun e w'' => ∃ a, e = .returned (.pointer a) ∧ Hid (∃ p, Tin w'' p a ∧ p.list = xs.take f ∧ p.Bal) ∧ Below w0.heap.size w0 w'') := fun w' hb => (head_any tr f u w' (ht.ext hb) (by rw [hl]; omega)).mono fun _ _ ⟨a, p, k1, k2, ⟨k3, k4⟩, k5⟩ => ⟨a, k1, ⟨p, k2, by rw [k3, hl]; rfl, k4 hbal⟩, ext_trans hb k5⟩
  have TL : Hid (∀ a w', Hid (∃ p, Tin w' p a ∧ p.list = xs.take f ∧ p.Bal) → Below w0.heap.size w0 w' → Calls Tryz.prog 124 #[.pointer u, .int .i64 t] w' fun e w'' => ∃ b, e = .returned (.pointer b) ∧ Hid ((∃ p, Tin w'' p a ∧ p.list = xs.take f ∧ p.Bal) ∧ ∃ p, Tin w'' p b ∧ p.list = xs.drop t ∧ p.Bal) ∧ Below w0.heap.size w0 w'') := fun a w' ha hb => (tail_any tr t u w' (ht.ext hb) (by rw [hl]; omega)).mono fun _ _ ⟨b, p, k1, k2, ⟨k3, k4⟩, k5⟩ => by
    obtain ⟨q, q1, q2⟩ := ha.out
    exact ⟨b, k1, ⟨⟨q, q1.ext k5, q2⟩, p, k2, by rw [k3, hl]; rfl, k4 hbal⟩, ext_trans hb k5⟩
  have BL : Hid (∀ a b w', Hid ((∃ p, Tin w' p a ∧ p.list = xs.take f ∧ p.Bal) ∧ ∃ p, Tin w' p b ∧ p.list = xs.drop t ∧ p.Bal) → Below w0.heap.size w0 w' → Calls Tryz.prog 105 #[v] w' fun e w'' => ∃ c, e = .returned (.pointer c) ∧ Hid ((∃ p, Tin w'' p a ∧ p.list = xs.take f ∧ p.Bal) ∧ (∃ p, Tin w'' p b ∧ p.list = xs.drop t ∧ p.Bal) ∧ ∃ p, Tin w'' p c ∧ p.list = ys ∧ p.Bal) ∧ Below w0.heap.size w0 w'') := fun a b w' hab hb => (build_any _ ys v w' (Nat.le_refl _) ((hv.ext hb0).ext hb) (by omega)).mono fun _ _ ⟨c, p, k1, k2, k3, k5⟩ => by
    obtain ⟨⟨q, q1, q2⟩, r, r1, r2⟩ := hab.out
    exact ⟨c, k1, ⟨⟨q, q1.ext k5, q2⟩, ⟨r, r1.ext k5, r2⟩, p, k2, k3.1, k3.2.1⟩, ext_trans hb k5⟩
  have C1 : Hid (∀ a b c w', Hid ((∃ p, Tin w' p a ∧ p.list = xs.take f ∧ p.Bal) ∧ (∃ p, Tin w' p b ∧ p.list = xs.drop t ∧ p.Bal) ∧ ∃ p, Tin w' p c ∧ p.list = ys ∧ p.Bal) → Below w0.heap.size w0 w' → Calls Tryz.prog 125 #[.pointer a, .pointer c] w' fun e w'' => ∃ d, e = .returned (.pointer d) ∧ Hid ((∃ p, Tin w'' p d ∧ p.list = xs.take f ++ ys ∧ p.Bal) ∧ ∃ p, Tin w'' p b ∧ p.list = xs.drop t ∧ p.Bal) ∧ Below w0.heap.size w0 w'') := fun a b c w' habc hb => by
    obtain ⟨⟨q, q1, q2, q3⟩, ⟨r, r1, r2⟩, p, p1, p2, p3⟩ := habc.out
    exact (concat_any q p a c w' q1 p1 (by rw [q2, p2, wt_app]; omega)).mono fun _ _ ⟨d, z, k1, k2, ⟨k3, k4⟩, k5⟩ => ⟨d, k1, ⟨⟨z, k2, by rw [k3, q2, p2], k4 q3 p3⟩, r, r1.ext k5, r2⟩, ext_trans hb k5⟩
  have C2 : Hid (∀ d b w', Hid ((∃ p, Tin w' p d ∧ p.list = xs.take f ++ ys ∧ p.Bal) ∧ ∃ p, Tin w' p b ∧ p.list = xs.drop t ∧ p.Bal) → Below w0.heap.size w0 w' → Calls Tryz.prog 125 #[.pointer d, .pointer b] w' fun e w'' => ∃ r, e = .returned (.pointer r) ∧ Hid (∃ p, Tin w'' p r ∧ p.list = xs.take f ++ ys ++ xs.drop t ∧ p.Bal) ∧ Below w0.heap.size w0 w'') := fun d b w' hdb hb => by
    obtain ⟨⟨q, q1, q2, q3⟩, p, p1, p2, p3⟩ := hdb.out
    exact (concat_any q p d b w' q1 p1 (by rw [q2, p2, wt_app, wt_app]; omega)).mono fun _ _ ⟨d, z, k1, k2, ⟨k3, k4⟩, k5⟩ => ⟨d, k1, ⟨z, k2, by rw [k3, q2, p2], k4 q3 p3⟩, ext_trans hb k5⟩
  have HZ : Hid (∀ w1, Below w0.heap.size w0 w1 → w1.heap[w.heap.size + 1]? = some (.cells #[.pointer none] 114 (0, 0))) := fun w1 hb1 => by rw [hb1.block _ hlt]; exact hA
  have HC : Hid (∀ w1, Below w0.heap.size w0 w1 → w1.cell? ⟨w.heap.size, 0, none⟩ = some (.pointer u)) := fun w1 hb1 => (by first | trivial | exact C7.ext hb1 (by simp only; omega) c0 | exact C5.ext hb1 (by simp only; omega) c0 | exact (hb1.cell (p := ⟨w.heap.size, 0, none⟩) (by simp only; omega)).trans c0 | exact (hb1.cell (p := ⟨w.heap.size, 0, none⟩) (by simp only; omega)).trans c0)
  have HB0 := hidIt hb0
  obtain ⟨ao, cap, rfl, _⟩ := hv
  have t1 : ¬ (f : Int) < 0 := by omega
  have t2 : ¬ (t : Int) < (f : Int) := by omega
  have t3 : ¬ (xs.length : Int) < (t : Int) := by omega
  have t1' : decide ((f : Int) < 0) = false := by simp
  have t2' : decide ((t : Int) < (f : Int)) = false := by simp; omega
  have t2n : ¬ t < f := by omega
  have t3n : ¬ xs.length < t := by omega
  clear hb0 hA h ht hl hbal hu hwf hwt hsum hw hft htn
  generalize xs.length = n at *
  go_enter Tryz.func95, Tryz.ntmps95
  go_wp2_with (rw [← hw0]; go_at_call 90; refine K.out.mono ?_; clear hw0; rintro e w1 ⟨rfl, hb1⟩; have HB1 := hidIt hb1; clear c0; have c0 := HC.out w1 hb1; clear hb1)
  go_region_held3 (fun w' => w'.cell? ⟨w.heap.size, 0, none⟩ = some (.pointer u)) (go_keep) (first
    | (go_at_call 123; refine (HD.out _ (by repeat (first | exact HB1.out | apply Below.drew))).mono ?_; rintro e w2 ⟨a, rfl, T1, hb2⟩; have HB2 := hidIt hb2; clear c0; have c0 := HC.out w2 hb2; clear hb2)
    | (go_at_call 124; refine (TL.out _ _ T1 (by repeat (first | exact HB2.out | apply Below.drew))).mono ?_; rintro e w3 ⟨b, rfl, T2, hb2⟩; have HB3 := hidIt hb2; clear c0; have c0 := HC.out w3 hb2; clear hb2))
  go_wp2_with (first
    | (go_at_call 105; refine (BL.out _ _ _ T2 HB3.out).mono ?_; rintro e w4 ⟨c, rfl, T3, hb2⟩; have HB4 := hidIt hb2; clear hb2)
    | (go_at_call 125; refine (C1.out _ _ _ _ T3 HB4.out).mono ?_; clear C1; rintro e w5 ⟨d, rfl, T4, hb2⟩; have HB5 := hidIt hb2; clear hb2)
    | (go_at_call 125; refine (C2.out _ _ _ T4 HB5.out).mono ?_; rintro e w6 ⟨r, rfl, T5, hb2⟩; have HB6 := hidIt hb2; have z0 : w6.cell? ⟨w.heap.size + 1, 0, none⟩ = some (.pointer none) := by { rw [cell_of_row w6 _ 0 _ _ _ (HZ.out w6 hb2)]; rfl }; have zf : ∀ i, w6.frozen? ⟨w.heap.size + 1, i, none⟩ = false := by { intro i; simp [World.frozen?, HZ.out w6 hb2] }; clear hb2))
  obtain ⟨p1, p2⟩ := set1 (HZ.out w6 HB6.out) 0 (.pointer r)
  obtain ⟨p, k1, k2, k3⟩ := T5.out
  exact bodyPost_ret (v := .tuple #[.agg #[.pointer r], .int .i64 0]) (by simp [results, Tryz.results95, go_sem, z0]) rfl ⟨r, rfl, ⟨r, p, rfl, k1.put (HZ.out w6 HB6.out) (by decide) p2, k2, k3⟩, below_put (ext_trans HB0.out HB6.out) (by have := HB6.out.size; omega) p2 (by omega)⟩
end Go.Proofs.YtbmelpjmpomfcaaGreat.P

namespace Go.Proofs.YtbmelpjmpomfcaaGreat.P
open Go.RowKit

def szAt (w : World) : Value → Nat
  | .pointer (some a) => match w.cell? ⟨a.block, 9, none⟩ with
    | some (.int _ n) => n.toNat
    | _ => 0
  | _ => 0
theorem szAt_tin {w : World} {t : Tr It} {u : Option Addr} (h : Tin w t u) : szAt w (.pointer u) = t.list.length := by
  cases t using Tr.ind with
  | nil => simp only [Tin] at h; subst h; rfl
  | node l x r =>
    obtain ⟨g, lv, rv, rfl, hg, hl, hr⟩ := h
    have c4 : w.cell? ⟨g, 9, none⟩ = some (.int .i64 ((l.list ++ x :: r.list).length : Nat)) := by first | trivial | (refine ⟨?_, ?_, ?_, ?_, ?_, ?_, ?_⟩ <;> (rw [cell_of_row w g _ _ _ _ hg]; rfl)) | (refine ⟨?_, ?_, ?_, ?_, ?_⟩ <;> (rw [cell_of_row w g _ _ _ _ hg]; rfl)) | (rw [cell_of_row w g _ _ _ _ hg]; rfl)
    simp [szAt, c4, Tr.list]
    omega
def atL (l : List It) (i : Int) : Option It := if i < 0 then none else l[i.toNat]?
theorem atL_nil (i : Int) : atL [] i = none := by unfold atL; split <;> simp
theorem atL_here (l r : List It) (x : It) : atL (l ++ x :: r) l.length = some x := by
  unfold atL; rw [if_neg (by omega)]; simp
theorem atL_left (l r : List It) (x : It) (i : Int) (h : i < l.length) : atL (l ++ x :: r) i = atL l i := by
  unfold atL
  split
  · rfl
  · rw [List.getElem?_append_left (by omega)]
theorem atL_right (l r : List It) (x : It) (i : Int) (h : l.length < i) : atL (l ++ x :: r) i = atL r (i - (l.length + 1)) := by
  unfold atL
  rw [if_neg (by omega), if_neg (by omega), List.getElem?_append_right (by omega), show i.toNat - l.length = (i - (l.length + 1)).toNat + 1 by omega]
  rfl

def AtP (xs : List It) (i : Int) (x : It) (b : Bool) : Prop := (atL xs i = some x ∧ b = true) ∨ (atL xs i = none ∧ b = false ∧ x = It.zero)

set_option maxRecDepth 100000 in
set_option maxHeartbeats 2000000 in
theorem At_any (u : Option Addr) (xs : List It) (i : Int) (w : World) (h : TT w (.agg #[.pointer u]) xs) (hw : wt xs ≤ 4611686018427387904) (hi : i ≤ 9223372036854775807) :
    Calls Tryz.prog 66 #[.agg #[.pointer u], .int .i64 i] w fun e w' => ∃ x b, e = .returned (.tuple #[.agg #[.slice x.p x.n x.c, .int .i64 x.pl, .int .i64 x.sp.a, .int .i64 x.sp.s, .int .i64 x.sp.b, .bool x.sp.lf, .bool x.sp.cr], .bool b]) ∧ AtP xs i x b ∧ Below w.heap.size w w' := by
  obtain ⟨u', tr, hu, ht, hl, _⟩ := h
  obtain rfl : u = u' := by simpa using hu
  obtain ⟨w0, hw0⟩ : ∃ w0, w0 = (w.alloc (.cells #[.pointer u] 114)).alloc (.cells #[.slice none 0 0, .int .i64 0, .int .i64 0, .int .i64 0, .int .i64 0, .bool false, .bool false] 122) := ⟨_, rfl⟩
  have hb0 : Below w.heap.size w w0 := by rw [hw0]; exact ext_alloc (ext_alloc (Below.refl _ _) _) _
  have hA : BlkI w0 (w.heap.size + 1) It.zero := by
    have := heap_alloc_new (w.alloc (.cells #[.pointer u] 114)) (.cells #[.slice none 0 0, .int .i64 0, .int .i64 0, .int .i64 0, .int .i64 0, .bool false, .bool false] 122)
    rw [World.size_alloc] at this
    rw [hw0]; exact this
  have hlt := hA.lt
  have HT := hidIt (ht.ext hb0)
  have HL := hidIt hl
  have HB0 := hidIt hb0
  have HW := hidIt hw
  clear ht hl hb0 hu hw
  go_enter Tryz.func66, Tryz.ntmps66
  go_wp2_with fail
  rw [← hw0]
  clear hw0
  go_loopw [1, 6] (fun i' p wr => ∃ (t : Tr It) (q : Option Addr) (j : Int), i' = .int .i64 j ∧ p = .pointer q ∧ Tin wr t q ∧ Hid (atL xs i = atL t.list j ∧ wt t.list ≤ 4611686018427387904) ∧ j ≤ 9223372036854775807 ∧ wr = w0) (fun _ p wr => szAt wr p)
  case atStart => exact ⟨tr, u, i, rfl, rfl, HT.out, ⟨by rw [HL.out], by rw [HL.out]; exact HW.out⟩, hi, rfl⟩
  case round =>
    obtain ⟨t, q, j, rfl, rfl, htq, HA, hj, rfl⟩ := hrel
    obtain ⟨z0, z1, zf⟩ := hA.cells
    cases t using Tr.ind with
    | nil =>
      simp only [Tin] at htq
      subst htq
      go_wp2_with fail
      obtain ⟨p1, p2⟩ := hA.put It.zero
      have HN : atL xs i = none := by rw [HA.out.1, Tr.list, atL_nil]
      exact bodyPost_ret (v := .tuple #[.agg #[.slice none 0 0, .int .i64 0, .int .i64 0, .int .i64 0, .int .i64 0, .bool false, .bool false], .bool false]) (by simp [results, Tryz.results66, go_sem, z0, hlt]) rfl ⟨It.zero, false, rfl, .inr ⟨HN, rfl, rfl⟩, ext_alloc (below_put HB0.out (by omega) p2 (by omega)) _⟩
    | node l x r =>
      have hsz := szAt_tin htq
      have HTQ := hidIt htq
      obtain ⟨g, lu, ru, rfl, hgl, h2, h3, c0, c1, c2, c3⟩ := htq.lt
      have hlen : l.list.length ≤ 4611686018427387904 := by
        have := HA.out.2
        have := wt_len l.list
        rw [Tr.list, wt_app] at *
        omega
      have HLL := hidIt h2
      have HRR := hidIt h3
      have K : Hid (Calls Tryz.prog 102 #[.pointer lu] wr fun e w'' => e = .returned (.int .i64 l.list.length) ∧ w'' = wr) := count_any l lu wr h2
      have sl := szAt_tin h2
      have sr := szAt_tin h3
      have HS : Hid (szAt wr (.pointer (some ⟨g, 0, none⟩)) = l.list.length + 1 + r.list.length ∧ szAt wr (.pointer lu) = l.list.length ∧ szAt wr (.pointer ru) = r.list.length) := ⟨by rw [hsz, Tr.list]; simp; omega, sl, sr⟩
      clear htq h2 h3 hsz sl sr
      rcases Int.lt_trichotomy j l.list.length with hj1 | hj1 | hj1
      · have hne : ¬ j = (l.list.length : Int) := by omega
        have HN : Hid (atL xs i = atL l.list j ∧ wt l.list ≤ 4611686018427387904) := by
          obtain ⟨a1, a2⟩ := HA.out
          rw [Tr.list] at a1 a2
          rw [wt_app] at a2
          exact ⟨by rw [a1, atL_left _ _ _ _ hj1], by omega⟩
        generalize l.list.length = nl at *
        go_wp2_with (go_at_call 102; refine K.out.mono ?_; rintro e w1 ⟨rfl, rfl⟩)
        go_roundw
        case rel => exact ⟨l, lu, j, rfl, rfl, HLL.out, HN, hj, trivial⟩
        case measure => rw [HS.out.1, HS.out.2.1]; omega
      · have HN : Hid (atL xs i = some x) := by
          obtain ⟨a1, a2⟩ := HA.out
          rw [Tr.list] at a1
          unfold Hid
          rw [a1, hj1, atL_here]
        generalize l.list.length = nl at *
        subst hj1
        go_wp2_with (go_at_call 102; refine K.out.mono ?_; rintro e w1 ⟨rfl, rfl⟩)
        obtain ⟨p1, p2⟩ := hA.put x
        exact bodyPost_ret (v := .tuple #[.agg #[.slice x.p x.n x.c, .int .i64 x.pl, .int .i64 x.sp.a, .int .i64 x.sp.s, .int .i64 x.sp.b, .bool x.sp.lf, .bool x.sp.cr], .bool true]) (by simp [results, Tryz.results66, go_sem, z0]) rfl ⟨x, true, rfl, .inl ⟨HN.out, rfl⟩, below_put HB0.out (by omega) p2 (by omega)⟩
      · have hne : ¬ j = (l.list.length : Int) := by omega
        have hge : ¬ j < (l.list.length : Int) := by omega
        have HN : Hid (atL xs i = atL r.list (j - (l.list.length + 1)) ∧ wt r.list ≤ 4611686018427387904) := by
          obtain ⟨a1, a2⟩ := HA.out
          rw [Tr.list] at a1 a2
          rw [wt_app, wt_cons] at a2
          exact ⟨by rw [a1, atL_right _ _ _ _ hj1], by omega⟩
        generalize l.list.length = nl at *
        go_wp2_with (go_at_call 102; refine K.out.mono ?_; rintro e w1 ⟨rfl, rfl⟩)
        go_roundw
        case rel => exact ⟨r, ru, _, rfl, rfl, HRR.out, HN, by omega, trivial⟩
        case measure => rw [HS.out.1, HS.out.2.2]; omega
end Go.Proofs.YtbmelpjmpomfcaaGreat.P

namespace Go.Proofs.YtbmelpjmpomfcaaGreat.P
open Go.RowKit

theorem Blk.new_drew' (T : TypeId) (w : World) (s : Rs) : Blk T ((w.alloc (.cells #[.int .i64 s.a, .int .i64 s.s, .int .i64 s.b, .bool s.lf, .bool s.cr] T)).drew) w.heap.size s := heap_alloc_new _ _

set_option maxRecDepth 100000 in
set_option maxHeartbeats 16000000 in
theorem Find_any (u : Option Addr) (xs : List It) (k n : Int) (w : World) (h : TT w (.agg #[.pointer u]) xs) (hw : wt xs ≤ 4611686018427387904) :
    Calls Tryz.prog 65 #[.agg #[.pointer u], .int .i64 k, .int .i64 n] w fun e w' => e = .returned (.int .i64 (rA.fnd k n Rs.zero xs : Nat)) ∧ Below w.heap.size w w' := by
  by_cases hn : n ≤ 0
  · have HE : Hid (rA.fnd k n Rs.zero xs = 0) := rA.fnd_here k n Rs.zero xs (by have := rA.keyz k; have e : rA.key Rs.zero k = rA.key rA.zero k := rfl; omega)
    clear h hw
    go_enter Tryz.func65, Tryz.ntmps65
    go_wp2_with fail
    go_ret
    exact ⟨by rw [HE.out]; rfl, ext_alloc (Below.refl _ _) _⟩
  obtain ⟨u', tr, hu, ht, hl, _⟩ := h
  obtain rfl : u = u' := by simpa using hu
  obtain ⟨w0, hw0⟩ : ∃ w0, w0 = (w.alloc (.cells #[.pointer u] 114)).alloc (.cells #[.int .i64 0, .int .i64 0, .int .i64 0, .bool false, .bool false] 119) := ⟨_, rfl⟩
  have hb0 : Below w.heap.size w w0 := by rw [hw0]; exact ext_alloc (ext_alloc (Below.refl _ _) _) _
  have hA : Blk 119 w0 (w.heap.size + 1) Rs.zero := by
    have := Blk.new 119 (w.alloc (.cells #[.pointer u] 114)) Rs.zero
    rw [World.size_alloc] at this
    rw [hw0]; exact this
  have HT := hidIt (ht.ext hb0)
  have HL := hidIt hl
  have HB0 := hidIt hb0
  have HA := hidIt hA
  have HW := hidIt hw
  clear ht hl hb0 hu hw hA
  have hmt1 := m_meas
  have hmt2 := m_add
  have hmt3 := m_key
  have hnt1 := n_meas
  have hnt2 := n_add
  have hnt3 := n_key
  generalize hF : rA.fnd k n Rs.zero xs = F
  have HF := hidIt hF
  clear hF
  go_enter Tryz.func65, Tryz.ntmps65
  go_wp2_with fail
  rw [← hw0]
  clear hw0
  go_loopg [8, 9] xs.length (fun gk c p wr => ∃ (t : Tr It) (q : Option Addr) (d : List It), t.list.length ≤ gk ∧ c = .int .i64 d.length ∧ p = .pointer q ∧ Tin wr t q ∧ Hid (F = d.length + rA.fnd k n (rA.su d) t.list ∧ rA.key (rA.su d) k < n ∧ wt (d ++ t.list) ≤ 4611686018427387904) ∧ Blk 119 wr (w.heap.size + 1) (rA.su d) ∧ Below w.heap.size w wr)
  case atStart => exact ⟨tr, u, [], by rw [HL.out]; exact Nat.le_refl _, rfl, rfl, HT.out, ⟨by rw [HL.out, ← HF.out, Alg.su_nil]; simp; rfl, by rw [Alg.su_nil, rA.keyz]; omega, by rw [HL.out]; exact HW.out⟩, HA.out, HB0.out⟩
  case round =>
    obtain ⟨t, q, d, hgk, rfl, rfl, htq, HI, hB, hb⟩ := hrel
    cases t using Tr.ind with
    | nil =>
      simp only [Tin] at htq
      subst htq
      have HN : Hid (F = d.length + 1) := by
        obtain ⟨a1, a2, _⟩ := HI.out
        rw [Tr.list, Alg.fnd, if_neg (by omega)] at a1
        exact a1
      have hdl : d.length ≤ 4611686018427387904 := by
        have := HI.out.2.2
        have := wt_len d
        rw [wt_app] at *
        omega
      generalize d.length = dl at *
      go_wp2_with fail
      go_ret
      exact ⟨by rw [HN.out]; rfl, hb⟩
    | node l x r =>
      obtain ⟨g, lu, ru, rfl, hgl, h2, h3, c0, c1, c2, c3⟩ := htq.lt
      have HGK : Hid (l.list.length < gk ∧ r.list.length < gk) := by rw [Tr.list] at hgk; simp only [List.length_append, List.length_cons] at hgk; unfold Hid; omega
      clear hgk
      obtain ⟨i1, i2, i3⟩ := HI.out
      rw [Tr.list] at i1 i3
      have ew := i3
      simp only [wt_app, wt_cons] at ew
      have b1 := wt_len d
      have b2 := wt_len l.list
      have HSZ : Hid (∀ w', Below wr.heap.size wr w' → szAt w' (.pointer (some ⟨g, 0, none⟩)) = l.list.length + 1 + r.list.length ∧ szAt w' (.pointer lu) = l.list.length ∧ szAt w' (.pointer ru) = r.list.length ∧ Tin w' l lu ∧ Tin w' r ru ∧ ((w'.cell? ⟨g, 0, none⟩ = some (.slice x.p x.n x.c) ∧ w'.cell? ⟨g, 1, none⟩ = some (.int .i64 x.pl) ∧ w'.cell? ⟨g, 2, none⟩ = some (.int .i64 x.sp.a) ∧ w'.cell? ⟨g, 3, none⟩ = some (.int .i64 x.sp.s) ∧ w'.cell? ⟨g, 4, none⟩ = some (.int .i64 x.sp.b) ∧ w'.cell? ⟨g, 5, none⟩ = some (.bool x.sp.lf) ∧ w'.cell? ⟨g, 6, none⟩ = some (.bool x.sp.cr)) ∧ True ∧ w'.cell? ⟨g, 7, none⟩ = some (.pointer lu) ∧ w'.cell? ⟨g, 8, none⟩ = some (.pointer ru)) ∧ Blk 119 w' (w.heap.size + 1) (rA.su d)) := fun w' hb' =>
        ⟨by rw [szAt_tin (htq.ext hb'), Tr.list]; simp only [List.length_append, List.length_cons]; omega, szAt_tin (h2.ext hb'), szAt_tin (h3.ext hb'), h2.ext hb', h3.ext hb', ⟨(by first | trivial | exact C7.ext hb' hgl c0 | exact C5.ext hb' hgl c0 | exact (hb'.cell (p := ⟨g, 0, none⟩) hgl).trans c0 | exact (hb'.cell (p := ⟨g, 0, none⟩) hgl).trans c0), (by first | trivial | exact C7.ext hb' hgl c1 | exact C5.ext hb' hgl c1 | exact (hb'.cell (p := ⟨g, 1, none⟩) hgl).trans c1 | exact (hb'.cell (p := ⟨g, 1, none⟩) hgl).trans c1), (by first | trivial | exact C7.ext hb' hgl c2 | exact C5.ext hb' hgl c2 | exact (hb'.cell (p := ⟨g, 7, none⟩) hgl).trans c2 | exact (hb'.cell (p := ⟨g, 2, none⟩) hgl).trans c2), (by first | trivial | exact C7.ext hb' hgl c3 | exact C5.ext hb' hgl c3 | exact (hb'.cell (p := ⟨g, 8, none⟩) hgl).trans c3 | exact (hb'.cell (p := ⟨g, 3, none⟩) hgl).trans c3)⟩, hB.ext hb'⟩
      have TL : Hid (∀ w', Below wr.heap.size wr w' → Calls Tryz.prog 96 #[.pointer lu] w' fun e w'' => ∃ s, Hid (s = rA.su l.list) ∧ e = .returned (.agg #[.int .i64 s.a, .int .i64 s.s, .int .i64 s.b, .bool s.lf, .bool s.cr]) ∧ Below w'.heap.size w' w'') := fun w' hb' => total_any l lu w' (h2.ext hb')
      have CL : Hid (∀ w', Below wr.heap.size wr w' → Calls Tryz.prog 102 #[.pointer lu] w' fun e w'' => e = .returned (.int .i64 l.list.length) ∧ w'' = w') := fun w' hb' => count_any l lu w' (h2.ext hb')
      have A1 : Hid (∀ s w', Hid (s = rA.su l.list) → Calls Tryz.prog 69 #[.agg #[.int .i64 (rA.su d).a, .int .i64 (rA.su d).s, .int .i64 (rA.su d).b, .bool (rA.su d).lf, .bool (rA.su d).cr], .agg #[.int .i64 s.a, .int .i64 s.s, .int .i64 s.b, .bool s.lf, .bool s.cr]] w' fun e w'' => ∃ q, Hid (q = rA.su (d ++ l.list)) ∧ e = .returned (.agg #[.int .i64 q.a, .int .i64 q.s, .int .i64 q.b, .bool q.lf, .bool q.cr]) ∧ Below w'.heap.size w' w'') := fun s w' hs => add_su d l.list _ s w' rfl hs (by rw [wt_app]; omega)
      have MM : Hid (∀ w', Below wr.heap.size wr w' → Calls Tryz.prog 171 #[.agg #[.slice x.p x.n x.c, .int .i64 x.pl, .int .i64 x.sp.a, .int .i64 x.sp.s, .int .i64 x.sp.b, .bool x.sp.lf, .bool x.sp.cr]] w' fun e w'' => ∃ s, Hid (s = rA.su [x]) ∧ e = .returned (.agg #[.int .i64 s.a, .int .i64 s.s, .int .i64 s.b, .bool s.lf, .bool s.cr]) ∧ Below w'.heap.size w' w'') := fun w' _ => (Measure_any x w').mono fun _ _ ⟨s, k1, k2, k3⟩ => ⟨s, k1.out.trans (su_one x).symm, k2, k3⟩
      have A2 : Hid (∀ q s w', Hid (q = rA.su (d ++ l.list)) → Hid (s = rA.su [x]) → Below wr.heap.size wr w' → Calls Tryz.prog 69 #[.agg #[.int .i64 q.a, .int .i64 q.s, .int .i64 q.b, .bool q.lf, .bool q.cr], .agg #[.int .i64 s.a, .int .i64 s.s, .int .i64 s.b, .bool s.lf, .bool s.cr]] w' fun e w'' => ∃ q, Hid (q = rA.su (d ++ l.list ++ [x])) ∧ e = .returned (.agg #[.int .i64 q.a, .int .i64 q.s, .int .i64 q.b, .bool q.lf, .bool q.cr]) ∧ Below w'.heap.size w' w'') := fun q s w' hq hs _ => add_su (d ++ l.list) [x] q s w' hq hs (by simp only [wt_app, wt_cons, wt_nil]; omega)
      have e1 : rA.add (rA.su d) (rA.su l.list) = rA.su (d ++ l.list) := (rA.su_app _ _).symm
      have e2 : rA.add (rA.su (d ++ l.list)) (rA.meas x) = rA.su (d ++ l.list ++ [x]) := (rA.su_snoc _ _).symm
      have GO1 : Hid (n ≤ rA.key (rA.su (d ++ l.list)) k → F = d.length + rA.fnd k n (rA.su d) l.list ∧ rA.key (rA.su d) k < n ∧ wt (d ++ l.list) ≤ 4611686018427387904) := fun hk => ⟨by rw [i1, rA.fnd_left k n (x :: r.list) l.list _ (rA.ok d) (by rw [e1]; exact hk)], i2, by rw [wt_app]; omega⟩
      have GO2 : Hid (rA.key (rA.su (d ++ l.list)) k < n → n ≤ rA.key (rA.su (d ++ l.list ++ [x])) k → F = d.length + (l.list.length + 1)) := fun hk hk2 => by
        rw [i1, rA.fnd_right k n (x :: r.list) l.list _ (rA.ok d) (by rw [e1]; exact hk), e1, Alg.fnd, if_neg (by omega), e2, rA.fnd_here _ _ _ _ hk2]
      have GO3 : Hid (rA.key (rA.su (d ++ l.list)) k < n → rA.key (rA.su (d ++ l.list ++ [x])) k < n → F = (d ++ l.list ++ [x]).length + rA.fnd k n (rA.su (d ++ l.list ++ [x])) r.list ∧ rA.key (rA.su (d ++ l.list ++ [x])) k < n ∧ wt ((d ++ l.list ++ [x]) ++ r.list) ≤ 4611686018427387904) := fun hk hk2 => by
        refine ⟨?_, hk2, by simpa using i3⟩
        rw [i1, rA.fnd_right k n (x :: r.list) l.list _ (rA.ok d) (by rw [e1]; exact hk), e1, Alg.fnd, if_neg (by omega), e2]
        simp only [List.length_append, List.length_cons, List.length_nil]
        omega
      have HB := hidIt hb
      have d1 : ((l.list.length + 1 : Nat) : Int) ≤ 4611686018427387904 := by omega
      have d2 : ((d.length + (l.list.length + 1) : Nat) : Int) ≤ 4611686018427387904 := by omega
      have HLN : Hid (d.length + (l.list.length + 1) = (d ++ l.list ++ [x]).length) := by unfold Hid; simp only [List.length_append, List.length_cons, List.length_nil]; omega
      have hszw := hB.lt
      obtain ⟨z0, z1, z2, z3, zf⟩ := hB.cells
      have hn2 : ¬ g = w.heap.size + 1 := by
        intro e
        obtain ⟨g', lv', rv', e1, hg', _⟩ := htq
        obtain rfl : g = g' := by simpa using e1
        unfold Blk at hB
        rw [e, hB] at hg'
        simp at hg'
      clear htq h2 h3 e1 e2 i1 i2 i3 ew b1 b2 hB hb
      generalize hX1 : rA.su d = sd at *
      generalize rA.su (d ++ l.list) = s1 at *
      generalize hX2 : rA.su (d ++ l.list ++ [x]) = s2 at *
      generalize rA.su l.list = sl at *
      generalize rA.su [x] = sx at *
      generalize hX3 : l.list.length = nl at *
      generalize hX4 : d.length = dl at *
      have ESD := hidIt hX1
      have ES2 := hidIt hX2
      have ENL := hidIt hX3
      have EDL := hidIt hX4
      clear hX1 hX2 hX3 hX4
      have HCC : Hid (∀ w', Below wr.heap.size wr w' → w'.cell? ⟨g, 7, none⟩ = some (.pointer lu) ∧ (w'.cell? ⟨w.heap.size + 1, 0, none⟩ = some (.int .i64 sd.a) ∧ w'.cell? ⟨w.heap.size + 1, 1, none⟩ = some (.int .i64 sd.s) ∧ w'.cell? ⟨w.heap.size + 1, 2, none⟩ = some (.int .i64 sd.b) ∧ w'.cell? ⟨w.heap.size + 1, 3, none⟩ = some (.bool sd.lf) ∧ w'.cell? ⟨w.heap.size + 1, 4, none⟩ = some (.bool sd.cr)) ∧ True ∧ True ∧ True) := fun w' h => by
        obtain ⟨_, _, _, _, _, ⟨k0, k1, k2, k3⟩, hk⟩ := HSZ.out w' h
        obtain ⟨y0, y1, y2, y3, _⟩ := hk.cells
        exact ⟨k2, y0, y1, y2, y3⟩
      go_upto_region 7 with fail
      go_cut [10] from 15 to 62 (fun p wF => ∃ tb : Nat, p = .pointer (some ⟨tb, 0, none⟩) ∧ Hid (∃ q, q = s1 ∧ Blk 119 wF tb q ∧ Below wr.heap.size wr wF ∧ wr.heap.size ≤ tb))
      case first =>
        clear c0 c1 c3 zf
        go_region_held3 (fun w' => w'.cell? ⟨g, 7, none⟩ = some (.pointer lu) ∧ (w'.cell? ⟨w.heap.size + 1, 0, none⟩ = some (.int .i64 sd.a) ∧ w'.cell? ⟨w.heap.size + 1, 1, none⟩ = some (.int .i64 sd.s) ∧ w'.cell? ⟨w.heap.size + 1, 2, none⟩ = some (.int .i64 sd.b) ∧ w'.cell? ⟨w.heap.size + 1, 3, none⟩ = some (.bool sd.lf) ∧ w'.cell? ⟨w.heap.size + 1, 4, none⟩ = some (.bool sd.cr)) ∧ True ∧ True ∧ True) (first | exact HCC.out _ (by repeat (first | exact HB2.out | exact HB1.out | exact Below.refl _ _ | apply Below.drew | refine ext_alloc ?_ _ | refine Below.setCell ?_ (by first | exact Nat.le_refl _ | exact HB1.out.size) _)) | go_keep) (first
          | (go_at_call 96; refine (TL.out _ (by repeat (first | exact HB2.out | exact HB1.out | exact Below.refl _ _ | apply Below.drew | refine ext_alloc ?_ _ | refine Below.setCell ?_ (by first | exact Nat.le_refl _ | exact HB1.out.size) _))).mono ?_; clear c2 z0 z1 z2 z3; rintro e w1 ⟨q1, HL1, rfl, hb1⟩; have HW1 := hidIt hb1; (first | (have hzC : wr.heap.size < w1.heap.size := (by have := hb1.size; simp at this; omega); have HT := hidIt ((Blk.new_drew' 119 wr Rs.zero).ext HW1.out); obtain ⟨t0, t1, t2, t3, tf⟩ := HT.out.cells) | skip); have HB1 : Hid (Below wr.heap.size wr w1) := ext_trans (by repeat (first | exact HB2.out | exact HB1.out | exact Below.refl _ _ | apply Below.drew | refine ext_alloc ?_ _ | refine Below.setCell ?_ (by first | exact Nat.le_refl _ | exact HB1.out.size) _)) hb1; obtain ⟨c2, z0, z1, z2, z3⟩ := HCC.out w1 HB1.out; clear hb1)
          | (go_at_call 69; refine (A1.out _ _ HL1).mono ?_; clear c2 z0 z1 z2 z3; rintro e w2 ⟨q2, HQ2, rfl, hb2⟩; have HW2 := hidIt hb2; (first | (have HT2 := hidIt (HT.out.ext HW2.out); clear t0 t1 t2 t3 tf; obtain ⟨t0, t1, t2, t3, tf⟩ := HT2.out.cells) | (have hzB : w1.heap.size < w2.heap.size := (by have := hb2.size; simp at this; omega); have HT2 := hidIt ((Blk.new 119 w1 Rs.zero).ext HW2.out); obtain ⟨t0, t1, t2, t3, tf⟩ := HT2.out.cells) | skip); have HB2 : Hid (Below wr.heap.size wr w2) := ext_trans (by repeat (first | exact HB2.out | exact HB1.out | exact Below.refl _ _ | apply Below.drew | refine ext_alloc ?_ _ | refine Below.setCell ?_ (by first | exact Nat.le_refl _ | exact HB1.out.size) _)) hb2; obtain ⟨c2, z0, z1, z2, z3⟩ := HCC.out w2 HB2.out; clear hb2))
        all_goals
          go_wp2_with fail
          go_meet
          case rel =>
            first
              | (obtain ⟨p1, p2⟩ := HT2.out.put q2; exact ⟨_, rfl, q2, HQ2.out, p1, below_put HB2.out HB2.out.size p2 (by first | exact Nat.le_refl _ | exact HB1.out.size), by first | exact Nat.le_refl _ | exact HB1.out.size⟩)
              | exact ⟨_, rfl, q2, HQ2.out, Blk.new _ w2 _, ext_alloc HB2.out _, HB2.out.size⟩
      obtain ⟨tb, rfl, HQ⟩ := hcut
      obtain ⟨qa, hqa, hBA, hbA, htb⟩ := HQ.out
      clear c0 c1 c2 c3 z0 z1 z2 z3 zf
      subst hqa
      generalize hWA : wc = WA at *
      clear hWA HQ HCC TL A1
      have HBA := hidIt hbA
      have HTA := hidIt hBA
      obtain ⟨a0, a1, a2, a3, _⟩ := hBA.cells
      obtain ⟨v1, v2, v3, TLL, TRR, ⟨c0, c1, c2, c3⟩, hBS⟩ := HSZ.out WA hbA
      have HTL := hidIt TLL
      have HTR := hidIt TRR
      have HBS := hidIt hBS
      have hszA := hBA.lt
      clear hbA hBA TLL TRR hBS
      have KK : Hid (∀ (s : Rs) w', Calls Tryz.prog 170 #[.agg #[.int .i64 s.a, .int .i64 s.s, .int .i64 s.b, .bool s.lf, .bool s.cr], .int .i64 k] w' fun e w'' => e = .returned (.int .i64 (rA.key s k)) ∧ Below w'.heap.size w' w'') := fun s w' => Key_any s k w'
      clear v1 v2 v3
      by_cases hk1 : n ≤ rA.key qa k
      · have HG := hidIt (GO1.out hk1)
        have KA : Hid (∀ w', Calls Tryz.prog 170 #[.agg #[.int .i64 qa.a, .int .i64 qa.s, .int .i64 qa.b, .bool qa.lf, .bool qa.cr], .int .i64 k] w' fun e w'' => e = .returned (.int .i64 (rA.key qa k)) ∧ Below w'.heap.size w' w'') := fun w' => KK.out qa w'
        clear GO1 GO2 GO3 KK
        generalize rA.key qa k = ka at *
        go_wp2_with (go_at_call 170; refine (KA.out _).mono ?_; clear c0 c1 c2 c3 a0 a1 a2 a3; rintro e w1 ⟨rfl, hb1⟩; have HB1 := hidIt (ext_trans HBA.out hb1); obtain ⟨_, _, _, _, _, ⟨c0, c1, c2, c3⟩, _⟩ := HSZ.out w1 HB1.out; clear hb1)
        go_roundg l.list.length
        case measure => rw [ENL.out]; exact HGK.out.1
        case rel =>
          obtain ⟨_, _, _, TLL, _, _, hBS⟩ := HSZ.out w1 HB1.out
          exact ⟨l, lu, d, Nat.le_refl _, by rw [EDL.out], rfl, TLL, by have := HG.out; rw [← EDL.out, ← ESD.out] at this; exact this, by rw [ESD.out]; exact hBS, HB.out.trans (HB1.out.mono (by omega))⟩
      · have hk1' : rA.key qa k < n := Int.not_le.1 hk1
        have KA : Hid (∀ w', Calls Tryz.prog 170 #[.agg #[.int .i64 qa.a, .int .i64 qa.s, .int .i64 qa.b, .bool qa.lf, .bool qa.cr], .int .i64 k] w' fun e w'' => e = .returned (.int .i64 (rA.key qa k)) ∧ Below w'.heap.size w' w'') := fun w' => KK.out qa w'
        have KB : Hid (∀ w', Calls Tryz.prog 170 #[.agg #[.int .i64 s2.a, .int .i64 s2.s, .int .i64 s2.b, .bool s2.lf, .bool s2.cr], .int .i64 k] w' fun e w'' => e = .returned (.int .i64 (rA.key s2 k)) ∧ Below w'.heap.size w' w'') := fun w' => KK.out s2 w'
        have GA := hidIt (GO2.out hk1')
        have GB := hidIt (GO3.out hk1')
        clear GO1 GO2 GO3 KK
        generalize rA.key qa k = ka at *
        generalize hKB : rA.key s2 k = kb at *
        have EKB := hidIt hKB
        clear hKB
        have hn1 : ¬ tb = w.heap.size + 1 := by omega
        have hkd : decide (n ≤ ka) = false := by simp; omega
        have HN1 := hidIt hn1
        have HN2 := hidIt hn2
        clear hn1 hn2
        go_wp2_with fail
        refine (KA.out _).mono ?_
        rintro e w1 ⟨rfl, hb1⟩
        have HK1 := hidIt hb1
        clear hb1 c0 c1 c2 c3 a0 a1 a2 a3
        go_wp2_with fail
        have HB1 := hidIt (ext_trans HBA.out HK1.out)
        have H10 : Hid (∀ w', Below w1.heap.size w1 w' → ((w'.cell? ⟨tb, 0, none⟩ = some (.int .i64 qa.a) ∧ w'.cell? ⟨tb, 1, none⟩ = some (.int .i64 qa.s) ∧ w'.cell? ⟨tb, 2, none⟩ = some (.int .i64 qa.b) ∧ w'.cell? ⟨tb, 3, none⟩ = some (.bool qa.lf) ∧ w'.cell? ⟨tb, 4, none⟩ = some (.bool qa.cr)) ∧ True ∧ True ∧ True ∧ (w'.cell? ⟨g, 0, none⟩ = some (.slice x.p x.n x.c) ∧ w'.cell? ⟨g, 1, none⟩ = some (.int .i64 x.pl) ∧ w'.cell? ⟨g, 2, none⟩ = some (.int .i64 x.sp.a) ∧ w'.cell? ⟨g, 3, none⟩ = some (.int .i64 x.sp.s) ∧ w'.cell? ⟨g, 4, none⟩ = some (.int .i64 x.sp.b) ∧ w'.cell? ⟨g, 5, none⟩ = some (.bool x.sp.lf) ∧ w'.cell? ⟨g, 6, none⟩ = some (.bool x.sp.cr)) ∧ True) ∧ Blk 119 w' (w.heap.size + 1) sd) := fun w' h => by
          obtain ⟨_, _, _, _, _, ⟨k0, k1, _, _⟩, hk⟩ := HSZ.out w' (ext_trans HB1.out h)
          obtain ⟨y0, y1, y2, y3, _⟩ := ((HTA.out.ext HK1.out).ext h).cells
          exact ⟨⟨y0, y1, y2, y3, k0, k1⟩, hk⟩
        obtain ⟨⟨a0, a1, a2, a3, c0, c1⟩, hZ⟩ := H10.out w1 (Below.refl _ _)
        obtain ⟨z0, z1, z2, z3, zf⟩ := hZ.cells
        go_region_held3 (fun w' => (w'.cell? ⟨tb, 0, none⟩ = some (.int .i64 qa.a) ∧ w'.cell? ⟨tb, 1, none⟩ = some (.int .i64 qa.s) ∧ w'.cell? ⟨tb, 2, none⟩ = some (.int .i64 qa.b) ∧ w'.cell? ⟨tb, 3, none⟩ = some (.bool qa.lf) ∧ w'.cell? ⟨tb, 4, none⟩ = some (.bool qa.cr)) ∧ True ∧ True ∧ True ∧ (w'.cell? ⟨g, 0, none⟩ = some (.slice x.p x.n x.c) ∧ w'.cell? ⟨g, 1, none⟩ = some (.int .i64 x.pl) ∧ w'.cell? ⟨g, 2, none⟩ = some (.int .i64 x.sp.a) ∧ w'.cell? ⟨g, 3, none⟩ = some (.int .i64 x.sp.s) ∧ w'.cell? ⟨g, 4, none⟩ = some (.int .i64 x.sp.b) ∧ w'.cell? ⟨g, 5, none⟩ = some (.bool x.sp.lf) ∧ w'.cell? ⟨g, 6, none⟩ = some (.bool x.sp.cr)) ∧ True) (first | (simp only [cell_set_other HN1.out, cell_set_other HN2.out]; exact ⟨a0, a1, a2, a3, c0, c1⟩) | exact ⟨a0, a1, a2, a3, c0, c1⟩ | exact (H10.out _ (by repeat (first | exact HD3.out | exact HD2.out | exact Below.refl _ _ | apply Below.drew))).1) (first
          | (go_at_call 171; refine (MM.out _ (by repeat (first | exact HB1.out | apply Below.drew))).mono ?_; clear a0 a1 a2 a3 c0 c1 z0 z1 z2 z3 zf hZ; rintro e w2 ⟨q3, HM3, rfl, hb2⟩; have HD2 := hidIt (ext_trans (by repeat (first | exact Below.refl _ _ | apply Below.drew)) hb2 : Below w1.heap.size w1 w2); obtain ⟨⟨a0, a1, a2, a3, c0, c1⟩, hZ⟩ := H10.out w2 HD2.out; obtain ⟨z0, z1, z2, z3, zf⟩ := hZ.cells; clear hb2)
          | (go_at_call 69; refine (A2.out _ _ _ (show Hid (qa = qa) from rfl) HM3 (ext_trans HB1.out (by repeat (first | exact HD2.out | apply Below.drew)))).mono ?_; clear a0 a1 a2 a3 c0 c1 z0 z1 z2 z3 zf hZ; rintro e w3 ⟨q4, HQ4, rfl, hb3⟩; have HD3 := hidIt (ext_trans HD2.out (ext_trans (by repeat (first | exact Below.refl _ _ | apply Below.drew)) hb3) : Below w1.heap.size w1 w3); obtain ⟨⟨a0, a1, a2, a3, c0, c1⟩, hZ⟩ := H10.out w3 HD3.out; obtain ⟨z0, z1, z2, z3, zf⟩ := hZ.cells; clear hb3))
        have E4 := HQ4.out
        subst E4
        obtain ⟨p1, p2⟩ := hZ.put q4
        have HZZ := hidIt hZ
        have HP1 := hidIt p1
        have HP2 := hidIt p2
        obtain ⟨_, _, _, TL3, TR3, ⟨_, _, _, g3⟩, _⟩ := HSZ.out w3 (ext_trans HB1.out HD3.out)
        obtain ⟨_, _, _, _, _, ⟨_, _, g2, _⟩, _⟩ := HSZ.out w3 (ext_trans HB1.out HD3.out)
        have TLF := hidIt (TL3.put hZ (by decide) p2)
        have TRF := hidIt (TR3.put hZ (by decide) p2)
        have FB := hidIt (below_put (HB.out.trans ((ext_trans HB1.out HD3.out).mono (by omega))) (by have := HB1.out.size; have := HD3.out.size; omega) p2 (by omega))
        obtain ⟨y0, y1, y2, y3, _⟩ := p1.cells
        have k2 : ((((((w3.setCell ⟨w.heap.size + 1, 0, none⟩ (.int .i64 q4.a)).setCell ⟨w.heap.size + 1, 1, none⟩ (.int .i64 q4.s)).setCell ⟨w.heap.size + 1, 2, none⟩ (.int .i64 q4.b)).setCell ⟨w.heap.size + 1, 3, none⟩ (.bool q4.lf)).setCell ⟨w.heap.size + 1, 4, none⟩ (.bool q4.cr))).cell? ⟨g, 7, none⟩ = some (.pointer lu) := by simp only [cell_set_other HN2.out]; exact g2
        have k3 : ((((((w3.setCell ⟨w.heap.size + 1, 0, none⟩ (.int .i64 q4.a)).setCell ⟨w.heap.size + 1, 1, none⟩ (.int .i64 q4.s)).setCell ⟨w.heap.size + 1, 2, none⟩ (.int .i64 q4.b)).setCell ⟨w.heap.size + 1, 3, none⟩ (.bool q4.lf)).setCell ⟨w.heap.size + 1, 4, none⟩ (.bool q4.cr))).cell? ⟨g, 8, none⟩ = some (.pointer ru) := by simp only [cell_set_other HN2.out]; exact g3
        clear TL3 TR3 g2 g3 hZ p1 p2 z0 z1 z2 z3 zf a0 a1 a2 a3 c0 c1
        generalize hWB : (((((w3.setCell ⟨w.heap.size + 1, 0, none⟩ (.int .i64 q4.a)).setCell ⟨w.heap.size + 1, 1, none⟩ (.int .i64 q4.s)).setCell ⟨w.heap.size + 1, 2, none⟩ (.int .i64 q4.b)).setCell ⟨w.heap.size + 1, 3, none⟩ (.bool q4.lf)).setCell ⟨w.heap.size + 1, 4, none⟩ (.bool q4.cr)) = WB at *
        clear hWB
        have CB : Hid (Calls Tryz.prog 102 #[.pointer lu] WB fun e w'' => e = .returned (.int .i64 nl) ∧ w'' = WB) := by have := count_any l lu WB TLF.out; rw [ENL.out] at this; exact this
        have PE : Hid (∀ w', Below WB.heap.size WB w' → Tin w' r ru ∧ Blk 119 w' (w.heap.size + 1) q4 ∧ Below w.heap.size w w' ∧ w'.cell? ⟨g, 8, none⟩ = some (.pointer ru)) := fun w' h => ⟨TRF.out.ext h, HP1.out.ext h, FB.out.trans (h.mono FB.out.size), (h.cell (p := ⟨g, 8, none⟩) (World.block_lt_of_cell? WB _ k3)).trans k3⟩
        by_cases hk2 : n ≤ kb
        · have GE := hidIt (GA.out hk2)
          go_wp2_with fail
          refine CB.out.mono ?_
          rintro e w' ⟨rfl, rfl⟩
          go_wp2_with fail
          refine (KB.out _).mono ?_
          rintro e w5 ⟨rfl, hb5⟩
          have H5 := hidIt hb5
          clear hb5
          go_wp2_with fail
          go_ret
          exact ⟨ret_int (by have := GE.out; omega), (PE.out _ H5.out).2.2.1⟩
        · have hk2' : kb < n := by omega
          have GE := hidIt (GB.out hk2')
          have hkd2 : decide (n ≤ kb) = false := by simp; omega
          go_wp2_with fail
          refine CB.out.mono ?_
          rintro e w' ⟨rfl, rfl⟩
          go_wp2_with fail
          refine (KB.out _).mono ?_
          rintro e w5 ⟨rfl, hb5⟩
          have H5 := hidIt hb5
          obtain ⟨_, _, _, k5⟩ := PE.out w5 hb5
          clear hb5 k2 k3
          go_wp2_with fail
          go_roundg r.list.length
          case measure => exact HGK.out.2
          case rel =>
            obtain ⟨t5, b5, f5, _⟩ := PE.out w5 H5.out
            exact ⟨r, ru, d ++ l.list ++ [x], Nat.le_refl _, by have := HLN.out; rw [← this]; go_num, rfl, t5, by have := GE.out; rw [← EKB.out, ← ES2.out] at this; exact this, by rw [ES2.out]; exact b5, f5⟩
end Go.Proofs.YtbmelpjmpomfcaaGreat.P

namespace Go.Proofs.YtbmelpjmpomfcaaGreat.P
open Go.RowKit

set_option maxRecDepth 100000 in
set_option maxHeartbeats 4000000 in
theorem Upto_any (u : Option Addr) (xs : List It) (i : Int) (w : World) (h : TT w (.agg #[.pointer u]) xs) (hw : wt xs ≤ 4611686018427387904) (hi : i ≤ 9223372036854775807) :
    Calls Tryz.prog 67 #[.agg #[.pointer u], .int .i64 i] w fun e w' => ∃ s, Hid (s = rA.su (xs.take i.toNat)) ∧ e = .returned (.agg #[.int .i64 s.a, .int .i64 s.s, .int .i64 s.b, .bool s.lf, .bool s.cr]) ∧ Below w.heap.size w w' := by
  obtain ⟨u', tr, hu, ht, hl, _⟩ := h
  obtain rfl : u = u' := by simpa using hu
  obtain ⟨w0, hw0⟩ : ∃ w0, w0 = ((w.alloc (.cells #[.pointer u] 114)).alloc (.cells #[.int .i64 0, .int .i64 0, .int .i64 0, .bool false, .bool false] 119)).alloc (.cells #[.int .i64 0, .int .i64 0, .int .i64 0, .bool false, .bool false] 119) := ⟨_, rfl⟩
  have hb0 : Below w.heap.size w w0 := by rw [hw0]; exact ext_alloc (ext_alloc (ext_alloc (Below.refl _ _) _) _) _
  have hA : Blk 119 w0 (w.heap.size + 1) Rs.zero := by
    have := Blk.new 119 (w.alloc (.cells #[.pointer u] 114)) Rs.zero
    rw [World.size_alloc] at this
    rw [hw0]; exact this.ext (ext_alloc (Below.refl _ _) _)
  have hB : Blk 119 w0 (w.heap.size + 2) Rs.zero := by
    have := Blk.new 119 ((w.alloc (.cells #[.pointer u] 114)).alloc (.cells #[.int .i64 0, .int .i64 0, .int .i64 0, .bool false, .bool false] 119)) Rs.zero
    rw [World.size_alloc, World.size_alloc] at this
    rw [hw0]; exact this
  have HT := hidIt (ht.ext hb0)
  have HL := hidIt hl
  have HB0 := hidIt hb0
  have HA := hidIt hA
  have HBB := hidIt hB
  have HW := hidIt hw
  clear ht hl hb0 hu hw hA hB
  have hmt1 := m_meas
  have hmt2 := m_add
  have hnt1 := n_meas
  have hnt2 := n_add
  go_enter Tryz.func67, Tryz.ntmps67
  go_wp2_with fail
  rw [← hw0]
  clear hw0
  go_loopg [1, 6] xs.length (fun gk c p wr => ∃ (t : Tr It) (q : Option Addr) (d : List It) (j : Int), t.list.length ≤ gk ∧ c = .int .i64 j ∧ p = .pointer q ∧ Tin wr t q ∧ Hid (xs.take i.toNat = d ++ t.list.take j.toNat ∧ wt (d ++ t.list) ≤ 4611686018427387904 ∧ j ≤ 9223372036854775807) ∧ Blk 119 wr (w.heap.size + 2) (rA.su d) ∧ Blk 119 wr (w.heap.size + 1) Rs.zero ∧ Below w.heap.size w wr)
  case atStart => exact ⟨tr, u, [], i, by rw [HL.out]; exact Nat.le_refl _, rfl, rfl, HT.out, ⟨by rw [HL.out]; rfl, by rw [HL.out]; exact HW.out, hi⟩, HBB.out, HA.out, HB0.out⟩
  case round =>
    obtain ⟨t, q, d, j, hgk, rfl, rfl, htq, HI, hB, hA, hb⟩ := hrel
    have hszB := hB.lt
    cases t using Tr.ind with
    | nil =>
      simp only [Tin] at htq
      subst htq
      obtain ⟨b0, b1, b2, b3, _⟩ := hB.cells
      obtain ⟨a0, a1, a2, a3, af⟩ := hA.cells
      have HE : Hid (rA.su d = rA.su (xs.take i.toNat)) := by rw [HI.out.1]; simp [Tr.list, Hid]
      obtain ⟨p1, p2⟩ := hA.put (rA.su d)
      have HP := hidIt (below_put hb (by omega) p2 (by omega))
      clear p1 p2
      generalize rA.su d = sd at *
      go_wp2_with fail
      exact bodyPost_ret (v := .agg #[.int .i64 sd.a, .int .i64 sd.s, .int .i64 sd.b, .bool sd.lf, .bool sd.cr]) (by simp [results, Tryz.results67, go_sem, a0]) rfl ⟨sd, HE, rfl, HP.out⟩
    | node l x r =>
      obtain ⟨g, lu, ru, rfl, hgl, h2, h3, c0, c1, c2, c3⟩ := htq.lt
      have HGK : Hid (l.list.length < gk ∧ r.list.length < gk) := by rw [Tr.list] at hgk; simp only [List.length_append, List.length_cons] at hgk; unfold Hid; omega
      clear hgk
      obtain ⟨i1, i2, i3⟩ := HI.out
      rw [Tr.list] at i1 i2
      have ew := i2
      simp only [wt_app, wt_cons] at ew
      have b2 := wt_len l.list
      have hn2 : ¬ g = w.heap.size + 2 := by
        intro e
        obtain ⟨g', lv', rv', e1, hg', _⟩ := htq
        obtain rfl : g = g' := by simpa using e1
        unfold Blk at hB
        rw [e, hB] at hg'
        simp at hg'
      have CL : Hid (Calls Tryz.prog 102 #[.pointer lu] wr fun e w'' => e = .returned (.int .i64 l.list.length) ∧ w'' = wr) := count_any l lu wr h2
      by_cases hj : j ≤ (l.list.length : Int)
      · have HG : Hid (xs.take i.toNat = d ++ l.list.take j.toNat ∧ wt (d ++ l.list) ≤ 4611686018427387904 ∧ j ≤ 9223372036854775807) := ⟨by rw [i1, List.take_append_of_le_length (by omega)], by rw [wt_app]; omega, i3⟩
        have H2 := hidIt h2
        clear h2 h3 htq hn2
        generalize hX : l.list.length = nl at *
        have ENL := hidIt hX
        clear hX
        go_wp2_with fail
        refine CL.out.mono ?_
        rintro e w' ⟨rfl, rfl⟩
        go_wp2_with fail
        go_roundg l.list.length
        case measure => rw [ENL.out]; exact HGK.out.1
        case rel => exact ⟨l, lu, d, j, Nat.le_refl _, rfl, rfl, H2.out, HG.out, hB, hA, hb⟩
      · have hj' : (l.list.length : Int) < j := Int.not_le.1 hj
        have HG : Hid (xs.take i.toNat = (d ++ l.list ++ [x]) ++ r.list.take (j - (l.list.length + 1)).toNat ∧ wt ((d ++ l.list ++ [x]) ++ r.list) ≤ 4611686018427387904 ∧ j - (l.list.length + 1) ≤ 9223372036854775807) := ⟨by rw [i1, show j.toNat = l.list.length + ((j - (l.list.length + 1)).toNat + 1) by omega, List.take_length_add_append, List.take_succ_cons]; simp, by simpa using i2, by omega⟩
        have TL : Hid (∀ w', Below wr.heap.size wr w' → Calls Tryz.prog 96 #[.pointer lu] w' fun e w'' => ∃ s, Hid (s = rA.su l.list) ∧ e = .returned (.agg #[.int .i64 s.a, .int .i64 s.s, .int .i64 s.b, .bool s.lf, .bool s.cr]) ∧ Below w'.heap.size w' w'') := fun w' hb' => total_any l lu w' (h2.ext hb')
        have A1 : Hid (∀ s w', Hid (s = rA.su l.list) → Calls Tryz.prog 69 #[.agg #[.int .i64 (rA.su d).a, .int .i64 (rA.su d).s, .int .i64 (rA.su d).b, .bool (rA.su d).lf, .bool (rA.su d).cr], .agg #[.int .i64 s.a, .int .i64 s.s, .int .i64 s.b, .bool s.lf, .bool s.cr]] w' fun e w'' => ∃ q, Hid (q = rA.su (d ++ l.list)) ∧ e = .returned (.agg #[.int .i64 q.a, .int .i64 q.s, .int .i64 q.b, .bool q.lf, .bool q.cr]) ∧ Below w'.heap.size w' w'') := fun s w' hs => add_su d l.list _ s w' rfl hs (by rw [wt_app]; omega)
        have MM : Hid (∀ w', Calls Tryz.prog 171 #[.agg #[.slice x.p x.n x.c, .int .i64 x.pl, .int .i64 x.sp.a, .int .i64 x.sp.s, .int .i64 x.sp.b, .bool x.sp.lf, .bool x.sp.cr]] w' fun e w'' => ∃ s, Hid (s = rA.su [x]) ∧ e = .returned (.agg #[.int .i64 s.a, .int .i64 s.s, .int .i64 s.b, .bool s.lf, .bool s.cr]) ∧ Below w'.heap.size w' w'') := fun w' => (Measure_any x w').mono fun _ _ ⟨s, k1, k2, k3⟩ => ⟨s, k1.out.trans (su_one x).symm, k2, k3⟩
        have A2 : Hid (∀ q s w', Hid (q = rA.su (d ++ l.list)) → Hid (s = rA.su [x]) → Calls Tryz.prog 69 #[.agg #[.int .i64 q.a, .int .i64 q.s, .int .i64 q.b, .bool q.lf, .bool q.cr], .agg #[.int .i64 s.a, .int .i64 s.s, .int .i64 s.b, .bool s.lf, .bool s.cr]] w' fun e w'' => ∃ q, Hid (q = rA.su (d ++ l.list ++ [x])) ∧ e = .returned (.agg #[.int .i64 q.a, .int .i64 q.s, .int .i64 q.b, .bool q.lf, .bool q.cr]) ∧ Below w'.heap.size w' w'') := fun q s w' hq hs => add_su (d ++ l.list) [x] q s w' hq hs (by simp only [wt_app, wt_cons, wt_nil]; omega)
        have HCC : Hid (∀ w', Below wr.heap.size wr w' → ((w'.cell? ⟨g, 0, none⟩ = some (.slice x.p x.n x.c) ∧ w'.cell? ⟨g, 1, none⟩ = some (.int .i64 x.pl) ∧ w'.cell? ⟨g, 2, none⟩ = some (.int .i64 x.sp.a) ∧ w'.cell? ⟨g, 3, none⟩ = some (.int .i64 x.sp.s) ∧ w'.cell? ⟨g, 4, none⟩ = some (.int .i64 x.sp.b) ∧ w'.cell? ⟨g, 5, none⟩ = some (.bool x.sp.lf) ∧ w'.cell? ⟨g, 6, none⟩ = some (.bool x.sp.cr)) ∧ True ∧ w'.cell? ⟨g, 7, none⟩ = some (.pointer lu) ∧ w'.cell? ⟨g, 8, none⟩ = some (.pointer ru)) ∧ Blk 119 w' (w.heap.size + 2) (rA.su d) ∧ Blk 119 w' (w.heap.size + 1) Rs.zero ∧ Tin w' r ru) := fun w' hb' => ⟨⟨(by first | trivial | exact C7.ext hb' hgl c0 | exact C5.ext hb' hgl c0 | exact (hb'.cell (p := ⟨g, 0, none⟩) hgl).trans c0 | exact (hb'.cell (p := ⟨g, 0, none⟩) hgl).trans c0), (by first | trivial | exact C7.ext hb' hgl c1 | exact C5.ext hb' hgl c1 | exact (hb'.cell (p := ⟨g, 1, none⟩) hgl).trans c1 | exact (hb'.cell (p := ⟨g, 1, none⟩) hgl).trans c1), (by first | trivial | exact C7.ext hb' hgl c2 | exact C5.ext hb' hgl c2 | exact (hb'.cell (p := ⟨g, 7, none⟩) hgl).trans c2 | exact (hb'.cell (p := ⟨g, 2, none⟩) hgl).trans c2), (by first | trivial | exact C7.ext hb' hgl c3 | exact C5.ext hb' hgl c3 | exact (hb'.cell (p := ⟨g, 8, none⟩) hgl).trans c3 | exact (hb'.cell (p := ⟨g, 3, none⟩) hgl).trans c3)⟩, hB.ext hb', hA.ext hb', h3.ext hb'⟩
        have HB := hidIt hb
        have HN2 := hidIt hn2
        have hjb : j ≤ 9223372036854775807 := i3
        have hnb : (l.list.length : Int) ≤ 4611686018427387904 := by omega
        obtain ⟨z0, z1, z2, z3, zf⟩ := hB.cells
        clear h2 h3 htq hn2 i1 i2 i3 ew b2 hb hB hA
        generalize hX1 : rA.su d = sd at *
        generalize rA.su (d ++ l.list) = s1 at *
        generalize hX2 : rA.su (d ++ l.list ++ [x]) = s2 at *
        generalize rA.su l.list = sl at *
        generalize rA.su [x] = sx at *
        generalize l.list.length = nl at *
        have ES2 := hidIt hX2
        clear hX1 hX2
        go_wp2_with fail
        refine CL.out.mono ?_
        rintro e w' ⟨rfl, rfl⟩
        go_upto_region 7 with fail
        go_cut [] from 10 to 47 (fun wF => Hid (Blk 119 wF (w.heap.size + 2) s2 ∧ Blk 119 wF (w.heap.size + 1) Rs.zero ∧ Tin wF r ru ∧ Below w.heap.size w wF ∧ wF.cell? ⟨g, 8, none⟩ = some (.pointer ru)))
        case first =>
          refine wp_region_held_drew (S := fun w'' => (w''.cell? ⟨g, 0, none⟩ = some (.slice x.p x.n x.c) ∧ w''.cell? ⟨g, 1, none⟩ = some (.int .i64 x.pl) ∧ w''.cell? ⟨g, 2, none⟩ = some (.int .i64 x.sp.a) ∧ w''.cell? ⟨g, 3, none⟩ = some (.int .i64 x.sp.s) ∧ w''.cell? ⟨g, 4, none⟩ = some (.int .i64 x.sp.b) ∧ w''.cell? ⟨g, 5, none⟩ = some (.bool x.sp.lf) ∧ w''.cell? ⟨g, 6, none⟩ = some (.bool x.sp.cr)) ∧ True ∧ w''.cell? ⟨g, 7, none⟩ = some (.pointer lu)) (by kernel_rfl) (by first | exact ⟨c0, c1, c2⟩ | (dsimp only; go_keep)) (fun hHeld => ?_)
          refine tkH (v := ?_) 2 rfl ?_ ?_; rotate_left 1
          · intro wq hSw; (try dsimp only at hSw); go_simp; try (with_reducible rfl)
          try simp only [Act.put, sA4]
          refine tkH (v := ?_) 3 rfl ?_ ?_; rotate_left 1
          · intro wq hSw; (try dsimp only at hSw); go_simp; try (with_reducible rfl)
          try simp only [Act.put]
          refine tkH (v := ?_) 4 rfl ?_ ?_; rotate_left 1
          · intro wq hSw; (try dsimp only at hSw); go_simp; try (with_reducible rfl)
          try simp only [Act.put]
          refine tkH (v := ?_) 5 rfl ?_ ?_; rotate_left 1
          · intro wq hSw; (try dsimp only at hSw); go_simp; try (with_reducible rfl)
          try simp only [Act.put]
          refine tkH (v := ?_) 9 rfl ?_ ?_; rotate_left 1
          · intro wq hSw; (try dsimp only at hSw); go_simp; try (with_reducible rfl)
          try simp only [Act.put]
          refine tkH (v := ?_) 10 rfl ?_ ?_; rotate_left 1
          · intro wq hSw; (try dsimp only at hSw); go_simp; try (with_reducible rfl)
          try simp only [Act.put]
          refine tkH (v := ?_) 11 rfl ?_ ?_; rotate_left 1
          · intro wq hSw; (try dsimp only at hSw); go_simp; try (with_reducible rfl)
          try simp only [Act.put]
          refine tkH (v := ?_) 12 rfl ?_ ?_; rotate_left 1
          · intro wq hSw; (try dsimp only at hSw); go_simp; try (with_reducible rfl)
          try simp only [Act.put]
          refine tkH (v := ?_) 13 rfl ?_ ?_; rotate_left 1
          · intro wq hSw; (try dsimp only at hSw); go_simp; try (with_reducible rfl)
          try simp only [Act.put]
          refine wpAnyH_ready (rs := [0, 6]) (by kernel_rfl) (by simp) ?_
          refine AllReadyH.cons (o := _) rfl (fun K hK => ?_) ?_
          · go_simp
            refine hK.out _ _ (by first | exact ⟨c0, c1, c2⟩ | go_keep) (fun hHeld => ?_)
            clear hK K
            try simp only [Act.put, sA4, sA5, sA6]
            refine tkH (v := ?_) 1 rfl ?_ ?_; rotate_left 1
            · intro wq hSw; (try dsimp only at hSw); go_simp; try (with_reducible rfl)
            try simp only [Act.put, sA4]
            refine wpAnyH_ready (rs := [6]) (by kernel_rfl) (by simp) ?_
            refine AllReadyH.cons (o := _) rfl (fun K hK => ?_) AllReadyH.nil
            go_simp
            refine (TL.out _ (by repeat (first | exact HB4.out | exact HB3.out | exact HB2.out | exact HB1.out | exact Below.refl _ _ | apply Below.drew))).mono ?_; rintro e w1 ⟨q1, HL1, rfl, hbb⟩; have HB1 : Hid (Below w'.heap.size w' w1) := ext_trans (by repeat (first | exact HB4.out | exact HB3.out | exact HB2.out | exact HB1.out | exact Below.refl _ _ | apply Below.drew)) hbb; clear hbb c0 c1 c2 z0 z1 z2 z3 zf; obtain ⟨⟨c0, c1, c2, _⟩, hkk, _⟩ := HCC.out w1 HB1.out; obtain ⟨z0, z1, z2, z3, zf⟩ := hkk.cells; try go_wp2_with fail
            refine hK.out _ _ (⟨c0, c1, c2⟩) (fun hHeld => ?_)
            clear hK K
            try simp only [Act.put, sA4, sA5, sA6]
            refine wpAnyH_ready (rs := [7]) (by kernel_rfl) (by simp) ?_
            refine AllReadyH.cons (o := _) rfl (fun K hK => ?_) AllReadyH.nil
            go_simp
            refine (A1.out _ _ HL1).mono ?_; rintro e w2 ⟨q2, HQ2, rfl, hbb⟩; have HB2 : Hid (Below w'.heap.size w' w2) := ext_trans (by repeat (first | exact HB4.out | exact HB3.out | exact HB2.out | exact HB1.out | exact Below.refl _ _ | apply Below.drew)) hbb; clear hbb c0 c1 c2 z0 z1 z2 z3 zf; obtain ⟨⟨c0, c1, c2, _⟩, hkk, _⟩ := HCC.out w2 HB2.out; obtain ⟨z0, z1, z2, z3, zf⟩ := hkk.cells; try go_wp2_with fail
            refine hK.out _ _ (⟨c0, c1, c2⟩) (fun hHeld => ?_)
            clear hK K
            try simp only [Act.put, sA4, sA5, sA6]
            refine tkH (v := ?_) 8 rfl ?_ ?_; rotate_left 1
            · intro wq hSw; (try dsimp only at hSw); go_simp; try (with_reducible rfl)
            try simp only [Act.put, sA4]
            refine wpAnyH_ready (rs := [14]) (by kernel_rfl) (by simp) ?_
            refine AllReadyH.cons (o := _) rfl (fun K hK => ?_) AllReadyH.nil
            go_simp
            refine (MM.out _).mono ?_; rintro e w3 ⟨q3, HQ3, rfl, hbb⟩; have HB3 : Hid (Below w'.heap.size w' w3) := ext_trans (by repeat (first | exact HB4.out | exact HB3.out | exact HB2.out | exact HB1.out | exact Below.refl _ _ | apply Below.drew)) hbb; clear hbb c0 c1 c2 z0 z1 z2 z3 zf; obtain ⟨⟨c0, c1, c2, _⟩, hkk, _⟩ := HCC.out w3 HB3.out; obtain ⟨z0, z1, z2, z3, zf⟩ := hkk.cells; try go_wp2_with fail
            refine hK.out _ _ (⟨c0, c1, c2⟩) (fun hHeld => ?_)
            clear hK K
            try simp only [Act.put, sA4, sA5, sA6]
            refine wpAnyH_ready (rs := [15]) (by kernel_rfl) (by simp) ?_
            refine AllReadyH.cons (o := _) rfl (fun K hK => ?_) AllReadyH.nil
            go_simp
            refine (A2.out _ _ _ HQ2 HQ3).mono ?_; rintro e w4 ⟨q4, HQ4, rfl, hbb⟩; have HB4 : Hid (Below w'.heap.size w' w4) := ext_trans (by repeat (first | exact HB4.out | exact HB3.out | exact HB2.out | exact HB1.out | exact Below.refl _ _ | apply Below.drew)) hbb; clear hbb c0 c1 c2 z0 z1 z2 z3 zf; obtain ⟨⟨c0, c1, c2, _⟩, hkk, _⟩ := HCC.out w4 HB4.out; obtain ⟨z0, z1, z2, z3, zf⟩ := hkk.cells; try go_wp2_with fail
            refine hK.out _ _ (⟨c0, c1, c2⟩) (fun hHeld => ?_)
            clear hK K
            try simp only [Act.put, sA4, sA5, sA6]
            refine wpAnyH_ready (rs := [16]) (by kernel_rfl) (by simp) ?_
            refine AllReadyH.cons (o := _) rfl (fun K hK => ?_) AllReadyH.nil
            go_simp
            refine hK.out _ _ (by simp only [cell_set_other HN2.out]; exact ⟨c0, c1, c2⟩) (fun hHeld => ?_)
            clear hK K
            try simp only [Act.put, sA4, sA5, sA6]
            refine wpAnyH_done (by kernel_rfl) ?_ _
            go_wp2_with fail
            go_meet
            case rel =>
              obtain ⟨⟨_, _, _, k3⟩, hk, hk0, hr⟩ := HCC.out w4 HB4.out
              obtain ⟨p1, p2⟩ := hk.put q4
              have E := HQ4.out
              subst E
              exact ⟨p1, hk0.other p2 (by omega), hr.put hk (by decide) p2, below_put (HB.out.trans (HB4.out.mono (by omega))) (by have := HB4.out.size; omega) p2 (by omega), by simp only [cell_set_other HN2.out]; exact k3⟩
          refine AllReadyH.cons (o := _) rfl (fun K hK => ?_) AllReadyH.nil
          go_simp
          refine (TL.out _ (by repeat (first | exact HB4.out | exact HB3.out | exact HB2.out | exact HB1.out | exact Below.refl _ _ | apply Below.drew))).mono ?_; rintro e w1 ⟨q1, HL1, rfl, hbb⟩; have HB1 : Hid (Below w'.heap.size w' w1) := ext_trans (by repeat (first | exact HB4.out | exact HB3.out | exact HB2.out | exact HB1.out | exact Below.refl _ _ | apply Below.drew)) hbb; clear hbb c0 c1 c2 z0 z1 z2 z3 zf; obtain ⟨⟨c0, c1, c2, _⟩, hkk, _⟩ := HCC.out w1 HB1.out; obtain ⟨z0, z1, z2, z3, zf⟩ := hkk.cells; try go_wp2_with fail
          refine hK.out _ _ (⟨c0, c1, c2⟩) (fun hHeld => ?_)
          clear hK K
          try simp only [Act.put, sA4, sA5, sA6]
          refine wpAnyH_ready (rs := [0]) (by kernel_rfl) (by simp) ?_
          refine AllReadyH.cons (o := _) rfl (fun K hK => ?_) AllReadyH.nil
          go_simp
          refine hK.out _ _ (⟨c0, c1, c2⟩) (fun hHeld => ?_)
          clear hK K
          try simp only [Act.put, sA4, sA5, sA6]
          refine tkH (v := ?_) 1 rfl ?_ ?_; rotate_left 1
          · intro wq hSw; (try dsimp only at hSw); go_simp; try (with_reducible rfl)
          try simp only [Act.put, sA4]
          refine wpAnyH_ready (rs := [7]) (by kernel_rfl) (by simp) ?_
          refine AllReadyH.cons (o := _) rfl (fun K hK => ?_) AllReadyH.nil
          go_simp
          refine (A1.out _ _ HL1).mono ?_; rintro e w2 ⟨q2, HQ2, rfl, hbb⟩; have HB2 : Hid (Below w'.heap.size w' w2) := ext_trans (by repeat (first | exact HB4.out | exact HB3.out | exact HB2.out | exact HB1.out | exact Below.refl _ _ | apply Below.drew)) hbb; clear hbb c0 c1 c2 z0 z1 z2 z3 zf; obtain ⟨⟨c0, c1, c2, _⟩, hkk, _⟩ := HCC.out w2 HB2.out; obtain ⟨z0, z1, z2, z3, zf⟩ := hkk.cells; try go_wp2_with fail
          refine hK.out _ _ (⟨c0, c1, c2⟩) (fun hHeld => ?_)
          clear hK K
          try simp only [Act.put, sA4, sA5, sA6]
          refine tkH (v := ?_) 8 rfl ?_ ?_; rotate_left 1
          · intro wq hSw; (try dsimp only at hSw); go_simp; try (with_reducible rfl)
          try simp only [Act.put, sA4]
          refine wpAnyH_ready (rs := [14]) (by kernel_rfl) (by simp) ?_
          refine AllReadyH.cons (o := _) rfl (fun K hK => ?_) AllReadyH.nil
          go_simp
          refine (MM.out _).mono ?_; rintro e w3 ⟨q3, HQ3, rfl, hbb⟩; have HB3 : Hid (Below w'.heap.size w' w3) := ext_trans (by repeat (first | exact HB4.out | exact HB3.out | exact HB2.out | exact HB1.out | exact Below.refl _ _ | apply Below.drew)) hbb; clear hbb c0 c1 c2 z0 z1 z2 z3 zf; obtain ⟨⟨c0, c1, c2, _⟩, hkk, _⟩ := HCC.out w3 HB3.out; obtain ⟨z0, z1, z2, z3, zf⟩ := hkk.cells; try go_wp2_with fail
          refine hK.out _ _ (⟨c0, c1, c2⟩) (fun hHeld => ?_)
          clear hK K
          try simp only [Act.put, sA4, sA5, sA6]
          refine wpAnyH_ready (rs := [15]) (by kernel_rfl) (by simp) ?_
          refine AllReadyH.cons (o := _) rfl (fun K hK => ?_) AllReadyH.nil
          go_simp
          refine (A2.out _ _ _ HQ2 HQ3).mono ?_; rintro e w4 ⟨q4, HQ4, rfl, hbb⟩; have HB4 : Hid (Below w'.heap.size w' w4) := ext_trans (by repeat (first | exact HB4.out | exact HB3.out | exact HB2.out | exact HB1.out | exact Below.refl _ _ | apply Below.drew)) hbb; clear hbb c0 c1 c2 z0 z1 z2 z3 zf; obtain ⟨⟨c0, c1, c2, _⟩, hkk, _⟩ := HCC.out w4 HB4.out; obtain ⟨z0, z1, z2, z3, zf⟩ := hkk.cells; try go_wp2_with fail
          refine hK.out _ _ (⟨c0, c1, c2⟩) (fun hHeld => ?_)
          clear hK K
          try simp only [Act.put, sA4, sA5, sA6]
          refine wpAnyH_ready (rs := [16]) (by kernel_rfl) (by simp) ?_
          refine AllReadyH.cons (o := _) rfl (fun K hK => ?_) AllReadyH.nil
          go_simp
          refine hK.out _ _ (by simp only [cell_set_other HN2.out]; exact ⟨c0, c1, c2⟩) (fun hHeld => ?_)
          clear hK K
          try simp only [Act.put, sA4, sA5, sA6]
          refine wpAnyH_done (by kernel_rfl) ?_ _
          go_wp2_with fail
          go_meet
          case rel =>
            obtain ⟨⟨_, _, _, k3⟩, hk, hk0, hr⟩ := HCC.out w4 HB4.out
            obtain ⟨p1, p2⟩ := hk.put q4
            have E := HQ4.out
            subst E
            exact ⟨p1, hk0.other p2 (by omega), hr.put hk (by decide) p2, below_put (HB.out.trans (HB4.out.mono (by omega))) (by have := HB4.out.size; omega) p2 (by omega), by simp only [cell_set_other HN2.out]; exact k3⟩
        have HQ := hcut
        obtain ⟨f1, f2, f3, f4, f5⟩ := HQ.out
        have F1 := hidIt f1
        have F2 := hidIt f2
        have F3 := hidIt f3
        have F4 := hidIt f4
        clear f1 f2 f3 f4 hcut HQ c0 c1 c2 c3 z0 z1 z2 z3 zf
        go_wp2_with fail
        go_roundg r.list.length
        case measure => exact HGK.out.2
        case rel => exact ⟨r, ru, d ++ l.list ++ [x], _, Nat.le_refl _, rfl, rfl, F3.out, HG.out, by rw [ES2.out]; exact F1.out, F2.out, F4.out⟩
end Go.Proofs.YtbmelpjmpomfcaaGreat.P
