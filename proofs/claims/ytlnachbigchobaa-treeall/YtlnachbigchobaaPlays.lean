/- plays. -/
import Derived.Test.YtlnachbigchobaaMakesOf
import Derived.Test.YtlnachbigchobaaMakesRep
namespace Go.Proofs.Ytlnachbigchobaa
open Go.RowKit

theorem own_le {w : World} {base base' : Nat} {e : TypeId} {size : Nat} {v : Value} {n : Nat} {xs : List Value} (h : w.ownsRow base e size v n xs) (hb : base' ≤ base) : w.ownsRow base' e size v n xs := by
  obtain ⟨h1, h2⟩ := h
  refine ⟨h1, ?_⟩
  rcases h2 with h2 | ⟨g, cap, cur, hv, hg, r⟩
  · exact .inl h2
  · exact .inr ⟨g, cap, cur, hv, Nat.le_trans hb hg, r⟩
/-- What is wanted of listed. -/
def Listed : Prop := ∀ (u : Option Addr) (v : Value) (xs : List It) (n k : Int) (w : World), n ≤ 9223372036854775807 → TT w (.agg #[.pointer u]) xs → RdR w v xs → xs.length ≤ 4194304 → Calls Try.prog 80 #[.agg #[.pointer u], v, .int .i64 n, .int .i64 k] w fun e w' => e = .returned (.bool true) ∧ Below w.heap.size w w'

/-- The wood behind k steps. -/
def Woody (w : World) (base gw : Nat) (k t : Nat) : Prop := ∃ gt ct gl cl us ls xss, Wd w base gw gt ct gl cl us ls xss xss ∧ 1 ≤ us.length ∧ us.length ≤ k + 1 ∧ ∀ xs ∈ xss, xs.length ≤ t
theorem Woody.ext {w w' : World} {base gw k t : Nat} (h : Woody w base gw k t) (hb : Below w.heap.size w w') : Woody w' base gw k t := by
  obtain ⟨gt, ct, gl, cl, us, ls, xss, h1, h2⟩ := h
  exact ⟨gt, ct, gl, cl, us, ls, xss, h1.ext hb, h2⟩
theorem Woody.mono {w : World} {base gw k t k' t' : Nat} (h : Woody w base gw k t) (hk : k ≤ k') (ht : t ≤ t') : Woody w base gw k' t' := by
  obtain ⟨gt, ct, gl, cl, us, ls, xss, h1, h2, h3, h4⟩ := h
  exact ⟨gt, ct, gl, cl, us, ls, xss, h1, h2, by omega, fun xs hx => Nat.le_trans (h4 xs hx) ht⟩

set_option maxRecDepth 100000 in
set_option maxHeartbeats 8000000 in
theorem plays_any (v : Value) (os : List Sp) (lo hi : Int) (w : World) (h : RdO w v os) (hf : tot os + 1 ≤ 4194304 ∧ os.length ≤ 67108864) (h8 : lo ≤ 8 → 8 ≤ hi → Listed) :
    Calls Try.prog 37 #[v, .int .i64 lo, .int .i64 hi] w fun e w' => e = .returned (.bool true) ∧ Below w.heap.size w w' := by
  obtain ⟨ao, cap, rfl, hl, hm, hby, hc⟩ := h
  unfold maxLen at hm
  obtain ⟨hf1, hf2⟩ := hf
  have HC := hidIt hc
  have H8 := hidIt h8
  clear hc h8
  go_enter Try.func37, Try.ntmps37
  go_wp2_with fail
  refine (alive_any w).mono ?_
  rintro e w1 ⟨rfl, hb1⟩
  have HB1 := hidIt hb1
  clear hb1
  go_wp2_with fail
  refine (begin_any w1).mono ?_
  rintro e w2 ⟨gw, rfl, HW2, hb2⟩
  have HI : Hid (Woody w2 w.heap.size gw 0 0) := by
    obtain ⟨gt, ct, gl, cl, hW⟩ := HW2.out
    refine ⟨gt, ct, gl, cl, _, _, _, ⟨Nat.le_trans HB1.out.size hW.hb, hW.blk, own_le hW.tr HB1.out.size, own_le hW.lr HB1.out.size, hW.ul, hW.ll, hW.tt, fun i v xs h1 h2 => own_le (hW.lo i v xs h1 h2) HB1.out.size⟩, by simp, by simp, fun xs hx => ?_⟩
    simp at hx
    subst hx
    simp
  have HB2 := hidIt (ext_trans HB1.out hb2)
  clear HW2 hb2
  go_wp2_with fail
  go_loopw [7, 9] (fun ok i wr => ∃ k : Nat, k ≤ os.length ∧ ok = .bool true ∧ i = .int .i64 k ∧ Hid (Woody wr w.heap.size gw k (tot (os.take k))) ∧ Below w.heap.size w wr) (fun _ i _ => os.length - (intOf i).toNat)
  case atStart => exact ⟨0, Nat.zero_le _, rfl, rfl, HI.out, HB2.out⟩
  case round =>
    obtain ⟨k, hk, rfl, rfl, HWO, hb⟩ := hrel
    by_cases hlt : k < os.length
    · have hlt' : (k : Int) < (os.length : Int) := by omega
      obtain ⟨bb, off, rfl, hbl, hcc⟩ := HC.out (by omega)
      obtain ⟨o, ho⟩ : ∃ o, os[k]? = some o := ⟨os[k], List.getElem?_eq_getElem hlt⟩
      have hO := hcc k o ho
      have HT := hidIt (tot_take os k o ho)
      have HTL := hidIt (tot_le os (k + 1))
      have c0 : wr.cell? ⟨bb, off + k * 7, none⟩ = some (.int .i64 o.kind) := (hb.cell (p := ⟨bb, off + k * 7, none⟩) hbl).trans hO.c0
      have c1 : wr.cell? ⟨bb, off + k * 7 + 1, none⟩ = some (.int .i64 o.who) := (hb.cell (p := ⟨bb, off + k * 7 + 1, none⟩) hbl).trans hO.c1
      have c2 : wr.cell? ⟨bb, off + k * 7 + 2, none⟩ = some (.int .i64 o.fr) := (hb.cell (p := ⟨bb, off + k * 7 + 2, none⟩) hbl).trans hO.c2
      have c3 : wr.cell? ⟨bb, off + k * 7 + 3, none⟩ = some (.int .i64 o.to) := (hb.cell (p := ⟨bb, off + k * 7 + 3, none⟩) hbl).trans hO.c3
      have c4 : wr.cell? ⟨bb, off + k * 7 + 4, none⟩ = some (.int .i64 o.k) := (hb.cell (p := ⟨bb, off + k * 7 + 4, none⟩) hbl).trans hO.c4
      have c5 : wr.cell? ⟨bb, off + k * 7 + 5, none⟩ = some (.int .i64 o.n) := (hb.cell (p := ⟨bb, off + k * 7 + 5, none⟩) hbl).trans hO.c5
      have c6 : wr.cell? ⟨bb, off + k * 7 + 6, none⟩ = some (.slice o.ai o.zs.length o.ci) := (hb.cell (p := ⟨bb, off + k * 7 + 6, none⟩) hbl).trans hO.c6
      have HRW := hidIt hO.rd
      have hn := hO.hn
      have HD : Hid (∀ b off, o.zs ≠ [] → o.ai = some ⟨b, off, none⟩ → b < w.heap.size) := fun b off' hz ha => by
        obtain ⟨ao', cap', e1, _, _, _, e5⟩ := HRW.out
        simp only [Value.slice.injEq] at e1
        obtain ⟨b', off'', e6, e7, _⟩ := e5 hz
        rw [← e1.1, ha] at e6
        cases e6
        exact e7
      have HB := hidIt hb
      obtain ⟨wo, hwo⟩ : ∃ wo, wo = wr.alloc (.cells #[.int .i64 o.kind, .int .i64 o.who, .int .i64 o.fr, .int .i64 o.to, .int .i64 o.k, .int .i64 o.n, .slice o.ai o.zs.length o.ci] 95) := ⟨_, rfl⟩
      have eo : Below wr.heap.size wr wo := by rw [hwo]; exact ext_alloc (Below.refl _ _) _
      have hop : wo.heap[wr.heap.size]? = some (.cells #[.int .i64 o.kind, .int .i64 o.who, .int .i64 o.fr, .int .i64 o.to, .int .i64 o.k, .int .i64 o.n, .slice o.ai o.zs.length o.ci] 95 (0, 0)) := by rw [hwo]; exact heap_alloc_new _ _
      have HWo := hidIt (HWO.out.ext eo)
      have HBo := hidIt (ext_trans hb eo)
      have q0 : wo.cell? ⟨wr.heap.size, 0, none⟩ = some (.int .i64 o.kind) := by rw [cell_of_row wo _ 0 _ _ _ hop]; rfl
      have q1 : wo.cell? ⟨wr.heap.size, 1, none⟩ = some (.int .i64 o.who) := by rw [cell_of_row wo _ 1 _ _ _ hop]; rfl
      have q2 : wo.cell? ⟨wr.heap.size, 2, none⟩ = some (.int .i64 o.fr) := by rw [cell_of_row wo _ 2 _ _ _ hop]; rfl
      have q3 : wo.cell? ⟨wr.heap.size, 3, none⟩ = some (.int .i64 o.to) := by rw [cell_of_row wo _ 3 _ _ _ hop]; rfl
      have q4 : wo.cell? ⟨wr.heap.size, 4, none⟩ = some (.int .i64 o.k) := by rw [cell_of_row wo _ 4 _ _ _ hop]; rfl
      have q5 : wo.cell? ⟨wr.heap.size, 5, none⟩ = some (.int .i64 o.n) := by rw [cell_of_row wo _ 5 _ _ _ hop]; rfl
      have q6 : wo.cell? ⟨wr.heap.size, 6, none⟩ = some (.slice o.ai o.zs.length o.ci) := by rw [cell_of_row wo _ 6 _ _ _ hop]; rfl
      have MK : Hid (∀ wp, wp = wo → o.kind = 1 ∨ o.kind = 2 → Calls Try.prog 62 #[.pointer (some ⟨gw, 0, none⟩), .agg #[.int .i64 o.kind, .int .i64 o.who, .int .i64 o.fr, .int .i64 o.to, .int .i64 o.k, .int .i64 o.n, .slice o.ai o.zs.length o.ci]] wp fun e w' => e = .returned (.bool true) ∧ Hid (Woody w' w.heap.size gw (k + 1) (tot (os.take (k + 1)))) ∧ Hid (Below w.heap.size w w')) := fun wp hwp hkd => by
        subst hwp
        obtain ⟨gt, ct, gl, cl, us, ls, xss, W1, W2, W3, W4⟩ := HWo.out
        have e1 := HT.out
        have e2 := HTL.out
        by_cases h1 : o.kind = 1
        · exact (makes_of (N := tot (os.take k)) o wp W1 W2 (by omega) W4 (by omega) ((HRW.out.old HD.out HBo.out)) HD.out HBo.out.size h1).mono fun _ _ ⟨a1, a2, a3⟩ => by
            obtain ⟨gt', ct', gl', cl', us', ls', xss', V1, V2, V3, V4⟩ := a2.out
            exact ⟨a1, ⟨gt', ct', gl', cl', us', ls', xss', V1, by omega, by omega, fun xs hx => by have := V4 xs hx; omega⟩, HBo.out.trans a3.out⟩
        · exact (makes_rep (N := tot (os.take k)) o wp W1 W2 (by omega) W4 (by omega) ((HRW.out.old HD.out HBo.out)) HD.out HBo.out.size h1).mono fun _ _ ⟨a1, a2, a3⟩ => by
            obtain ⟨gt', ct', gl', cl', us', ls', xss', V1, V2, V3, V4⟩ := a2.out
            exact ⟨a1, ⟨gt', ct', gl', cl', us', ls', xss', V1, by omega, by omega, fun xs hx => by have := V4 xs hx; omega⟩, HBo.out.trans a3.out⟩
      have TL : Hid (∀ wp, wp = wo → lo ≤ o.kind → o.kind ≤ hi → Calls Try.prog 63 #[.pointer (some ⟨gw, 0, none⟩), .agg #[.int .i64 o.kind, .int .i64 o.who, .int .i64 o.fr, .int .i64 o.to, .int .i64 o.k, .int .i64 o.n, .slice o.ai o.zs.length o.ci]] wp fun e w' => e = .returned (.bool true) ∧ Below wo.heap.size wo w') := fun wp hwp hlo hhi => by
        subst hwp
        obtain ⟨gt, ct, gl, cl, us, ls, xss, W1, W2, W3, W4⟩ := HWo.out
        have e1 := HT.out
        have e2 := HTL.out
        exact tells_any o wp W1 W2 (by omega) (fun xs hx => by have := W4 xs hx; omega) hn (fun h8 u v xs w' t1 t2 t3 => H8.out (by omega) (by omega) u v xs o.n o.k w' hn t1 t2 t3)
      have NX : Hid (Woody wo w.heap.size gw (k + 1) (tot (os.take (k + 1)))) := HWo.out.mono (by omega) (by have := HT.out; omega)
      clear hcc hO ho hop eo HWo HWO
      generalize o.kind = kd at *
      generalize o.who = k1 at *
      generalize o.fr = k2 at *
      generalize o.to = k3 at *
      generalize o.k = k4 at *
      generalize o.n = k5 at *
      generalize o.ai = k6 at *
      generalize o.ci = k7 at *
      generalize o.zs.length = k8 at *
      go_upto_region 7 with fail
      rw [← hwo]
      clear hwo c0 c1 c2 c3 c4 c5 c6 hb
      generalize wr.heap.size = ob at *
      by_cases e1 : kd = 1
      · have e1' : (kd == 1) = true := by simpa using e1
        have M1 := hidIt (MK.out wo rfl (.inl e1))
        clear MK TL e1
        go_wp2_with fail
        refine M1.out.mono ?_
        rintro e w3 ⟨rfl, HV, HB3⟩
        go_wp2_with fail
        go_roundw
        case rel => exact ⟨k + 1, by omega, rfl, by go_num, HV, HB3.out⟩
        case measure => simp [intOf]; omega
      have e1' : (kd == 1) = false := by simpa using e1
      by_cases e2 : kd = 2
      · have e2' : (kd == 2) = true := by simpa using e2
        have M1 := hidIt (MK.out wo rfl (.inr e2))
        clear MK TL e1 e2
        go_wp2_with fail
        refine M1.out.mono ?_
        rintro e w3 ⟨rfl, HV, HB3⟩
        go_wp2_with fail
        go_roundw
        case rel => exact ⟨k + 1, by omega, rfl, by go_num, HV, HB3.out⟩
        case measure => simp [intOf]; omega
      have e2' : (kd == 2) = false := by simpa using e2
      by_cases e3 : lo ≤ kd
      · by_cases e4 : kd ≤ hi
        · have M1 := hidIt (TL.out wo rfl e3 e4)
          clear MK TL e1 e2
          go_wp2_with fail
          refine M1.out.mono ?_
          rintro e w3 ⟨rfl, hb3⟩
          have HV := hidIt (NX.out.ext hb3)
          have HB3 := hidIt (ext_trans HBo.out hb3)
          clear hb3
          go_wp2_with fail
          go_roundw
          case rel => exact ⟨k + 1, by omega, rfl, by go_num, HV, HB3.out⟩
          case measure => simp [intOf]; omega
        · have e4' : decide (kd ≤ hi) = false := by simpa using e4
          clear MK TL e1 e2
          go_wp2_with fail
          go_roundw
          case rel => exact ⟨k + 1, by omega, rfl, by go_num, NX, HBo.out⟩
          case measure => simp [intOf]; omega
      · have e3' : decide (lo ≤ kd) = false := by simpa using e3
        clear MK TL e1 e2
        go_wp2_with fail
        go_roundw
        case rel => exact ⟨k + 1, by omega, rfl, by go_num, NX, HBo.out⟩
        case measure => simp [intOf]; omega
    · obtain rfl : k = os.length := by omega
      have hge : ¬ (os.length : Int) < (os.length : Int) := by omega
      have hged : decide ((os.length : Int) < (os.length : Int)) = false := by simp
      go_wp2_with fail
      go_ret
      exact ⟨rfl, hb⟩
end Go.Proofs.Ytlnachbigchobaa
