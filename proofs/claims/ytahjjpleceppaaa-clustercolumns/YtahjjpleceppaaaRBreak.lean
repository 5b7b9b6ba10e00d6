/- The document's IsBreak. -/
import Derived.Test.YtahjjpleceppaaaRLook
import Derived.Test.YtahjjpleceppaaaCalls
namespace Go.Proofs.Ytahjjpleceppaaa
open Go.RowKit

/-- The rules as the document's answer asks them. -/
def Cl.JS (cl cr : Int) (b10 b11 b12 : Bool) : Bool :=
  if cl = 1 ∧ cr = 2 then true
  else if Cl.alone cl = true then false else if Cl.alone cr = true then false
  else Cl.hg cl cr || (cr == 4 || cr == 5) || cr == 8 || cl == 7 || b10 || b11 || b12
theorem Cl.jn_JS (zs : List Int) (k : Nat) (h0 : 0 < k) (hk : k < zs.length) :
    Cl.jn zs k = Cl.JS (Gx.cls (Cl.at zs (k - 1))) (Gx.cls (Cl.at zs k)) (Gx.cnj (Cl.at zs k) == 1 && Cl.cj (Cl.rv zs k) == 2) (Gx.cls (Cl.at zs k) == 14 && (Gx.cls (Cl.at zs (k - 1)) == 5 && Cl.pi (Cl.rv zs (k - 1)) == 1)) (Gx.cls (Cl.at zs k) == 6 && Cl.fl (Cl.rv zs k) % 2 == 1) := by
  have e : Cl.rv zs k = Cl.at zs (k - 1) :: Cl.rv zs (k - 1) := by
    have := Cl.rv_succ zs (k - 1) (by omega)
    rwa [show k - 1 + 1 = k from by omega] at this
  have ep : Cl.pi (Cl.rv zs k) = Cl.piF (Gx.cls (Cl.at zs (k - 1))) (Cl.pi (Cl.rv zs (k - 1))) := by rw [e, Cl.pi_cons]
  unfold Cl.jn Cl.J
  rw [ep]
  generalize Gx.cls (Cl.at zs (k - 1)) = cl
  generalize Gx.cls (Cl.at zs k) = cr
  generalize Cl.pi (Cl.rv zs (k - 1)) = p
  have e2 : (cr == 14 && Cl.piF cl p == 2) = (cr == 14 && (cl == 5 && p == 1)) := by
    rw [Bool.eq_iff_iff]
    simp only [Cl.piF, Bool.and_eq_true, beq_iff_eq]
    constructor
    · intro ⟨h1, h2⟩
      split at h2
      · cases h2
      · split at h2
        · split at h2 <;> cases h2
        · split at h2
          · split at h2
            · exact ⟨h1, by assumption, by assumption⟩
            · cases h2
          · cases h2
    · intro ⟨h2, h1, h3⟩
      subst h1; subst h2; subst h3; exact ⟨rfl, rfl⟩
  unfold Cl.JF Cl.JS
  rw [e2]

set_option maxRecDepth 100000 in
set_option maxHeartbeats 4000000 in
theorem rIsBreak_core (cl cr : Int) (b10 b11 b12 : Bool) (x y : Int) (b off n cap k m : Nat) (w : World) (hk0 : 0 < k) (hk : k < n) (hn : n ≤ 9223372036854775807) (hkm : m = k - 1)
    (hx : w.cell? ⟨b, off + m, none⟩ = some (.int .i64 x)) (hy : w.cell? ⟨b, off + k, none⟩ = some (.int .i64 y))
    (CX : Hid (∀ w, Calls Try.prog 49 #[.int .i64 x] w fun e w' => e = .returned (.int .i64 cl) ∧ w' = w))
    (CY : Hid (∀ w, Calls Try.prog 49 #[.int .i64 y] w fun e w' => e = .returned (.int .i64 cr) ∧ w' = w))
    (C10 : Hid (Calls Try.prog 51 #[.slice (some ⟨b, off, none⟩) n cap, .int .i64 k] w fun e w' => e = .returned (.bool b10) ∧ w' = w))
    (C11 : Hid (Calls Try.prog 52 #[.slice (some ⟨b, off, none⟩) n cap, .int .i64 k] w fun e w' => e = .returned (.bool b11) ∧ w' = w))
    (C12 : Hid (Calls Try.prog 53 #[.slice (some ⟨b, off, none⟩) n cap, .int .i64 k] w fun e w' => e = .returned (.bool b12) ∧ w' = w)) :
    Calls Try.prog 32 #[.slice (some ⟨b, off, none⟩) n cap, .int .i64 k] w fun e w' => e = .returned (.bool (!Cl.JS cl cr b10 b11 b12)) ∧ w' = w := by
  have hq0 : ((k : Int) == 0) = false := by rw [beq_eq_false_iff_ne]; omega
  have hq1 : ((k : Int) == (n : Int)) = false := by rw [beq_eq_false_iff_ne]; omega
  have hd1 : decide ((n : Int) < (k : Int)) = false := by simp; omega
  rw [hkm] at hx
  clear hkm
  have key : ∃ r h : Bool, Hid (Cl.hg cl cr = h) ∧ Hid (Cl.JS cl cr b10 b11 b12 = r) := ⟨_, _, rfl, rfl⟩
  obtain ⟨r, h, HH, HR⟩ := key
  have CH : Hid (∀ w, Calls Try.prog 50 #[.int .i64 cl, .int .i64 cr] w fun e w' => e = .returned (.bool h) ∧ w' = w) := fun w => by rw [← HH.out]; exact rHangul_any cl cr w
  rw [HR.out]
  by_cases hA : cl = 1 ∧ cr = 2
  · obtain ⟨rfl, rfl⟩ := hA
    obtain rfl : r = true := by rw [← HR.out]; unfold Cl.JS; rw [if_pos ⟨rfl, rfl⟩]
    go_enter Try.func32, Try.ntmps32
    go_wp2_with (first | (go_at_call_of 49 (Value.int IntKind.i64 x); refine (CX.out _).mono ?_; rintro e w' ⟨rfl, rfl⟩) | (go_at_call_of 49 (Value.int IntKind.i64 y); refine (CY.out _).mono ?_; rintro e w' ⟨rfl, rfl⟩))
    go_ret
    exact ⟨rfl, rfl⟩
  by_cases e1 : cl = 1
  · subst e1
    obtain rfl : r = false := by rw [← HR.out]; unfold Cl.JS; rw [if_neg hA, if_pos (show Cl.alone 1 = true from rfl)]
    have q2 : (cr == 2) = false := by rw [beq_eq_false_iff_ne]; exact fun h => hA ⟨rfl, h⟩
    go_enter Try.func32, Try.ntmps32
    go_wp2_with (first | (go_at_call_of 49 (Value.int IntKind.i64 x); refine (CX.out _).mono ?_; rintro e w' ⟨rfl, rfl⟩) | (go_at_call_of 49 (Value.int IntKind.i64 y); refine (CY.out _).mono ?_; rintro e w' ⟨rfl, rfl⟩))
    go_ret
    exact ⟨rfl, rfl⟩
  by_cases e2 : cl = 2
  · subst e2
    obtain rfl : r = false := by rw [← HR.out]; unfold Cl.JS; rw [if_neg hA, if_pos (show Cl.alone 2 = true from rfl)]
    go_enter Try.func32, Try.ntmps32
    go_wp2_with (first | (go_at_call_of 49 (Value.int IntKind.i64 x); refine (CX.out _).mono ?_; rintro e w' ⟨rfl, rfl⟩) | (go_at_call_of 49 (Value.int IntKind.i64 y); refine (CY.out _).mono ?_; rintro e w' ⟨rfl, rfl⟩))
    go_ret
    exact ⟨rfl, rfl⟩
  by_cases e3 : cl = 3
  · subst e3
    obtain rfl : r = false := by rw [← HR.out]; unfold Cl.JS; rw [if_neg hA, if_pos (show Cl.alone 3 = true from rfl)]
    go_enter Try.func32, Try.ntmps32
    go_wp2_with (first | (go_at_call_of 49 (Value.int IntKind.i64 x); refine (CX.out _).mono ?_; rintro e w' ⟨rfl, rfl⟩) | (go_at_call_of 49 (Value.int IntKind.i64 y); refine (CY.out _).mono ?_; rintro e w' ⟨rfl, rfl⟩))
    go_ret
    exact ⟨rfl, rfl⟩
  have l1 : (cl == 1) = false := by simp [e1]
  have l2 : (cl == 2) = false := by simp [e2]
  have l3 : (cl == 3) = false := by simp [e3]
  have ha : Cl.alone cl = false := by simp [Cl.alone, e1, e2, e3]
  by_cases f1 : cr = 1
  · subst f1
    obtain rfl : r = false := by rw [← HR.out]; unfold Cl.JS; rw [if_neg hA, if_neg (by simp [ha]), if_pos (show Cl.alone 1 = true from rfl)]
    go_enter Try.func32, Try.ntmps32
    go_wp2_with (first | (go_at_call_of 49 (Value.int IntKind.i64 x); refine (CX.out _).mono ?_; rintro e w' ⟨rfl, rfl⟩) | (go_at_call_of 49 (Value.int IntKind.i64 y); refine (CY.out _).mono ?_; rintro e w' ⟨rfl, rfl⟩))
    go_ret
    exact ⟨rfl, rfl⟩
  by_cases f2 : cr = 2
  · subst f2
    obtain rfl : r = false := by rw [← HR.out]; unfold Cl.JS; rw [if_neg hA, if_neg (by simp [ha]), if_pos (show Cl.alone 2 = true from rfl)]
    go_enter Try.func32, Try.ntmps32
    go_wp2_with (first | (go_at_call_of 49 (Value.int IntKind.i64 x); refine (CX.out _).mono ?_; rintro e w' ⟨rfl, rfl⟩) | (go_at_call_of 49 (Value.int IntKind.i64 y); refine (CY.out _).mono ?_; rintro e w' ⟨rfl, rfl⟩))
    go_ret
    exact ⟨rfl, rfl⟩
  by_cases f3 : cr = 3
  · subst f3
    obtain rfl : r = false := by rw [← HR.out]; unfold Cl.JS; rw [if_neg hA, if_neg (by simp [ha]), if_pos (show Cl.alone 3 = true from rfl)]
    go_enter Try.func32, Try.ntmps32
    go_wp2_with (first | (go_at_call_of 49 (Value.int IntKind.i64 x); refine (CX.out _).mono ?_; rintro e w' ⟨rfl, rfl⟩) | (go_at_call_of 49 (Value.int IntKind.i64 y); refine (CY.out _).mono ?_; rintro e w' ⟨rfl, rfl⟩))
    go_ret
    exact ⟨rfl, rfl⟩
  have r1 : (cr == 1) = false := by simp [f1]
  have r2 : (cr == 2) = false := by simp [f2]
  have r3 : (cr == 3) = false := by simp [f3]
  have hr' : Cl.alone cr = false := by simp [Cl.alone, f1, f2, f3]
  have HV : Hid (r = (h || (cr == 4 || cr == 5) || cr == 8 || cl == 7 || b10 || b11 || b12)) := by
    unfold Hid; rw [← HR.out, ← HH.out]; unfold Cl.JS; rw [if_neg hA, if_neg (by simp [ha]), if_neg (by simp [hr'])]
  clear HH HR hA ha hr'
  cases h with
  | true =>
    obtain rfl : r = true := by rw [HV.out]; simp
    go_enter Try.func32, Try.ntmps32
    go_wp2_with (first | (go_at_call_of 49 (Value.int IntKind.i64 x); refine (CX.out _).mono ?_; rintro e w' ⟨rfl, rfl⟩) | (go_at_call_of 49 (Value.int IntKind.i64 y); refine (CY.out _).mono ?_; rintro e w' ⟨rfl, rfl⟩) | (go_at_call 50; refine (CH.out _).mono ?_; rintro e w' ⟨rfl, rfl⟩))
    go_ret
    exact ⟨rfl, rfl⟩
  | false =>
    by_cases g4 : cr = 4
    · subst g4
      obtain rfl : r = true := by rw [HV.out]; simp
      go_enter Try.func32, Try.ntmps32
      go_wp2_with (first | (go_at_call_of 49 (Value.int IntKind.i64 x); refine (CX.out _).mono ?_; rintro e w' ⟨rfl, rfl⟩) | (go_at_call_of 49 (Value.int IntKind.i64 y); refine (CY.out _).mono ?_; rintro e w' ⟨rfl, rfl⟩) | (go_at_call 50; refine (CH.out _).mono ?_; rintro e w' ⟨rfl, rfl⟩))
      go_ret
      exact ⟨rfl, rfl⟩
    by_cases g5 : cr = 5
    · subst g5
      obtain rfl : r = true := by rw [HV.out]; simp
      go_enter Try.func32, Try.ntmps32
      go_wp2_with (first | (go_at_call_of 49 (Value.int IntKind.i64 x); refine (CX.out _).mono ?_; rintro e w' ⟨rfl, rfl⟩) | (go_at_call_of 49 (Value.int IntKind.i64 y); refine (CY.out _).mono ?_; rintro e w' ⟨rfl, rfl⟩) | (go_at_call 50; refine (CH.out _).mono ?_; rintro e w' ⟨rfl, rfl⟩))
      go_ret
      exact ⟨rfl, rfl⟩
    by_cases g8 : cr = 8
    · subst g8
      obtain rfl : r = true := by rw [HV.out]; simp
      go_enter Try.func32, Try.ntmps32
      go_wp2_with (first | (go_at_call_of 49 (Value.int IntKind.i64 x); refine (CX.out _).mono ?_; rintro e w' ⟨rfl, rfl⟩) | (go_at_call_of 49 (Value.int IntKind.i64 y); refine (CY.out _).mono ?_; rintro e w' ⟨rfl, rfl⟩) | (go_at_call 50; refine (CH.out _).mono ?_; rintro e w' ⟨rfl, rfl⟩))
      go_ret
      exact ⟨rfl, rfl⟩
    have r4 : (cr == 4) = false := by simp [g4]
    have r5 : (cr == 5) = false := by simp [g5]
    have r8 : (cr == 8) = false := by simp [g8]
    by_cases g7 : cl = 7
    · subst g7
      obtain rfl : r = true := by rw [HV.out]; simp
      go_enter Try.func32, Try.ntmps32
      go_wp2_with (first | (go_at_call_of 49 (Value.int IntKind.i64 x); refine (CX.out _).mono ?_; rintro e w' ⟨rfl, rfl⟩) | (go_at_call_of 49 (Value.int IntKind.i64 y); refine (CY.out _).mono ?_; rintro e w' ⟨rfl, rfl⟩) | (go_at_call 50; refine (CH.out _).mono ?_; rintro e w' ⟨rfl, rfl⟩))
      go_ret
      exact ⟨rfl, rfl⟩
    have l7 : (cl == 7) = false := by simp [g7]
    obtain rfl : r = (b10 || b11 || b12) := by rw [HV.out, r4, r5, r8, l7]; simp
    clear HV
    cases b10 <;> cases b11 <;> cases b12
    all_goals
      go_enter Try.func32, Try.ntmps32
      go_wp2_with (first | (go_at_call_of 49 (Value.int IntKind.i64 x); refine (CX.out _).mono ?_; rintro e w' ⟨rfl, rfl⟩) | (go_at_call_of 49 (Value.int IntKind.i64 y); refine (CY.out _).mono ?_; rintro e w' ⟨rfl, rfl⟩) | (go_at_call 50; refine (CH.out _).mono ?_; rintro e w' ⟨rfl, rfl⟩) | (go_at_call 51; refine C10.out.mono ?_; rintro e w' ⟨rfl, rfl⟩) | (go_at_call 52; refine C11.out.mono ?_; rintro e w' ⟨rfl, rfl⟩) | (go_at_call 53; refine C12.out.mono ?_; rintro e w' ⟨rfl, rfl⟩))
      go_ret
      exact ⟨rfl, rfl⟩

theorem rIsBreak_any (v : Value) (zs : List Int) (a : Int) (w : World) (hr : Rd .i64 w v zs) :
    Calls Try.prog 32 #[v, .int .i64 a] w fun e w' => e = .returned (.bool (Cl.isBi zs a)) ∧ w' = w := by
  have HR : Hid (Rd .i64 w v zs) := hr
  have hlen := hr.len
  by_cases h0 : a < 0
  · have HQ : Hid (Cl.isBi zs a = false) := by unfold Hid Cl.isBi; rw [if_neg (by omega)]
    obtain ⟨ao, cap, rfl, _⟩ := hr
    go_enter Try.func32, Try.ntmps32
    go_wp2
    go_ret
    exact ⟨ret_bool HQ.out.symm, rfl⟩
  by_cases h1 : (zs.length : Int) < a
  · have HQ : Hid (Cl.isBi zs a = false) := by unfold Hid Cl.isBi; rw [if_neg (by omega)]
    have hd : decide ((zs.length : Int) < a) = true := by simp [h1]
    obtain ⟨ao, cap, rfl, _⟩ := hr
    go_enter Try.func32, Try.ntmps32
    go_wp2
    go_ret
    exact ⟨ret_bool HQ.out.symm, rfl⟩
  obtain ⟨k, rfl⟩ : ∃ k : Nat, a = k := ⟨a.toNat, by omega⟩
  have HQ : Hid (Cl.isBi zs (k : Int) = Cl.isB zs k) := by unfold Hid Cl.isBi; rw [if_pos (by omega)]; rfl
  have hd : decide ((zs.length : Int) < (k : Int)) = false := by simp; omega
  by_cases h2 : k = 0
  · subst h2
    have HQ' : Hid (Cl.isBi zs ((0 : Nat) : Int) = true) := HQ.out.trans (Cl.isB_zero zs)
    obtain ⟨ao, cap, rfl, _⟩ := hr
    go_enter Try.func32, Try.ntmps32
    go_wp2
    go_ret
    exact ⟨ret_bool HQ'.out.symm, rfl⟩
  by_cases h3 : k = zs.length
  · subst h3
    have HQ' : Hid (Cl.isBi zs (zs.length : Int) = true) := HQ.out.trans (Cl.isB_end zs)
    have hq : ((zs.length : Int) == 0) = false := by rw [beq_eq_false_iff_ne]; omega
    obtain ⟨ao, cap, rfl, _⟩ := hr
    go_enter Try.func32, Try.ntmps32
    go_wp2
    go_ret
    exact ⟨ret_bool HQ'.out.symm, rfl⟩
  have hk : k < zs.length := by omega
  have HQ' : Cl.isBi zs (k : Int) = !Cl.jn zs k := HQ.out.trans (Cl.isB_mid zs k (by omega) hk)
  rw [HQ', Cl.jn_JS zs k (by omega) hk]
  obtain ⟨b, off, cap, rfl, hl, hm, hb, hc⟩ := hr.at (by omega)
  exact rIsBreak_core _ _ _ _ _ (Cl.at zs (k - 1)) (Cl.at zs k) b off zs.length cap k (k - 1) w (by omega) hk hlen rfl (hc (k - 1) (by omega)) (hc k hk)
    (rClass_any _) (rClass_any _) (rConjunct3_any _ zs k w HR.out (by omega) hk) (rJoined3_any _ zs k w HR.out (by omega) hk) (rFlag_any _ zs k w HR.out (by omega) hk)
end Go.Proofs.Ytahjjpleceppaaa
