/- The iterators at Word: walk (made by convw.py, then turned by hand: what is told is a beginning of L). -/
import Derived.Test.YtcdamhgblolofaaWFind
import Derived.Test.YtcdamhgblolofaaWUpto
namespace Go.Proofs.Ytcdamhgblolofaa.W
open Go.RowKit

/-- What is told, of things that come one by one behind d, as long as go lets it; and whether it was let go on to the end. -/
def tell (go : List It → Bool) : List It → List It → List It × Bool
  | d, [] => (d, true)
  | d, x :: xs => if go (d ++ [x]) = true then tell go (d ++ [x]) xs else (d ++ [x], false)
theorem tell_on (go : List It → Bool) (b : List It) : ∀ (a d : List It), (tell go d a).2 = true → tell go d (a ++ b) = tell go (tell go d a).1 b
  | [], d, _ => rfl
  | x :: a, d, h2 => by
    simp only [List.cons_append, tell] at h2 ⊢
    by_cases h : go (d ++ [x]) = true
    · simp only [if_pos h] at h2 ⊢; exact tell_on go b a _ h2
    · simp only [if_neg h] at h2; cases h2
theorem tell_off (go : List It → Bool) (b : List It) : ∀ (a d : List It), (tell go d a).2 = false → tell go d (a ++ b) = tell go d a
  | [], d, h => by cases h
  | x :: a, d, h2 => by
    simp only [List.cons_append, tell] at h2 ⊢
    by_cases h : go (d ++ [x]) = true
    · simp only [if_pos h] at h2 ⊢; exact tell_off go b a _ h2
    · simp only [if_neg h]
theorem tell_go (go : List It → Bool) : ∀ (a d : List It), go d = true → (tell go d a).2 = true → go (tell go d a).1 = true
  | [], d, h, _ => h
  | x :: a, d, h, h2 => by
    simp only [tell] at h2 ⊢
    by_cases h3 : go (d ++ [x]) = true
    · rw [if_pos h3] at h2 ⊢; exact tell_go go a _ h3 h2
    · rw [if_neg h3] at h2; cases h2

theorem tell_len (go : List It → Bool) : ∀ (a d : List It), (tell go d a).1.length ≤ d.length + a.length
  | [], d => by simp [tell]
  | x :: a, d => by
    simp only [tell]
    by_cases h : go (d ++ [x]) = true
    · rw [if_pos h]
      have := tell_len go a (d ++ [x])
      simp only [List.length_append, List.length_cons, List.length_nil] at this ⊢
      omega
    · rw [if_neg h]
      simp
theorem tell_all (go : List It → Bool) : ∀ (a d : List It), (tell go d a).2 = true → (tell go d a).1 = d ++ a
  | [], d, _ => by simp [tell]
  | x :: a, d, h2 => by
    simp only [tell] at h2 ⊢
    by_cases h : go (d ++ [x]) = true
    · simp only [if_pos h] at h2 ⊢
      rw [tell_all go a _ h2]
      simp
    · simp only [if_neg h] at h2; cases h2
theorem pre_left {d a b L : List It} (h : (d ++ (a ++ b)) <+: L) : (d ++ a) <+: L := by
  rw [← List.append_assoc] at h
  exact (List.prefix_append _ _).trans h

/-- A yield: what each of its calls does to what was told. -/
structure Yields (yf : Nat) (caps : Array Value) (go : List It → Bool) (J : List It → World → Prop) (w0 : World) (L : List It) : Prop where
  call : ∀ (d : List It) (x : It) (w : World), J d w → go d = true → (d ++ [x]) <+: L → Calls Try.prog yf (#[.agg #[.string x]] ++ caps) w fun e w' => e = .returned (.bool (go (d ++ [x]))) ∧ J (d ++ [x]) w'
  fr : ∀ d w, J d w → Below w0.heap.size w0 w

set_option maxRecDepth 100000 in
set_option maxHeartbeats 2000000 in
theorem walkW_any {caps : Array Value} {go : List It → Bool} {J : List It → World → Prop} {w0 : World} {L : List It} (Y : Yields 86 caps go J w0 L) (t : Tr It) : ∀ (u : Option Addr) (fr : Nat) (d : List It) (w : World), Tin w0 t u → t.list.length ≤ 4194304 → J d w → go d = true → (d ++ t.list.drop fr) <+: L →
    Calls Try.prog 85 #[.pointer u, .int .i64 fr, .func (.func 86) #[] caps] w fun e w' => e = .returned (.bool (tell go d (t.list.drop fr)).2) ∧ J (tell go d (t.list.drop fr)).1 w' := by
  induction t using Tr.ind with
  | nil =>
    intro u fr d w hT _ hJ hg _
    have hT' := hT.ext (Y.fr d w hJ)
    simp only [Tr.list, List.drop_nil, tell]
    have HJ := hidIt hJ
    have CN : Hid (Calls Try.prog 59 #[.pointer u] w fun e w' => e = .returned (.int .i64 0) ∧ w' = w) := count_any .nil u w hT'
    clear hT hT' hJ
    go_enter Try.func85, Try.ntmps85
    go_wp2_with (go_at_call 59; refine CN.out.mono ?_; rintro e w1 ⟨rfl, hw1⟩; obtain rfl : w = w1 := hw1.symm; clear CN; have h00 : (0 : Int) ≤ (fr : Int) := (by omega))
    go_ret
    exact ⟨rfl, HJ.out⟩
  | node l x r ihl ihr =>
    intro u fr d w hT hlen hJ hg hdl
    have CN := hidIt (count_any (.node l x r) u w (hT.ext (Y.fr d w hJ)))
    have HLEN : Hid ((Tr.node l x r).list.length = l.list.length + 1 + r.list.length) := by unfold Hid; simp only [Tr.list, List.length_append, List.length_cons]; omega
    by_cases hge : (Tr.node l x r).list.length ≤ fr
    · rw [List.drop_of_length_le hge]
      simp only [tell]
      generalize (Tr.node l x r).list.length = n at *
      have hge' : (n : Int) ≤ (fr : Int) := by omega
      have HJ := hidIt hJ
      clear hT hJ
      go_enter Try.func85, Try.ntmps85
      go_wp2_with (go_at_call 59; refine CN.out.mono ?_; rintro e w1 ⟨rfl, hw1⟩; obtain rfl : w = w1 := hw1.symm; clear CN)
      go_ret
      exact ⟨rfl, HJ.out⟩
    · obtain ⟨g, lv, rv, rfl, hb, hl, hr⟩ := hT
      have HN : Hid (∀ d' w', J d' w' → (w'.cell? ⟨g, 0, none⟩ = some (.string x) ∧ w'.cell? ⟨g, 0, none⟩ = some (.string x) ∧ w'.cell? ⟨g, 1, none⟩ = some (.pointer lv) ∧ w'.cell? ⟨g, 2, none⟩ = some (.pointer rv) ∧ g < w'.heap.size)) := fun d' w' hJ' => by
        have hb' := (Y.fr d' w' hJ').block _ (Array.getElem?_eq_some_iff.1 hb).1
        rw [hb] at hb'
        refine ⟨?_, ?_, ?_, ?_, (Array.getElem?_eq_some_iff.1 hb').1⟩
        · rw [cell_of_row w' g 0 _ _ _ hb']; rfl
        · rw [cell_of_row w' g 0 _ _ _ hb']; rfl
        · rw [cell_of_row w' g 1 _ _ _ hb']; rfl
        · rw [cell_of_row w' g 2 _ _ _ hb']; rfl
      have CL := hidIt (count_any l lv w (hl.ext (Y.fr d w hJ)))
      have e1 : (Tr.node l x r).list.drop fr = l.list.drop fr ++ (x :: r.list).drop (fr - l.list.length) := by simp only [Tr.list]; rw [List.drop_append]
      rw [e1] at hdl
      rw [e1]
      have HDL := hidIt hdl
      clear hdl
      have hlt' : ¬ ((Tr.node l x r).list.length : Int) ≤ (fr : Int) := by omega
      have hl2 : (Tr.node l x r).list.length ≤ 4194304 := hlen
      have hll : l.list.length ≤ 4194304 ∧ r.list.length ≤ 4194304 := by have := HLEN.out; omega
      generalize (Tr.node l x r).list.length = n at *
      obtain ⟨c0, c1, c2, c3, hgl⟩ := HN.out d w hJ
      have WL := hidIt (ihl lv fr d w hl hll.1 hJ hg (pre_left HDL.out))
      have HR := hidIt hr
      have TGO := hidIt (tell_go go (l.list.drop fr) d hg)
      clear hb e1 hr
      have TLN := hidIt (tell_all go (l.list.drop fr) d)
      generalize hd1 : tell go d (l.list.drop fr) = p1 at *
      obtain ⟨d1, b1⟩ := p1
      have hfl : fr - l.list.length = fr - l.list.length := rfl
      cases b1 with
      | false =>
        have HE : Hid (tell go d (l.list.drop fr ++ (x :: r.list).drop (fr - l.list.length)) = (d1, false)) := by unfold Hid; rw [tell_off go _ _ _ (by rw [hd1]), hd1]
        rw [HE.out]
        clear hd1 HE ihl ihr HR
        generalize l.list.length = nl at *
        go_enter Try.func85, Try.ntmps85
        go_wp2_with fail
        refine CN.out.mono ?_
        rintro e w1 ⟨rfl, hw1⟩
        obtain rfl : w = w1 := hw1.symm
        go_wp2_with fail
        refine CL.out.mono ?_
        rintro e w1 ⟨rfl, hw1⟩
        obtain rfl : w = w1 := hw1.symm
        clear CN CL
        go_wp2_with fail
        refine WL.out.mono ?_
        rintro e w2 ⟨rfl, hJ2⟩
        have HJ2 := hidIt hJ2
        clear hJ2
        go_wp2_with fail
        go_ret
        exact ⟨rfl, HJ2.out⟩
      | true =>
        have HE : Hid (tell go d (l.list.drop fr ++ (x :: r.list).drop (fr - l.list.length)) = tell go d1 ((x :: r.list).drop (fr - l.list.length))) := by unfold Hid; rw [tell_on go _ _ _ (by rw [hd1]), hd1]
        rw [HE.out]
        have hg1 : go d1 = true := TGO.out rfl
        by_cases hle : fr ≤ l.list.length
        · have e2 : (x :: r.list).drop (fr - l.list.length) = x :: r.list.drop 0 := by rw [show fr - l.list.length = 0 by omega]; rfl
          rw [e2]
          have HD1 : Hid ((d1 ++ ([x] ++ r.list)) <+: L) := by
            have h1 := HDL.out
            have h2 := TLN.out rfl
            simp only at h2
            rw [e2, ← List.append_assoc, ← h2] at h1
            exact h1
          simp only [tell]
          have hle' : (fr : Int) ≤ (l.list.length : Int) := by omega
          have hmx : (fr : Int) - l.list.length - 1 < 0 := by omega
          have hmx' : ¬ 0 ≤ (fr : Int) - l.list.length - 1 := by omega
          have YC := hidIt (fun w' hJ' => Y.call d1 x w' hJ' hg1 (pre_left HD1.out))
          have WR := hidIt (fun w' hJ' hgg => ihr rv 0 (d1 ++ [x]) w' HR.out hll.2 hJ' hgg (by have := HD1.out; rw [← List.append_assoc] at this; exact this))
          clear hd1 HE ihl ihr HR e2 hfl hlt'
          generalize l.list.length = nl at *
          generalize hgx : go (d1 ++ [x]) = b2 at *
          cases b2 with
          | false =>
            simp only [if_neg (show ¬ false = true by simp)]
            go_enter Try.func85, Try.ntmps85
            go_wp2_with fail
            refine CN.out.mono ?_
            rintro e w1 ⟨rfl, hw1⟩
            obtain rfl : w = w1 := hw1.symm
            go_wp2_with fail
            refine CL.out.mono ?_
            rintro e w1 ⟨rfl, hw1⟩
            obtain rfl : w = w1 := hw1.symm
            clear CN CL
            go_wp2_with fail
            refine WL.out.mono ?_
            rintro e w2 ⟨rfl, hJ2⟩
            have HJ2 := hidIt hJ2
            clear c0 c1 c2 c3 hgl hJ2
            obtain ⟨c0, c1, c2, c3, hgl⟩ := HN.out d1 w2 HJ2.out
            go_wp2_with fail
            refine (YC.out w2 HJ2.out).mono ?_
            rintro e w3 ⟨rfl, hJ3⟩
            have HJ3 := hidIt hJ3
            clear c0 c1 c2 c3 hgl hJ3
            go_wp2_with fail
            go_ret
            exact ⟨rfl, HJ3.out⟩
          | true =>
            simp only [if_true]
            go_enter Try.func85, Try.ntmps85
            go_wp2_with fail
            refine CN.out.mono ?_
            rintro e w1 ⟨rfl, hw1⟩
            obtain rfl : w = w1 := hw1.symm
            go_wp2_with fail
            refine CL.out.mono ?_
            rintro e w1 ⟨rfl, hw1⟩
            obtain rfl : w = w1 := hw1.symm
            clear CN CL
            go_wp2_with fail
            refine WL.out.mono ?_
            rintro e w2 ⟨rfl, hJ2⟩
            have HJ2 := hidIt hJ2
            clear c0 c1 c2 c3 hgl hJ2
            obtain ⟨c0, c1, c2, c3, hgl⟩ := HN.out d1 w2 HJ2.out
            go_wp2_with fail
            refine (YC.out w2 HJ2.out).mono ?_
            rintro e w3 ⟨rfl, hJ3⟩
            have HJ3 := hidIt hJ3
            clear c0 c1 c2 c3 hgl hJ3
            obtain ⟨c0, c1, c2, c3, hgl⟩ := HN.out (d1 ++ [x]) w3 HJ3.out
            go_wp2_with fail
            refine (WR.out w3 HJ3.out (by trivial)).mono ?_
            rintro e w4 ⟨rfl, hJ4⟩
            have HJ4 := hidIt hJ4
            clear hJ4
            go_wp2_with fail
            go_ret
            exact ⟨rfl, HJ4.out⟩
        · have e2 : (x :: r.list).drop (fr - l.list.length) = r.list.drop (fr - l.list.length - 1) := by
            obtain ⟨m, hm⟩ : ∃ m, fr - l.list.length = m + 1 := ⟨fr - l.list.length - 1, by omega⟩
            rw [hm]; rfl
          rw [e2]
          obtain ⟨q, hq⟩ : ∃ q : Nat, q = fr - l.list.length - 1 := ⟨_, rfl⟩
          rw [← hq]
          have hle' : ¬ (fr : Int) ≤ (l.list.length : Int) := by omega
          have hled : decide ((fr : Int) ≤ (l.list.length : Int)) = false := by simpa using hle'
          have hsb : (fr : Int) - l.list.length - 1 = (q : Int) := by omega
          have hq0 : ¬ (q : Int) < 0 := by omega
          have WR := hidIt (fun w' hJ' => ihr rv q d1 w' HR.out hll.2 hJ' hg1 (by have h1 := HDL.out; have h2 := TLN.out rfl; simp only at h2; rw [e2, ← hq, ← List.append_assoc, ← h2] at h1; exact h1))
          have hfr : (fr : Int) ≤ 9223372036854775807 := by have := HLEN.out; omega
          have HQ := hidIt hq
          clear hd1 HE ihl ihr HR e2 hfl hlt' hq
          generalize l.list.length = nl at *
          go_enter Try.func85, Try.ntmps85
          go_wp2_with fail
          refine CN.out.mono ?_
          rintro e w1 ⟨rfl, hw1⟩
          obtain rfl : w = w1 := hw1.symm
          go_wp2_with fail
          refine CL.out.mono ?_
          rintro e w1 ⟨rfl, hw1⟩
          obtain rfl : w = w1 := hw1.symm
          clear CN CL
          go_wp2_with fail
          refine WL.out.mono ?_
          rintro e w2 ⟨rfl, hJ2⟩
          have HJ2 := hidIt hJ2
          clear c0 c1 c2 c3 hgl hJ2
          obtain ⟨c0, c1, c2, c3, hgl⟩ := HN.out d1 w2 HJ2.out
          go_wp2_with fail
          refine (WR.out w2 HJ2.out).mono ?_
          rintro e w4 ⟨rfl, hJ4⟩
          have HJ4 := hidIt hJ4
          clear hJ4
          go_wp2_with fail
          go_ret
          exact ⟨rfl, HJ4.out⟩
end Go.Proofs.Ytcdamhgblolofaa.W
