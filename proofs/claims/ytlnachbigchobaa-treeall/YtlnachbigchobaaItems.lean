/- The iterators: walk, Items. -/
import Derived.Test.YtlnachbigchobaaWood
namespace Go.Proofs.Ytlnachbigchobaa
open Go.RowKit

/-- What is told, of things that come one by one behind d, as long as go lets it; and whether it was let go on to the end. -/
def tell (go : List It → Bool) : List It → List It → List It × Bool
  | d, [] => (d, true)
  | d, x :: xs => if go (d ++ [x]) = true then tell go (d ++ [x]) xs else (d ++ [x], false)
theorem tell_on (go : List It → Bool) (b : List It) : ∀ (a d : List It), (tell go d a).2 = true → tell go d (a ++ b) = tell go (tell go d a).1 b
  | [], d, _ => rfl
  | x :: a, d, h2 => by
    simp only [List.cons_append, tell] at h2 ⊢
    by_cases h : go (d ++ [x]) = true
    · simp only [if_pos h] at h2 ⊢; exact tell_on go b a _ h2
    · simp only [if_neg h] at h2; cases h2
theorem tell_off (go : List It → Bool) (b : List It) : ∀ (a d : List It), (tell go d a).2 = false → tell go d (a ++ b) = tell go d a
  | [], d, h => by cases h
  | x :: a, d, h2 => by
    simp only [List.cons_append, tell] at h2 ⊢
    by_cases h : go (d ++ [x]) = true
    · simp only [if_pos h] at h2 ⊢; exact tell_off go b a _ h2
    · simp only [if_neg h]
theorem tell_go (go : List It → Bool) : ∀ (a d : List It), go d = true → (tell go d a).2 = true → go (tell go d a).1 = true
  | [], d, h, _ => h
  | x :: a, d, h, h2 => by
    simp only [tell] at h2 ⊢
    by_cases h3 : go (d ++ [x]) = true
    · rw [if_pos h3] at h2 ⊢; exact tell_go go a _ h3 h2
    · rw [if_neg h3] at h2; cases h2

theorem tell_len (go : List It → Bool) : ∀ (a d : List It), (tell go d a).1.length ≤ d.length + a.length
  | [], d => by simp [tell]
  | x :: a, d => by
    simp only [tell]
    by_cases h : go (d ++ [x]) = true
    · rw [if_pos h]
      have := tell_len go a (d ++ [x])
      simp only [List.length_append, List.length_cons, List.length_nil] at this ⊢
      omega
    · rw [if_neg h]
      simp
theorem tell_take (k : Nat) : ∀ (a d : List It), d.length < k → tell (fun d => decide (d.length < k)) d a = (d ++ a.take (k - d.length), decide (d.length + a.length < k))
  | [], d, h => by simp [tell, h]
  | x :: a, d, h => by
    simp only [tell]
    by_cases h2 : (d ++ [x]).length < k
    · rw [if_pos (by simpa using h2), tell_take k a (d ++ [x]) h2]
      simp only [List.length_append, List.length_cons, List.length_nil] at h2 ⊢
      rw [show k - d.length = (k - (d.length + (0 + 1))) + 1 by omega, List.take_succ_cons, List.append_assoc]
      simp only [List.singleton_append]
      congr 1
      simp only [decide_eq_decide]
      omega
    · rw [if_neg (by simpa using h2)]
      simp only [List.length_append, List.length_cons, List.length_nil] at h2 ⊢
      rw [show k - d.length = 0 + 1 by omega, List.take_succ_cons, List.take_zero]
      congr 1
      simp
      omega

/-- A yield: what each of its calls does to what was told. -/
structure Yields (yf : Nat) (caps : Array Value) (go : List It → Bool) (J : List It → World → Prop) (w0 : World) : Prop where
  call : ∀ (d : List It) (x : It) (w : World), J d w → go d = true → d.length < 4194304 → Calls Try.prog yf (#[.agg #[.int .i64 x.1, .int .i64 x.2]] ++ caps) w fun e w' => e = .returned (.bool (go (d ++ [x]))) ∧ J (d ++ [x]) w'
  fr : ∀ d w, J d w → Below w0.heap.size w0 w

set_option maxRecDepth 100000 in
set_option maxHeartbeats 2000000 in
theorem walkT_any {caps : Array Value} {go : List It → Bool} {J : List It → World → Prop} {w0 : World} (Y : Yields 96 caps go J w0) (t : Tr It) : ∀ (u : Option Addr) (fr : Nat) (d : List It) (w : World), Tin w0 t u → t.list.length ≤ 4194304 → J d w → go d = true → d.length + (t.list.drop fr).length ≤ 4194304 →
    Calls Try.prog 95 #[.pointer u, .int .i64 fr, .func (.func 96) #[] caps] w fun e w' => e = .returned (.bool (tell go d (t.list.drop fr)).2) ∧ J (tell go d (t.list.drop fr)).1 w' := by
  induction t using Tr.ind with
  | nil =>
    intro u fr d w hT _ hJ hg _
    have hT' := hT.ext (Y.fr d w hJ)
    simp only [Tr.list, List.drop_nil, tell]
    have HJ := hidIt hJ
    have CN : Hid (Calls Try.prog 42 #[.pointer u] w fun e w' => e = .returned (.int .i64 0) ∧ w' = w) := count_any .nil u w hT'
    clear hT hT' hJ
    go_enter Try.func95, Try.ntmps95
    go_wp2_with (go_at_call 42; refine CN.out.mono ?_; rintro e w1 ⟨rfl, hw1⟩; obtain rfl : w = w1 := hw1.symm; clear CN; have h00 : (0 : Int) ≤ (fr : Int) := (by omega))
    go_ret
    exact ⟨rfl, HJ.out⟩
  | node l x r ihl ihr =>
    intro u fr d w hT hlen hJ hg hdl
    have CN := hidIt (count_any (.node l x r) u w (hT.ext (Y.fr d w hJ)))
    have HLEN : Hid ((Tr.node l x r).list.length = l.list.length + 1 + r.list.length) := by unfold Hid; simp only [Tr.list, List.length_append, List.length_cons]; omega
    by_cases hge : (Tr.node l x r).list.length ≤ fr
    · rw [List.drop_of_length_le hge]
      simp only [tell]
      generalize (Tr.node l x r).list.length = n at *
      have hge' : (n : Int) ≤ (fr : Int) := by omega
      have HJ := hidIt hJ
      clear hT hJ
      go_enter Try.func95, Try.ntmps95
      go_wp2_with (go_at_call 42; refine CN.out.mono ?_; rintro e w1 ⟨rfl, hw1⟩; obtain rfl : w = w1 := hw1.symm; clear CN)
      go_ret
      exact ⟨rfl, HJ.out⟩
    · obtain ⟨g, lv, rv, rfl, hb, hl, hr⟩ := hT
      have HN : Hid (∀ d' w', J d' w' → (w'.cell? ⟨g, 0, none⟩ = some (.int .i64 x.1) ∧ w'.cell? ⟨g, 1, none⟩ = some (.int .i64 x.2) ∧ w'.cell? ⟨g, 2, none⟩ = some (.pointer lv) ∧ w'.cell? ⟨g, 3, none⟩ = some (.pointer rv) ∧ g < w'.heap.size)) := fun d' w' hJ' => by
        have hb' := (Y.fr d' w' hJ').block _ (Array.getElem?_eq_some_iff.1 hb).1
        rw [hb] at hb'
        refine ⟨?_, ?_, ?_, ?_, (Array.getElem?_eq_some_iff.1 hb').1⟩
        · rw [cell_of_row w' g 0 _ _ _ hb']; rfl
        · rw [cell_of_row w' g 1 _ _ _ hb']; rfl
        · rw [cell_of_row w' g 2 _ _ _ hb']; rfl
        · rw [cell_of_row w' g 3 _ _ _ hb']; rfl
      have CL := hidIt (count_any l lv w (hl.ext (Y.fr d w hJ)))
      have e1 : (Tr.node l x r).list.drop fr = l.list.drop fr ++ (x :: r.list).drop (fr - l.list.length) := by simp only [Tr.list]; rw [List.drop_append]
      rw [e1, List.length_append] at hdl
      rw [e1]
      have HDL := hidIt hdl
      clear hdl
      have hlt' : ¬ ((Tr.node l x r).list.length : Int) ≤ (fr : Int) := by omega
      have hl2 : (Tr.node l x r).list.length ≤ 4194304 := hlen
      have hll : l.list.length ≤ 4194304 ∧ r.list.length ≤ 4194304 := by have := HLEN.out; omega
      generalize (Tr.node l x r).list.length = n at *
      obtain ⟨c0, c1, c2, c3, hgl⟩ := HN.out d w hJ
      have WL := hidIt (ihl lv fr d w hl hll.1 hJ hg (by have := HDL.out; omega))
      have HR := hidIt hr
      have TGO := hidIt (tell_go go (l.list.drop fr) d hg)
      clear hb e1 hr
      have TLN := hidIt (tell_len go (l.list.drop fr) d)
      generalize hd1 : tell go d (l.list.drop fr) = p1 at *
      obtain ⟨d1, b1⟩ := p1
      have hfl : fr - l.list.length = fr - l.list.length := rfl
      cases b1 with
      | false =>
        have HE : Hid (tell go d (l.list.drop fr ++ (x :: r.list).drop (fr - l.list.length)) = (d1, false)) := by unfold Hid; rw [tell_off go _ _ _ (by rw [hd1]), hd1]
        rw [HE.out]
        clear hd1 HE ihl ihr HR
        generalize l.list.length = nl at *
        go_enter Try.func95, Try.ntmps95
        go_wp2_with fail
        refine CN.out.mono ?_
        rintro e w1 ⟨rfl, hw1⟩
        obtain rfl : w = w1 := hw1.symm
        go_wp2_with fail
        refine CL.out.mono ?_
        rintro e w1 ⟨rfl, hw1⟩
        obtain rfl : w = w1 := hw1.symm
        clear CN CL
        go_wp2_with fail
        refine WL.out.mono ?_
        rintro e w2 ⟨rfl, hJ2⟩
        have HJ2 := hidIt hJ2
        clear hJ2
        go_wp2_with fail
        go_ret
        exact ⟨rfl, HJ2.out⟩
      | true =>
        have HE : Hid (tell go d (l.list.drop fr ++ (x :: r.list).drop (fr - l.list.length)) = tell go d1 ((x :: r.list).drop (fr - l.list.length))) := by unfold Hid; rw [tell_on go _ _ _ (by rw [hd1]), hd1]
        rw [HE.out]
        have hg1 : go d1 = true := TGO.out rfl
        by_cases hle : fr ≤ l.list.length
        · have e2 : (x :: r.list).drop (fr - l.list.length) = x :: r.list.drop 0 := by rw [show fr - l.list.length = 0 by omega]; rfl
          rw [e2]
          have HD1 : Hid (d1.length + 1 + r.list.length ≤ 4194304) := by
            have h1 := HDL.out
            have h2 := TLN.out
            rw [e2] at h1
            simp only [List.length_cons, List.drop_zero] at h1 h2
            unfold Hid
            omega
          simp only [tell]
          have hle' : (fr : Int) ≤ (l.list.length : Int) := by omega
          have hmx : (fr : Int) - l.list.length - 1 < 0 := by omega
          have hmx' : ¬ 0 ≤ (fr : Int) - l.list.length - 1 := by omega
          have YC := hidIt (fun w' hJ' => Y.call d1 x w' hJ' hg1 (by have := HD1.out; omega))
          have WR := hidIt (fun w' hJ' hgg => ihr rv 0 (d1 ++ [x]) w' HR.out hll.2 hJ' hgg (by have := HD1.out; simp only [List.length_append, List.length_cons, List.length_nil, List.drop_zero]; omega))
          clear hd1 HE ihl ihr HR e2 hfl hlt'
          generalize l.list.length = nl at *
          generalize hgx : go (d1 ++ [x]) = b2 at *
          cases b2 with
          | false =>
            simp only [if_neg (show ¬ false = true by simp)]
            go_enter Try.func95, Try.ntmps95
            go_wp2_with fail
            refine CN.out.mono ?_
            rintro e w1 ⟨rfl, hw1⟩
            obtain rfl : w = w1 := hw1.symm
            go_wp2_with fail
            refine CL.out.mono ?_
            rintro e w1 ⟨rfl, hw1⟩
            obtain rfl : w = w1 := hw1.symm
            clear CN CL
            go_wp2_with fail
            refine WL.out.mono ?_
            rintro e w2 ⟨rfl, hJ2⟩
            have HJ2 := hidIt hJ2
            clear c0 c1 c2 c3 hgl hJ2
            obtain ⟨c0, c1, c2, c3, hgl⟩ := HN.out d1 w2 HJ2.out
            go_wp2_with fail
            refine (YC.out w2 HJ2.out).mono ?_
            rintro e w3 ⟨rfl, hJ3⟩
            have HJ3 := hidIt hJ3
            clear c0 c1 c2 c3 hgl hJ3
            go_wp2_with fail
            go_ret
            exact ⟨rfl, HJ3.out⟩
          | true =>
            simp only [if_true]
            go_enter Try.func95, Try.ntmps95
            go_wp2_with fail
            refine CN.out.mono ?_
            rintro e w1 ⟨rfl, hw1⟩
            obtain rfl : w = w1 := hw1.symm
            go_wp2_with fail
            refine CL.out.mono ?_
            rintro e w1 ⟨rfl, hw1⟩
            obtain rfl : w = w1 := hw1.symm
            clear CN CL
            go_wp2_with fail
            refine WL.out.mono ?_
            rintro e w2 ⟨rfl, hJ2⟩
            have HJ2 := hidIt hJ2
            clear c0 c1 c2 c3 hgl hJ2
            obtain ⟨c0, c1, c2, c3, hgl⟩ := HN.out d1 w2 HJ2.out
            go_wp2_with fail
            refine (YC.out w2 HJ2.out).mono ?_
            rintro e w3 ⟨rfl, hJ3⟩
            have HJ3 := hidIt hJ3
            clear c0 c1 c2 c3 hgl hJ3
            obtain ⟨c0, c1, c2, c3, hgl⟩ := HN.out (d1 ++ [x]) w3 HJ3.out
            go_wp2_with fail
            refine (WR.out w3 HJ3.out (by trivial)).mono ?_
            rintro e w4 ⟨rfl, hJ4⟩
            have HJ4 := hidIt hJ4
            clear hJ4
            go_wp2_with fail
            go_ret
            exact ⟨rfl, HJ4.out⟩
        · have e2 : (x :: r.list).drop (fr - l.list.length) = r.list.drop (fr - l.list.length - 1) := by
            obtain ⟨m, hm⟩ : ∃ m, fr - l.list.length = m + 1 := ⟨fr - l.list.length - 1, by omega⟩
            rw [hm]; rfl
          rw [e2]
          obtain ⟨q, hq⟩ : ∃ q : Nat, q = fr - l.list.length - 1 := ⟨_, rfl⟩
          rw [← hq]
          have hle' : ¬ (fr : Int) ≤ (l.list.length : Int) := by omega
          have hled : decide ((fr : Int) ≤ (l.list.length : Int)) = false := by simpa using hle'
          have hsb : (fr : Int) - l.list.length - 1 = (q : Int) := by omega
          have hq0 : ¬ (q : Int) < 0 := by omega
          have WR := hidIt (fun w' hJ' => ihr rv q d1 w' HR.out hll.2 hJ' hg1 (by have h1 := HDL.out; have h2 := TLN.out; rw [e2, ← hq] at h1; simp only at h2; omega))
          have hfr : (fr : Int) ≤ 9223372036854775807 := by have := HLEN.out; omega
          have HQ := hidIt hq
          clear hd1 HE ihl ihr HR e2 hfl hlt' hq
          generalize l.list.length = nl at *
          go_enter Try.func95, Try.ntmps95
          go_wp2_with fail
          refine CN.out.mono ?_
          rintro e w1 ⟨rfl, hw1⟩
          obtain rfl : w = w1 := hw1.symm
          go_wp2_with fail
          refine CL.out.mono ?_
          rintro e w1 ⟨rfl, hw1⟩
          obtain rfl : w = w1 := hw1.symm
          clear CN CL
          go_wp2_with fail
          refine WL.out.mono ?_
          rintro e w2 ⟨rfl, hJ2⟩
          have HJ2 := hidIt hJ2
          clear c0 c1 c2 c3 hgl hJ2
          obtain ⟨c0, c1, c2, c3, hgl⟩ := HN.out d1 w2 HJ2.out
          go_wp2_with fail
          refine (WR.out w2 HJ2.out).mono ?_
          rintro e w4 ⟨rfl, hJ4⟩
          have HJ4 := hidIt hJ4
          clear hJ4
          go_wp2_with fail
          go_ret
          exact ⟨rfl, HJ4.out⟩
set_option maxRecDepth 100000 in
set_option maxHeartbeats 2000000 in
theorem walkN_any {caps : Array Value} {go : List It → Bool} {J : List It → World → Prop} {w0 : World} (Y : Yields 97 caps go J w0) (t : Tr It) : ∀ (u : Option Addr) (fr : Nat) (d : List It) (w : World), Tin w0 t u → t.list.length ≤ 4194304 → J d w → go d = true → d.length + (t.list.drop fr).length ≤ 4194304 →
    Calls Try.prog 95 #[.pointer u, .int .i64 fr, .func (.func 97) #[] caps] w fun e w' => e = .returned (.bool (tell go d (t.list.drop fr)).2) ∧ J (tell go d (t.list.drop fr)).1 w' := by
  induction t using Tr.ind with
  | nil =>
    intro u fr d w hT _ hJ hg _
    have hT' := hT.ext (Y.fr d w hJ)
    simp only [Tr.list, List.drop_nil, tell]
    have HJ := hidIt hJ
    have CN : Hid (Calls Try.prog 42 #[.pointer u] w fun e w' => e = .returned (.int .i64 0) ∧ w' = w) := count_any .nil u w hT'
    clear hT hT' hJ
    go_enter Try.func95, Try.ntmps95
    go_wp2_with (go_at_call 42; refine CN.out.mono ?_; rintro e w1 ⟨rfl, hw1⟩; obtain rfl : w = w1 := hw1.symm; clear CN; have h00 : (0 : Int) ≤ (fr : Int) := (by omega))
    go_ret
    exact ⟨rfl, HJ.out⟩
  | node l x r ihl ihr =>
    intro u fr d w hT hlen hJ hg hdl
    have CN := hidIt (count_any (.node l x r) u w (hT.ext (Y.fr d w hJ)))
    have HLEN : Hid ((Tr.node l x r).list.length = l.list.length + 1 + r.list.length) := by unfold Hid; simp only [Tr.list, List.length_append, List.length_cons]; omega
    by_cases hge : (Tr.node l x r).list.length ≤ fr
    · rw [List.drop_of_length_le hge]
      simp only [tell]
      generalize (Tr.node l x r).list.length = n at *
      have hge' : (n : Int) ≤ (fr : Int) := by omega
      have HJ := hidIt hJ
      clear hT hJ
      go_enter Try.func95, Try.ntmps95
      go_wp2_with (go_at_call 42; refine CN.out.mono ?_; rintro e w1 ⟨rfl, hw1⟩; obtain rfl : w = w1 := hw1.symm; clear CN)
      go_ret
      exact ⟨rfl, HJ.out⟩
    · obtain ⟨g, lv, rv, rfl, hb, hl, hr⟩ := hT
      have HN : Hid (∀ d' w', J d' w' → (w'.cell? ⟨g, 0, none⟩ = some (.int .i64 x.1) ∧ w'.cell? ⟨g, 1, none⟩ = some (.int .i64 x.2) ∧ w'.cell? ⟨g, 2, none⟩ = some (.pointer lv) ∧ w'.cell? ⟨g, 3, none⟩ = some (.pointer rv) ∧ g < w'.heap.size)) := fun d' w' hJ' => by
        have hb' := (Y.fr d' w' hJ').block _ (Array.getElem?_eq_some_iff.1 hb).1
        rw [hb] at hb'
        refine ⟨?_, ?_, ?_, ?_, (Array.getElem?_eq_some_iff.1 hb').1⟩
        · rw [cell_of_row w' g 0 _ _ _ hb']; rfl
        · rw [cell_of_row w' g 1 _ _ _ hb']; rfl
        · rw [cell_of_row w' g 2 _ _ _ hb']; rfl
        · rw [cell_of_row w' g 3 _ _ _ hb']; rfl
      have CL := hidIt (count_any l lv w (hl.ext (Y.fr d w hJ)))
      have e1 : (Tr.node l x r).list.drop fr = l.list.drop fr ++ (x :: r.list).drop (fr - l.list.length) := by simp only [Tr.list]; rw [List.drop_append]
      rw [e1, List.length_append] at hdl
      rw [e1]
      have HDL := hidIt hdl
      clear hdl
      have hlt' : ¬ ((Tr.node l x r).list.length : Int) ≤ (fr : Int) := by omega
      have hl2 : (Tr.node l x r).list.length ≤ 4194304 := hlen
      have hll : l.list.length ≤ 4194304 ∧ r.list.length ≤ 4194304 := by have := HLEN.out; omega
      generalize (Tr.node l x r).list.length = n at *
      obtain ⟨c0, c1, c2, c3, hgl⟩ := HN.out d w hJ
      have WL := hidIt (ihl lv fr d w hl hll.1 hJ hg (by have := HDL.out; omega))
      have HR := hidIt hr
      have TGO := hidIt (tell_go go (l.list.drop fr) d hg)
      clear hb e1 hr
      have TLN := hidIt (tell_len go (l.list.drop fr) d)
      generalize hd1 : tell go d (l.list.drop fr) = p1 at *
      obtain ⟨d1, b1⟩ := p1
      have hfl : fr - l.list.length = fr - l.list.length := rfl
      cases b1 with
      | false =>
        have HE : Hid (tell go d (l.list.drop fr ++ (x :: r.list).drop (fr - l.list.length)) = (d1, false)) := by unfold Hid; rw [tell_off go _ _ _ (by rw [hd1]), hd1]
        rw [HE.out]
        clear hd1 HE ihl ihr HR
        generalize l.list.length = nl at *
        go_enter Try.func95, Try.ntmps95
        go_wp2_with fail
        refine CN.out.mono ?_
        rintro e w1 ⟨rfl, hw1⟩
        obtain rfl : w = w1 := hw1.symm
        go_wp2_with fail
        refine CL.out.mono ?_
        rintro e w1 ⟨rfl, hw1⟩
        obtain rfl : w = w1 := hw1.symm
        clear CN CL
        go_wp2_with fail
        refine WL.out.mono ?_
        rintro e w2 ⟨rfl, hJ2⟩
        have HJ2 := hidIt hJ2
        clear hJ2
        go_wp2_with fail
        go_ret
        exact ⟨rfl, HJ2.out⟩
      | true =>
        have HE : Hid (tell go d (l.list.drop fr ++ (x :: r.list).drop (fr - l.list.length)) = tell go d1 ((x :: r.list).drop (fr - l.list.length))) := by unfold Hid; rw [tell_on go _ _ _ (by rw [hd1]), hd1]
        rw [HE.out]
        have hg1 : go d1 = true := TGO.out rfl
        by_cases hle : fr ≤ l.list.length
        · have e2 : (x :: r.list).drop (fr - l.list.length) = x :: r.list.drop 0 := by rw [show fr - l.list.length = 0 by omega]; rfl
          rw [e2]
          have HD1 : Hid (d1.length + 1 + r.list.length ≤ 4194304) := by
            have h1 := HDL.out
            have h2 := TLN.out
            rw [e2] at h1
            simp only [List.length_cons, List.drop_zero] at h1 h2
            unfold Hid
            omega
          simp only [tell]
          have hle' : (fr : Int) ≤ (l.list.length : Int) := by omega
          have hmx : (fr : Int) - l.list.length - 1 < 0 := by omega
          have hmx' : ¬ 0 ≤ (fr : Int) - l.list.length - 1 := by omega
          have YC := hidIt (fun w' hJ' => Y.call d1 x w' hJ' hg1 (by have := HD1.out; omega))
          have WR := hidIt (fun w' hJ' hgg => ihr rv 0 (d1 ++ [x]) w' HR.out hll.2 hJ' hgg (by have := HD1.out; simp only [List.length_append, List.length_cons, List.length_nil, List.drop_zero]; omega))
          clear hd1 HE ihl ihr HR e2 hfl hlt'
          generalize l.list.length = nl at *
          generalize hgx : go (d1 ++ [x]) = b2 at *
          cases b2 with
          | false =>
            simp only [if_neg (show ¬ false = true by simp)]
            go_enter Try.func95, Try.ntmps95
            go_wp2_with fail
            refine CN.out.mono ?_
            rintro e w1 ⟨rfl, hw1⟩
            obtain rfl : w = w1 := hw1.symm
            go_wp2_with fail
            refine CL.out.mono ?_
            rintro e w1 ⟨rfl, hw1⟩
            obtain rfl : w = w1 := hw1.symm
            clear CN CL
            go_wp2_with fail
            refine WL.out.mono ?_
            rintro e w2 ⟨rfl, hJ2⟩
            have HJ2 := hidIt hJ2
            clear c0 c1 c2 c3 hgl hJ2
            obtain ⟨c0, c1, c2, c3, hgl⟩ := HN.out d1 w2 HJ2.out
            go_wp2_with fail
            refine (YC.out w2 HJ2.out).mono ?_
            rintro e w3 ⟨rfl, hJ3⟩
            have HJ3 := hidIt hJ3
            clear c0 c1 c2 c3 hgl hJ3
            go_wp2_with fail
            go_ret
            exact ⟨rfl, HJ3.out⟩
          | true =>
            simp only [if_true]
            go_enter Try.func95, Try.ntmps95
            go_wp2_with fail
            refine CN.out.mono ?_
            rintro e w1 ⟨rfl, hw1⟩
            obtain rfl : w = w1 := hw1.symm
            go_wp2_with fail
            refine CL.out.mono ?_
            rintro e w1 ⟨rfl, hw1⟩
            obtain rfl : w = w1 := hw1.symm
            clear CN CL
            go_wp2_with fail
            refine WL.out.mono ?_
            rintro e w2 ⟨rfl, hJ2⟩
            have HJ2 := hidIt hJ2
            clear c0 c1 c2 c3 hgl hJ2
            obtain ⟨c0, c1, c2, c3, hgl⟩ := HN.out d1 w2 HJ2.out
            go_wp2_with fail
            refine (YC.out w2 HJ2.out).mono ?_
            rintro e w3 ⟨rfl, hJ3⟩
            have HJ3 := hidIt hJ3
            clear c0 c1 c2 c3 hgl hJ3
            obtain ⟨c0, c1, c2, c3, hgl⟩ := HN.out (d1 ++ [x]) w3 HJ3.out
            go_wp2_with fail
            refine (WR.out w3 HJ3.out (by trivial)).mono ?_
            rintro e w4 ⟨rfl, hJ4⟩
            have HJ4 := hidIt hJ4
            clear hJ4
            go_wp2_with fail
            go_ret
            exact ⟨rfl, HJ4.out⟩
        · have e2 : (x :: r.list).drop (fr - l.list.length) = r.list.drop (fr - l.list.length - 1) := by
            obtain ⟨m, hm⟩ : ∃ m, fr - l.list.length = m + 1 := ⟨fr - l.list.length - 1, by omega⟩
            rw [hm]; rfl
          rw [e2]
          obtain ⟨q, hq⟩ : ∃ q : Nat, q = fr - l.list.length - 1 := ⟨_, rfl⟩
          rw [← hq]
          have hle' : ¬ (fr : Int) ≤ (l.list.length : Int) := by omega
          have hled : decide ((fr : Int) ≤ (l.list.length : Int)) = false := by simpa using hle'
          have hsb : (fr : Int) - l.list.length - 1 = (q : Int) := by omega
          have hq0 : ¬ (q : Int) < 0 := by omega
          have WR := hidIt (fun w' hJ' => ihr rv q d1 w' HR.out hll.2 hJ' hg1 (by have h1 := HDL.out; have h2 := TLN.out; rw [e2, ← hq] at h1; simp only at h2; omega))
          have hfr : (fr : Int) ≤ 9223372036854775807 := by have := HLEN.out; omega
          have HQ := hidIt hq
          clear hd1 HE ihl ihr HR e2 hfl hlt' hq
          generalize l.list.length = nl at *
          go_enter Try.func95, Try.ntmps95
          go_wp2_with fail
          refine CN.out.mono ?_
          rintro e w1 ⟨rfl, hw1⟩
          obtain rfl : w = w1 := hw1.symm
          go_wp2_with fail
          refine CL.out.mono ?_
          rintro e w1 ⟨rfl, hw1⟩
          obtain rfl : w = w1 := hw1.symm
          clear CN CL
          go_wp2_with fail
          refine WL.out.mono ?_
          rintro e w2 ⟨rfl, hJ2⟩
          have HJ2 := hidIt hJ2
          clear c0 c1 c2 c3 hgl hJ2
          obtain ⟨c0, c1, c2, c3, hgl⟩ := HN.out d1 w2 HJ2.out
          go_wp2_with fail
          refine (WR.out w2 HJ2.out).mono ?_
          rintro e w4 ⟨rfl, hJ4⟩
          have HJ4 := hidIt hJ4
          clear hJ4
          go_wp2_with fail
          go_ret
          exact ⟨rfl, HJ4.out⟩
end Go.Proofs.Ytlnachbigchobaa
