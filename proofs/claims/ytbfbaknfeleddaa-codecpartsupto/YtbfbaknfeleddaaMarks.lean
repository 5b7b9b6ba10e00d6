/- Marks: Mark and Detect of the code and of the document's answer. -/
import Derived.Test.YtbfbaknfeleddaaRefSmall
import Derived.Test.YtbfbaknfeleddaaPre
namespace Go.Proofs.Ytbfbaknfeleddaa
open Go.RowKit

def Cx.mk (enc : Int) : List Int := if enc = 1 then [239, 187, 191] else if enc = 2 then [255, 254] else if enc = 3 then [254, 255] else []
def Cx.hit (z : List Int) (enc : Int) : Bool := !(Cx.mk enc).isEmpty && (Cx.mk enc).isPrefixOf z
def Cx.det (z : List Int) : Int × Int := if Cx.hit z 1 then (1, 3) else if Cx.hit z 2 then (2, 2) else if Cx.hit z 3 then (3, 2) else (0, 0)

theorem m_mark1 (w : World) : (method 239 99 (.agg #[]) "copyist/codec.mark").run Try.prog w = .ok (115, .agg #[]) w := by kernel_rfl
theorem m_mark2 (k : Int) (w : World) : (method 239 101 (.agg #[.int .i64 k]) "copyist/codec.mark").run Try.prog w = .ok (125, .agg #[.int .i64 k]) w := by kernel_rfl
theorem m_mark4 (w : World) : (method 239 102 (.agg #[]) "copyist/codec.mark").run Try.prog w = .ok (137, .agg #[]) w := by kernel_rfl

theorem Rd.nil (k : IntKind) (w : World) : Rd k w (.slice none 0 0) [] := ⟨none, 0, rfl, Nat.le_refl _, by simp [maxLen], fun h => absurd rfl h⟩
/-- A literal in the newest block. -/
theorem Rd.lit (k : IntKind) (w : World) (e : TypeId) (zs : List Int) (hl : zs.length ≤ maxLen) : Rd k (w.alloc (.cells (zs.map (Value.int k)).toArray e)) (.slice (some ⟨w.heap.size, 0, none⟩) zs.length zs.length) zs := by
  have h := World.ownsRow_lit (base := w.heap.size) (e := e) (size := 1) w (zs.map (Value.int k)).toArray zs.length (Nat.le_refl _) hl (by simp)
  exact Rd.of_own (base := w.heap.size) (e := e) (n := zs.length) (by simpa using h)

theorem Rd.lit1 (k : IntKind) (w : World) (o : Obj) (e : TypeId) (zs : List Int) (hl : zs.length ≤ maxLen) : Rd k ((w.alloc o).alloc (.cells (zs.map (Value.int k)).toArray e)) (.slice (some ⟨w.heap.size + 1, 0, none⟩) zs.length zs.length) zs := by
  have h := Rd.lit k (w.alloc o) e zs hl
  rwa [World.size_alloc] at h

theorem Mark_any (enc : Int) (w : World) : Calls Try.prog 41 #[.int .i64 enc] w fun e w' => ∃ v, e = .returned v ∧ Rd .u8 w' v (Cx.mk enc) ∧ Below w.heap.size w w' := by
  by_cases h1 : enc = 1
  · subst h1
    have hm := m_mark1
    go_enter Try.func41, Try.ntmps41
    go_wp2_with (first | (go_at_call 54; refine (coderOf_1 _).mono ?_; rintro e w' ⟨rfl, rfl⟩) | go_in)
    go_ret
    refine ⟨_, rfl, ?_, ?_⟩
    · exact Rd.lit1 .u8 _ _ 5 [239, 187, 191] (by simp [maxLen])
    · exact ((Below.refl _ _).alloc (Nat.le_refl _) _).alloc (by simp) _
  by_cases h2 : enc = 2
  · subst h2
    have hm := m_mark2
    go_enter Try.func41, Try.ntmps41
    go_wp2_with (first | (go_at_call 54; refine (coderOf_2 _).mono ?_; rintro e w' ⟨rfl, rfl⟩) | go_in)
    go_ret
    refine ⟨_, rfl, ?_, ?_⟩
    · exact Rd.lit1 .u8 _ _ 5 [255, 254] (by simp [maxLen])
    · exact ((Below.refl _ _).alloc (Nat.le_refl _) _).alloc (by simp) _
  by_cases h3 : enc = 3
  · subst h3
    have hm := m_mark2
    go_enter Try.func41, Try.ntmps41
    go_wp2_with (first | (go_at_call 54; refine (coderOf_3 _).mono ?_; rintro e w' ⟨rfl, rfl⟩) | go_in)
    go_ret
    refine ⟨_, rfl, ?_, ?_⟩
    · exact Rd.lit1 .u8 _ _ 5 [254, 255] (by simp [maxLen])
    · exact ((Below.refl _ _).alloc (Nat.le_refl _) _).alloc (by simp) _
  have HE : Hid (Cx.mk enc = []) := by simp [Hid, Cx.mk, h1, h2, h3]
  by_cases h4 : enc = 4
  · subst h4
    have hm := m_mark4
    go_enter Try.func41, Try.ntmps41
    go_wp2_with (first | (go_at_call 54; refine (coderOf_4 _).mono ?_; rintro e w' ⟨rfl, rfl⟩) | go_in)
    go_ret
    refine ⟨_, rfl, ?_, ?_⟩
    · rw [HE.out]; exact Rd.nil _ _
    · exact (Below.refl _ _).alloc (Nat.le_refl _) _
  · go_enter Try.func41, Try.ntmps41
    go_wp2_with (go_at_call 54; refine (coderOf_no _ h1 h2 h3 h4 _).mono ?_; rintro e w' ⟨rfl, rfl⟩)
    go_ret
    exact ⟨_, rfl, by rw [HE.out]; exact Rd.nil _ _, Below.refl _ _⟩

theorem rMark_any (enc : Int) (w : World) : Calls Try.prog 49 #[.int .i64 enc] w fun e w' => ∃ v, e = .returned v ∧ Rd .u8 w' v (Cx.mk enc) ∧ Below w.heap.size w w' := by
  by_cases h1 : enc = 1
  · subst h1
    go_enter Try.func49, Try.ntmps49
    go_wp2
    go_ret
    exact ⟨_, rfl, Rd.lit .u8 w 5 [239, 187, 191] (by simp [maxLen]), (Below.refl _ _).alloc (Nat.le_refl _) _⟩
  by_cases h2 : enc = 2
  · subst h2
    go_enter Try.func49, Try.ntmps49
    go_wp2
    go_ret
    exact ⟨_, rfl, Rd.lit .u8 w 5 [255, 254] (by simp [maxLen]), (Below.refl _ _).alloc (Nat.le_refl _) _⟩
  by_cases h3 : enc = 3
  · subst h3
    go_enter Try.func49, Try.ntmps49
    go_wp2
    go_ret
    exact ⟨_, rfl, Rd.lit .u8 w 5 [254, 255] (by simp [maxLen]), (Below.refl _ _).alloc (Nat.le_refl _) _⟩
  · have HE : Hid (Cx.mk enc = []) := by simp [Hid, Cx.mk, h1, h2, h3]
    have b1 : (enc == 1) = false := by simp [h1]
    have b2 : (enc == 2) = false := by simp [h2]
    have b3 : (enc == 3) = false := by simp [h3]
    go_enter Try.func49, Try.ntmps49
    go_wp2
    go_ret
    exact ⟨_, rfl, by rw [HE.out]; exact Rd.nil _ _, Below.refl _ _⟩

theorem Cx.mk_byt (enc : Int) : Byt (Cx.mk enc) := by
  unfold Cx.mk Byt
  repeat' split
  all_goals simp
theorem Cx.mk_len (enc : Int) : (Cx.mk enc).length ≤ 3 := by
  unfold Cx.mk
  repeat' split
  all_goals simp

theorem Cx.hit_pre (z : List Int) (k : Int) (h : 0 < (Cx.mk k).length) : (Cx.mk k).isPrefixOf z = Cx.hit z k := by
  unfold Cx.hit
  cases hm : Cx.mk k with
  | nil => rw [hm] at h; simp at h
  | cons a l => simp

theorem Cx.det_hit (z : List Int) (k : Nat) (h1 : 1 ≤ k) (hh : Cx.hit z k = true) (hn : ∀ j : Nat, 1 ≤ j → j < k → Cx.hit z j = false) : Cx.det z = ((k : Int), ((Cx.mk k).length : Int)) := by
  have hk : k ≤ 3 := by
    unfold Cx.hit Cx.mk at hh
    repeat' split at hh
    all_goals first | omega | simp at hh
  unfold Cx.det
  have e : k = 1 ∨ k = 2 ∨ k = 3 := by omega
  rcases e with rfl | rfl | rfl
  · rw [if_pos (by simpa using hh)]; rfl
  · rw [if_neg (by have := hn 1 (by omega) (by omega); simpa using this), if_pos (by simpa using hh)]; rfl
  · rw [if_neg (by have := hn 1 (by omega) (by omega); simpa using this), if_neg (by have := hn 2 (by omega) (by omega); simpa using this), if_pos (by simpa using hh)]; rfl
theorem Cx.det_none (z : List Int) (hn : ∀ j : Nat, 1 ≤ j → j < 4 → Cx.hit z j = false) : Cx.det z = (0, 0) := by
  unfold Cx.det
  rw [if_neg (by have := hn 1 (by omega) (by omega); simpa using this), if_neg (by have := hn 2 (by omega) (by omega); simpa using this), if_neg (by have := hn 3 (by omega) (by omega); simpa using this)]
theorem Cx.hit_four (z : List Int) : Cx.hit z 4 = false := by simp [Cx.hit, Cx.mk]

theorem ret2_int {a b c d : Int} (h1 : a = c) (h2 : b = d) : Ending.returned (.tuple #[.int .i64 a, .int .i64 b]) = .returned (.tuple #[.int .i64 c, .int .i64 d]) := by rw [h1, h2]

set_option maxRecDepth 100000 in
theorem Detect_any (v : Value) (z : List Int) (w : World) (h : Rd .u8 w v z) (hb : Byt z) :
    Calls Try.prog 47 #[v] w fun e w' => e = .returned (.tuple #[.int .i64 (Cx.det z).1, .int .i64 (Cx.det z).2]) ∧ Below w.heap.size w w' := by
  have HR : Hid (Rd .u8 w v z) := h
  have HB : Hid (Byt z) := hb
  clear h hb
  go_enter Try.func47, Try.ntmps47
  go_wp2_with fail
  go_loopw [4] (fun i wr => ∃ k : Nat, 1 ≤ k ∧ k ≤ 5 ∧ i = .int .i64 k ∧ Hid (∀ j : Nat, 1 ≤ j → j < k → Cx.hit z j = false) ∧ Below w.heap.size w wr) (fun i _ => 5 - (intOf i).toNat)
  case atStart => exact ⟨1, Nat.le_refl _, by omega, rfl, fun j h1 h2 => by omega, Below.refl _ _⟩
  case round =>
    obtain ⟨k, hk1, hk2, rfl, HN, hbw⟩ := hrel
    by_cases hlt : k ≤ 4
    · go_wp2_with fail
      refine (Mark_any _ _).mono ?_
      rintro e w1 ⟨m, rfl, hrd, hb1⟩
      have hlm := Cx.mk_len (k : Int)
      have hbm := Cx.mk_byt (k : Int)
      have hpre := Cx.hit_pre z (k : Int)
      obtain ⟨ao, cp, rfl, _⟩ := id hrd
      have HM : Hid (Rd .u8 w1 (.slice ao (Cx.mk (k : Int)).length cp) (Cx.mk (k : Int))) := hrd
      have HBM : Hid (Byt (Cx.mk (k : Int))) := hbm
      have HR1 : Hid (Rd .u8 w1 v z) := HR.out.ext (ext_trans hbw hb1)
      have HW : Hid (Below w.heap.size w w1) := ext_trans hbw hb1
      have HD : Hid (Cx.hit z k = true → Cx.det z = ((k : Int), ((Cx.mk k).length : Int))) := fun hh => Cx.det_hit z k hk1 hh HN.out
      have HX : Hid (Cx.hit z k = false → ∀ j : Nat, 1 ≤ j → j < k + 1 → Cx.hit z j = false) := fun hh j h1 h2 => by
        by_cases hj : j = k
        · rw [hj]; exact hh
        · exact HN.out j h1 (by omega)
      have H0 : Hid ((Cx.mk (k : Int)).length = 0 → Cx.hit z k = false) := fun h0 => by
        have : Cx.mk (k : Int) = [] := List.length_eq_zero_iff.1 h0
        simp [Cx.hit, this]
      clear hrd hbm HN hbw hb1
      generalize hmn : Cx.mk (k : Int) = mm at *
      clear hmn
      by_cases h0 : mm.length = 0
      · have HF := H0.out h0
        have HY : Hid (∀ j : Nat, 1 ≤ j → j < k + 1 → Cx.hit z j = false) := HX.out HF
        have hmm : mm = [] := List.length_eq_zero_iff.1 h0
        subst hmm
        clear HX HD H0 hpre HF h0
        simp only [List.length_nil]
        go_wp2
        go_roundw
        case rel => exact ⟨k + 1, by omega, by omega, by go_num, HY.out, HW.out⟩
        case measure => simp [intOf]; omega
      · have hpos : 0 < mm.length := by omega
        have hp := hpre (by omega)
        cases hh : Cx.hit z (k : Int)
        · have HY : Hid (∀ j : Nat, 1 ≤ j → j < k + 1 → Cx.hit z j = false) := HX.out hh
          rw [hh] at hp
          clear HX HD H0 hpre h0 hh
          go_wp2_with (go_at_call 71; refine (HasPrefix_any _ _ _ _ _ HR1.out HM.out HB.out HBM.out).mono ?_; rintro e w' ⟨rfl, rfl⟩)
          go_roundw
          case rel => exact ⟨k + 1, by omega, by omega, by go_num, HY.out, HW.out⟩
          case measure => simp [intOf]; omega
        · have HY : Hid (Cx.det z = ((k : Int), (mm.length : Int))) := HD.out hh
          rw [hh] at hp
          clear HX HD H0 hpre h0 hh
          go_wp2_with (go_at_call 71; refine (HasPrefix_any _ _ _ _ _ HR1.out HM.out HB.out HBM.out).mono ?_; rintro e w' ⟨rfl, rfl⟩)
          go_ret2
          exact ⟨ret2_int (by rw [HY.out]) (by rw [HY.out]), HW.out⟩
    · have HY : Hid (Cx.det z = (0, 0)) := Cx.det_none z (fun j h1 h2 => HN.out j h1 (by omega))
      clear HN
      go_wp2
      go_ret2
      exact ⟨ret2_int (by rw [HY.out]) (by rw [HY.out]), hbw⟩

theorem begins0_any (v1 v2 : Value) (z m : List Int) (w : World) (h1 : Rd .u8 w v1 z) (h2 : Rd .u8 w v2 m) (hm0 : m ≠ []) (hsum : z.length + m.length ≤ 4611686018427387904) :
    Calls Try.prog 72 #[v1, .int .i64 0, v2] w fun e w' => e = .returned (.bool (m.isPrefixOf z)) ∧ Below w.heap.size w w' := begins_any v1 v2 z m 0 w h1 h2 (Nat.zero_le _) hm0 hsum

set_option maxRecDepth 100000 in
theorem rDetect_any (v : Value) (z : List Int) (w : World) (h : Rd .u8 w v z) (hz : z.length ≤ 4611686018427387000) :
    Calls Try.prog 48 #[v] w fun e w' => e = .returned (.tuple #[.int .i64 (Cx.det z).1, .int .i64 (Cx.det z).2]) ∧ Below w.heap.size w w' := by
  have HR : Hid (Rd .u8 w v z) := h
  clear h
  go_enter Try.func48, Try.ntmps48
  go_wp2_with fail
  go_loopw [4] (fun i wr => ∃ k : Nat, 1 ≤ k ∧ k ≤ 4 ∧ i = .int .i64 k ∧ Hid (∀ j : Nat, 1 ≤ j → j < k → Cx.hit z j = false) ∧ Below w.heap.size w wr) (fun i _ => 4 - (intOf i).toNat)
  case atStart => exact ⟨1, Nat.le_refl _, by omega, rfl, fun j h1 h2 => by omega, Below.refl _ _⟩
  case round =>
    obtain ⟨k, hk1, hk2, rfl, HN, hbw⟩ := hrel
    by_cases hlt : k ≤ 3
    · go_wp2_with fail
      refine (rMark_any _ _).mono ?_
      rintro e w1 ⟨m, rfl, hrd, hb1⟩
      have hlm := Cx.mk_len (k : Int)
      have hpos : 0 < (Cx.mk (k : Int)).length := by
        have e : k = 1 ∨ k = 2 ∨ k = 3 := by omega
        rcases e with rfl | rfl | rfl <;> simp [Cx.mk]
      have hpre := Cx.hit_pre z (k : Int) hpos
      obtain ⟨ao, cp, rfl, _⟩ := id hrd
      have HM : Hid (Rd .u8 w1 (.slice ao (Cx.mk (k : Int)).length cp) (Cx.mk (k : Int))) := hrd
      have HR1 : Hid (Rd .u8 w1 v z) := HR.out.ext (ext_trans hbw hb1)
      have HW : Hid (Below w.heap.size w w1) := ext_trans hbw hb1
      have HD : Hid (Cx.hit z k = true → Cx.det z = ((k : Int), ((Cx.mk k).length : Int))) := fun hh => Cx.det_hit z k hk1 hh HN.out
      have HX : Hid (Cx.hit z k = false → ∀ j : Nat, 1 ≤ j → j < k + 1 → Cx.hit z j = false) := fun hh j h1 h2 => by
        by_cases hj : j = k
        · rw [hj]; exact hh
        · exact HN.out j h1 (by omega)
      clear hrd HN hbw hb1
      generalize hmn : Cx.mk (k : Int) = mm at *
      clear hmn
      have hmn : Hid (mm ≠ []) := List.length_pos_iff.1 hpos
      cases hh : Cx.hit z (k : Int)
      · have HY : Hid (∀ j : Nat, 1 ≤ j → j < k + 1 → Cx.hit z j = false) := HX.out hh
        rw [hh] at hpre
        clear HX HD hh
        go_wp2_with (go_at_call 72; refine (begins0_any _ _ _ _ _ HR1.out HM.out hmn.out (by omega)).mono ?_; rintro e w2 ⟨rfl, hb2⟩)
        go_roundw
        case rel => exact ⟨k + 1, by omega, by omega, by go_num, HY.out, ext_trans HW.out hb2⟩
        case measure => simp [intOf]; omega
      · have HY : Hid (Cx.det z = ((k : Int), (mm.length : Int))) := HD.out hh
        rw [hh] at hpre
        clear HX HD hh
        go_wp2_with (go_at_call 72; refine (begins0_any _ _ _ _ _ HR1.out HM.out hmn.out (by omega)).mono ?_; rintro e w2 ⟨rfl, hb2⟩)
        go_ret2
        exact ⟨ret2_int (by rw [HY.out]) (by rw [HY.out]), ext_trans HW.out hb2⟩
    · have HY : Hid (Cx.det z = (0, 0)) := Cx.det_none z (fun j h1 h2 => HN.out j h1 (by omega))
      clear HN
      go_wp2
      go_ret2
      exact ⟨ret2_int (by rw [HY.out]) (by rw [HY.out]), hbw⟩
end Go.Proofs.Ytbfbaknfeleddaa
