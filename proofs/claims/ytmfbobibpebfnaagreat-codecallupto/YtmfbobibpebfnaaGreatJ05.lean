import Derived.Test.YtmfbobibpebfnaaGreatJ01
import Derived.Test.YtmfbobibpebfnaaGreatJ00
import Derived.Test.YtmfbobibpebfnaaGreatJ04
/- Decode of the code and of the document's answer; sameInts; decoded; the law CodecDecode. -/
namespace Go.Proofs.YtmfbobibpebfnaaGreat
open Go.RowKit

def Cx.dd (enc : Int) (zs : List Int) : List Int := if Cx.known enc = true then Cx.dec enc zs else []
def Cx.er (enc : Int) : Int := if Cx.known enc = true then 0 else 10
theorem Cx.known_iff (enc : Int) : Cx.known enc = true ↔ (enc = 1 ∨ enc = 2 ∨ enc = 3 ∨ enc = 4) := by unfold Cx.known; simp; omega
theorem Cx.known_no (enc : Int) (h : Cx.known enc = false) : enc ≠ 1 ∧ enc ≠ 2 ∧ enc ≠ 3 ∧ enc ≠ 4 := by
  unfold Cx.known at h; simp at h; omega
theorem Cx.dd_yes (enc : Int) (zs : List Int) (h : Cx.known enc = true) : Cx.dd enc zs = Cx.dec enc zs := by unfold Cx.dd; rw [if_pos h]
theorem Cx.dd_no (enc : Int) (zs : List Int) (h : Cx.known enc = false) : Cx.dd enc zs = [] := by unfold Cx.dd; rw [h]; rfl
theorem Cx.dd_len (enc : Int) (zs : List Int) : (Cx.dd enc zs).length ≤ zs.length := by
  unfold Cx.dd; split
  · exact Cx.dec_len enc _ zs
  · simp

theorem Decode_any (enc : Int) (v : Value) (zs : List Int) (w : World) (h : Rd .u8 w v zs) (hb : Byt zs) (hz : zs.length * 8 ≤ 140737488355328) :
    Calls Tryz.prog 19 #[.int .i64 enc, v] w fun e w' => ∃ v', e = .returned (.tuple #[v', .int .i64 (Cx.er enc)]) ∧ w'.ownsRow w.heap.size 3 1 v' (Cx.dd enc zs).length ((Cx.dd enc zs).map (Value.int .i64)) ∧ Below w.heap.size w w' := by
  have HR : Hid (Rd .u8 w v zs) := h
  have HB : Hid (Byt zs) := hb
  clear h hb
  cases hk : Cx.known enc
  · have HE : Hid (Cx.dd enc zs = []) := Cx.dd_no enc zs hk
    have HX : Hid (Cx.er enc = 10) := by unfold Hid Cx.er; rw [hk]; rfl
    obtain ⟨h1, h2, h3, h4⟩ := Cx.known_no enc hk
    clear hk
    go_enter Tryz.func19, Tryz.ntmps19
    go_wp2_with (go_at_call 12; refine (coderOf_no _ h1 h2 h3 h4 _).mono ?_; rintro e w' ⟨rfl, rfl⟩)
    go_ret2
    exact ⟨_, by rw [HX.out]; rfl, by rw [HE.out]; exact World.ownsRow_nil _ _ _ _, Below.refl _ _⟩
  · have HX : Hid (Cx.er enc = 0) := by unfold Hid Cx.er; rw [hk]; rfl
    have HE : Hid (Cx.dd enc zs = Cx.dec enc zs) := Cx.dd_yes enc zs hk
    rcases (Cx.known_iff enc).1 hk with rfl | rfl | rfl | rfl
    · clear hk
      go_enter Tryz.func19, Tryz.ntmps19
      go_wp2_with (first | (go_at_call 12; refine (coderOf_1 _).mono ?_; rintro e w' ⟨rfl, rfl⟩) | (go_at_call 33; refine (decodeAll_1 _ zs _ HR.out HB.out hz).mono ?_; rintro e w' ⟨v', rfl, hown, hbw⟩))
      go_ret2
      exact ⟨_, by rw [HX.out]; rfl, by rw [HE.out]; assumption, by assumption⟩
    · clear hk
      go_enter Tryz.func19, Tryz.ntmps19
      go_wp2_with (first | (go_at_call 12; refine (coderOf_2 _).mono ?_; rintro e w' ⟨rfl, rfl⟩) | (go_at_call 33; refine (decodeAll_2 _ zs _ HR.out HB.out hz).mono ?_; rintro e w' ⟨v', rfl, hown, hbw⟩))
      go_ret2
      exact ⟨_, by rw [HX.out]; rfl, by rw [HE.out]; assumption, by assumption⟩
    · clear hk
      go_enter Tryz.func19, Tryz.ntmps19
      go_wp2_with (first | (go_at_call 12; refine (coderOf_3 _).mono ?_; rintro e w' ⟨rfl, rfl⟩) | (go_at_call 33; refine (decodeAll_3 _ zs _ HR.out HB.out hz).mono ?_; rintro e w' ⟨v', rfl, hown, hbw⟩))
      go_ret2
      exact ⟨_, by rw [HX.out]; rfl, by rw [HE.out]; assumption, by assumption⟩
    · clear hk
      go_enter Tryz.func19, Tryz.ntmps19
      go_wp2_with (first | (go_at_call 12; refine (coderOf_4 _).mono ?_; rintro e w' ⟨rfl, rfl⟩) | (go_at_call 33; refine (decodeAll_4 _ zs _ HR.out HB.out hz).mono ?_; rintro e w' ⟨v', rfl, hown, hbw⟩))
      go_ret2
      exact ⟨_, by rw [HX.out]; rfl, by rw [HE.out]; assumption, by assumption⟩

theorem rknown_any (enc : Int) (w : World) : Calls Tryz.prog 13 #[.int .i64 enc] w fun e w' => e = .returned (.bool (Cx.known enc)) ∧ w' = w := by
  unfold Cx.known
  by_cases h1 : 1 ≤ enc
  · go_enter Tryz.func13, Tryz.ntmps13
    go_wp2
    go_ret
    exact ⟨by rw [decide_eq_true h1, Bool.true_and]; rfl, rfl⟩
  · have hd : decide (1 ≤ enc) = false := by simp; omega
    go_enter Tryz.func13, Tryz.ntmps13
    go_wp2
    go_ret
    exact ⟨rfl, rfl⟩

theorem At_fst (enc : Int) (v : Value) (zs : List Int) (at' : Nat) (a : Int) (n : Nat) (w : World) (h : Rd .u8 w v zs) (hb : Byt zs) (he : enc = 1 ∨ enc = 2 ∨ enc = 3 ∨ enc = 4) (hl : at' < zs.length) (hm : zs.length ≤ 4611686018427387000) (hf : Cx.fst enc (zs.drop at') = (a, (n : Int))) :
    Calls Tryz.prog 34 #[.int .i64 enc, v, .int .i64 at'] w fun e w' => e = .returned (.tuple #[.int .i64 a, .int .i64 n]) ∧ Below w.heap.size w w' := by
  have := At_any enc v zs at' w h hb he hl hm
  rwa [hf] at this

set_option maxRecDepth 100000 in
theorem rDecode_any (enc : Int) (v : Value) (zs : List Int) (w : World) (h : Rd .u8 w v zs) (hb : Byt zs) (hz : zs.length * 8 ≤ 140737488355328) :
    Calls Tryz.prog 20 #[.int .i64 enc, v] w fun e w' => ∃ v', e = .returned (.tuple #[v', .int .i64 (Cx.er enc)]) ∧ w'.ownsRow w.heap.size 3 1 v' (Cx.dd enc zs).length ((Cx.dd enc zs).map (Value.int .i64)) ∧ Below w.heap.size w w' := by
  obtain ⟨i0, hi, hz0, hz1, hz2⟩ := info_parts Tryz.info_i64
  have HR : Hid (Rd .u8 w v zs) := h
  have HB : Hid (Byt zs) := hb
  obtain ⟨ao, cap, rfl, _⟩ := id h
  clear h hb
  cases hk : Cx.known enc
  · have HE : Hid (Cx.dd enc zs = []) := Cx.dd_no enc zs hk
    have HX : Hid (Cx.er enc = 10) := by unfold Hid Cx.er; rw [hk]; rfl
    go_enter Tryz.func20, Tryz.ntmps20
    go_wp2_with (go_at_call 13; refine (rknown_any _ _).mono ?_; rintro e w' ⟨rfl, rfl⟩; rw [hk])
    go_ret2
    exact ⟨_, by rw [HX.out]; rfl, by rw [HE.out]; exact World.ownsRow_nil _ _ _ _, Below.refl _ _⟩
  · have HX : Hid (Cx.er enc = 0) := by unfold Hid Cx.er; rw [hk]; rfl
    have HE : Hid (Cx.dd enc zs = Cx.dec enc zs) := Cx.dd_yes enc zs hk
    have HK : Hid (enc = 1 ∨ enc = 2 ∨ enc = 3 ∨ enc = 4) := (Cx.known_iff enc).1 hk
    go_enter Tryz.func20, Tryz.ntmps20
    go_wp2_with (go_at_call 13; refine (rknown_any _ _).mono ?_; rintro e w0 ⟨rfl, rfl⟩; rw [hk])
    rename_i w
    go_loopw [7, 8] (fun o i wr => ∃ (k : Nat) (l : List Int), k ≤ zs.length ∧ i = .int .i64 k ∧ Hid (Cx.dec enc zs = l ++ Cx.dec enc (zs.drop k)) ∧ l.length ≤ k ∧ wr.ownsRow w0.heap.size 3 1 o l.length (l.map (Value.int .i64)) ∧ Below w0.heap.size w0 wr) (fun _ i _ => zs.length - (intOf i).toNat)
    case atStart => exact ⟨0, [], Nat.zero_le _, rfl, rfl, Nat.le_refl _, World.ownsRow_nil _ _ _ _, Below.refl _ _⟩
    case round =>
      obtain ⟨k, l, hk1, rfl, HD, hle, hown, hbw⟩ := hrel
      have hw' : w0.heap.size ≤ wr.heap.size := hbw.size
      by_cases hlt : k < zs.length
      · have hn : zs.drop k ≠ [] := List.length_pos_iff.1 (by rw [List.length_drop]; omega)
        obtain ⟨a, n, hf, hn1, hn2⟩ : ∃ (a : Int) (n : Nat), Cx.fst enc (zs.drop k) = (a, (n : Int)) ∧ 1 ≤ n ∧ n ≤ (zs.drop k).length := by
          have := Cx.fst_bd enc (zs.drop k) hn
          exact ⟨_, (Cx.fst enc (zs.drop k)).2.toNat, Prod.ext rfl (by simp only; omega), by omega, by omega⟩
        have HF : Hid (Cx.fst enc (zs.drop k) = (a, (n : Int))) := hf
        have HD' : Hid (Cx.dec enc zs = (l ++ [a]) ++ Cx.dec enc (zs.drop (k + n))) := by unfold Hid; rw [HD.out, Cx.dec_cons enc _ hn a n hf, List.drop_drop]; simp
        rw [List.length_drop] at hn2
        have HT' : Hid (l.map (Value.int .i64) ++ [Value.int .i64 a] = (l ++ [a]).map (Value.int .i64)) := snoc_map l a
        clear hf hn HD
        generalize l.map (Value.int .i64) = ml at hown HT'
        go_wp2_with fail
        refine (At_fst enc _ zs k a n _ (HR.out.ext hbw) HB.out HK.out hlt (by omega) HF.out).mono ?_
        rintro e w1 ⟨rfl, hb1⟩
        have hown1 := own_ext hown hb1
        have hbw1 : Below w0.heap.size w0 w1 := ext_trans hbw hb1
        have hw1 : w0.heap.size ≤ w1.heap.size := hbw1.size
        clear hown hbw hb1
        go_wp2_with (at_builtin; refine wpList_append_own _ rfl _ _ 36 rfl w0.heap.size 3 i0 (.int .i64 0) 1 8 Tryz.underlying36 hi hz0 hz1 hz2 rfl (by decide) _ _ _ rfl (hown1.alloc _) ⟨w1.heap.size, 0, none⟩ 1 1 [.int .i64 a] rfl rfl (cell_one_new _ _ _) (one_i64 _) (by unfold maxLen; omega) (by omega) (by simp; omega) ?_; intro v' w' hown' hg' hx')
        go_roundw
        case rel => exact ⟨k + n, l ++ [a], by omega, by go_num, HD'.out, by rw [List.length_append, List.length_singleton]; omega, by rw [List.length_append]; rw [HT'.out] at hown'; exact hown', below_push hbw1 hown1 hg'⟩
        case measure => simp [intOf]; omega
      · have hke : k = zs.length := by omega
        subst hke
        have HT : Hid (Cx.dd enc zs = l) := by unfold Hid; rw [HE.out, HD.out, List.drop_length, Cx.dec_nil, List.append_nil]
        clear HD
        go_wp2
        go_ret2
        exact ⟨_, by rw [HX.out]; rfl, by rw [HT.out]; exact hown, hbw⟩
end Go.Proofs.YtmfbobibpebfnaaGreat

/- sameInts, num. -/
namespace Go.Proofs.YtmfbobibpebfnaaGreat
open Go.RowKit

theorem num_any (a : Int) (w : World) : Calls Tryz.prog 6 #[.int .i64 a] w fun e w' => e = .returned (.int .i64 a) ∧ w' = w := by
  go_enter Tryz.func6, Tryz.ntmps6
  go_wp2
  go_ret
  exact ⟨rfl, rfl⟩

set_option maxRecDepth 100000 in
/-- Two lists that read alike. -/
theorem sameInts_any (v1 v2 : Value) (zs : List Int) (w : World) (h1 : Rd .i64 w v1 zs) (h2 : Rd .i64 w v2 zs) :
    Calls Tryz.prog 16 #[v1, v2] w fun e w' => e = .returned (.bool true) ∧ Below w.heap.size w w' := by
  have hlen := h1.len
  obtain ⟨ao, cap, rfl, hl1, hc1, h1⟩ := h1
  obtain ⟨ao2, cap2, rfl, hl2, hc2, h2⟩ := h2
  by_cases hn : zs = []
  · subst hn
    clear h1 h2
    simp only [List.length_nil]
    go_enter Tryz.func16, Tryz.ntmps16
    go_wp2
    refine wp_loop_rounds 1 ?_
    rw [rounds_succ]
    go_wp2
    go_ret
    exact ⟨rfl, Below.refl _ _⟩
  · obtain ⟨b, off, rfl, hb, hcl⟩ := h1 hn
    obtain ⟨b2, off2, rfl, hb2, hcl2⟩ := h2 hn
    have hq : ((zs.length : Int) != (zs.length : Int)) = false := by simp
    clear h1 h2 hn
    go_enter Tryz.func16, Tryz.ntmps16
    go_wp2
    go_loopw [5] (fun i wr => ∃ k : Nat, k ≤ zs.length ∧ i = .int .i64 k ∧ Below w.heap.size w wr) (fun i _ => zs.length - (intOf i).toNat)
    case atStart => exact ⟨0, Nat.zero_le _, rfl, Below.refl _ _⟩
    case round =>
      obtain ⟨k, hk, rfl, hbw⟩ := hrel
      by_cases hlt : k < zs.length
      · have c1 : wr.cell? ⟨b, off + k, none⟩ = some (.int .i64 (zs[k]?.getD 0)) := (hbw.cell (p := ⟨b, off + k, none⟩) hb).trans (hcl _ hlt)
        have c2 : wr.cell? ⟨b2, off2 + k, none⟩ = some (.int .i64 (zs[k]?.getD 0)) := (hbw.cell (p := ⟨b2, off2 + k, none⟩) hb2).trans (hcl2 _ hlt)
        have hi1 : (k : Int) < (zs.length : Int) := by omega
        generalize zs[k]?.getD 0 = x at *
        clear hcl hcl2
        go_wp2
        go_quiet (fail)
        go_wp2
        go_roundw
        case rel => exact ⟨k + 1, by omega, by go_num, below_drewN hbw _⟩
        case measure => simp [intOf]; omega
      · clear hcl hcl2
        go_wp2
        go_ret
        exact ⟨rfl, hbw⟩
end Go.Proofs.YtmfbobibpebfnaaGreat

/- Marks: Mark and Detect of the code and of the document's answer. -/
namespace Go.Proofs.YtmfbobibpebfnaaGreat
open Go.RowKit

def Cx.mk (enc : Int) : List Int := if enc = 1 then [239, 187, 191] else if enc = 2 then [255, 254] else if enc = 3 then [254, 255] else []
def Cx.hit (z : List Int) (enc : Int) : Bool := !(Cx.mk enc).isEmpty && (Cx.mk enc).isPrefixOf z
def Cx.det (z : List Int) : Int × Int := if Cx.hit z 1 then (1, 3) else if Cx.hit z 2 then (2, 2) else if Cx.hit z 3 then (3, 2) else (0, 0)

theorem m_mark1 (w : World) : (method 229 76 (.agg #[]) "copyist/codec.mark").run Tryz.prog w = .ok (94, .agg #[]) w := by kernel_rfl
theorem m_mark2 (k : Int) (w : World) : (method 229 78 (.agg #[.int .i64 k]) "copyist/codec.mark").run Tryz.prog w = .ok (104, .agg #[.int .i64 k]) w := by kernel_rfl
theorem m_mark4 (w : World) : (method 229 79 (.agg #[]) "copyist/codec.mark").run Tryz.prog w = .ok (116, .agg #[]) w := by kernel_rfl

theorem Rd.nil (k : IntKind) (w : World) : Rd k w (.slice none 0 0) [] := ⟨none, 0, rfl, Nat.le_refl _, by simp [maxLen], fun h => absurd rfl h⟩
/-- A literal in the newest block. -/
theorem Rd.lit (k : IntKind) (w : World) (e : TypeId) (zs : List Int) (hl : zs.length ≤ maxLen) : Rd k (w.alloc (.cells (zs.map (Value.int k)).toArray e)) (.slice (some ⟨w.heap.size, 0, none⟩) zs.length zs.length) zs := by
  have h := World.ownsRow_lit (base := w.heap.size) (e := e) (size := 1) w (zs.map (Value.int k)).toArray zs.length (Nat.le_refl _) hl (by simp)
  exact Rd.of_own (base := w.heap.size) (e := e) (n := zs.length) (by simpa using h)

theorem Rd.lit1 (k : IntKind) (w : World) (o : Obj) (e : TypeId) (zs : List Int) (hl : zs.length ≤ maxLen) : Rd k ((w.alloc o).alloc (.cells (zs.map (Value.int k)).toArray e)) (.slice (some ⟨w.heap.size + 1, 0, none⟩) zs.length zs.length) zs := by
  have h := Rd.lit k (w.alloc o) e zs hl
  rwa [World.size_alloc] at h

theorem Mark_any (enc : Int) (w : World) : Calls Tryz.prog 49 #[.int .i64 enc] w fun e w' => ∃ v, e = .returned v ∧ Rd .u8 w' v (Cx.mk enc) ∧ Below w.heap.size w w' := by
  by_cases h1 : enc = 1
  · subst h1
    have hm := m_mark1
    go_enter Tryz.func49, Tryz.ntmps49
    go_wp2_with (first | (go_at_call 12; refine (coderOf_1 _).mono ?_; rintro e w' ⟨rfl, rfl⟩) | go_in)
    go_ret
    refine ⟨_, rfl, ?_, ?_⟩
    · exact Rd.lit1 .u8 _ _ 5 [239, 187, 191] (by simp [maxLen])
    · exact ((Below.refl _ _).alloc (Nat.le_refl _) _).alloc (by simp) _
  by_cases h2 : enc = 2
  · subst h2
    have hm := m_mark2
    go_enter Tryz.func49, Tryz.ntmps49
    go_wp2_with (first | (go_at_call 12; refine (coderOf_2 _).mono ?_; rintro e w' ⟨rfl, rfl⟩) | go_in)
    go_ret
    refine ⟨_, rfl, ?_, ?_⟩
    · exact Rd.lit1 .u8 _ _ 5 [255, 254] (by simp [maxLen])
    · exact ((Below.refl _ _).alloc (Nat.le_refl _) _).alloc (by simp) _
  by_cases h3 : enc = 3
  · subst h3
    have hm := m_mark2
    go_enter Tryz.func49, Tryz.ntmps49
    go_wp2_with (first | (go_at_call 12; refine (coderOf_3 _).mono ?_; rintro e w' ⟨rfl, rfl⟩) | go_in)
    go_ret
    refine ⟨_, rfl, ?_, ?_⟩
    · exact Rd.lit1 .u8 _ _ 5 [254, 255] (by simp [maxLen])
    · exact ((Below.refl _ _).alloc (Nat.le_refl _) _).alloc (by simp) _
  have HE : Hid (Cx.mk enc = []) := by simp [Hid, Cx.mk, h1, h2, h3]
  by_cases h4 : enc = 4
  · subst h4
    have hm := m_mark4
    go_enter Tryz.func49, Tryz.ntmps49
    go_wp2_with (first | (go_at_call 12; refine (coderOf_4 _).mono ?_; rintro e w' ⟨rfl, rfl⟩) | go_in)
    go_ret
    refine ⟨_, rfl, ?_, ?_⟩
    · rw [HE.out]; exact Rd.nil _ _
    · exact (Below.refl _ _).alloc (Nat.le_refl _) _
  · go_enter Tryz.func49, Tryz.ntmps49
    go_wp2_with (go_at_call 12; refine (coderOf_no _ h1 h2 h3 h4 _).mono ?_; rintro e w' ⟨rfl, rfl⟩)
    go_ret
    exact ⟨_, rfl, by rw [HE.out]; exact Rd.nil _ _, Below.refl _ _⟩

theorem rMark_any (enc : Int) (w : World) : Calls Tryz.prog 52 #[.int .i64 enc] w fun e w' => ∃ v, e = .returned v ∧ Rd .u8 w' v (Cx.mk enc) ∧ Below w.heap.size w w' := by
  by_cases h1 : enc = 1
  · subst h1
    go_enter Tryz.func52, Tryz.ntmps52
    go_wp2
    go_ret
    exact ⟨_, rfl, Rd.lit .u8 w 5 [239, 187, 191] (by simp [maxLen]), (Below.refl _ _).alloc (Nat.le_refl _) _⟩
  by_cases h2 : enc = 2
  · subst h2
    go_enter Tryz.func52, Tryz.ntmps52
    go_wp2
    go_ret
    exact ⟨_, rfl, Rd.lit .u8 w 5 [255, 254] (by simp [maxLen]), (Below.refl _ _).alloc (Nat.le_refl _) _⟩
  by_cases h3 : enc = 3
  · subst h3
    go_enter Tryz.func52, Tryz.ntmps52
    go_wp2
    go_ret
    exact ⟨_, rfl, Rd.lit .u8 w 5 [254, 255] (by simp [maxLen]), (Below.refl _ _).alloc (Nat.le_refl _) _⟩
  · have HE : Hid (Cx.mk enc = []) := by simp [Hid, Cx.mk, h1, h2, h3]
    have b1 : (enc == 1) = false := by simp [h1]
    have b2 : (enc == 2) = false := by simp [h2]
    have b3 : (enc == 3) = false := by simp [h3]
    go_enter Tryz.func52, Tryz.ntmps52
    go_wp2
    go_ret
    exact ⟨_, rfl, by rw [HE.out]; exact Rd.nil _ _, Below.refl _ _⟩

theorem Cx.mk_byt (enc : Int) : Byt (Cx.mk enc) := by
  unfold Cx.mk Byt
  repeat' split
  all_goals simp
theorem Cx.mk_len (enc : Int) : (Cx.mk enc).length ≤ 3 := by
  unfold Cx.mk
  repeat' split
  all_goals simp

theorem Cx.hit_pre (z : List Int) (k : Int) (h : 0 < (Cx.mk k).length) : (Cx.mk k).isPrefixOf z = Cx.hit z k := by
  unfold Cx.hit
  cases hm : Cx.mk k with
  | nil => rw [hm] at h; simp at h
  | cons a l => simp

theorem Cx.det_hit (z : List Int) (k : Nat) (h1 : 1 ≤ k) (hh : Cx.hit z k = true) (hn : ∀ j : Nat, 1 ≤ j → j < k → Cx.hit z j = false) : Cx.det z = ((k : Int), ((Cx.mk k).length : Int)) := by
  have hk : k ≤ 3 := by
    unfold Cx.hit Cx.mk at hh
    repeat' split at hh
    all_goals first | omega | simp at hh
  unfold Cx.det
  have e : k = 1 ∨ k = 2 ∨ k = 3 := by omega
  rcases e with rfl | rfl | rfl
  · rw [if_pos (by simpa using hh)]; rfl
  · rw [if_neg (by have := hn 1 (by omega) (by omega); simpa using this), if_pos (by simpa using hh)]; rfl
  · rw [if_neg (by have := hn 1 (by omega) (by omega); simpa using this), if_neg (by have := hn 2 (by omega) (by omega); simpa using this), if_pos (by simpa using hh)]; rfl
theorem Cx.det_none (z : List Int) (hn : ∀ j : Nat, 1 ≤ j → j < 4 → Cx.hit z j = false) : Cx.det z = (0, 0) := by
  unfold Cx.det
  rw [if_neg (by have := hn 1 (by omega) (by omega); simpa using this), if_neg (by have := hn 2 (by omega) (by omega); simpa using this), if_neg (by have := hn 3 (by omega) (by omega); simpa using this)]
theorem Cx.hit_four (z : List Int) : Cx.hit z 4 = false := by simp [Cx.hit, Cx.mk]

theorem ret2_int {a b c d : Int} (h1 : a = c) (h2 : b = d) : Ending.returned (.tuple #[.int .i64 a, .int .i64 b]) = .returned (.tuple #[.int .i64 c, .int .i64 d]) := by rw [h1, h2]

set_option maxRecDepth 100000 in
theorem Detect_any (v : Value) (z : List Int) (w : World) (h : Rd .u8 w v z) (hb : Byt z) :
    Calls Tryz.prog 50 #[v] w fun e w' => e = .returned (.tuple #[.int .i64 (Cx.det z).1, .int .i64 (Cx.det z).2]) ∧ Below w.heap.size w w' := by
  have HR : Hid (Rd .u8 w v z) := h
  have HB : Hid (Byt z) := hb
  clear h hb
  go_enter Tryz.func50, Tryz.ntmps50
  go_wp2_with fail
  go_loopw [4] (fun i wr => ∃ k : Nat, 1 ≤ k ∧ k ≤ 5 ∧ i = .int .i64 k ∧ Hid (∀ j : Nat, 1 ≤ j → j < k → Cx.hit z j = false) ∧ Below w.heap.size w wr) (fun i _ => 5 - (intOf i).toNat)
  case atStart => exact ⟨1, Nat.le_refl _, by omega, rfl, fun j h1 h2 => by omega, Below.refl _ _⟩
  case round =>
    obtain ⟨k, hk1, hk2, rfl, HN, hbw⟩ := hrel
    by_cases hlt : k ≤ 4
    · go_wp2_with fail
      refine (Mark_any _ _).mono ?_
      rintro e w1 ⟨m, rfl, hrd, hb1⟩
      have hlm := Cx.mk_len (k : Int)
      have hbm := Cx.mk_byt (k : Int)
      have hpre := Cx.hit_pre z (k : Int)
      obtain ⟨ao, cp, rfl, _⟩ := id hrd
      have HM : Hid (Rd .u8 w1 (.slice ao (Cx.mk (k : Int)).length cp) (Cx.mk (k : Int))) := hrd
      have HBM : Hid (Byt (Cx.mk (k : Int))) := hbm
      have HR1 : Hid (Rd .u8 w1 v z) := HR.out.ext (ext_trans hbw hb1)
      have HW : Hid (Below w.heap.size w w1) := ext_trans hbw hb1
      have HD : Hid (Cx.hit z k = true → Cx.det z = ((k : Int), ((Cx.mk k).length : Int))) := fun hh => Cx.det_hit z k hk1 hh HN.out
      have HX : Hid (Cx.hit z k = false → ∀ j : Nat, 1 ≤ j → j < k + 1 → Cx.hit z j = false) := fun hh j h1 h2 => by
        by_cases hj : j = k
        · rw [hj]; exact hh
        · exact HN.out j h1 (by omega)
      have H0 : Hid ((Cx.mk (k : Int)).length = 0 → Cx.hit z k = false) := fun h0 => by
        have : Cx.mk (k : Int) = [] := List.length_eq_zero_iff.1 h0
        simp [Cx.hit, this]
      clear hrd hbm HN hbw hb1
      generalize hmn : Cx.mk (k : Int) = mm at *
      clear hmn
      by_cases h0 : mm.length = 0
      · have HF := H0.out h0
        have HY : Hid (∀ j : Nat, 1 ≤ j → j < k + 1 → Cx.hit z j = false) := HX.out HF
        have hmm : mm = [] := List.length_eq_zero_iff.1 h0
        subst hmm
        clear HX HD H0 hpre HF h0
        simp only [List.length_nil]
        go_wp2
        go_roundw
        case rel => exact ⟨k + 1, by omega, by omega, by go_num, HY.out, HW.out⟩
        case measure => simp [intOf]; omega
      · have hpos : 0 < mm.length := by omega
        have hp := hpre (by omega)
        cases hh : Cx.hit z (k : Int)
        · have HY : Hid (∀ j : Nat, 1 ≤ j → j < k + 1 → Cx.hit z j = false) := HX.out hh
          rw [hh] at hp
          clear HX HD H0 hpre h0 hh
          go_wp2_with (go_at_call 61; refine (HasPrefix_any _ _ _ _ _ HR1.out HM.out HB.out HBM.out).mono ?_; rintro e w' ⟨rfl, rfl⟩)
          go_roundw
          case rel => exact ⟨k + 1, by omega, by omega, by go_num, HY.out, HW.out⟩
          case measure => simp [intOf]; omega
        · have HY : Hid (Cx.det z = ((k : Int), (mm.length : Int))) := HD.out hh
          rw [hh] at hp
          clear HX HD H0 hpre h0 hh
          go_wp2_with (go_at_call 61; refine (HasPrefix_any _ _ _ _ _ HR1.out HM.out HB.out HBM.out).mono ?_; rintro e w' ⟨rfl, rfl⟩)
          go_ret2
          exact ⟨ret2_int (by rw [HY.out]) (by rw [HY.out]), HW.out⟩
    · have HY : Hid (Cx.det z = (0, 0)) := Cx.det_none z (fun j h1 h2 => HN.out j h1 (by omega))
      clear HN
      go_wp2
      go_ret2
      exact ⟨ret2_int (by rw [HY.out]) (by rw [HY.out]), hbw⟩

theorem begins0_any (v1 v2 : Value) (z m : List Int) (w : World) (h1 : Rd .u8 w v1 z) (h2 : Rd .u8 w v2 m) (hm0 : m ≠ []) (hsum : z.length + m.length ≤ 4611686018427387904) :
    Calls Tryz.prog 62 #[v1, .int .i64 0, v2] w fun e w' => e = .returned (.bool (m.isPrefixOf z)) ∧ Below w.heap.size w w' := begins_any v1 v2 z m 0 w h1 h2 (Nat.zero_le _) hm0 hsum

set_option maxRecDepth 100000 in
theorem rDetect_any (v : Value) (z : List Int) (w : World) (h : Rd .u8 w v z) (hz : z.length ≤ 4611686018427387000) :
    Calls Tryz.prog 51 #[v] w fun e w' => e = .returned (.tuple #[.int .i64 (Cx.det z).1, .int .i64 (Cx.det z).2]) ∧ Below w.heap.size w w' := by
  have HR : Hid (Rd .u8 w v z) := h
  clear h
  go_enter Tryz.func51, Tryz.ntmps51
  go_wp2_with fail
  go_loopw [4] (fun i wr => ∃ k : Nat, 1 ≤ k ∧ k ≤ 4 ∧ i = .int .i64 k ∧ Hid (∀ j : Nat, 1 ≤ j → j < k → Cx.hit z j = false) ∧ Below w.heap.size w wr) (fun i _ => 4 - (intOf i).toNat)
  case atStart => exact ⟨1, Nat.le_refl _, by omega, rfl, fun j h1 h2 => by omega, Below.refl _ _⟩
  case round =>
    obtain ⟨k, hk1, hk2, rfl, HN, hbw⟩ := hrel
    by_cases hlt : k ≤ 3
    · go_wp2_with fail
      refine (rMark_any _ _).mono ?_
      rintro e w1 ⟨m, rfl, hrd, hb1⟩
      have hlm := Cx.mk_len (k : Int)
      have hpos : 0 < (Cx.mk (k : Int)).length := by
        have e : k = 1 ∨ k = 2 ∨ k = 3 := by omega
        rcases e with rfl | rfl | rfl <;> simp [Cx.mk]
      have hpre := Cx.hit_pre z (k : Int) hpos
      obtain ⟨ao, cp, rfl, _⟩ := id hrd
      have HM : Hid (Rd .u8 w1 (.slice ao (Cx.mk (k : Int)).length cp) (Cx.mk (k : Int))) := hrd
      have HR1 : Hid (Rd .u8 w1 v z) := HR.out.ext (ext_trans hbw hb1)
      have HW : Hid (Below w.heap.size w w1) := ext_trans hbw hb1
      have HD : Hid (Cx.hit z k = true → Cx.det z = ((k : Int), ((Cx.mk k).length : Int))) := fun hh => Cx.det_hit z k hk1 hh HN.out
      have HX : Hid (Cx.hit z k = false → ∀ j : Nat, 1 ≤ j → j < k + 1 → Cx.hit z j = false) := fun hh j h1 h2 => by
        by_cases hj : j = k
        · rw [hj]; exact hh
        · exact HN.out j h1 (by omega)
      clear hrd HN hbw hb1
      generalize hmn : Cx.mk (k : Int) = mm at *
      clear hmn
      have hmn : Hid (mm ≠ []) := List.length_pos_iff.1 hpos
      cases hh : Cx.hit z (k : Int)
      · have HY : Hid (∀ j : Nat, 1 ≤ j → j < k + 1 → Cx.hit z j = false) := HX.out hh
        rw [hh] at hpre
        clear HX HD hh
        go_wp2_with (go_at_call 62; refine (begins0_any _ _ _ _ _ HR1.out HM.out hmn.out (by omega)).mono ?_; rintro e w2 ⟨rfl, hb2⟩)
        go_roundw
        case rel => exact ⟨k + 1, by omega, by omega, by go_num, HY.out, ext_trans HW.out hb2⟩
        case measure => simp [intOf]; omega
      · have HY : Hid (Cx.det z = ((k : Int), (mm.length : Int))) := HD.out hh
        rw [hh] at hpre
        clear HX HD hh
        go_wp2_with (go_at_call 62; refine (begins0_any _ _ _ _ _ HR1.out HM.out hmn.out (by omega)).mono ?_; rintro e w2 ⟨rfl, hb2⟩)
        go_ret2
        exact ⟨ret2_int (by rw [HY.out]) (by rw [HY.out]), ext_trans HW.out hb2⟩
    · have HY : Hid (Cx.det z = (0, 0)) := Cx.det_none z (fun j h1 h2 => HN.out j h1 (by omega))
      clear HN
      go_wp2
      go_ret2
      exact ⟨ret2_int (by rw [HY.out]) (by rw [HY.out]), hbw⟩
end Go.Proofs.YtmfbobibpebfnaaGreat

/- marked and the law CodecMarks. -/
namespace Go.Proofs.YtmfbobibpebfnaaGreat
open Go.RowKit

theorem grown_rd {k : IntKind} {w w' : World} {v : Value} {zs : List Int} {g B : Nat} (h : Rd k w v zs) (hg : w.grownBy w' (some g)) (hB : B ≤ g) (hv : zs ≠ [] → ∀ b off n c, v = .slice (some ⟨b, off, none⟩) n c → b < B) : Rd k w' v zs := by
  obtain ⟨ao, cap, hv', h1, h2, h3⟩ := h
  refine ⟨ao, cap, hv', h1, h2, fun hn => ?_⟩
  obtain ⟨b, off, ha, hlt, hc⟩ := h3 hn
  have hlt' := hv hn b off zs.length cap (by rw [hv', ha])
  refine ⟨b, off, ha, Nat.lt_of_lt_of_le hlt hg.size, fun i hi => ?_⟩
  rw [World.cell?_of_block (w := w) (hg.block b hlt (by intro e; cases e; omega))]
  exact hc i hi

/-- A slice that could be read in an elder world lies below that world's end. -/
theorem Rd.low {k : IntKind} {w : World} {v : Value} {zs : List Int} (h : Rd k w v zs) : zs ≠ [] → ∀ b off n c, v = .slice (some ⟨b, off, none⟩) n c → b < w.heap.size := by
  intro hn b off n c hv
  obtain ⟨ao, cap, hv', h1, h2, h3⟩ := h
  obtain ⟨b', off', ha, hlt, _⟩ := h3 hn
  rw [hv', ha] at hv
  cases hv
  exact hlt

set_option maxRecDepth 100000 in
theorem marked_any (enc : Int) (v : Value) (z : List Int) (w : World) (h : Rd .u8 w v z) (hb : Byt z) (hz : z.length + 40 ≤ 140737488355328) :
    Calls Tryz.prog 26 #[.int .i64 enc, v] w fun e w' => e = .returned (.bool true) ∧ Below w.heap.size w w' := by
  obtain ⟨ao, cp, rfl, _⟩ := id h
  have HR : Hid (Rd .u8 w (.slice ao z.length cp) z) := h
  have HB : Hid (Byt z) := hb
  clear h hb
  go_enter Tryz.func26, Tryz.ntmps26
  go_wp2_with fail
  refine (Mark_any _ _).mono ?_
  rintro e w1 ⟨m, rfl, hm1, hb1⟩
  have HM : Hid (Rd .u8 w1 m (Cx.mk enc)) := hm1
  have HW1 : Hid (Below w.heap.size w w1) := hb1
  clear hm1 hb1
  go_wp2_with fail
  refine (lend_any _ z _ (HR.out.ext HW1.out) (by omega)).mono ?_
  rintro e w2 ⟨g, cap, rfl, hL2, hb2⟩
  have HL : Hid (Lent w2 w1.heap.size g cap z) := hL2
  have hcap : z.length + 40 ≤ cap := hL2.1
  have hcm : cap ≤ 9223372036854775807 := hL2.2.1
  have HW2 : Hid (Below w1.heap.size w1 w2) := hb2
  clear hL2 hb2
  go_wp2_with fail
  refine (Detect_any _ z _ HL.out.rd HB.out).mono ?_
  rintro e w3 ⟨rfl, hb3⟩
  have HW3 : Hid (Below w2.heap.size w2 w3) := hb3
  clear hb3
  go_wp2_with fail
  refine (rDetect_any _ z _ (HR.out.ext (ext_trans HW1.out (ext_trans HW2.out HW3.out))) (by omega)).mono ?_
  rintro e w4 ⟨rfl, hb4⟩
  have HW4 : Hid (Below w3.heap.size w3 w4) := hb4
  clear hb4
  generalize hd1 : (Cx.det z).1 = d1 at *
  generalize hd2 : (Cx.det z).2 = d2 at *
  clear hd1 hd2
  go_wp2_with fail
  refine (rMark_any _ _).mono ?_
  rintro e w5 ⟨m', rfl, hm5, hb5⟩
  have HM5 : Hid (Rd .u8 w5 m' (Cx.mk enc)) := hm5
  have HW5 : Hid (Below w4.heap.size w4 w5) := hb5
  have HA : Hid (Below w2.heap.size w2 w5) := ext_trans HW3.out (ext_trans HW4.out hb5)
  have HM' : Hid (Rd .u8 w5 m (Cx.mk enc)) := HM.out.ext (ext_trans HW2.out HA.out)
  have HR5 : Hid (Rd .u8 w5 (.slice ao z.length cp) z) := HR.out.ext (ext_trans HW1.out (ext_trans HW2.out HA.out))
  clear hm5 hb5
  go_wp2_with fail
  refine (sameBytes_any _ _ _ _ _ HM'.out HM5.out).mono ?_
  rintro e w6 ⟨rfl, hb6⟩
  have HW6 : Hid (Below w5.heap.size w5 w6) := hb6
  have HL6 : Hid (Lent w6 w1.heap.size g cap z) := HL.out.ext (ext_trans HA.out hb6)
  clear hb6
  go_wp2_with fail
  refine (kept_any _ z g cap _ _ (HR5.out.ext HW6.out) HL6.out).mono ?_
  rintro e w7 ⟨rfl, hb7⟩
  have HW7 : Hid (Below w6.heap.size w6 w7) := hb7
  have HL7 : Hid (Lent w7 w1.heap.size g cap z) := HL6.out.ext hb7
  have HR7 : Hid (Rd .u8 w7 (.slice ao z.length cp) z) := (HR5.out.ext HW6.out).ext hb7
  clear hb7
  go_wp2_with fail
  refine (turned_any z g cap _ _ (by omega) HL7.out).mono ?_
  rintro e w8 ⟨o, rfl, hL8, hO8, hg8⟩
  have hT := turn_len z
  have hTb : Hid (Byt (turn z)) := turn_byt z
  have HL8 : Hid (Lent w8 w1.heap.size g cap (turn z)) := hL8
  have HO8 : Hid (Rd .u8 w8 o (turn z)) := Rd.of_own hO8
  have HG8 : Hid (w7.grownBy w8 (some g)) := hg8
  clear hL8 hO8 hg8
  go_wp2_with fail
  have hrd8 := HL8.out.rd
  rw [hT] at hrd8
  refine (Detect_any _ (turn z) _ hrd8 hTb.out).mono ?_
  rintro e w9 ⟨rfl, hb9⟩
  have HW9 : Hid (Below w8.heap.size w8 w9) := hb9
  clear hb9 hrd8
  go_wp2_with fail
  refine (rDetect_any _ (turn z) _ (HO8.out.ext HW9.out) (by omega)).mono ?_
  rintro e w10 ⟨rfl, hb10⟩
  generalize (Cx.det (turn z)).1 = d3 at *
  generalize (Cx.det (turn z)).2 = d4 at *
  have HW10 : Hid (Below w9.heap.size w9 w10) := hb10
  clear hb10
  go_wp2
  go_ret
  refine ⟨rfl, ?_⟩
  have hA : Below w.heap.size w w7 := ext_trans HW1.out (ext_trans HW2.out (ext_trans HA.out (ext_trans HW6.out HW7.out)))
  have hB : Below w.heap.size w w8 := hA.grown HG8.out hA.size (fun k hk => by cases hk; exact Nat.le_trans HW1.out.size HL8.out.2.2.1)
  exact ext_trans hB (ext_trans HW9.out HW10.out)

theorem Byt.two : Byt [254, 255] := by unfold Byt; simp
end Go.Proofs.YtmfbobibpebfnaaGreat

/- sameInts; decoded; the law CodecDecode. -/
namespace Go.Proofs.YtmfbobibpebfnaaGreat
open Go.RowKit

theorem Cx.dd_nil (enc : Int) : Cx.dd enc [] = [] := by unfold Cx.dd; split <;> rfl

set_option maxRecDepth 100000 in
set_option maxHeartbeats 1000000 in
theorem decoded_any (enc : Int) (v : Value) (z : List Int) (w : World) (h : Rd .u8 w v z) (hb : Byt z) (hz : (z.length + 40) * 8 ≤ 140737488355328) :
    Calls Tryz.prog 8 #[.int .i64 enc, v] w fun e w' => e = .returned (.bool true) ∧ Below w.heap.size w w' := by
  obtain ⟨ao, cp, rfl, _⟩ := id h
  have HR : Hid (Rd .u8 w (.slice ao z.length cp) z) := h
  have HB : Hid (Byt z) := hb
  clear h hb
  go_enter Tryz.func8, Tryz.ntmps8
  go_wp2_with fail
  refine (lend_any _ z _ HR.out (by omega)).mono ?_
  rintro e w1 ⟨g, cap, rfl, hL1, hb1⟩
  have HL : Hid (Lent w1 w.heap.size g cap z) := hL1
  have hcap : z.length + 40 ≤ cap := hL1.1
  have hcm : cap ≤ 9223372036854775807 := hL1.2.1
  have HW1 : Hid (Below w.heap.size w w1) := hb1
  clear hL1 hb1
  go_wp2_with fail
  refine (Decode_any enc _ z _ HL.out.rd HB.out (by omega)).mono ?_
  rintro e w2 ⟨l, rfl, hl2, hb2⟩
  have HO2 : Hid (Rd .i64 w2 l (Cx.dd enc z)) := Rd.of_own hl2
  have HW2 : Hid (Below w1.heap.size w1 w2) := hb2
  clear hl2 hb2
  go_wp2_with fail
  refine (rDecode_any enc _ z _ (HR.out.ext (ext_trans HW1.out HW2.out)) HB.out (by omega)).mono ?_
  rintro e w3 ⟨m, rfl, hm3, hb3⟩
  have HO3 : Hid (Rd .i64 w3 m (Cx.dd enc z)) := Rd.of_own hm3
  have HW3 : Hid (Below w2.heap.size w2 w3) := hb3
  clear hm3 hb3
  go_wp2_with fail
  refine (Decode_any enc _ [] _ (Rd.nil _ _) (by intro x hx; simp at hx) (by simp)).mono ?_
  rintro e w4 ⟨zv, rfl, hz4, hb4⟩
  have hz4' := Rd.of_own hz4
  rw [Cx.dd_nil] at hz4'
  obtain ⟨za, zc, rfl, _⟩ := hz4'
  have HW4 : Hid (Below w3.heap.size w3 w4) := hb4
  clear hz4 hb4
  simp only [List.length_nil]
  go_wp2_with fail
  refine (rDecode_any enc _ [] _ (Rd.nil _ _) (by intro x hx; simp at hx) (by simp)).mono ?_
  rintro e w5 ⟨yv, rfl, hy5, hb5⟩
  have HW5 : Hid (Below w4.heap.size w4 w5) := hb5
  have HA : Hid (Below w1.heap.size w1 w5) := ext_trans HW2.out (ext_trans HW3.out (ext_trans HW4.out hb5))
  have HR5 : Hid (Rd .u8 w5 (.slice ao z.length cp) z) := HR.out.ext (ext_trans HW1.out HA.out)
  have HM5 : Hid (Rd .i64 w5 m (Cx.dd enc z)) := HO3.out.ext (ext_trans HW4.out hb5)
  have HL5 : Hid (Rd .i64 w5 l (Cx.dd enc z)) := HO2.out.ext (ext_trans HW3.out (ext_trans HW4.out hb5))
  clear hy5 hb5
  have hner : (Cx.er enc != Cx.er enc) = false := by simp
  have heer : (Cx.er enc == Cx.er enc) = true := by simp
  generalize Cx.er enc = er at *
  go_wp2_with fail
  refine (num_any _ _).mono ?_
  rintro e w' ⟨rfl, hw'⟩
  subst hw'
  go_wp2_with fail
  refine (sameInts_any _ _ _ _ HL5.out HM5.out).mono ?_
  rintro e w6 ⟨rfl, hb6⟩
  have HW6 : Hid (Below w'.heap.size w' w6) := hb6
  have HL6 : Hid (Lent w6 w.heap.size g cap z) := HL.out.ext (ext_trans HA.out hb6)
  have HR6 : Hid (Rd .u8 w6 (.slice ao z.length cp) z) := HR5.out.ext hb6
  clear hb6
  go_wp2_with fail
  refine (kept_any _ z g cap _ _ HR6.out HL6.out).mono ?_
  rintro e w7 ⟨rfl, hb7⟩
  have HW7 : Hid (Below w6.heap.size w6 w7) := hb7
  have HL7 : Hid (Lent w7 w.heap.size g cap z) := HL6.out.ext hb7
  clear hb7
  go_wp2_with fail
  refine (num_any _ _).mono ?_
  rintro e w'' ⟨rfl, hw''⟩
  subst hw''
  go_wp2_with fail
  refine (turned_any z g cap _ _ (by omega) HL7.out).mono ?_
  rintro e w8 ⟨o, rfl, hL8, hO8, hg8⟩
  have hT := turn_len z
  have hTb : Hid (Byt (turn z)) := turn_byt z
  have HL8 : Hid (Lent w8 w.heap.size g cap (turn z)) := hL8
  have HO8 : Hid (Rd .u8 w8 o (turn z)) := Rd.of_own hO8
  have HG8 : Hid (w''.grownBy w8 (some g)) := hg8
  clear hL8 hO8 hg8
  go_wp2_with fail
  have hrd8 := HL8.out.rd
  rw [hT] at hrd8
  refine (Decode_any enc _ (turn z) _ hrd8 hTb.out (by omega)).mono ?_
  rintro e w9 ⟨l9, rfl, hl9, hb9⟩
  have HO9 : Hid (Rd .i64 w9 l9 (Cx.dd enc (turn z))) := Rd.of_own hl9
  have HW9 : Hid (Below w8.heap.size w8 w9) := hb9
  clear hb9 hrd8 hl9
  go_wp2_with fail
  refine (rDecode_any enc _ (turn z) _ (HO8.out.ext HW9.out) hTb.out (by omega)).mono ?_
  rintro e w10 ⟨m10, rfl, hm10, hb10⟩
  have HO10 : Hid (Rd .i64 w10 m10 (Cx.dd enc (turn z))) := Rd.of_own hm10
  have HW10 : Hid (Below w9.heap.size w9 w10) := hb10
  clear hm10 hb10
  generalize Cx.er enc = er2 at *
  go_wp2_with fail
  refine (num_any _ _).mono ?_
  rintro e w11 ⟨rfl, hw11⟩
  subst hw11
  go_wp2_with fail
  refine (sameInts_any _ _ _ _ (HO9.out.ext HW10.out) HO10.out).mono ?_
  rintro e w12 ⟨rfl, hb12⟩
  have HW12 : Hid (Below w11.heap.size w11 w12) := hb12
  clear hb12
  go_wp2
  go_ret
  refine ⟨rfl, ?_⟩
  have hA : Below w.heap.size w w'' := ext_trans HW1.out (ext_trans HA.out (ext_trans HW6.out HW7.out))
  have hB : Below w.heap.size w w8 := hA.grown HG8.out hA.size (fun k hk => by cases hk; exact HL8.out.2.2.1)
  exact ext_trans hB (ext_trans HW9.out (ext_trans HW10.out HW12.out))

theorem Byt.two2 : Byt [195, 169] := by unfold Byt; simp
end Go.Proofs.YtmfbobibpebfnaaGreat
