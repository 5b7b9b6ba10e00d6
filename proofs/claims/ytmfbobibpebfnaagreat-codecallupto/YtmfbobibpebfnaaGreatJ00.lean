import Derived.Test.YtmfbobibpebfnaaGreatRows
import Derived.WalkKit
import Derived.WalkSpells
import Derived.WalkLawsBesides
import Derived.StillTactics
import Derived.Deep.QuietTactic
import Derived.BigQuiet
import Derived.Outline
/- Plain functions of chapter 1: what the document says of one atom. No Go in sight. -/
namespace Go.Proofs.YtmfbobibpebfnaaGreat.Cx

def isSc (a : Int) : Bool := (decide (0 ≤ a) && decide (a < 55296)) || (decide (57343 < a) && decide (a ≤ 1114111))

def fits (enc a : Int) : Bool :=
  if enc = 1 then isSc a || (decide (a ≤ -129) && decide (-256 ≤ a))
  else if enc = 2 ∨ enc = 3 then decide (-256 ≤ a) && decide (a ≤ 1114111)
  else if enc = 4 then decide (0 ≤ a) && decide (a ≤ 255)
  else false

def put8 (a : Int) : List Int :=
  if a < 128 then [a] else if a < 2048 then [192 + a / 64, 128 + a % 64]
  else if a < 65536 then [224 + a / 4096, 128 + a / 64 % 64, 128 + a % 64]
  else [240 + a / 262144, 128 + a / 4096 % 64, 128 + a / 64 % 64, 128 + a % 64]

def unit (enc u : Int) : List Int := if enc = 2 then [u % 256, u / 256] else [u / 256, u % 256]

def put (enc a : Int) : List Int :=
  if a < 0 then [-1 - a] else if enc = 1 then put8 a else if enc = 4 then [a]
  else if 65536 ≤ a then unit enc (55296 + (a - 65536) / 1024) ++ unit enc (56320 + a % 1024)
  else unit enc a

def size (enc a : Int) : Int := if fits enc a = true then (put enc a).length else 0

def nsize (a : Int) : Int :=
  if a < -256 then 0 else if a ≤ -129 then 1 else if a < 0 then 0 else if a < 128 then 1 else if a < 2048 then 2
  else if a < 55296 then 3 else if a ≤ 57343 then 0 else if a < 65536 then 3 else if a ≤ 1114111 then 4 else 0
def wsize (a : Int) : Int :=
  if a < -256 then 0 else if a < 0 then 1 else if a < 65536 then 2 else if a ≤ 1114111 then 4 else 0
def lsize (a : Int) : Int := if a < 0 then 0 else if a ≤ 255 then 1 else 0

theorem size1 (a : Int) : size 1 a = nsize a := by
  unfold size nsize fits isSc put put8
  simp
  repeat' split
  all_goals first | omega | (simp; omega) | simp
theorem sizeW (enc a : Int) (h : enc = 2 ∨ enc = 3) : size enc a = wsize a := by
  rcases h with rfl | rfl
  all_goals
    unfold size wsize fits put unit
    simp
    repeat' split
    all_goals first | omega | (simp; omega) | simp
theorem size4 (a : Int) : size 4 a = lsize a := by
  unfold size lsize fits put
  simp
  repeat' split
  all_goals first | omega | (simp; omega) | simp
end Go.Proofs.YtmfbobibpebfnaaGreat.Cx

/- The coders behind the interface: which method is whose; the coder of an encoding; sizes. -/
namespace Go.Proofs.YtmfbobibpebfnaaGreat
open Go.RowKit

/-- The coder of an encoding, as an interface value. -/
def Cx.cv (enc : Int) : Value :=
  if enc = 1 then .iface 76 (.agg #[]) else if enc = 2 then .iface 78 (.agg #[.int .i64 0])
  else if enc = 3 then .iface 78 (.agg #[.int .i64 1]) else if enc = 4 then .iface 79 (.agg #[]) else .nilIface
def Cx.known (enc : Int) : Bool := decide (1 ≤ enc) && decide (enc ≤ 4)

theorem m_size1 (w : World) : (method 229 76 (.agg #[]) "copyist/codec.size").run Tryz.prog w = .ok (96, .agg #[]) w := by kernel_rfl
theorem m_size2 (k : Int) (w : World) : (method 229 78 (.agg #[.int .i64 k]) "copyist/codec.size").run Tryz.prog w = .ok (106, .agg #[.int .i64 k]) w := by kernel_rfl
theorem m_size4 (w : World) : (method 229 79 (.agg #[]) "copyist/codec.size").run Tryz.prog w = .ok (118, .agg #[]) w := by kernel_rfl

theorem ret_int {k : IntKind} {a b : Int} (h : a = b) : Ending.returned (.int k a) = .returned (.int k b) := by rw [h]
theorem ret_bool {a b : Bool} (h : a = b) : Ending.returned (.bool a) = .returned (.bool b) := by rw [h]

theorem coderOf_any (enc : Int) (w : World) : Calls Tryz.prog 12 #[.int .i64 enc] w fun e w' => e = .returned (.tuple #[Cx.cv enc, .bool (Cx.known enc)]) ∧ w' = w := by
  by_cases h1 : enc = 1
  · subst h1; go_enter Tryz.func12, Tryz.ntmps12; go_wp2; go_ret2; exact ⟨rfl, rfl⟩
  by_cases h2 : enc = 2
  · subst h2; go_enter Tryz.func12, Tryz.ntmps12; go_wp2; go_ret2; exact ⟨rfl, rfl⟩
  by_cases h3 : enc = 3
  · subst h3; go_enter Tryz.func12, Tryz.ntmps12; go_wp2; go_ret2; exact ⟨rfl, rfl⟩
  by_cases h4 : enc = 4
  · subst h4; go_enter Tryz.func12, Tryz.ntmps12; go_wp2; go_ret2; exact ⟨rfl, rfl⟩
  · have e1 : Cx.cv enc = .nilIface := by simp [Cx.cv, h1, h2, h3, h4]
    have e2 : Cx.known enc = false := by simp [Cx.known]; omega
    rw [e1, e2]
    have b1 : (enc == 1) = false := by simp [h1]
    have b2 : (enc == 2) = false := by simp [h2]
    have b3 : (enc == 3) = false := by simp [h3]
    have b4 : (enc == 4) = false := by simp [h4]
    clear h1 h2 h3 h4 e1 e2
    go_enter Tryz.func12, Tryz.ntmps12
    go_wp2
    go_ret2
    exact ⟨rfl, rfl⟩

theorem coderOf_1 (w : World) : Calls Tryz.prog 12 #[.int .i64 1] w fun e w' => e = .returned (.tuple #[.iface 76 (.agg #[]), .bool true]) ∧ w' = w := coderOf_any 1 w
theorem coderOf_2 (w : World) : Calls Tryz.prog 12 #[.int .i64 2] w fun e w' => e = .returned (.tuple #[.iface 78 (.agg #[.int .i64 0]), .bool true]) ∧ w' = w := coderOf_any 2 w
theorem coderOf_3 (w : World) : Calls Tryz.prog 12 #[.int .i64 3] w fun e w' => e = .returned (.tuple #[.iface 78 (.agg #[.int .i64 1]), .bool true]) ∧ w' = w := coderOf_any 3 w
theorem coderOf_4 (w : World) : Calls Tryz.prog 12 #[.int .i64 4] w fun e w' => e = .returned (.tuple #[.iface 79 (.agg #[]), .bool true]) ∧ w' = w := coderOf_any 4 w
theorem coderOf_no (enc : Int) (h1 : enc ≠ 1) (h2 : enc ≠ 2) (h3 : enc ≠ 3) (h4 : enc ≠ 4) (w : World) : Calls Tryz.prog 12 #[.int .i64 enc] w fun e w' => e = .returned (.tuple #[.nilIface, .bool false]) ∧ w' = w := by
  have e1 : Cx.cv enc = .nilIface := by simp [Cx.cv, h1, h2, h3, h4]
  have e2 : Cx.known enc = false := by simp [Cx.known]; omega
  have := coderOf_any enc w
  rwa [e1, e2] at this

set_option maxHeartbeats 1000000 in
theorem nsize_any (a : Int) (w : World) : Calls Tryz.prog 96 #[.agg #[], .int .i64 a] w fun e w' => e = .returned (.int .i64 (Cx.nsize a)) ∧ Below w.heap.size w w' := by
  rcases (show a < -256 ∨ (-256 ≤ a ∧ a ≤ -129) ∨ (-128 ≤ a ∧ a ≤ -1) ∨ (0 ≤ a ∧ a < 128) ∨ (128 ≤ a ∧ a < 2048) ∨ (2048 ≤ a ∧ a < 55296) ∨ (55296 ≤ a ∧ a ≤ 57343) ∨ (57344 ≤ a ∧ a < 65536) ∨ (65536 ≤ a ∧ a ≤ 1114111) ∨ 1114111 < a from by omega) with h | ⟨h, h'⟩ | ⟨h, h'⟩ | ⟨h, h'⟩ | ⟨h, h'⟩ | ⟨h, h'⟩ | ⟨h, h'⟩ | ⟨h, h'⟩ | ⟨h, h'⟩ | h
  all_goals
    go_enter Tryz.func96, Tryz.ntmps96
    go_wp2
    go_ret
    refine ⟨ret_int ?_, (Below.refl _ _).alloc (Nat.le_refl _) _⟩
    unfold Cx.nsize
    repeat' split
    all_goals omega
set_option maxHeartbeats 1000000 in
theorem wsize_any (k a : Int) (w : World) : Calls Tryz.prog 106 #[.agg #[.int .i64 k], .int .i64 a] w fun e w' => e = .returned (.int .i64 (Cx.wsize a)) ∧ Below w.heap.size w w' := by
  rcases (show a < -256 ∨ (-256 ≤ a ∧ a ≤ -1) ∨ (0 ≤ a ∧ a < 55296) ∨ (55296 ≤ a ∧ a ≤ 57343) ∨ (57344 ≤ a ∧ a < 65536) ∨ (65536 ≤ a ∧ a ≤ 1114111) ∨ 1114111 < a from by omega) with h | ⟨h, h'⟩ | ⟨h, h'⟩ | ⟨h, h'⟩ | ⟨h, h'⟩ | ⟨h, h'⟩ | h
  all_goals
    first | have hd : decide (a ≤ 57343) = false := by simp; omega
          | skip
    go_enter Tryz.func106, Tryz.ntmps106
    go_wp2
    go_ret
    refine ⟨ret_int ?_, (Below.refl _ _).alloc (Nat.le_refl _) _⟩
    unfold Cx.wsize
    repeat' split
    all_goals omega
theorem lsize_any (a : Int) (w : World) : Calls Tryz.prog 118 #[.agg #[], .int .i64 a] w fun e w' => e = .returned (.int .i64 (Cx.lsize a)) ∧ Below w.heap.size w w' := by
  rcases (show a < 0 ∨ (0 ≤ a ∧ a ≤ 255) ∨ 255 < a from by omega) with h | ⟨h, h'⟩ | h
  all_goals
    go_enter Tryz.func118, Tryz.ntmps118
    go_wp2
    go_ret
    refine ⟨ret_int ?_, (Below.refl _ _).alloc (Nat.le_refl _) _⟩
    unfold Cx.lsize
    repeat' split
    all_goals omega

theorem Cx.size_other (enc a : Int) (h1 : enc ≠ 1) (h2 : enc ≠ 2) (h3 : enc ≠ 3) (h4 : enc ≠ 4) : Cx.size enc a = 0 := by
  simp [Cx.size, Cx.fits, h1, h2, h3, h4]

/-- codec.Size: every encoding, every atom. -/
theorem Size_any (enc a : Int) (w : World) : Calls Tryz.prog 43 #[.int .i64 enc, .int .i64 a] w fun e w' => e = .returned (.int .i64 (Cx.size enc a)) ∧ Below w.heap.size w w' := by
  by_cases h1 : enc = 1
  · subst h1
    rw [Cx.size1]
    have hm := m_size1
    go_enter Tryz.func43, Tryz.ntmps43
    go_wp2_with (first | (go_at_call 12; refine (coderOf_1 _).mono ?_; rintro e w' ⟨rfl, rfl⟩) | (go_at_call 96; refine (nsize_any _ _).mono ?_; rintro e w' ⟨rfl, hb⟩))
    go_ret
    exact ⟨rfl, by assumption⟩
  by_cases h2 : enc = 2
  · subst h2
    rw [Cx.sizeW _ _ (by decide)]
    have hm := m_size2
    go_enter Tryz.func43, Tryz.ntmps43
    go_wp2_with (first | (go_at_call 12; refine (coderOf_2 _).mono ?_; rintro e w' ⟨rfl, rfl⟩) | (go_at_call 106; refine (wsize_any _ _ _).mono ?_; rintro e w' ⟨rfl, hb⟩))
    go_ret
    exact ⟨rfl, by assumption⟩
  by_cases h3 : enc = 3
  · subst h3
    rw [Cx.sizeW _ _ (by decide)]
    have hm := m_size2
    go_enter Tryz.func43, Tryz.ntmps43
    go_wp2_with (first | (go_at_call 12; refine (coderOf_3 _).mono ?_; rintro e w' ⟨rfl, rfl⟩) | (go_at_call 106; refine (wsize_any _ _ _).mono ?_; rintro e w' ⟨rfl, hb⟩))
    go_ret
    exact ⟨rfl, by assumption⟩
  by_cases h4 : enc = 4
  · subst h4
    rw [Cx.size4]
    have hm := m_size4
    go_enter Tryz.func43, Tryz.ntmps43
    go_wp2_with (first | (go_at_call 12; refine (coderOf_4 _).mono ?_; rintro e w' ⟨rfl, rfl⟩) | (go_at_call 118; refine (lsize_any _ _).mono ?_; rintro e w' ⟨rfl, hb⟩))
    go_ret
    exact ⟨rfl, by assumption⟩
  · rw [Cx.size_other _ _ h1 h2 h3 h4]
    go_enter Tryz.func43, Tryz.ntmps43
    go_wp2_with (go_at_call 12; refine (coderOf_no _ h1 h2 h3 h4 _).mono ?_; rintro e w' ⟨rfl, rfl⟩)
    go_ret
    exact ⟨rfl, Below.refl _ _⟩
end Go.Proofs.YtmfbobibpebfnaaGreat

/- The document's answer for one atom: Fits, Put, Size; then the law CodecSizes. -/
namespace Go.Proofs.YtmfbobibpebfnaaGreat
open Go.RowKit

theorem Scalar_any (a : Int) (w : World) : Calls Tryz.prog 60 #[.int .i64 a] w fun e w' => e = .returned (.bool (Cx.isSc a)) ∧ w' = w := by
  rcases (show a < 0 ∨ (0 ≤ a ∧ a < 55296) ∨ (55296 ≤ a ∧ a ≤ 57343) ∨ (57344 ≤ a ∧ a ≤ 1114111) ∨ 1114111 < a from by omega) with h | ⟨h, h'⟩ | ⟨h, h'⟩ | ⟨h, h'⟩ | h
  all_goals
    go_enter Tryz.func60, Tryz.ntmps60
    go_wp2
    all_goals
      go_ret
      refine ⟨ret_bool ?_, rfl⟩
      first | (simp [Cx.isSc]; done) | (rw [Bool.eq_iff_iff]; simp [Cx.isSc]; omega)

theorem rFits_any (enc a : Int) (w : World) : Calls Tryz.prog 42 #[.int .i64 enc, .int .i64 a] w fun e w' => e = .returned (.bool (Cx.fits enc a)) ∧ w' = w := by
  by_cases h1 : enc = 1
  · subst h1
    rcases (show a < -256 ∨ (-256 ≤ a ∧ a ≤ -129) ∨ (-128 ≤ a ∧ a < 0) ∨ (0 ≤ a ∧ a < 55296) ∨ (55296 ≤ a ∧ a ≤ 57343) ∨ (57344 ≤ a ∧ a ≤ 1114111) ∨ 1114111 < a from by omega) with h | ⟨h, h'⟩ | ⟨h, h'⟩ | ⟨h, h'⟩ | ⟨h, h'⟩ | ⟨h, h'⟩ | h
    all_goals
      go_enter Tryz.func42, Tryz.ntmps42
      go_wp2
      all_goals
        go_ret
        refine ⟨ret_bool ?_, rfl⟩
        first | (simp [Cx.fits, Cx.isSc]; done) | (rw [Bool.eq_iff_iff]; simp [Cx.fits, Cx.isSc]; omega)
  by_cases h2 : enc = 2 ∨ enc = 3
  · rcases h2 with rfl | rfl
    all_goals
      go_enter Tryz.func42, Tryz.ntmps42
      go_wp2
      all_goals
        go_ret
        refine ⟨ret_bool ?_, rfl⟩
        first | (simp [Cx.fits]; done) | (rw [Bool.eq_iff_iff]; simp [Cx.fits]; omega)
  by_cases h4 : enc = 4
  · subst h4
    go_enter Tryz.func42, Tryz.ntmps42
    go_wp2
    all_goals
      go_ret
      refine ⟨ret_bool ?_, rfl⟩
      first | (simp [Cx.fits]; done) | (rw [Bool.eq_iff_iff]; simp [Cx.fits]; omega)
  · have b1 : (enc == 1) = false := by simp [h1]
    have b2 : (enc == 2) = false := by simp; omega
    have b3 : (enc == 3) = false := by simp; omega
    have b4 : (enc == 4) = false := by simp [h4]
    have hf : Hid (Cx.fits enc a = false) := by simp [Hid, Cx.fits, h1, h2, h4]
    clear h1 h2 h4
    go_enter Tryz.func42, Tryz.ntmps42
    go_wp2
    go_ret
    exact ⟨ret_bool hf.out.symm, rfl⟩

/-- A slice literal of bytes in a new block. -/
def Cx.Lit (w w' : World) (v : Value) (bs : List Int) : Prop :=
  ∃ g, v = .slice (some ⟨g, 0, none⟩) bs.length bs.length ∧ w.heap.size ≤ g ∧ w'.heap[g]? = some (.cells (bs.map (Value.int .u8)).toArray 5 (0, 0)) ∧ Below w.heap.size w w'

theorem Cx.lit_new (w : World) (bs : List Int) : Cx.Lit w (w.alloc (.cells (bs.map (Value.int .u8)).toArray 5)) (.slice (some ⟨w.heap.size, 0, none⟩) bs.length bs.length) bs :=
  ⟨w.heap.size, rfl, Nat.le_refl _, heap_alloc_new w _, (Below.refl _ _).alloc (Nat.le_refl _) _⟩

theorem eight_any (a : Int) (w : World) (h0 : 0 ≤ a) (hx : a ≤ 1114111) : Calls Tryz.prog 66 #[.int .i64 a] w fun e w' => ∃ v, e = .returned v ∧ Cx.Lit w w' v (Cx.put8 a) := by
  rcases (show a < 128 ∨ (128 ≤ a ∧ a < 2048) ∨ (2048 ≤ a ∧ a < 65536) ∨ 65536 ≤ a from by omega) with h | ⟨h, h'⟩ | ⟨h, h'⟩ | h
  · have e1 : Cx.put8 a = [a] := by unfold Cx.put8; rw [if_pos h]
    go_enter Tryz.func66, Tryz.ntmps66
    go_wp2
    go_ret
    exact ⟨_, rfl, by rw [e1]; exact Cx.lit_new w [a]⟩
  · have e1 : Cx.put8 a = [192 + a / 64, 128 + a % 64] := by unfold Cx.put8; rw [if_neg (by omega), if_pos h']
    go_enter Tryz.func66, Tryz.ntmps66
    go_wp2
    go_ret
    exact ⟨_, rfl, by rw [e1]; exact Cx.lit_new w [192 + a / 64, 128 + a % 64]⟩
  · have e1 : Cx.put8 a = [224 + a / 4096, 128 + a / 64 % 64, 128 + a % 64] := by unfold Cx.put8; rw [if_neg (by omega), if_neg (by omega), if_pos h']
    go_enter Tryz.func66, Tryz.ntmps66
    go_wp2
    go_ret
    exact ⟨_, rfl, by rw [e1]; exact Cx.lit_new w [224 + a / 4096, 128 + a / 64 % 64, 128 + a % 64]⟩
  · have e1 : Cx.put8 a = [240 + a / 262144, 128 + a / 4096 % 64, 128 + a / 64 % 64, 128 + a % 64] := by unfold Cx.put8; rw [if_neg (by omega), if_neg (by omega), if_neg (by omega)]
    go_enter Tryz.func66, Tryz.ntmps66
    go_wp2
    go_ret
    exact ⟨_, rfl, by rw [e1]; exact Cx.lit_new w [240 + a / 262144, 128 + a / 4096 % 64, 128 + a / 64 % 64, 128 + a % 64]⟩

theorem unit_any (enc u : Int) (w : World) (h0 : 0 ≤ u) (hx : u ≤ 65535) : Calls Tryz.prog 67 #[.int .i64 enc, .int .i64 u] w fun e w' => ∃ v, e = .returned v ∧ Cx.Lit w w' v (Cx.unit enc u) := by
  by_cases h : enc = 2
  · subst h
    go_enter Tryz.func67, Tryz.ntmps67
    go_wp2
    go_ret
    exact ⟨_, rfl, Cx.lit_new w [u % 256, u / 256]⟩
  · have b : (enc == 2) = false := by simp [h]
    have e1 : Cx.unit enc u = [u / 256, u % 256] := by unfold Cx.unit; rw [if_neg h]
    clear h
    go_enter Tryz.func67, Tryz.ntmps67
    go_wp2
    go_ret
    exact ⟨_, rfl, by rw [e1]; exact Cx.lit_new w [u / 256, u % 256]⟩

theorem Cx.Lit.head {w w' : World} {v : Value} {bs : List Int} (h : Cx.Lit w w' v bs) : ∃ g, v = .slice (some ⟨g, 0, none⟩) bs.length bs.length ∧ w.heap.size ≤ g ∧ (∀ i, i < bs.length → w'.cell? ⟨g, i, none⟩ = some (.int .u8 (bs.getD i 0))) ∧ Below w.heap.size w w' := by
  obtain ⟨g, hv, hg, hh, hb⟩ := h
  refine ⟨g, hv, hg, fun i hi => ?_, hb⟩
  rw [cell_of_row w' g i _ _ _ hh]
  simp [List.getD, hi]

theorem Cx.put_len (enc a : Int) : 1 ≤ (Cx.put enc a).length ∧ (Cx.put enc a).length ≤ 4 := by
  unfold Cx.put Cx.put8 Cx.unit
  repeat' split
  all_goals simp

def Cx.u0 (enc u : Int) : Int := if enc = 2 then u % 256 else u / 256
def Cx.u1 (enc u : Int) : Int := if enc = 2 then u / 256 else u % 256
theorem Cx.unit_eq (enc u : Int) : Cx.unit enc u = [Cx.u0 enc u, Cx.u1 enc u] := by unfold Cx.unit Cx.u0 Cx.u1; split <;> rfl
theorem Cx.u_bd (enc u : Int) (h0 : 0 ≤ u) (hx : u ≤ 65535) : (0 ≤ Cx.u0 enc u ∧ Cx.u0 enc u ≤ 255) ∧ 0 ≤ Cx.u1 enc u ∧ Cx.u1 enc u ≤ 255 := by unfold Cx.u0 Cx.u1; split <;> omega

theorem unit2_any (enc u : Int) (w : World) (h0 : 0 ≤ u) (hx : u ≤ 65535) : Calls Tryz.prog 67 #[.int .i64 enc, .int .i64 u] w fun e w' => ∃ g, e = .returned (.slice (some ⟨g, 0, none⟩) 2 2) ∧ w.heap.size ≤ g ∧ g < w'.heap.size ∧
    w'.cell? ⟨g, 0, none⟩ = some (.int .u8 (Cx.u0 enc u)) ∧ w'.cell? ⟨g, 1, none⟩ = some (.int .u8 (Cx.u1 enc u)) ∧ Below w.heap.size w w' := by
  refine (unit_any enc u w h0 hx).mono ?_
  rintro e w' ⟨v, rfl, hv⟩
  rw [Cx.unit_eq] at hv
  obtain ⟨g, rfl, hg, hc, hb⟩ := hv.head
  have h1 := hc 0 (by simp)
  have h2 := hc 1 (by simp)
  simp at h1 h2
  exact ⟨g, rfl, hg, World.block_lt_of_cell? w' _ h1, h1, h2, hb⟩

theorem Put_any (enc a : Int) (w : World) (h0 : -256 ≤ a) (hx : a ≤ 1114111) (h4 : enc = 4 → a ≤ 255) : Calls Tryz.prog 59 #[.int .i64 enc, .int .i64 a] w fun e w' => ∃ v, e = .returned v ∧ Cx.Lit w w' v (Cx.put enc a) := by
  by_cases hn : a < 0
  · have e1 : Cx.put enc a = [-1 - a] := by unfold Cx.put; rw [if_pos hn]
    clear h4
    go_enter Tryz.func59, Tryz.ntmps59
    go_wp2
    go_ret
    exact ⟨_, rfl, by rw [e1]; exact Cx.lit_new w [-1 - a]⟩
  by_cases h1 : enc = 1
  · subst h1
    have e1 : Cx.put 1 a = Cx.put8 a := by unfold Cx.put; rw [if_neg hn, if_pos rfl]
    have HE : Hid (Cx.put 1 a = Cx.put8 a) := e1
    clear h4 e1
    go_enter Tryz.func59, Tryz.ntmps59
    go_wp2_with (go_at_call 66; refine (eight_any _ _ (by omega) (by omega)).mono ?_; rintro e w' ⟨v, rfl, hv⟩)
    go_ret
    exact ⟨_, rfl, by rw [HE.out]; assumption⟩
  by_cases h4' : enc = 4
  · subst h4'
    have h4 := h4 rfl
    have HE : Hid (Cx.put 4 a = [a]) := by unfold Hid Cx.put; rw [if_neg hn]; rfl
    go_enter Tryz.func59, Tryz.ntmps59
    go_wp2
    go_ret
    exact ⟨_, rfl, by rw [HE.out]; exact Cx.lit_new w [a]⟩
  have b1 : (enc == 1) = false := by simp [h1]
  have b4 : (enc == 4) = false := by simp [h4']
  by_cases hb : 65536 ≤ a
  · have HE : Hid (Cx.put enc a = Cx.unit enc (55296 + (a - 65536) / 1024) ++ Cx.unit enc (56320 + a % 1024)) := by unfold Hid Cx.put; rw [if_neg hn, if_neg h1, if_neg h4', if_pos hb]
    clear h4 h1 h4'
    go_enter Tryz.func59, Tryz.ntmps59
    go_wp2_with fail
    refine (unit2_any _ _ _ (by omega) (by omega)).mono ?_
    rintro e w1 ⟨g, rfl, hg, hgl, c0, c1, hb1⟩
    go_wp2_with fail
    refine (unit2_any _ _ _ (by omega) (by omega)).mono ?_
    rintro e w2 ⟨g2, rfl, hg2, hgl2, d0, d1, hb2⟩
    have e0 : w2.cell? ⟨g, 0, none⟩ = some (.int .u8 (Cx.u0 enc (55296 + (a - 65536) / 1024))) := (hb2.cell (p := ⟨g, 0, none⟩) hgl).trans c0
    have e1 : w2.cell? ⟨g, 1, none⟩ = some (.int .u8 (Cx.u1 enc (55296 + (a - 65536) / 1024))) := (hb2.cell (p := ⟨g, 1, none⟩) hgl).trans c1
    have hz : w.heap.size ≤ w2.heap.size := by omega
    have HB : Hid (Below w.heap.size w w2) := hb1.trans (hb2.mono hb1.size)
    clear c0 c1 hb1 hb2
    go_wp2
    go_region
    all_goals (try go_wp2)
    all_goals
      go_ret
      refine ⟨_, rfl, ?_⟩
      rw [HE.out, Cx.unit_eq, Cx.unit_eq]
      exact ⟨w2.heap.size, rfl, hz, heap_alloc_new w2 _, (HB.out.alloc hz _).drew⟩
  · have HE : Hid (Cx.put enc a = Cx.unit enc a) := by unfold Hid Cx.put; rw [if_neg hn, if_neg h1, if_neg h4', if_neg hb]
    clear h4 h1 h4'
    go_enter Tryz.func59, Tryz.ntmps59
    go_wp2_with (go_at_call 67; refine (unit_any _ _ _ (by omega) (by omega)).mono ?_; rintro e w' ⟨v, rfl, hv⟩)
    go_ret
    exact ⟨_, rfl, by rw [HE.out]; assumption⟩

theorem rSize_any (enc a : Int) (w : World) : Calls Tryz.prog 44 #[.int .i64 enc, .int .i64 a] w fun e w' => e = .returned (.int .i64 (Cx.size enc a)) ∧ Below w.heap.size w w' := by
  by_cases hf : Cx.fits enc a = true
  · have HE : Hid (Cx.size enc a = ((Cx.put enc a).length : Int)) := by unfold Hid Cx.size; rw [if_pos hf]
    have g0 : -256 ≤ a ∧ a ≤ 1114111 ∧ (enc = 4 → a ≤ 255) := by
      unfold Cx.fits Cx.isSc at hf
      repeat' split at hf
      all_goals simp at hf
      all_goals omega
    obtain ⟨g0, g1, g2⟩ := g0
    have hl := Cx.put_len enc a
    generalize hn : (Cx.put enc a).length = n at *
    have HN : Hid ((Cx.put enc a).length = n) := hn
    clear hn
    go_enter Tryz.func44, Tryz.ntmps44
    go_wp2_with (first | (go_at_call 42; refine (rFits_any _ _ _).mono ?_; rintro e w' ⟨rfl, rfl⟩) | (go_at_call 59; refine (Put_any _ _ _ g0 g1 g2).mono ?_; rintro e w' ⟨v, rfl, g, rfl, hg, hh, hb⟩; rw [HN.out]))
    go_ret
    exact ⟨ret_int HE.out.symm, by assumption⟩
  · have hf : Cx.fits enc a = false := by simpa using hf
    have HE : Hid (Cx.size enc a = 0) := by unfold Hid Cx.size; rw [hf]; rfl
    go_enter Tryz.func44, Tryz.ntmps44
    go_wp2_with (go_at_call 42; refine (rFits_any _ _ _).mono ?_; rintro e w' ⟨rfl, rfl⟩)
    go_ret
    exact ⟨ret_int HE.out.symm, Below.refl _ _⟩

theorem Cx.fits_size (enc a : Int) : decide (0 < Cx.size enc a) = Cx.fits enc a := by
  have := Cx.put_len enc a
  unfold Cx.size
  cases h : Cx.fits enc a <;> simp; omega

theorem Fits_any (enc a : Int) (w : World) : Calls Tryz.prog 41 #[.int .i64 enc, .int .i64 a] w fun e w' => e = .returned (.bool (Cx.fits enc a)) ∧ Below w.heap.size w w' := by
  have HE := Cx.fits_size enc a
  rw [← HE]
  clear HE
  go_enter Tryz.func41, Tryz.ntmps41
  go_wp2_with (go_at_call 43; refine (Size_any _ _ _).mono ?_; rintro e w' ⟨rfl, hb⟩)
  go_ret
  exact ⟨rfl, by assumption⟩

theorem sized_any (enc a : Int) (w : World) : Calls Tryz.prog 24 #[.int .i64 enc, .int .i64 a] w fun e w' => e = .returned (.bool true) ∧ Below w.heap.size w w' := by
  go_enter Tryz.func24, Tryz.ntmps24
  go_wp2_with (first | (go_at_call 41; refine (Fits_any _ _ _).mono ?_; rintro e w1 ⟨rfl, hb1⟩) | (go_at_call 42; refine (rFits_any _ _ _).mono ?_; rintro e w' ⟨rfl, rfl⟩) | (go_at_call 43; refine (Size_any _ _ _).mono ?_; rintro e w2 ⟨rfl, hb2⟩) | (go_at_call 44; refine (rSize_any _ _ _).mono ?_; rintro e w3 ⟨rfl, hb3⟩))
  go_ret
  refine ⟨rfl, ?_⟩
  exact hb1.trans ((hb2.mono hb1.size).trans (hb3.mono (Nat.le_trans hb1.size hb2.size)))
end Go.Proofs.YtmfbobibpebfnaaGreat

/- What bytes mean: plain functions. No Go in sight. -/
namespace Go.Proofs.YtmfbobibpebfnaaGreat.Cx

/-- Of a first byte: how many bytes its row has; from which to which the second may go. -/
def rowN (c : Int) : Int := if c ≤ 127 then 1 else if c < 194 then 0 else if c ≤ 223 then 2 else if c ≤ 239 then 3 else if c ≤ 244 then 4 else 0
def rowLo (c : Int) : Int := if c < 194 then 0 else if c = 224 then 160 else if c = 240 then 144 else if c ≤ 244 then 128 else 0
def rowHi (c : Int) : Int := if c < 194 then 0 else if c = 237 then 159 else if c = 244 then 143 else if c ≤ 244 then 191 else 0
def loJ (c : Int) (k : Nat) : Int := if k = 1 then rowLo c else 128
def hiJ (c : Int) (k : Nat) : Int := if k = 1 then rowHi c else 191
def c0 (b : List Int) : Int := b[0]?.getD 0

/-- May the byte at place j stand there (or is there none)? -/
def okAt (b : List Int) (j : Nat) : Bool := decide (b.length ≤ j) || (decide (loJ (c0 b) j ≤ b[j]?.getD 0) && decide (b[j]?.getD 0 ≤ hiJ (c0 b) j))
def okAll (b : List Int) : Bool :=
  (decide (rowN (c0 b) < 2) || okAt b 1) && (decide (rowN (c0 b) < 3) || okAt b 2) && (decide (rowN (c0 b) < 4) || okAt b 3)
/-- How many bytes the row has that bytes begin with or are the beginning of; 0: there is none. -/
def mtch (b : List Int) : Int := if okAll b = true then rowN (c0 b) else 0

theorem rowN_bd (c : Int) : 0 ≤ rowN c ∧ rowN c ≤ 4 := by unfold rowN; repeat' split <;> omega
theorem rowLo_bd (c : Int) : 0 ≤ rowLo c ∧ rowLo c ≤ 255 := by unfold rowLo; repeat' split <;> omega
theorem rowHi_bd (c : Int) : 0 ≤ rowHi c ∧ rowHi c ≤ 255 := by unfold rowHi; repeat' split <;> omega

theorem mtch_yes (b : List Int) (k : Nat) (hn : ∀ j, 1 ≤ j → j < k → okAt b j = true) (he : rowN (c0 b) ≤ k ∨ b.length ≤ k) : mtch b = rowN (c0 b) := by
  have hb := rowN_bd (c0 b)
  have ok : ∀ j : Nat, 1 ≤ j → (j : Int) < rowN (c0 b) → okAt b j = true := by
    intro j hj hr
    by_cases hjk : j < k
    · exact hn j hj hjk
    · rcases he with he | he
      · omega
      · unfold okAt; rw [decide_eq_true (show b.length ≤ j by omega), Bool.true_or]
  unfold mtch
  rw [if_pos]
  unfold okAll
  have q : ∀ j : Nat, 1 ≤ j → ∀ m : Int, m = (j : Int) + 1 → (decide (rowN (c0 b) < m) || okAt b j) = true := by
    intro j hj m hm
    by_cases h : rowN (c0 b) < m
    · rw [decide_eq_true h, Bool.true_or]
    · rw [ok j hj (by omega), Bool.or_true]
  rw [q 1 (by omega) 2 rfl, q 2 (by omega) 3 rfl, q 3 (by omega) 4 rfl]; rfl

theorem mtch_no (b : List Int) (k : Nat) (h1 : 1 ≤ k) (hr : (k : Int) < rowN (c0 b)) (hl : k < b.length) (hx : ¬ (loJ (c0 b) k ≤ b[k]?.getD 0 ∧ b[k]?.getD 0 ≤ hiJ (c0 b) k)) : mtch b = 0 := by
  have hb := rowN_bd (c0 b)
  have ho : okAt b k = false := by
    unfold okAt
    rw [decide_eq_false (show ¬ b.length ≤ k by omega), Bool.false_or]
    simp only [Bool.and_eq_false_iff, decide_eq_false_iff_not]
    rcases Classical.em (loJ (c0 b) k ≤ b[k]?.getD 0) with h | h
    · exact .inr fun h' => hx ⟨h, h'⟩
    · exact .inl h
  unfold mtch
  rw [if_neg]
  intro h
  unfold okAll at h
  simp only [Bool.and_eq_true, Bool.or_eq_true, decide_eq_true_eq] at h
  obtain ⟨⟨h2, h3⟩, h4⟩ := h
  have e : k = 1 ∨ k = 2 ∨ k = 3 := by omega
  rcases e with rfl | rfl | rfl
  · rcases h2 with h | h
    · omega
    · rw [h] at ho; cases ho
  · rcases h3 with h | h
    · omega
    · rw [h] at ho; cases ho
  · rcases h4 with h | h
    · omega
    · rw [h] at ho; cases ho

theorem okAt_of (b : List Int) (k : Nat) (h : loJ (c0 b) k ≤ b[k]?.getD 0 ∧ b[k]?.getD 0 ≤ hiJ (c0 b) k) : okAt b k = true := by
  unfold okAt
  rw [decide_eq_true h.1, decide_eq_true h.2]; simp
theorem mtch_bd (b : List Int) : 0 ≤ mtch b ∧ mtch b ≤ 4 := by
  have := rowN_bd (c0 b)
  unfold mtch; split <;> omega

/-- What the bytes of one whole row mean. -/
def val : List Int → Int
  | [a] => a
  | [a, b] => (a - 192) * 64 + (b - 128)
  | [a, b, c] => ((a - 224) * 64 + (b - 128)) * 64 + (c - 128)
  | [a, b, c, d] => (((a - 240) * 64 + (b - 128)) * 64 + (c - 128)) * 64 + (d - 128)
  | _ => 0

/-- UTF8: the atom that bytes begin with, and its bytes. -/
def first8 (b : List Int) : Int × Int := if 0 < mtch b ∧ mtch b ≤ b.length then (val (b.take (mtch b).toNat), mtch b) else (-1 - c0 b, 1)

/-- A whole row stands at the head: its bytes. -/
theorem row_bytes (b : List Int) (hb : ∀ z ∈ b, 0 ≤ z ∧ z ≤ 255) (h0 : 0 < mtch b) (hl : mtch b ≤ b.length) :
    (∃ x, b.take (mtch b).toNat = [x] ∧ mtch b = 1 ∧ 0 ≤ x ∧ x ≤ 127) ∨
    (∃ x y, b.take (mtch b).toNat = [x, y] ∧ mtch b = 2 ∧ 194 ≤ x ∧ x ≤ 223 ∧ 128 ≤ y ∧ y ≤ 191) ∨
    (∃ x y z, b.take (mtch b).toNat = [x, y, z] ∧ mtch b = 3 ∧ 224 ≤ x ∧ x ≤ 239 ∧ rowLo x ≤ y ∧ y ≤ rowHi x ∧ 128 ≤ z ∧ z ≤ 191) ∨
    (∃ x y z u, b.take (mtch b).toNat = [x, y, z, u] ∧ mtch b = 4 ∧ 240 ≤ x ∧ x ≤ 244 ∧ rowLo x ≤ y ∧ y ≤ rowHi x ∧ 128 ≤ z ∧ z ≤ 191 ∧ 128 ≤ u ∧ u ≤ 191) := by
  have hm : okAll b = true ∧ mtch b = rowN (c0 b) := by
    unfold mtch at h0 ⊢
    split at h0
    · rename_i h; exact ⟨h, by rw [if_pos h]⟩
    · omega
  obtain ⟨hok, he⟩ := hm
  rw [he] at h0 hl ⊢
  unfold okAll at hok
  simp only [Bool.and_eq_true, Bool.or_eq_true, decide_eq_true_eq] at hok
  obtain ⟨⟨h2, h3⟩, h4⟩ := hok
  match b, hb, hl, h0, h2, h3, h4 with
  | [], _, hl, h0, _, _, _ => simp only [List.length_nil] at hl; omega
  | [x], hb, hl, h0, h2, h3, h4 =>
    have hx := hb x (by simp)
    simp only [c0, List.getElem?_cons_zero, Option.getD_some, List.length_cons, List.length_nil] at *
    have e1 : rowN x = 1 := by omega
    refine .inl ⟨x, by rw [e1]; rfl, e1, hx.1, ?_⟩
    unfold rowN at e1; repeat' split at e1
    all_goals omega
  | x :: y :: l, hb, hl, h0, h2, h3, h4 =>
    have hx := hb x (by simp)
    have hy := hb y (by simp)
    simp only [c0, List.getElem?_cons_zero, Option.getD_some, List.length_cons] at *
    have hcase : (rowN x = 1 ∧ x ≤ 127) ∨ (rowN x = 2 ∧ 194 ≤ x ∧ x ≤ 223) ∨ (rowN x = 3 ∧ 224 ≤ x ∧ x ≤ 239) ∨ (rowN x = 4 ∧ 240 ≤ x ∧ x ≤ 244) := by
      unfold rowN at h0 ⊢; repeat' split at h0
      all_goals first | omega | (simp [*]; omega)
    have k1 : 2 ≤ rowN x → rowLo x ≤ y ∧ y ≤ rowHi x := by
      intro h
      rcases h2 with h2 | h2
      · omega
      · simpa [okAt, c0, loJ, hiJ] using h2
    rcases hcase with ⟨e, r⟩ | ⟨e, r⟩ | ⟨e, r⟩ | ⟨e, r⟩
    · exact .inl ⟨x, by rw [e]; rfl, e, hx.1, r⟩
    · refine .inr (.inl ⟨x, y, by rw [e]; rfl, e, r.1, r.2, ?_⟩)
      have := k1 (by omega)
      unfold rowLo rowHi at this
      repeat' split at this
      all_goals omega
    · match l, hb, hl, h3 with
      | [], _, hl, _ => simp at hl; omega
      | z :: l, hb, hl, h3 =>
        have k2 : 128 ≤ z ∧ z ≤ 191 := by
          rcases h3 with h3 | h3
          · omega
          · simpa [okAt, loJ, hiJ] using h3
        exact .inr (.inr (.inl ⟨x, y, z, by rw [e]; rfl, e, r.1, r.2, (k1 (by omega)).1, (k1 (by omega)).2, k2.1, k2.2⟩))
    · match l, hb, hl, h3, h4 with
      | [], _, hl, _, _ => simp at hl; omega
      | [z], _, hl, _, _ => simp at hl; omega
      | z :: u :: l, hb, hl, h3, h4 =>
        have k2 : 128 ≤ z ∧ z ≤ 191 := by
          rcases h3 with h3 | h3
          · omega
          · simpa [okAt, loJ, hiJ] using h3
        have k3 : 128 ≤ u ∧ u ≤ 191 := by
          rcases h4 with h4 | h4
          · omega
          · simpa [okAt, loJ, hiJ] using h4
        exact .inr (.inr (.inr ⟨x, y, z, u, by rw [e]; rfl, e, r.1, r.2, (k1 (by omega)).1, (k1 (by omega)).2, k2.1, k2.2, k3.1, k3.2⟩))
end Go.Proofs.YtmfbobibpebfnaaGreat.Cx
