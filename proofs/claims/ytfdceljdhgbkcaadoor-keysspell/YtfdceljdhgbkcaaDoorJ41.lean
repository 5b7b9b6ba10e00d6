import Derived.Test.YtfdceljdhgbkcaaDoorJ04
import Derived.Test.YtfdceljdhgbkcaaDoorJ19
import Derived.Test.YtfdceljdhgbkcaaDoorJ00
import Derived.Test.YtfdceljdhgbkcaaDoorJ26
import Derived.Test.YtfdceljdhgbkcaaDoorJ36
import Derived.Test.YtfdceljdhgbkcaaDoorJ35
import Derived.Test.YtfdceljdhgbkcaaDoorJ40
import Derived.ProofKit
import Derived.OpenShut
import Derived.ChangeOld
import Derived.SizedLaws
import Derived.Below
import Derived.Laws.Cover2
import Derived.Test.YtfdceljdhgbkcaaDoorTie
import Derived.Lib.LaidTab
import Derived.LaidMore
import Derived.Stop.Joined
import Derived.Stop.LaidErr
import Derived.LaidLaws
import Derived.ChangeArms
import Derived.Test.YtfdceljdhgbkcaaDoorCards
import Derived.SevenTiedAt
/- The document's parser: Selects, New, Reset. -/
namespace Go.Proofs.YtfdceljdhgbkcaaDoor
open Go.RowKit
set_option maxRecDepth 100000 in
set_option maxHeartbeats 1000000 in
theorem r_Selects_any (mode : Int) (w : World) : Calls Tryd.prog 8 #[.int .i64 mode] w fun e w' => e = .returned (.bool (isl mode)) ∧ w' = w := by
  by_cases h3 : mode = 3
  · subst h3
    go_enter Tryd.func8, Tryd.ntmps8
    go_wp2
    go_ret
    exact ⟨rfl, rfl⟩
  · have h3b : (mode == 3) = false := by simpa using h3
    have HE : Hid (isl mode = (mode == 4)) := by unfold Hid isl; rw [h3b, Bool.false_or]
    clear h3
    go_enter Tryd.func8, Tryd.ntmps8
    go_wp2
    go_ret
    exact ⟨by rw [HE.out]; rfl, rfl⟩
/-- The document's parser in memory: its two tables, its pending keys, whether they came in a selection. -/
structure DpM (w : World) (b : Nat) (sl : Bool) (pv : Value) (ks : List Int) : Prop where
  ex : ∃ b0 b1, w.heap[b]? = some (.cells #[.pointer (some ⟨b0, 0, none⟩), .pointer (some ⟨b1, 0, none⟩), pv, .bool sl] 74 (0, 0)) ∧ TbM w b0 false ∧ TbM w b1 true
  rd : RdS w pv ks
set_option maxRecDepth 100000 in
set_option maxHeartbeats 2000000 in
theorem r_New_any (w : World) : Calls Tryd.prog 13 #[] w fun e w' => ∃ b, e = .returned (.pointer (some ⟨b, 0, none⟩)) ∧ w.heap.size ≤ b ∧ DpM w' b false (.slice none 0 0) [] ∧ Below w.heap.size w w' := by
  go_enter Tryd.func13, Tryd.ntmps13
  go_wp2_with fail
  go_at_call 7
  refine (r_Of_false _).mono ?_
  rintro e y1 ⟨b0, rfl, hb0, ht0, hl0⟩
  (try dsimp only)
  have HT0 := hidIt ht0
  have HL0 := hidIt hl0
  clear ht0 hl0
  go_wp2_with fail
  go_at_call 7
  refine (r_Of_true _).mono ?_
  rintro e y2 ⟨b1, rfl, hb1, ht1, hl1⟩
  (try dsimp only)
  have HT1 := hidIt ht1
  have HL1 := hidIt hl1
  clear ht1 hl1
  go_wp2_with fail
  go_ret
  have hb : Below y2.heap.size y2 (y2.alloc (.cells #[.pointer (some ⟨b0, 0, none⟩), .pointer (some ⟨b1, 0, none⟩), .slice none 0 0, .bool false] 74)) := ext_alloc (Below.refl _ _) _
  exact ⟨y2.heap.size, rfl, Nat.le_trans HL0.out.size HL1.out.size, ⟨⟨b0, b1, heap_alloc_new _ _, (HT0.out.ext HL1.out).ext hb, HT1.out.ext hb⟩, (OwnI.nil _ 0).rds⟩, ext_trans (ext_trans HL0.out HL1.out) hb⟩
end Go.Proofs.YtfdceljdhgbkcaaDoor

/- KeysSpell: the walk. -/
namespace Go.Proofs.YtfdceljdhgbkcaaDoor
open Go.RowKit
theorem eql_nilK (w : World) (a : Option Addr) (l c : Nat) : (binOp .eql 25 (.slice a l c) (.slice none 0 0)).run Tryd.prog w = .ok (.bool a.isNone) w := by
  unfold binOp
  simp [run_equal_slice_nil w 25 3 a l c Tryd.underlying25]
theorem r_Of_any (sl : Bool) (w : World) : Calls Tryd.prog 7 #[.bool sl] w fun e w' => ∃ b, e = .returned (.pointer (some ⟨b, 0, none⟩)) ∧ TbM w' b sl ∧ Below w.heap.size w w' := by
  cases sl
  · exact (r_Of_false w).mono fun e w' ⟨b, h1, _, h2, h3⟩ => ⟨b, h1, h2, h3⟩
  · exact (r_Of_true w).mono fun e w' ⟨b, h1, _, h2, h3⟩ => ⟨b, h1, h2, h3⟩
set_option maxRecDepth 100000 in
set_option maxHeartbeats 4000000 in
theorem spellLaw_any (mode : Int) (c : Cm) (w : World) (hr : In64 c.r) (ha : In64 c.a) (hT : Tb w) :
    Calls Tryd.prog 3 #[.int .i64 mode, cmV c] w fun e w' => e = .returned (.bool true) ∧ Below w.heap.size w w' := by
  have HSD := hidIt (spell_doc mode c hr ha)
  obtain ⟨cr, cc, cv, cm, ca⟩ := c
  have HTb := hidIt hT
  obtain ⟨w0, hw0⟩ : ∃ w0, w0 = w.alloc (.cells #[.int .i64 cr, .int .i64 cc, .int .i64 cv, .int .i64 cm, .int .i64 ca] 23) := ⟨_, rfl⟩
  have HB0 : Hid (Below w.heap.size w w0) := by unfold Hid; rw [hw0]; exact ext_alloc (Below.refl _ _) _
  have HR0 : Hid (w0.heap[w.heap.size]? = some (.cells #[.int .i64 cr, .int .i64 cc, .int .i64 cv, .int .i64 cm, .int .i64 ca] 23 (0, 0))) := by unfold Hid; rw [hw0]; exact heap_alloc_new _ _
  clear hr ha hT
  have hq := fun w a l c => eql_nilK w a l c
  have HAL := hidIt (alive_any w0 (HTb.out.ext HB0.out))
  go_enter Tryd.func3, Tryd.ntmps3
  go_upto_region 1 with fail
  rw [← hw0]
  clear hw0
  go_upto_region 2 with (go_at_call 5; refine HAL.out.mono ?_; rintro e w1 ⟨rfl, hb1⟩; (try dsimp only); have HB1 := hidIt hb1; clear hb1 HAL)
  have HR1 := hidIt ((HB1.out.block _ (Array.getElem?_eq_some_iff.1 HR0.out).1).trans HR0.out)
  have HBW1 : Hid (Below w.heap.size w w1) := ext_trans HB0.out HB1.out
  have HSP := hidIt (Spell_any mode ⟨cr, cc, cv, cm, ca⟩ w1 (HTb.out.ext HBW1.out))
  obtain ⟨_, r0, r1, r2, r3, r4, rf⟩ := cells5 HR1.out
  go_upto_region 3 with (go_at_call 6; refine HSP.out.mono ?_; rintro e w2 ⟨u, rfl, hu, hb2⟩; obtain ⟨ua, un, uc, rfl⟩ := optI_form hu; (try dsimp only); have HU := hidIt hu; have HB2 := hidIt hb2; clear hu hb2 HSP)
  clear r0 r1 r2 r3 r4 rf
  have HOF := hidIt (fun w => r_Of_any (isl mode) w)
  go_upto_region 4 with (first | (go_at_call 8; refine (r_Selects_any mode _).mono ?_; rintro e y ⟨rfl, rfl⟩; (try dsimp only)) | (go_at_call 7; refine (HOF.out _).mono ?_; rintro e w3 ⟨b, rfl, ht, hb3⟩; (try dsimp only); have HTB := hidIt ht; have HB3 := hidIt hb3; clear ht hb3 HOF))
  have HB13 : Hid (Below w1.heap.size w1 w3) := ext_trans HB2.out HB3.out
  have HR3 := hidIt ((HB13.out.block _ (Array.getElem?_eq_some_iff.1 HR1.out).1).trans HR1.out)
  have HSQ := hidIt (r_Spell_any (b := b) (sl := isl mode) ⟨cr, cc, cv, cm, ca⟩ w3 HTB.out)
  rw [HSD.out] at HSQ
  obtain ⟨_, r0, r1, r2, r3, r4, rf⟩ := cells5 HR3.out
  go_upto_region 5 with (go_at_call 9; refine HSQ.out.mono ?_; rintro e w4 ⟨v, rfl, hv, hb4⟩; obtain ⟨va, vn, vc, rfl⟩ := optI_form hv; (try dsimp only); have HV := hidIt hv; have HB4 := hidIt hb4; clear hv hb4 HSQ)
  clear r0 r1 r2 r3 r4 rf
  have HU4 := hidIt (HU.out.ext (ext_trans HB3.out HB4.out))
  have HBW4 : Hid (Below w.heap.size w w4) := ext_trans HBW1.out (ext_trans HB13.out HB4.out)
  clear HU HSD
  cases hs : spell mode ⟨cr, cc, cv, cm, ca⟩ with
  | none =>
    rw [hs] at HU4 HV
    have e1 : Value.slice ua un uc = .slice none 0 0 := HU4.out
    have e2 : Value.slice va vn vc = .slice none 0 0 := HV.out
    cases e1
    cases e2
    clear hs
    have HSI := hidIt (sameInts_any (.slice none 0 0) (.slice none 0 0) [] w4 (OwnI.nil w4 0).rds.1 (OwnI.nil w4 0).rds.1)
    go_wp2_with (go_at_call 10; refine HSI.out.mono ?_; rintro e w5 ⟨rfl, hb5⟩; (try dsimp only); have HB5 := hidIt hb5; clear hb5 HSI)
    go_ret
    exact ⟨rfl, ext_trans HBW4.out HB5.out⟩
  | some l =>
    rw [hs] at HU4 HV
    obtain ⟨u9, n9, c9, e1, hru⟩ := HU4.out.some
    obtain ⟨v9, m9, d9, e2, hrv⟩ := HV.out.some
    cases e1
    cases e2
    have hl0 := HU4.out.2
    obtain ⟨_, _, e1, _⟩ := hru.len
    obtain ⟨_, _, e2, _⟩ := hrv.len
    cases e1
    cases e2
    have hne : ((l.length : Int) == 0) = false := by
      have : l.length ≠ 0 := fun h => hl0 (List.length_eq_zero_iff.1 h)
      simp only [beq_eq_false_iff_ne, ne_eq]
      omega
    clear hs hl0
    have HSI := hidIt (sameInts_any _ _ l w4 hru.1 hrv.1)
    clear hru hrv
    go_wp2_with (go_at_call 10; refine HSI.out.mono ?_; rintro e w5 ⟨rfl, hb5⟩; (try dsimp only); have HB5 := hidIt hb5; clear hb5 HSI)
    go_ret
    exact ⟨rfl, ext_trans HBW4.out HB5.out⟩
end Go.Proofs.YtfdceljdhgbkcaaDoor

/- What the rows' proofs share: a slice of integers that came in. -/
namespace Go.Proofs.YtfdceljdhgbkcaaDoor
open Go.ChangeShapes Go.WideShapes Go.ChangeAt Go.RowKit

theorem ownK : ownKnob Tryd.prog.godebug = none := by kernel_rfl
theorem laidOutK : laidOutB Tryd.prog = true := by kernel_rfl
theorem bytesK_i64 : Tryd.prog.bytesOf 3 = 8 := by kernel_rfl

/-- A slice of integers that came in: it reads as a list; each number fits its kind; its datum has as many elements. -/
theorem rd_of {H : Type} {enc : TypeId × Value → H} {W : World} {t e : TypeId} {k : IntKind} {a0 : Option Addr} {len0 cap0 : Nat} {d : DataW H} {p : List MemPlace}
    (ht : Tryd.prog.underlying t = some (.slice e)) (he : Tryd.prog.underlying e = some (.int k)) (hc : Tryd.prog.cellsOf e = 1)
    (h : DataW.Trod enc Tryd.prog W 0 (fun _ => true) true t (.slice a0 len0 cap0) d p) :
    ∃ zs, Rd k W (.slice a0 len0 cap0) zs ∧ (∀ n ∈ zs, (Lit.int k n).wf = true) ∧ (zs = [] ∨ ∃ el sp, d = .slice el sp ∧ el.length = zs.length) := by
  obtain ⟨fuel, hf⟩ := h
  rcases open_ints ht he hc hf with ⟨hcs, _⟩ | ⟨x, l, c, zs, hcs, _, hl, hm, hz, hx, hcell, hwz⟩
  · simp [Value.cells] at hcs
    obtain ⟨rfl, rfl, rfl⟩ := hcs
    exact ⟨[], ⟨none, 0, rfl, Nat.le_refl _, by simp [maxLen], fun h => absurd rfl h⟩, by simp, .inl rfl⟩
  · simp [Value.cells] at hcs
    obtain ⟨rfl, rfl, rfl⟩ := hcs
    simp at hz
    have hlen : (zs.take len0).length = len0 := by rw [List.length_take]; omega
    refine ⟨zs.take len0, ⟨some x, cap0, by rw [hlen], by omega, hm, fun hn => ?_⟩, fun n hn => hwz n (List.mem_of_mem_take hn), .inr ⟨_, _, (Prod.mk.inj hx).1, by simp [lits]⟩⟩
    have hpos : 0 < len0 := by
      rcases Nat.eq_zero_or_pos len0 with h | h
      · subst h; simp at hn
      · exact h
    obtain ⟨b, off, spot⟩ := x
    have hc0 := hcell 0 (by omega)
    have hspot : spot = none := by simpa [Addr.add] using World.cell?_spot hc0
    subst hspot
    refine ⟨b, off, rfl, World.block_lt_of_cell? W _ (by simpa [Addr.add] using hc0), fun i hi => ?_⟩
    rw [hlen] at hi
    have := hcell i (by omega)
    rw [Addr.add_lit] at this
    rw [this, List.getElem?_take, if_pos hi]
    simp [List.getD]

theorem sl_of {H : Type} {enc : TypeId × Value → H} {W : World} {a0 : Option Addr} {len0 cap0 : Nat} {d : DataW H} {p : List MemPlace} (h : DataW.Trod enc Tryd.prog W 0 (fun _ => true) true 25 (.slice a0 len0 cap0) d p) : Sl (.slice a0 len0 cap0) := by
  obtain ⟨fuel, hf⟩ := h
  rcases DataW.trod_slice Tryd.underlying25 hf with ⟨hcs, _⟩ | ⟨x, l, c, elems, rest, n, _, hcs, _⟩
  · simp [Value.cells] at hcs
    obtain ⟨rfl, rfl, rfl⟩ := hcs
    exact .inl rfl
  · simp [Value.cells] at hcs
    obtain ⟨rfl, rfl, rfl⟩ := hcs
    exact .inr ⟨_, _, _, rfl⟩
theorem in64_of {a : Int} (h : (Lit.int .i64 a).wf = true) : -9223372036854775808 ≤ a ∧ a ≤ 9223372036854775807 := by
  simp only [Lit.wf, Bool.and_eq_true, decide_eq_true_eq] at h
  have h1 : IntKind.i64.min = -9223372036854775808 := by decide
  have h2 : IntKind.i64.max = 9223372036854775807 := by decide
  rw [h1, h2] at h
  exact h

end Go.Proofs.YtfdceljdhgbkcaaDoor

/- What the listed variables hold: from the row's condition to the table of powers. -/
namespace Go.Proofs.YtfdceljdhgbkcaaDoor
open Go.ChangeShapes Go.WideShapes Go.ChangeAt Go.RowKit
/- A command that came in. -/
theorem array5 {α : Type} {cs : Array α} (h : cs.size = 5) : ∃ c0 c1 c2 c3 c4, cs = #[c0, c1, c2, c3, c4] := by
  obtain ⟨l⟩ := cs
  match l, h with
  | [c0, c1, c2, c3, c4], _ => exact ⟨c0, c1, c2, c3, c4, rfl⟩
theorem c5K : Tryd.prog.cellsOf 23 = 5 := by kernel_rfl
theorem c3K : Tryd.prog.cellsOf 3 = 1 := by kernel_rfl
set_option maxRecDepth 100000 in
theorem cmd_of {H : Type} {enc : TypeId × Value → H} {W : World} {base : Nat} {v : Value} {d : DataW H} {p : List MemPlace} (hv : Value.okWide Tryd.prog W .any base 23 v) (h : DataW.Trod enc Tryd.prog W 0 (fun _ => true) true 23 v d p) :
    ∃ c : Cm, v = cmV c ∧ In64 c.r ∧ In64 c.c ∧ In64 c.v ∧ In64 c.m ∧ In64 c.a := by
  obtain ⟨cs, rfl, hsz⟩ := okWide_struct Tryd.underlying23 hv
  obtain ⟨c0, c1, c2, c3, c4, rfl⟩ := array5 (hsz.trans c5K)
  obtain ⟨fuel, hf⟩ := h
  obtain ⟨xs, n, _, _, _, hlen, hall⟩ := DataW.trod_struct Tryd.underlying23 hf
  obtain ⟨x0, x1, x2, x3, x4, hx⟩ := array5 (cs := xs.toArray) (by simpa using hlen)
  obtain rfl : xs = [x0, x1, x2, x3, x4] := by simpa using congrArg Array.toList hx
  have g0 := hall 0 _ rfl
  have g1 := hall 1 _ rfl
  have g2 := hall 2 _ rfl
  have g3 := hall 3 _ rfl
  have g4 := hall 4 _ rfl
  obtain ⟨k0, e0, _, w0⟩ := DataW.trod_int Tryd.underlying3 g0
  obtain ⟨k1, e1, _, w1⟩ := DataW.trod_int Tryd.underlying3 g1
  obtain ⟨k2, e2, _, w2⟩ := DataW.trod_int Tryd.underlying3 g2
  obtain ⟨k3, e3, _, w3⟩ := DataW.trod_int Tryd.underlying3 g3
  obtain ⟨k4, e4, _, w4⟩ := DataW.trod_int Tryd.underlying3 g4
  have e0' : ([c0, c1, c2, c3, c4].drop 0).take (Tryd.prog.cellsOf 3) = [.int .i64 k0] := e0
  rw [c3K] at e0'
  have f0 : [c0] = [.int .i64 k0] := e0'
  have e1' : ([c0, c1, c2, c3, c4].drop 1).take (Tryd.prog.cellsOf 3) = [.int .i64 k1] := e1
  rw [c3K] at e1'
  have f1 : [c1] = [.int .i64 k1] := e1'
  have e2' : ([c0, c1, c2, c3, c4].drop 2).take (Tryd.prog.cellsOf 3) = [.int .i64 k2] := e2
  rw [c3K] at e2'
  have f2 : [c2] = [.int .i64 k2] := e2'
  have e3' : ([c0, c1, c2, c3, c4].drop 3).take (Tryd.prog.cellsOf 3) = [.int .i64 k3] := e3
  rw [c3K] at e3'
  have f3 : [c3] = [.int .i64 k3] := e3'
  have e4' : ([c0, c1, c2, c3, c4].drop 4).take (Tryd.prog.cellsOf 3) = [.int .i64 k4] := e4
  rw [c3K] at e4'
  have f4 : [c4] = [.int .i64 k4] := e4'
  cases f0
  cases f1
  cases f2
  cases f3
  cases f4
  exact ⟨⟨k0, k1, k2, k3, k4⟩, rfl, w0, w1, w2, w3, w4⟩
def laidL : List (String × DataW Unit) := [("math/bits.deBruijn32tab", Rows.laid_math_bits_deBruijn32tab), ("math/bits.deBruijn64tab", Rows.laid_math_bits_deBruijn64tab), ("internal/strconv.uint64pow10", Rows.laid_internal_strconv_uint64pow10)]
theorem gPow : Tryd.prog.globalNamed "internal/strconv.uint64pow10" = some 0 := by kernel_rfl
theorem tPow : (Tryd.prog.globals[0]?).map (·.type) = some 153 := by kernel_rfl
theorem dPow : (Rows.laid_internal_strconv_uint64pow10 : DataW Unit) = Lib.tabData .u64 Lib.pow10Tab := by kernel_rfl
/-- What the condition gives the walks. -/
theorem of_laid {W : World} (h : laidMetH Tryd.prog laidL W) : Tb W := by
  rw [MakeChecks.laidMetH_plain _ _ _ (by kernel_rfl)] at h
  have h2 := h.tail.tail
  rw [dPow] at h2
  exact Lib.tabIs_of_head gPow tPow Tryd.underlying153 Tryd.underlying145 (by kernel_rfl) (by kernel_rfl) h2
theorem door_met (os : Os) (args : Array Value) : laidMetH Tryd.prog laidL ((World.doorLaid Tryd.prog 400 os).forCall (fun _ _ => 0) ⟨#[], args, []⟩).memory :=
  laidMetH_of_parts3 (fuel := 8) (laidMet_of_run' 8 (by kernel_rfl) (by kernel_rfl)) (by kernel_rfl) (by kernel_rfl)
end Go.Proofs.YtfdceljdhgbkcaaDoor

/- KeysSpell: the row and its tied card. -/
namespace Go.Proofs.YtfdceljdhgbkcaaDoor
open Go.ChangeShapes Go.WideShapes Go.ChangeAt Go.RowKit

set_option maxRecDepth 100000 in
theorem keysSpell_lifted (os : Os) (started : os.Started) (H : Type) (enc : TypeId × Value → H) :
    ReturnsInHanded {} Tryd.checked os 3 .any (fun w args => (Rows.keysSpellSpec.pre enc Tryd.prog Tryd.f3 [] false w args ∧ laidMetH Tryd.prog laidL w) ∧ sizedMet enc Tryd.prog Tryd.f3 (OpenSpec.ofChange Rows.keysSpellSpec) false w args)
      (Rows.keysSpellSpec.post enc Tryd.prog Tryd.f3 false true false false) := by
  refine returnsInHanded_of_change_and (C := Tryd.checked) (X := fun w _ => laidMetH Tryd.prog laidL w) (fun _ _ _ hh h => h.of_heap hh) ownK started (by kernel_rfl) Tryd.func3
    (ChangeSpec.witness_shaped (enc := enc) (C := Tryd.checked) (os := os) (X := fun w _ => laidMetH Tryd.prog laidL w) false (World.doorLaid Tryd.prog 400 os) #[.int .i64 0, .agg #[.int .i64 0, .int .i64 0, .int .i64 0, .int .i64 0, .int .i64 0]] 8 rfl (World.shaped_of_RefB (by kernel_rfl) (by kernel_rfl)) (by kernel_rfl) (by kernel_rfl) (by kernel_rfl) (door_met os _)) ?_
  intro W base args ds gs before hval0 hW _ hsz0 hL _
  have hval : ∀ (j : Nat) t v, Tryd.f3.params[j]? = some t → args[j]? = some v → Value.okWide Tryd.prog W .any base t v := hval0
  have hsz : (DataW.weightsEach Tryd.prog (Tryd.f3.params.toList ++ Rows.keysSpellSpec.plain.varTypes Tryd.prog) (ds ++ gs)).all (· ≤ reachBytes) = true := hsz0
  have hW' := hW
  obtain ⟨p, q, hA0, hV, rfl, hfz, hnd⟩ := hW
  have hA : DataW.TrodAll enc Tryd.prog W 0 (fun _ => true) true Tryd.f3.params.toList args.toList ds p := hA0
  rw [Tryd.params3] at hA hval hsz
  obtain ⟨v0, vs0, d0, ds0, p0, q0, hargs, rfl, rfl, h0, r0⟩ := trodAll_cons hA
  obtain ⟨v1, vs1, d1, ds1, p1, q1, rfl, rfl, rfl, h1, r1⟩ := trodAll_cons r0
  obtain ⟨rfl, rfl, rfl⟩ := trodAll_nil r1
  obtain rfl : args = #[v0, v1] := by cases args; simp_all
  obtain ⟨rfl, rfl⟩ := trodVars_none hV
  obtain ⟨a0, rfl, rfl, rfl, w0⟩ := open_int Tryd.underlying3 (hval 0 3 v0 rfl rfl) h0
  have k1 := h1
  have lt1 : ∀ x ∈ p1, x.block < W.heap.size := by obtain ⟨m, hm⟩ := k1; exact DataW.trod_lt m _ _ _ hm
  obtain ⟨c1, rfl, i1r, i1c, i1v, i1m, i1a⟩ := cmd_of (hval 1 23 v1 rfl rfl) h1
  clear hA0 hval0 hsz0
  refine (spellLaw_any a0 c1 W i1r i1a (of_laid hL)).mono fun e W' ⟨he, bel⟩ => ?_
  subst he
  exact ⟨_, rfl, _, _, _, [], _, [], hW', trodAll_mk1 (shut_bool Tryd.underlying4 _), (trodAll_cons_mk (shut_int Tryd.underlying3 w0) (trodAll_cons_mk (Below.trod laidOutK (by kernel_rfl) (of_decide_eq_true (by kernel_rfl)) k1 bel lt1) trodAll_mk0)), rfl, bel.frame _, fun h => by cases h⟩

theorem keysSpell_holds : Rows.KeysSpellSaid :=
  OpenClaim.holds_of_wide 3 Tryd.f3 rfl rfl rfl rfl rfl rfl rfl ⟨rfl, rfl, rfl, rfl, rfl⟩ rfl rfl rfl rfl rfl (by kernel_rfl) Tryd.func3 (by kernel_rfl)
    (of_decide_eq_true (by kernel_rfl)) (by unfold Func.isWrapper; first | (rw [if_pos (by decide +kernel)]; kernel_rfl) | (rw [if_neg (by decide +kernel)]; exact ⟨rfl, rfl⟩))
    (fun os started H enc _ => keysSpell_lifted os started H enc)

theorem keysSpell_card : Rows.KeysSpellCardSaid :=
  Claim7.holds_tied_plain_at .later [] [.data, .data, .data] true (true, "740a7adf525998c9efe95a2dc5105d48ba62a5e00482862950baac93c2bdc554") false
    keysSpell_holds (fun _ h => by cases h) (by kernel_rfl) (fun _ h => by cases h) keysSpell_row_tie rfl ⟨rfl, rfl⟩ (by kernel_rfl) rfl
    (fun f fn hf hfn => by
      obtain rfl : f = 3 := Option.some.inj ((show Tryd.prog.funcNamed "copyist/copyistlaw13.KeysSpell" = some 3 by kernel_rfl).symm.trans hf) |>.symm
      obtain rfl : fn = Tryd.f3 := (Option.some.inj (Tryd.func3.symm.trans hfn)).symm
      exact ⟨by kernel_rfl, fun j t ht => by
        rw [Tryd.params3] at ht
        have hm : t ∈ [3, 23] := by simpa using Array.mem_of_getElem? ht
        have hall : ([3, 23].all fun u => !Tryd.prog.wantsStandIn u) = true := by kernel_rfl
        exact (show Tryd.prog.wantsStandIn t = false by simpa using List.all_eq_true.1 hall t hm)⟩)
    (by kernel_rfl)
end Go.Proofs.YtfdceljdhgbkcaaDoor
