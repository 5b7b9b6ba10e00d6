/- used, isFull, room. -/
import Derived.Test.YtaoaihjiieandaaDFile
import Derived.Maps.RangeWalk
namespace Go.Proofs.Ytaoaihjiieandaa
open Go.RowKit Go.Maps

def sumL (left : Nm → Bool) (g : Nm × Nat → Nat) (d : Dir) : Nat := ((d.filter (fun p => !left p.1)).map g).sum
theorem sumL_step (g : Nm × Nat → Nat) (left : Nm → Bool) (n : Nm) (i : Nat) : ∀ d : Dir, d.Pairwise (fun p q => p.1 ≠ q.1) → Dir.get n d = some i → left n = true → sumL (fun x => left x && !(x == n)) g d = sumL left g d + g (n, i)
  | [], _, h, _ => by cases h
  | p :: r, hd, h, hl => by
    obtain ⟨h1, h2⟩ := List.pairwise_cons.1 hd
    unfold Dir.get at h
    rw [List.find?_cons] at h
    by_cases hp : p.1 = n
    · subst hp
      simp at h
      have hr : sumL (fun x => left x && !(x == p.1)) g r = sumL left g r := by
        unfold sumL
        congr 2
        refine List.filter_congr (fun q hq => ?_)
        have : (q.1 == p.1) = false := by simpa using (h1 q hq).symm
        simp [this]
      have e1 : sumL (fun x => left x && !(x == p.1)) g (p :: r) = g p + sumL (fun x => left x && !(x == p.1)) g r := by
        unfold sumL
        rw [List.filter_cons, if_pos (by simp), List.map_cons, List.sum_cons]
      have e2 : sumL left g (p :: r) = sumL left g r := by
        unfold sumL
        rw [List.filter_cons, if_neg (by simp [hl])]
      rw [e1, e2, hr, ← h]
      exact Nat.add_comm _ _
    · have hb : (p.1 == n) = false := by simpa using hp
      rw [hb] at h
      have ih := sumL_step g left n i r h2 h hl
      have e1 : ∀ f : Nm → Bool, sumL f g (p :: r) = (if f p.1 = true then 0 else g p) + sumL f g r := by
        intro f
        unfold sumL
        rw [List.filter_cons]
        cases f p.1 <;> simp
      rw [e1, e1, ih, hb]
      simp
      omega
theorem sumL_le (g : Nm × Nat → Nat) (left : Nm → Bool) : ∀ d : Dir, sumL left g d ≤ (d.map g).sum
  | [] => Nat.le_refl _
  | p :: r => by
    have := sumL_le g left r
    unfold sumL at *
    rw [List.filter_cons]
    split <;> simp <;> omega
theorem sumL_all (g : Nm × Nat → Nat) (left : Nm → Bool) (d : Dir) (h : ∀ n, left n = false) : sumL left g d = (d.map g).sum := by
  unfold sumL
  rw [List.filter_eq_self.2 (fun p _ => by simp [h])]
theorem sumL_none (g : Nm × Nat → Nat) (left : Nm → Bool) (d : Dir) (h : ∀ p ∈ d, left p.1 = true) : sumL left g d = 0 := by
  unfold sumL
  rw [List.filter_eq_nil_iff.2 (fun p hp => by simp [h p hp])]
  rfl
theorem usd_le {fi : List Fi} {d : Dir} {m : Nat} (h : ∀ p ∈ d, (fiAt fi p.2).bs.length ≤ m) : usd fi d ≤ d.length * m := by
  unfold usd
  induction d with
  | nil => simp
  | cons p r ih =>
    have h1 := h p (by simp)
    have h2 := ih (fun q hq => h q (by simp [hq]))
    simp only [List.map_cons, List.sum_cons, List.length_cons, Nat.succ_mul]
    omega
theorem get_mem {n : Nm} {d : Dir} {i : Nat} (h : Dir.get n d = some i) : (n, i) ∈ d := by
  unfold Dir.get at h
  obtain ⟨p, hp, rfl⟩ := Option.map_eq_some_iff.1 h
  have h1 := List.mem_of_find?_eq_some hp
  have h2 := List.find?_some hp
  have : p.1 = n := by simpa using h2
  rw [← this]
  exact h1
theorem has_enD (fq : Nat → Nat) (d : Dir) (p : Nm × Nat) (hp : p ∈ d) : Maps.has (enD fq d) (.string p.1) = true := by
  unfold enD
  rw [Maps.has_eq, List.any_eq_true]
  exact ⟨enE fq p, List.mem_map.2 ⟨p, hp, rfl⟩, by simp [enE, Lit.sameKey]⟩

set_option maxRecDepth 100000 in
set_option maxHeartbeats 2000000 in
theorem used_any {w : World} {b : Nat} {fq : Nat → Nat} {fv : Nat → Value} {fi : List Fi} {d : Dir} (h : DirM w b fq d) (hf : ∀ p ∈ d, FiB w (fq p.2) (fv p.2) p.2 (fiAt fi p.2)) (hd : d.Pairwise (fun p q => p.1 ≠ q.1)) (hs : usd fi d ≤ 1099511627776) :
    Calls Try.prog 73 #[.map (some b)] w fun e w' => e = .returned (.int .i64 (usd fi d : Nat)) ∧ Below w.heap.size w w' := by
  have HB := hidIt h.lt
  have HF := hidIt hf
  have HD := hidIt hd
  have HS := hidIt hs
  clear hf hd hs
  unfold DirM at h
  go_enter Try.func73, Try.ntmps73
  go_wp2_with (first
    | (at_range; refine wpList_range_own _ rfl _ 84 rfl 9 82 lawS Try.underlying84 _ b _ _ rfl h ?_; intro w0 hrg0 hg0 hs0)
    | go_in)
  go_frame
  clear hs0
  go_loopw [3] (fun v wr => ∃ (left : Lit → Bool) (cnt m : Nat), wr.ranges Try.prog 9 heldR b w.heap.size d.length (enD fq d) left cnt ∧ v = .int .i64 (m : Nat) ∧ Hid (m = sumL (fun n => left (.string n)) (fun p => (fiAt fi p.2).bs.length) d) ∧ Hid (Below w.heap.size w wr))
    (fun _ wr => wr.rangeLeft b w.heap.size)
  case atStart => exact ⟨_, _, 0, hrg0, rfl, (sumL_none _ _ _ (fun p hp => has_enD fq d p hp)).symm, (Below.refl _ _).grown hg0 (Nat.le_refl _) (fun j hj => by cases hj)⟩
  case round =>
    obtain ⟨left, cnt, m, hrg, rfl, HM, HW⟩ := hrel
    have hm : m ≤ 1099511627776 := by have h1 := HM.out; have h2 := HS.out; have h3 := sumL_le (fun p => (fiAt fi p.2).bs.length) (fun n => left (.string n)) d; unfold usd at h2; omega
    go_wp2_with (first
      | (at_next; refine wpList_next_ranges _ rfl _ rfl 9 lawS heldR (fun v : Value => v) (fun v : Value => v) (fun key kl hk => ⟨key, rfl⟩) (fun v y hv => ⟨v, rfl⟩) b w.heap.size _ _ _ _ rfl hrg ?_ ?_)
      | go_in)
    · intro hc9 hl0
      have HE : Hid (m = usd fi d) := by have h1 := HM.out; rw [sumL_all _ _ _ (fun n => hl0 _)] at h1; exact h1
      clear hl0 hc9 hm
      go_wp2_with fail
      go_ret
      exact ⟨ret_int (by rw [HE.out]), HW.out⟩
    · intro x c kl yd yp w2 cnt2 hkey hlk hv hat hrg2 hlt hg2 hs2 hen
      obtain ⟨n, rfl⟩ : ∃ n, kl = .string n := by
        obtain ⟨s, _, hs, _⟩ := Maps.keyOf_str Try.underlying9 hkey
        exact ⟨_, hs⟩
      have hy : yd = .held c := by simp only [heldR, Option.some.injEq, Prod.mk.injEq] at hv; exact hv.1.symm
      obtain ⟨i, hgi, rfl⟩ : ∃ i, Dir.get n d = some i ∧ c = pp (fq i) := by
        have h1 := hat (.held (.pointer none))
        have h2 := hat (.held (.bool true))
        rw [enD_at, hy] at h1 h2
        cases hg : Dir.get n d with
        | none => rw [hg] at h1 h2; cases h1; cases h2
        | some i => rw [hg] at h1; exact ⟨i, rfl, by cases h1; rfl⟩
      have hfi := HF.out _ (get_mem hgi)
      have hb2 : Hid (Below w.heap.size w w2) := HW.out.grown hg2 HW.out.size (fun j hj => by cases hj; exact Nat.le_refl _)
      have hfi2 : FiB w2 (fq i) (fv i) i (fiAt fi i) := hfi.same (hb2.out.block _ (Array.getElem?_eq_some_iff.1 hfi.1).1) (fun g hg => by
        obtain ⟨cur, hc⟩ := own_lt hfi.2 hg
        exact hb2.out.block _ (Array.getElem?_eq_some_iff.1 hc).1)
      have HST : Hid (sumL (fun z => (left (.string z) && !(Lit.string z).sameKey (.string n))) (fun p => (fiAt fi p.2).bs.length) d = m + (fiAt fi i).bs.length) := by
        have h1 := sumL_step (fun p => (fiAt fi p.2).bs.length) (fun z => left (.string z)) n i d HD.out hgi hlk
        rw [← HM.out] at h1
        exact h1
      have hml : m + (fiAt fi i).bs.length ≤ 1099511627776 := by have h1 := HST.out; have h2 := HS.out; have h3 := sumL_le (fun p => (fiAt fi p.2).bs.length) (fun z => (left (.string z) && !(Lit.string z).sameKey (.string n))) d; unfold usd at h2; omega
      obtain ⟨_, c1, _⟩ := hfi2.cells
      obtain ⟨ao, cp, hvv, _⟩ := hfi2.slice
      rw [hvv] at c1
      have HLT := hidIt hlt
      have HRG2 := hidIt hrg2
      have HRG := hidIt hrg
      generalize (fiAt fi i).bs.length = L at *
      clear hs2 hfi hfi2 hgi hy hv hat hkey hlk hlt hrg2 hg2 hvv hrg
      go_wp2_with fail
      go_roundw
      case rel => exact ⟨_, cnt2, m + L, HRG2.out, by go_num, HST.out.symm, hb2.out⟩
      case measure => rw [HRG2.out.left_eq, HRG.out.left_eq]; exact HLT.out

theorem dC_cells {w : World} {d ms ml : Nat} {mp : Option Nat} {va : Value} {D : Dk} (h : w.heap[d]? = some (.cells (dC D ms ml mp va) 88 (0, 0))) :
    w.cell? ⟨d, 0, none⟩ = some (.int .i64 (D.sp : Int)) ∧ w.cell? ⟨d, 1, none⟩ = some (.int .i64 (D.fi.length : Int)) ∧ w.cell? ⟨d, 2, none⟩ = some (.map (some ms)) ∧ w.cell? ⟨d, 3, none⟩ = some (.map (some ml)) ∧ w.cell? ⟨d, 4, none⟩ = some va ∧ w.cell? ⟨d, 5, none⟩ = some (.map mp) ∧ w.cell? ⟨d, 6, none⟩ = some (.int .i64 (D.st : Int)) ∧ w.cell? ⟨d, 7, none⟩ = some (.bool D.dn) ∧ ∀ i, w.frozen? ⟨d, i, none⟩ = false := by
  refine ⟨?_, ?_, ?_, ?_, ?_, ?_, ?_, ?_, fun i => frozen_of_row _ _ _ _ _ h⟩ <;> simp [World.cell?, h]
theorem before_ne {a b : Nm} (h : bytesBefore a b = true) : a ≠ b := fun e => by
  subst e
  have : ∀ l : Nm, bytesBefore l l = false := fun l => by induction l with
    | nil => rfl
    | cons x r ih => simp [bytesBefore, ih]
  rw [this a] at h
  cases h
theorem DirOk.ne {n : Nat} {d : Dir} (h : DirOk n d) : d.Pairwise (fun p q => p.1 ≠ q.1) := h.up.imp before_ne
theorem fi_mem {fi : List Fi} {i : Nat} (h : i < fi.length) : fiAt fi i ∈ fi := by unfold fiAt; simp [h]
theorem Wf.usd {N : Nat} {D : Dk} (h : Wf N D) : usd D.fi D.se ≤ 16777216 := by
  have h1 := usd_le (fi := D.fi) (d := D.se) (m := 1048576) (fun p hp => Nat.le_trans (h.fi _ (fi_mem (h.seen.ok p hp).2)).2.1 h.sp)
  have h2 := h.seen.few
  have : D.se.length * 1048576 ≤ 16 * 1048576 := Nat.mul_le_mul_right _ h2
  omega
set_option maxRecDepth 100000 in
theorem isFull_any {F : Nat → Prop} {N : Nat} {w : World} {d : Nat} {D : Dk} (h : Dsk F N w d D) :
    Calls Try.prog 72 #[pp d] w fun e w' => e = .returned (.bool D.full) ∧ w = w' := by
  obtain ⟨ms, ml, mp, va, fq, fv, h1, h2, h3, _⟩ := h
  obtain ⟨c0, c1, c2, c3, c4, c5, c6, c7, fr⟩ := dC_cells h1
  have hm := h2.hs
  unfold DirM at hm
  have HL := hidIt h3.seen.few
  have HSZ := hidIt (enD_size fq D.se)
  clear h1 h2 h3 c0 c1 c3 c4 c5 c6 c7 fr
  go_enter Try.func72, Try.ntmps72
  go_wp2_with (first
    | (at_len; refine wpList_len_own _ rfl _ 84 rfl 9 82 Try.underlying84 _ ms _ _ rfl hm ?_)
    | go_in)
  go_ret
  refine ⟨ret_bool ?_, rfl⟩
  rw [HSZ.out]
  unfold Dk.full
  rw [Bool.eq_iff_iff]
  simp
  omega
set_option maxRecDepth 100000 in
theorem room_any {F : Nat → Prop} {N : Nat} {w : World} {d : Nat} {D : Dk} (h : Dsk F N w d D) :
    Calls Try.prog 55 #[pp d] w fun e w' => e = .returned (.int .i64 (D.room : Nat)) ∧ Below w.heap.size w w' := by
  obtain ⟨ms, ml, mp, va, fq, fv, h1, h2, h3, _⟩ := h
  obtain ⟨c0, c1, c2, c3, c4, c5, c6, c7, fr⟩ := dC_cells h1
  have hu := h3.usd
  have hsp := h3.sp
  have US : ∀ w' : World, w'.heap = w.heap → Hid (Calls Try.prog 73 #[.map (some ms)] w' fun e w'' => e = .returned (.int .i64 (usd D.fi D.se : Nat)) ∧ Below w'.heap.size w' w'' ∧ w''.cell? ⟨d, 0, none⟩ = some (.int .i64 (D.sp : Int)) ∧ w''.cell? ⟨d, 2, none⟩ = some (.map (some ms))) := fun w' hw => by
    refine (used_any (h2.hs.same (by rw [hw])) (fun p hp => (h2.fget (h3.seen.ok p hp).2).same (by rw [hw]) (fun g _ => by rw [hw])) h3.seen.ne (by omega)).mono ?_
    rintro e w2 ⟨rfl, hb⟩
    have hdl : d < w'.heap.size := by rw [hw]; exact (Array.getElem?_eq_some_iff.1 h1).1
    have k : ∀ i, w2.cell? ⟨d, i, none⟩ = w.cell? ⟨d, i, none⟩ := fun i => (hb.cell (p := ⟨d, i, none⟩) hdl).trans (by unfold World.cell?; rw [hw])
    exact ⟨rfl, hb, (k 0).trans c0, (k 2).trans c2⟩
  have HR : Hid ((D.room : Int) = max ((D.sp : Int) - (usd D.fi D.se : Int)) 0) := by unfold Hid Dk.room; omega
  generalize usd D.fi D.se = u at *
  generalize D.sp = s at *
  clear h1 h2 h3 c1 c3 c4 c5 c6 c7 fr
  go_enter Try.func55, Try.ntmps55
  go_wp2_with fail
  go_region_held3 (fun w' => w'.cell? ⟨d, 0, none⟩ = some (.int .i64 (s : Int)) ∧ w'.cell? ⟨d, 2, none⟩ = some (.map (some ms))) (first | exact ⟨k0, k2⟩ | go_keep) (
    (go_at_call 73; refine (US _ (by rfl)).out.mono ?_; rintro e w2 ⟨rfl, hb2, k0, k2⟩; have HB2 := hidIt hb2; clear hb2))
  all_goals
    go_wp2_with fail
    go_ret
    exact ⟨ret_int (by rw [HR.out, IntKind.wrap_i64]; omega), (Below.refl _ w).drew.trans HB2.out⟩
end Go.Proofs.Ytaoaihjiieandaa
