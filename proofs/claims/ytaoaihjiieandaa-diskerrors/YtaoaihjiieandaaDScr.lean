/- Scripts that came in; the law's fits. -/
import Derived.Test.YtaoaihjiieandaaDLaw1
import Derived.BigQuiet
namespace Go.Proofs.Ytaoaihjiieandaa
open Go.RowKit

/-- A fault that is handed in. -/
structure Fa where
  st : Int
  kd : Int
  pt : Int
  cn : Int
  bv : Value
  bs : List Int
structure Fa.Ok (x : Fa) : Prop where
  st : In64 x.st
  kd : In64 x.kd
  pt : In64 x.pt
  cn : In64 x.cn
  bs : ∀ z ∈ x.bs, In64 z
  len : x.bs.length * 8 ≤ 140737488351232
structure FaC (w : World) (b o : Nat) (x : Fa) : Prop where
  c0 : w.cell? ⟨b, o, none⟩ = some (.int .i64 x.st)
  c1 : w.cell? ⟨b, o + 1, none⟩ = some (.int .i64 x.kd)
  c2 : w.cell? ⟨b, o + 2, none⟩ = some (.int .i64 x.pt)
  c3 : w.cell? ⟨b, o + 3, none⟩ = some (.int .i64 x.cn)
  c4 : w.cell? ⟨b, o + 4, none⟩ = some x.bv
  rd : RdS w x.bv x.bs
theorem FaC.ext {w w' : World} {b o : Nat} {x : Fa} (h : FaC w b o x) (hl : b < w.heap.size) (hb : Below w.heap.size w w') : FaC w' b o x :=
  ⟨(hb.cell (p := ⟨b, _, none⟩) hl).trans h.c0, (hb.cell (p := ⟨b, _, none⟩) hl).trans h.c1, (hb.cell (p := ⟨b, _, none⟩) hl).trans h.c2, (hb.cell (p := ⟨b, _, none⟩) hl).trans h.c3, (hb.cell (p := ⟨b, _, none⟩) hl).trans h.c4, h.rd.ext hb⟩
/-- The slice v holds the faults xs. -/
def RdF (w : World) (v : Value) (xs : List Fa) : Prop := ∃ ao cap, v = .slice ao xs.length cap ∧ xs.length ≤ cap ∧ cap ≤ 9223372036854775807 ∧ (∀ x ∈ xs, x.Ok) ∧ (xs ≠ [] → ∃ b off, ao = some ⟨b, off, none⟩ ∧ b < w.heap.size ∧ ∀ i x, xs[i]? = some x → FaC w b (off + i * 5) x)
theorem RdF.ext {w w' : World} {v : Value} {xs : List Fa} (h : RdF w v xs) (hb : Below w.heap.size w w') : RdF w' v xs := by
  obtain ⟨ao, cap, h1, h2, h3, h5, h6⟩ := h
  refine ⟨ao, cap, h1, h2, h3, h5, fun hn => ?_⟩
  obtain ⟨b, o, k1, k2, k3⟩ := h6 hn
  exact ⟨b, o, k1, Nat.lt_of_lt_of_le k2 hb.size, fun i x hx => (k3 i x hx).ext k2 hb⟩
/-- A step of a script. -/
structure So where
  k : Int
  who : Int
  nm : Nm
  tn : Nm
  b : List Int
  bv : Value
  fa : Option Addr
  fn : Nat
  fc : Nat
  cn : Int
  ca : Option Addr
  cl : Nat
  cc : Nat
  fs : List Fa
  cb : List Int
/-- What is read of its eight cells. -/
structure OpC (w : World) (b o : Nat) (x : So) : Prop where
  c0 : w.cell? ⟨b, o, none⟩ = some (.int .i64 x.k)
  c1 : w.cell? ⟨b, o + 1, none⟩ = some (.int .i64 x.who)
  c2 : w.cell? ⟨b, o + 2, none⟩ = some (sv x.nm)
  c3 : w.cell? ⟨b, o + 3, none⟩ = some (sv x.tn)
  c4 : w.cell? ⟨b, o + 4, none⟩ = some x.bv
  c5 : w.cell? ⟨b, o + 5, none⟩ = some (.slice x.fa x.fn x.fc)
  c6 : w.cell? ⟨b, o + 6, none⟩ = some (.int .i64 x.cn)
  c7 : w.cell? ⟨b, o + 7, none⟩ = some (.slice x.ca x.cl x.cc)
  rd : RdU w x.bv x.b
  rf : RdF w (.slice x.fa x.fn x.fc) x.fs
  rc : RdS w (.slice x.ca x.cl x.cc) x.cb
structure So.Ok (x : So) : Prop where
  nm : x.nm.length ≤ 140737488351232
  tn : x.tn.length ≤ 140737488351232
  b : x.b.length ≤ 140737488351232
  f : x.fn ≤ 140737488351232
  c : x.cl ≤ 140737488351232
  byt : ∀ z ∈ x.b, 0 ≤ z ∧ z < 256
  cn : In64 x.cn
  cb : ∀ z ∈ x.cb, In64 z
/-- The slice v holds the script xs. -/
def RdO (w : World) (v : Value) (xs : List So) : Prop := ∃ ao cap, v = .slice ao xs.length cap ∧ xs.length ≤ cap ∧ cap ≤ 9223372036854775807 ∧ xs.length ≤ 140737488351232 ∧ (∀ x ∈ xs, x.Ok) ∧ (xs ≠ [] → ∃ b off, ao = some ⟨b, off, none⟩ ∧ b < w.heap.size ∧ ∀ i x, xs[i]? = some x → OpC w b (off + i * 8) x)
theorem OpC.ext {w w' : World} {b o : Nat} {x : So} (h : OpC w b o x) (hl : b < w.heap.size) (hb : Below w.heap.size w w') : OpC w' b o x :=
  ⟨(hb.cell (p := ⟨b, _, none⟩) hl).trans h.c0, (hb.cell (p := ⟨b, _, none⟩) hl).trans h.c1, (hb.cell (p := ⟨b, _, none⟩) hl).trans h.c2, (hb.cell (p := ⟨b, _, none⟩) hl).trans h.c3, (hb.cell (p := ⟨b, _, none⟩) hl).trans h.c4, (hb.cell (p := ⟨b, _, none⟩) hl).trans h.c5, (hb.cell (p := ⟨b, _, none⟩) hl).trans h.c6, (hb.cell (p := ⟨b, _, none⟩) hl).trans h.c7, h.rd.ext hb, h.rf.ext hb, h.rc.ext hb⟩
theorem RdO.ext {w w' : World} {v : Value} {xs : List So} (h : RdO w v xs) (hb : Below w.heap.size w w') : RdO w' v xs := by
  obtain ⟨ao, cap, h1, h2, h3, h4, h5, h6⟩ := h
  refine ⟨ao, cap, h1, h2, h3, h4, h5, fun hn => ?_⟩
  obtain ⟨b, o, k1, k2, k3⟩ := h6 hn
  exact ⟨b, o, k1, Nat.lt_of_lt_of_le k2 hb.size, fun i x hx => (k3 i x hx).ext k2 hb⟩
theorem wrapIn (n : Int) (h : -9223372036854775808 ≤ n ∧ n ≤ 9223372036854775807) : wrap64 n = n := by unfold wrap64; omega
/-- Bytes, faults and cuts of a script. -/
def bulk (l : List So) : Nat := (l.map (fun x => x.b.length + x.fn + x.cl)).sum
theorem bulk_take {l : List So} {j : Nat} {x : So} (h : l[j]? = some x) : bulk (l.take (j + 1)) = bulk (l.take j) + x.b.length + x.fn + x.cl := by
  unfold bulk
  rw [List.take_add_one, h]
  simp
  omega
theorem bulk_le : ∀ (l : List So), (∀ x ∈ l, x.Ok) → bulk l ≤ l.length * 422212465053696
  | [], _ => by simp [bulk]
  | p :: l, h => by
    have h1 := bulk_le l (fun q hq => h q (List.mem_cons_of_mem _ hq))
    have h2 := h p List.mem_cons_self
    have h3 := h2.b
    have h4 := h2.f
    have h5 := h2.c
    unfold bulk at h1 ⊢
    simp only [List.map_cons, List.sum_cons, List.length_cons]
    omega
/-- What fits answers. -/
def FitsR (xs : List So) (e : Ending) : Prop := ∃ r : Bool, e = .returned (.bool r) ∧ (r = true → xs.length ≤ 1000 ∧ bulk xs ≤ 4194304)
theorem RdU.form {w : World} {v : Value} {zs : List Int} (h : RdU w v zs) : ∃ ao c, v = .slice ao zs.length c := by
  obtain ⟨⟨ao, c, hv, _⟩, _⟩ := h
  exact ⟨ao, c, hv⟩
set_option maxRecDepth 100000 in
set_option maxHeartbeats 2000000 in
theorem fits_any {w : World} {v : Value} {xs : List So} (h : RdO w v xs) :
    Calls Try.prog 19 #[v] w fun e w' => FitsR xs e ∧ Below w.heap.size w w' := by
  obtain ⟨ao, cap, rfl, h2, h3, h4, h5, h6⟩ := h
  have HOK := hidIt h5
  have HRD := hidIt h6
  clear h5 h6
  go_enter Try.func19, Try.ntmps19
  go_wp2_with fail
  go_loopw [3, 4] (fun s i wr => ∃ (j : Nat) (t : Int), j ≤ xs.length ∧ s = .int .i64 t ∧ i = .int .i64 j ∧ Hid (-9223372036854775808 ≤ t ∧ t ≤ 9223372036854775807 ∧ (j ≤ 1000 → t = (bulk (xs.take j) : Int))) ∧ Hid (Below w.heap.size w wr)) (fun _ i _ => xs.length - (RowKit.intOf i).toNat)
  case atStart => exact ⟨0, 0, Nat.zero_le _, rfl, rfl, ⟨by omega, by omega, fun _ => rfl⟩, Below.refl _ _⟩
  case round =>
    obtain ⟨j, t, hj, rfl, rfl, HT, HB⟩ := hrel
    by_cases hlt : j < xs.length
    · have hlt' : (j : Int) < (xs.length : Int) := by omega
      obtain ⟨x, hx⟩ : ∃ x, xs[j]? = some x := ⟨xs[j], by simp [hlt]⟩
      obtain ⟨b, off, hao, hbl, hcs⟩ := HRD.out (by intro e; rw [e] at hlt; simp at hlt)
      subst hao
      have hc := (hcs j x hx).ext hbl HB.out
      obtain ⟨va, vc, hv⟩ := hc.rd.form
      have c4 := hc.c4
      have c5 := hc.c5
      have c7 := hc.c7
      rw [hv] at c4
      have hk := HOK.out x (List.mem_of_getElem? hx)
      have HE := hidIt (bulk_take hx)
      have HL := hidIt (bulk_le (xs.take j) (fun q hq => HOK.out q (List.mem_of_mem_take hq)))
      have hk1 := hk.b
      have hk2 := hk.f
      have hk3 := hk.c
      clear hcs hc hk hv hx
      go_upto_region 5 with fail
      go_quiet (fail)
      go_wp2_with fail
      go_roundw
      case rel =>
        refine ⟨j + 1, _, by omega, rfl, by go_num, ⟨by unfold wrap64; omega, by unfold wrap64; omega, fun h1 => ?_⟩, ⟨HB.out.os, HB.out.tape, HB.out.output, HB.out.size, HB.out.block⟩⟩
        have e1 := HT.out.2.2 (by omega)
        have e2 := HL.out
        have e3 : (xs.take j).length = j := by simp; omega
        rw [e3] at e2
        rw [HE.out, e1]
        have e4 : j * 422212465053696 ≤ 1000 * 422212465053696 := Nat.mul_le_mul_right _ (by omega)
        generalize bulk (xs.take j) = B at *
        rw [wrapIn ((B : Int) + x.b.length) (by omega), wrapIn ((B : Int) + x.b.length + x.fn) (by omega), wrapIn _ (by omega)]
        omega
      case measure => simp [RowKit.intOf]; omega
    · have ejk : xs.length = j := by omega
      subst ejk
      have hge : ¬ (xs.length : Int) < (xs.length : Int) := by omega
      by_cases hm : xs.length ≤ 1000
      · have hm' : (xs.length : Int) ≤ 1000 := by omega
        by_cases ht : t ≤ 4194304
        · go_wp2_with fail
          go_ret
          exact ⟨⟨true, rfl, fun _ => ⟨hm, by have := HT.out.2.2 hm; rw [List.take_length] at this; omega⟩⟩, HB.out⟩
        · go_wp2_with fail
          go_ret
          exact ⟨⟨false, rfl, fun e => by cases e⟩, HB.out⟩
      · have hm' : ¬ (xs.length : Int) ≤ 1000 := by omega
        go_wp2_with fail
        go_ret
        exact ⟨⟨false, rfl, fun e => by cases e⟩, HB.out⟩
set_option maxRecDepth 100000 in
theorem wp_append_copy {W : World} {op : Oper} {a : Act} {K : Act → World → Prop} {Q : Exit → Act → World → Prop} (s x : Operand) (ho : op.op = .call { callee := .builtin .append, args := #[s, x], argTypes := #[22, 22] }) (hs : a.eval s = .slice none 0 0) (hinf : (Try.prog.info? 5).map (fun i => (i.zero, i.size, i.bytes)) = some (some (.int .u8 0), 1, 1)) (u : Value) (hx : a.eval x = u) (ys : List Int) (hu : RdU W u ys) (hl : ys.length ≤ 140737488355328)
    (h : ∀ v' w', OwnU w' W.heap.size v' ys → Below W.heap.size W w' → K (a.put op.dst v') w') : op.wp Try.prog a W K Q := by
  obtain ⟨i0, hi, hz0, hz1, hz2⟩ := info_parts hinf
  have hnil : W.ownsRow W.heap.size 5 1 (.slice none 0 0) 0 [] := ⟨rfl, .inl ⟨rfl, rfl⟩⟩
  obtain ⟨hr, hsl⟩ := hu
  rcases hsl with rfl | ⟨ad, n, c, rfl⟩
  · have h0 : ys = [] := by
      obtain ⟨ao, cap, hv, _⟩ := hr
      have : ys.length = 0 := by injection hv with _ h2 _; omega
      exact List.length_eq_zero_iff.1 this
    subst h0
    have hrun := run_append_owned_none (P := Try.prog) (w := W) W.heap.size 22 op.type 5 i0 1 Try.underlying22 hi (.slice none 0 0) 0 [] hnil
    unfold Oper.wp execOp
    simp only [ho, resolve, invoke, builtin, Sem.run_bind, Sem.run_pure, Result.andThen_ok, List.map_toArray, List.map_cons, List.map_nil, hs, hx, hrun]
    exact h _ W ⟨rfl, .inl ⟨rfl, rfl⟩⟩ (Below.refl _ _)
  · obtain ⟨hn, hc⟩ := rd_cells hr
    subst hn
    obtain ⟨v', w', hrun, o2, g2, _⟩ := run_append_own (P := Try.prog) W W.heap.size 22 op.type 5 i0 (.int .u8 0) 1 1 Try.underlying22 hi hz0 hz1 hz2 rfl (by decide) (.slice none 0 0) 0 [] hnil ad ys.length c (ys.map (Value.int .u8)) (by simp) hc (one_all _ _) (by unfold maxLen; omega) (by omega) (Nat.le_refl _)
    unfold Oper.wp execOp
    simp only [ho, resolve, invoke, builtin, Sem.run_bind, Sem.run_pure, Result.andThen_ok, List.map_toArray, List.map_cons, List.map_nil, hs, hx, hrun]
    refine h v' w' (by unfold OwnU; simpa using o2) ⟨g2.os, g2.tape, g2.output, g2.size, fun k hk => g2.block k hk (by simp [Value.ownBlock])⟩
/-- The name that a text is. -/
theorem sv_of (s : ByteArray) : sv s.data.toList = .string s := by
  simp [sv, bsOf]
end Go.Proofs.Ytaoaihjiieandaa
