/- TreeWords: the row. -/
import Derived.Test.YtcdamhgblolofaaWWords
import Derived.Test.YtcdamhgblolofaaLawKit
namespace Go.Proofs.Ytcdamhgblolofaa.W
open Go.ChangeShapes Go.WideShapes Go.ChangeAt Go.RowKit

theorem weights_mem_all {H : Type} {P : Program} {e : TypeId} : ∀ {l : List (DataW H)} {i : Nat} {d : DataW H}, l[i]? = some d → ∀ n ∈ d.weights P e, n ∈ DataW.weightsAll P e l
  | d0 :: l, 0, d, hd, n, hn => by
    simp only [List.getElem?_cons_zero, Option.some.injEq] at hd
    subst hd
    simp only [DataW.weightsAll, List.mem_append]
    exact Or.inl hn
  | d0 :: l, i + 1, d, hd, n, hn => by
    simp only [List.getElem?_cons_succ] at hd
    simp only [DataW.weightsAll, List.mem_append]
    exact Or.inr (weights_mem_all hd n hn)
  | [], _, _, hd, _, _ => by simp at hd
theorem sized_texts {H : Type} {P : Program} {ts : List TypeId} {ds : List (DataW H)} (h : (DataW.weightsEach P ts ds).all (· ≤ reachBytes) = true) {j : Nat} {t e : TypeId} {elems spare : List (DataW H)} (ht : ts[j]? = some t) (hd : ds[j]? = some (.slice elems spare)) (hu : P.underlying t = some (.slice e)) {i : Nat} {b : List UInt8} (hi : elems[i]? = some (.lit (.string b))) : b.length ≤ reachBytes := by
  have := List.all_eq_true.1 h _ (DataW.weights_mem_each ht hd b.length (by
    simp only [DataW.weights, hu, List.mem_cons, List.mem_append]
    exact Or.inr (Or.inl (weights_mem_all hi _ (by simp [DataW.weights])))))
  simpa using this
theorem bytesK_str : Try.prog.bytesOf 9 = 16 := by kernel_rfl
theorem cStr : Try.prog.cellsOf 9 = 1 := by kernel_rfl

set_option maxRecDepth 100000 in
theorem rdW_of {H : Type} {enc : TypeId × Value → H} {W : World} {a0 : Option Addr} {len0 cap0 : Nat} {d : DataW H} {p : List MemPlace}
    (h : DataW.Trod enc Try.prog W 0 (fun _ => true) true 56 (.slice a0 len0 cap0) d p) :
    ∃ xs : List It, RdR W (.slice a0 len0 cap0) xs ∧ len0 = xs.length ∧ (xs = [] ∨ ∃ el sp, d = .slice el sp ∧ el.length = xs.length ∧ ∀ i : Nat, i < xs.length → el[i]? = some (.lit (.string (xs[i]?.getD (ByteArray.mk #[])).data.toList))) := by
  obtain ⟨fuel, hf⟩ := h
  rcases DataW.trod_slice Try.underlying56 hf with ⟨hcs, _⟩ | ⟨x, l, c, elems, rest, n, _, hcs, hx, hb, hl, hm, hlen, hel, _, _⟩
  · simp [Value.cells] at hcs
    obtain ⟨rfl, rfl, rfl⟩ := hcs
    exact ⟨[], RdR.nil W, rfl, .inl rfl⟩
  · simp [Value.cells] at hcs
    obtain ⟨rfl, rfl, rfl⟩ := hcs
    rw [cStr] at hel
    obtain ⟨rfl, _⟩ := Prod.mk.inj hx
    obtain ⟨b, off, spot⟩ := x
    have each : ∀ i, ∃ x : It, i < len0 → W.cell? ((⟨b, off, spot⟩ : Addr).add (i * 1)) = some (.string x) ∧ (elems[i]?).map Prod.fst = some (.lit (.string x.data.toList)) := by
      intro i
      by_cases hi : i < len0
      · have hi' : i < elems.length := by omega
        have := hel i hi
        rw [List.getElem?_eq_getElem hi', Option.bind_eq_some_iff] at this
        obtain ⟨cs, hcs, hy⟩ := this
        obtain ⟨x, e0, e1, _⟩ := DataW.trod_string Try.underlying9 hy
        have hcell := (World.cells?_some hcs).2.2
        refine ⟨x, fun _ => ⟨?_, ?_⟩⟩
        · have := hcell 0 (by omega)
          rw [e0] at this
          simpa [Addr.add] using this
        · rw [List.getElem?_eq_getElem hi', e1]; rfl
      · exact ⟨ByteArray.mk #[], fun h => absurd h hi⟩
    obtain ⟨f, hf'⟩ := Classical.skolem.1 each
    refine ⟨(List.range len0).map f, ⟨some ⟨b, off, spot⟩, cap0, by simp, by simpa using hl, hm, (fun h => by cases h), fun hn => ?_⟩, by simp, .inr ⟨_, _, rfl, by simp; omega, fun i hi => ?_⟩⟩
    · have hpos : 0 < len0 := by
        rcases Nat.eq_zero_or_pos len0 with h | h
        · subst h; simp at hn
        · exact h
      have hs : spot = none := by simpa [Addr.add] using World.cell?_spot (hf' 0 hpos).1
      subst hs
      refine ⟨b, off, rfl, World.block_lt_of_cell? W _ (by simpa [Addr.add] using (hf' 0 hpos).1), fun i hi => ?_⟩
      simp only [List.length_map, List.length_range] at hi
      have := (hf' i hi).1
      rw [Addr.add_lit, Nat.mul_one] at this
      have e : ((List.range len0).map f)[i]?.getD (ByteArray.mk #[]) = f i := by simp [hi]
      rw [e]
      exact ⟨this, this⟩
    · simp only [List.length_map, List.length_range] at hi
      have := (hf' i hi).2
      have e : ((List.range len0).map f)[i]?.getD (ByteArray.mk #[]) = f i := by simp [hi]
      rw [e, ← this]
      simp
end Go.Proofs.Ytcdamhgblolofaa.W
namespace Go.Proofs.Ytcdamhgblolofaa
open Go.ChangeShapes Go.WideShapes Go.ChangeAt Go.RowKit

set_option maxRecDepth 100000 in
theorem treeWords_lifted (os : Os) (started : os.Started) (H : Type) (enc : TypeId × Value → H) :
    ReturnsInHanded {} Try.checked os 7 .any (Rows.treeWordsSpec.pre6 enc Try.prog Try.f7 Rows.treeWordsRow.domain false) (Rows.treeWordsSpec.post enc Try.prog Try.f7 false true false false) := by
  refine returnsInHanded_of_change_sized (C := Try.checked) ownK started (by kernel_rfl) Try.func7
    (ChangeSpec.witness6 (enc := enc) (C := Try.checked) false ⟨#[], #[.slice none 0 0, .int .i64 0, .int .i64 0, .slice none 0 0, .int .i64 0, .int .i64 0], []⟩ 8 (by kernel_rfl) (by kernel_rfl) (by kernel_rfl) (by kernel_rfl)) ?_
  intro Wd base args ds gs before hval0 hW hcnd hsz0 _
  have hval : ∀ (j : Nat) t v, Try.f7.params[j]? = some t → args[j]? = some v → Value.okWide Try.prog Wd .any base t v := hval0
  have hsz : (DataW.weightsEach Try.prog (Try.f7.params.toList ++ Rows.treeWordsSpec.plain.varTypes Try.prog) (ds ++ gs)).all (· ≤ reachBytes) = true := hsz0
  have hW' := hW
  obtain ⟨p, q, hA0, hV, rfl, hfz, hnd⟩ := hW
  have hA : DataW.TrodAll enc Try.prog Wd 0 (fun _ => true) true Try.f7.params.toList args.toList ds p := hA0
  rw [Try.params7] at hA hval hsz
  obtain ⟨v0, vs0, d0, ds0, p0, q0, hargs, rfl, rfl, h0, r0⟩ := trodAll_cons hA
  obtain ⟨v1, vs1, d1, ds1, p1, q1, rfl, rfl, rfl, h1, r1⟩ := trodAll_cons r0
  obtain ⟨v2, vs2, d2, ds2, p2, q2, rfl, rfl, rfl, h2, r2⟩ := trodAll_cons r1
  obtain ⟨v3, vs3, d3, ds3, p3, q3, rfl, rfl, rfl, h3, r3⟩ := trodAll_cons r2
  obtain ⟨v4, vs4, d4, ds4, p4, q4, rfl, rfl, rfl, h4, r4⟩ := trodAll_cons r3
  obtain ⟨v5, vs5, d5, ds5, p5, q5, rfl, rfl, rfl, h5, r5⟩ := trodAll_cons r4
  obtain ⟨rfl, rfl, rfl⟩ := trodAll_nil r5
  obtain rfl : args = #[v0, v1, v2, v3, v4, v5] := by cases args; simp_all
  obtain ⟨rfl, rfl⟩ := trodVars_none hV
  obtain ⟨a0, len0, cap0, rfl⟩ := okWide_slice Try.underlying56 (hval 0 56 v0 rfl rfl)
  have k0 := h0
  have lt0 : ∀ x ∈ p0, x.block < Wd.heap.size := by obtain ⟨m, hm⟩ := k0; exact DataW.trod_lt m _ _ _ hm
  obtain ⟨z0, hr0, rfl, hd0⟩ := W.rdW_of h0
  obtain ⟨a3, len3, cap3, rfl⟩ := okWide_slice Try.underlying56 (hval 3 56 v3 rfl rfl)
  have k3 := h3
  have lt3 : ∀ x ∈ p3, x.block < Wd.heap.size := by obtain ⟨m, hm⟩ := k3; exact DataW.trod_lt m _ _ _ hm
  obtain ⟨z3, hr3, rfl, hd3⟩ := W.rdW_of h3
  obtain ⟨a1, rfl, rfl, rfl, w1⟩ := open_int Try.underlying3 (hval 1 3 v1 rfl rfl) h1
  obtain ⟨a2, rfl, rfl, rfl, w2⟩ := open_int Try.underlying3 (hval 2 3 v2 rfl rfl) h2
  obtain ⟨a4, rfl, rfl, rfl, w4⟩ := open_int Try.underlying3 (hval 4 3 v4 rfl rfl) h4
  obtain ⟨a5, rfl, rfl, rfl, w5⟩ := open_int Try.underlying3 (hval 5 3 v5 rfl rfl) h5
  have b0 : z0.length ≤ 140737488351232 ∧ ∀ i : Nat, (z0[i]?.getD (ByteArray.mk #[])).size ≤ 140737488351232 := by
    rcases hd0 with rfl | ⟨el, sp, rfl, hl, he⟩
    · exact ⟨by simp, fun i => by rw [List.getElem?_nil]; exact Nat.zero_le _⟩
    · refine ⟨?_, fun i => ?_⟩
      · have := sized_slice hsz (j := 0) rfl rfl Try.underlying56
        rw [W.bytesK_str] at this
        simp only [reachBytes] at this
        omega
      · by_cases hi : i < z0.length
        · have := W.sized_texts hsz (j := 0) rfl rfl Try.underlying56 (he i hi)
          simp only [reachBytes] at this
          exact this
        · rw [List.getElem?_eq_none (by omega)]; exact Nat.zero_le _
  have b3 : z3.length ≤ 140737488351232 ∧ ∀ i : Nat, (z3[i]?.getD (ByteArray.mk #[])).size ≤ 140737488351232 := by
    rcases hd3 with rfl | ⟨el, sp, rfl, hl, he⟩
    · exact ⟨by simp, fun i => by rw [List.getElem?_nil]; exact Nat.zero_le _⟩
    · refine ⟨?_, fun i => ?_⟩
      · have := sized_slice hsz (j := 3) rfl rfl Try.underlying56
        rw [W.bytesK_str] at this
        simp only [reachBytes] at this
        omega
      · by_cases hi : i < z3.length
        · have := W.sized_texts hsz (j := 3) rfl rfl Try.underlying56 (he i hi)
          simp only [reachBytes] at this
          exact this
        · rw [List.getElem?_eq_none (by omega)]; exact Nat.zero_le _
  clear hA0 hval0 hsz0
  refine (W.law_words Wd z0 z3 a0 a3 cap0 cap3 a1 a2 a4 a5 hr0 hr3 b0.2 b3.2 b0.1 b3.1).mono fun e W' ⟨he, bel⟩ => ?_
  subst he
  exact ⟨_, rfl, _, _, _, [], _, [], hW', trodAll_mk1 (shut_bool Try.underlying4 _), (trodAll_cons_mk (Below.trod laidOutK (by kernel_rfl) (of_decide_eq_true (by kernel_rfl)) k0 bel lt0) (trodAll_cons_mk (shut_int Try.underlying3 w1) (trodAll_cons_mk (shut_int Try.underlying3 w2) (trodAll_cons_mk (Below.trod laidOutK (by kernel_rfl) (of_decide_eq_true (by kernel_rfl)) k3 bel lt3) (trodAll_cons_mk (shut_int Try.underlying3 w4) (trodAll_cons_mk (shut_int Try.underlying3 w5) trodAll_mk0)))))), rfl, bel.frame _, fun h => by cases h⟩

theorem treeWords_holds : Rows.TreeWordsSaid :=
  OpenClaim.holds_of_wide 7 Try.f7 rfl rfl rfl rfl rfl rfl rfl ⟨rfl, rfl, rfl, rfl, rfl⟩ rfl rfl rfl rfl rfl (by kernel_rfl) Try.func7 (by kernel_rfl)
    (of_decide_eq_true (by kernel_rfl)) (by unfold Func.isWrapper; first | (rw [if_pos (by decide +kernel)]; kernel_rfl) | (rw [if_neg (by decide +kernel)]; exact ⟨rfl, rfl⟩))
    (fun os started H enc _ => treeWords_lifted os started H enc)
end Go.Proofs.Ytcdamhgblolofaa
