/- Names. -/
import Derived.Test.YtaoaihjiieandaaDPut2
namespace Go.Proofs.Ytaoaihjiieandaa
open Go.RowKit

theorem info_str : (Try.prog.info? 9).map (fun i => (i.zero, i.size, i.bytes)) = some (some (.string ⟨#[]⟩), 1, 16) := by kernel_rfl
/-- A row of strings of one's own. -/
abbrev OwnS (w : World) (base : Nat) (v : Value) (l : List Nm) : Prop := w.ownsRow base 9 1 v l.length (l.map sv)
theorem cell1_new (w : World) (T : TypeId) (a : Value) : ∀ (j : Nat) (u : Value), [a][j]? = some u → (w.alloc (.cells #[a] T)).cell? ((⟨w.heap.size, 0, none⟩ : Addr).add j) = some u := by
  intro j u hj
  have h : (w.alloc (.cells #[a] T)).heap[w.heap.size]? = some (.cells #[a] T (0, 0)) := heap_alloc_new _ _
  rcases j with _ | j
  · cases hj
    have : ∀ W : World, W.heap[w.heap.size]? = some (.cells #[a] T (0, 0)) → W.cell? ⟨w.heap.size, 0, none⟩ = some a := fun W h => by simp [World.cell?, h]
    exact this _ h
  · simp at hj
theorem own_zero {w : World} {base : Nat} {e : TypeId} {size n : Nat} {v : Value} {xs : List Value} (h : w.ownsRow base e size v n xs) : w.ownsRow 0 e size v n xs := by
  refine ⟨h.1, ?_⟩
  rcases h.2 with h0 | ⟨g, cap, cur, hv, _, r⟩
  · exact .inl h0
  · exact .inr ⟨g, cap, cur, hv, Nat.zero_le _, r⟩
theorem take_map {l : Dir} {j : Nat} {p : Nm × Nat} (h : l[j]? = some p) : (l.take (j + 1)).map (·.1) = (l.take j).map (·.1) ++ [p.1] := by
  rw [List.take_add_one, h, List.map_append]
  rfl
set_option maxRecDepth 100000 in
set_option maxHeartbeats 2000000 in
theorem Names_any {F : Nat → Prop} {M : Nat} {w : World} {d : Nat} {D : Dk} (h : Dsk F M w d D) (hdn : D.dn = false) :
    Calls Try.prog 18 #[pp d] w fun e w' => ∃ v, e = .returned v ∧ OwnS w' w.heap.size v (D.se.map (·.1)) ∧ Below w.heap.size w w' := by
  obtain ⟨i0, hi, hz0, hz1, hz2⟩ := info_parts info_str
  obtain ⟨ms, ml, mp, va, fq, fv, hx⟩ := h.open
  obtain ⟨c0, c1, c2, c3, c4, c5, c6, c7, fr⟩ := dC_cells hx.1
  rw [hdn] at c7
  have HS := hidIt (handles_any hx.2.1.hs hx.2.2.1.seen)
  have hfew := hx.2.2.1.seen.few
  generalize D.se = dd at *
  clear h hx c0 c1 c3 c4 c5 c6 fr hdn
  go_enter Try.func18, Try.ntmps18
  go_upto_region 5 with (go_at_call 45; refine HS.out.mono ?_; rintro e w9 ⟨v9, rfl, hr9, hb9⟩; obtain ⟨ha9, hn9, hc9, rfl⟩ := form_own hr9; have HR9 := hidIt hr9; have HB9 := hidIt hb9; clear hr9 hb9)
  have hn9 : hn9 = dd.length := by
    rcases HR9.out.2 with ⟨hv, h0⟩ | ⟨_, _, _, hv, _⟩
    · cases hv; exact h0.symm
    · cases hv; rfl
  subst hn9
  go_wp2_with fail
  go_loopw [3, 16] (fun v i wr => ∃ (j : Nat) (ao : Option Addr) (vn vc : Nat), j ≤ dd.length ∧ i = .int .i64 j ∧ v = .slice ao vn vc ∧ Hid (OwnS wr w.heap.size (.slice ao vn vc) ((dd.take j).map (·.1))) ∧ Hid (wr.ownsRow 0 96 2 (.slice ha9 dd.length hc9) dd.length (dd.flatMap (hdC fq))) ∧ Hid (Below w.heap.size w wr)) (fun _ i _ => dd.length - (RowKit.intOf i).toNat)
  case atStart => exact ⟨0, _, _, _, Nat.zero_le _, rfl, rfl, ⟨rfl, .inl ⟨rfl, rfl⟩⟩, own_zero HR9.out, HB9.out⟩
  case round =>
    obtain ⟨j, ao, vn, vc, hj, rfl, rfl, HO, HR, HB⟩ := hrel
    by_cases hlt : j < dd.length
    · have hlt' : (j : Int) < (dd.length : Int) := by omega
      obtain ⟨p, hp⟩ : ∃ p, dd[j]? = some p := ⟨dd[j], by simp [hlt]⟩
      obtain ⟨g, cap, hv, a0, a1, hcap⟩ := hd_cells HR.out hp
      cases hv
      obtain ⟨wb, hwb, kb, hbb⟩ : ∃ wb, wb = wr.alloc (.cells #[sv p.1, pp (fq p.2)] 96) ∧ wb.heap[wr.heap.size]? = some (.cells #[sv p.1, pp (fq p.2)] 96 (0, 0)) ∧ Below wr.heap.size wr wb := ⟨_, rfl, heap_alloc_new _ _, ext_alloc (Below.refl _ _) _⟩
      obtain ⟨kb0, kb1, _⟩ := cells2v kb
      have TS := hidIt (take_map hp)
      have hb2 : Below wr.heap.size wr (wb.alloc (.cells #[sv p.1] 9)) := ext_alloc hbb _
      have HBA := hidIt hb2
      have RA : Hid (OwnS (wb.alloc (.cells #[sv p.1] 9)) w.heap.size (.slice ao vn vc) ((dd.take j).map (·.1))) := own_ext HO.out hb2
      have hlen : ((dd.take j).map (·.1)).length = j := by simp; omega
      have HNB : Hid (w.heap.size ≤ wb.heap.size) := Nat.le_trans HB.out.size hbb.size
      have ra := RA.out
      unfold OwnS at ra
      rw [hlen] at ra
      have RB := hidIt ra
      clear hp kb hbb hb2 ra
      go_upto_region 7 with fail
      rw [← hwb]
      clear hwb a0 a1
      go_wp2_with (first
        | (at_builtin; refine wpList_append_own _ rfl _ _ 40 rfl w.heap.size 9 i0 (.string ⟨#[]⟩) 1 16 Try.underlying40 hi hz0 hz1 hz2 rfl (by decide) _ _ _ rfl RB.out ⟨wb.heap.size, 0, none⟩ 1 1 [sv p.1] rfl rfl (cell1_new _ _ _) (by intro u hu; simp only [List.mem_cons, List.not_mem_nil, or_false] at hu; rw [hu]; rfl) (by unfold maxLen; omega) (by omega) (by have := HNB.out; simp; omega) ?_; intro v' w4 hown4 hg4 _; obtain ⟨a4, n4, c4, rfl⟩ := form_own hown4; have HO4 := hidIt hown4; have HG4 := hidIt hg4; clear hown4 hg4))
      go_roundw
      case rel =>
        refine ⟨j + 1, a4, n4, c4, by omega, by go_num, rfl, ?_, own_same (own_ext HR.out HBA.out) (fun q hq => ?_), (HB.out.trans (HBA.out.mono HB.out.size)).grown HG4.out (by have := HNB.out; simp; omega) (fun k hk => (World.ownsRow.lt RB.out k hk).1)⟩
        · unfold Hid OwnS
          rw [TS.out, List.length_append, hlen, List.map_append]
          exact HO4.out
        · obtain ⟨cur, hc⟩ := own_lt (own_ext HR.out HBA.out) hq
          refine HG4.out.block q (Array.getElem?_eq_some_iff.1 hc).1 (fun e => ?_)
          obtain ⟨cur5, hc5⟩ := own_lt (own_zero RB.out) e.symm
          exact ne_obj hc hc5 (by simp) rfl
      case measure => simp [RowKit.intOf]; omega
    · have ejk : dd.length = j := by omega
      subst ejk
      have hge : ¬ (dd.length : Int) < (dd.length : Int) := by omega
      go_wp2_with fail
      go_ret
      exact ⟨_, rfl, by have := HO.out; rwa [List.take_length] at this, HB.out⟩
end Go.Proofs.Ytaoaihjiieandaa
