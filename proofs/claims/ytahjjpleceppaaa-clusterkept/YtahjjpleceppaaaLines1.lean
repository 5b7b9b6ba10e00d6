/- Lines: boundaries of a list that is put together at a boundary; shifted; a row without line ends. -/
import Derived.Test.YtahjjpleceppaaaMeant1
import Derived.Test.YtahjjpleceppaaaAppBlk
import Derived.Test.YtahjjpleceppaaaNest
namespace Go.Proofs.Ytahjjpleceppaaa
open Go.RowKit

def Cl.sh (n : Int) (L : List Int) : List Int := (L.drop 1).map fun x => x + n

theorem Cl.bs_cons (zs : List Int) : Cl.bs zs = 0 :: ((List.range zs.length).map (1 + ·)).filter (Cl.isB zs) := by
  unfold Cl.bs Cl.bl
  rw [Cl.range_split (zs.length + 1) 1 (by omega), List.filter_append, Nat.add_sub_cancel]
  congr 1
theorem Cl.cat (A B : List Int) (h : Cl.isB (A ++ B) A.length = true) : Cl.bi (A ++ B) = Cl.bi A ++ Cl.sh A.length (Cl.bi B) := by
  have e1 : (List.range (A.length + 1)).filter (Cl.isB (A ++ B)) = Cl.bs A := by
    have := Cl.bl_app A B A.length (Nat.le_refl _)
    have e2 : Cl.bl (A ++ B) (A.length + 1) = Cl.bl A (A.length + 1) := by rw [Cl.bl_yes _ _ h, Cl.bl_yes _ _ (Cl.isB_end A), this]
    exact e2
  have e3 : Cl.bs (A ++ B) = Cl.bs A ++ ((List.range B.length).map (A.length + 1 + ·)).filter (Cl.isB (A ++ B)) := by
    have : Cl.bs (A ++ B) = (List.range (A.length + 1 + B.length)).filter (Cl.isB (A ++ B)) := by unfold Cl.bs Cl.bl; rw [List.length_append, show A.length + B.length + 1 = A.length + 1 + B.length from by omega]
    rw [this, Cl.range_split (A.length + 1 + B.length) (A.length + 1) (by omega), List.filter_append, e1, show A.length + 1 + B.length - (A.length + 1) = B.length from by omega]
  have e4 : ((List.range B.length).map (A.length + 1 + ·)).filter (Cl.isB (A ++ B)) = (((List.range B.length).map (1 + ·)).filter (Cl.isB B)).map (A.length + ·) := by
    rw [List.filter_map, List.filter_map, List.map_map]
    have : (List.range B.length).filter (Cl.isB (A ++ B) ∘ (A.length + 1 + ·)) = (List.range B.length).filter (Cl.isB B ∘ (1 + ·)) := by
      apply List.filter_congr
      intro k hk
      rw [List.mem_range] at hk
      have hd := Cl.isB_drop (A ++ B) A.length h (by simp) (1 + k) (by simp; omega)
      rw [List.drop_left' rfl] at hd
      simp only [Function.comp]
      rw [hd, show A.length + 1 + k = A.length + (1 + k) from by omega]
    rw [this]
    apply List.map_congr_left
    intro k _
    simp only [Function.comp]
    omega
  unfold Cl.sh Cl.bi
  rw [e3, e4, List.map_append, Cl.bs_cons B]
  congr 1
  simp only [List.map_cons, List.drop_succ_cons, List.drop_zero, List.map_map]
  apply List.map_congr_left
  intro k _
  simp only [Function.comp]
  omega
/-- A list behind which a boundary is, whatever follows. -/
def Cl.shut (W : List Int) : Prop := ∀ r, Cl.isB (W ++ r) W.length = true
theorem Cl.shut_nil : Cl.shut [] := fun _ => Cl.isB_zero _
theorem Cl.shut_end (A : List Int) (x : Int) (h : Gx.cls x = 2 ∨ Gx.cls x = 3) : Cl.shut (A ++ [x]) := fun r => by
  refine Cl.isB_after _ _ (by simp) (by simp) ?_
  have e : Cl.at (A ++ [x] ++ r) ((A ++ [x]).length - 1) = x := by
    rw [List.append_assoc, show (A ++ [x]).length - 1 = A.length from by simp]
    exact Cl.at_mid A r x
  rw [e]; exact h
theorem Gx.cls_one (a : Int) (h : Gx.cls a = 1) : a = 13 := by
  have := Gx.join_facts a
  generalize Gx.cls a = c at *
  generalize Gx.cnj a = j at *
  subst h
  rcases this with ⟨h, _⟩ | ⟨_, h, _⟩ | ⟨_, h, _⟩ | ⟨_, _, h, _⟩ | ⟨_, _, _, _, _, _, h, _⟩
  · exact h
  · cases h
  · cases h
  · cases h
  · exact absurd rfl h
/-- A row without line ends, and a line end: a boundary between them. -/
theorem Cl.row_end (R E : List Int) (x : Int) (hx : x = 10 ∨ x = 13) (hR : ∀ a ∈ R, a ≠ 13) : Cl.isB (R ++ x :: E) R.length = true := by
  rcases Nat.eq_zero_or_pos R.length with h | h
  · rw [h]; exact Cl.isB_zero _
  · rw [Cl.isB_mid _ _ h (by simp)]
    unfold Cl.jn Cl.J
    have e1 : Cl.at (R ++ x :: E) R.length = x := Cl.at_mid R E x
    have e2 : Cl.at (R ++ x :: E) (R.length - 1) ∈ R := by
      rw [Cl.at_app R (x :: E) _ (by omega)]
      unfold Cl.at
      rw [List.getElem?_eq_getElem (by omega)]
      exact List.getElem_mem _
    have hl : Gx.cls (Cl.at (R ++ x :: E) (R.length - 1)) ≠ 1 := fun h => hR _ e2 (Gx.cls_one _ h)
    have hr : Cl.alone (Gx.cls x) = true := by rcases hx with rfl | rfl <;> decide +kernel
    rw [e1]
    generalize Gx.cls (Cl.at (R ++ x :: E) (R.length - 1)) = cl at *
    generalize Gx.cls x = cx at *
    unfold Cl.JF
    rw [if_neg (fun h => hl h.1)]
    by_cases ha : Cl.alone cl = true
    · rw [if_pos ha]; rfl
    · rw [if_neg ha, if_pos hr]; rfl
/-- One line more. -/
theorem Cl.line (W R E : List Int) (x : Int) (hx : x = 10 ∨ x = 13) (hW : Cl.shut W) (hR : ∀ a ∈ R, a ≠ 13) :
    Cl.bi (W ++ R ++ x :: E) = Cl.bi W ++ Cl.sh W.length (Cl.bi R) ++ Cl.sh (W.length + R.length : Nat) (Cl.bi (x :: E)) := by
  have h1 := Cl.cat W (R ++ x :: E) (hW _)
  have h2 := Cl.cat R (x :: E) (Cl.row_end R E x hx hR)
  rw [List.append_assoc W R, h1, h2, List.append_assoc]
  congr 1
  unfold Cl.sh
  have hp : 1 ≤ (Cl.bi R).length := by rw [Cl.bi_len]; omega
  rw [List.drop_append_of_le_length hp, List.map_append, List.map_map]
  congr 1
  apply List.map_congr_left
  intro a _
  simp only [Function.comp]
  omega
theorem Cl.end10 : Cl.bi [10] = [0, 1] := by decide +kernel
theorem Cl.end1310 : Cl.bi [13, 10] = [0, 2] := by decide +kernel
theorem Cl.end13133 : Cl.bi [13, 133] = [0, 1, 2] := by decide +kernel
theorem Cl.sh_nil (n : Int) : Cl.sh n (Cl.bi []) = [] := by
  have : Cl.bi [] = [0] := by decide +kernel
  rw [this]; rfl

def Cl.cl1 (a : Int) : Int := if a = 10 ∨ a = 13 then 32 else a
def Cl.clean (z : List Int) : List Int := z.map Cl.cl1
theorem Cl.clean_len (z : List Int) : (Cl.clean z).length = z.length := by simp [Cl.clean]
theorem Cl.clean_no (z : List Int) : ∀ a ∈ Cl.clean z, a ≠ 13 := by
  intro a ha
  obtain ⟨b, _, rfl⟩ := List.mem_map.1 ha
  unfold Cl.cl1
  split
  · decide
  · omega
theorem set_mid (A rest : List Value) (r x : Value) (k : Nat) (h : A.length = k) : (A ++ r :: rest).set k x = (A ++ [x]) ++ rest := by
  subst h; simp
theorem Cl.clean_step (z : List Int) (k : Nat) (h : k < z.length) :
    (((Cl.clean z).take k ++ z.drop k).map (Value.int .i64)).set k (.int .i64 (Cl.cl1 (Cl.at z k))) = ((Cl.clean z).take (k + 1) ++ z.drop (k + 1)).map (Value.int .i64) := by
  have hT : k < (Cl.clean z).length := by rw [Cl.clean_len]; exact h
  rw [List.take_succ_eq_append_getElem hT, List.drop_eq_getElem_cons h]
  simp only [List.map_append, List.map_cons]
  rw [set_mid _ _ _ _ k (by simp; omega)]
  simp [Cl.clean, Cl.at, h]
theorem Cl.clean_same (z : List Int) (k : Nat) (h : k < z.length) (hc : Cl.cl1 (Cl.at z k) = Cl.at z k) :
    (Cl.clean z).take k ++ z.drop k = (Cl.clean z).take (k + 1) ++ z.drop (k + 1) := by
  have hT : k < (Cl.clean z).length := by rw [Cl.clean_len]; exact h
  rw [List.take_succ_eq_append_getElem hT, List.drop_eq_getElem_cons h]
  have e : Cl.at z k = z[k] := by unfold Cl.at; simp [h]
  rw [e] at hc
  simp [Cl.clean, hc]
theorem Cl.clean_cell (z : List Int) (k : Nat) (h : k < z.length) : (((Cl.clean z).take k ++ z.drop k).map (Value.int .i64))[k]? = some (.int .i64 (Cl.at z k)) := by
  have hT : k < (Cl.clean z).length := by rw [Cl.clean_len]; exact h
  rw [List.drop_eq_getElem_cons h]
  simp only [List.map_append, List.map_cons]
  rw [List.getElem?_append_right (by simp; omega)]
  simp [Cl.at, h, show k - min k (Cl.clean z).length = 0 from by omega]

set_option maxRecDepth 100000 in
set_option maxHeartbeats 1000000 in
theorem shifted_any (v : Value) (L : List Int) (n : Int) (w : World) (hr : Rd .i64 w v L) (hz : L.length * 8 ≤ 140737488355328) (hn : 0 ≤ n ∧ n ≤ 1000000000000000000) (hxs : ∀ x ∈ L, 0 ≤ x ∧ x ≤ 1000000000000000000) :
    Calls Try.prog 21 #[v, .int .i64 n] w fun e w' => ∃ v', e = .returned v' ∧ Own w' w.heap.size v' (Cl.sh n L) ∧ Below w.heap.size w w' := by
  obtain ⟨ao, cap, rfl, hl, hm, hc⟩ := hr
  obtain ⟨i0, hi, hz0, hz1, hz2⟩ := info_parts Try.info_i64
  have HC : Hid (L ≠ [] → ∃ b off, ao = some ⟨b, off, none⟩ ∧ b < w.heap.size ∧ ∀ i, i < L.length → w.cell? ⟨b, off + i, none⟩ = some (.int .i64 (L[i]?.getD 0))) := hc
  have HXS : Hid (∀ x ∈ L, 0 ≤ x ∧ x ≤ 1000000000000000000) := hxs
  clear hc hm hxs
  obtain ⟨hn0, hn1⟩ := hn
  unfold Own
  go_enter Try.func21, Try.ntmps21
  go_wp2_with fail
  go_loopw [5, 6] (fun o i wr => ∃ k : Nat, (k ≤ L.length ∨ k = 1) ∧ 0 < k ∧ i = .int .i64 k ∧ wr.ownsRow w.heap.size 3 1 o (Cl.sh n (L.take k)).length ((Cl.sh n (L.take k)).map (Value.int .i64)) ∧ Below w.heap.size w wr) (fun _ i _ => L.length - (intOf i).toNat)
  case atStart =>
    refine ⟨1, .inr rfl, by omega, rfl, ?_, Below.refl _ _⟩
    have : Cl.sh n (L.take 1) = [] := by
      unfold Cl.sh
      cases L with
      | nil => rfl
      | cons a t => rfl
    rw [this]
    exact World.ownsRow_nil _ _ _ _
  case round =>
    obtain ⟨k, hk, hk0, rfl, hown, hb⟩ := hrel
    have hz' : w.heap.size ≤ wr.heap.size := hb.size
    by_cases hlt : k < L.length
    · obtain ⟨b, off, rfl, hbl, hc⟩ := HC.out (by intro h; subst h; simp at hlt)
      have hcx : wr.cell? ⟨b, off + k, none⟩ = some (.int .i64 (L[k]?.getD 0)) := (hb.cell (p := ⟨b, off + k, none⟩) hbl).trans (hc k hlt)
      have hxb := HXS.out (L[k]?.getD 0) (by rw [List.getElem?_eq_getElem hlt]; exact List.getElem_mem hlt)
      have HT : Hid ((Cl.sh n (L.take (k + 1))).map (Value.int .i64) = (Cl.sh n (L.take k)).map (Value.int .i64) ++ [.int .i64 (L[k]?.getD 0 + n)] ∧ (Cl.sh n (L.take (k + 1))).length = (Cl.sh n (L.take k)).length + 1) := by
        have : Cl.sh n (L.take (k + 1)) = Cl.sh n (L.take k) ++ [L[k]?.getD 0 + n] := by
          unfold Cl.sh
          rw [List.take_succ_eq_append_getElem hlt, List.drop_append_of_le_length (by rw [List.length_take]; omega), List.map_append]
          simp [hlt]
        unfold Hid
        rw [this]
        simp
      have hle : (Cl.sh n (L.take k)).length ≤ k := by unfold Cl.sh; simp; omega
      generalize L[k]?.getD 0 = x at *
      generalize (Cl.sh n (L.take k)).map (Value.int .i64) = xs at *
      generalize (Cl.sh n (L.take k)).length = m at *
      clear hc HC
      go_wp2_with (at_builtin; refine wpList_append_own _ rfl _ _ 22 rfl w.heap.size 3 i0 (.int .i64 0) 1 8 Try.underlying22 hi hz0 hz1 hz2 rfl (by decide) _ _ _ rfl (hown.alloc _) ⟨wr.heap.size, 0, none⟩ 1 1 [.int .i64 (x + n)] rfl rfl (cell_one_new _ _ _) (one_i64 _) (by unfold maxLen; omega) (by omega) (by simp; omega) ?_; intro v' w' hown' hg' hx')
      go_roundw
      case rel => exact ⟨k + 1, by omega, by omega, by go_num, by rw [HT.out.1, HT.out.2]; exact hown', below_push hb hown hg'⟩
      case measure => simp [intOf]; omega
    · have HT : Hid (Cl.sh n (L.take k) = Cl.sh n L) := by unfold Hid; rw [List.take_of_length_le (by omega)]
      clear HC hk
      go_wp2
      go_ret
      exact ⟨_, rfl, by rw [← HT.out]; exact hown, hb⟩
end Go.Proofs.Ytahjjpleceppaaa
