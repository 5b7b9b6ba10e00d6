/- The document's own calls: plain, Upto, At, Find, Replace, Digits. -/
import Derived.Test.YtcdamhgblolofaaRef
import Derived.Deep.RegionHeld3
namespace Go.Proofs.Ytcdamhgblolofaa
open Go.RowKit

theorem hidIt {p : Prop} (h : p) : Hid p := h
theorem size_ad (w : World) (o : Obj) : w.heap.size ≤ (w.alloc o).drew.heap.size := by show _ ≤ (w.alloc o).heap.size; rw [World.size_alloc]; exact Nat.le_succ _
theorem OwnR.below_drew {w wr w1 : World} {e : TypeId} {v : Value} {xs : List It} (hb : Below w.heap.size w wr) (hown : OwnR wr w.heap.size e v xs) (o : Obj) (hg : ((wr.alloc o).drew).grownBy w1 v.ownBlock) : Below w.heap.size w w1 :=
  (hb.alloc hb.size o).drew.grown hg (Nat.le_trans hb.size (size_ad _ _)) (fun k hk => (World.ownsRow.lt hown k hk).1)
theorem OwnR.drewn {w : World} {base : Nat} {e : TypeId} {v : Value} {xs : List It} (h : OwnR w base e v xs) (o : Obj) : ((w.alloc o).drew).ownsRow base e 2 v xs.length (flat xs) := by
  have h2 : OwnR ((w.alloc o).drew) base e v xs := h.ext ((Below.refl w.heap.size w).alloc (Nat.le_refl _) o).drew
  exact h2
theorem cell2_new (w : World) (a b : Value) (T : TypeId) : ∀ (j : Nat) (u : Value), [a, b][j]? = some u → ((w.alloc (.cells #[a, b] T)).drew).cell? ((⟨w.heap.size, 0, none⟩ : Addr).add j) = some u := by
  intro j u h
  show (w.alloc (.cells #[a, b] T)).cell? _ = _
  match j with
  | 0 => simp at h; subst h; rw [Addr.add_lit]; simp
  | 1 => simp at h; subst h; rw [Addr.add_lit]; simp
  | j + 2 => simp at h

set_option maxRecDepth 100000 in
set_option maxHeartbeats 1000000 in
theorem plain_any (v : Value) (xs : List It) (w : World) (h : RdR w v xs) (hz : xs.length * 16 ≤ 140737488355328) :
    Calls Try.prog 16 #[v] w fun e w' => ∃ v', e = .returned v' ∧ OwnR w' w.heap.size 76 v' xs ∧ Below w.heap.size w w' := by
  obtain ⟨ao, cap, rfl, hl, hm, h0, hc⟩ := h
  unfold maxLen at hm
  obtain ⟨i0, hi, hz0, hz1, hz2⟩ := info_parts Try.info_rrun
  by_cases hn : xs = []
  · subst hn
    clear hc h0
    simp only [List.length_nil]
    go_enter Try.func16, Try.ntmps16
    go_wp2_with fail
    refine wp_loop_rounds 1 ?_
    rw [rounds_succ]
    go_wp2_with fail
    go_ret
    exact ⟨_, rfl, OwnR.nil _ _ _, Below.refl _ _⟩
  · obtain ⟨b, off, rfl, hbl, hc⟩ := hc hn
    clear hn h0
    go_enter Try.func16, Try.ntmps16
    go_wp2_with fail
    go_loopw [3, 4] (fun o i wr => ∃ k : Nat, k ≤ xs.length ∧ i = .int .i64 k ∧ OwnR wr w.heap.size 76 o (xs.take k) ∧ Below w.heap.size w wr) (fun _ i _ => xs.length - (intOf i).toNat)
    case atStart => exact ⟨0, Nat.zero_le _, rfl, OwnR.nil _ _ _, Below.refl _ _⟩
    case round =>
      obtain ⟨k, hk, rfl, hown, hb⟩ := hrel
      by_cases hlt : k < xs.length
      · have c0 : wr.cell? ⟨b, off + k * 2, none⟩ = some (.int .i64 (xs[k]?.getD (0, 0)).1) := (hb.cell (p := ⟨b, off + k * 2, none⟩) hbl).trans (hc k hlt).1
        have c1 : wr.cell? ⟨b, off + k * 2 + 1, none⟩ = some (.int .i64 (xs[k]?.getD (0, 0)).2) := (hb.cell (p := ⟨b, off + k * 2 + 1, none⟩) hbl).trans (hc k hlt).2
        have HT : Hid (xs.take k ++ [xs[k]?.getD (0, 0)] = xs.take (k + 1)) := by unfold Hid; rw [List.take_succ_eq_append_getElem hlt, List.getElem?_eq_getElem hlt]; rfl
        have hlk : (xs.take k).length = k := by rw [List.length_take]; omega
        have HO := hidIt hown
        have HB : Hid (Below w.heap.size w wr) := hb
        have HC : Hid (_ ∧ _) := hc k hlt
        have hsz := hb.size
        have hne := World.new_ne wr ⟨b, off + k * 2, none⟩ c0
        have hne' := World.new_ne wr ⟨b, off + k * 2 + 1, none⟩ c1
        generalize xs[k]?.getD (0, 0) = x at *
        generalize HX : xs.take k = ys at *
        have HK : Hid (ys.length = k) := hlk
        clear hc hown hlk HX
        go_wp2_with fail
        go_region_held3 (fun w' => w'.cell? ⟨b, off + k * 2, none⟩ = some (.int .i64 x.1) ∧ w'.cell? ⟨b, off + k * 2 + 1, none⟩ = some (.int .i64 x.2)) (go_keep) (
          (rw [if_pos (by rfl)]; refine wp_append_own _ _ _ 31 rfl w.heap.size 76 i0 _ 2 16 Try.underlying31 hi hz0 hz1 hz2 rfl (by decide) _ _ _ rfl (HO.out.drewn _) ⟨wr.heap.size, 0, none⟩ 1 1 [.int .i64 x.1, .int .i64 x.2] rfl rfl (cell2_new _ _ _ _) (by simp [Value.oneCell']) (by unfold maxLen; have := HK.out; omega) (by have := HK.out; omega) (Nat.le_trans HB.out.size (size_ad _ _)) ?_; intro v' w1 hown' hg' _; have HB1 : Hid (Below w.heap.size w w1) := OwnR.below_drew HB.out HO.out _ hg'; have d0 : w1.cell? ⟨b, off + k * 2, none⟩ = some (.int .i64 x.1) := (HB1.out.cell (p := ⟨b, off + k * 2, none⟩) hbl).trans HC.out.1; have d1 : w1.cell? ⟨b, off + k * 2 + 1, none⟩ = some (.int .i64 x.2) := (HB1.out.cell (p := ⟨b, off + k * 2 + 1, none⟩) hbl).trans HC.out.2; have HO' := hidIt hown'; clear hown' hg'))
        all_goals
          go_wp2_with fail
          go_roundw
          case rel => exact ⟨k + 1, by omega, by go_num, by rw [← HT.out]; unfold OwnR; rw [List.length_append, flat_app]; exact HO'.out, HB1.out⟩
          case measure => simp [intOf]; omega
      · have hke : k = xs.length := by omega
        subst hke
        have HT : Hid (xs.take xs.length = xs) := by unfold Hid; rw [List.take_length]
        have HO := hidIt hown
        clear hc hown
        go_wp2_with fail
        go_ret
        exact ⟨_, rfl, by rw [← HT.out]; exact HO.out, hb⟩
end Go.Proofs.Ytcdamhgblolofaa
