import Derived.Test.YtbmelpjmpomfcaaGreatJ07
import Derived.LaidEqlPtr
namespace Go.Proofs.YtbmelpjmpomfcaaGreat.P
open Go.RowKit

def rg (n : Int) : Int → List Ed → Bool
  | _, [] => true
  | least, e :: es => decide (least ≤ e.1 ∧ e.1 ≤ e.2.1 ∧ e.2.1 ≤ n) && rg n e.2.1 es
def ckA (enc lim : Int) (n : Nat) (es : List Ed) : Int := if 70000 < es.length then 3 else if rg n 0 es = true then cpA enc lim es else 2

set_option maxRecDepth 100000 in
set_option maxHeartbeats 4000000 in
theorem check_any (enc lim : Int) (L : List Int) (w : World) (t : Nat) (ps : List PG) (v : Value) (es : List Ed) (h : Tx enc lim L w t ps) (hE : EdR w v es) (hl : es.length ≤ 70000 → (puts es).length ≤ 2305843009213693951) :
    Calls Tryz.prog 54 #[.pointer (some ⟨t, 0, none⟩), v] w fun e w' => e = .returned (.int .i64 (ckA enc lim (sh enc ps).length es)) ∧ Below w.heap.size w w' := by
  have LN : Hid (∀ w', Below w.heap.size w w' → Calls Tryz.prog 34 #[.pointer (some ⟨t, 0, none⟩)] w' fun e w'' => e = .returned (.int .i64 (sh enc ps).length) ∧ Below w'.heap.size w' w'') := fun w' hb => Len_any enc lim L w' t ps (h.ext hb)
  have CP : Hid (es.length ≤ 70000 → ∀ w', Below w.heap.size w w' → Calls Tryz.prog 89 #[.pointer (some ⟨t, 0, none⟩), v] w' fun e w'' => e = .returned (.int .i64 (cpA enc lim es)) ∧ Below w'.heap.size w' w'') := fun h70 w' hb => checkPuts_any enc lim L w' t ps v es (h.ext hb) (hE.ext hb) (hl h70)
  obtain ⟨ao, cap, rfl, h1, h2, h3⟩ := id hE
  have HE : Hid (∀ w', Below w.heap.size w w' → ∀ j e, es[j]? = some e → ∃ b off, ao = some ⟨b, off, none⟩ ∧ w'.cell? ⟨b, off + j * 3, none⟩ = some (.int .i64 e.1) ∧ w'.cell? ⟨b, off + j * 3 + 1, none⟩ = some (.int .i64 e.2.1) ∧ ∃ pv, w'.cell? ⟨b, off + j * 3 + 2, none⟩ = some pv ∧ Rd .i64 w' pv e.2.2) := fun w' hb j e he => by
    obtain ⟨ao', cap', e1, _, _, e4⟩ := hE.ext hb
    cases e1
    obtain ⟨b, o, k1, _, k3⟩ := e4 (by intro hn; subst hn; simp at he)
    obtain ⟨c0, c1, c2⟩ := k3 j e he
    exact ⟨b, o, k1, c0, c1, c2⟩
  clear h hE h3
  generalize (sh enc ps).length = n at *
  by_cases hbig : 70000 < es.length
  · have hb' : (70000 : Int) < (es.length : Int) := by omega
    have HA := hidIt (show ckA enc lim n es = 3 by unfold ckA; rw [if_pos hbig])
    go_enter Tryz.func54, Tryz.ntmps54
    go_wp2_with fail
    go_ret
    exact ⟨ret_int HA.out.symm, Below.refl _ _⟩
  have hb' : ¬ (70000 : Int) < (es.length : Int) := by omega
  have HA := hidIt (show ckA enc lim n es = if rg n 0 es = true then cpA enc lim es else 2 by unfold ckA; rw [if_neg hbig])
  go_enter Tryz.func54, Tryz.ntmps54
  go_wp2_with fail
  go_loopg [5, 13] es.length (fun gk lv p wr => ∃ (j : Nat) (least : Int), j + gk = es.length ∧ p = .int .i64 (j : Nat) ∧ lv = .int .i64 least ∧ Hid (rg n 0 es = rg n least (es.drop j)) ∧ Hid (Below w.heap.size w wr))
  case atStart => exact ⟨0, 0, by omega, rfl, rfl, by rw [List.drop_zero]; rfl, Below.refl _ _⟩
  case round =>
    obtain ⟨j, least, hj, rfl, rfl, HR, HB⟩ := hrel
    by_cases hi' : j < es.length
    · have hi2 : (j : Int) < (es.length : Int) := by omega
      obtain ⟨e, hej⟩ : ∃ e, es[j]? = some e := ⟨_, List.getElem?_eq_getElem hi'⟩
      obtain ⟨b, o, rfl, c0, c1, pv, c2, hpv⟩ := HE.out wr HB.out j e hej
      obtain ⟨pa, pc, rfl, hp1, hp2, hp3⟩ := id hpv
      have hdr : es.drop j = e :: es.drop (j + 1) := by
        rw [List.drop_eq_getElem_cons hi']
        rw [List.getElem?_eq_getElem hi', Option.some.injEq] at hej
        rw [hej]
      obtain ⟨ef, et, ep⟩ := e
      simp only at *
      have HD := hidIt hdr
      clear hpv hp3 hdr
      obtain ⟨wb, hwb, kb, hbb⟩ : ∃ wb, wb = wr.alloc (.cells #[.int .i64 ef, .int .i64 et, .slice pa ep.length pc] 30) ∧ wb.heap[wr.heap.size]? = some (.cells #[.int .i64 ef, .int .i64 et, .slice pa ep.length pc] 30 (0, 0)) ∧ Below wr.heap.size wr wb := ⟨_, rfl, heap_alloc_new _ _, ext_alloc (Below.refl _ _) _⟩
      have HP : Hid (∀ w', Below wb.heap.size wb w' → w'.cell? ⟨wr.heap.size, 0, none⟩ = some (.int .i64 ef) ∧ w'.cell? ⟨wr.heap.size, 1, none⟩ = some (.int .i64 et)) := fun w' hb => by
        have hk := (hb.block wr.heap.size (Array.getElem?_eq_some_iff.1 kb).1).trans kb
        exact ⟨by rw [cell_of_row w' _ _ _ _ _ hk]; rfl, by rw [cell_of_row w' _ _ _ _ _ hk]; rfl⟩
      have HBb := hidIt (ext_trans HB.out hbb)
      clear kb hbb
      go_upto_region 7 with fail
      rw [← hwb]
      clear hwb c0 c1 c2
      obtain ⟨d0, d1⟩ := HP.out wb (Below.refl _ _)
      by_cases g1 : ef < least
      · have HAN := hidIt (show ckA enc lim n es = 2 by
          rw [HA.out, HR.out, HD.out, rg]
          simp only [Bool.and_eq_true, decide_eq_true_eq]
          rw [if_neg (by omega)])
        refine wp_region_held_drew (S := fun w' => w'.cell? ⟨wr.heap.size, 0, none⟩ = some (.int .i64 ef) ∧ w'.cell? ⟨wr.heap.size, 1, none⟩ = some (.int .i64 et)) (by kernel_rfl) (⟨d0, d1⟩) (fun hHeld => ?_)
        refine tkH (v := ?_) 0 rfl ?_ ?_; rotate_left 1
        · intro wq hSw; (try dsimp only at hSw); go_simp; try (with_reducible rfl)
        try simp only [Act.put, sA1, sA3, sA4, sA5, sA6]
        refine tkH (v := ?_) 1 rfl ?_ ?_; rotate_left 1
        · intro wq hSw; (try dsimp only at hSw); go_simp; try (with_reducible rfl)
        try simp only [Act.put, sA1, sA2, sA3, sA4, sA5, sA6]
        refine tkH (v := ?_) 2 rfl ?_ ?_; rotate_left 1
        · intro wq hSw; (try dsimp only at hSw); go_simp; try (with_reducible rfl)
        try simp only [Act.put, sA1, sA2, sA3, sA4, sA5, sA6]
        refine tkH (v := ?_) 3 rfl ?_ ?_; rotate_left 1
        · intro wq hSw; (try dsimp only at hSw); go_simp; try (with_reducible rfl)
        try simp only [Act.put, sA1, sA2, sA3, sA4, sA5, sA6]
        refine tkH (v := ?_) 4 rfl ?_ ?_; rotate_left 1
        · intro wq hSw; (try dsimp only at hSw); go_simp; try (with_reducible rfl)
        try simp only [Act.put, sA1, sA2, sA3, sA4, sA5, sA6]
        refine wpAnyH_take (i := 5) (oi := _) (v := undef) rfl (by kernel_rfl) (by kernel_rfl) (by kernel_rfl) (fun _ _ _ h => h) (Or.inr ⟨by rfl, rfl⟩) (by assumption) ?_
        try simp only [Act.put, sA1, sA2, sA3, sA4, sA5, sA6]
        refine wpAnyH_take (i := 6) (oi := _) (v := undef) rfl (by kernel_rfl) (by kernel_rfl) (by kernel_rfl) (fun _ _ _ h => h) (Or.inr ⟨by rfl, rfl⟩) (by assumption) ?_
        try simp only [Act.put, sA1, sA2, sA3, sA4, sA5, sA6]
        refine wpAnyH_take (i := 7) (oi := _) (v := undef) rfl (by kernel_rfl) (by kernel_rfl) (by kernel_rfl) (fun _ _ _ h => h) (Or.inr ⟨by rfl, rfl⟩) (by assumption) ?_
        try simp only [Act.put, sA1, sA2, sA3, sA4, sA5, sA6]
        refine wpAnyH_take (i := 8) (oi := _) (v := undef) rfl (by kernel_rfl) (by kernel_rfl) (by kernel_rfl) (fun _ _ _ h => h) (Or.inr ⟨by rfl, rfl⟩) (by assumption) ?_
        try simp only [Act.put, sA1, sA2, sA3, sA4, sA5, sA6]
        refine wpAnyH_take (i := 9) (oi := _) (v := undef) rfl (by kernel_rfl) (by kernel_rfl) (by kernel_rfl) (fun _ _ _ h => h) (Or.inr ⟨by rfl, rfl⟩) (by assumption) ?_
        try simp only [Act.put, sA1, sA2, sA3, sA4, sA5, sA6]
        refine tkH (v := ?_) 10 rfl ?_ ?_; rotate_left 1
        · intro wq hSw; (try dsimp only at hSw); go_simp; try (with_reducible rfl)
        try simp only [Act.put, sA1, sA2, sA3, sA4, sA5, sA6]
        refine tkH (v := ?_) 11 rfl ?_ ?_; rotate_left 1
        · intro wq hSw; (try dsimp only at hSw); go_simp; try (with_reducible rfl)
        try simp only [Act.put, sA1, sA2, sA3, sA4, sA5, sA6]
        refine wpAnyH_take (i := 12) (oi := _) (v := undef) rfl (by kernel_rfl) (by kernel_rfl) (by kernel_rfl) (fun _ _ _ h => h) (Or.inr ⟨by rfl, rfl⟩) (by assumption) ?_
        try simp only [Act.put, sA1, sA2, sA3, sA4, sA5, sA6]
        refine wpAnyH_take (i := 13) (oi := _) (v := undef) rfl (by kernel_rfl) (by kernel_rfl) (by kernel_rfl) (fun _ _ _ h => h) (Or.inr ⟨by rfl, rfl⟩) (by assumption) ?_
        try simp only [Act.put, sA1, sA2, sA3, sA4, sA5, sA6]
        refine wpAnyH_take (i := 14) (oi := _) (v := undef) rfl (by kernel_rfl) (by kernel_rfl) (by kernel_rfl) (fun _ _ _ h => h) (Or.inr ⟨by rfl, rfl⟩) (by assumption) ?_
        try simp only [Act.put, sA1, sA2, sA3, sA4, sA5, sA6]
        refine wpAnyH_ready (rs := [15]) (by kernel_rfl) (by simp) ?_
        refine AllReadyH.cons (o := _) rfl (fun K hK => ?_) AllReadyH.nil
        go_simp
        refine hK.out _ _ ?_ (fun hHeld => ?_)
        · (try simp only [World.cell?_drew]); exact ⟨d0, d1⟩
        clear hK K
        try simp only [Act.put, sA1, sA2, sA3, sA4, sA5, sA6]
        refine wpAnyH_take (i := 16) (oi := _) (v := undef) rfl (by kernel_rfl) (by kernel_rfl) (by kernel_rfl) (fun _ _ _ h => h) (Or.inr ⟨by rfl, rfl⟩) (by assumption) ?_
        try simp only [Act.put, sA1, sA2, sA3, sA4, sA5, sA6]
        refine tkH (v := ?_) 17 rfl ?_ ?_; rotate_left 1
        · intro wq hSw; (try dsimp only at hSw); go_simp; try (with_reducible rfl)
        try simp only [Act.put, sA1, sA2, sA3, sA4, sA5, sA6]
        refine wpAnyH_done (by kernel_rfl) ?_ _
        go_wp2_with fail
        go_ret
        exact ⟨ret_int HAN.out.symm, by first | exact HBb.out.drew | exact HBb.out⟩
      by_cases g2 : et < ef
      · have HAN := hidIt (show ckA enc lim n es = 2 by
          rw [HA.out, HR.out, HD.out, rg]
          simp only [Bool.and_eq_true, decide_eq_true_eq]
          rw [if_neg (by omega)])
        refine wp_region_held_drew (S := fun w' => w'.cell? ⟨wr.heap.size, 0, none⟩ = some (.int .i64 ef) ∧ w'.cell? ⟨wr.heap.size, 1, none⟩ = some (.int .i64 et)) (by kernel_rfl) (⟨d0, d1⟩) (fun hHeld => ?_)
        refine tkH (v := ?_) 0 rfl ?_ ?_; rotate_left 1
        · intro wq hSw; (try dsimp only at hSw); go_simp; try (with_reducible rfl)
        try simp only [Act.put, sA1, sA3, sA4, sA5, sA6]
        refine tkH (v := ?_) 1 rfl ?_ ?_; rotate_left 1
        · intro wq hSw; (try dsimp only at hSw); go_simp; try (with_reducible rfl)
        try simp only [Act.put, sA1, sA2, sA3, sA4, sA5, sA6]
        refine tkH (v := ?_) 2 rfl ?_ ?_; rotate_left 1
        · intro wq hSw; (try dsimp only at hSw); go_simp; try (with_reducible rfl)
        try simp only [Act.put, sA1, sA2, sA3, sA4, sA5, sA6]
        refine tkH (v := ?_) 3 rfl ?_ ?_; rotate_left 1
        · intro wq hSw; (try dsimp only at hSw); go_simp; try (with_reducible rfl)
        try simp only [Act.put, sA1, sA2, sA3, sA4, sA5, sA6]
        refine tkH (v := ?_) 4 rfl ?_ ?_; rotate_left 1
        · intro wq hSw; (try dsimp only at hSw); go_simp; try (with_reducible rfl)
        try simp only [Act.put, sA1, sA2, sA3, sA4, sA5, sA6]
        refine tkH (v := ?_) 5 rfl ?_ ?_; rotate_left 1
        · intro wq hSw; (try dsimp only at hSw); go_simp; try (with_reducible rfl)
        try simp only [Act.put, sA1, sA2, sA3, sA4, sA5, sA6]
        refine tkH (v := ?_) 6 rfl ?_ ?_; rotate_left 1
        · intro wq hSw; (try dsimp only at hSw); go_simp; try (with_reducible rfl)
        try simp only [Act.put, sA1, sA2, sA3, sA4, sA5, sA6]
        refine tkH (v := ?_) 7 rfl ?_ ?_; rotate_left 1
        · intro wq hSw; (try dsimp only at hSw); go_simp; try (with_reducible rfl)
        try simp only [Act.put, sA1, sA2, sA3, sA4, sA5, sA6]
        refine tkH (v := ?_) 8 rfl ?_ ?_; rotate_left 1
        · intro wq hSw; (try dsimp only at hSw); go_simp; try (with_reducible rfl)
        try simp only [Act.put, sA1, sA2, sA3, sA4, sA5, sA6]
        refine tkH (v := ?_) 9 rfl ?_ ?_; rotate_left 1
        · intro wq hSw; (try dsimp only at hSw); go_simp; try (with_reducible rfl)
        try simp only [Act.put, sA1, sA2, sA3, sA4, sA5, sA6]
        refine tkH (v := ?_) 10 rfl ?_ ?_; rotate_left 1
        · intro wq hSw; (try dsimp only at hSw); go_simp; try (with_reducible rfl)
        try simp only [Act.put, sA1, sA2, sA3, sA4, sA5, sA6]
        refine tkH (v := ?_) 11 rfl ?_ ?_; rotate_left 1
        · intro wq hSw; (try dsimp only at hSw); go_simp; try (with_reducible rfl)
        try simp only [Act.put, sA1, sA2, sA3, sA4, sA5, sA6]
        refine wpAnyH_take (i := 12) (oi := _) (v := undef) rfl (by kernel_rfl) (by kernel_rfl) (by kernel_rfl) (fun _ _ _ h => h) (Or.inr ⟨by rfl, rfl⟩) (by assumption) ?_
        try simp only [Act.put, sA1, sA2, sA3, sA4, sA5, sA6]
        refine wpAnyH_take (i := 13) (oi := _) (v := undef) rfl (by kernel_rfl) (by kernel_rfl) (by kernel_rfl) (fun _ _ _ h => h) (Or.inr ⟨by rfl, rfl⟩) (by assumption) ?_
        try simp only [Act.put, sA1, sA2, sA3, sA4, sA5, sA6]
        refine wpAnyH_take (i := 14) (oi := _) (v := undef) rfl (by kernel_rfl) (by kernel_rfl) (by kernel_rfl) (fun _ _ _ h => h) (Or.inr ⟨by rfl, rfl⟩) (by assumption) ?_
        try simp only [Act.put, sA1, sA2, sA3, sA4, sA5, sA6]
        refine wpAnyH_ready (rs := [15]) (by kernel_rfl) (by simp) ?_
        refine AllReadyH.cons (o := _) rfl (fun K hK => ?_) AllReadyH.nil
        go_simp
        refine hK.out _ _ ?_ (fun hHeld => ?_)
        · (try simp only [World.cell?_drew]); exact ⟨d0, d1⟩
        clear hK K
        try simp only [Act.put, sA1, sA2, sA3, sA4, sA5, sA6]
        refine wpAnyH_take (i := 16) (oi := _) (v := undef) rfl (by kernel_rfl) (by kernel_rfl) (by kernel_rfl) (fun _ _ _ h => h) (Or.inr ⟨by rfl, rfl⟩) (by assumption) ?_
        try simp only [Act.put, sA1, sA2, sA3, sA4, sA5, sA6]
        refine tkH (v := ?_) 17 rfl ?_ ?_; rotate_left 1
        · intro wq hSw; (try dsimp only at hSw); go_simp; try (with_reducible rfl)
        try simp only [Act.put, sA1, sA2, sA3, sA4, sA5, sA6]
        refine wpAnyH_done (by kernel_rfl) ?_ _
        go_wp2_with fail
        go_ret
        exact ⟨ret_int HAN.out.symm, by first | exact HBb.out.drew | exact HBb.out⟩
      by_cases g3 : (n : Int) < et
      · have HAN := hidIt (show ckA enc lim n es = 2 by
          rw [HA.out, HR.out, HD.out, rg]
          simp only [Bool.and_eq_true, decide_eq_true_eq]
          rw [if_neg (by omega)])
        refine wp_region_held_drew (S := fun w' => w'.cell? ⟨wr.heap.size, 0, none⟩ = some (.int .i64 ef) ∧ w'.cell? ⟨wr.heap.size, 1, none⟩ = some (.int .i64 et)) (by kernel_rfl) (⟨d0, d1⟩) (fun hHeld => ?_)
        refine tkH (v := ?_) 0 rfl ?_ ?_; rotate_left 1
        · intro wq hSw; (try dsimp only at hSw); go_simp; try (with_reducible rfl)
        try simp only [Act.put, sA1, sA3, sA4, sA5, sA6]
        refine tkH (v := ?_) 1 rfl ?_ ?_; rotate_left 1
        · intro wq hSw; (try dsimp only at hSw); go_simp; try (with_reducible rfl)
        try simp only [Act.put, sA1, sA2, sA3, sA4, sA5, sA6]
        refine tkH (v := ?_) 2 rfl ?_ ?_; rotate_left 1
        · intro wq hSw; (try dsimp only at hSw); go_simp; try (with_reducible rfl)
        try simp only [Act.put, sA1, sA2, sA3, sA4, sA5, sA6]
        refine tkH (v := ?_) 3 rfl ?_ ?_; rotate_left 1
        · intro wq hSw; (try dsimp only at hSw); go_simp; try (with_reducible rfl)
        try simp only [Act.put, sA1, sA2, sA3, sA4, sA5, sA6]
        refine tkH (v := ?_) 4 rfl ?_ ?_; rotate_left 1
        · intro wq hSw; (try dsimp only at hSw); go_simp; try (with_reducible rfl)
        try simp only [Act.put, sA1, sA2, sA3, sA4, sA5, sA6]
        refine tkH (v := ?_) 5 rfl ?_ ?_; rotate_left 1
        · intro wq hSw; (try dsimp only at hSw); go_simp; try (with_reducible rfl)
        try simp only [Act.put, sA1, sA2, sA3, sA4, sA5, sA6]
        refine tkH (v := ?_) 6 rfl ?_ ?_; rotate_left 1
        · intro wq hSw; (try dsimp only at hSw); go_simp; try (with_reducible rfl)
        try simp only [Act.put, sA1, sA2, sA3, sA4, sA5, sA6]
        refine tkH (v := ?_) 7 rfl ?_ ?_; rotate_left 1
        · intro wq hSw; (try dsimp only at hSw); go_simp; try (with_reducible rfl)
        try simp only [Act.put, sA1, sA2, sA3, sA4, sA5, sA6]
        refine tkH (v := ?_) 8 rfl ?_ ?_; rotate_left 1
        · intro wq hSw; (try dsimp only at hSw); go_simp; try (with_reducible rfl)
        try simp only [Act.put, sA1, sA2, sA3, sA4, sA5, sA6]
        refine tkH (v := ?_) 9 rfl ?_ ?_; rotate_left 1
        · intro wq hSw; (try dsimp only at hSw); go_simp; try (with_reducible rfl)
        try simp only [Act.put, sA1, sA2, sA3, sA4, sA5, sA6]
        refine tkH (v := ?_) 10 rfl ?_ ?_; rotate_left 1
        · intro wq hSw; (try dsimp only at hSw); go_simp; try (with_reducible rfl)
        try simp only [Act.put, sA1, sA2, sA3, sA4, sA5, sA6]
        refine tkH (v := ?_) 11 rfl ?_ ?_; rotate_left 1
        · intro wq hSw; (try dsimp only at hSw); go_simp; try (with_reducible rfl)
        try simp only [Act.put, sA1, sA2, sA3, sA4, sA5, sA6]
        refine tkH (v := ?_) 12 rfl ?_ ?_; rotate_left 1
        · intro wq hSw; (try dsimp only at hSw); go_simp; try (with_reducible rfl)
        try simp only [Act.put, sA1, sA2, sA3, sA4, sA5, sA6]
        refine tkH (v := ?_) 13 rfl ?_ ?_; rotate_left 1
        · intro wq hSw; (try dsimp only at hSw); go_simp; try (with_reducible rfl)
        try simp only [Act.put, sA1, sA2, sA3, sA4, sA5, sA6]
        refine tkH (v := ?_) 14 rfl ?_ ?_; rotate_left 1
        · intro wq hSw; (try dsimp only at hSw); go_simp; try (with_reducible rfl)
        try simp only [Act.put, sA1, sA2, sA3, sA4, sA5, sA6]
        refine wpAnyH_ready (rs := [15]) (by kernel_rfl) (by simp) ?_
        refine AllReadyH.cons (o := _) rfl (fun K hK => ?_) AllReadyH.nil
        go_simp
        refine (LN.out _ HBb.out.drew).mono ?_; clear d0 d1; rintro e w3 ⟨rfl, hb3⟩; have HB3 := hidIt (ext_trans (Below.drew (Below.refl wb.heap.size wb)) hb3); clear hb3; obtain ⟨d0, d1⟩ := HP.out w3 HB3.out; try dsimp only
        refine hK.out _ _ ?_ (fun hHeld => ?_)
        · (try simp only [World.cell?_drew]); exact ⟨d0, d1⟩
        clear hK K
        try simp only [Act.put, sA1, sA2, sA3, sA4, sA5, sA6]
        refine tkH (v := ?_) 16 rfl ?_ ?_; rotate_left 1
        · intro wq hSw; (try dsimp only at hSw); go_simp; try (with_reducible rfl)
        try simp only [Act.put, sA1, sA2, sA3, sA4, sA5, sA6]
        refine tkH (v := ?_) 17 rfl ?_ ?_; rotate_left 1
        · intro wq hSw; (try dsimp only at hSw); go_simp; try (with_reducible rfl)
        try simp only [Act.put, sA1, sA2, sA3, sA4, sA5, sA6]
        refine wpAnyH_done (by kernel_rfl) ?_ _
        go_wp2_with fail
        go_ret
        exact ⟨ret_int HAN.out.symm, HBb.out.trans (HB3.out.mono HBb.out.size)⟩
      · have HNX := hidIt (show rg n 0 es = rg n et (es.drop (j + 1)) by
          rw [HR.out, HD.out, rg]
          simp only
          rw [decide_eq_true (show least ≤ ef ∧ ef ≤ et ∧ et ≤ n by omega), Bool.true_and])
        refine wp_region_held_drew (S := fun w' => w'.cell? ⟨wr.heap.size, 0, none⟩ = some (.int .i64 ef) ∧ w'.cell? ⟨wr.heap.size, 1, none⟩ = some (.int .i64 et)) (by kernel_rfl) (⟨d0, d1⟩) (fun hHeld => ?_)
        refine tkH (v := ?_) 0 rfl ?_ ?_; rotate_left 1
        · intro wq hSw; (try dsimp only at hSw); go_simp; try (with_reducible rfl)
        try simp only [Act.put, sA1, sA3, sA4, sA5, sA6]
        refine tkH (v := ?_) 1 rfl ?_ ?_; rotate_left 1
        · intro wq hSw; (try dsimp only at hSw); go_simp; try (with_reducible rfl)
        try simp only [Act.put, sA1, sA2, sA3, sA4, sA5, sA6]
        refine tkH (v := ?_) 2 rfl ?_ ?_; rotate_left 1
        · intro wq hSw; (try dsimp only at hSw); go_simp; try (with_reducible rfl)
        try simp only [Act.put, sA1, sA2, sA3, sA4, sA5, sA6]
        refine tkH (v := ?_) 3 rfl ?_ ?_; rotate_left 1
        · intro wq hSw; (try dsimp only at hSw); go_simp; try (with_reducible rfl)
        try simp only [Act.put, sA1, sA2, sA3, sA4, sA5, sA6]
        refine tkH (v := ?_) 4 rfl ?_ ?_; rotate_left 1
        · intro wq hSw; (try dsimp only at hSw); go_simp; try (with_reducible rfl)
        try simp only [Act.put, sA1, sA2, sA3, sA4, sA5, sA6]
        refine tkH (v := ?_) 5 rfl ?_ ?_; rotate_left 1
        · intro wq hSw; (try dsimp only at hSw); go_simp; try (with_reducible rfl)
        try simp only [Act.put, sA1, sA2, sA3, sA4, sA5, sA6]
        refine tkH (v := ?_) 6 rfl ?_ ?_; rotate_left 1
        · intro wq hSw; (try dsimp only at hSw); go_simp; try (with_reducible rfl)
        try simp only [Act.put, sA1, sA2, sA3, sA4, sA5, sA6]
        refine tkH (v := ?_) 7 rfl ?_ ?_; rotate_left 1
        · intro wq hSw; (try dsimp only at hSw); go_simp; try (with_reducible rfl)
        try simp only [Act.put, sA1, sA2, sA3, sA4, sA5, sA6]
        refine tkH (v := ?_) 8 rfl ?_ ?_; rotate_left 1
        · intro wq hSw; (try dsimp only at hSw); go_simp; try (with_reducible rfl)
        try simp only [Act.put, sA1, sA2, sA3, sA4, sA5, sA6]
        refine tkH (v := ?_) 9 rfl ?_ ?_; rotate_left 1
        · intro wq hSw; (try dsimp only at hSw); go_simp; try (with_reducible rfl)
        try simp only [Act.put, sA1, sA2, sA3, sA4, sA5, sA6]
        refine tkH (v := ?_) 10 rfl ?_ ?_; rotate_left 1
        · intro wq hSw; (try dsimp only at hSw); go_simp; try (with_reducible rfl)
        try simp only [Act.put, sA1, sA2, sA3, sA4, sA5, sA6]
        refine tkH (v := ?_) 11 rfl ?_ ?_; rotate_left 1
        · intro wq hSw; (try dsimp only at hSw); go_simp; try (with_reducible rfl)
        try simp only [Act.put, sA1, sA2, sA3, sA4, sA5, sA6]
        refine tkH (v := ?_) 12 rfl ?_ ?_; rotate_left 1
        · intro wq hSw; (try dsimp only at hSw); go_simp; try (with_reducible rfl)
        try simp only [Act.put, sA1, sA2, sA3, sA4, sA5, sA6]
        refine tkH (v := ?_) 13 rfl ?_ ?_; rotate_left 1
        · intro wq hSw; (try dsimp only at hSw); go_simp; try (with_reducible rfl)
        try simp only [Act.put, sA1, sA2, sA3, sA4, sA5, sA6]
        refine tkH (v := ?_) 14 rfl ?_ ?_; rotate_left 1
        · intro wq hSw; (try dsimp only at hSw); go_simp; try (with_reducible rfl)
        try simp only [Act.put, sA1, sA2, sA3, sA4, sA5, sA6]
        refine wpAnyH_ready (rs := [15]) (by kernel_rfl) (by simp) ?_
        refine AllReadyH.cons (o := _) rfl (fun K hK => ?_) AllReadyH.nil
        go_simp
        refine (LN.out _ HBb.out.drew).mono ?_; clear d0 d1; rintro e w3 ⟨rfl, hb3⟩; have HB3 := hidIt (ext_trans (Below.drew (Below.refl wb.heap.size wb)) hb3); clear hb3; obtain ⟨d0, d1⟩ := HP.out w3 HB3.out; try dsimp only
        refine hK.out _ _ ?_ (fun hHeld => ?_)
        · (try simp only [World.cell?_drew]); exact ⟨d0, d1⟩
        clear hK K
        try simp only [Act.put, sA1, sA2, sA3, sA4, sA5, sA6]
        refine tkH (v := ?_) 16 rfl ?_ ?_; rotate_left 1
        · intro wq hSw; (try dsimp only at hSw); go_simp; try (with_reducible rfl)
        try simp only [Act.put, sA1, sA2, sA3, sA4, sA5, sA6]
        refine tkH (v := ?_) 17 rfl ?_ ?_; rotate_left 1
        · intro wq hSw; (try dsimp only at hSw); go_simp; try (with_reducible rfl)
        try simp only [Act.put, sA1, sA2, sA3, sA4, sA5, sA6]
        refine wpAnyH_done (by kernel_rfl) ?_ _
        go_wp2_with fail
        go_roundg (es.length - (j + 1))
        case rel => exact ⟨j + 1, et, by omega, by go_num, rfl, HNX.out, HBb.out.trans (HB3.out.mono HBb.out.size)⟩
        case measure => omega
    · have hi2 : ¬ (j : Int) < (es.length : Int) := by omega
      obtain rfl : j = es.length := by omega
      have HAN := hidIt (show ckA enc lim n es = cpA enc lim es by rw [HA.out, HR.out, List.drop_length, rg]; rfl)
      go_wp2_with (go_at_call 89; refine (CP.out (by omega) wr HB.out).mono ?_; rintro e w3 ⟨rfl, hb3⟩; have HB3 := hidIt (ext_trans HB.out hb3); clear hb3; (try dsimp only))
      go_ret
      exact ⟨ret_int HAN.out.symm, HB3.out⟩
end Go.Proofs.YtbmelpjmpomfcaaGreat.P

namespace Go.Proofs.YtbmelpjmpomfcaaGreat.P
open Go.RowKit

def apE (l : List (Int × Int)) : Nat → List Ed → List (Int × Int)
  | p, [] => l.drop p
  | p, e :: es => (l.drop p).take (e.1.toNat - p) ++ (e.2.2.map fun a => (a, -1)) ++ apE l e.2.1.toNat es
theorem rg_cons {n least : Int} {e : Ed} {es : List Ed} : rg n least (e :: es) = true ↔ (least ≤ e.1 ∧ e.1 ≤ e.2.1 ∧ e.2.1 ≤ n) ∧ rg n e.2.1 es = true := by rw [rg, Bool.and_eq_true, decide_eq_true_eq]
theorem rg_mono {n a b : Int} (h : a ≤ b) {es : List Ed} (hr : rg n b es = true) : rg n a es = true := by
  cases es with
  | nil => rfl
  | cons e es =>
    rw [rg_cons] at hr ⊢
    exact ⟨⟨by omega, hr.1.2⟩, hr.2⟩
theorem rg_tail {n : Int} {es2 : List Ed} : ∀ (es1 : List Ed) (a : Int), rg n a (es1 ++ es2) = true → rg n a es2 = true := by
  intro es1
  induction es1 with
  | nil => intro a h; exact h
  | cons e es1 ih =>
    intro a h
    rw [List.cons_append, rg_cons] at h
    exact rg_mono (by omega) (ih e.2.1 h.2)
theorem rg_left {n : Int} {es2 : List Ed} : ∀ (es1 : List Ed) (a : Int), rg n a (es1 ++ es2) = true → rg n a es1 = true := by
  intro es1
  induction es1 with
  | nil => intro a h; rfl
  | cons e es1 ih =>
    intro a h
    rw [List.cons_append, rg_cons] at h
    rw [rg_cons]
    exact ⟨h.1, ih e.2.1 h.2⟩
theorem take_split (l : List (Int × Int)) (p f q : Nat) (h1 : p ≤ f) (h2 : f ≤ q) : (l.drop p).take (q - p) = (l.drop p).take (f - p) ++ (l.drop f).take (q - f) := by
  rw [show q - p = (f - p) + (q - f) by omega, List.take_add, List.drop_drop, show p + (f - p) = f by omega]
theorem ap_head (l : List (Int × Int)) (es : List Ed) (p f : Nat) (h1 : p ≤ f) (hr : rg l.length f es = true) : apE l p es = (l.drop p).take (f - p) ++ apE l f es := by
  cases es with
  | nil =>
    rw [apE, apE]
    conv => lhs; rw [← List.take_append_drop (f - p) (l.drop p), List.drop_drop, show p + (f - p) = f by omega]
  | cons e es =>
    rw [rg_cons] at hr
    rw [apE, apE, take_split l p f e.1.toNat h1 (by omega)]
    simp only [List.append_assoc]
theorem ap_cut (l : List (Int × Int)) (es : List Ed) (f : Nat) (h2 : f ≤ l.length) (hr : rg l.length f es = true) : (apE l 0 es).drop f = apE l f es ∧ (apE l 0 es).take f = l.take f := by
  have e := ap_head l es 0 f (Nat.zero_le _) hr
  rw [List.drop_zero, Nat.sub_zero] at e
  have hl : (l.take f).length = f := by rw [List.length_take]; omega
  rw [e]
  exact ⟨List.drop_left' hl, List.take_left' hl⟩
theorem ap_two (l : List (Int × Int)) (es2 : List Ed) : ∀ (es1 : List Ed) (p : Nat), p ≤ l.length → rg l.length p (es1 ++ es2) = true → apE (apE l 0 es2) p es1 = apE l p (es1 ++ es2) := by
  intro es1
  induction es1 with
  | nil => intro p hp hr; rw [apE, List.nil_append]; exact (ap_cut l es2 p hp hr).1
  | cons e es1 ih =>
    intro p hp hr
    rw [List.cons_append, rg_cons] at hr
    obtain ⟨⟨r1, r2, r3⟩, r4⟩ := hr
    rw [List.cons_append, apE, apE, ih e.2.1.toNat (by omega) (by rw [Int.toNat_of_nonneg (by omega)]; exact r4)]
    congr 2
    have k := ap_cut l es2 e.1.toNat (by omega) (by rw [Int.toNat_of_nonneg (by omega)]; exact rg_mono r2 (rg_tail es1 _ r4))
    have k2 : ((apE l 0 es2).take e.1.toNat).drop p = (l.take e.1.toNat).drop p := by rw [k.2]
    rw [List.drop_take, List.drop_take] at k2
    exact k2
theorem ap_len (l : List (Int × Int)) : ∀ (es : List Ed) (p : Nat), p ≤ l.length → rg l.length p es = true → (apE l p es).length ≤ l.length - p + (puts es).length := by
  intro es
  induction es with
  | nil => intro p hp _; rw [apE, List.length_drop]; exact Nat.le_add_right _ _
  | cons e es ih =>
    intro p hp hr
    rw [rg_cons] at hr
    obtain ⟨⟨r1, r2, r3⟩, r4⟩ := hr
    have i := ih e.2.1.toNat (by omega) (by rw [Int.toNat_of_nonneg (by omega)]; exact r4)
    rw [apE, List.length_append, List.length_append, List.length_take, List.length_drop, List.length_map, show puts (e :: es) = e.2.2 ++ puts es by simp [puts], List.length_append]
    omega
theorem ap_app (l b : List (Int × Int)) : ∀ (es : List Ed) (p : Nat), p ≤ l.length → rg l.length p es = true → apE (l ++ b) p es = apE l p es ++ b := by
  intro es
  induction es with
  | nil => intro p hp _; rw [apE, apE, List.drop_append_of_le_length hp]
  | cons e es ih =>
    intro p hp hr
    rw [rg_cons] at hr
    obtain ⟨⟨r1, r2, r3⟩, r4⟩ := hr
    rw [apE, apE, ih e.2.1.toNat (by omega) (by rw [Int.toNat_of_nonneg (by omega)]; exact r4), List.drop_append_of_le_length hp, List.take_append_of_le_length (by rw [List.length_drop]; omega)]
    simp only [List.append_assoc]
theorem ap_mid (a m b : List (Int × Int)) (es : List Ed) (h : rg (a ++ m).length a.length es = true) : apE (a ++ m ++ b) 0 es = a ++ apE (a ++ m) a.length es ++ b := by
  have hm : rg (a ++ m).length ((0 : Nat) : Int) es = true := rg_mono (by omega) h
  rw [ap_app (a ++ m) b es 0 (Nat.zero_le _) hm, ap_head (a ++ m) es 0 a.length (Nat.zero_le _) h, List.drop_zero, Nat.sub_zero, List.take_left' rfl]
theorem key_len {enc : Int} {L : List Int} {w : World} {ps : List PG} (h : Pcs enc L w ps) (k : Nat) : rA.key (rA.add Rs.zero (rA.su ((xsOf ps).take k))) 0 = (sh enc (ps.take k)).length := by
  have h' : Pcs enc L w (ps.take k) := fun q hq => h q (List.mem_of_mem_take hq)
  have e : (xsOf ps).take k = xsOf (ps.take k) := by simp [xsOf, List.map_take]
  have z : rA.add Rs.zero (rA.su (xsOf (ps.take k))) = rA.su (xsOf (ps.take k)) := rA.zadd _ (rA.ok _)
  rw [e, z, h'.su, sh_len]
  show (spn enc (asOf (ps.take k))).a = _
  rw [(spn_a enc _ h'.fit).1]
theorem find_span {enc : Int} {L : List Int} {w : World} {ps : List PG} (h : Pcs enc L w ps) (f t : Nat) (hft : f ≤ t) (ht : t ≤ (sh enc ps).length) :
    (sh enc (ps.take (rA.fnd 0 f Rs.zero (xsOf ps) - 1))).length ≤ f ∧ t ≤ (sh enc (ps.take (min (rA.fnd 0 ((t : Int) + 1) Rs.zero (xsOf ps)) ps.length))).length ∧ rA.fnd 0 f Rs.zero (xsOf ps) - 1 ≤ min (rA.fnd 0 ((t : Int) + 1) Rs.zero (xsOf ps)) ps.length := by
  have l1 := rA.fnd_le 0 f (xsOf ps) Rs.zero
  have l2 := rA.fnd_le 0 ((t : Int) + 1) (xsOf ps) Rs.zero
  rw [xsOf_len] at l1 l2
  have a1 : (sh enc (ps.take (rA.fnd 0 f Rs.zero (xsOf ps) - 1))).length ≤ f := by
    by_cases h0 : rA.fnd 0 f Rs.zero (xsOf ps) = 0
    · rw [h0]; simp [sh]
    · have := rA.fnd_less 0 f (xsOf ps) Rs.zero (rA.fnd 0 f Rs.zero (xsOf ps) - 1) Rs.ok_zero (by omega)
      rw [key_len h] at this
      omega
  have a2 : rA.fnd 0 ((t : Int) + 1) Rs.zero (xsOf ps) ≤ ps.length → t + 1 ≤ (sh enc (ps.take (rA.fnd 0 ((t : Int) + 1) Rs.zero (xsOf ps)))).length := fun hle => by
    have := rA.fnd_hit 0 ((t : Int) + 1) (xsOf ps) Rs.zero Rs.ok_zero (by rw [xsOf_len]; exact hle)
    rw [key_len h] at this
    omega
  refine ⟨a1, ?_, ?_⟩
  · by_cases hle : rA.fnd 0 ((t : Int) + 1) Rs.zero (xsOf ps) ≤ ps.length
    · rw [Nat.min_eq_left hle]
      have := a2 hle
      omega
    · rw [Nat.min_eq_right (by omega), List.take_length]
      exact ht
  · by_cases hle : rA.fnd 0 ((t : Int) + 1) Rs.zero (xsOf ps) ≤ ps.length
    · rw [Nat.min_eq_left hle]
      by_cases hlt : rA.fnd 0 ((t : Int) + 1) Rs.zero (xsOf ps) < rA.fnd 0 f Rs.zero (xsOf ps)
      · have k1 := rA.fnd_less 0 f (xsOf ps) Rs.zero _ Rs.ok_zero hlt
        rw [key_len h] at k1
        have k2 := a2 hle
        omega
      · omega
    · rw [Nat.min_eq_right (by omega)]
      omega
end Go.Proofs.YtbmelpjmpomfcaaGreat.P

namespace Go.Proofs.YtbmelpjmpomfcaaGreat.P
open Go.RowKit

theorem drop_of {α : Type} {l : List α} {j : Nat} {e : α} (h : l[j]? = some e) : l.drop j = e :: l.drop (j + 1) := by
  obtain ⟨hj, rfl⟩ := List.getElem?_eq_some_iff.1 h
  exact List.drop_eq_getElem_cons hj
theorem rw_step {l : List (Int × Int)} {es : List Ed} {j p : Nat} {e : Ed} (h : es[j]? = some e) (hr : rg l.length p (es.drop j) = true) :
    ∃ f t : Nat, e.1 = f ∧ e.2.1 = t ∧ p ≤ f ∧ f ≤ t ∧ t ≤ l.length ∧ rg l.length t (es.drop (j + 1)) = true ∧ apE l p (es.drop j) = (l.drop p).take (f - p) ++ (e.2.2.map fun a => (a, -1)) ++ apE l t (es.drop (j + 1)) := by
  rw [drop_of h, rg_cons] at hr
  obtain ⟨⟨h1, h2, h3⟩, h4⟩ := hr
  refine ⟨e.1.toNat, e.2.1.toNat, by omega, by omega, by omega, by omega, by omega, ?_, ?_⟩
  · rw [show ((e.2.1.toNat : Nat) : Int) = e.2.1 by omega]; exact h4
  · rw [drop_of h, apE]
structure RwJ (enc : Int) (l : List (Int × Int)) (base : Nat) (es : List Ed) (j p : Nat) (A B : List (Int × Int)) : Prop where
  left : B = l.drop p
  le : p ≤ l.length
  rg' : rg l.length p (es.drop j) = true
  all : A ++ apE l p (es.drop j) = apE l base es
  bd : ln enc (A.map Prod.fst) + ln enc (B.map Prod.fst) ≤ ln enc (l.map Prod.fst) + ln enc (puts (es.take j))
theorem puts_take_le (enc : Int) (es : List Ed) (j : Nat) : ln enc (puts (es.take j)) ≤ ln enc (puts es) := by
  have e : puts es = puts (es.take j) ++ puts (es.drop j) := by unfold puts; rw [← List.flatMap_append, List.take_append_drop]
  rw [e, ln_app]; omega
theorem ln_take_drop (enc : Int) (l : List Int) (k : Nat) : ln enc (l.take k) + ln enc (l.drop k) = ln enc l := by rw [← ln_app, List.take_append_drop]
theorem RwJ.zero {enc : Int} {l : List (Int × Int)} {base : Nat} {es : List Ed} (hb : base ≤ l.length) (hr : rg l.length base es = true) : RwJ enc l base es 0 base [] (l.drop base) :=
  ⟨rfl, hb, hr, rfl, by have := ln_take_drop enc (l.map Prod.fst) base; rw [List.map_drop]; simp [ln, puts]; unfold ln at this; omega⟩
theorem RwJ.step {enc : Int} {l : List (Int × Int)} {base : Nat} {es : List Ed} {j p : Nat} {A B : List (Int × Int)} {e : Ed} (h : RwJ enc l base es j p A B) (he : es[j]? = some e) :
    ∃ f t : Nat, e.1 = f ∧ e.2.1 = t ∧ p ≤ f ∧ f ≤ t ∧ t ≤ l.length ∧ f - p ≤ B.length ∧ t - f ≤ (B.drop (f - p)).length ∧
      ln enc ((A ++ B.take (f - p)).map Prod.fst) + ln enc ((B.drop (f - p)).map Prod.fst) ≤ ln enc (l.map Prod.fst) + ln enc (puts es) ∧
      ln enc ((A ++ B.take (f - p)).map Prod.fst) + ln enc e.2.2 ≤ ln enc (l.map Prod.fst) + ln enc (puts es) ∧
      RwJ enc l base es (j + 1) t (A ++ B.take (f - p) ++ e.2.2.map fun a => (a, -1)) ((B.drop (f - p)).drop (t - f)) := by
  obtain ⟨f, t, h1, h2, h3, h4, h5, h6, h7⟩ := rw_step he h.rg'
  have hB := h.left
  have hps := puts_succ es j e he
  have hle := puts_take_le enc es (j + 1)
  rw [hps, ln_app] at hle
  have hbd := h.bd
  have k1 := ln_take_drop enc (B.map Prod.fst) (f - p)
  have k2 := ln_take_drop enc ((B.map Prod.fst).drop (f - p)) (t - f)
  refine ⟨f, t, h1, h2, h3, h4, h5, ?_, ?_, ?_, ?_, ?_, h5, h6, ?_, ?_⟩
  · rw [hB, List.length_drop]; omega
  · rw [hB, List.drop_drop, List.length_drop]; omega
  · rw [List.map_append, ln_app, List.map_take, List.map_drop]; omega
  · rw [List.map_append, ln_app, List.map_take]; omega
  · rw [hB, List.drop_drop, List.drop_drop]; congr 1; omega
  · rw [← h.all, h7, hB]; simp only [List.append_assoc]
  · rw [hps, ln_app, List.map_append, List.map_append, ln_app, ln_app, List.map_take, List.map_drop, List.map_drop, List.map_map]
    have e2 : e.2.2.map (Prod.fst ∘ fun a => ((a, -1) : Int × Int)) = e.2.2 := by rw [show (Prod.fst ∘ fun a => ((a, -1) : Int × Int)) = id from rfl]; simp
    rw [e2]
    omega
theorem RwJ.fin {enc : Int} {l : List (Int × Int)} {base : Nat} {es : List Ed} {p : Nat} {A B : List (Int × Int)} (h : RwJ enc l base es es.length p A B) : A ++ B = apE l base es ∧ ln enc (A.map Prod.fst) + ln enc (B.map Prod.fst) ≤ ln enc (l.map Prod.fst) + ln enc (puts es) := by
  have h1 := h.all
  rw [List.drop_length, apE, ← h.left] at h1
  refine ⟨h1, ?_⟩
  have := h.bd
  rwa [List.take_length] at this
theorem ln_fst (enc : Int) (ps : List PG) : ln enc ((sh enc ps).map Prod.fst) = ln enc (asOf ps) := by rw [sh_fst]
theorem rg_last {n : Int} : ∀ (es : List Ed) (a : Int) (m : Int), rg n a es = true → (∀ e, es.getLast? = some e → e.2.1 ≤ m) → rg m a es = true := by
  intro es
  induction es with
  | nil => intro a m _ _; rfl
  | cons e es ih =>
    intro a m h hl
    rw [rg_cons] at h ⊢
    obtain ⟨⟨h1, h2, h3⟩, h4⟩ := h
    cases es with
    | nil => exact ⟨⟨h1, h2, hl e rfl⟩, rfl⟩
    | cons e2 es2 =>
      have k := ih e.2.1 m h4 (fun e' h' => hl e' (by rw [List.getLast?_cons_cons]; exact h'))
      have k' := k
      rw [rg_cons] at k'
      exact ⟨⟨h1, h2, by omega⟩, k⟩
theorem rg_head {n : Int} {es : List Ed} {e : Ed} {a b : Int} (h : rg n a es = true) (h0 : es[0]? = some e) (hb : b ≤ e.1) : rg n b es = true := by
  cases es with
  | nil => rfl
  | cons e2 es =>
    simp only [List.getElem?_cons_zero, Option.some.injEq] at h0
    subst h0
    rw [rg_cons] at h ⊢
    exact ⟨⟨hb, h.1.2⟩, h.2⟩
theorem rg_two (l : List (Int × Int)) (es1 es2 : List Ed) (h : rg l.length 0 (es1 ++ es2) = true) : rg (apE l 0 es2).length 0 es1 = true := by
  refine rg_last es1 0 _ (rg_left es1 0 h) fun e he => ?_
  obtain ⟨pre, rfl⟩ := List.getLast?_eq_some_iff.1 he
  rw [List.append_assoc] at h
  have h2 := rg_tail pre 0 h
  rw [List.cons_append, List.nil_append, rg_cons] at h2
  obtain ⟨⟨h3, h4, h5⟩, h6⟩ := h2
  have hf : ((e.2.1.toNat : Nat) : Int) = e.2.1 := by omega
  have k := (ap_cut l es2 e.2.1.toNat (by omega) (by rw [hf]; exact h6)).2
  have k2 := congrArg List.length k
  rw [List.length_take, List.length_take] at k2
  omega
theorem ap_ln (enc : Int) (l : List (Int × Int)) : ∀ (es : List Ed) (p : Nat), rg l.length p es = true → ln enc ((apE l p es).map Prod.fst) ≤ ln enc ((l.drop p).map Prod.fst) + ln enc (puts es) := by
  intro es
  induction es with
  | nil => intro p _; rw [apE]; omega
  | cons e es ih =>
    intro p h
    rw [rg_cons] at h
    obtain ⟨⟨h1, h2, h3⟩, h4⟩ := h
    have hf : ((e.2.1.toNat : Nat) : Int) = e.2.1 := by omega
    have k := ih e.2.1.toNat (by rw [hf]; exact h4)
    have hp : puts (e :: es) = e.2.2 ++ puts es := by unfold puts; simp
    have e2 : (e.2.2.map (fun a => ((a, -1) : Int × Int))).map Prod.fst = e.2.2 := by rw [List.map_map, show (Prod.fst ∘ fun a => ((a, -1) : Int × Int)) = id from rfl]; simp
    rw [apE, hp, List.map_append, List.map_append, ln_app, ln_app, ln_app, e2, List.map_take]
    have k1 := ln_take_drop enc ((l.drop p).map Prod.fst) (e.1.toNat - p)
    have k2 := ln_take_drop enc (((l.drop p).map Prod.fst).drop (e.1.toNat - p)) (e.2.1.toNat - e.1.toNat)
    have e3 : (((l.drop p).map Prod.fst).drop (e.1.toNat - p)).drop (e.2.1.toNat - e.1.toNat) = (l.drop e.2.1.toNat).map Prod.fst := by
      rw [← List.map_drop, ← List.map_drop, List.drop_drop, List.drop_drop]; congr 2; omega
    rw [e3] at k2
    omega
theorem ap_ln0 (enc : Int) (l : List (Int × Int)) (es : List Ed) (h : rg l.length 0 es = true) : ln enc ((apE l 0 es).map Prod.fst) ≤ ln enc (l.map Prod.fst) + ln enc (puts es) := by
  have := ap_ln enc l es 0 h
  rwa [List.drop_zero] at this
def RwR (enc : Int) (L : List Int) (T0 : List (Int × Int)) (w : World) (e : Ending) (w' : World) : Prop :=
  ∃ u ps', e = .returned (.agg #[.pointer u]) ∧ TT w' (.agg #[.pointer u]) (xsOf ps') ∧ Pcs enc L w' ps' ∧ sh enc ps' = T0 ∧ Below w.heap.size w w'
def RwOk (enc lim : Int) (L : List Int) (t : Nat) (ps0 : List PG) : Prop := ∀ (w : World) (u : Option Addr) (v : Value) (es : List Ed) (qs : List PG), Tx enc lim L w t ps0 → TT w (.agg #[.pointer u]) (xsOf qs) → Pcs enc L w qs → EdR w v es → es ≠ [] → rg (sh enc qs).length 0 es = true → (∀ a ∈ puts es, Cx.fits enc a = true) → ln enc (asOf qs) + ln enc (puts es) ≤ 1000000 → es.length ≤ 1000000 →
    Calls Tryz.prog 55 #[.pointer (some ⟨t, 0, none⟩), .agg #[.pointer u], v] w fun e w' => RwR enc L (apE (sh enc qs) 0 es) w e w'
theorem EdR.part {w : World} {ao : Option Addr} {cap : Nat} {es : List Ed} (h : EdR w (.slice ao es.length cap) es) (s k : Nat) (hs : s < k) (hk : k ≤ es.length) :
    ∃ b off, ao = some ⟨b, off, none⟩ ∧ EdR w (.slice (some ⟨b, off + s * 3, none⟩) (k - s) (cap - s)) ((es.drop s).take (k - s)) := by
  obtain ⟨ao', cap', e1, h1, h2, h3⟩ := h
  simp only [Value.slice.injEq, true_and] at e1
  obtain ⟨rfl, rfl⟩ := e1
  obtain ⟨b, o, rfl, hb, h4⟩ := h3 (by intro e; subst e; simp at hk; omega)
  have hl : ((es.drop s).take (k - s)).length = k - s := by rw [List.length_take, List.length_drop]; omega
  refine ⟨b, o, rfl, some ⟨b, o + s * 3, none⟩, cap - s, by rw [hl], by omega, by omega, fun _ => ⟨b, o + s * 3, rfl, hb, fun i e he => ?_⟩⟩
  have hi : i < k - s := by
    have := (List.getElem?_eq_some_iff.1 he).1
    omega
  have he' : es[s + i]? = some e := by rw [List.getElem?_take_of_lt hi, List.getElem?_drop] at he; exact he
  have := h4 (s + i) e he'
  rw [show o + s * 3 + i * 3 = o + (s + i) * 3 by omega]
  exact this
theorem rg_ends {n : Nat} : ∀ (es : List Ed) (a : Int), 0 ≤ a → rg n a es = true → ∀ e0 e1, es[0]? = some e0 → es[es.length - 1]? = some e1 → ∃ f t : Nat, e0.1 = (f : Int) ∧ e1.2.1 = (t : Int) ∧ f ≤ t ∧ t ≤ n ∧ a ≤ (f : Int) := by
  intro es
  induction es with
  | nil => intro a _ _ e0 e1 h; simp at h
  | cons e es ih =>
    intro a ha h e0 e1 h0 h1
    simp only [List.getElem?_cons_zero, Option.some.injEq] at h0
    subst h0
    rw [rg_cons] at h
    obtain ⟨⟨k1, k2, k3⟩, k4⟩ := h
    cases es with
    | nil =>
      simp at h1
      subst h1
      exact ⟨e.1.toNat, e.2.1.toNat, by omega, by omega, by omega, by omega, by omega⟩
    | cons e2 es2 =>
      have h1' : (e2 :: es2)[(e2 :: es2).length - 1]? = some e1 := by simpa using h1
      obtain ⟨f, t, q1, q2, q3, q4, q5⟩ := ih e.2.1 (by omega) k4 e2 e1 rfl h1'
      exact ⟨e.1.toNat, t, by omega, q2, by omega, q4, by omega⟩
theorem sh_three (enc : Int) (qs : List PG) (a b : Nat) (h : a ≤ b) : sh enc qs = sh enc (qs.take a) ++ sh enc ((qs.drop a).take (b - a)) ++ sh enc (qs.drop b) := by
  rw [← sh_app, ← sh_app]
  congr 1
  rw [List.append_assoc]
  conv => lhs; rw [← List.take_append_drop a qs, ← List.take_append_drop (b - a) (qs.drop a)]
  rw [List.drop_drop, Nat.add_sub_cancel' h]
theorem sh_two (enc : Int) (qs : List PG) (a b : Nat) (h : a ≤ b) : sh enc (qs.take b) = sh enc (qs.take a) ++ sh enc ((qs.drop a).take (b - a)) := by
  rw [← sh_app]
  congr 1
  rw [← List.drop_take]
  conv => lhs; rw [← List.take_append_drop a (qs.take b)]
  rw [List.take_take, Nat.min_eq_left h]
end Go.Proofs.YtbmelpjmpomfcaaGreat.P

namespace Go.Proofs.YtbmelpjmpomfcaaGreat.P
open Go.RowKit

section
variable {P : Program} (w : World)
theorem run_neq_ptr_same {tp te : TypeId} {j : TypeInfo} (a : Addr) (hp : P.underlying tp = some (.pointer te)) (hte : P.info? te = some j) :
    (binOp .neq tp (.pointer (some a)) (.pointer (some a))).run P w = .ok (.bool false) w := by
  have h : ∀ d : Nat, (Op.equalIn (d + 1) tp (.pointer (some a)) (.pointer (some a))).run P w = .ok true w := fun d => by
    simp [Op.equalIn, run_underlying hp, sizeOf, typeInfo, hte, run_sameAddr_same]
  simp only [binOp]
  simp [Op.equal, Op.maxDepth, h 9999]
theorem run_neq_ptr_other {tp te : TypeId} {j : TypeInfo} {a b : Addr} {ca cb : Array Value} {ta tb : TypeId} (hp : P.underlying tp = some (.pointer te)) (hte : P.info? te = some j) (hsz : j.size ≠ 0)
    (hne : a ≠ b) (ha : w.heap[a.block]? = some (.cells ca ta (0, 0))) (hb : w.heap[b.block]? = some (.cells cb tb (0, 0))) :
    (binOp .neq tp (.pointer (some a)) (.pointer (some b))).run P w = .ok (.bool true) w := by
  have h : ∀ d : Nat, (Op.equalIn (d + 1) tp (.pointer (some a)) (.pointer (some b))).run P w = .ok false w := fun d => by
    simp [Op.equalIn, run_underlying hp, sizeOf, typeInfo, hte, hsz, run_sameAddr_other w hne ha hb]
  simp only [binOp]
  simp [Op.equal, Op.maxDepth, h 9999]
end
theorem Tryz.size_text : (Tryz.prog.info? 116).map (fun i => i.size) = some 4 := by kernel_rfl
theorem text_info : ∃ j, Tryz.prog.info? 116 = some j ∧ j.size ≠ 0 := by
  have h := Tryz.size_text
  cases e : Tryz.prog.info? 116 with
  | none => rw [e] at h; cases h
  | some j => rw [e] at h; simp only [Option.map_some, Option.some.injEq] at h; exact ⟨j, rfl, by omega⟩
theorem Tin.same {w w' : World} (hb : ∀ b, Typ 182 w b → w'.heap[b]? = w.heap[b]?) : ∀ {t : Tr It} {u : Option Addr}, Tin w t u → Tin w' t u
  | ⟨none⟩, _, h => h
  | ⟨some (_, _, _)⟩, _, ⟨g, lv, rv, hu, hg, hl, hr⟩ => ⟨g, lv, rv, hu, by rw [hb g ⟨_, hg⟩]; exact hg, Tin.same hb hl, Tin.same hb hr⟩
theorem TT.same {w w' : World} {v : Value} {xs : List It} (h : TT w v xs) (hb : ∀ b, Typ 182 w b → w'.heap[b]? = w.heap[b]?) : TT w' v xs := by
  obtain ⟨u, t, h1, h2, h3, h4⟩ := h
  exact ⟨u, t, h1, Tin.same hb h2, h3, h4⟩
structure Sn (enc : Int) (L : List Int) (w : World) (s t : Nat) (ps : List PG) : Prop where
  ex : ∃ u, w.heap[s]? = some (.cells #[.pointer (some ⟨t, 0, none⟩), .pointer u] 150 (0, 0)) ∧ TT w (.agg #[.pointer u]) (xsOf ps)
  pc : Pcs enc L w ps
  sz : ln enc (asOf ps) ≤ 65536
theorem Sn.ext {enc : Int} {L : List Int} {w w' : World} {s t : Nat} {ps : List PG} (h : Sn enc L w s t ps) (hb : Below w.heap.size w w') : Sn enc L w' s t ps := by
  obtain ⟨u, h1, h2⟩ := h.ex
  exact ⟨⟨u, (hb.block s (Array.getElem?_eq_some_iff.1 h1).1).trans h1, h2.ext hb⟩, h.pc.ext hb, h.sz⟩
def SpR (enc : Int) (L : List Int) (w : World) (t : Nat) (ps : List PG) (e : Ending) (w' : World) : Prop := ∃ s, e = .returned (.pointer (some ⟨s, 0, none⟩)) ∧ Sn enc L w' s t ps ∧ w.heap.size ≤ s ∧ Below w.heap.size w w'
theorem Snap_any (enc lim : Int) (L : List Int) (w : World) (t : Nat) (ps : List PG) (h : Tx enc lim L w t ps) : Calls Tryz.prog 41 #[.pointer (some ⟨t, 0, none⟩)] w fun e w' => SpR enc L w t ps e w' := by
  obtain ⟨lv, u, ⟨_, _, _, c3⟩, _, ht, _⟩ := h.cells
  have FIN : Hid (SpR enc L w t ps (.returned (.pointer (some ⟨w.heap.size, 0, none⟩))) (w.alloc (.cells #[.pointer (some ⟨t, 0, none⟩), .pointer u] 150))) := ⟨_, rfl, ⟨⟨u, heap_alloc_new _ _, ht.ext (ext_alloc (Below.refl _ _) _)⟩, h.pc.ext (ext_alloc (Below.refl _ _) _), h.sz⟩, Nat.le_refl _, ext_alloc (Below.refl _ _) _⟩
  clear h ht
  go_enter Tryz.func41, Tryz.ntmps41
  go_wp2_with fail
  go_ret
  exact FIN.out
set_option maxRecDepth 100000 in
theorem Back_nil (w : World) (t : Nat) : Calls Tryz.prog 40 #[.pointer (some ⟨t, 0, none⟩), .pointer none] w fun e w' => e = .returned (.int .i64 51) ∧ Below w.heap.size w w' := by
  go_enter Tryz.func40, Tryz.ntmps40
  go_wp2_with fail
  go_ret
  exact ⟨rfl, Below.refl _ _⟩
set_option maxRecDepth 100000 in
theorem Back_other (enc : Int) (L : List Int) (w : World) (t s t' : Nat) (ps : List PG) (h : Sn enc L w s t' ps) (hne : t' ≠ t) (hT : Typ 116 w t) (hT' : Typ 116 w t') : Calls Tryz.prog 40 #[.pointer (some ⟨t, 0, none⟩), .pointer (some ⟨s, 0, none⟩)] w fun e w' => e = .returned (.int .i64 51) ∧ Below w.heap.size w w' := by
  obtain ⟨u, h1, _⟩ := h.ex
  have c0 : w.cell? ⟨s, 0, none⟩ = some (.pointer (some ⟨t', 0, none⟩)) := by rw [cell_of_row w s _ _ _ _ h1]; rfl
  obtain ⟨j, hj, hj2⟩ := text_info
  obtain ⟨ca, hca⟩ := hT'
  obtain ⟨cb, hcb⟩ := hT
  have NE := run_neq_ptr_other (P := Tryz.prog) w (a := ⟨t', 0, none⟩) (b := ⟨t, 0, none⟩) Tryz.underlying24 hj hj2 (fun e => hne (by cases e; rfl)) hca hcb
  clear h h1 hca hcb hj hne
  go_enter Tryz.func40, Tryz.ntmps40
  go_wp2_with fail
  go_ret
  exact ⟨rfl, Below.refl _ _⟩
def BkR (enc lim : Int) (L : List Int) (w : World) (t : Nat) (ps : List PG) (e : Ending) (w' : World) : Prop := e = .returned (.int .i64 0) ∧ Tx enc lim L w' t ps ∧ Kps (fun k => k = t) w w'
set_option maxRecDepth 100000 in
theorem Back_own (enc lim : Int) (L : List Int) (w : World) (t s : Nat) (ps qs : List PG) (h : Tx enc lim L w t ps) (hs : Sn enc L w s t qs) : Calls Tryz.prog 40 #[.pointer (some ⟨t, 0, none⟩), .pointer (some ⟨s, 0, none⟩)] w fun e w' => BkR enc lim L w t qs e w' := by
  obtain ⟨u, h1, h2⟩ := hs.ex
  have c0 : w.cell? ⟨s, 0, none⟩ = some (.pointer (some ⟨t, 0, none⟩)) := by rw [cell_of_row w s _ _ _ _ h1]; rfl
  have c1 : w.cell? ⟨s, 1, none⟩ = some (.pointer u) := by rw [cell_of_row w s _ _ _ _ h1]; rfl
  obtain ⟨lv, u0, k1, k2, k3⟩ := h.ex
  have d3 : w.cell? ⟨t, 3, none⟩ = some (.pointer u0) := by rw [cell_of_row w t _ _ _ _ k1]; rfl
  have df : ∀ i, w.frozen? ⟨t, i, none⟩ = false := fun i => by simp [World.frozen?, k1]
  have tl : t < w.heap.size := (Array.getElem?_eq_some_iff.1 k1).1
  have FIN : Hid (BkR enc lim L w t qs (.returned (.int .i64 0)) (w.setCell ⟨t, 3, none⟩ (.pointer u))) := by
    obtain ⟨p1, p2⟩ := set1 k1 3 (.pointer u)
    have hk : Kps (fun k => k = t) w (w.setCell ⟨t, 3, none⟩ (.pointer u)) := Kps.grown p2 fun j e _ => (Option.some.inj e).symm
    have hu := u8_kept hk (fun k e ht => by subst e; exact absurd (ht.uniq ⟨_, k1⟩) (by decide))
    refine ⟨rfl, ⟨⟨lv, u, p1, k2.same hu, ?_⟩, hs.pc.same hu, h.en, h.by', h.ll, h.l0, h.lm, hs.sz⟩, hk⟩
    exact h2.same fun b ⟨cs, hb⟩ => hk.same b (Array.getElem?_eq_some_iff.1 hb).1 (fun e => by subst e; rw [k1] at hb; simp only [Option.some.injEq, Obj.cells.injEq] at hb; exact absurd hb.2.1 (by decide))
  obtain ⟨j, hj, _⟩ := text_info
  have NE := run_neq_ptr_same (P := Tryz.prog) w ⟨t, 0, none⟩ Tryz.underlying24 hj
  clear h hs h1 h2 k1 k2 k3 hj
  go_enter Tryz.func40, Tryz.ntmps40
  go_wp2_with fail
  go_ret
  exact FIN.out
end Go.Proofs.YtbmelpjmpomfcaaGreat.P

namespace Go.Proofs.YtbmelpjmpomfcaaGreat.P
open Go.RowKit

def chA (enc lim : Int) (l : List (Int × Int)) (es : List Ed) : Int := if ckA enc lim l.length es = 0 then (if lim < (ln enc ((apE l 0 es).map Prod.fst) : Int) then 50 else 0) else ckA enc lim l.length es
def chT (enc lim : Int) (l : List (Int × Int)) (es : List Ed) : List (Int × Int) := if chA enc lim l es = 0 then apE l 0 es else l
def ChR (enc lim : Int) (L : List Int) (t : Nat) (ps : List PG) (es : List Ed) (w : World) (e : Ending) (w' : World) : Prop :=
  e = .returned (.int .i64 (chA enc lim (sh enc ps) es)) ∧ ∃ ps', Tx enc lim L w' t ps' ∧ sh enc ps' = chT enc lim (sh enc ps) es ∧ Kps (fun k => k = t) w w'
theorem ck_zero {enc lim : Int} {n : Nat} {es : List Ed} (h : ckA enc lim n es = 0) : es.length ≤ 70000 ∧ rg n 0 es = true ∧ (∀ a ∈ puts es, Cx.fits enc a = true) ∧ (ln enc (puts es) : Int) ≤ lim := by
  unfold ckA at h
  split at h
  · cases h
  · split at h
    · unfold cpA at h
      split at h
      · split at h
        · cases h
        · exact ⟨by omega, by assumption, by assumption, by omega⟩
      · cases h
    · cases h
def ChJ (enc : Int) (L : List Int) (l : List (Int × Int)) (es : List Ed) (b : Nat) (w : World) (k : Nat) (wr : World) : Prop :=
  ∃ u qs, wr.heap[b]? = some (.cells #[.pointer u] 114 (0, 0)) ∧ TT wr (.agg #[.pointer u]) (xsOf qs) ∧ Pcs enc L wr qs ∧ sh enc qs = apE l 0 (es.drop k) ∧ Below w.heap.size w wr
theorem ChJ.bd {enc : Int} {l : List (Int × Int)} {es : List Ed} {k : Nat} {qs : List PG} (h : sh enc qs = apE l 0 (es.drop k)) (hr : rg l.length 0 es = true) : ln enc (asOf qs) ≤ ln enc (l.map Prod.fst) + ln enc (puts (es.drop k)) := by
  have hr' : rg l.length 0 (es.drop k) = true := rg_tail (es.take k) 0 (by rw [List.take_append_drop]; exact hr)
  have := ap_ln0 enc l (es.drop k) hr'
  rw [← h, sh_fst] at this
  exact this
theorem puts_drop (enc : Int) (es : List Ed) (s k : Nat) (h : s ≤ k) : ln enc (puts ((es.drop s).take (k - s))) + ln enc (puts (es.drop k)) ≤ ln enc (puts es) ∧ es.drop s = (es.drop s).take (k - s) ++ es.drop k := by
  have e1 : es.drop s = (es.drop s).take (k - s) ++ es.drop k := by
    conv => lhs; rw [← List.take_append_drop (k - s) (es.drop s)]
    rw [List.drop_drop, Nat.add_sub_cancel' h]
  refine ⟨?_, e1⟩
  have e : puts es = puts (es.take s) ++ (puts ((es.drop s).take (k - s)) ++ puts (es.drop k)) := by
    unfold puts
    rw [← List.flatMap_append, ← List.flatMap_append, ← e1, List.take_append_drop]
  rw [e, ln_app, ln_app]
  omega
theorem ChJ.next {enc : Int} {l : List (Int × Int)} {es : List Ed} {s k : Nat} {qs : List PG} (h : sh enc qs = apE l 0 (es.drop k)) (hr : rg l.length 0 es = true) (hsk : s ≤ k) :
    rg (sh enc qs).length 0 ((es.drop s).take (k - s)) = true ∧ apE (sh enc qs) 0 ((es.drop s).take (k - s)) = apE l 0 (es.drop s) := by
  have e1 := (puts_drop enc es s k hsk).2
  have hr' : rg l.length 0 (es.drop s) = true := rg_tail (es.take s) 0 (by rw [List.take_append_drop]; exact hr)
  rw [e1] at hr'
  rw [h]
  exact ⟨rg_two l _ _ hr', by rw [ap_two l (es.drop k) ((es.drop s).take (k - s)) 0 (Nat.zero_le _) hr', ← e1]⟩

set_option maxRecDepth 100000 in
set_option maxHeartbeats 4000000 in
theorem Change_of (enc lim : Int) (L : List Int) (w : World) (t : Nat) (ps : List PG) (v : Value) (es : List Ed) (h : Tx enc lim L w t ps) (hE : EdR w v es) (hl : es.length ≤ 70000 → (puts es).length ≤ 2305843009213693951) (RW : RwOk enc lim L t ps) :
    Calls Tryz.prog 19 #[.pointer (some ⟨t, 0, none⟩), v] w fun e w' => ChR enc lim L t ps es w e w' := by
  have CK := hidIt (check_any enc lim L w t ps v es h hE hl)
  have HT := hidIt h
  obtain ⟨ao, cap, rfl, h1, h2, h3⟩ := id hE
  have HE := hidIt hE
  have HRW := hidIt RW
  clear RW hE h3 h
  obtain ⟨c, hc⟩ : ∃ c, c = ckA enc lim (sh enc ps).length es := ⟨_, rfl⟩
  rw [← hc] at CK
  by_cases hc0 : c = 0
  · subst hc0
    have HCK := hidIt (ck_zero hc.symm)
    have HC := hidIt hc.symm
    clear hc
    go_enter Tryz.func19, Tryz.ntmps19
    go_upto_block 0 with (go_at_call 54; refine CK.out.mono ?_; rintro e w1 ⟨rfl, hb1⟩; have HB1 := hidIt hb1; clear hb1; obtain ⟨lv, u, ⟨_, _, _, c3⟩, _, htt, htl⟩ := (HT.out.ext HB1.out).cells; have HTT := hidIt htt; clear htt; (try dsimp only))
    obtain ⟨w2, hw2, kb, hb2⟩ : ∃ w2, w2 = w1.alloc (.cells #[.pointer u] 114) ∧ w2.heap[w1.heap.size]? = some (.cells #[.pointer u] 114 (0, 0)) ∧ Below w1.heap.size w1 w2 := ⟨_, rfl, heap_alloc_new _ _, ext_alloc (Below.refl _ _) _⟩
    rw [← hw2]
    clear hw2 c3
    have HB2 := hidIt (ext_trans HB1.out hb2)
    have hlen : es.length ≤ 70000 := HCK.out.1
    have HRG := hidIt HCK.out.2.1
    obtain ⟨b, hb⟩ : ∃ b, b = w1.heap.size := ⟨_, rfl⟩
    have HWB := hidIt (show w.heap.size ≤ b by rw [hb]; exact HB1.out.size)
    rw [← hb] at kb ⊢
    have HJ0 : Hid (ChJ enc L (sh enc ps) es b w es.length w2) := ⟨u, ps, kb, HTT.out.ext hb2, HT.out.pc.ext HB2.out, by rw [List.drop_length, apE, List.drop_zero], HB2.out⟩
    clear kb hb2 hb HTT HB1
    go_wp2_with fail
    go_loopg [7] es.length (fun gk p wr => p = .int .i64 (gk : Nat) ∧ gk ≤ es.length ∧ Hid (ChJ enc L (sh enc ps) es b w gk wr))
    case atStart => exact ⟨rfl, Nat.le_refl _, HJ0.out⟩
    case round =>
      obtain ⟨rfl, hgn, HI⟩ := hrel
      obtain ⟨wo, rfl⟩ : ∃ wo, wo = wr := ⟨_, rfl⟩
      obtain ⟨u1, qs, kb, htt, hpc, hsh, hbw⟩ := HI.out
      have HKB := hidIt kb
      have HTQ := hidIt htt
      have HPQ := hidIt hpc
      have HSQ := hidIt hsh
      have HBW := hidIt hbw
      have HCB : Hid (∀ w', Below wo.heap.size wo w' → w'.cell? ⟨b, 0, none⟩ = some (.pointer u1) ∧ (∀ i, w'.frozen? ⟨b, i, none⟩ = false) ∧ w'.heap[b]? = some (.cells #[.pointer u1] 114 (0, 0))) := fun w' hb => by
        have e := (hb.block b (Array.getElem?_eq_some_iff.1 HKB.out).1).trans HKB.out
        exact ⟨by rw [cell_of_row w' _ _ _ _ _ e]; rfl, fun i => by simp [World.frozen?, e], e⟩
      clear kb htt hpc hsh hbw HI
      by_cases h0 : 0 < gk
      · have h0' : (0 : Int) < (gk : Int) := by omega
        obtain ⟨k, rfl⟩ : ∃ k, gk = k + 1 := ⟨gk - 1, by omega⟩
        have hwk : IntKind.i64.wrap (k : Int) = (k : Int) := by rw [IntKind.wrap_i64]; omega
        obtain ⟨eb, eo, rfl, HEP⟩ : ∃ eb eo, ao = some ⟨eb, eo, none⟩ ∧ Hid (∀ s, s < k + 1 → EdR w (.slice (some ⟨eb, eo + s * 3, none⟩) (k + 1 - s) (cap - s)) ((es.drop s).take (k + 1 - s))) := by
          obtain ⟨eb, eo, e1, _⟩ := HE.out.part k (k + 1) (by omega) hgn
          refine ⟨eb, eo, e1, fun s hs => ?_⟩
          obtain ⟨eb', eo', e2, e3⟩ := HE.out.part s (k + 1) hs hgn
          rw [e1] at e2
          cases e2
          exact e3
        go_upto_block 2 with fail
        go_cut [8] from 25 to 43 (fun p wF => ∃ s : Nat, p = .int .i64 (s : Nat) ∧ s ≤ k ∧ Hid (Below wo.heap.size wo wF))
        case first =>
          go_wp2_with fail
          go_loopg [8] k (fun s p wr2 => p = .int .i64 (s : Nat) ∧ s ≤ k ∧ Hid (Below wo.heap.size wo wr2))
          case atStart => exact ⟨rfl, Nat.le_refl _, Below.refl _ _⟩
          case round =>
            obtain ⟨rfl, hs, HBi⟩ := hrel
            by_cases hs0 : 0 < gk
            · obtain ⟨m, rfl⟩ : ∃ m, gk = m + 1 := ⟨gk - 1, by omega⟩
              obtain ⟨e0, he0⟩ : ∃ e, es[m + 1]? = some e := ⟨_, List.getElem?_eq_getElem (by omega)⟩
              obtain ⟨e1, he1⟩ : ∃ e, es[m]? = some e := ⟨_, List.getElem?_eq_getElem (by omega)⟩
              have hBw := ext_trans HBW.out HBi.out
              obtain ⟨d0, d1⟩ : wr.cell? ⟨eb, eo + (m + 1) * 3, none⟩ = some (.int .i64 e0.1) ∧ wr.cell? ⟨eb, eo + m * 3 + 1, none⟩ = some (.int .i64 e1.2.1) := by
                obtain ⟨ao', cap', q1, _, _, q5⟩ := HE.out
                simp only [Value.slice.injEq] at q1
                obtain ⟨rfl, _, _⟩ := q1
                obtain ⟨b', o', k1, k2, k3⟩ := q5 (by intro hn; subst hn; simp at he0)
                cases k1
                exact ⟨(hBw.cell (p := ⟨eb, _, none⟩) k2).trans (k3 _ _ he0).1, (hBw.cell (p := ⟨eb, _, none⟩) k2).trans (k3 _ _ he1).2.1⟩
              obtain ⟨a, ha⟩ : ∃ a, a = e0.1 := ⟨_, rfl⟩
              obtain ⟨c, hc⟩ : ∃ c, c = e1.2.1 := ⟨_, rfl⟩
              rw [← ha] at d0
              rw [← hc] at d1
              clear ha hc he0 he1 hBw
              have hwm : IntKind.i64.wrap (m : Int) = (m : Int) := by rw [IntKind.wrap_i64]; omega
              have hm1 : (m : Int) < (es.length : Int) := by omega
              have hm2 : (m : Int) + 1 < (es.length : Int) := by omega
              have hm3 : (0 : Int) < (m : Int) + 1 := by omega
              have hm4 : (0 : Int) ≤ (m : Int) + 1 := by omega
              go_upto_region 8 with fail
              by_cases hfar : IntKind.i64.wrap (a - c) ≤ 1024
              · skip
                refine wp_region_held_drew (S := fun w'' => w''.cell? ⟨eb, eo + (m + 1) * 3, none⟩ = some (.int .i64 a) ∧ w''.cell? ⟨eb, eo + m * 3 + 1, none⟩ = some (.int .i64 c)) (by kernel_rfl) (⟨d0, d1⟩) (fun hHeld => ?_)
                refine tkH (v := ?_) 0 rfl ?_ ?_; rotate_left 1
                · intro wq hSw; (try dsimp only at hSw); go_simp; try (with_reducible rfl)
                try simp only [Act.put, sA1, sA3, sA4, sA5, sA6]
                refine tkH (v := ?_) 1 rfl ?_ ?_; rotate_left 1
                · intro wq hSw; (try dsimp only at hSw); go_simp; try (with_reducible rfl)
                try simp only [Act.put, sA1, sA2, sA3, sA4, sA5, sA6]
                refine tkH (v := ?_) 2 rfl ?_ ?_; rotate_left 1
                · intro wq hSw; (try dsimp only at hSw); go_simp; try (with_reducible rfl)
                try simp only [Act.put, sA1, sA2, sA3, sA4, sA5, sA6]
                refine tkH (v := ?_) 3 rfl ?_ ?_; rotate_left 1
                · intro wq hSw; (try dsimp only at hSw); go_simp; try (with_reducible rfl)
                try simp only [Act.put, sA1, sA2, sA3, sA4, sA5, sA6]
                refine tkH (v := ?_) 4 rfl ?_ ?_; rotate_left 1
                · intro wq hSw; (try dsimp only at hSw); go_simp; try (with_reducible rfl)
                try simp only [Act.put, sA1, sA2, sA3, sA4, sA5, sA6]
                refine tkH (v := ?_) 5 rfl ?_ ?_; rotate_left 1
                · intro wq hSw; (try dsimp only at hSw); go_simp; try (with_reducible rfl)
                try simp only [Act.put, sA1, sA2, sA3, sA4, sA5, sA6]
                refine tkH (v := ?_) 6 rfl ?_ ?_; rotate_left 1
                · intro wq hSw; (try dsimp only at hSw); go_simp; try (with_reducible rfl)
                try simp only [Act.put, sA1, sA2, sA3, sA4, sA5, sA6]
                refine tkH (v := ?_) 7 rfl ?_ ?_; rotate_left 1
                · intro wq hSw; (try dsimp only at hSw); go_simp; try (with_reducible rfl)
                try simp only [Act.put, sA1, sA2, sA3, sA4, sA5, sA6]
                refine tkH (v := ?_) 8 rfl ?_ ?_; rotate_left 1
                · intro wq hSw; (try dsimp only at hSw); go_simp; try (with_reducible rfl)
                try simp only [Act.put, sA1, sA2, sA3, sA4, sA5, sA6]
                refine tkH (v := ?_) 9 rfl ?_ ?_; rotate_left 1
                · intro wq hSw; (try dsimp only at hSw); go_simp; try (with_reducible rfl)
                try simp only [Act.put, sA1, sA2, sA3, sA4, sA5, sA6]
                refine tkH (v := ?_) 10 rfl ?_ ?_; rotate_left 1
                · intro wq hSw; (try dsimp only at hSw); go_simp; try (with_reducible rfl)
                try simp only [Act.put, sA1, sA2, sA3, sA4, sA5, sA6]
                refine tkH (v := ?_) 11 rfl ?_ ?_; rotate_left 1
                · intro wq hSw; (try dsimp only at hSw); go_simp; try (with_reducible rfl)
                try simp only [Act.put, sA1, sA2, sA3, sA4, sA5, sA6]
                refine tkH (v := ?_) 12 rfl ?_ ?_; rotate_left 1
                · intro wq hSw; (try dsimp only at hSw); go_simp; try (with_reducible rfl)
                try simp only [Act.put, sA1, sA2, sA3, sA4, sA5, sA6]
                refine tkH (v := ?_) 13 rfl ?_ ?_; rotate_left 1
                · intro wq hSw; (try dsimp only at hSw); go_simp; try (with_reducible rfl)
                try simp only [Act.put, sA1, sA2, sA3, sA4, sA5, sA6]
                refine tkH (v := ?_) 14 rfl ?_ ?_; rotate_left 1
                · intro wq hSw; (try dsimp only at hSw); go_simp; try (with_reducible rfl)
                try simp only [Act.put, sA1, sA2, sA3, sA4, sA5, sA6]
                refine tkH (v := ?_) 15 rfl ?_ ?_; rotate_left 1
                · intro wq hSw; (try dsimp only at hSw); go_simp; try (with_reducible rfl)
                try simp only [Act.put, sA1, sA2, sA3, sA4, sA5, sA6]
                refine tkH (v := ?_) 16 rfl ?_ ?_; rotate_left 1
                · intro wq hSw; (try dsimp only at hSw); go_simp; try (with_reducible rfl)
                try simp only [Act.put, sA1, sA2, sA3, sA4, sA5, sA6]
                refine wpAnyH_done (by kernel_rfl) ?_ _
                go_wp2_with fail
                go_roundg m
                case rel => exact ⟨by go_num, by omega, HBi.out.drew⟩
                case measure => omega
              · skip
                refine wp_region_held_drew (S := fun w'' => w''.cell? ⟨eb, eo + (m + 1) * 3, none⟩ = some (.int .i64 a) ∧ w''.cell? ⟨eb, eo + m * 3 + 1, none⟩ = some (.int .i64 c)) (by kernel_rfl) (⟨d0, d1⟩) (fun hHeld => ?_)
                refine tkH (v := ?_) 0 rfl ?_ ?_; rotate_left 1
                · intro wq hSw; (try dsimp only at hSw); go_simp; try (with_reducible rfl)
                try simp only [Act.put, sA1, sA3, sA4, sA5, sA6]
                refine tkH (v := ?_) 1 rfl ?_ ?_; rotate_left 1
                · intro wq hSw; (try dsimp only at hSw); go_simp; try (with_reducible rfl)
                try simp only [Act.put, sA1, sA2, sA3, sA4, sA5, sA6]
                refine tkH (v := ?_) 2 rfl ?_ ?_; rotate_left 1
                · intro wq hSw; (try dsimp only at hSw); go_simp; try (with_reducible rfl)
                try simp only [Act.put, sA1, sA2, sA3, sA4, sA5, sA6]
                refine tkH (v := ?_) 3 rfl ?_ ?_; rotate_left 1
                · intro wq hSw; (try dsimp only at hSw); go_simp; try (with_reducible rfl)
                try simp only [Act.put, sA1, sA2, sA3, sA4, sA5, sA6]
                refine tkH (v := ?_) 4 rfl ?_ ?_; rotate_left 1
                · intro wq hSw; (try dsimp only at hSw); go_simp; try (with_reducible rfl)
                try simp only [Act.put, sA1, sA2, sA3, sA4, sA5, sA6]
                refine tkH (v := ?_) 5 rfl ?_ ?_; rotate_left 1
                · intro wq hSw; (try dsimp only at hSw); go_simp; try (with_reducible rfl)
                try simp only [Act.put, sA1, sA2, sA3, sA4, sA5, sA6]
                refine tkH (v := ?_) 6 rfl ?_ ?_; rotate_left 1
                · intro wq hSw; (try dsimp only at hSw); go_simp; try (with_reducible rfl)
                try simp only [Act.put, sA1, sA2, sA3, sA4, sA5, sA6]
                refine tkH (v := ?_) 7 rfl ?_ ?_; rotate_left 1
                · intro wq hSw; (try dsimp only at hSw); go_simp; try (with_reducible rfl)
                try simp only [Act.put, sA1, sA2, sA3, sA4, sA5, sA6]
                refine tkH (v := ?_) 8 rfl ?_ ?_; rotate_left 1
                · intro wq hSw; (try dsimp only at hSw); go_simp; try (with_reducible rfl)
                try simp only [Act.put, sA1, sA2, sA3, sA4, sA5, sA6]
                refine tkH (v := ?_) 9 rfl ?_ ?_; rotate_left 1
                · intro wq hSw; (try dsimp only at hSw); go_simp; try (with_reducible rfl)
                try simp only [Act.put, sA1, sA2, sA3, sA4, sA5, sA6]
                refine tkH (v := ?_) 10 rfl ?_ ?_; rotate_left 1
                · intro wq hSw; (try dsimp only at hSw); go_simp; try (with_reducible rfl)
                try simp only [Act.put, sA1, sA2, sA3, sA4, sA5, sA6]
                refine tkH (v := ?_) 11 rfl ?_ ?_; rotate_left 1
                · intro wq hSw; (try dsimp only at hSw); go_simp; try (with_reducible rfl)
                try simp only [Act.put, sA1, sA2, sA3, sA4, sA5, sA6]
                refine tkH (v := ?_) 12 rfl ?_ ?_; rotate_left 1
                · intro wq hSw; (try dsimp only at hSw); go_simp; try (with_reducible rfl)
                try simp only [Act.put, sA1, sA2, sA3, sA4, sA5, sA6]
                refine tkH (v := ?_) 13 rfl ?_ ?_; rotate_left 1
                · intro wq hSw; (try dsimp only at hSw); go_simp; try (with_reducible rfl)
                try simp only [Act.put, sA1, sA2, sA3, sA4, sA5, sA6]
                refine tkH (v := ?_) 14 rfl ?_ ?_; rotate_left 1
                · intro wq hSw; (try dsimp only at hSw); go_simp; try (with_reducible rfl)
                try simp only [Act.put, sA1, sA2, sA3, sA4, sA5, sA6]
                refine tkH (v := ?_) 15 rfl ?_ ?_; rotate_left 1
                · intro wq hSw; (try dsimp only at hSw); go_simp; try (with_reducible rfl)
                try simp only [Act.put, sA1, sA2, sA3, sA4, sA5, sA6]
                refine tkH (v := ?_) 16 rfl ?_ ?_; rotate_left 1
                · intro wq hSw; (try dsimp only at hSw); go_simp; try (with_reducible rfl)
                try simp only [Act.put, sA1, sA2, sA3, sA4, sA5, sA6]
                refine wpAnyH_done (by kernel_rfl) ?_ _
                go_wp2_with fail
                go_meet
                case rel => exact ⟨m + 1, by first | rfl | go_num, by omega, HBi.out.drew⟩
            · obtain rfl : gk = 0 := by omega
              go_upto_region 8 with fail
              refine wp_region_held_drew (S := fun _ => True) (by kernel_rfl) (trivial) (fun hHeld => ?_)
              refine tkH (v := ?_) 0 rfl ?_ ?_; rotate_left 1
              · intro wq hSw; (try dsimp only at hSw); go_simp; try (with_reducible rfl)
              try simp only [Act.put, sA1, sA3, sA4, sA5, sA6]
              refine tkH (v := ?_) 1 rfl ?_ ?_; rotate_left 1
              · intro wq hSw; (try dsimp only at hSw); go_simp; try (with_reducible rfl)
              try simp only [Act.put, sA1, sA2, sA3, sA4, sA5, sA6]
              refine tkH (v := ?_) 2 rfl ?_ ?_; rotate_left 1
              · intro wq hSw; (try dsimp only at hSw); go_simp; try (with_reducible rfl)
              try simp only [Act.put, sA1, sA2, sA3, sA4, sA5, sA6]
              refine wpAnyH_take (i := 3) (oi := _) (v := undef) rfl (by kernel_rfl) (by kernel_rfl) (by kernel_rfl) (fun _ _ _ h => h) (Or.inr ⟨by rfl, rfl⟩) (by assumption) ?_
              try simp only [Act.put, sA1, sA2, sA3, sA4, sA5, sA6]
              refine wpAnyH_take (i := 4) (oi := _) (v := undef) rfl (by kernel_rfl) (by kernel_rfl) (by kernel_rfl) (fun _ _ _ h => h) (Or.inr ⟨by rfl, rfl⟩) (by assumption) ?_
              try simp only [Act.put, sA1, sA2, sA3, sA4, sA5, sA6]
              refine wpAnyH_take (i := 5) (oi := _) (v := undef) rfl (by kernel_rfl) (by kernel_rfl) (by kernel_rfl) (fun _ _ _ h => h) (Or.inr ⟨by rfl, rfl⟩) (by assumption) ?_
              try simp only [Act.put, sA1, sA2, sA3, sA4, sA5, sA6]
              refine wpAnyH_take (i := 6) (oi := _) (v := undef) rfl (by kernel_rfl) (by kernel_rfl) (by kernel_rfl) (fun _ _ _ h => h) (Or.inr ⟨by rfl, rfl⟩) (by assumption) ?_
              try simp only [Act.put, sA1, sA2, sA3, sA4, sA5, sA6]
              refine wpAnyH_take (i := 7) (oi := _) (v := undef) rfl (by kernel_rfl) (by kernel_rfl) (by kernel_rfl) (fun _ _ _ h => h) (Or.inr ⟨by rfl, rfl⟩) (by assumption) ?_
              try simp only [Act.put, sA1, sA2, sA3, sA4, sA5, sA6]
              refine wpAnyH_take (i := 8) (oi := _) (v := undef) rfl (by kernel_rfl) (by kernel_rfl) (by kernel_rfl) (fun _ _ _ h => h) (Or.inr ⟨by rfl, rfl⟩) (by assumption) ?_
              try simp only [Act.put, sA1, sA2, sA3, sA4, sA5, sA6]
              refine wpAnyH_take (i := 9) (oi := _) (v := undef) rfl (by kernel_rfl) (by kernel_rfl) (by kernel_rfl) (fun _ _ _ h => h) (Or.inr ⟨by rfl, rfl⟩) (by assumption) ?_
              try simp only [Act.put, sA1, sA2, sA3, sA4, sA5, sA6]
              refine wpAnyH_take (i := 10) (oi := _) (v := undef) rfl (by kernel_rfl) (by kernel_rfl) (by kernel_rfl) (fun _ _ _ h => h) (Or.inr ⟨by rfl, rfl⟩) (by assumption) ?_
              try simp only [Act.put, sA1, sA2, sA3, sA4, sA5, sA6]
              refine wpAnyH_take (i := 11) (oi := _) (v := undef) rfl (by kernel_rfl) (by kernel_rfl) (by kernel_rfl) (fun _ _ _ h => h) (Or.inr ⟨by rfl, rfl⟩) (by assumption) ?_
              try simp only [Act.put, sA1, sA2, sA3, sA4, sA5, sA6]
              refine wpAnyH_take (i := 12) (oi := _) (v := undef) rfl (by kernel_rfl) (by kernel_rfl) (by kernel_rfl) (fun _ _ _ h => h) (Or.inr ⟨by rfl, rfl⟩) (by assumption) ?_
              try simp only [Act.put, sA1, sA2, sA3, sA4, sA5, sA6]
              refine wpAnyH_take (i := 13) (oi := _) (v := undef) rfl (by kernel_rfl) (by kernel_rfl) (by kernel_rfl) (fun _ _ _ h => h) (Or.inr ⟨by rfl, rfl⟩) (by assumption) ?_
              try simp only [Act.put, sA1, sA2, sA3, sA4, sA5, sA6]
              refine wpAnyH_take (i := 14) (oi := _) (v := undef) rfl (by kernel_rfl) (by kernel_rfl) (by kernel_rfl) (fun _ _ _ h => h) (Or.inr ⟨by rfl, rfl⟩) (by assumption) ?_
              try simp only [Act.put, sA1, sA2, sA3, sA4, sA5, sA6]
              refine wpAnyH_take (i := 15) (oi := _) (v := undef) rfl (by kernel_rfl) (by kernel_rfl) (by kernel_rfl) (fun _ _ _ h => h) (Or.inr ⟨by rfl, rfl⟩) (by assumption) ?_
              try simp only [Act.put, sA1, sA2, sA3, sA4, sA5, sA6]
              refine tkH (v := ?_) 16 rfl ?_ ?_; rotate_left 1
              · intro wq hSw; (try dsimp only at hSw); go_simp; try (with_reducible rfl)
              try simp only [Act.put, sA1, sA2, sA3, sA4, sA5, sA6]
              refine wpAnyH_done (by kernel_rfl) ?_ _
              go_wp2_with fail
              go_meet
              case rel => exact ⟨0, by first | rfl | go_num, by omega, HBi.out.drew⟩
        obtain ⟨s, rfl, hsk, HBc⟩ := hcut
        obtain ⟨v1, rfl⟩ : ∃ v1, v1 = wc := ⟨_, rfl⟩
        have hNX := ChJ.next HSQ.out HRG.out (show s ≤ k + 1 by omega)
        have hpd := (puts_drop enc es s (k + 1) (by omega)).1
        have hfit : ∀ a ∈ puts ((es.drop s).take (k + 1 - s)), Cx.fits enc a = true := fun a ha => HCK.out.2.2.1 a (by
          unfold puts at ha ⊢
          rw [List.mem_flatMap] at ha ⊢
          obtain ⟨e, he, h2⟩ := ha
          exact ⟨e, List.mem_of_mem_drop (List.mem_of_mem_take he), h2⟩)
        have hlq : ln enc (asOf qs) + ln enc (puts ((es.drop s).take (k + 1 - s))) ≤ 1000000 := by
          have h1 := ChJ.bd HSQ.out HRG.out
          have h2 := HT.out.sz
          have h3 := HT.out.lm
          have h4 := HCK.out.2.2.2
          rw [ln_fst] at h1
          omega
        have RWC : Hid (∀ w', Below wo.heap.size wo w' → Calls Tryz.prog 55 #[.pointer (some ⟨t, 0, none⟩), .agg #[.pointer u1], .slice (some ⟨eb, eo + s * 3, none⟩) (k + 1 - s) (cap - s)] w' fun e w'' => RwR enc L (apE (sh enc ps) 0 (es.drop s)) w' e w'') := fun w' hb => by
          rw [← hNX.2]
          exact HRW.out w' u1 _ _ qs (HT.out.ext (ext_trans HBW.out hb)) (HTQ.out.ext hb) (HPQ.out.ext hb) ((HEP.out s (by omega)).ext (ext_trans HBW.out hb)) (by intro e; have := congrArg List.length e; rw [List.length_take, List.length_drop] at this; simp at this; omega) hNX.1 hfit hlq (by rw [List.length_take]; omega)
        clear hNX hpd hfit hlq
        go_upto_region 10 with fail
        obtain ⟨cb, cf, _⟩ := HCB.out v1 HBc.out
        have hsl1 : s ≤ k + 1 := by omega
        have hsl2 : k + 1 ≤ cap := by omega
        have hsl3 : ¬ cap = s := by omega
        have hsl4 : (0 : Int) ≤ (k : Int) + 1 := by omega
        have hsl5 : (k : Int) + 1 ≤ (cap : Int) := by omega
        refine wp_region_held_drew (S := fun _ => True) (by kernel_rfl) (trivial) (fun hHeld => ?_)
        refine tkH (v := ?_) 0 rfl ?_ ?_; rotate_left 1
        · intro wq hSw; (try dsimp only at hSw); go_simp; try (with_reducible rfl)
        try simp only [Act.put, sA1, sA3, sA4, sA5, sA6]
        refine tkH (v := ?_) 2 rfl ?_ ?_; rotate_left 1
        · intro wq hSw; (try dsimp only at hSw); go_simp; try (with_reducible rfl)
        try simp only [Act.put, sA1, sA2, sA3, sA4, sA5, sA6]
        refine tkH (v := ?_) 3 rfl ?_ ?_; rotate_left 1
        · intro wq hSw; (try dsimp only at hSw); go_simp; try (with_reducible rfl)
        try simp only [Act.put, sA1, sA2, sA3, sA4, sA5, sA6]
        refine tkH (v := ?_) 4 rfl ?_ ?_; rotate_left 1
        · intro wq hSw; (try dsimp only at hSw); go_simp; try (with_reducible rfl)
        try simp only [Act.put, sA1, sA2, sA3, sA4, sA5, sA6]
        refine tkH (v := ?_) 5 rfl ?_ ?_; rotate_left 1
        · intro wq hSw; (try dsimp only at hSw); go_simp; try (with_reducible rfl)
        try simp only [Act.put, sA1, sA2, sA3, sA4, sA5, sA6]
        refine wpAnyH_ready (rs := [1]) (by kernel_rfl) (by simp) ?_
        refine AllReadyH.cons (o := _) rfl (fun K hK => ?_) AllReadyH.nil
        go_simp
        refine hK.out _ _ ?_ (fun hHeld => ?_)
        · trivial
        clear hK K
        try simp only [Act.put, sA1, sA2, sA3, sA4, sA5, sA6]
        refine wpAnyH_ready (rs := [6]) (by kernel_rfl) (by simp) ?_
        refine AllReadyH.cons (o := _) rfl (fun K hK => ?_) AllReadyH.nil
        go_simp
        refine (RWC.out _ HBc.out.drew).mono ?_; clear cb cf; rintro e x1 ⟨u2, qs2, rfl, ht2, hp2, hs2, hb2⟩; have HX := hidIt (And.intro ht2 (And.intro hp2 hs2)); have HBx := hidIt (ext_trans HBc.out.drew hb2); clear ht2 hp2 hs2 hb2; obtain ⟨cb, cf, _⟩ := HCB.out x1 HBx.out; try dsimp only
        refine hK.out _ _ ?_ (fun hHeld => ?_)
        · trivial
        clear hK K
        try simp only [Act.put, sA1, sA2, sA3, sA4, sA5, sA6]
        refine wpAnyH_ready (rs := [7]) (by kernel_rfl) (by simp) ?_
        refine AllReadyH.cons (o := _) rfl (fun K hK => ?_) AllReadyH.nil
        go_simp
        generalize hwN : World.setCell _ _ _ = x2; obtain ⟨p1, p2⟩ := set1 (HCB.out x1 HBx.out).2.2 0 (.pointer u2); rw [hwN] at p1 p2; have HP1 := hidIt p1; have HP2 := hidIt p2; clear p1 p2 hwN
        refine hK.out _ _ ?_ (fun hHeld => ?_)
        · trivial
        clear hK K
        try simp only [Act.put, sA1, sA2, sA3, sA4, sA5, sA6]
        refine wpAnyH_done (by kernel_rfl) ?_ _
        go_wp2_with fail
        go_roundg s
        case rel =>
          refine ⟨by first | rfl | go_num, by omega, u2, qs2, HP1.out, ?_, ?_, HX.out.2.2, ?_⟩
          · exact TT.same HX.out.1 (fun k hk => HP2.out.block k hk.lt (fun e => by cases e; exact absurd (hk.uniq ⟨_, (HCB.out x1 HBx.out).2.2⟩) (by decide)))
          · exact HX.out.2.1.same (fun k hk => HP2.out.block k hk.lt (fun e => by cases e; exact absurd (hk.uniq ⟨_, (HCB.out x1 HBx.out).2.2⟩) (by decide)))
          · exact below_put (ext_trans HBW.out HBx.out) (ext_trans HBW.out HBx.out).size HP2.out HWB.out
        case measure => omega
      · have h0' : ¬ (0 : Int) < (gk : Int) := by omega
        obtain rfl : gk = 0 := by omega
        rw [List.drop_zero] at HSQ
        obtain ⟨cb, cf, _⟩ := HCB.out wo (Below.refl _ _)
        have HTW := hidIt (HT.out.ext HBW.out)
        obtain ⟨lv2, u2, ⟨_, cl, _, c3⟩, _, _, htl2⟩ := HTW.out.cells
        have HCT : Hid (∀ w', Below wo.heap.size wo w' → w'.cell? ⟨t, 1, none⟩ = some (.int .i64 lim) ∧ w'.cell? ⟨b, 0, none⟩ = some (.pointer u1)) := fun w' hb => by
          obtain ⟨_, _, ⟨_, k1, _, _⟩, _⟩ := (HTW.out.ext hb).cells
          exact ⟨k1, (HCB.out w' hb).1⟩
        have SU : Hid (∀ w', Below wo.heap.size wo w' → Calls Tryz.prog 56 #[.agg #[.pointer u1]] w' fun e w'' => ∃ s, Hid (s = rA.su (xsOf qs)) ∧ e = .returned (.agg #[.int .i64 s.a, .int .i64 s.s, .int .i64 s.b, .bool s.lf, .bool s.cr]) ∧ Below w'.heap.size w' w'') := fun w' hb => Sum_any u1 (xsOf qs) w' (HTQ.out.ext hb)
        obtain ⟨z, hz⟩ : ∃ z, z = ln enc (asOf qs) := ⟨_, rfl⟩
        have HSS : Hid ((rA.su (xsOf qs)).s = (z : Int)) := by
          unfold Hid
          rw [HPQ.out.su, hz]
          exact (spn_a enc _ HPQ.out.fit).2
        have HZ := hidIt hz
        have HZA : Hid (ln enc ((apE (sh enc ps) 0 es).map Prod.fst) = z) := by unfold Hid; rw [← HSQ.out, hz, sh_fst]
        have fs := field_size
        clear hz
        go_upto_region 12 with fail
        by_cases hbig : lim < (z : Int)
        · have HAN := hidIt (show chA enc lim (sh enc ps) es = 50 by unfold chA; rw [HC.out, if_pos rfl, HZA.out, if_pos hbig])
          refine wp_region_held_drew (S := fun w'' => w''.cell? ⟨t, 1, none⟩ = some (.int .i64 lim) ∧ w''.cell? ⟨b, 0, none⟩ = some (.pointer u1)) (by kernel_rfl) (⟨cl, cb⟩) (fun hHeld => ?_)
          refine tkH (v := ?_) 0 rfl ?_ ?_; rotate_left 1
          · intro wq hSw; (try dsimp only at hSw); go_simp; try (with_reducible rfl)
          try simp only [Act.put, sA1, sA3, sA4, sA5, sA6]
          refine tkH (v := ?_) 3 rfl ?_ ?_; rotate_left 1
          · intro wq hSw; (try dsimp only at hSw); go_simp; try (with_reducible rfl)
          try simp only [Act.put, sA1, sA2, sA3, sA4, sA5, sA6]
          refine tkH (v := ?_) 4 rfl ?_ ?_; rotate_left 1
          · intro wq hSw; (try dsimp only at hSw); go_simp; try (with_reducible rfl)
          try simp only [Act.put, sA1, sA2, sA3, sA4, sA5, sA6]
          refine tkH (v := ?_) 5 rfl ?_ ?_; rotate_left 1
          · intro wq hSw; (try dsimp only at hSw); go_simp; try (with_reducible rfl)
          try simp only [Act.put, sA1, sA2, sA3, sA4, sA5, sA6]
          refine tkH (v := ?_) 6 rfl ?_ ?_; rotate_left 1
          · intro wq hSw; (try dsimp only at hSw); go_simp; try (with_reducible rfl)
          try simp only [Act.put, sA1, sA2, sA3, sA4, sA5, sA6]
          refine wpAnyH_ready (rs := [1]) (by kernel_rfl) (by simp) ?_
          refine AllReadyH.cons (o := _) rfl (fun K hK => ?_) AllReadyH.nil
          go_simp
          refine (SU.out _ (Below.drew (Below.refl _ _))).mono ?_; clear cb cf cl c3; rintro e x1 ⟨⟨sa, ss, sb, sf, sc⟩, hs, rfl, hb2⟩; obtain rfl : ss = (z : Int) := (congrArg Rs.s hs.out).trans HSS.out; have HBx : Hid (Below wo.heap.size wo x1) := ext_trans (Below.drew (Below.refl _ _)) hb2; clear hs hb2; obtain ⟨cl, cb⟩ := HCT.out x1 HBx.out; try dsimp only
          refine hK.out _ _ ?_ (fun hHeld => ?_)
          · (try simp only [World.cell?_drew]); exact ⟨cl, cb⟩
          clear hK K
          try simp only [Act.put, sA1, sA2, sA3, sA4, sA5, sA6]
          refine tkH (v := ?_) 2 rfl ?_ ?_; rotate_left 1
          · intro wq hSw; (try dsimp only at hSw); go_simp; try (with_reducible rfl)
          try simp only [Act.put, sA1, sA2, sA3, sA4, sA5, sA6]
          refine tkH (v := ?_) 7 rfl ?_ ?_; rotate_left 1
          · intro wq hSw; (try dsimp only at hSw); go_simp; try (with_reducible rfl)
          try simp only [Act.put, sA1, sA2, sA3, sA4, sA5, sA6]
          refine wpAnyH_done (by kernel_rfl) ?_ _
          go_wp2_with fail
          go_ret
          exact ⟨ret_int HAN.out.symm, ps, HTW.out.ext HBx.out, by unfold chT; rw [HAN.out]; rfl, Kps.of_below _ (ext_trans HBW.out HBx.out)⟩
        · have HAN := hidIt (show chA enc lim (sh enc ps) es = 0 by unfold chA; rw [HC.out, if_pos rfl, HZA.out, if_neg hbig])
          refine wp_region_held_drew (S := fun w'' => w''.cell? ⟨t, 1, none⟩ = some (.int .i64 lim) ∧ w''.cell? ⟨b, 0, none⟩ = some (.pointer u1)) (by kernel_rfl) (⟨cl, cb⟩) (fun hHeld => ?_)
          refine tkH (v := ?_) 0 rfl ?_ ?_; rotate_left 1
          · intro wq hSw; (try dsimp only at hSw); go_simp; try (with_reducible rfl)
          try simp only [Act.put, sA1, sA3, sA4, sA5, sA6]
          refine tkH (v := ?_) 3 rfl ?_ ?_; rotate_left 1
          · intro wq hSw; (try dsimp only at hSw); go_simp; try (with_reducible rfl)
          try simp only [Act.put, sA1, sA2, sA3, sA4, sA5, sA6]
          refine tkH (v := ?_) 4 rfl ?_ ?_; rotate_left 1
          · intro wq hSw; (try dsimp only at hSw); go_simp; try (with_reducible rfl)
          try simp only [Act.put, sA1, sA2, sA3, sA4, sA5, sA6]
          refine tkH (v := ?_) 5 rfl ?_ ?_; rotate_left 1
          · intro wq hSw; (try dsimp only at hSw); go_simp; try (with_reducible rfl)
          try simp only [Act.put, sA1, sA2, sA3, sA4, sA5, sA6]
          refine tkH (v := ?_) 6 rfl ?_ ?_; rotate_left 1
          · intro wq hSw; (try dsimp only at hSw); go_simp; try (with_reducible rfl)
          try simp only [Act.put, sA1, sA2, sA3, sA4, sA5, sA6]
          refine wpAnyH_ready (rs := [1]) (by kernel_rfl) (by simp) ?_
          refine AllReadyH.cons (o := _) rfl (fun K hK => ?_) AllReadyH.nil
          go_simp
          refine (SU.out _ (Below.drew (Below.refl _ _))).mono ?_; clear cb cf cl c3; rintro e x1 ⟨⟨sa, ss, sb, sf, sc⟩, hs, rfl, hb2⟩; obtain rfl : ss = (z : Int) := (congrArg Rs.s hs.out).trans HSS.out; have HBx : Hid (Below wo.heap.size wo x1) := ext_trans (Below.drew (Below.refl _ _)) hb2; clear hs hb2; obtain ⟨cl, cb⟩ := HCT.out x1 HBx.out; try dsimp only
          refine hK.out _ _ ?_ (fun hHeld => ?_)
          · (try simp only [World.cell?_drew]); exact ⟨cl, cb⟩
          clear hK K
          try simp only [Act.put, sA1, sA2, sA3, sA4, sA5, sA6]
          refine tkH (v := ?_) 2 rfl ?_ ?_; rotate_left 1
          · intro wq hSw; (try dsimp only at hSw); go_simp; try (with_reducible rfl)
          try simp only [Act.put, sA1, sA2, sA3, sA4, sA5, sA6]
          refine tkH (v := ?_) 7 rfl ?_ ?_; rotate_left 1
          · intro wq hSw; (try dsimp only at hSw); go_simp; try (with_reducible rfl)
          try simp only [Act.put, sA1, sA2, sA3, sA4, sA5, sA6]
          refine wpAnyH_done (by kernel_rfl) ?_ _
          obtain ⟨lv3, u3, hblk, hld3, _⟩ := (HTW.out.ext HBx.out).ex
          have HBK := hidIt hblk
          have HLD3 := hidIt hld3
          have cf3 : ∀ i, x1.frozen? ⟨t, i, none⟩ = false := fun i => by simp [World.frozen?, hblk]
          have cc3 : x1.cell? ⟨t, 3, none⟩ = some (.pointer u3) := by rw [cell_of_row x1 _ _ _ _ _ hblk]; rfl
          clear hblk hld3
          go_wp2_with fail
          go_ret
          generalize hwz : World.setCell _ _ _ = zz
          obtain ⟨p1, p2⟩ := set1 HBK.out 3 (.pointer u1)
          rw [hwz] at p1 p2
          have ez : ∀ T, T ≠ 116 → ∀ k, Typ T x1 k → zz.heap[k]? = x1.heap[k]? := fun T hT k hk => p2.block k hk.lt (fun e => by cases e; exact hT (hk.uniq ⟨_, HBK.out⟩))
          refine ⟨ret_int HAN.out.symm, qs, ⟨⟨lv3, u1, p1, HLD3.out.same (ez _ (by decide)), (HTQ.out.ext HBx.out).same (ez _ (by decide))⟩, (HPQ.out.ext HBx.out).same (ez _ (by decide)), HT.out.en, HT.out.by', HT.out.ll, HT.out.l0, HT.out.lm, ?_⟩, ?_, ?_⟩
          · have := HT.out.lm; have := HZ.out; omega
          · unfold chT; rw [HAN.out, if_pos rfl]; exact HSQ.out
          · exact (Kps.of_below (fun k => k = t) (ext_trans HBW.out HBx.out)).trans (Kps.grown p2 fun j e _ => (Option.some.inj e).symm) fun _ _ e => e
  · have HF : Hid (Ending.returned (.int .i64 c) = .returned (.int .i64 (chA enc lim (sh enc ps) es)) ∧ sh enc ps = chT enc lim (sh enc ps) es) := by
      have e : chA enc lim (sh enc ps) es = c := by unfold chA; rw [← hc, if_neg hc0]
      exact ⟨by rw [e], by unfold chT; rw [e, if_neg hc0]⟩
    have hcb : (c == 0) = false := by simpa using hc0
    clear hc
    go_enter Tryz.func19, Tryz.ntmps19
    go_wp2_with (go_at_call 54; refine CK.out.mono ?_; rintro e w1 ⟨rfl, hb1⟩; have HB1 := hidIt hb1; clear hb1; (try dsimp only))
    go_ret
    exact ⟨HF.out.1, ps, HT.out.ext HB1.out, HF.out.2, Kps.of_below _ HB1.out⟩
end Go.Proofs.YtbmelpjmpomfcaaGreat.P
