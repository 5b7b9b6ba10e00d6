import Derived.Test.YtbmelpjmpomfcaaGreatJ05
namespace Go.Proofs.YtbmelpjmpomfcaaGreat.P
open Go.RowKit

def SpI (enc : Int) (x : It) (zs : List Int) (w : World) (j : Nat) (wr : World) : Prop := BlkI wr w.heap.size x ∧ BlkI wr (w.heap.size + 1) It.zero ∧ BlkI wr (w.heap.size + 2) It.zero ∧ Blk 119 wr (w.heap.size + 3) (spn enc ((Cx.dec enc zs).take j)) ∧ Below w.heap.size w wr
theorem SpI.ext {enc : Int} {x : It} {zs : List Int} {w wr w' : World} {j : Nat} (h : SpI enc x zs w j wr) (hb : Below wr.heap.size wr w') : SpI enc x zs w j w' := ⟨h.1.ext hb, h.2.1.ext hb, h.2.2.1.ext hb, h.2.2.2.1.ext hb, ext_trans h.2.2.2.2 hb⟩
theorem BlkI.other {w w' : World} {g k : Nat} {x : It} (h : BlkI w g x) (hb : w.grownBy w' (some k)) (hk : g ≠ k) : BlkI w' g x := by unfold BlkI; rw [hb.block g h.lt (by simpa using hk)]; exact h

theorem zero_ext {W W' : World} (h : Below (W.alloc (.cells #[.slice none 0 0, .int .i64 0, .int .i64 0, .int .i64 0, .int .i64 0, .bool false, .bool false] 122)).heap.size (W.alloc (.cells #[.slice none 0 0, .int .i64 0, .int .i64 0, .int .i64 0, .int .i64 0, .bool false, .bool false] 122)) W') : BlkI W' W.heap.size It.zero := BlkI.ext (w := W.alloc (.cells #[.slice none 0 0, .int .i64 0, .int .i64 0, .int .i64 0, .int .i64 0, .bool false, .bool false] 122)) (heap_alloc_new _ _) h
theorem zero_ext_drew {W W' : World} (h : Below ((W.alloc (.cells #[.slice none 0 0, .int .i64 0, .int .i64 0, .int .i64 0, .int .i64 0, .bool false, .bool false] 122)).drew).heap.size ((W.alloc (.cells #[.slice none 0 0, .int .i64 0, .int .i64 0, .int .i64 0, .int .i64 0, .bool false, .bool false] 122)).drew) W') : BlkI W' W.heap.size It.zero := BlkI.ext (w := (W.alloc (.cells #[.slice none 0 0, .int .i64 0, .int .i64 0, .int .i64 0, .int .i64 0, .bool false, .bool false] 122)).drew) (heap_alloc_new _ _) h

set_option maxRecDepth 100000 in
set_option maxHeartbeats 4000000 in
theorem split_any (enc : Int) (he : Cx.En enc) (x : It) (zs : List Int) (n : Nat) (w : World) (hR : Rd .u8 w (.slice x.p x.n x.c) zs) (hB : Byt zs) (hl : zs.length ≤ 1152921504606846976) (hsp : x.sp = spn enc (Cx.dec enc zs)) (h0 : 0 < n) (hn : n < (Cx.dec enc zs).length) (hpl : -1 ≤ x.pl) (hpl2 : x.pl ≤ 1152921504606846976) (b o : Nat) (hp : x.p = some ⟨b, o, none⟩) (hc : zs.length ≤ x.c) :
    Calls Tryz.prog 68 #[.agg #[.slice x.p x.n x.c, .int .i64 x.pl, .int .i64 x.sp.a, .int .i64 x.sp.s, .int .i64 x.sp.b, .bool x.sp.lf, .bool x.sp.cr], .int .i64 enc, .int .i64 n] w fun e w' => ∃ hd rs : It, e = .returned (.tuple #[.agg #[.slice hd.p hd.n hd.c, .int .i64 hd.pl, .int .i64 hd.sp.a, .int .i64 hd.sp.s, .int .i64 hd.sp.b, .bool hd.sp.lf, .bool hd.sp.cr], .agg #[.slice rs.p rs.n rs.c, .int .i64 rs.pl, .int .i64 rs.sp.a, .int .i64 rs.sp.s, .int .i64 rs.sp.b, .bool rs.sp.lf, .bool rs.sp.cr]]) ∧
      Hid (hd.p = x.p ∧ hd.n = off enc zs n ∧ hd.c = off enc zs n ∧ hd.pl = x.pl ∧ hd.sp = spn enc ((Cx.dec enc zs).take n) ∧ rs.p = some ⟨b, o + off enc zs n, none⟩ ∧ rs.n = zs.length - off enc zs n ∧ rs.c = zs.length - off enc zs n ∧ rs.pl = tg x.pl (off enc zs n) ∧ rs.sp = spn enc ((Cx.dec enc zs).drop n)) ∧ Below w.heap.size w w' := by
  have hxn : x.n = zs.length := by obtain ⟨_, _, e, _⟩ := hR; simp only [Value.slice.injEq] at e; exact e.2.1
  obtain ⟨w0, hw0⟩ : ∃ w0, w0 = (((w.alloc (.cells #[.slice x.p x.n x.c, .int .i64 x.pl, .int .i64 x.sp.a, .int .i64 x.sp.s, .int .i64 x.sp.b, .bool x.sp.lf, .bool x.sp.cr] 122)).alloc (.cells #[.slice none 0 0, .int .i64 0, .int .i64 0, .int .i64 0, .int .i64 0, .bool false, .bool false] 122)).alloc (.cells #[.slice none 0 0, .int .i64 0, .int .i64 0, .int .i64 0, .int .i64 0, .bool false, .bool false] 122)).alloc (.cells #[.int .i64 0, .int .i64 0, .int .i64 0, .bool false, .bool false] 119) := ⟨_, rfl⟩
  have I0 : Hid (SpI enc x zs w 0 w0) := by
    obtain ⟨v1, hv1⟩ : ∃ v, v = w.alloc (.cells #[.slice x.p x.n x.c, .int .i64 x.pl, .int .i64 x.sp.a, .int .i64 x.sp.s, .int .i64 x.sp.b, .bool x.sp.lf, .bool x.sp.cr] 122) := ⟨_, rfl⟩
    obtain ⟨v2, hv2⟩ : ∃ v, v = v1.alloc (.cells #[.slice none 0 0, .int .i64 0, .int .i64 0, .int .i64 0, .int .i64 0, .bool false, .bool false] 122) := ⟨_, rfl⟩
    obtain ⟨v3, hv3⟩ : ∃ v, v = v2.alloc (.cells #[.slice none 0 0, .int .i64 0, .int .i64 0, .int .i64 0, .int .i64 0, .bool false, .bool false] 122) := ⟨_, rfl⟩
    rw [← hv1, ← hv2, ← hv3] at hw0
    have s1 : v1.heap.size = w.heap.size + 1 := by rw [hv1]; simp
    have s2 : v2.heap.size = w.heap.size + 2 := by rw [hv2]; simp [s1]
    have s3 : v3.heap.size = w.heap.size + 3 := by rw [hv3]; simp [s2]
    have b1 : Below w.heap.size w v1 := by rw [hv1]; exact ext_alloc (Below.refl _ _) _
    have b2 : Below v1.heap.size v1 v2 := by rw [hv2]; exact ext_alloc (Below.refl _ _) _
    have b3 : Below v2.heap.size v2 v3 := by rw [hv3]; exact ext_alloc (Below.refl _ _) _
    have b4 : Below v3.heap.size v3 w0 := by rw [hw0]; exact ext_alloc (Below.refl _ _) _
    have t1 : BlkI v1 w.heap.size x := by rw [hv1]; exact heap_alloc_new _ _
    have t2 : BlkI v2 (w.heap.size + 1) It.zero := by rw [← s1, hv2]; exact heap_alloc_new _ _
    have t3 : BlkI v3 (w.heap.size + 2) It.zero := by rw [← s2, hv3]; exact heap_alloc_new _ _
    refine ⟨((t1.ext b2).ext b3).ext b4, (t2.ext b3).ext b4, t3.ext b4, ?_, ext_trans (ext_trans (ext_trans b1 b2) b3) b4⟩
    rw [← s3, hw0]; exact heap_alloc_new _ _
  have HC : Hid (∀ j wr w', SpI enc x zs w j wr → Below wr.heap.size wr w' → (w'.cell? ⟨w.heap.size, 0, none⟩ = some (.slice x.p x.n x.c) ∧ w'.cell? ⟨w.heap.size, 1, none⟩ = some (.int .i64 x.pl) ∧ w'.cell? ⟨w.heap.size, 2, none⟩ = some (.int .i64 x.sp.a) ∧ w'.cell? ⟨w.heap.size, 3, none⟩ = some (.int .i64 x.sp.s) ∧ w'.cell? ⟨w.heap.size, 4, none⟩ = some (.int .i64 x.sp.b) ∧ w'.cell? ⟨w.heap.size, 5, none⟩ = some (.bool x.sp.lf) ∧ w'.cell? ⟨w.heap.size, 6, none⟩ = some (.bool x.sp.cr)) ∧ (w'.cell? ⟨w.heap.size + 3, 0, none⟩ = some (.int .i64 (spn enc ((Cx.dec enc zs).take j)).a) ∧ w'.cell? ⟨w.heap.size + 3, 1, none⟩ = some (.int .i64 (spn enc ((Cx.dec enc zs).take j)).s) ∧ w'.cell? ⟨w.heap.size + 3, 2, none⟩ = some (.int .i64 (spn enc ((Cx.dec enc zs).take j)).b) ∧ w'.cell? ⟨w.heap.size + 3, 3, none⟩ = some (.bool (spn enc ((Cx.dec enc zs).take j)).lf) ∧ w'.cell? ⟨w.heap.size + 3, 4, none⟩ = some (.bool (spn enc ((Cx.dec enc zs).take j)).cr)) ∧ Rd .u8 w' (.slice x.p x.n x.c) zs) := fun j wr w' h hb => by
    obtain ⟨i1, i2, i3, i4, i5⟩ := h.ext hb
    exact ⟨i1.cells.1, i4.cells.1, hR.ext i5⟩
  have ST := hidIt (off_step enc he zs hB)
  have HLE := hidIt (off_le enc he zs hB)
  have HBY := hidIt hB
  have HEN := hidIt he
  have HSP := hidIt hsp
  have HFI := hidIt (Cx.back_all enc he _ zs (Nat.le_refl _) hB).2
  have hne0 : ¬ (n : Int) = 0 := by omega
  have hne0' : ((n : Int) == 0) = false := by simp; omega
  have hdl : (Cx.dec enc zs).length ≤ zs.length := Cx.dec_len enc _ _
  have HXN := hidIt hxn
  have HPP := hidIt hp
  clear hB he hsp hR hxn hp
  go_enter Tryz.func68, Tryz.ntmps68
  go_upto_region 4 with fail
  rw [← hw0]
  clear hw0
  go_upto_block 0 with fail
  go_cut [] from 18 to 32 (fun wF => Hid (SpI enc x zs w n wF))
  case first =>
    go_wp2_with fail
    go_loopg [19] n (fun gk p wr => ∃ j : Nat, j + gk = n ∧ p = .int .i64 (j : Nat) ∧ Hid (SpI enc x zs w j wr))
    case atStart => exact ⟨0, by omega, rfl, I0.out⟩
    case round =>
      obtain ⟨j, hj, rfl, HI⟩ := hrel
      by_cases hi : j < n
      case neg =>
        have hi' : ¬ (j : Int) < (n : Int) := by omega
        obtain rfl : j = n := by omega
        go_wp2_with fail
        go_meet
        case rel => exact HI.out
      have hi' : (j : Int) < (n : Int) := by omega
      obtain ⟨q1, q, sz, hf, hq, ho, hs1, hfit, hsz⟩ := ST.out j (by omega)
      have hle := HLE.out (j + 1) (by omega)
      have hss : (spn enc ((Cx.dec enc zs).take j)).s = (off enc zs j : Nat) := (spn_as enc _ (fun a ha => HFI.out a (List.mem_of_mem_take ha))).2
      have NX : Hid (∀ w', Below wr.heap.size wr w' → Calls Tryz.prog 52 #[.int .i64 enc, .slice x.p x.n x.c, .int .i64 (spn enc ((Cx.dec enc zs).take j)).s] w' fun e w'' => e = .returned (.tuple #[.int .i64 q, .int .i64 sz]) ∧ Below w'.heap.size w' w'') := fun w' hb => by
        rw [hss]
        have := Next_any enc HEN.out _ zs (off enc zs j) w' (HC.out j wr w' HI.out hb).2.2 HBY.out q1
        rw [hf] at this
        exact this
      have SG : Hid (∀ w', Calls Tryz.prog 71 #[.int .i64 q, .int .i64 sz] w' fun e w'' => e = .returned (.agg #[.int .i64 (sg q sz).a, .int .i64 (sg q sz).s, .int .i64 (sg q sz).b, .bool (sg q sz).lf, .bool (sg q sz).cr]) ∧ Below w'.heap.size w' w'') := fun w' => single_any q sz w'
      have et : (Cx.dec enc zs).take (j + 1) = (Cx.dec enc zs).take j ++ [q] := by rw [List.take_add_one, hq]; rfl
      have AD : Hid (∀ w', Calls Tryz.prog 69 #[.agg #[.int .i64 (spn enc ((Cx.dec enc zs).take j)).a, .int .i64 (spn enc ((Cx.dec enc zs).take j)).s, .int .i64 (spn enc ((Cx.dec enc zs).take j)).b, .bool (spn enc ((Cx.dec enc zs).take j)).lf, .bool (spn enc ((Cx.dec enc zs).take j)).cr], .agg #[.int .i64 (sg q sz).a, .int .i64 (sg q sz).s, .int .i64 (sg q sz).b, .bool (sg q sz).lf, .bool (sg q sz).cr]] w' fun e w'' => ∃ r, Hid (r = spn enc ((Cx.dec enc zs).take (j + 1))) ∧ e = .returned (.agg #[.int .i64 r.a, .int .i64 r.s, .int .i64 r.b, .bool r.lf, .bool r.cr]) ∧ Below w'.heap.size w' w'') := fun w' => by
        have k1 := spn_ok enc ((Cx.dec enc zs).take j)
        have k2 := sg_ok q sz (by omega)
        have k3 := spn_as enc ((Cx.dec enc zs).take j) (fun a ha => HFI.out a (List.mem_of_mem_take ha))
        have k4 : ((Cx.dec enc zs).take j).length ≤ j := by rw [List.length_take]; omega
        have k5 : (Cx.dec enc zs).length ≤ zs.length := Cx.dec_len enc _ _
        have k6 : (spn enc ((Cx.dec enc zs).take j)).b ≤ ((Cx.dec enc zs).take j).length := spn_b enc _
        have k7 : (sg q sz).a = 1 := rfl
        have k8 : (sg q sz).s = sz := rfl
        have k9 : (sg q sz).b ≤ 1 := by unfold sg; simp only; split <;> omega
        refine (Add_any _ _ w' k1.a0 k2.a0 k1.s0 k2.s0 k1.b0 k2.b0 (by omega) (by omega) (by omega)).mono fun e w'' ⟨r, h1, h2, h3⟩ => ⟨r, ?_, h2, h3⟩
        unfold Hid
        rw [h1.out, et, spn_snoc, hsz]
      have HP : Hid (∀ w', Below wr.heap.size wr w' → w'.cell? ⟨w.heap.size, 0, none⟩ = some (.slice x.p x.n x.c) ∧ (w'.cell? ⟨w.heap.size + 3, 0, none⟩ = some (.int .i64 (spn enc ((Cx.dec enc zs).take j)).a) ∧ w'.cell? ⟨w.heap.size + 3, 1, none⟩ = some (.int .i64 (spn enc ((Cx.dec enc zs).take j)).s) ∧ w'.cell? ⟨w.heap.size + 3, 2, none⟩ = some (.int .i64 (spn enc ((Cx.dec enc zs).take j)).b) ∧ w'.cell? ⟨w.heap.size + 3, 3, none⟩ = some (.bool (spn enc ((Cx.dec enc zs).take j)).lf) ∧ w'.cell? ⟨w.heap.size + 3, 4, none⟩ = some (.bool (spn enc ((Cx.dec enc zs).take j)).cr))) := fun w' hb => by
        obtain ⟨i1, i2, i3⟩ := HC.out j wr w' HI.out hb
        exact ⟨i1.1, i2⟩
      have HZF : Hid (∀ w', Below wr.heap.size wr w' → ∀ i, w'.frozen? ⟨w.heap.size + 3, i, none⟩ = false) := fun w' hb => (HI.out.ext hb).2.2.2.1.cells.2.2.2.2
      have hzx : w.heap.size + 3 < wr.heap.size := HI.out.2.2.2.1.lt
      have HNB : Hid (¬ w.heap.size = w.heap.size + 3) := by unfold Hid; omega
      have FIN : Hid (∀ w' r, Below wr.heap.size wr w' → r = spn enc ((Cx.dec enc zs).take (j + 1)) → SpI enc x zs w (j + 1) (((((w'.setCell ⟨w.heap.size + 3, 0, none⟩ (.int .i64 r.a)).setCell ⟨w.heap.size + 3, 1, none⟩ (.int .i64 r.s)).setCell ⟨w.heap.size + 3, 2, none⟩ (.int .i64 r.b)).setCell ⟨w.heap.size + 3, 3, none⟩ (.bool r.lf)).setCell ⟨w.heap.size + 3, 4, none⟩ (.bool r.cr))) := fun w' r hb hr => by
        subst hr
        obtain ⟨i1, i2, i3, i4, i5⟩ := HI.out.ext hb
        obtain ⟨p1, p2⟩ := i4.put (spn enc ((Cx.dec enc zs).take (j + 1)))
        exact ⟨i1.other p2 (by omega), i2.other p2 (by omega), i3.other p2 (by omega), p1, below_put i5 i5.size p2 (by omega)⟩
      obtain ⟨c0, z0⟩ := HP.out wr (Below.refl _ _)
      clear hf hq ho hle hss hfit hsz et q1
      generalize spn enc ((Cx.dec enc zs).take j) = sd at NX AD HP c0 z0
      go_upto_block 1 with fail
      go_cut [] from 21 to 31 (fun wF => Hid (SpI enc x zs w (j + 1) wF))
      case first =>
        go_upto_region 6 with fail
        refine wp_region_held_drew (S := fun w'' => w''.cell? ⟨w.heap.size, 0, none⟩ = some (.slice x.p x.n x.c)) (by kernel_rfl) (by first | exact c0 | (dsimp only; go_keep)) (fun hHeld => ?_)
        refine tkH (v := ?_) 1 rfl ?_ ?_; rotate_left 1
        · intro wq hSw; (try dsimp only at hSw); go_simp; try (with_reducible rfl)
        try simp only [Act.put, sA4]
        refine tkH (v := ?_) 2 rfl ?_ ?_; rotate_left 1
        · intro wq hSw; (try dsimp only at hSw); go_simp; try (with_reducible rfl)
        try simp only [Act.put]
        refine tkH (v := ?_) 3 rfl ?_ ?_; rotate_left 1
        · intro wq hSw; (try dsimp only at hSw); go_simp; try (with_reducible rfl)
        try simp only [Act.put]
        refine tkH (v := ?_) 4 rfl ?_ ?_; rotate_left 1
        · intro wq hSw; (try dsimp only at hSw); go_simp; try (with_reducible rfl)
        try simp only [Act.put]
        refine wpAnyH_ready (rs := [0, 5]) (by kernel_rfl) (by simp) ?_
        refine AllReadyH.cons (o := _) rfl (fun K hK => ?_) ?_
        · go_simp
          refine hK.out _ _ (c0) (fun hHeld => ?_)
          clear hK K
          try simp only [Act.put, sA4, sA5, sA6]
          refine wpAnyH_ready (rs := [5]) (by kernel_rfl) (by simp) ?_
          refine AllReadyH.cons (o := _) rfl (fun K hK => ?_) AllReadyH.nil
          go_simp
          refine hK.out _ _ (c0) (fun hHeld => ?_)
          clear hK K
          try simp only [Act.put, sA4, sA5, sA6]
          refine wpAnyH_ready (rs := [6]) (by kernel_rfl) (by simp) ?_
          refine AllReadyH.cons (o := _) rfl (fun K hK => ?_) AllReadyH.nil
          go_simp
          refine (NX.out _ (by repeat (first | exact HB5.out | exact HB4.out | exact HB3.out | exact Below.refl _ _ | apply Below.drew | refine ext_alloc ?_ _))).mono ?_; clear c0 z0; rintro e w3 ⟨rfl, hb⟩; have HB3 : Hid (Below wr.heap.size wr w3) := ext_trans (by repeat (first | exact HB5.out | exact HB4.out | exact HB3.out | exact Below.refl _ _ | apply Below.drew | refine ext_alloc ?_ _)) hb; obtain ⟨c0, z0⟩ := HP.out w3 HB3.out; clear hb; try go_wp2_with fail
          refine hK.out _ _ (c0) (fun hHeld => ?_)
          clear hK K
          try simp only [Act.put, sA4, sA5, sA6]
          refine tkH (v := ?_) 7 rfl ?_ ?_; rotate_left 1
          · intro wq hSw; (try dsimp only at hSw); go_simp; try (with_reducible rfl)
          try simp only [Act.put, sA4]
          refine tkH (v := ?_) 8 rfl ?_ ?_; rotate_left 1
          · intro wq hSw; (try dsimp only at hSw); go_simp; try (with_reducible rfl)
          try simp only [Act.put]
          refine wpAnyH_ready (rs := [9]) (by kernel_rfl) (by simp) ?_
          refine AllReadyH.cons (o := _) rfl (fun K hK => ?_) AllReadyH.nil
          go_simp
          refine (SG.out _).mono ?_; clear c0 z0; rintro e w4 ⟨rfl, hb⟩; have HB4 : Hid (Below wr.heap.size wr w4) := ext_trans (by repeat (first | exact HB5.out | exact HB4.out | exact HB3.out | exact Below.refl _ _ | apply Below.drew | refine ext_alloc ?_ _)) hb; obtain ⟨c0, z0⟩ := HP.out w4 HB4.out; clear hb; try go_wp2_with fail
          refine hK.out _ _ (c0) (fun hHeld => ?_)
          clear hK K
          try simp only [Act.put, sA4, sA5, sA6]
          refine wpAnyH_ready (rs := [10]) (by kernel_rfl) (by simp) ?_
          refine AllReadyH.cons (o := _) rfl (fun K hK => ?_) AllReadyH.nil
          go_simp
          refine (AD.out _).mono ?_; clear c0 z0; rintro e w5 ⟨q5, HQ5, rfl, hb⟩; have HB5 : Hid (Below wr.heap.size wr w5) := ext_trans (by repeat (first | exact HB5.out | exact HB4.out | exact HB3.out | exact Below.refl _ _ | apply Below.drew | refine ext_alloc ?_ _)) hb; obtain ⟨c0, z0⟩ := HP.out w5 HB5.out; have zf := HZF.out w5 HB5.out; have hz5 : w.heap.size + 3 < w5.heap.size := Nat.lt_of_lt_of_le hzx HB5.out.size; clear hb; try go_wp2_with fail
          refine hK.out _ _ (c0) (fun hHeld => ?_)
          clear hK K
          try simp only [Act.put, sA4, sA5, sA6]
          refine wpAnyH_ready (rs := [11]) (by kernel_rfl) (by simp) ?_
          refine AllReadyH.cons (o := _) rfl (fun K hK => ?_) AllReadyH.nil
          go_simp
          refine hK.out _ _ (by simp only [cell_set_other HNB.out]; exact c0) (fun hHeld => ?_)
          clear hK K
          try simp only [Act.put, sA4, sA5, sA6]
          refine wpAnyH_done (by kernel_rfl) ?_ _
          go_wp2_with fail
          go_meet
          case rel => exact FIN.out w5 q5 HB5.out HQ5.out
        refine AllReadyH.cons (o := _) rfl (fun K hK => ?_) AllReadyH.nil
        go_simp
        refine hK.out _ _ (c0) (fun hHeld => ?_)
        clear hK K
        try simp only [Act.put, sA4, sA5, sA6]
        refine wpAnyH_ready (rs := [0, 6]) (by kernel_rfl) (by simp) ?_
        refine AllReadyH.cons (o := _) rfl (fun K hK => ?_) ?_
        · go_simp
          refine hK.out _ _ (c0) (fun hHeld => ?_)
          clear hK K
          try simp only [Act.put, sA4, sA5, sA6]
          refine wpAnyH_ready (rs := [6]) (by kernel_rfl) (by simp) ?_
          refine AllReadyH.cons (o := _) rfl (fun K hK => ?_) AllReadyH.nil
          go_simp
          refine (NX.out _ (by repeat (first | exact HB5.out | exact HB4.out | exact HB3.out | exact Below.refl _ _ | apply Below.drew | refine ext_alloc ?_ _))).mono ?_; clear c0 z0; rintro e w3 ⟨rfl, hb⟩; have HB3 : Hid (Below wr.heap.size wr w3) := ext_trans (by repeat (first | exact HB5.out | exact HB4.out | exact HB3.out | exact Below.refl _ _ | apply Below.drew | refine ext_alloc ?_ _)) hb; obtain ⟨c0, z0⟩ := HP.out w3 HB3.out; clear hb; try go_wp2_with fail
          refine hK.out _ _ (c0) (fun hHeld => ?_)
          clear hK K
          try simp only [Act.put, sA4, sA5, sA6]
          refine tkH (v := ?_) 7 rfl ?_ ?_; rotate_left 1
          · intro wq hSw; (try dsimp only at hSw); go_simp; try (with_reducible rfl)
          try simp only [Act.put, sA4]
          refine tkH (v := ?_) 8 rfl ?_ ?_; rotate_left 1
          · intro wq hSw; (try dsimp only at hSw); go_simp; try (with_reducible rfl)
          try simp only [Act.put]
          refine wpAnyH_ready (rs := [9]) (by kernel_rfl) (by simp) ?_
          refine AllReadyH.cons (o := _) rfl (fun K hK => ?_) AllReadyH.nil
          go_simp
          refine (SG.out _).mono ?_; clear c0 z0; rintro e w4 ⟨rfl, hb⟩; have HB4 : Hid (Below wr.heap.size wr w4) := ext_trans (by repeat (first | exact HB5.out | exact HB4.out | exact HB3.out | exact Below.refl _ _ | apply Below.drew | refine ext_alloc ?_ _)) hb; obtain ⟨c0, z0⟩ := HP.out w4 HB4.out; clear hb; try go_wp2_with fail
          refine hK.out _ _ (c0) (fun hHeld => ?_)
          clear hK K
          try simp only [Act.put, sA4, sA5, sA6]
          refine wpAnyH_ready (rs := [10]) (by kernel_rfl) (by simp) ?_
          refine AllReadyH.cons (o := _) rfl (fun K hK => ?_) AllReadyH.nil
          go_simp
          refine (AD.out _).mono ?_; clear c0 z0; rintro e w5 ⟨q5, HQ5, rfl, hb⟩; have HB5 : Hid (Below wr.heap.size wr w5) := ext_trans (by repeat (first | exact HB5.out | exact HB4.out | exact HB3.out | exact Below.refl _ _ | apply Below.drew | refine ext_alloc ?_ _)) hb; obtain ⟨c0, z0⟩ := HP.out w5 HB5.out; have zf := HZF.out w5 HB5.out; have hz5 : w.heap.size + 3 < w5.heap.size := Nat.lt_of_lt_of_le hzx HB5.out.size; clear hb; try go_wp2_with fail
          refine hK.out _ _ (c0) (fun hHeld => ?_)
          clear hK K
          try simp only [Act.put, sA4, sA5, sA6]
          refine wpAnyH_ready (rs := [11]) (by kernel_rfl) (by simp) ?_
          refine AllReadyH.cons (o := _) rfl (fun K hK => ?_) AllReadyH.nil
          go_simp
          refine hK.out _ _ (by simp only [cell_set_other HNB.out]; exact c0) (fun hHeld => ?_)
          clear hK K
          try simp only [Act.put, sA4, sA5, sA6]
          refine wpAnyH_done (by kernel_rfl) ?_ _
          go_wp2_with fail
          go_meet
          case rel => exact FIN.out w5 q5 HB5.out HQ5.out
        refine AllReadyH.cons (o := _) rfl (fun K hK => ?_) AllReadyH.nil
        go_simp
        refine (NX.out _ (by repeat (first | exact HB5.out | exact HB4.out | exact HB3.out | exact Below.refl _ _ | apply Below.drew | refine ext_alloc ?_ _))).mono ?_; clear c0 z0; rintro e w3 ⟨rfl, hb⟩; have HB3 : Hid (Below wr.heap.size wr w3) := ext_trans (by repeat (first | exact HB5.out | exact HB4.out | exact HB3.out | exact Below.refl _ _ | apply Below.drew | refine ext_alloc ?_ _)) hb; obtain ⟨c0, z0⟩ := HP.out w3 HB3.out; clear hb; try go_wp2_with fail
        refine hK.out _ _ (c0) (fun hHeld => ?_)
        clear hK K
        try simp only [Act.put, sA4, sA5, sA6]
        refine tkH (v := ?_) 7 rfl ?_ ?_; rotate_left 1
        · intro wq hSw; (try dsimp only at hSw); go_simp; try (with_reducible rfl)
        try simp only [Act.put, sA4]
        refine tkH (v := ?_) 8 rfl ?_ ?_; rotate_left 1
        · intro wq hSw; (try dsimp only at hSw); go_simp; try (with_reducible rfl)
        try simp only [Act.put]
        refine wpAnyH_ready (rs := [0, 9]) (by kernel_rfl) (by simp) ?_
        refine AllReadyH.cons (o := _) rfl (fun K hK => ?_) ?_
        · go_simp
          refine hK.out _ _ (c0) (fun hHeld => ?_)
          clear hK K
          try simp only [Act.put, sA4, sA5, sA6]
          refine wpAnyH_ready (rs := [9]) (by kernel_rfl) (by simp) ?_
          refine AllReadyH.cons (o := _) rfl (fun K hK => ?_) AllReadyH.nil
          go_simp
          refine (SG.out _).mono ?_; clear c0 z0; rintro e w4 ⟨rfl, hb⟩; have HB4 : Hid (Below wr.heap.size wr w4) := ext_trans (by repeat (first | exact HB5.out | exact HB4.out | exact HB3.out | exact Below.refl _ _ | apply Below.drew | refine ext_alloc ?_ _)) hb; obtain ⟨c0, z0⟩ := HP.out w4 HB4.out; clear hb; try go_wp2_with fail
          refine hK.out _ _ (c0) (fun hHeld => ?_)
          clear hK K
          try simp only [Act.put, sA4, sA5, sA6]
          refine wpAnyH_ready (rs := [10]) (by kernel_rfl) (by simp) ?_
          refine AllReadyH.cons (o := _) rfl (fun K hK => ?_) AllReadyH.nil
          go_simp
          refine (AD.out _).mono ?_; clear c0 z0; rintro e w5 ⟨q5, HQ5, rfl, hb⟩; have HB5 : Hid (Below wr.heap.size wr w5) := ext_trans (by repeat (first | exact HB5.out | exact HB4.out | exact HB3.out | exact Below.refl _ _ | apply Below.drew | refine ext_alloc ?_ _)) hb; obtain ⟨c0, z0⟩ := HP.out w5 HB5.out; have zf := HZF.out w5 HB5.out; have hz5 : w.heap.size + 3 < w5.heap.size := Nat.lt_of_lt_of_le hzx HB5.out.size; clear hb; try go_wp2_with fail
          refine hK.out _ _ (c0) (fun hHeld => ?_)
          clear hK K
          try simp only [Act.put, sA4, sA5, sA6]
          refine wpAnyH_ready (rs := [11]) (by kernel_rfl) (by simp) ?_
          refine AllReadyH.cons (o := _) rfl (fun K hK => ?_) AllReadyH.nil
          go_simp
          refine hK.out _ _ (by simp only [cell_set_other HNB.out]; exact c0) (fun hHeld => ?_)
          clear hK K
          try simp only [Act.put, sA4, sA5, sA6]
          refine wpAnyH_done (by kernel_rfl) ?_ _
          go_wp2_with fail
          go_meet
          case rel => exact FIN.out w5 q5 HB5.out HQ5.out
        refine AllReadyH.cons (o := _) rfl (fun K hK => ?_) AllReadyH.nil
        go_simp
        refine (SG.out _).mono ?_; clear c0 z0; rintro e w4 ⟨rfl, hb⟩; have HB4 : Hid (Below wr.heap.size wr w4) := ext_trans (by repeat (first | exact HB5.out | exact HB4.out | exact HB3.out | exact Below.refl _ _ | apply Below.drew | refine ext_alloc ?_ _)) hb; obtain ⟨c0, z0⟩ := HP.out w4 HB4.out; clear hb; try go_wp2_with fail
        refine hK.out _ _ (c0) (fun hHeld => ?_)
        clear hK K
        try simp only [Act.put, sA4, sA5, sA6]
        refine wpAnyH_ready (rs := [0]) (by kernel_rfl) (by simp) ?_
        refine AllReadyH.cons (o := _) rfl (fun K hK => ?_) AllReadyH.nil
        go_simp
        refine hK.out _ _ (c0) (fun hHeld => ?_)
        clear hK K
        try simp only [Act.put, sA4, sA5, sA6]
        refine wpAnyH_ready (rs := [10]) (by kernel_rfl) (by simp) ?_
        refine AllReadyH.cons (o := _) rfl (fun K hK => ?_) AllReadyH.nil
        go_simp
        refine (AD.out _).mono ?_; clear c0 z0; rintro e w5 ⟨q5, HQ5, rfl, hb⟩; have HB5 : Hid (Below wr.heap.size wr w5) := ext_trans (by repeat (first | exact HB5.out | exact HB4.out | exact HB3.out | exact Below.refl _ _ | apply Below.drew | refine ext_alloc ?_ _)) hb; obtain ⟨c0, z0⟩ := HP.out w5 HB5.out; have zf := HZF.out w5 HB5.out; have hz5 : w.heap.size + 3 < w5.heap.size := Nat.lt_of_lt_of_le hzx HB5.out.size; clear hb; try go_wp2_with fail
        refine hK.out _ _ (c0) (fun hHeld => ?_)
        clear hK K
        try simp only [Act.put, sA4, sA5, sA6]
        refine wpAnyH_ready (rs := [11]) (by kernel_rfl) (by simp) ?_
        refine AllReadyH.cons (o := _) rfl (fun K hK => ?_) AllReadyH.nil
        go_simp
        refine hK.out _ _ (by simp only [cell_set_other HNB.out]; exact c0) (fun hHeld => ?_)
        clear hK K
        try simp only [Act.put, sA4, sA5, sA6]
        refine wpAnyH_done (by kernel_rfl) ?_ _
        go_wp2_with fail
        go_meet
        case rel => exact FIN.out w5 q5 HB5.out HQ5.out
      have HJ := hidIt hcut.out
      generalize hwc : wc = wb at *
      clear hwc hcut
      go_wp2_with fail
      go_roundg (n - (j + 1))
      case rel => exact ⟨j + 1, by omega, by go_num, HJ.out⟩
      case measure => omega
  have HE := hidIt hcut.out
  generalize hwc : wc = wl at *
  clear hwc hcut I0
  obtain ⟨q1, y, sy, hf, hq, ho, hs1, hfit, hsz⟩ := ST.out n hn
  have hle := HLE.out n (by omega)
  have hss : (spn enc ((Cx.dec enc zs).take n)).s = (off enc zs n : Nat) := (spn_as enc _ (fun a ha => HFI.out a (List.mem_of_mem_take ha))).2
  have hed : (Cx.dec enc zs).drop n = y :: (Cx.dec enc zs).drop (n + 1) := by
    have h1 : n < (Cx.dec enc zs).length := hn
    rw [List.drop_eq_getElem_cons h1]
    rw [List.getElem?_eq_getElem h1, Option.some.injEq] at hq
    rw [hq]
  have hbh : bhd x.sp (spn enc ((Cx.dec enc zs).take n)) y = spn enc ((Cx.dec enc zs).drop n) := by
    rw [HSP.out, hed, ← bhd_spn enc ((Cx.dec enc zs).take n) y ((Cx.dec enc zs).drop (n + 1)) (by
      intro e
      have := congrArg List.length e
      rw [List.length_take, List.length_nil] at this
      omega), ← hed, List.take_append_drop]
  have KX := hidIt (spn_as enc (Cx.dec enc zs) HFI.out)
  have KB := hidIt (spn_b enc (Cx.dec enc zs))
  have KH := hidIt (spn_as enc ((Cx.dec enc zs).take n) (fun a ha => HFI.out a (List.mem_of_mem_take ha)))
  have KHO := hidIt (spn_ok enc ((Cx.dec enc zs).take n))
  have KHB := hidIt (spn_b enc ((Cx.dec enc zs).take n))
  have KRO := hidIt (spn_ok enc ((Cx.dec enc zs).drop n))
  have hbs : -1 ≤ x.sp.b - (spn enc ((Cx.dec enc zs).take n)).b := by
    have e := congrArg Rs.b hbh
    have k := (spn_ok enc ((Cx.dec enc zs).drop n)).b0
    unfold bhd at e
    simp only at e
    split at e <;> omega
  have NX : Hid (∀ w', Below wl.heap.size wl w' → Calls Tryz.prog 52 #[.int .i64 enc, .slice (some ⟨b, o, none⟩) zs.length x.c, .int .i64 (off enc zs n : Nat)] w' fun e w'' => e = .returned (.tuple #[.int .i64 y, .int .i64 sy]) ∧ Below w'.heap.size w' w'') := fun w' hb => by
    have := Next_any enc HEN.out _ zs (off enc zs n) w' (HC.out n wl w' HE.out hb).2.2 HBY.out q1
    rw [hf, HPP.out, HXN.out] at this
    exact this
  have TG : Hid (∀ w', Calls Tryz.prog 101 #[.agg #[.slice (some ⟨b, o, none⟩) zs.length x.c, .int .i64 x.pl, .int .i64 x.sp.a, .int .i64 x.sp.s, .int .i64 x.sp.b, .bool x.sp.lf, .bool x.sp.cr], .int .i64 (off enc zs n : Nat)] w' fun e w'' => e = .returned (.int .i64 (tg x.pl (off enc zs n : Nat))) ∧ Below w'.heap.size w' w'') := fun w' => by
    have := tag_any x (off enc zs n : Nat) w' hpl (by omega) (by omega)
    rw [HPP.out, HXN.out] at this
    exact this
  have BH : Hid (∀ w', Calls Tryz.prog 103 #[.agg #[.int .i64 x.sp.a, .int .i64 x.sp.s, .int .i64 x.sp.b, .bool x.sp.lf, .bool x.sp.cr], .agg #[.int .i64 (spn enc ((Cx.dec enc zs).take n)).a, .int .i64 (spn enc ((Cx.dec enc zs).take n)).s, .int .i64 (spn enc ((Cx.dec enc zs).take n)).b, .bool (spn enc ((Cx.dec enc zs).take n)).lf, .bool (spn enc ((Cx.dec enc zs).take n)).cr], .int .i64 y] w' fun e w'' => e = .returned (.agg #[.int .i64 (spn enc ((Cx.dec enc zs).drop n)).a, .int .i64 (spn enc ((Cx.dec enc zs).drop n)).s, .int .i64 (spn enc ((Cx.dec enc zs).drop n)).b, .bool (spn enc ((Cx.dec enc zs).drop n)).lf, .bool (spn enc ((Cx.dec enc zs).drop n)).cr]) ∧ Below w'.heap.size w' w'') := fun w' => by
    have k1 := KX.out
    have k2 := KB.out
    have k3 := KH.out
    have k4 := KHO.out
    have k5 := KHB.out
    have k6 : ((Cx.dec enc zs).take n).length ≤ n := by rw [List.length_take]; omega
    have k7 : (Cx.encB enc ((Cx.dec enc zs).take n)).length = off enc zs n := rfl
    have k8 : Cx.encB enc (Cx.dec enc zs) = zs := (Cx.back_all enc HEN.out _ zs (Nat.le_refl _) HBY.out).1
    have k9 := HSP.out
    rw [k8] at k1
    rw [← k9] at k1 k2
    have := behind_any x.sp (spn enc ((Cx.dec enc zs).take n)) y w' ⟨by omega, by omega, k4.a0⟩ ⟨by omega, by omega, k4.s0⟩ ⟨hbs, by omega, k4.b0⟩
    rw [hbh] at this
    exact this
  have HP2 : Hid (∀ w', Below wl.heap.size wl w' → (w'.cell? ⟨w.heap.size, 0, none⟩ = some (.slice (some ⟨b, o, none⟩) zs.length x.c) ∧ w'.cell? ⟨w.heap.size, 1, none⟩ = some (.int .i64 x.pl) ∧ (w'.cell? ⟨w.heap.size, 2, none⟩ = some (.int .i64 x.sp.a) ∧ w'.cell? ⟨w.heap.size, 3, none⟩ = some (.int .i64 x.sp.s) ∧ w'.cell? ⟨w.heap.size, 4, none⟩ = some (.int .i64 x.sp.b) ∧ w'.cell? ⟨w.heap.size, 5, none⟩ = some (.bool x.sp.lf) ∧ w'.cell? ⟨w.heap.size, 6, none⟩ = some (.bool x.sp.cr))) ∧ (w'.cell? ⟨w.heap.size + 3, 0, none⟩ = some (.int .i64 (spn enc ((Cx.dec enc zs).take n)).a) ∧ w'.cell? ⟨w.heap.size + 3, 1, none⟩ = some (.int .i64 (spn enc ((Cx.dec enc zs).take n)).s) ∧ w'.cell? ⟨w.heap.size + 3, 2, none⟩ = some (.int .i64 (spn enc ((Cx.dec enc zs).take n)).b) ∧ w'.cell? ⟨w.heap.size + 3, 3, none⟩ = some (.bool (spn enc ((Cx.dec enc zs).take n)).lf) ∧ w'.cell? ⟨w.heap.size + 3, 4, none⟩ = some (.bool (spn enc ((Cx.dec enc zs).take n)).cr))) := fun w' hb => by
    obtain ⟨⟨e0, e1, e2⟩, i2, _⟩ := HC.out n wl w' HE.out hb
    rw [HPP.out, HXN.out] at e0
    exact ⟨⟨e0, e1, e2⟩, i2⟩
  have HHD : Hid (∃ hd : It, hd.p = some ⟨b, o, none⟩ ∧ hd.n = off enc zs n ∧ hd.c = off enc zs n ∧ hd.pl = x.pl ∧ hd.sp = spn enc ((Cx.dec enc zs).take n)) := ⟨⟨some ⟨b, o, none⟩, off enc zs n, off enc zs n, x.pl, spn enc ((Cx.dec enc zs).take n), KHO.out⟩, rfl, rfl, rfl, rfl, rfl⟩
  have HRS : Hid (∃ rs : It, rs.p = some ⟨b, o + off enc zs n, none⟩ ∧ rs.n = zs.length - off enc zs n ∧ rs.c = zs.length - off enc zs n ∧ rs.pl = tg x.pl (off enc zs n : Nat) ∧ rs.sp = spn enc ((Cx.dec enc zs).drop n)) := ⟨⟨some ⟨b, o + off enc zs n, none⟩, zs.length - off enc zs n, zs.length - off enc zs n, tg x.pl (off enc zs n : Nat), spn enc ((Cx.dec enc zs).drop n), KRO.out⟩, rfl, rfl, rfl, rfl, rfl⟩
  clear hf hq ho hfit hsz hed hbh hbs KX KB KH KHB ST HLE HFI
  obtain ⟨hd, hd1, hd2, hd3, hd4, hd5⟩ := HHD.out
  obtain ⟨rs, rs1, rs2, rs3, rs4, rs5⟩ := HRS.out
  have HHD2 := hidIt (show hd.p = some ⟨b, o, none⟩ ∧ hd.n = off enc zs n ∧ hd.c = off enc zs n ∧ hd.pl = x.pl ∧ hd.sp = spn enc ((Cx.dec enc zs).take n) from ⟨hd1, hd2, hd3, hd4, hd5⟩)
  have HRS2 := hidIt (show rs.p = some ⟨b, o + off enc zs n, none⟩ ∧ rs.n = zs.length - off enc zs n ∧ rs.c = zs.length - off enc zs n ∧ rs.pl = tg x.pl (off enc zs n : Nat) ∧ rs.sp = spn enc ((Cx.dec enc zs).drop n) from ⟨rs1, rs2, rs3, rs4, rs5⟩)
  clear HHD HRS hd1 hd2 hd3 hd4 hd5 rs1 rs2 rs3 rs4 rs5
  generalize hsd : spn enc ((Cx.dec enc zs).take n) = sd at BH HP2 hss HHD2
  generalize hsr : spn enc ((Cx.dec enc zs).drop n) = sr at BH HRS2 KRO
  generalize hk : off enc zs n = k at *
  obtain ⟨sa, ss, sb, sf, scr⟩ := sd
  simp only at hss HP2 BH
  subst hss
  obtain ⟨⟨e0, e1, e2⟩, z0⟩ := HP2.out wl (Below.refl _ _)
  have k1 : (0 : Int) ≤ (k : Int) := by omega
  have k2 : (k : Int) ≤ (x.c : Int) := by omega
  have k3 : (k : Int) ≤ (zs.length : Int) := by omega
  have k4 : (zs.length : Int) ≤ (x.c : Int) := by omega
  go_upto_region 10 with (go_at_call 52; refine (NX.out _ (Below.refl _ _)).mono ?_; clear e0 e1 e2 z0; rintro e w3 ⟨rfl, hb3⟩; have HB3 : Hid (Below wl.heap.size wl w3) := hb3; obtain ⟨⟨e0, e1, e2⟩, z0⟩ := HP2.out w3 HB3.out; clear hb3)
  go_cut [12] from 43 to 51 (fun p wF => ∃ tb : Nat, p = .pointer (some ⟨tb, 0, none⟩) ∧ Hid (wF.heap[tb]? = some (.cells #[.slice (some ⟨b, o, none⟩) k k, .int .i64 x.pl, .int .i64 sa, .int .i64 (k : Nat), .int .i64 sb, .bool sf, .bool scr] 122 (0, 0)) ∧ Below wl.heap.size wl wF ∧ wl.heap.size ≤ tb))
  case first =>
    go_region_held3 (fun w' => (w'.cell? ⟨w.heap.size, 0, none⟩ = some (.slice (some ⟨b, o, none⟩) zs.length x.c) ∧ w'.cell? ⟨w.heap.size, 1, none⟩ = some (.int .i64 x.pl) ∧ (w'.cell? ⟨w.heap.size, 2, none⟩ = some (.int .i64 x.sp.a) ∧ w'.cell? ⟨w.heap.size, 3, none⟩ = some (.int .i64 x.sp.s) ∧ w'.cell? ⟨w.heap.size, 4, none⟩ = some (.int .i64 x.sp.b) ∧ w'.cell? ⟨w.heap.size, 5, none⟩ = some (.bool x.sp.lf) ∧ w'.cell? ⟨w.heap.size, 6, none⟩ = some (.bool x.sp.cr))) ∧ (w'.cell? ⟨w.heap.size + 3, 0, none⟩ = some (.int .i64 sa) ∧ w'.cell? ⟨w.heap.size + 3, 1, none⟩ = some (.int .i64 (k : Nat)) ∧ w'.cell? ⟨w.heap.size + 3, 2, none⟩ = some (.int .i64 sb) ∧ w'.cell? ⟨w.heap.size + 3, 3, none⟩ = some (.bool sf) ∧ w'.cell? ⟨w.heap.size + 3, 4, none⟩ = some (.bool scr))) (first | exact HP2.out _ (by repeat (first | exact HB3.out | exact Below.refl _ _ | apply Below.drew | refine ext_alloc ?_ _ | refine Below.setCell ?_ (by first | exact Nat.le_refl _ | exact HB3.out.size) _)) | go_keep) (fail)
    all_goals
      go_wp2_with fail
      go_meet
      case rel => exact ⟨_, rfl, heap_alloc_new _ _, (ext_alloc HB3.out _).drew, HB3.out.size⟩
  obtain ⟨t12, rfl, H12⟩ := hcut
  generalize hwc : wc = wa at *
  clear hwc e0 e1 e2 z0 NX
  obtain ⟨⟨e0, e1, e2⟩, z0⟩ := HP2.out wa H12.out.2.1
  have k5 : ((zs.length : Int) - (k : Int)).toNat = zs.length - k := by omega
  have k6 : ¬ zs.length = k := by omega
  obtain ⟨rr, hrr⟩ : ∃ rr : It, rr = ⟨some ⟨b, o + k, none⟩, zs.length - k, zs.length - k, tg x.pl (k : Nat), sr, KRO.out⟩ := ⟨_, rfl⟩
  have hza : w.heap.size + 3 < wa.heap.size := Nat.lt_of_lt_of_le HE.out.2.2.2.1.lt H12.out.2.1.size
  have na1 : ¬ w.heap.size = wa.heap.size := by omega
  have na2 : ¬ w.heap.size + 3 = wa.heap.size := by omega
  go_upto_region 11 with fail
  go_cut [13] from 52 to 70 (fun p wF => ∃ tb : Nat, p = .pointer (some ⟨tb, 0, none⟩) ∧ Hid (wF.heap[tb]? = some (.cells #[.slice (some ⟨b, o + k, none⟩) (zs.length - k) (zs.length - k), .int .i64 (tg x.pl (k : Nat)), .int .i64 sr.a, .int .i64 sr.s, .int .i64 sr.b, .bool sr.lf, .bool sr.cr] 122 (0, 0)) ∧ Below wa.heap.size wa wF ∧ wa.heap.size ≤ tb))
  case first =>
    go_region_held3 (fun w' => (w'.cell? ⟨w.heap.size, 0, none⟩ = some (.slice (some ⟨b, o, none⟩) zs.length x.c) ∧ w'.cell? ⟨w.heap.size, 1, none⟩ = some (.int .i64 x.pl) ∧ (w'.cell? ⟨w.heap.size, 2, none⟩ = some (.int .i64 x.sp.a) ∧ w'.cell? ⟨w.heap.size, 3, none⟩ = some (.int .i64 x.sp.s) ∧ w'.cell? ⟨w.heap.size, 4, none⟩ = some (.int .i64 x.sp.b) ∧ w'.cell? ⟨w.heap.size, 5, none⟩ = some (.bool x.sp.lf) ∧ w'.cell? ⟨w.heap.size, 6, none⟩ = some (.bool x.sp.cr))) ∧ (w'.cell? ⟨w.heap.size + 3, 0, none⟩ = some (.int .i64 sa) ∧ w'.cell? ⟨w.heap.size + 3, 1, none⟩ = some (.int .i64 (k : Nat)) ∧ w'.cell? ⟨w.heap.size + 3, 2, none⟩ = some (.int .i64 sb) ∧ w'.cell? ⟨w.heap.size + 3, 3, none⟩ = some (.bool sf) ∧ w'.cell? ⟨w.heap.size + 3, 4, none⟩ = some (.bool scr))) (first | (simp only [cell_set_other na1, cell_set_other na2]; exact ⟨⟨e0, e1, e2⟩, z0⟩) | (simp only [cell_set_other n51, cell_set_other n52]; exact ⟨⟨e0, e1, e2⟩, z0⟩) | (simp only [cell_set_other n61, cell_set_other n62]; exact ⟨⟨e0, e1, e2⟩, z0⟩) | exact HP2.out _ (ext_trans H12.out.2.1 (by repeat (first | apply Below.drew | refine ext_alloc ?_ _ | exact HB6.out | exact HB5.out | exact Below.refl _ _))) | go_keep) (first
      | (go_at_call 101; refine (TG.out _).mono ?_; (try clear t0 tf hlt); clear e0 e1 e2 z0; rintro e w5 ⟨rfl, hbx⟩; (first | (have HT0 := hidIt (HT.out.ext hbx); clear HT; have HT := HT0; clear HT0) | (have HT := hidIt (zero_ext_drew hbx)) | (have HT := hidIt (zero_ext hbx)) | skip); have HB5 : Hid (Below wa.heap.size wa w5) := ext_trans (by repeat (first | exact HB6.out | exact HB5.out | exact Below.refl _ _ | apply Below.drew | refine ext_alloc ?_ _)) hbx; (try (obtain ⟨t0, _, tf⟩ := HT.out.cells; have hlt := HT.out.lt)); obtain ⟨⟨e0, e1, e2⟩, z0⟩ := HP2.out w5 (ext_trans H12.out.2.1 HB5.out); have n51 : ¬ w.heap.size = w5.heap.size := (by have := HB5.out.size; omega); have n52 : ¬ w.heap.size + 3 = w5.heap.size := (by have := HB5.out.size; omega); clear hbx)
      | (go_at_call 103; refine (BH.out _).mono ?_; (try clear t0 tf hlt); clear e0 e1 e2 z0; rintro e w6 ⟨rfl, hbx⟩; (first | (have HT0 := hidIt (HT.out.ext hbx); clear HT; have HT := HT0; clear HT0) | (have HT := hidIt (zero_ext_drew hbx)) | (have HT := hidIt (zero_ext hbx)) | skip); have HB6 : Hid (Below wa.heap.size wa w6) := ext_trans (by repeat (first | exact HB6.out | exact HB5.out | exact Below.refl _ _ | apply Below.drew | refine ext_alloc ?_ _)) hbx; (try (obtain ⟨t0, _, tf⟩ := HT.out.cells; have hlt := HT.out.lt)); obtain ⟨⟨e0, e1, e2⟩, z0⟩ := HP2.out w6 (ext_trans H12.out.2.1 HB6.out); have n61 : ¬ w.heap.size = w6.heap.size := (by have := HB6.out.size; omega); have n62 : ¬ w.heap.size + 3 = w6.heap.size := (by have := HB6.out.size; omega); clear hbx))
    all_goals
      go_wp2_with fail
      go_meet
      case rel =>
        first
          | (obtain ⟨p1, p2⟩ := HT.out.put (⟨some ⟨b, o + k, none⟩, zs.length - k, zs.length - k, tg x.pl (k : Nat), sr, KRO.out⟩ : It); exact ⟨_, rfl, p1, below_put HB6.out HB6.out.size p2 (by first | exact Nat.le_refl _ | exact HB5.out.size), by first | exact Nat.le_refl _ | exact HB5.out.size⟩)
          | exact ⟨_, rfl, heap_alloc_new _ _, ext_alloc HB6.out _, HB6.out.size⟩
          | exact ⟨_, rfl, heap_alloc_new _ _, (ext_alloc HB6.out _).drew, HB6.out.size⟩
  obtain ⟨t13, rfl, H13⟩ := hcut
  generalize hwc : wc = wb at *
  clear hwc e0 e1 e2 z0 TG BH
  have hzb := H13.out.2.1.size
  have HB1 : Hid (wb.heap[t12]? = some (.cells #[.slice (some ⟨b, o, none⟩) k k, .int .i64 x.pl, .int .i64 sa, .int .i64 (k : Nat), .int .i64 sb, .bool sf, .bool scr] 122 (0, 0))) := (H13.out.2.1.block t12 (Array.getElem?_eq_some_iff.1 H12.out.1).1).trans H12.out.1
  have HEB := hidIt (HE.out.ext (ext_trans H12.out.2.1 H13.out.2.1))
  have f12 : wb.cell? ⟨t12, 0, none⟩ = some (.slice (some ⟨b, o, none⟩) k k) ∧ wb.cell? ⟨t12, 1, none⟩ = some (.int .i64 x.pl) ∧ wb.cell? ⟨t12, 2, none⟩ = some (.int .i64 sa) ∧ wb.cell? ⟨t12, 3, none⟩ = some (.int .i64 (k : Nat)) ∧ wb.cell? ⟨t12, 4, none⟩ = some (.int .i64 sb) ∧ wb.cell? ⟨t12, 5, none⟩ = some (.bool sf) ∧ wb.cell? ⟨t12, 6, none⟩ = some (.bool scr) := by
    refine ⟨?_, ?_, ?_, ?_, ?_, ?_, ?_⟩ <;> (rw [cell_of_row wb t12 _ _ _ _ HB1.out]; rfl)
  have f13 : wb.cell? ⟨t13, 0, none⟩ = some (.slice (some ⟨b, o + k, none⟩) (zs.length - k) (zs.length - k)) ∧ wb.cell? ⟨t13, 1, none⟩ = some (.int .i64 (tg x.pl (k : Nat))) ∧ (wb.cell? ⟨t13, 2, none⟩ = some (.int .i64 sr.a) ∧ wb.cell? ⟨t13, 3, none⟩ = some (.int .i64 sr.s) ∧ wb.cell? ⟨t13, 4, none⟩ = some (.int .i64 sr.b) ∧ wb.cell? ⟨t13, 5, none⟩ = some (.bool sr.lf) ∧ wb.cell? ⟨t13, 6, none⟩ = some (.bool sr.cr)) := by
    refine ⟨?_, ?_, ?_, ?_, ?_, ?_, ?_⟩ <;> (rw [cell_of_row wb t13 _ _ _ _ H13.out.1]; rfl)
  obtain ⟨g1, _, gf1⟩ := HEB.out.2.1.cells
  obtain ⟨g2, _, gf2⟩ := HEB.out.2.2.1.cells
  have gl1 := HEB.out.2.1.lt
  have gl2 := HEB.out.2.2.1.lt
  have hl2 := H12.out.2.2
  have hl3 := H13.out.2.2
  have hlw : w.heap.size + 3 < wl.heap.size := HE.out.2.2.2.1.lt
  have m1 : ¬ t12 = w.heap.size + 1 := by omega
  have m2 : ¬ t12 = w.heap.size + 2 := by omega
  have m3 : ¬ t13 = w.heap.size + 1 := by omega
  have m4 : ¬ t13 = w.heap.size + 2 := by omega
  go_upto_region 12 with fail
  go_region_held3 (fun w' => (w'.cell? ⟨t12, 0, none⟩ = some (.slice (some ⟨b, o, none⟩) k k) ∧ w'.cell? ⟨t12, 1, none⟩ = some (.int .i64 x.pl) ∧ w'.cell? ⟨t12, 2, none⟩ = some (.int .i64 sa) ∧ w'.cell? ⟨t12, 3, none⟩ = some (.int .i64 (k : Nat)) ∧ w'.cell? ⟨t12, 4, none⟩ = some (.int .i64 sb) ∧ w'.cell? ⟨t12, 5, none⟩ = some (.bool sf) ∧ w'.cell? ⟨t12, 6, none⟩ = some (.bool scr)) ∧ (w'.cell? ⟨t13, 0, none⟩ = some (.slice (some ⟨b, o + k, none⟩) (zs.length - k) (zs.length - k)) ∧ w'.cell? ⟨t13, 1, none⟩ = some (.int .i64 (tg x.pl (k : Nat))) ∧ (w'.cell? ⟨t13, 2, none⟩ = some (.int .i64 sr.a) ∧ w'.cell? ⟨t13, 3, none⟩ = some (.int .i64 sr.s) ∧ w'.cell? ⟨t13, 4, none⟩ = some (.int .i64 sr.b) ∧ w'.cell? ⟨t13, 5, none⟩ = some (.bool sr.lf) ∧ w'.cell? ⟨t13, 6, none⟩ = some (.bool sr.cr)))) (first | (simp only [cell_set_other m1, cell_set_other m2, cell_set_other m3, cell_set_other m4, World.cell?_drew]; exact ⟨f12, f13⟩) | exact ⟨f12, f13⟩ | go_keep) (fail)
  all_goals
    go_wp2_with fail
    obtain ⟨q1, q2, q3, q4, q5⟩ := HHD2.out
    obtain ⟨r1, r2, r3, r4, r5⟩ := HRS2.out
    have ok1 : Rs.Ok ⟨sa, (k : Nat), sb, sf, scr⟩ := q5 ▸ hd.ok
    obtain ⟨p1, p2⟩ := HEB.out.2.1.put (⟨some ⟨b, o, none⟩, k, k, x.pl, ⟨sa, (k : Nat), sb, sf, scr⟩, ok1⟩ : It)
    obtain ⟨p3, p4⟩ := (HEB.out.2.2.1.other p2 (by omega)).put (⟨some ⟨b, o + k, none⟩, zs.length - k, zs.length - k, tg x.pl (k : Nat), sr, KRO.out⟩ : It)
    simp only at p2 p4
    have bz := HEB.out.2.2.2.2
    have FB := hidIt (below_put (below_put bz bz.size p2 (by omega)) (Nat.le_trans bz.size p2.size) p4 (by omega))
    refine bodyPost_ret (v := .tuple #[.agg #[.slice (some ⟨b, o, none⟩) k k, .int .i64 x.pl, .int .i64 sa, .int .i64 (k : Nat), .int .i64 sb, .bool sf, .bool scr], .agg #[.slice (some ⟨b, o + k, none⟩) (zs.length - k) (zs.length - k), .int .i64 (tg x.pl (k : Nat)), .int .i64 sr.a, .int .i64 sr.s, .int .i64 sr.b, .bool sr.lf, .bool sr.cr]]) (by simp [results, Tryz.results68, go_sem, g1, g2]) rfl ⟨hd, rs, by rw [q1, q2, q3, q4, q5, r1, r2, r3, r4, r5], ?_, ?_⟩
    · rw [hk, hsd, hsr, HPP.out]
      exact ⟨q1, q2, q3, q4, q5, r1, r2, r3, r4, r5⟩
    · exact Below.drew FB.out
end Go.Proofs.YtbmelpjmpomfcaaGreat.P

namespace Go.Proofs.YtbmelpjmpomfcaaGreat.P
open Go.RowKit

def NxR (enc : Int) (L : List Int) (g bo n : Nat) (w : World) (lv vm : Value) (os ms : List PG) (e : Ending) (w' : World) : Prop :=
  ∃ (y : It) (gy : List Int) (vo' : Value) (os' : List PG), e = .returned (.agg #[.slice y.p y.n y.c, .int .i64 y.pl, .int .i64 y.sp.a, .int .i64 y.sp.s, .int .i64 y.sp.b, .bool y.sp.lf, .bool y.sp.cr]) ∧ Pc enc L w' y gy ∧ gy.length ≤ n ∧ Wr enc L g bo w' lv vo' vm os' ms ∧ ctn enc y.pl gy ++ sh enc os' = sh enc os ∧ Kps (ow g bo vm) w w'
theorem u8_put {w w' : World} {k : Nat} {x : It} (hg : w.grownBy w' (some k)) (hx : BlkI w k x) : ∀ b, Typ 5 w b → w'.heap[b]? = w.heap[b]? := fun b hb => hg.block b hb.lt (fun e => by cases e; exact absurd (hb.uniq ⟨_, hx⟩) (by decide))
theorem Pc.cut {enc : Int} (he : Cx.En enc) {L : List Int} (hL : Byt L) {w : World} {x hd rs : It} {g : List Int} (hx : Pc enc L w x g) (n : Nat) (h0 : 0 < n) (hn : n < g.length) (b o : Nat) (hp : x.p = some ⟨b, o, none⟩)
    (h : hd.p = x.p ∧ hd.n = off enc (Cx.encB enc g) n ∧ hd.c = off enc (Cx.encB enc g) n ∧ hd.pl = x.pl ∧ hd.sp = spn enc ((Cx.dec enc (Cx.encB enc g)).take n) ∧ rs.p = some ⟨b, o + off enc (Cx.encB enc g) n, none⟩ ∧ rs.n = (Cx.encB enc g).length - off enc (Cx.encB enc g) n ∧ rs.c = (Cx.encB enc g).length - off enc (Cx.encB enc g) n ∧ rs.pl = tg x.pl (off enc (Cx.encB enc g) n) ∧ rs.sp = spn enc ((Cx.dec enc (Cx.encB enc g)).drop n)) :
    Pc enc L w hd (g.take n) ∧ Pc enc L w rs (g.drop n) ∧ ctn enc hd.pl (g.take n) ++ ctn enc rs.pl (g.drop n) = ctn enc x.pl g := by
  obtain ⟨h1, h2, h3, h4, h5, h6, h7, h8, h9, h10⟩ := h
  rw [hx.gr.dec] at h5 h10
  rw [off_gr hx.gr] at h2 h3 h6 h7 h8 h9
  obtain ⟨g1, g2⟩ := hx.gr.cut he n h0 hn
  have eB : Cx.encB enc g = Cx.encB enc (g.take n) ++ Cx.encB enc (g.drop n) := by rw [← Cx.encB_app, List.take_append_drop]
  have eL : (Cx.encB enc g).length = ln enc (g.take n) + ln enc (g.drop n) := by rw [eB, List.length_append]; rfl
  obtain ⟨b', o', hp', hr⟩ := hx.mem
  rw [hp] at hp'
  simp only [Option.some.injEq, Addr.mk.injEq, and_true] at hp'
  obtain ⟨rfl, rfl⟩ := hp'
  have r1 := hr.part 0 (ln enc (g.take n)) (by omega)
  have r2 := hr.part (ln enc (g.take n)) (ln enc (g.drop n)) (by omega)
  rw [List.drop_zero, eB, List.take_left' (show (Cx.encB enc (g.take n)).length = ln enc (g.take n) from rfl)] at r1
  rw [eB, List.drop_left' (show (Cx.encB enc (g.take n)).length = ln enc (g.take n) from rfl), List.take_of_length_le (show (Cx.encB enc (g.drop n)).length ≤ ln enc (g.drop n) from Nat.le_refl _)] at r2
  refine ⟨⟨g1, ⟨b, o, by rw [h1, hp], r1⟩, h2, h3, h5, ?_⟩, ⟨g2, ⟨b, _, h6, r2⟩, by rw [h7, eL]; omega, by rw [h8, eL]; omega, h10, ?_⟩, ?_⟩
  · rw [h4]
    rcases hx.pl with e | ⟨i, e1, e2, e3⟩
    · exact .inl e
    · refine .inr ⟨i, e1, ?_, ?_⟩
      · conv => rhs; rw [← e2]
        rw [List.take_take, List.length_take]
      · rw [List.length_take]; omega
  · rw [h9]
    rcases hx.pl with e | ⟨i, e1, e2, e3⟩
    · exact .inl (by rw [e]; rfl)
    · have t1 : ((Cx.dec enc L).drop i).take (g.take n).length = g.take n := by
        conv => rhs; rw [← e2]
        rw [List.take_take, List.length_take]
      obtain ⟨_, _, q3, _⟩ := Gr.load he hL t1 (by rw [List.length_take]; omega) g1.ne
      rw [List.length_take, Nat.min_eq_left (by omega)] at q3
      refine .inr ⟨i + n, ?_, ?_, by rw [List.length_drop]; omega⟩
      · unfold tg
        rw [if_neg (by omega), e1, ← q3]
        omega
      · conv => rhs; rw [← e2]
        rw [List.drop_take, List.drop_drop, List.length_drop]
  · rw [h4, h9, ← ctn_app enc _ _ _ hx.low, List.take_append_drop]

theorem NxR.drew {enc : Int} {L : List Int} {g bo n : Nat} {w w' : World} {lv vm : Value} {os ms : List PG} {e : Ending} (h : NxR enc L g bo n w lv vm os ms e w') : NxR enc L g bo n w lv vm os ms e w'.drew := by
  obtain ⟨y, gy, vo', os', h1, h2, h3, h4, h5, h6⟩ := h
  have hb : Below w'.heap.size w' w'.drew := (Below.refl _ _).drew
  exact ⟨y, gy, vo', os', h1, h2.ext hb, h3, h4.ext hb, h5, h6.trans (Kps.of_below _ hb) fun _ _ e => e⟩
theorem nx_fin {enc : Int} {L : List Int} {g bo n : Nat} {w w1 : World} {lv vo vo' vm : Value} {os os' ms : List PG} (h0 : Wr enc L g bo w lv vo vm os ms) (k1 : Kps (ow g bo vm) w w1) (h1 : Wr enc L g bo w1 lv vo' vm os' ms) {z0 : It} (hr : BlkI w1 w.heap.size z0) (y : It) (gy : List Int) (hy : Pc enc L w1 y gy) (hn : gy.length ≤ n) (hs : ctn enc y.pl gy ++ sh enc os' = sh enc os) :
    NxR enc L g bo n w lv vm os ms (.returned (.agg #[.slice y.p y.n y.c, .int .i64 y.pl, .int .i64 y.sp.a, .int .i64 y.sp.s, .int .i64 y.sp.b, .bool y.sp.lf, .bool y.sp.cr])) (((((((w1.setCell ⟨w.heap.size, 0, none⟩ (.slice y.p y.n y.c)).setCell ⟨w.heap.size, 1, none⟩ (.int .i64 y.pl)).setCell ⟨w.heap.size, 2, none⟩ (.int .i64 y.sp.a)).setCell ⟨w.heap.size, 3, none⟩ (.int .i64 y.sp.s)).setCell ⟨w.heap.size, 4, none⟩ (.int .i64 y.sp.b)).setCell ⟨w.heap.size, 5, none⟩ (.bool y.sp.lf)).setCell ⟨w.heap.size, 6, none⟩ (.bool y.sp.cr)) := by
  obtain ⟨p1, p2⟩ := hr.put y
  refine ⟨y, gy, vo', os', rfl, hy.same (u8_put p2 hr), hn, h1.other p2 (fun e => by have := h0.own_lt e; omega) (fun e => absurd (e.uniq ⟨_, hr⟩) (by decide)), hs, ?_⟩
  exact k1.trans (Kps.grown (o := fun k => k = w.heap.size) p2 fun j e _ => (Option.some.inj e).symm) fun i hi e => by subst e; omega

set_option maxRecDepth 100000 in
set_option maxHeartbeats 8000000 in
theorem next_any (enc : Int) (he : Cx.En enc) (L : List Int) (hL : Byt L) (hLl : L.length ≤ 1073741824) (g bo n : Nat) (lv vo vm : Value) (x : It) (gx : List Int) (os ms : List PG) (w : World) (hW : Wr enc L g bo w lv vo vm ((x, gx) :: os) ms) (h0 : 0 < n) (hl : ln enc gx ≤ 1073741824) :
    Calls Tryz.prog 121 #[.pointer (some ⟨g, 0, none⟩), .int .i64 n] w fun e w' => NxR enc L g bo n w lv vm ((x, gx) :: os) ms e w' := by
  have hx : Pc enc L w x gx := hW.po (x, gx) List.mem_cons_self
  rcases id hW.old with ⟨e, _⟩ | ⟨o, c, hvo, hc1, hc2, hrow⟩
  · exact absurd e (by simp [xsOf])
  subst hvo
  rw [xsOf_len, List.length_cons] at hc1 hW
  obtain ⟨⟨cg0, cg1, cg2, cg3⟩, cgf⟩ := hW.cells
  have hr0 := hrow.cell 0 (by simp [xsOf])
  rw [show (xsOf ((x, gx) :: os))[0]?.getD It.zero = x from rfl, Nat.zero_mul, Nat.add_zero] at hr0
  have hgl := hW.lt
  have hbl := hW.bl
  obtain ⟨wp, hwp, kr, kx, hbp, hsp⟩ : ∃ wp, wp = (w.alloc (.cells #[.slice none 0 0, .int .i64 0, .int .i64 0, .int .i64 0, .int .i64 0, .bool false, .bool false] 122)).alloc (.cells #[.slice x.p x.n x.c, .int .i64 x.pl, .int .i64 x.sp.a, .int .i64 x.sp.s, .int .i64 x.sp.b, .bool x.sp.lf, .bool x.sp.cr] 122) ∧ BlkI wp w.heap.size It.zero ∧ BlkI wp (w.heap.size + 1) x ∧ Below w.heap.size w wp ∧ wp.heap.size = w.heap.size + 2 := by
    refine ⟨_, rfl, BlkI.ext (w := w.alloc _) (heap_alloc_new _ _) (ext_alloc (Below.refl _ _) _), ?_, ext_alloc (ext_alloc (Below.refl _ _) _) _, by simp⟩
    have e : w.heap.size + 1 = (w.alloc (.cells #[.slice none 0 0, .int .i64 0, .int .i64 0, .int .i64 0, .int .i64 0, .bool false, .bool false] 122)).heap.size := by simp
    rw [e]
    exact heap_alloc_new _ _
  have HKR := hidIt kr
  have HKX := hidIt kx
  have HBP := hidIt hbp
  have HWP := hidIt (hW.ext hbp)
  have HW0 := hidIt hW
  have HROW := hidIt hrow
  have HXX := hidIt hx
  have HLB := hidIt hL
  have HEN := hidIt he
  have xa : x.sp.a = (gx.length : Nat) := by rw [hx.sp, (spn_a enc gx hx.gr.fit).1]
  have HP : Hid (∀ w', Below wp.heap.size wp w' → (w'.cell? ⟨w.heap.size + 1, 0, none⟩ = some (.slice x.p x.n x.c) ∧ w'.cell? ⟨w.heap.size + 1, 1, none⟩ = some (.int .i64 x.pl) ∧ w'.cell? ⟨w.heap.size + 1, 2, none⟩ = some (.int .i64 x.sp.a) ∧ w'.cell? ⟨w.heap.size + 1, 3, none⟩ = some (.int .i64 x.sp.s) ∧ w'.cell? ⟨w.heap.size + 1, 4, none⟩ = some (.int .i64 x.sp.b) ∧ w'.cell? ⟨w.heap.size + 1, 5, none⟩ = some (.bool x.sp.lf) ∧ w'.cell? ⟨w.heap.size + 1, 6, none⟩ = some (.bool x.sp.cr)) ∧ w'.cell? ⟨g, 0, none⟩ = some (.int .i64 enc)) := fun w' hb => ⟨(kx.ext hb).cells.1, ((ext_trans hbp hb).cell (p := ⟨g, 0, none⟩) hgl).trans cg0⟩
  clear kr kx hbp hrow hx hL he hW
  by_cases hle : gx.length ≤ n
  · have hle' : x.sp.a ≤ (n : Int) := by omega
    have XA := hidIt xa
    clear xa
    go_enter Tryz.func121, Tryz.ntmps121
    go_upto_region 2 with fail
    rw [← hwp]
    clear hwp cg0 cg1 cg2 cg3 cgf hr0
    obtain ⟨d0, _⟩ := HP.out wp (Below.refl _ _)
    obtain ⟨⟨_, _, cg2, _⟩, cgf⟩ := HWP.out.cells
    obtain ⟨r0, _, rf⟩ := HKR.out.cells
    have rl := HKR.out.lt
    have hgl' := HWP.out.lt
    have hng : ¬ g = w.heap.size := by omega
    have FIN : Hid (∀ v, OldR wp bo v (xsOf os) → NxR enc L g bo n w lv vm ((x, gx) :: os) ms (.returned (.agg #[.slice x.p x.n x.c, .int .i64 x.pl, .int .i64 x.sp.a, .int .i64 x.sp.s, .int .i64 x.sp.b, .bool x.sp.lf, .bool x.sp.cr])) ((((((((wp.setCell ⟨g, 2, none⟩ v).setCell ⟨w.heap.size, 0, none⟩ (.slice x.p x.n x.c)).setCell ⟨w.heap.size, 1, none⟩ (.int .i64 x.pl)).setCell ⟨w.heap.size, 2, none⟩ (.int .i64 x.sp.a)).setCell ⟨w.heap.size, 3, none⟩ (.int .i64 x.sp.s)).setCell ⟨w.heap.size, 4, none⟩ (.int .i64 x.sp.b)).setCell ⟨w.heap.size, 5, none⟩ (.bool x.sp.lf)).setCell ⟨w.heap.size, 6, none⟩ (.bool x.sp.cr))) := fun v hv => by
      obtain ⟨a1, a2⟩ := HWP.out.adv hv
      obtain ⟨_, s2⟩ := set1 HWP.out.blk 2 v
      exact nx_fin HW0.out ((Kps.of_below _ HBP.out).trans a2 fun _ _ e => e) a1 (HKR.out.other s2 (by omega)) x gx ((HXX.out.ext HBP.out).same (u8_kept a2 fun _ => HWP.out.own_nu)) hle (by rw [sh_cons])
    by_cases hc : c = 1
    · subst hc
      have hos : os = [] := List.length_eq_zero_iff.1 (by omega)
      have F := hidIt (FIN.out (.slice (some ⟨bo, o, none⟩) 0 0) (.inl ⟨by rw [hos]; rfl, _, _, rfl⟩))
      clear FIN hos
      go_wp2_with fail
      exact bodyPost_ret (v := .agg #[.slice x.p x.n x.c, .int .i64 x.pl, .int .i64 x.sp.a, .int .i64 x.sp.s, .int .i64 x.sp.b, .bool x.sp.lf, .bool x.sp.cr]) (by simp [results, Tryz.results121, go_sem, r0, It.zero, Rs.zero]) rfl F.out
    · have F := hidIt (FIN.out (.slice (some ⟨bo, o + 7, none⟩) os.length (c - 1)) (.inr ⟨o + 7, c - 1, by rw [xsOf_len], by rw [xsOf_len]; omega, by omega, (HROW.out.ext HBP.out).tail⟩))
      clear FIN
      go_wp2_with fail
      exact bodyPost_ret (v := .agg #[.slice x.p x.n x.c, .int .i64 x.pl, .int .i64 x.sp.a, .int .i64 x.sp.s, .int .i64 x.sp.b, .bool x.sp.lf, .bool x.sp.cr]) (by simp [results, Tryz.results121, go_sem, r0, It.zero, Rs.zero]) rfl F.out
  · have hle' : ¬ x.sp.a ≤ (n : Int) := by omega
    have XA := hidIt xa
    have SP : Hid (∀ w', Below wp.heap.size wp w' → Calls Tryz.prog 68 #[.agg #[.slice x.p x.n x.c, .int .i64 x.pl, .int .i64 x.sp.a, .int .i64 x.sp.s, .int .i64 x.sp.b, .bool x.sp.lf, .bool x.sp.cr], .int .i64 enc, .int .i64 n] w' fun e w'' => ∃ hd rs : It, e = .returned (.tuple #[.agg #[.slice hd.p hd.n hd.c, .int .i64 hd.pl, .int .i64 hd.sp.a, .int .i64 hd.sp.s, .int .i64 hd.sp.b, .bool hd.sp.lf, .bool hd.sp.cr], .agg #[.slice rs.p rs.n rs.c, .int .i64 rs.pl, .int .i64 rs.sp.a, .int .i64 rs.sp.s, .int .i64 rs.sp.b, .bool rs.sp.lf, .bool rs.sp.cr]]) ∧
      Hid ((Pc enc L w'' hd (gx.take n) ∧ Pc enc L w'' rs (gx.drop n)) ∧ ctn enc hd.pl (gx.take n) ++ ctn enc rs.pl (gx.drop n) = ctn enc x.pl gx) ∧ Below w'.heap.size w' w'') := fun w' hb => by
      have hx' := (HXX.out.ext HBP.out).ext hb
      obtain ⟨b1, o1, hp1, _⟩ := hx'.mem
      have h2 := hx'.end HEN.out HLB.out
      have h3 : (Cx.encB enc gx).length = ln enc gx := rfl
      refine (split_any enc HEN.out x (Cx.encB enc gx) n w' (hx'.rd (by omega)) hx'.gr.byt (by omega) (by rw [hx'.gr.dec]; exact hx'.sp) h0 (by rw [hx'.gr.dec]; omega) hx'.low (by omega) b1 o1 hp1 (by rw [hx'.xc]; exact Nat.le_refl _)).mono fun e w'' ⟨hd, rs, h4, h5, h6⟩ => ⟨hd, rs, h4, ?_, h6⟩
      obtain ⟨k1, k2, k3⟩ := Pc.cut HEN.out HLB.out (hx'.ext h6) n h0 (by omega) b1 o1 hp1 h5.out
      exact ⟨⟨k1, k2⟩, k3⟩
    clear xa
    go_enter Tryz.func121, Tryz.ntmps121
    go_upto_region 2 with fail
    rw [← hwp]
    clear hwp cg0 cg1 cg2 cg3 cgf hr0
    obtain ⟨d0, c0⟩ := HP.out wp (Below.refl _ _)
    go_upto_region 5 with fail
    have HBc := hidIt (Below.refl wp.heap.size wp)
    have HSZ := hidIt hsp
    clear hsp
    go_cut [6, 7] from 28 to 37 (fun p q wF => ∃ (b6 b7 : Nat) (hd rs : It), p = .pointer (some ⟨b6, 0, none⟩) ∧ q = .pointer (some ⟨b7, 0, none⟩) ∧ Hid ((Pc enc L wF hd (gx.take n) ∧ Pc enc L wF rs (gx.drop n)) ∧ ctn enc hd.pl (gx.take n) ++ ctn enc rs.pl (gx.drop n) = ctn enc x.pl gx) ∧ BlkI wF b6 hd ∧ BlkI wF b7 rs ∧ wp.heap.size ≤ b6 ∧ wp.heap.size ≤ b7 ∧ b6 ≠ b7 ∧ Below wp.heap.size wp wF)
    case first =>
      refine wp_region_held_drew (S := fun w'' => (w''.cell? ⟨w.heap.size + 1, 0, none⟩ = some (.slice x.p x.n x.c) ∧ w''.cell? ⟨w.heap.size + 1, 1, none⟩ = some (.int .i64 x.pl) ∧ w''.cell? ⟨w.heap.size + 1, 2, none⟩ = some (.int .i64 x.sp.a) ∧ w''.cell? ⟨w.heap.size + 1, 3, none⟩ = some (.int .i64 x.sp.s) ∧ w''.cell? ⟨w.heap.size + 1, 4, none⟩ = some (.int .i64 x.sp.b) ∧ w''.cell? ⟨w.heap.size + 1, 5, none⟩ = some (.bool x.sp.lf) ∧ w''.cell? ⟨w.heap.size + 1, 6, none⟩ = some (.bool x.sp.cr)) ∧ w''.cell? ⟨g, 0, none⟩ = some (.int .i64 enc)) (by kernel_rfl) (⟨d0, c0⟩) (fun hHeld => ?_)
      refine tkH (v := ?_) 0 rfl ?_ ?_; rotate_left 1
      · intro wq hSw; (try dsimp only at hSw); go_simp; try (with_reducible rfl)
      try simp only [Act.put, sA1, sA3, sA4, sA5, sA6]
      refine tkH (v := ?_) 1 rfl ?_ ?_; rotate_left 1
      · intro wq hSw; (try dsimp only at hSw); go_simp; try (with_reducible rfl)
      try simp only [Act.put, sA1, sA2, sA3, sA4, sA5, sA6]
      refine tkH (v := ?_) 2 rfl ?_ ?_; rotate_left 1
      · intro wq hSw; (try dsimp only at hSw); go_simp; try (with_reducible rfl)
      try simp only [Act.put, sA1, sA2, sA3, sA4, sA5, sA6]
      refine tkH (v := ?_) 3 rfl ?_ ?_; rotate_left 1
      · intro wq hSw; (try dsimp only at hSw); go_simp; try (with_reducible rfl)
      try simp only [Act.put, sA1, sA2, sA3, sA4, sA5, sA6]
      refine tkH (v := ?_) 4 rfl ?_ ?_; rotate_left 1
      · intro wq hSw; (try dsimp only at hSw); go_simp; try (with_reducible rfl)
      try simp only [Act.put, sA1, sA2, sA3, sA4, sA5, sA6]
      refine tkH (v := ?_) 5 rfl ?_ ?_; rotate_left 1
      · intro wq hSw; (try dsimp only at hSw); go_simp; try (with_reducible rfl)
      try simp only [Act.put, sA1, sA2, sA3, sA4, sA5, sA6]
      refine wpAnyH_ready (rs := [6, 10, 11]) (by kernel_rfl) (by simp) ?_
      refine (AllReadyH.cons (o := _) rfl (fun K hK => ?_) (AllReadyH.cons (o := _) rfl (fun K hK => ?_) (AllReadyH.cons (o := _) rfl (fun K hK => ?_) AllReadyH.nil)))
      · skip
        go_simp
        refine (SP.out _ HBc.out.drew).mono ?_; (try clear z6 zf6 zl6); (try clear z7 zf7 zl7); clear d0 c0; rintro e v1 ⟨hd, rs, rfl, HSP, hb⟩; have hst : Below wp.heap.size wp v1 := ext_trans (Below.drew (Below.refl _ _)) hb; clear hb; have HBn := hidIt (ext_trans HBc.out hst); clear HBc; have HBc := HBn; clear HBn; obtain ⟨d0, c0⟩ := HP.out v1 HBc.out; have sz1 : wp.heap.size ≤ v1.heap.size := hst.size; clear hst; try dsimp only
        refine hK.out _ _ ?_ (fun hHeld => ?_)
        · (try simp only [World.cell?_drew]); exact HP.out v1 HBc.out
        clear hK K
        try simp only [Act.put, sA1, sA2, sA3, sA4, sA5, sA6]
        refine tkH (v := ?_) 7 rfl ?_ ?_; rotate_left 1
        · intro wq hSw; (try dsimp only at hSw); go_simp; try (with_reducible rfl)
        try simp only [Act.put, sA1, sA2, sA3, sA4, sA5, sA6]
        refine tkH (v := ?_) 8 rfl ?_ ?_; rotate_left 1
        · intro wq hSw; (try dsimp only at hSw); go_simp; try (with_reducible rfl)
        try simp only [Act.put, sA1, sA2, sA3, sA4, sA5, sA6]
        refine tkH (v := ?_) 9 rfl ?_ ?_; rotate_left 1
        · intro wq hSw; (try dsimp only at hSw); go_simp; try (with_reducible rfl)
        try simp only [Act.put, sA1, sA2, sA3, sA4, sA5, sA6]
        refine wpAnyH_ready (rs := [10, 11]) (by kernel_rfl) (by simp) ?_
        refine (AllReadyH.cons (o := _) rfl (fun K hK => ?_) (AllReadyH.cons (o := _) rfl (fun K hK => ?_) AllReadyH.nil))
        · skip
          go_simp
          generalize hwN : World.alloc _ _ = v2; have hst : Below v1.heap.size v1 v2 := (by rw [← hwN]; exact ext_alloc (Below.refl _ _) _); (try clear z6 zf6 zl6); (try clear z7 zf7 zl7); clear d0 c0; have HSn : Hid ((Pc enc L v2 hd (gx.take n) ∧ Pc enc L v2 rs (gx.drop n)) ∧ ctn enc hd.pl (gx.take n) ++ ctn enc rs.pl (gx.drop n) = ctn enc x.pl gx) := ⟨⟨HSP.out.1.1.ext hst, HSP.out.1.2.ext hst⟩, HSP.out.2⟩; clear HSP; have HSP := HSn; clear HSn; have HBn := hidIt (ext_trans HBc.out hst); clear HBc; have HBc := HBn; clear HBn; have H6 : Hid (BlkI v2 v1.heap.size It.zero) := (by unfold Hid; rw [← hwN]; exact heap_alloc_new _ _); obtain ⟨z6, _, zf6⟩ := H6.out.cells; have zl6 := H6.out.lt; have lb10 : wp.heap.size ≤ v1.heap.size := (by omega); have sz2 : v1.heap.size < v2.heap.size := H6.out.lt; obtain ⟨d0, c0⟩ := HP.out v2 HBc.out; clear hwN hst
          refine hK.out _ _ ?_ (fun hHeld => ?_)
          · (try simp only [World.cell?_drew]); exact HP.out v2 HBc.out
          clear hK K
          try simp only [Act.put, sA1, sA2, sA3, sA4, sA5, sA6]
          refine wpAnyH_ready (rs := [11]) (by kernel_rfl) (by simp) ?_
          refine AllReadyH.cons (o := _) rfl (fun K hK => ?_) AllReadyH.nil
          go_simp
          generalize hwN : World.alloc _ _ = v3; have hst : Below v2.heap.size v2 v3 := (by rw [← hwN]; exact ext_alloc (Below.refl _ _) _); (try clear z6 zf6 zl6); (try clear z7 zf7 zl7); clear d0 c0; have HSn : Hid ((Pc enc L v3 hd (gx.take n) ∧ Pc enc L v3 rs (gx.drop n)) ∧ ctn enc hd.pl (gx.take n) ++ ctn enc rs.pl (gx.drop n) = ctn enc x.pl gx) := ⟨⟨HSP.out.1.1.ext hst, HSP.out.1.2.ext hst⟩, HSP.out.2⟩; clear HSP; have HSP := HSn; clear HSn; have HBn := hidIt (ext_trans HBc.out hst); clear HBc; have HBc := HBn; clear HBn; have Hn := hidIt (H6.out.ext hst); clear H6; have H6 := Hn; clear Hn; obtain ⟨z6, _, zf6⟩ := H6.out.cells; have zl6 := H6.out.lt; have H7 : Hid (BlkI v3 v2.heap.size It.zero) := (by unfold Hid; rw [← hwN]; exact heap_alloc_new _ _); obtain ⟨z7, _, zf7⟩ := H7.out.cells; have zl7 := H7.out.lt; have lb11 : wp.heap.size ≤ v2.heap.size := (by omega); have sz3 : v2.heap.size < v3.heap.size := H7.out.lt; obtain ⟨d0, c0⟩ := HP.out v3 HBc.out; clear hwN hst
          refine hK.out _ _ ?_ (fun hHeld => ?_)
          · (try simp only [World.cell?_drew]); exact HP.out v3 HBc.out
          clear hK K
          try simp only [Act.put, sA1, sA2, sA3, sA4, sA5, sA6]
          refine wpAnyH_ready (rs := [12]) (by kernel_rfl) (by simp) ?_
          refine AllReadyH.cons (o := _) rfl (fun K hK => ?_) AllReadyH.nil
          go_simp
          generalize hwN : World.setCell _ _ _ = v4; have q0 := H6.out; have q2 : v3.grownBy v4 (some v1.heap.size) := (by rw [← hwN]; exact (H6.out.put hd).2); have q1 : BlkI v4 v1.heap.size hd := (by rw [← hwN]; exact (H6.out.put hd).1); (try clear z6 zf6 zl6); (try clear z7 zf7 zl7); clear d0 c0; have HBn := hidIt (below_put HBc.out HBc.out.size q2 (by omega)); clear HBc; have HBc := HBn; clear HBn; clear H6; have H6 := hidIt q1; have HSn : Hid ((Pc enc L v4 hd (gx.take n) ∧ Pc enc L v4 rs (gx.drop n)) ∧ ctn enc hd.pl (gx.take n) ++ ctn enc rs.pl (gx.drop n) = ctn enc x.pl gx) := ⟨⟨HSP.out.1.1.same (u8_put q2 q0), HSP.out.1.2.same (u8_put q2 q0)⟩, HSP.out.2⟩; clear HSP q0; have HSP := HSn; clear HSn; have Hn := hidIt (H7.out.other q2 (by omega)); clear H7; have H7 := Hn; clear Hn; obtain ⟨z6, _, zf6⟩ := H6.out.cells; have zl6 := H6.out.lt; obtain ⟨z7, _, zf7⟩ := H7.out.cells; have zl7 := H7.out.lt; obtain ⟨d0, c0⟩ := HP.out v4 HBc.out; have sz4 := q2.size; clear hwN q1 q2
          refine hK.out _ _ ?_ (fun hHeld => ?_)
          · (try simp only [World.cell?_drew]); exact HP.out v4 HBc.out
          clear hK K
          try simp only [Act.put, sA1, sA2, sA3, sA4, sA5, sA6]
          refine wpAnyH_ready (rs := [13]) (by kernel_rfl) (by simp) ?_
          refine AllReadyH.cons (o := _) rfl (fun K hK => ?_) AllReadyH.nil
          go_simp
          generalize hwN : World.setCell _ _ _ = v5; have q0 := H7.out; have q2 : v4.grownBy v5 (some v2.heap.size) := (by rw [← hwN]; exact (H7.out.put rs).2); have q1 : BlkI v5 v2.heap.size rs := (by rw [← hwN]; exact (H7.out.put rs).1); (try clear z6 zf6 zl6); (try clear z7 zf7 zl7); clear d0 c0; have HBn := hidIt (below_put HBc.out HBc.out.size q2 (by omega)); clear HBc; have HBc := HBn; clear HBn; clear H7; have H7 := hidIt q1; have HSn : Hid ((Pc enc L v5 hd (gx.take n) ∧ Pc enc L v5 rs (gx.drop n)) ∧ ctn enc hd.pl (gx.take n) ++ ctn enc rs.pl (gx.drop n) = ctn enc x.pl gx) := ⟨⟨HSP.out.1.1.same (u8_put q2 q0), HSP.out.1.2.same (u8_put q2 q0)⟩, HSP.out.2⟩; clear HSP q0; have HSP := HSn; clear HSn; have Hn := hidIt (H6.out.other q2 (by omega)); clear H6; have H6 := Hn; clear Hn; obtain ⟨z6, _, zf6⟩ := H6.out.cells; have zl6 := H6.out.lt; obtain ⟨z7, _, zf7⟩ := H7.out.cells; have zl7 := H7.out.lt; obtain ⟨d0, c0⟩ := HP.out v5 HBc.out; have sz5 := q2.size; clear hwN q1 q2
          refine hK.out _ _ ?_ (fun hHeld => ?_)
          · (try simp only [World.cell?_drew]); exact HP.out v5 HBc.out
          clear hK K
          try simp only [Act.put, sA1, sA2, sA3, sA4, sA5, sA6]
          refine wpAnyH_done (by kernel_rfl) ?_ _
          go_wp2_with fail
          go_meet
          case rel => exact ⟨v1.heap.size, v2.heap.size, hd, rs, rfl, rfl, HSP, H6.out, H7.out, by omega, by omega, by omega, HBc.out⟩
        · skip
          go_simp
          generalize hwN : World.alloc _ _ = v2; have hst : Below v1.heap.size v1 v2 := (by rw [← hwN]; exact ext_alloc (Below.refl _ _) _); (try clear z6 zf6 zl6); (try clear z7 zf7 zl7); clear d0 c0; have HSn : Hid ((Pc enc L v2 hd (gx.take n) ∧ Pc enc L v2 rs (gx.drop n)) ∧ ctn enc hd.pl (gx.take n) ++ ctn enc rs.pl (gx.drop n) = ctn enc x.pl gx) := ⟨⟨HSP.out.1.1.ext hst, HSP.out.1.2.ext hst⟩, HSP.out.2⟩; clear HSP; have HSP := HSn; clear HSn; have HBn := hidIt (ext_trans HBc.out hst); clear HBc; have HBc := HBn; clear HBn; have H7 : Hid (BlkI v2 v1.heap.size It.zero) := (by unfold Hid; rw [← hwN]; exact heap_alloc_new _ _); obtain ⟨z7, _, zf7⟩ := H7.out.cells; have zl7 := H7.out.lt; have lb11 : wp.heap.size ≤ v1.heap.size := (by omega); have sz2 : v1.heap.size < v2.heap.size := H7.out.lt; obtain ⟨d0, c0⟩ := HP.out v2 HBc.out; clear hwN hst
          refine hK.out _ _ ?_ (fun hHeld => ?_)
          · (try simp only [World.cell?_drew]); exact HP.out v2 HBc.out
          clear hK K
          try simp only [Act.put, sA1, sA2, sA3, sA4, sA5, sA6]
          refine wpAnyH_ready (rs := [10]) (by kernel_rfl) (by simp) ?_
          refine AllReadyH.cons (o := _) rfl (fun K hK => ?_) AllReadyH.nil
          go_simp
          generalize hwN : World.alloc _ _ = v3; have hst : Below v2.heap.size v2 v3 := (by rw [← hwN]; exact ext_alloc (Below.refl _ _) _); (try clear z6 zf6 zl6); (try clear z7 zf7 zl7); clear d0 c0; have HSn : Hid ((Pc enc L v3 hd (gx.take n) ∧ Pc enc L v3 rs (gx.drop n)) ∧ ctn enc hd.pl (gx.take n) ++ ctn enc rs.pl (gx.drop n) = ctn enc x.pl gx) := ⟨⟨HSP.out.1.1.ext hst, HSP.out.1.2.ext hst⟩, HSP.out.2⟩; clear HSP; have HSP := HSn; clear HSn; have HBn := hidIt (ext_trans HBc.out hst); clear HBc; have HBc := HBn; clear HBn; have Hn := hidIt (H7.out.ext hst); clear H7; have H7 := Hn; clear Hn; obtain ⟨z7, _, zf7⟩ := H7.out.cells; have zl7 := H7.out.lt; have H6 : Hid (BlkI v3 v2.heap.size It.zero) := (by unfold Hid; rw [← hwN]; exact heap_alloc_new _ _); obtain ⟨z6, _, zf6⟩ := H6.out.cells; have zl6 := H6.out.lt; have lb10 : wp.heap.size ≤ v2.heap.size := (by omega); have sz3 : v2.heap.size < v3.heap.size := H6.out.lt; obtain ⟨d0, c0⟩ := HP.out v3 HBc.out; clear hwN hst
          refine hK.out _ _ ?_ (fun hHeld => ?_)
          · (try simp only [World.cell?_drew]); exact HP.out v3 HBc.out
          clear hK K
          try simp only [Act.put, sA1, sA2, sA3, sA4, sA5, sA6]
          refine wpAnyH_ready (rs := [12]) (by kernel_rfl) (by simp) ?_
          refine AllReadyH.cons (o := _) rfl (fun K hK => ?_) AllReadyH.nil
          go_simp
          generalize hwN : World.setCell _ _ _ = v4; have q0 := H6.out; have q2 : v3.grownBy v4 (some v2.heap.size) := (by rw [← hwN]; exact (H6.out.put hd).2); have q1 : BlkI v4 v2.heap.size hd := (by rw [← hwN]; exact (H6.out.put hd).1); (try clear z6 zf6 zl6); (try clear z7 zf7 zl7); clear d0 c0; have HBn := hidIt (below_put HBc.out HBc.out.size q2 (by omega)); clear HBc; have HBc := HBn; clear HBn; clear H6; have H6 := hidIt q1; have HSn : Hid ((Pc enc L v4 hd (gx.take n) ∧ Pc enc L v4 rs (gx.drop n)) ∧ ctn enc hd.pl (gx.take n) ++ ctn enc rs.pl (gx.drop n) = ctn enc x.pl gx) := ⟨⟨HSP.out.1.1.same (u8_put q2 q0), HSP.out.1.2.same (u8_put q2 q0)⟩, HSP.out.2⟩; clear HSP q0; have HSP := HSn; clear HSn; have Hn := hidIt (H7.out.other q2 (by omega)); clear H7; have H7 := Hn; clear Hn; obtain ⟨z6, _, zf6⟩ := H6.out.cells; have zl6 := H6.out.lt; obtain ⟨z7, _, zf7⟩ := H7.out.cells; have zl7 := H7.out.lt; obtain ⟨d0, c0⟩ := HP.out v4 HBc.out; have sz4 := q2.size; clear hwN q1 q2
          refine hK.out _ _ ?_ (fun hHeld => ?_)
          · (try simp only [World.cell?_drew]); exact HP.out v4 HBc.out
          clear hK K
          try simp only [Act.put, sA1, sA2, sA3, sA4, sA5, sA6]
          refine wpAnyH_ready (rs := [13]) (by kernel_rfl) (by simp) ?_
          refine AllReadyH.cons (o := _) rfl (fun K hK => ?_) AllReadyH.nil
          go_simp
          generalize hwN : World.setCell _ _ _ = v5; have q0 := H7.out; have q2 : v4.grownBy v5 (some v1.heap.size) := (by rw [← hwN]; exact (H7.out.put rs).2); have q1 : BlkI v5 v1.heap.size rs := (by rw [← hwN]; exact (H7.out.put rs).1); (try clear z6 zf6 zl6); (try clear z7 zf7 zl7); clear d0 c0; have HBn := hidIt (below_put HBc.out HBc.out.size q2 (by omega)); clear HBc; have HBc := HBn; clear HBn; clear H7; have H7 := hidIt q1; have HSn : Hid ((Pc enc L v5 hd (gx.take n) ∧ Pc enc L v5 rs (gx.drop n)) ∧ ctn enc hd.pl (gx.take n) ++ ctn enc rs.pl (gx.drop n) = ctn enc x.pl gx) := ⟨⟨HSP.out.1.1.same (u8_put q2 q0), HSP.out.1.2.same (u8_put q2 q0)⟩, HSP.out.2⟩; clear HSP q0; have HSP := HSn; clear HSn; have Hn := hidIt (H6.out.other q2 (by omega)); clear H6; have H6 := Hn; clear Hn; obtain ⟨z6, _, zf6⟩ := H6.out.cells; have zl6 := H6.out.lt; obtain ⟨z7, _, zf7⟩ := H7.out.cells; have zl7 := H7.out.lt; obtain ⟨d0, c0⟩ := HP.out v5 HBc.out; have sz5 := q2.size; clear hwN q1 q2
          refine hK.out _ _ ?_ (fun hHeld => ?_)
          · (try simp only [World.cell?_drew]); exact HP.out v5 HBc.out
          clear hK K
          try simp only [Act.put, sA1, sA2, sA3, sA4, sA5, sA6]
          refine wpAnyH_done (by kernel_rfl) ?_ _
          go_wp2_with fail
          go_meet
          case rel => exact ⟨v2.heap.size, v1.heap.size, hd, rs, rfl, rfl, HSP, H6.out, H7.out, by omega, by omega, by omega, HBc.out⟩
      · skip
        go_simp
        generalize hwN : World.alloc _ _ = v1; have hst : Below wp.heap.size wp v1 := (by rw [← hwN]; exact ext_alloc (Below.refl _ _) _); (try clear z6 zf6 zl6); (try clear z7 zf7 zl7); clear d0 c0; have HBn := hidIt (ext_trans HBc.out hst); clear HBc; have HBc := HBn; clear HBn; have H6 : Hid (BlkI v1 wp.heap.size It.zero) := (by unfold Hid; rw [← hwN]; exact heap_alloc_new _ _); obtain ⟨z6, _, zf6⟩ := H6.out.cells; have zl6 := H6.out.lt; have lb10 : wp.heap.size ≤ wp.heap.size := (by exact Nat.le_refl _); have sz1 : wp.heap.size < v1.heap.size := H6.out.lt; obtain ⟨d0, c0⟩ := HP.out v1 HBc.out; clear hwN hst
        refine hK.out _ _ ?_ (fun hHeld => ?_)
        · (try simp only [World.cell?_drew]); exact HP.out v1 HBc.out
        clear hK K
        try simp only [Act.put, sA1, sA2, sA3, sA4, sA5, sA6]
        refine wpAnyH_ready (rs := [6, 11]) (by kernel_rfl) (by simp) ?_
        refine (AllReadyH.cons (o := _) rfl (fun K hK => ?_) (AllReadyH.cons (o := _) rfl (fun K hK => ?_) AllReadyH.nil))
        · skip
          go_simp
          refine (SP.out _ HBc.out.drew).mono ?_; (try clear z6 zf6 zl6); (try clear z7 zf7 zl7); clear d0 c0; rintro e v2 ⟨hd, rs, rfl, HSP, hb⟩; have hst : Below v1.heap.size v1 v2 := ext_trans (Below.drew (Below.refl _ _)) hb; clear hb; have HBn := hidIt (ext_trans HBc.out hst); clear HBc; have HBc := HBn; clear HBn; have Hn := hidIt (H6.out.ext hst); clear H6; have H6 := Hn; clear Hn; obtain ⟨z6, _, zf6⟩ := H6.out.cells; have zl6 := H6.out.lt; obtain ⟨d0, c0⟩ := HP.out v2 HBc.out; have sz2 : v1.heap.size ≤ v2.heap.size := hst.size; clear hst; try dsimp only
          refine hK.out _ _ ?_ (fun hHeld => ?_)
          · (try simp only [World.cell?_drew]); exact HP.out v2 HBc.out
          clear hK K
          try simp only [Act.put, sA1, sA2, sA3, sA4, sA5, sA6]
          refine tkH (v := ?_) 7 rfl ?_ ?_; rotate_left 1
          · intro wq hSw; (try dsimp only at hSw); go_simp; try (with_reducible rfl)
          try simp only [Act.put, sA1, sA2, sA3, sA4, sA5, sA6]
          refine tkH (v := ?_) 8 rfl ?_ ?_; rotate_left 1
          · intro wq hSw; (try dsimp only at hSw); go_simp; try (with_reducible rfl)
          try simp only [Act.put, sA1, sA2, sA3, sA4, sA5, sA6]
          refine tkH (v := ?_) 9 rfl ?_ ?_; rotate_left 1
          · intro wq hSw; (try dsimp only at hSw); go_simp; try (with_reducible rfl)
          try simp only [Act.put, sA1, sA2, sA3, sA4, sA5, sA6]
          refine wpAnyH_ready (rs := [11]) (by kernel_rfl) (by simp) ?_
          refine AllReadyH.cons (o := _) rfl (fun K hK => ?_) AllReadyH.nil
          go_simp
          generalize hwN : World.alloc _ _ = v3; have hst : Below v2.heap.size v2 v3 := (by rw [← hwN]; exact ext_alloc (Below.refl _ _) _); (try clear z6 zf6 zl6); (try clear z7 zf7 zl7); clear d0 c0; have HSn : Hid ((Pc enc L v3 hd (gx.take n) ∧ Pc enc L v3 rs (gx.drop n)) ∧ ctn enc hd.pl (gx.take n) ++ ctn enc rs.pl (gx.drop n) = ctn enc x.pl gx) := ⟨⟨HSP.out.1.1.ext hst, HSP.out.1.2.ext hst⟩, HSP.out.2⟩; clear HSP; have HSP := HSn; clear HSn; have HBn := hidIt (ext_trans HBc.out hst); clear HBc; have HBc := HBn; clear HBn; have Hn := hidIt (H6.out.ext hst); clear H6; have H6 := Hn; clear Hn; obtain ⟨z6, _, zf6⟩ := H6.out.cells; have zl6 := H6.out.lt; have H7 : Hid (BlkI v3 v2.heap.size It.zero) := (by unfold Hid; rw [← hwN]; exact heap_alloc_new _ _); obtain ⟨z7, _, zf7⟩ := H7.out.cells; have zl7 := H7.out.lt; have lb11 : wp.heap.size ≤ v2.heap.size := (by omega); have sz3 : v2.heap.size < v3.heap.size := H7.out.lt; obtain ⟨d0, c0⟩ := HP.out v3 HBc.out; clear hwN hst
          refine hK.out _ _ ?_ (fun hHeld => ?_)
          · (try simp only [World.cell?_drew]); exact HP.out v3 HBc.out
          clear hK K
          try simp only [Act.put, sA1, sA2, sA3, sA4, sA5, sA6]
          refine wpAnyH_ready (rs := [12]) (by kernel_rfl) (by simp) ?_
          refine AllReadyH.cons (o := _) rfl (fun K hK => ?_) AllReadyH.nil
          go_simp
          generalize hwN : World.setCell _ _ _ = v4; have q0 := H6.out; have q2 : v3.grownBy v4 (some wp.heap.size) := (by rw [← hwN]; exact (H6.out.put hd).2); have q1 : BlkI v4 wp.heap.size hd := (by rw [← hwN]; exact (H6.out.put hd).1); (try clear z6 zf6 zl6); (try clear z7 zf7 zl7); clear d0 c0; have HBn := hidIt (below_put HBc.out HBc.out.size q2 (by omega)); clear HBc; have HBc := HBn; clear HBn; clear H6; have H6 := hidIt q1; have HSn : Hid ((Pc enc L v4 hd (gx.take n) ∧ Pc enc L v4 rs (gx.drop n)) ∧ ctn enc hd.pl (gx.take n) ++ ctn enc rs.pl (gx.drop n) = ctn enc x.pl gx) := ⟨⟨HSP.out.1.1.same (u8_put q2 q0), HSP.out.1.2.same (u8_put q2 q0)⟩, HSP.out.2⟩; clear HSP q0; have HSP := HSn; clear HSn; have Hn := hidIt (H7.out.other q2 (by omega)); clear H7; have H7 := Hn; clear Hn; obtain ⟨z6, _, zf6⟩ := H6.out.cells; have zl6 := H6.out.lt; obtain ⟨z7, _, zf7⟩ := H7.out.cells; have zl7 := H7.out.lt; obtain ⟨d0, c0⟩ := HP.out v4 HBc.out; have sz4 := q2.size; clear hwN q1 q2
          refine hK.out _ _ ?_ (fun hHeld => ?_)
          · (try simp only [World.cell?_drew]); exact HP.out v4 HBc.out
          clear hK K
          try simp only [Act.put, sA1, sA2, sA3, sA4, sA5, sA6]
          refine wpAnyH_ready (rs := [13]) (by kernel_rfl) (by simp) ?_
          refine AllReadyH.cons (o := _) rfl (fun K hK => ?_) AllReadyH.nil
          go_simp
          generalize hwN : World.setCell _ _ _ = v5; have q0 := H7.out; have q2 : v4.grownBy v5 (some v2.heap.size) := (by rw [← hwN]; exact (H7.out.put rs).2); have q1 : BlkI v5 v2.heap.size rs := (by rw [← hwN]; exact (H7.out.put rs).1); (try clear z6 zf6 zl6); (try clear z7 zf7 zl7); clear d0 c0; have HBn := hidIt (below_put HBc.out HBc.out.size q2 (by omega)); clear HBc; have HBc := HBn; clear HBn; clear H7; have H7 := hidIt q1; have HSn : Hid ((Pc enc L v5 hd (gx.take n) ∧ Pc enc L v5 rs (gx.drop n)) ∧ ctn enc hd.pl (gx.take n) ++ ctn enc rs.pl (gx.drop n) = ctn enc x.pl gx) := ⟨⟨HSP.out.1.1.same (u8_put q2 q0), HSP.out.1.2.same (u8_put q2 q0)⟩, HSP.out.2⟩; clear HSP q0; have HSP := HSn; clear HSn; have Hn := hidIt (H6.out.other q2 (by omega)); clear H6; have H6 := Hn; clear Hn; obtain ⟨z6, _, zf6⟩ := H6.out.cells; have zl6 := H6.out.lt; obtain ⟨z7, _, zf7⟩ := H7.out.cells; have zl7 := H7.out.lt; obtain ⟨d0, c0⟩ := HP.out v5 HBc.out; have sz5 := q2.size; clear hwN q1 q2
          refine hK.out _ _ ?_ (fun hHeld => ?_)
          · (try simp only [World.cell?_drew]); exact HP.out v5 HBc.out
          clear hK K
          try simp only [Act.put, sA1, sA2, sA3, sA4, sA5, sA6]
          refine wpAnyH_done (by kernel_rfl) ?_ _
          go_wp2_with fail
          go_meet
          case rel => exact ⟨wp.heap.size, v2.heap.size, hd, rs, rfl, rfl, HSP, H6.out, H7.out, by omega, by omega, by omega, HBc.out⟩
        · skip
          go_simp
          generalize hwN : World.alloc _ _ = v2; have hst : Below v1.heap.size v1 v2 := (by rw [← hwN]; exact ext_alloc (Below.refl _ _) _); (try clear z6 zf6 zl6); (try clear z7 zf7 zl7); clear d0 c0; have HBn := hidIt (ext_trans HBc.out hst); clear HBc; have HBc := HBn; clear HBn; have Hn := hidIt (H6.out.ext hst); clear H6; have H6 := Hn; clear Hn; obtain ⟨z6, _, zf6⟩ := H6.out.cells; have zl6 := H6.out.lt; have H7 : Hid (BlkI v2 v1.heap.size It.zero) := (by unfold Hid; rw [← hwN]; exact heap_alloc_new _ _); obtain ⟨z7, _, zf7⟩ := H7.out.cells; have zl7 := H7.out.lt; have lb11 : wp.heap.size ≤ v1.heap.size := (by omega); have sz2 : v1.heap.size < v2.heap.size := H7.out.lt; obtain ⟨d0, c0⟩ := HP.out v2 HBc.out; clear hwN hst
          refine hK.out _ _ ?_ (fun hHeld => ?_)
          · (try simp only [World.cell?_drew]); exact HP.out v2 HBc.out
          clear hK K
          try simp only [Act.put, sA1, sA2, sA3, sA4, sA5, sA6]
          refine wpAnyH_ready (rs := [6]) (by kernel_rfl) (by simp) ?_
          refine AllReadyH.cons (o := _) rfl (fun K hK => ?_) AllReadyH.nil
          go_simp
          refine (SP.out _ HBc.out.drew).mono ?_; (try clear z6 zf6 zl6); (try clear z7 zf7 zl7); clear d0 c0; rintro e v3 ⟨hd, rs, rfl, HSP, hb⟩; have hst : Below v2.heap.size v2 v3 := ext_trans (Below.drew (Below.refl _ _)) hb; clear hb; have HBn := hidIt (ext_trans HBc.out hst); clear HBc; have HBc := HBn; clear HBn; have Hn := hidIt (H6.out.ext hst); clear H6; have H6 := Hn; clear Hn; obtain ⟨z6, _, zf6⟩ := H6.out.cells; have zl6 := H6.out.lt; have Hn := hidIt (H7.out.ext hst); clear H7; have H7 := Hn; clear Hn; obtain ⟨z7, _, zf7⟩ := H7.out.cells; have zl7 := H7.out.lt; obtain ⟨d0, c0⟩ := HP.out v3 HBc.out; have sz3 : v2.heap.size ≤ v3.heap.size := hst.size; clear hst; try dsimp only
          refine hK.out _ _ ?_ (fun hHeld => ?_)
          · (try simp only [World.cell?_drew]); exact HP.out v3 HBc.out
          clear hK K
          try simp only [Act.put, sA1, sA2, sA3, sA4, sA5, sA6]
          refine tkH (v := ?_) 7 rfl ?_ ?_; rotate_left 1
          · intro wq hSw; (try dsimp only at hSw); go_simp; try (with_reducible rfl)
          try simp only [Act.put, sA1, sA2, sA3, sA4, sA5, sA6]
          refine tkH (v := ?_) 8 rfl ?_ ?_; rotate_left 1
          · intro wq hSw; (try dsimp only at hSw); go_simp; try (with_reducible rfl)
          try simp only [Act.put, sA1, sA2, sA3, sA4, sA5, sA6]
          refine tkH (v := ?_) 9 rfl ?_ ?_; rotate_left 1
          · intro wq hSw; (try dsimp only at hSw); go_simp; try (with_reducible rfl)
          try simp only [Act.put, sA1, sA2, sA3, sA4, sA5, sA6]
          refine wpAnyH_ready (rs := [12]) (by kernel_rfl) (by simp) ?_
          refine AllReadyH.cons (o := _) rfl (fun K hK => ?_) AllReadyH.nil
          go_simp
          generalize hwN : World.setCell _ _ _ = v4; have q0 := H6.out; have q2 : v3.grownBy v4 (some wp.heap.size) := (by rw [← hwN]; exact (H6.out.put hd).2); have q1 : BlkI v4 wp.heap.size hd := (by rw [← hwN]; exact (H6.out.put hd).1); (try clear z6 zf6 zl6); (try clear z7 zf7 zl7); clear d0 c0; have HBn := hidIt (below_put HBc.out HBc.out.size q2 (by omega)); clear HBc; have HBc := HBn; clear HBn; clear H6; have H6 := hidIt q1; have HSn : Hid ((Pc enc L v4 hd (gx.take n) ∧ Pc enc L v4 rs (gx.drop n)) ∧ ctn enc hd.pl (gx.take n) ++ ctn enc rs.pl (gx.drop n) = ctn enc x.pl gx) := ⟨⟨HSP.out.1.1.same (u8_put q2 q0), HSP.out.1.2.same (u8_put q2 q0)⟩, HSP.out.2⟩; clear HSP q0; have HSP := HSn; clear HSn; have Hn := hidIt (H7.out.other q2 (by omega)); clear H7; have H7 := Hn; clear Hn; obtain ⟨z6, _, zf6⟩ := H6.out.cells; have zl6 := H6.out.lt; obtain ⟨z7, _, zf7⟩ := H7.out.cells; have zl7 := H7.out.lt; obtain ⟨d0, c0⟩ := HP.out v4 HBc.out; have sz4 := q2.size; clear hwN q1 q2
          refine hK.out _ _ ?_ (fun hHeld => ?_)
          · (try simp only [World.cell?_drew]); exact HP.out v4 HBc.out
          clear hK K
          try simp only [Act.put, sA1, sA2, sA3, sA4, sA5, sA6]
          refine wpAnyH_ready (rs := [13]) (by kernel_rfl) (by simp) ?_
          refine AllReadyH.cons (o := _) rfl (fun K hK => ?_) AllReadyH.nil
          go_simp
          generalize hwN : World.setCell _ _ _ = v5; have q0 := H7.out; have q2 : v4.grownBy v5 (some v1.heap.size) := (by rw [← hwN]; exact (H7.out.put rs).2); have q1 : BlkI v5 v1.heap.size rs := (by rw [← hwN]; exact (H7.out.put rs).1); (try clear z6 zf6 zl6); (try clear z7 zf7 zl7); clear d0 c0; have HBn := hidIt (below_put HBc.out HBc.out.size q2 (by omega)); clear HBc; have HBc := HBn; clear HBn; clear H7; have H7 := hidIt q1; have HSn : Hid ((Pc enc L v5 hd (gx.take n) ∧ Pc enc L v5 rs (gx.drop n)) ∧ ctn enc hd.pl (gx.take n) ++ ctn enc rs.pl (gx.drop n) = ctn enc x.pl gx) := ⟨⟨HSP.out.1.1.same (u8_put q2 q0), HSP.out.1.2.same (u8_put q2 q0)⟩, HSP.out.2⟩; clear HSP q0; have HSP := HSn; clear HSn; have Hn := hidIt (H6.out.other q2 (by omega)); clear H6; have H6 := Hn; clear Hn; obtain ⟨z6, _, zf6⟩ := H6.out.cells; have zl6 := H6.out.lt; obtain ⟨z7, _, zf7⟩ := H7.out.cells; have zl7 := H7.out.lt; obtain ⟨d0, c0⟩ := HP.out v5 HBc.out; have sz5 := q2.size; clear hwN q1 q2
          refine hK.out _ _ ?_ (fun hHeld => ?_)
          · (try simp only [World.cell?_drew]); exact HP.out v5 HBc.out
          clear hK K
          try simp only [Act.put, sA1, sA2, sA3, sA4, sA5, sA6]
          refine wpAnyH_done (by kernel_rfl) ?_ _
          go_wp2_with fail
          go_meet
          case rel => exact ⟨wp.heap.size, v1.heap.size, hd, rs, rfl, rfl, HSP, H6.out, H7.out, by omega, by omega, by omega, HBc.out⟩
      · skip
        go_simp
        generalize hwN : World.alloc _ _ = v1; have hst : Below wp.heap.size wp v1 := (by rw [← hwN]; exact ext_alloc (Below.refl _ _) _); (try clear z6 zf6 zl6); (try clear z7 zf7 zl7); clear d0 c0; have HBn := hidIt (ext_trans HBc.out hst); clear HBc; have HBc := HBn; clear HBn; have H7 : Hid (BlkI v1 wp.heap.size It.zero) := (by unfold Hid; rw [← hwN]; exact heap_alloc_new _ _); obtain ⟨z7, _, zf7⟩ := H7.out.cells; have zl7 := H7.out.lt; have lb11 : wp.heap.size ≤ wp.heap.size := (by exact Nat.le_refl _); have sz1 : wp.heap.size < v1.heap.size := H7.out.lt; obtain ⟨d0, c0⟩ := HP.out v1 HBc.out; clear hwN hst
        refine hK.out _ _ ?_ (fun hHeld => ?_)
        · (try simp only [World.cell?_drew]); exact HP.out v1 HBc.out
        clear hK K
        try simp only [Act.put, sA1, sA2, sA3, sA4, sA5, sA6]
        refine wpAnyH_ready (rs := [6, 10]) (by kernel_rfl) (by simp) ?_
        refine (AllReadyH.cons (o := _) rfl (fun K hK => ?_) (AllReadyH.cons (o := _) rfl (fun K hK => ?_) AllReadyH.nil))
        · skip
          go_simp
          refine (SP.out _ HBc.out.drew).mono ?_; (try clear z6 zf6 zl6); (try clear z7 zf7 zl7); clear d0 c0; rintro e v2 ⟨hd, rs, rfl, HSP, hb⟩; have hst : Below v1.heap.size v1 v2 := ext_trans (Below.drew (Below.refl _ _)) hb; clear hb; have HBn := hidIt (ext_trans HBc.out hst); clear HBc; have HBc := HBn; clear HBn; have Hn := hidIt (H7.out.ext hst); clear H7; have H7 := Hn; clear Hn; obtain ⟨z7, _, zf7⟩ := H7.out.cells; have zl7 := H7.out.lt; obtain ⟨d0, c0⟩ := HP.out v2 HBc.out; have sz2 : v1.heap.size ≤ v2.heap.size := hst.size; clear hst; try dsimp only
          refine hK.out _ _ ?_ (fun hHeld => ?_)
          · (try simp only [World.cell?_drew]); exact HP.out v2 HBc.out
          clear hK K
          try simp only [Act.put, sA1, sA2, sA3, sA4, sA5, sA6]
          refine tkH (v := ?_) 7 rfl ?_ ?_; rotate_left 1
          · intro wq hSw; (try dsimp only at hSw); go_simp; try (with_reducible rfl)
          try simp only [Act.put, sA1, sA2, sA3, sA4, sA5, sA6]
          refine tkH (v := ?_) 8 rfl ?_ ?_; rotate_left 1
          · intro wq hSw; (try dsimp only at hSw); go_simp; try (with_reducible rfl)
          try simp only [Act.put, sA1, sA2, sA3, sA4, sA5, sA6]
          refine tkH (v := ?_) 9 rfl ?_ ?_; rotate_left 1
          · intro wq hSw; (try dsimp only at hSw); go_simp; try (with_reducible rfl)
          try simp only [Act.put, sA1, sA2, sA3, sA4, sA5, sA6]
          refine wpAnyH_ready (rs := [10]) (by kernel_rfl) (by simp) ?_
          refine AllReadyH.cons (o := _) rfl (fun K hK => ?_) AllReadyH.nil
          go_simp
          generalize hwN : World.alloc _ _ = v3; have hst : Below v2.heap.size v2 v3 := (by rw [← hwN]; exact ext_alloc (Below.refl _ _) _); (try clear z6 zf6 zl6); (try clear z7 zf7 zl7); clear d0 c0; have HSn : Hid ((Pc enc L v3 hd (gx.take n) ∧ Pc enc L v3 rs (gx.drop n)) ∧ ctn enc hd.pl (gx.take n) ++ ctn enc rs.pl (gx.drop n) = ctn enc x.pl gx) := ⟨⟨HSP.out.1.1.ext hst, HSP.out.1.2.ext hst⟩, HSP.out.2⟩; clear HSP; have HSP := HSn; clear HSn; have HBn := hidIt (ext_trans HBc.out hst); clear HBc; have HBc := HBn; clear HBn; have Hn := hidIt (H7.out.ext hst); clear H7; have H7 := Hn; clear Hn; obtain ⟨z7, _, zf7⟩ := H7.out.cells; have zl7 := H7.out.lt; have H6 : Hid (BlkI v3 v2.heap.size It.zero) := (by unfold Hid; rw [← hwN]; exact heap_alloc_new _ _); obtain ⟨z6, _, zf6⟩ := H6.out.cells; have zl6 := H6.out.lt; have lb10 : wp.heap.size ≤ v2.heap.size := (by omega); have sz3 : v2.heap.size < v3.heap.size := H6.out.lt; obtain ⟨d0, c0⟩ := HP.out v3 HBc.out; clear hwN hst
          refine hK.out _ _ ?_ (fun hHeld => ?_)
          · (try simp only [World.cell?_drew]); exact HP.out v3 HBc.out
          clear hK K
          try simp only [Act.put, sA1, sA2, sA3, sA4, sA5, sA6]
          refine wpAnyH_ready (rs := [12]) (by kernel_rfl) (by simp) ?_
          refine AllReadyH.cons (o := _) rfl (fun K hK => ?_) AllReadyH.nil
          go_simp
          generalize hwN : World.setCell _ _ _ = v4; have q0 := H6.out; have q2 : v3.grownBy v4 (some v2.heap.size) := (by rw [← hwN]; exact (H6.out.put hd).2); have q1 : BlkI v4 v2.heap.size hd := (by rw [← hwN]; exact (H6.out.put hd).1); (try clear z6 zf6 zl6); (try clear z7 zf7 zl7); clear d0 c0; have HBn := hidIt (below_put HBc.out HBc.out.size q2 (by omega)); clear HBc; have HBc := HBn; clear HBn; clear H6; have H6 := hidIt q1; have HSn : Hid ((Pc enc L v4 hd (gx.take n) ∧ Pc enc L v4 rs (gx.drop n)) ∧ ctn enc hd.pl (gx.take n) ++ ctn enc rs.pl (gx.drop n) = ctn enc x.pl gx) := ⟨⟨HSP.out.1.1.same (u8_put q2 q0), HSP.out.1.2.same (u8_put q2 q0)⟩, HSP.out.2⟩; clear HSP q0; have HSP := HSn; clear HSn; have Hn := hidIt (H7.out.other q2 (by omega)); clear H7; have H7 := Hn; clear Hn; obtain ⟨z6, _, zf6⟩ := H6.out.cells; have zl6 := H6.out.lt; obtain ⟨z7, _, zf7⟩ := H7.out.cells; have zl7 := H7.out.lt; obtain ⟨d0, c0⟩ := HP.out v4 HBc.out; have sz4 := q2.size; clear hwN q1 q2
          refine hK.out _ _ ?_ (fun hHeld => ?_)
          · (try simp only [World.cell?_drew]); exact HP.out v4 HBc.out
          clear hK K
          try simp only [Act.put, sA1, sA2, sA3, sA4, sA5, sA6]
          refine wpAnyH_ready (rs := [13]) (by kernel_rfl) (by simp) ?_
          refine AllReadyH.cons (o := _) rfl (fun K hK => ?_) AllReadyH.nil
          go_simp
          generalize hwN : World.setCell _ _ _ = v5; have q0 := H7.out; have q2 : v4.grownBy v5 (some wp.heap.size) := (by rw [← hwN]; exact (H7.out.put rs).2); have q1 : BlkI v5 wp.heap.size rs := (by rw [← hwN]; exact (H7.out.put rs).1); (try clear z6 zf6 zl6); (try clear z7 zf7 zl7); clear d0 c0; have HBn := hidIt (below_put HBc.out HBc.out.size q2 (by omega)); clear HBc; have HBc := HBn; clear HBn; clear H7; have H7 := hidIt q1; have HSn : Hid ((Pc enc L v5 hd (gx.take n) ∧ Pc enc L v5 rs (gx.drop n)) ∧ ctn enc hd.pl (gx.take n) ++ ctn enc rs.pl (gx.drop n) = ctn enc x.pl gx) := ⟨⟨HSP.out.1.1.same (u8_put q2 q0), HSP.out.1.2.same (u8_put q2 q0)⟩, HSP.out.2⟩; clear HSP q0; have HSP := HSn; clear HSn; have Hn := hidIt (H6.out.other q2 (by omega)); clear H6; have H6 := Hn; clear Hn; obtain ⟨z6, _, zf6⟩ := H6.out.cells; have zl6 := H6.out.lt; obtain ⟨z7, _, zf7⟩ := H7.out.cells; have zl7 := H7.out.lt; obtain ⟨d0, c0⟩ := HP.out v5 HBc.out; have sz5 := q2.size; clear hwN q1 q2
          refine hK.out _ _ ?_ (fun hHeld => ?_)
          · (try simp only [World.cell?_drew]); exact HP.out v5 HBc.out
          clear hK K
          try simp only [Act.put, sA1, sA2, sA3, sA4, sA5, sA6]
          refine wpAnyH_done (by kernel_rfl) ?_ _
          go_wp2_with fail
          go_meet
          case rel => exact ⟨v2.heap.size, wp.heap.size, hd, rs, rfl, rfl, HSP, H6.out, H7.out, by omega, by omega, by omega, HBc.out⟩
        · skip
          go_simp
          generalize hwN : World.alloc _ _ = v2; have hst : Below v1.heap.size v1 v2 := (by rw [← hwN]; exact ext_alloc (Below.refl _ _) _); (try clear z6 zf6 zl6); (try clear z7 zf7 zl7); clear d0 c0; have HBn := hidIt (ext_trans HBc.out hst); clear HBc; have HBc := HBn; clear HBn; have Hn := hidIt (H7.out.ext hst); clear H7; have H7 := Hn; clear Hn; obtain ⟨z7, _, zf7⟩ := H7.out.cells; have zl7 := H7.out.lt; have H6 : Hid (BlkI v2 v1.heap.size It.zero) := (by unfold Hid; rw [← hwN]; exact heap_alloc_new _ _); obtain ⟨z6, _, zf6⟩ := H6.out.cells; have zl6 := H6.out.lt; have lb10 : wp.heap.size ≤ v1.heap.size := (by omega); have sz2 : v1.heap.size < v2.heap.size := H6.out.lt; obtain ⟨d0, c0⟩ := HP.out v2 HBc.out; clear hwN hst
          refine hK.out _ _ ?_ (fun hHeld => ?_)
          · (try simp only [World.cell?_drew]); exact HP.out v2 HBc.out
          clear hK K
          try simp only [Act.put, sA1, sA2, sA3, sA4, sA5, sA6]
          refine wpAnyH_ready (rs := [6]) (by kernel_rfl) (by simp) ?_
          refine AllReadyH.cons (o := _) rfl (fun K hK => ?_) AllReadyH.nil
          go_simp
          refine (SP.out _ HBc.out.drew).mono ?_; (try clear z6 zf6 zl6); (try clear z7 zf7 zl7); clear d0 c0; rintro e v3 ⟨hd, rs, rfl, HSP, hb⟩; have hst : Below v2.heap.size v2 v3 := ext_trans (Below.drew (Below.refl _ _)) hb; clear hb; have HBn := hidIt (ext_trans HBc.out hst); clear HBc; have HBc := HBn; clear HBn; have Hn := hidIt (H6.out.ext hst); clear H6; have H6 := Hn; clear Hn; obtain ⟨z6, _, zf6⟩ := H6.out.cells; have zl6 := H6.out.lt; have Hn := hidIt (H7.out.ext hst); clear H7; have H7 := Hn; clear Hn; obtain ⟨z7, _, zf7⟩ := H7.out.cells; have zl7 := H7.out.lt; obtain ⟨d0, c0⟩ := HP.out v3 HBc.out; have sz3 : v2.heap.size ≤ v3.heap.size := hst.size; clear hst; try dsimp only
          refine hK.out _ _ ?_ (fun hHeld => ?_)
          · (try simp only [World.cell?_drew]); exact HP.out v3 HBc.out
          clear hK K
          try simp only [Act.put, sA1, sA2, sA3, sA4, sA5, sA6]
          refine tkH (v := ?_) 7 rfl ?_ ?_; rotate_left 1
          · intro wq hSw; (try dsimp only at hSw); go_simp; try (with_reducible rfl)
          try simp only [Act.put, sA1, sA2, sA3, sA4, sA5, sA6]
          refine tkH (v := ?_) 8 rfl ?_ ?_; rotate_left 1
          · intro wq hSw; (try dsimp only at hSw); go_simp; try (with_reducible rfl)
          try simp only [Act.put, sA1, sA2, sA3, sA4, sA5, sA6]
          refine tkH (v := ?_) 9 rfl ?_ ?_; rotate_left 1
          · intro wq hSw; (try dsimp only at hSw); go_simp; try (with_reducible rfl)
          try simp only [Act.put, sA1, sA2, sA3, sA4, sA5, sA6]
          refine wpAnyH_ready (rs := [12]) (by kernel_rfl) (by simp) ?_
          refine AllReadyH.cons (o := _) rfl (fun K hK => ?_) AllReadyH.nil
          go_simp
          generalize hwN : World.setCell _ _ _ = v4; have q0 := H6.out; have q2 : v3.grownBy v4 (some v1.heap.size) := (by rw [← hwN]; exact (H6.out.put hd).2); have q1 : BlkI v4 v1.heap.size hd := (by rw [← hwN]; exact (H6.out.put hd).1); (try clear z6 zf6 zl6); (try clear z7 zf7 zl7); clear d0 c0; have HBn := hidIt (below_put HBc.out HBc.out.size q2 (by omega)); clear HBc; have HBc := HBn; clear HBn; clear H6; have H6 := hidIt q1; have HSn : Hid ((Pc enc L v4 hd (gx.take n) ∧ Pc enc L v4 rs (gx.drop n)) ∧ ctn enc hd.pl (gx.take n) ++ ctn enc rs.pl (gx.drop n) = ctn enc x.pl gx) := ⟨⟨HSP.out.1.1.same (u8_put q2 q0), HSP.out.1.2.same (u8_put q2 q0)⟩, HSP.out.2⟩; clear HSP q0; have HSP := HSn; clear HSn; have Hn := hidIt (H7.out.other q2 (by omega)); clear H7; have H7 := Hn; clear Hn; obtain ⟨z6, _, zf6⟩ := H6.out.cells; have zl6 := H6.out.lt; obtain ⟨z7, _, zf7⟩ := H7.out.cells; have zl7 := H7.out.lt; obtain ⟨d0, c0⟩ := HP.out v4 HBc.out; have sz4 := q2.size; clear hwN q1 q2
          refine hK.out _ _ ?_ (fun hHeld => ?_)
          · (try simp only [World.cell?_drew]); exact HP.out v4 HBc.out
          clear hK K
          try simp only [Act.put, sA1, sA2, sA3, sA4, sA5, sA6]
          refine wpAnyH_ready (rs := [13]) (by kernel_rfl) (by simp) ?_
          refine AllReadyH.cons (o := _) rfl (fun K hK => ?_) AllReadyH.nil
          go_simp
          generalize hwN : World.setCell _ _ _ = v5; have q0 := H7.out; have q2 : v4.grownBy v5 (some wp.heap.size) := (by rw [← hwN]; exact (H7.out.put rs).2); have q1 : BlkI v5 wp.heap.size rs := (by rw [← hwN]; exact (H7.out.put rs).1); (try clear z6 zf6 zl6); (try clear z7 zf7 zl7); clear d0 c0; have HBn := hidIt (below_put HBc.out HBc.out.size q2 (by omega)); clear HBc; have HBc := HBn; clear HBn; clear H7; have H7 := hidIt q1; have HSn : Hid ((Pc enc L v5 hd (gx.take n) ∧ Pc enc L v5 rs (gx.drop n)) ∧ ctn enc hd.pl (gx.take n) ++ ctn enc rs.pl (gx.drop n) = ctn enc x.pl gx) := ⟨⟨HSP.out.1.1.same (u8_put q2 q0), HSP.out.1.2.same (u8_put q2 q0)⟩, HSP.out.2⟩; clear HSP q0; have HSP := HSn; clear HSn; have Hn := hidIt (H6.out.other q2 (by omega)); clear H6; have H6 := Hn; clear Hn; obtain ⟨z6, _, zf6⟩ := H6.out.cells; have zl6 := H6.out.lt; obtain ⟨z7, _, zf7⟩ := H7.out.cells; have zl7 := H7.out.lt; obtain ⟨d0, c0⟩ := HP.out v5 HBc.out; have sz5 := q2.size; clear hwN q1 q2
          refine hK.out _ _ ?_ (fun hHeld => ?_)
          · (try simp only [World.cell?_drew]); exact HP.out v5 HBc.out
          clear hK K
          try simp only [Act.put, sA1, sA2, sA3, sA4, sA5, sA6]
          refine wpAnyH_done (by kernel_rfl) ?_ _
          go_wp2_with fail
          go_meet
          case rel => exact ⟨v1.heap.size, wp.heap.size, hd, rs, rfl, rfl, HSP, H6.out, H7.out, by omega, by omega, by omega, HBc.out⟩
    obtain ⟨b6, b7, hd, rs, rfl, rfl, HSP, h6, h7, l6, l7, hne, hbw⟩ := hcut
    generalize hwc : wc = w2 at *
    have hsp := HSZ.out
    clear hwc HP SP d0 c0
    have HW2 := hidIt (HWP.out.ext hbw)
    obtain ⟨⟨_, _, cg2, _⟩, _⟩ := HW2.out.cells
    obtain ⟨e0, _, _⟩ := h7.cells
    have hr2 := ((HROW.out.ext HBP.out).ext hbw).cell 0 (by simp [xsOf])
    rw [show (xsOf ((x, gx) :: os))[0]?.getD It.zero = x from rfl, Nat.zero_mul, Nat.add_zero] at hr2
    have hfb : ∀ i, w2.frozen? ⟨bo, i, none⟩ = false := by
      obtain ⟨cs, hcs, _⟩ := (HROW.out.ext HBP.out).ext hbw
      intro i
      simp [World.frozen?, hcs]
    have hbl2 : bo < w2.heap.size := Nat.lt_of_lt_of_le (by omega) hbw.size
    have n1 : ¬ g = bo := fun e => by
      have t1 := HW0.out.typ
      rw [e] at t1
      exact absurd (t1.uniq HROW.out.typ) (by decide)
    have n2 : ¬ b7 = bo := by omega
    have RE := HW2.out.rep rs (gx.drop n) HSP.out.1.2
    have RG : w2.grownBy (((((((w2.setCell ⟨bo, o, none⟩ (.slice rs.p rs.n rs.c)).setCell ⟨bo, o + 1, none⟩ (.int .i64 rs.pl)).setCell ⟨bo, o + 2, none⟩ (.int .i64 rs.sp.a)).setCell ⟨bo, o + 3, none⟩ (.int .i64 rs.sp.s)).setCell ⟨bo, o + 4, none⟩ (.int .i64 rs.sp.b)).setCell ⟨bo, o + 5, none⟩ (.bool rs.sp.lf)).setCell ⟨bo, o + 6, none⟩ (.bool rs.sp.cr)) (some bo) := by
      obtain ⟨cs, hcs, _⟩ := (HROW.out.ext HBP.out).ext hbw
      exact (put7 hcs o rs).2
    simp only [Nat.zero_mul, Nat.add_zero] at RE
    have RE := And.intro RE RG
    clear RG
    go_upto_region 6 with fail
    refine wp_region_held_drew (S := fun w'' => w''.cell? ⟨g, 2, none⟩ = some (.slice (some ⟨bo, o, none⟩) (os.length + 1) c) ∧ (w''.cell? ⟨b7, 0, none⟩ = some (.slice rs.p rs.n rs.c) ∧ w''.cell? ⟨b7, 1, none⟩ = some (.int .i64 rs.pl) ∧ w''.cell? ⟨b7, 2, none⟩ = some (.int .i64 rs.sp.a) ∧ w''.cell? ⟨b7, 3, none⟩ = some (.int .i64 rs.sp.s) ∧ w''.cell? ⟨b7, 4, none⟩ = some (.int .i64 rs.sp.b) ∧ w''.cell? ⟨b7, 5, none⟩ = some (.bool rs.sp.lf) ∧ w''.cell? ⟨b7, 6, none⟩ = some (.bool rs.sp.cr))) (by kernel_rfl) (⟨cg2, e0⟩) (fun hHeld => ?_)
    refine tkH (v := ?_) 0 rfl ?_ ?_; rotate_left 1
    · intro wq hSw; (try dsimp only at hSw); go_simp; try (with_reducible rfl)
    try simp only [Act.put, sA1, sA3, sA4, sA5, sA6]
    refine tkH (v := ?_) 1 rfl ?_ ?_; rotate_left 1
    · intro wq hSw; (try dsimp only at hSw); go_simp; try (with_reducible rfl)
    try simp only [Act.put, sA1, sA2, sA3, sA4, sA5, sA6]
    refine tkH (v := ?_) 2 rfl ?_ ?_; rotate_left 1
    · intro wq hSw; (try dsimp only at hSw); go_simp; try (with_reducible rfl)
    try simp only [Act.put, sA1, sA2, sA3, sA4, sA5, sA6]
    refine tkH (v := ?_) 3 rfl ?_ ?_; rotate_left 1
    · intro wq hSw; (try dsimp only at hSw); go_simp; try (with_reducible rfl)
    try simp only [Act.put, sA1, sA2, sA3, sA4, sA5, sA6]
    refine tkH (v := ?_) 4 rfl ?_ ?_; rotate_left 1
    · intro wq hSw; (try dsimp only at hSw); go_simp; try (with_reducible rfl)
    try simp only [Act.put, sA1, sA2, sA3, sA4, sA5, sA6]
    refine wpAnyH_ready (rs := [5]) (by kernel_rfl) (by simp) ?_
    refine AllReadyH.cons (o := _) rfl (fun K hK => ?_) AllReadyH.nil
    go_simp
    refine hK.out _ _ ?_ (fun hHeld => ?_)
    · (try simp only [World.cell?_drew]); exact ⟨cg2, e0⟩
    clear hK K
    try simp only [Act.put, sA1, sA2, sA3, sA4, sA5, sA6]
    refine wpAnyH_ready (rs := [6]) (by kernel_rfl) (by simp) ?_
    refine AllReadyH.cons (o := _) rfl (fun K hK => ?_) AllReadyH.nil
    go_simp
    generalize hwN : World.setCell _ _ _ = w3; rw [hwN] at RE; have HRE := hidIt RE; have s3 : w3.cell? ⟨g, 2, none⟩ = some (.slice (some ⟨bo, o, none⟩) (os.length + 1) c) ∧ (w3.cell? ⟨b7, 0, none⟩ = some (.slice rs.p rs.n rs.c) ∧ w3.cell? ⟨b7, 1, none⟩ = some (.int .i64 rs.pl) ∧ w3.cell? ⟨b7, 2, none⟩ = some (.int .i64 rs.sp.a) ∧ w3.cell? ⟨b7, 3, none⟩ = some (.int .i64 rs.sp.s) ∧ w3.cell? ⟨b7, 4, none⟩ = some (.int .i64 rs.sp.b) ∧ w3.cell? ⟨b7, 5, none⟩ = some (.bool rs.sp.lf) ∧ w3.cell? ⟨b7, 6, none⟩ = some (.bool rs.sp.cr)) := (by rw [← hwN]; simp only [cell_set_other n1, cell_set_other n2]; exact ⟨cg2, e0⟩); clear hwN RE
    refine hK.out _ _ ?_ (fun hHeld => ?_)
    · (try simp only [World.cell?_drew]); exact s3
    clear hK K
    try simp only [Act.put, sA1, sA2, sA3, sA4, sA5, sA6]
    refine wpAnyH_done (by kernel_rfl) ?_ _
    have g3 := HRE.out.2
    obtain ⟨q0, _, _⟩ := (h6.other g3 (by omega)).cells
    have k0 := (HKR.out.ext hbw).other g3 (by omega)
    obtain ⟨r0, _, rf⟩ := k0.cells
    have rl := k0.lt
    have F := hidIt (nx_fin (n := n) HW0.out ((Kps.of_below _ (ext_trans HBP.out hbw)).trans HRE.out.1.2 fun _ _ e => e) HRE.out.1.1 k0 hd (gx.take n) (HSP.out.1.1.same (u8_kept HRE.out.1.2 fun _ => HW2.out.own_nu)) (by rw [List.length_take]; omega) (by rw [sh_cons, sh_cons, ← List.append_assoc, HSP.out.2]))
    clear HRE s3 cg2 e0
    go_wp2_with fail
    exact bodyPost_ret (v := .agg #[.slice hd.p hd.n hd.c, .int .i64 hd.pl, .int .i64 hd.sp.a, .int .i64 hd.sp.s, .int .i64 hd.sp.b, .bool hd.sp.lf, .bool hd.sp.cr]) (by simp [results, Tryz.results121, go_sem, r0, It.zero, Rs.zero]) rfl F.out.drew
end Go.Proofs.YtbmelpjmpomfcaaGreat.P
