/- Encode of every encoding; the document's Encode. -/
import Derived.Test.YtbfbaknfeleddaaEncode
import Derived.Test.YtbfbaknfeleddaaAppBlk
namespace Go.Proofs.Ytbfbaknfeleddaa
open Go.RowKit

theorem Encode_any (enc : Int) (v : Value) (l : List Int) (w : World) (h : Rd .i64 w v l) (hz : l.length * 8 + 320 ≤ 140737488355328) :
    Calls Try.prog 31 #[.int .i64 enc, v] w fun e w' => ∃ v', e = .returned (.tuple #[v', .int .i64 (Cx.encR enc l).2.1, .int .i64 (Cx.encR enc l).2.2]) ∧ w'.ownsRow w.heap.size 5 1 v' (Cx.encR enc l).1.length ((Cx.encR enc l).1.map (Value.int .u8)) ∧ Below w.heap.size w w' := by
  cases hk : Cx.known enc
  · have HE : Hid (Cx.encR enc l = ([], 0, 10)) := Cx.encR_no enc l hk
    obtain ⟨h1, h2, h3, h4⟩ := Cx.known_no enc hk
    clear hk h
    go_enter Try.func31, Try.ntmps31
    go_wp2_with (go_at_call 54; refine (coderOf_no _ h1 h2 h3 h4 _).mono ?_; rintro e w' ⟨rfl, rfl⟩)
    go_ret3
    exact ⟨_, by rw [HE.out]; rfl, by rw [HE.out]; exact World.ownsRow_nil _ _ _ _, Below.refl _ _⟩
  · rcases (Cx.known_iff enc).1 hk with rfl | rfl | rfl | rfl
    · exact Encode_1 v l w h hz
    · exact Encode_2 v l w h hz
    · exact Encode_3 v l w h hz
    · exact Encode_4 v l w h hz

theorem Cx.fits_bd (enc a : Int) (h : Cx.fits enc a = true) : -256 ≤ a ∧ a ≤ 1114111 ∧ (enc = 4 → a ≤ 255) := by
  unfold Cx.fits Cx.isSc at h
  repeat' split at h
  all_goals simp at h
  all_goals omega

set_option maxRecDepth 100000 in
set_option maxHeartbeats 1000000 in
theorem rEncode_any (enc : Int) (v : Value) (l : List Int) (w : World) (h : Rd .i64 w v l) (hz : l.length * 8 + 320 ≤ 140737488355328) :
    Calls Try.prog 58 #[.int .i64 enc, v] w fun e w' => ∃ v', e = .returned (.tuple #[v', .int .i64 (Cx.encR enc l).2.1, .int .i64 (Cx.encR enc l).2.2]) ∧ w'.ownsRow w.heap.size 5 1 v' (Cx.encR enc l).1.length ((Cx.encR enc l).1.map (Value.int .u8)) ∧ Below w.heap.size w w' := by
  obtain ⟨i0, hi, hz0, hz1, hz2⟩ := info_parts Try.info_u8
  have hlen := h.len
  obtain ⟨ao, cap, rfl, hlc, hcm, hc⟩ := h
  cases hk : Cx.known enc
  · have HE : Hid (Cx.encR enc l = ([], 0, 10)) := Cx.encR_no enc l hk
    clear hc hcm
    go_enter Try.func58, Try.ntmps58
    go_wp2_with (go_at_call 76; refine (rknown_any _ _).mono ?_; rintro e w' ⟨rfl, rfl⟩; rw [hk])
    go_ret3
    exact ⟨_, by rw [HE.out]; rfl, by rw [HE.out]; exact World.ownsRow_nil _ _ _ _, Below.refl _ _⟩
  · have HA : Hid ((∀ j, j < l.length → Cx.fits enc (l[j]?.getD 0) = true) → Cx.encR enc l = (Cx.encB enc l, 0, 0)) := Cx.encR_all enc l hk
    have HF : Hid (∀ k, k < l.length → (∀ j, j < k → Cx.fits enc (l[j]?.getD 0) = true) → Cx.fits enc (l[k]?.getD 0) = false → Cx.encR enc l = ([], (k : Int), 11)) := fun k => Cx.encR_bad enc l k hk
    clear hcm
    go_enter Try.func58, Try.ntmps58
    go_wp2_with (go_at_call 76; refine (rknown_any _ _).mono ?_; rintro e w0 ⟨rfl, rfl⟩; rw [hk])
    go_loopw [8, 9] (fun o i wr => ∃ k : Nat, k ≤ l.length ∧ i = .int .i64 k ∧ Hid (∀ j, j < k → Cx.fits enc (l[j]?.getD 0) = true) ∧ wr.ownsRow w0.heap.size 5 1 o (Cx.encB enc (l.take k)).length ((Cx.encB enc (l.take k)).map (Value.int .u8)) ∧ Below w0.heap.size w0 wr) (fun _ i _ => l.length - (intOf i).toNat)
    case atStart => exact ⟨0, Nat.zero_le _, rfl, fun j hj => by omega, World.ownsRow_nil _ _ _ _, Below.refl _ _⟩
    case round =>
      obtain ⟨k, hk', rfl, HJ, hown, hbw⟩ := hrel
      by_cases hlt : k < l.length
      · obtain ⟨b, off, rfl, hbl, hcl⟩ := hc (List.length_pos_iff.1 (by omega))
        have hcx : wr.cell? ⟨b, off + k, none⟩ = some (.int .i64 (l[k]?.getD 0)) := (hbw.cell (p := ⟨b, off + k, none⟩) hbl).trans (hcl k hlt)
        have hel := Cx.encB_len enc (l.take k)
        have htk : (l.take k).length = k := by rw [List.length_take]; omega
        have HS := Cx.encB_succ enc l k hlt
        have HF' := HF.out k hlt HJ.out
        cases hf : Cx.fits enc (l[k]?.getD 0)
        · have HT : Hid (Cx.encR enc l = ([], (k : Int), 11)) := HF' hf
          generalize l[k]?.getD 0 = a at *
          clear hc hcl HS HF' HF HA
          go_wp2_with (go_at_call 52; refine (rFits_any _ _ _).mono ?_; rintro e w' ⟨rfl, rfl⟩; rw [hf])
          go_ret3
          exact ⟨_, by rw [HT.out]; rfl, by rw [HT.out]; exact World.ownsRow_nil _ _ _ _, hbw⟩
        · have HX : Hid (∀ j, j < k + 1 → Cx.fits enc (l[j]?.getD 0) = true) := fun j hj => by
            by_cases hjk : j = k
            · rw [hjk]; exact hf
            · exact HJ.out j (by omega)
          have hfb := Cx.fits_bd enc _ hf
          have HS' : Hid (Cx.encB enc (l.take (k + 1)) = Cx.encB enc (l.take k) ++ Cx.put enc (l[k]?.getD 0)) := HS
          obtain ⟨g0, g1, g2⟩ := hfb
          have HG2 : Hid (enc = 4 → l[k]?.getD 0 ≤ 255) := g2
          generalize l[k]?.getD 0 = a at *
          generalize Cx.encB enc (l.take k) = xs at *
          clear HS HF' HF HA HJ g2 hcl
          go_wp2_with (go_at_call 52; refine (rFits_any _ _ _).mono ?_; rintro e w' ⟨rfl, hw'⟩; subst hw'; rw [hf])
          refine (Put_any enc a _ g0 g1 HG2.out).mono ?_
          rintro e w1 ⟨pv, rfl, hlit⟩
          have hpl := (Cx.put_len enc a).2
          have hrd := Rd.of_lit hlit (by simp only [maxLen]; omega)
          have hb1 : Below w'.heap.size w' w1 := by obtain ⟨_, _, _, _, hb2⟩ := hlit; exact hb2
          have hown1 := own_ext hown hb1
          have hbw1 := ext_trans hbw hb1
          obtain ⟨g, hpv, hgl, hgh, _⟩ := hlit
          have hpl1 := (Cx.put_len enc a).1
          subst hpv
          have hgc : ∀ j, j < (Cx.put enc a).length → w1.cell? ⟨g, j, none⟩ = some (.int .u8 ((Cx.put enc a)[j]?.getD 0)) := fun j hj => by
            rw [cell_of_row w1 g j _ _ _ hgh]; simp [hj]
          have hgw1 : g < w1.heap.size := (Array.getElem?_eq_some_iff.1 hgh).1
          have hne0 := hown.lt
          clear hb1 hown hbw hgh hrd
          generalize Cx.put enc a = ps at *
          go_wp2_with fail
          go_loopw [8, 12] (fun o i wq => ∃ j : Nat, j ≤ ps.length ∧ i = .int .i64 j ∧ wq.ownsRow w0.heap.size 5 1 o (xs ++ ps.take j).length ((xs ++ ps.take j).map (Value.int .u8)) ∧ Below w0.heap.size w0 wq ∧ w1.heap.size ≤ wq.heap.size ∧ o.ownBlock ≠ some g ∧ (∀ j, j < ps.length → wq.cell? ⟨g, j, none⟩ = some (.int .u8 (ps[j]?.getD 0)))) (fun _ i _ => ps.length - (intOf i).toNat)
          case atStart => exact ⟨0, Nat.zero_le _, rfl, by simpa using hown1, hbw1, Nat.le_refl _, fun e => by have := hne0 g e; omega, hgc⟩
          case round =>
            obtain ⟨j, hj, rfl, howq, hbq, hsq, hnq, hcq⟩ := hrel
            have hbase : w0.heap.size ≤ wr.heap.size := hbq.size
            by_cases hjl : j < ps.length
            · have hcx' := hcq j hjl
              have HT : Hid ((xs ++ ps.take j).map (Value.int .u8) ++ [Value.int .u8 (ps[j]?.getD 0)] = (xs ++ ps.take (j + 1)).map (Value.int .u8)) := by
                unfold Hid; rw [List.map_append, List.append_assoc, take_succ_map ps j hjl, List.map_append]
              have hxl : (xs ++ ps.take j).length = xs.length + j := by rw [List.length_append, List.length_take]; omega
              have hxl1 : (xs ++ ps.take (j + 1)).length = xs.length + j + 1 := by rw [List.length_append, List.length_take]; omega
              rw [hxl] at howq
              generalize ps[j]?.getD 0 = y at *
              generalize (xs ++ ps.take j).map (Value.int .u8) = mx at howq HT
              have HCQ : Hid (∀ j, j < ps.length → wr.cell? ⟨g, j, none⟩ = some (.int .u8 (ps[j]?.getD 0))) := hcq
              have HNQ : Hid (u8.ownBlock ≠ some g) := hnq
              clear hcq hnq hgc hown1 hbw1
              go_wp2_with (at_builtin; refine wpList_append_blk _ rfl _ _ 22 rfl w0.heap.size 5 i0 (.int .u8 0) 1 1 Try.underlying22 hi hz0 hz1 hz2 rfl (by decide) _ _ _ rfl (howq.alloc _) ⟨wr.heap.size, 0, none⟩ 1 1 [.int .u8 y] rfl rfl (cell_one_new _ _ _) (one_u8 _) (by unfold maxLen; omega) (by omega) (by simp; omega) (by decide) ?_; intro v' w' hown' hg' hx')
              go_roundw
              case rel =>
                refine ⟨j + 1, by omega, by go_num, ?_, below_push hbq howq hg', ?_, ?_, ?_⟩
                · rw [hxl1, ← HT.out]; exact hown'
                · have := hg'.size; simp at this; omega
                · rcases hx' with hx' | hx'
                  · rw [hx']; exact HNQ.out
                  · rw [hx']; intro e; cases e; simp at hgw1; omega
                · intro j' hj'
                  have hblk : w'.heap[g]? = (wr.alloc (.cells #[.int .u8 y] 5)).heap[g]? := hg'.block g (by simp; omega) (fun e => HNQ.out e.symm)
                  rw [World.cell?_of_block (w := wr.alloc (.cells #[.int .u8 y] 5)) (a := ⟨g, j', none⟩) hblk, World.cell?_of_block (w := wr) (a := ⟨g, j', none⟩) (Below.heap_alloc wr _ g (by omega))]
                  exact HCQ.out j' hj'
              case measure => simp [intOf]; omega
            · have hje : j = ps.length := by omega
              subst hje
              rw [List.take_length] at howq
              clear hgc hown1 hbw1 hcq hnq
              go_wp2
              go_roundw
              case rel => exact ⟨k + 1, by omega, by go_num, HX.out, by rw [HS'.out]; exact howq, hbq⟩
              case measure => simp [intOf]; omega
      · have hke : k = l.length := by omega
        subst hke
        have HT : Hid (Cx.encR enc l = (Cx.encB enc l, 0, 0)) := HA.out HJ.out
        rw [List.take_length] at hown
        clear hc HF HA HJ
        go_wp2
        go_ret3
        exact ⟨_, by rw [HT.out]; rfl, by rw [HT.out]; exact hown, hbw⟩
end Go.Proofs.Ytbfbaknfeleddaa
