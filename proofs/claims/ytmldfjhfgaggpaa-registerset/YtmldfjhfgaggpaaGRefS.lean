/- The document's Set, Get, Names. -/
import Derived.Test.YtmldfjhfgaggpaaGRefD
import Derived.Test.YtmldfjhfgaggpaaGNames
namespace Go.Proofs.Ytmldfjhfgaggpaa
open Go.RowKit
variable {F : Nat → Prop}

/-- What is held of a Reg: nothing, where it has no atoms. -/
def opt (x : Rg) : Option Rg := if x.t = [] then none else some x
theorem upd_id (m : Int → Option Rg) (k : Int) (o : Option Rg) (h : m k = o) : upd m k o = m := by
  funext j
  unfold upd
  split
  · rename_i e; rw [e, h]
  · rfl
/-- The document's way of setting. -/
theorem set_eq {s : Bs} (hs : Good s) {n : Int} {t : List Int} (h1 : nmB n = true) (h2 : unB n = false) (h3 : (n == 95) = false) : setB s n t = if 140000 < (ow s.m n ⟨0, t⟩).t.length then (3, s) else (0, ⟨upd s.m (sml n) (opt (ow s.m n ⟨0, t⟩)), s.p⟩) := by
  unfold setB
  rw [h1, h2, h3, if_neg (by decide), if_neg (by decide)]
  by_cases ht : t = []
  · subst ht
    rw [if_pos (show nil? ⟨0, []⟩ = true by rfl)]
    cases hg : grB n with
    | true =>
      rw [if_pos rfl]
      have e : ow s.m n ⟨0, []⟩ = (s.m (sml n)).getD ⟨0, []⟩ := by
        unfold ow
        rw [if_pos hg]
        cases hm : s.m (sml n) with
        | none => rfl
        | some o =>
          have := (hs.nm _ _ hm).2.1.ne
          show jnd o ⟨0, []⟩ = o
          unfold jnd
          rw [if_neg this, if_pos rfl]
      rw [e]
      cases hm : s.m (sml n) with
      | none =>
        rw [if_neg (by simp)]
        rw [upd_id _ _ _ (by rw [hm]; rfl)]
      | some o =>
        have hn := hs.nm _ _ hm
        rw [if_neg (by simp; exact hn.2.2)]
        rw [upd_id _ _ _ (by rw [hm]; unfold opt; rw [if_neg (by simpa using hn.2.1.ne)]; rfl)]
    | false =>
      have e : ow s.m n ⟨0, []⟩ = ⟨0, []⟩ := by unfold ow; rw [hg]; rfl
      rw [if_neg (by decide), e, if_neg (by simp)]
      have : sml n = n := by unfold sml; rw [hg]; rfl
      rw [this]
      rfl
  · have hz : nil? ⟨0, t⟩ = false := by
      unfold nil?
      simp
      intro e
      exact ht e
    rw [hz, if_neg (by decide)]
    have hc : cls 0 t = t := by unfold cls; rfl
    have hx : ow s.m n ⟨0, t⟩ = nxt s.m n ⟨0, t⟩ := by
      have := ow_nxt hs (n := n) (r := ⟨0, t⟩) (.inl rfl) (.inl ht)
      dsimp only at this
      rw [hc] at this
      exact this
    have hg := nxt_good hs (n := n) (r := ⟨0, t⟩) (.inl rfl) (.inl ht)
    rw [hx]
    unfold writeB
    rw [wrtn_fine]
    by_cases hl : 140000 < (nxt s.m n ⟨0, t⟩).t.length
    · rw [if_pos hl, if_pos hl]
      rfl
    · rw [if_neg hl, if_neg hl]
      unfold opt
      rw [if_neg hg.ne]
      rfl
theorem hld_opt {w : World} {x : Rg} {u : Value} (hk : x.k = 0 ∨ x.k = 1) (h : RdS w u x.t) (ho : x.t ≠ [] → ∀ g, F g → Off u g) (hl : x.t.length ≤ 140000) : Hld F w x.k u (opt x) := by
  refine ⟨hk, x.t, h, ho, hl, ?_⟩
  unfold opt
  by_cases e : x.t = []
  · rw [if_pos e]; exact e
  · rw [if_neg e]; exact ⟨rfl, rfl⟩
set_option maxRecDepth 100000 in
set_option maxHeartbeats 4000000 in
theorem r_Set_any (w : World) (q : Nat) (s : Bs) (n : Int) (v : Value) (t : List Int) (hR : Rb F w q s) (hs : Good s) (hv : RdS w v t) (hl : t.length * 8 ≤ 140737488351232) :
    Calls Try.prog 64 #[.pointer (some ⟨q, 0, none⟩), .int .i64 n, v] w (TkR F w q (setB s n t)) := by
  obtain ⟨ao, c, rfl, _⟩ := hv.len
  have NM := hidIt (r_Named_any n w)
  have UN := hidIt (r_unnamed_any n w)
  have HR := hidIt hR
  have HS := hidIt hs
  cases hnm : nmB n
  · have HT := hidIt (show setB s n t = (110, s) by unfold setB; rw [hnm]; rfl)
    rw [hnm] at NM
    clear hR hs hv hl
    go_enter Try.func64, Try.ntmps64
    go_wp2_with (go_at_call 66; refine NM.out.mono ?_; rintro e y8 ⟨rfl, rfl⟩; (try dsimp only))
    go_ret
    exact ⟨by rw [HT.out]; rfl, by rw [HT.out]; exact HR.out, Kps.refl _ _⟩
  rw [hnm] at NM
  have HNR := hidIt (nm_range hnm)
  cases hun : unB n
  · rw [hun] at UN
    by_cases h95 : n = 95
    · have HT := hidIt (show setB s n t = (0, s) by subst h95; rfl)
      subst h95
      clear hR hs hv hl
      go_enter Try.func64, Try.ntmps64
      go_wp2_with (first | (go_at_call 66; refine NM.out.mono ?_; rintro e y8 ⟨rfl, rfl⟩; (try dsimp only)) | (go_at_call 67; refine UN.out.mono ?_; rintro e y9 ⟨rfl, rfl⟩; (try dsimp only)))
      go_ret
      exact ⟨by rw [HT.out]; rfl, by rw [HT.out]; exact HR.out, Kps.refl _ _⟩
    have h95b : (n == 95) = false := by simp [h95]
    have HE := hidIt (set_eq hs (t := t) hnm hun h95b)
    have WR := hidIt (r_written_any 0 _ t w hv hl)
    rw [show cls 0 t = t from rfl] at WR
    have HKD := hidIt (ow_kd hR HNR.out (y := ⟨0, t⟩) (.inl rfl))
    have OWN := hidIt (fun w' u (hb : Below w.heap.size w w') (hu : OwnI w' w.heap.size u t) => r_own_any w' q s n 0 u t (hR.ext hb) HNR.out hu.rds (fun _ g hg => hu.off (hR.fl g hg)) (.inl rfl) (by omega))
    obtain ⟨a, ha⟩ : ∃ a : Nat, (a : Int) = sml n := ⟨(sml n).toNat, by have := sml_range HNR.out; omega⟩
    have HAL := hidIt (show a < 128 by have := sml_range HNR.out; omega)
    have hal : (a : Int) < 128 := by have := sml_range HNR.out; omega
    rw [← ha] at OWN HE
    generalize ow s.m n ⟨0, t⟩ = x at *
    clear hR hs hv hl ha h95
    go_enter Try.func64, Try.ntmps64
    go_upto_region 6 with (first | (go_at_call 66; refine NM.out.mono ?_; rintro e y8 ⟨rfl, rfl⟩; (try dsimp only)) | (go_at_call 67; refine UN.out.mono ?_; rintro e y9 ⟨rfl, rfl⟩; (try dsimp only)) | (go_at_call 84; refine WR.out.mono ?_; rintro e w1 ⟨v1, rfl, hr1, hb1⟩; have R1 := hidIt hr1; have B1 := hidIt hb1; clear hr1 hb1; (try dsimp only)) | (go_at_call 86; refine (OWN.out w1 v1 B1.out R1.out).mono ?_; rintro e w2 ⟨v2, rfl, hr2, ho2, hb2⟩; obtain ⟨ra2, rc2, re2, _⟩ := hr2.len; subst re2; have R2 := hidIt hr2; have B2 := hidIt hb2; have O2 := hidIt ho2; clear hr2 hb2 ho2; (try dsimp only)))
    generalize hw3 : World.alloc _ _ = w3
    have HB3 : Hid (Below w2.heap.size w2 w3) := by unfold Hid; rw [← hw3]; exact ext_alloc (Below.refl _ _) _
    have HK3 : Hid (w3.heap[w2.heap.size]? = some (.cells #[.int .i64 x.k, .slice ra2 x.t.length rc2] 94 (0, 0))) := by unfold Hid; rw [← hw3]; exact heap_alloc_new _ _
    clear hw3
    have HB13 := hidIt (ext_trans (ext_trans B1.out B2.out) HB3.out)
    obtain ⟨_, e0, e1, _⟩ := cells2 HK3.out
    by_cases hbig : (x.t.length : Int) > 140000
    · have HT := hidIt (show setB s n t = (3, s) by rw [HE.out, if_pos (by omega)])
      go_wp2_with fail
      go_ret
      exact ⟨by rw [HT.out]; rfl, by rw [HT.out]; exact HR.out.ext HB13.out, Kq.of HB13.out⟩
    have HT := hidIt (show setB s n t = (0, ⟨upd s.m (a : Int) (opt x), s.p⟩) by rw [HE.out, if_neg (by omega)])
    have HPU := hidIt ((HR.out.ext HB13.out).put a HAL.out x.k (.slice ra2 x.t.length rc2) (opt x) (hld_opt HKD.out (R2.out.ext HB3.out) O2.out (by omega)))
    have fr := fun i => (HR.out.ext HB13.out).froz i
    obtain ⟨k7, u7, f0, f1, _⟩ := (HR.out.ext HB13.out).at a HAL.out
    go_upto_region 8 with fail
    go_region
    generalize hw4 : World.setCell (World.setCell _ _ _) _ _ = w4
    have HP : Hid (Rb F w4 q ⟨upd s.m (a : Int) (opt x), s.p⟩ ∧ w3.grownBy w4 (some q)) := by unfold Hid; rw [← hw4]; exact HPU.out
    clear hw4 f0 f1 fr e0 e1 HPU
    go_wp2_with fail
    go_ret
    exact ⟨by rw [HT.out]; rfl, by rw [HT.out]; exact HP.out.1.ext (Below.refl _ _).drew, (Kq.of HB13.out).trans ((Kq.set HP.out.2).trans (Kq.of (Below.refl _ _).drew))⟩
  · have HT := hidIt (show setB s n t = (110, s) by unfold setB; rw [hnm, hun]; rfl)
    rw [hun] at UN
    clear hR hs hv hl
    go_enter Try.func64, Try.ntmps64
    go_wp2_with (first | (go_at_call 66; refine NM.out.mono ?_; rintro e y8 ⟨rfl, rfl⟩; (try dsimp only)) | (go_at_call 67; refine UN.out.mono ?_; rintro e y9 ⟨rfl, rfl⟩; (try dsimp only)))
    go_ret
    exact ⟨by rw [HT.out]; rfl, by rw [HT.out]; exact HR.out, Kps.refl _ _⟩
end Go.Proofs.Ytmldfjhfgaggpaa
