/- DiskErrors: the walk. -/
import Derived.Test.YtaoaihjiieandaaDLawK
import Derived.Test.YtaoaihjiieandaaDIs
import Derived.Test.YtaoaihjiieandaaDRefE
import Derived.BigQuiet
namespace Go.Proofs.Ytaoaihjiieandaa
open Go.RowKit

/-- A disk that is up, without a plan and without files. -/
def Emp (D : Dk) : Prop := D.dn = false ∧ (∀ k, D.pl k = none) ∧ D.se = []
theorem emp0 (s : Nat) : Emp (dk0 s) := ⟨rfl, fun _ => rfl, rfl⟩
theorem Emp.tick {D : Dk} (h : Emp D) : Emp D.tick := ⟨h.1, fun k => by show (if k = _ then none else D.pl k) = none; split; rfl; exact h.2.1 k, h.2.2⟩
theorem emp_take {D : Dk} (h : Emp D) (n : Nm) (f : Nat → Dk → Rs) : take (opWith n f) none D = .err D.tick (eE n) := by
  unfold take
  rw [if_neg (by rw [h.1]; decide), h.2.1]
  show opWith n f D.tick = _
  unfold opWith eE
  have e : Dir.get n D.tick.se = none := by show Dir.get n D.se = none; rw [h.2.2]; rfl
  rw [e]
  split <;> rfl
theorem eE_ne (n : Nm) : eE n = 162 ∨ eE n = 164 := by unfold eE; split; exact .inl rfl; exact .inr rfl
theorem sync_e (CR : CrashOk) {F : Nat → Prop} {M : Nat} {w : World} {d : Nat} {D : Dk} (h : Dsk F M w d D) (hE : Emp D) (hM : M + 3 ≤ 1099511627776) (n : Nm) (hn : n.length ≤ 9223372036854775807) (k : Int) (hk : k = 3 ∨ k = 6) (f : Nat) (hf : f = if k = 3 then 26 else 29) :
    Calls Try.prog f #[pp d, sv n] w fun e w' => ∃ q, e = .returned (.iface 131 (pp q)) ∧ w.heap.size ≤ q ∧ q < w'.heap.size ∧ w'.cell? ⟨q, 3, none⟩ = some (.iface 77 (.int .i64 (eE n))) ∧ Dsk F (M + 3) w' d D.tick ∧ Kd F w w' := by
  have fin : ∀ (e : Ending) (w' : World) (op : ByteArray) (r : Rs), r = .err D.tick (eE n) → (∃ v, e = .returned v ∧ StepP False F M w d op (bsOf n) (stepNo D) r v w') → ∃ q, e = .returned (.iface 131 (pp q)) ∧ w.heap.size ≤ q ∧ q < w'.heap.size ∧ w'.cell? ⟨q, 3, none⟩ = some (.iface 77 (.int .i64 (eE n))) ∧ Dsk F (M + 3) w' d D.tick ∧ Kd F w w' := by
    rintro e w' op r rfl ⟨v, rfl, h1, h2, h3⟩
    rcases h1 with ⟨h0, _⟩ | ⟨_, q, hq, rfl, hc⟩
    · have := eE_ne n
      change eE n = 0 at h0
      omega
    · exact ⟨q, rfl, hq, (Array.getElem?_eq_some_iff.1 hc).1, op_cell hc rfl 3, h2, h3.kd⟩
  rcases hk with rfl | rfl
  · rw [if_pos rfl] at hf
    subst hf
    exact (Sync_any CR h hM n hn).mono fun e w' h' => fin e w' _ _ (emp_take hE n _) h'
  · rw [if_neg (by decide)] at hf
    subst hf
    exact (Remove_any CR h hM n hn).mono fun e w' h' => fin e w' _ _ (emp_take hE n _) h'
theorem put_bad (s : Nat) : (opPut [97, 32, 98] [] (dk0 s)) = .err (dk0 s) 164 := by
  have h : putE [97, 32, 98] 0 (dk0 s) = 164 := by
    have h1 : okN [97, 32, 98] = false := by decide
    simp [putE, dk0, h1]
  unfold opPut
  rw [if_pos (by show putE _ 0 _ ≠ 0; rw [h]; simp)]
  show Rs.err _ (putE _ 0 _) = _
  rw [h]
theorem gr_of {w w1 w2 : World} {q : Nat} (hb : Below w.heap.size w w1) (hg : w1.grownBy w2 (some q)) : w.grownBy w2 (some q) := ⟨hg.os.trans hb.os, hg.tape.trans hb.tape, hg.output.trans hb.output, Nat.le_trans hb.size hg.size, fun k hk hn => (hg.block k (Nat.lt_of_lt_of_le hk hb.size) hn).trans (hb.block k hk)⟩
theorem gr_ext {w w1 w2 : World} {q : Nat} (hg : w.grownBy w1 (some q)) (hb : Below w1.heap.size w1 w2) : w.grownBy w2 (some q) := ⟨hb.os.trans hg.os, hb.tape.trans hg.tape, hb.output.trans hg.output, Nat.le_trans hg.size hb.size, fun k hk hn => (hb.block k (Nat.lt_of_lt_of_le hk hg.size)).trans (hg.block k hk hn)⟩
theorem gr_new {w w1 w2 : World} {q b : Nat} (hg : w.grownBy w1 (some q)) (hb : w.heap.size ≤ b) (h2 : w1.grownBy w2 (some b)) : w.grownBy w2 (some q) := ⟨h2.os.trans hg.os, h2.tape.trans hg.tape, h2.output.trans hg.output, Nat.le_trans hg.size h2.size, fun k hk hn => (h2.block k (Nat.lt_of_lt_of_le hk hg.size) (by intro e; have := Option.some.inj e; omega)).trans (hg.block k hk hn)⟩
theorem rdu_nil (w : World) : RdU w (.slice none 0 0) [] := ⟨⟨none, 0, rfl, by simp, by decide, fun h => absurd rfl h⟩, .inl rfl⟩
theorem bad_any {s : Nat} {F : Nat → Prop} {M : Nat} {w : World} {d : Nat} (h : Dsk F M w d (dk0 s)) (hM : M + 3 ≤ 1099511627776) :
    Calls Try.prog 10 #[pp d, .string ⟨#[97, 32, 98]⟩, .slice none 0 0] w fun e w' => ∃ q, e = .returned (.iface 131 (pp q)) ∧ Dsk F (M + 3) w' d (dk0 s) ∧ Kd F w w' := by
  refine (Put_any h hM [97, 32, 98] (by simp) (.slice none 0 0) [] (rdu_nil w) (by simp) (by simp) (fun g hg => by cases hg)).mono ?_
  rintro e w' ⟨u, rfl, p1, p2, p3⟩
  rw [put_bad] at p1 p2
  rcases p1 with ⟨h0, _⟩ | ⟨_, q, _, rfl, _⟩
  · exact absurd (show (164 : Int) = 0 from h0) (by decide)
  · exact ⟨q, rfl, p2, p3.kd⟩
set_option maxRecDepth 100000 in
set_option maxHeartbeats 8000000 in
theorem lerr_any (CR : CrashOk) (n : Int) (v : Value) (xs : List So) (W : World) (h : RdO W v xs) :
    Calls Try.prog 8 #[.int .i64 n, v] W fun e W' => e = .returned (.bool true) ∧ Below W.heap.size W W' := by
  have FT := hidIt (fits_any h)
  have H := hidIt h
  obtain ⟨ao, cap, rfl, hl1, hl2, hl3, hok, _⟩ := h
  have HOK := hidIt hok
  clear hok
  obtain ⟨s, hs8, hs9, hsp⟩ := space_one n
  have SP := hidIt hsp
  clear hsp
  go_enter Try.func8, Try.ntmps8
  go_upto_region 3 with (go_at_call 19; refine FT.out.mono ?_; rintro e w1 ⟨⟨r, rfl, hr⟩, hb⟩; have HFR := hidIt hr; have HB1 := hidIt hb; clear hr hb)
  · go_ret
    exact ⟨rfl, HB1.out⟩
  have hr1 : r = true := by
    cases r
    · exact absurd (show (!false) = false by assumption) (by decide)
    · rfl
  subst hr1
  obtain ⟨hx1, hx2⟩ := HFR.out rfl
  clear HFR FT hx2
  obtain ⟨F0, hF0⟩ : ∃ F0 : Nat → Prop, F0 = fun q => q < W.heap.size := ⟨_, rfl⟩
  have MD := hidIt (made_any s (by omega) w1 F0 (fun q hq => by rw [hF0] at hq; exact Nat.lt_of_lt_of_le hq HB1.out.size))
  go_upto_region 4 with (first | (go_at_call 20; refine (SP.out _).mono ?_; rintro e w2 ⟨rfl, rfl⟩) | (go_at_call 9; refine MD.out.mono ?_; rintro e w3 ⟨d, rfl, hd, hb⟩; have HD := hidIt hd; have HB3 := hidIt (HB1.out.trans (hb.mono HB1.out.size)); clear hd hb))
  clear MD
  have RN := hidIt (rNew_any s (by omega) w3)
  go_upto_region 5 with (first | (go_at_call 20; refine (SP.out _).mono ?_; rintro e w2 ⟨rfl, rfl⟩) | (go_at_call 28; refine RN.out.mono ?_; rintro e w4 ⟨rfl, hd, hb⟩; have HE4 := hidIt hd; have HB4 := hidIt hb; clear hd hb))
  obtain ⟨F1, hF1⟩ : ∃ F1 : Nat → Prop, F1 = Fx F0 w3 w4 := ⟨_, rfl⟩
  have HD4 : Hid (Dsk F1 0 w4 d (dk0 s)) := by unfold Hid; rw [hF1]; exact HD.out.pen HB4.out
  have hFq : F1 w3.heap.size := by rw [hF1]; exact .inr ⟨Nat.le_refl _, HE4.out.cs.1⟩
  have hFW : ∀ k, k < W.heap.size → F1 k := fun k hk => by rw [hF1]; exact .inl (by rw [hF0]; exact hk)
  have HBA : Hid (Below W.heap.size W w4) := HB3.out.trans (HB4.out.mono HB3.out.size)
  have hqW : W.heap.size ≤ w3.heap.size := HB3.out.size
  clear RN HD HB4 HB3 HB1 hF1 hF0
  generalize w3.heap.size = q at *
  have PB := hidIt (bad_any HD4.out (by omega))
  have BW : Hid (∀ w w', W.heap.size ≤ w.heap.size → Kd F1 w w' → Below W.heap.size w w') := fun w w' hz hk => (hk.less hFW).below0 hz
  go_upto_region 7 with (go_at_call 10; refine PB.out.mono ?_; rintro e w5 ⟨qz, rfl, hd, hk⟩; have HD5 := hidIt hd; have HK5 := hidIt hk; clear hd hk)
  have HE5 : Hid (Re w5 q s 0) := (HK5.out.same q HE4.out.cs.1 (fun e => e.1 hFq)).trans HE4.out
  have HB5 : Hid (Below W.heap.size W w5) := HBA.out.trans (BW.out w4 w5 HBA.out.size HK5.out)
  clear PB HD4 HK5 HE4 HBA w3
  go_wp2_with fail
  go_loopw [8] (fun i wr => ∃ k : Nat, k ≤ xs.length ∧ i = .int .i64 k ∧ ∃ (m : Nat) (D : Dk), m ≤ k ∧ Emp D ∧ Dsk F1 (3 + 3 * k) wr d D ∧ Re wr q s (m : Int) ∧ Below W.heap.size W wr) (fun i _ => xs.length - (RowKit.intOf i).toNat)
  case atStart => exact ⟨0, Nat.zero_le _, rfl, 0, _, Nat.zero_le _, emp0 s, HD5.out.monoN (by omega) (by omega), HE5.out, HB5.out⟩
  case round =>
    clear HD5 HE5 HB5 w5
    obtain ⟨k, hk, rfl, m, D, hm, hem, hdk, hre, hbw⟩ := hrel
    have HEM := hidIt hem
    have HDK := hidIt hdk
    have HRE := hidIt hre
    have HBW := hidIt hbw
    clear hem hdk hre hbw
    by_cases hlt : k < xs.length
    · have hlt' : (k : Int) < (xs.length : Int) := by omega
      obtain ⟨x, hx⟩ : ∃ x, xs[k]? = some x := ⟨_, List.getElem?_eq_getElem hlt⟩
      obtain ⟨ao', cap', hv', _, _, _, _, h6⟩ := H.out.ext HBW.out
      cases hv'
      obtain ⟨pb, po, ea, hpb, hcs⟩ := h6 (by intro e; rw [e] at hlt; simp at hlt)
      subst ea
      have hcx := hcs k x hx
      obtain ⟨va, vc, hv⟩ := hcx.eight
      obtain ⟨c0, c1, c2, c3, c4, c5, c6, c7, crd, _, _⟩ := hcx
      rw [hv] at c4
      have hnl : x.nm.length ≤ 9223372036854775807 := (HOK.out x (List.mem_of_getElem? hx)).short.1
      clear hcs h6 hx crd hv
      go_upto_region 11 with fail
      generalize hw5 : World.alloc _ _ = w5
      have HB5 : Hid (Below wr.heap.size wr w5) := by unfold Hid; rw [← hw5]; exact ext_alloc (Below.refl _ _) _
      have HK5 : Hid (w5.heap[wr.heap.size]? = some (.cells #[.int .i64 x.k, .int .i64 x.who, sv x.nm, sv x.tn, .slice va x.b.length vc, .slice x.fa x.fn x.fc, .int .i64 x.cn, .slice x.ca x.cl x.cc] 48 (0, 0))) := by unfold Hid; rw [← hw5]; exact heap_alloc_new _ _
      clear hw5 c0 c1 c2 c3 c4 c5 c6 c7
      obtain ⟨k0, k1, k2, k3, k4, k5, k6, k7⟩ := cells8 HK5.out
      clear k1 k3 k4 k5 k6 k7
      have HRE5 : Hid (Re w5 q s (m : Int)) := HRE.out.ext HB5.out
      have HDK5 : Hid (Dsk F1 (3 + 3 * k) w5 d D) := HDK.out.ext HB5.out
      have HBW5 : Hid (Below W.heap.size W w5) := HBW.out.trans (HB5.out.mono HBW.out.size)
      by_cases hkk : x.k = 3 ∨ x.k = 6
      · rcases hkk with hkk | hkk
        · rw [hkk] at k0
          have SY := hidIt (sync_e CR HDK5.out HEM.out (by omega) x.nm hnl 3 (by decide) 26 rfl)
          have WD := hidIt (words_any 3 (by decide))
          have k2' := k2
          go_upto_region 16 with (go_at_call 26; refine SY.out.mono ?_; rintro e w6 ⟨qe, rfl, hq1, hq2, hc, hd, hk6⟩; have HC6 := hidIt hc; have HD6 := hidIt hd; have HK6 := hidIt hk6; clear hc hd hk6)
          have hoe : w6.heap[wr.heap.size]? = w5.heap[wr.heap.size]? := HK6.out.keep HK5.out (by decide)
          have HO6 := hidIt (hoe.trans HK5.out)
          clear hoe k0 k2 k2'
          have HRE6 : Hid (Re w6 q s (m : Int)) := (HK6.out.same q HRE5.out.cs.1 (fun e => e.1 hFq)).trans HRE5.out
          have HBW6 : Hid (Below W.heap.size W w6) := HBW5.out.trans (BW.out w5 w6 HBW5.out.size HK6.out)
          have hob : wr.heap.size < w6.heap.size := (Array.getElem?_eq_some_iff.1 HO6.out).1
          have hqr : q < wr.heap.size := HRE.out.cs.1
          have hoq : some wr.heap.size ≠ some q := fun e => by have := Option.some.inj e; omega
          have HS : Hid (∀ w' : World, w'.heap[wr.heap.size]? = w6.heap[wr.heap.size]? → w'.cell? ⟨wr.heap.size, 0, none⟩ = some (.int .i64 3) ∧ w'.cell? ⟨wr.heap.size, 2, none⟩ = some (sv x.nm)) := fun w' e => by
            have e1 := op_cell HO6.out e 0
            rw [hkk] at e1
            exact ⟨e1, op_cell HO6.out e 2⟩
          have DOC : Hid (∀ w', Below w6.heap.size w6 w' → Calls Try.prog 30 #[pp q, .agg #[.string (if (3 : Int) = 3 then ⟨#[115, 121, 110, 99]⟩ else ⟨#[114, 101, 109, 111, 118, 101]⟩), sv x.nm, .string ⟨#[]⟩, .slice none 0 0]] w' fun e w'' => e = .returned (.agg #[.int .i64 0, .slice none 0 0, .int .i64 0, .int .i64 0, .int .i64 0, .int .i64 (eE x.nm), .int .i64 ((m : Int) + 1)]) ∧ Re w'' q s ((m : Int) + 1) ∧ w'.grownBy w'' (some q)) := fun w' hb => rDo_none (HRE6.out.ext hb) (by omega) _ (by decide) x.nm hnl
          have hee := eE_ne x.nm
          generalize eE x.nm = ee at *
          have ks := HS.out w6 rfl
          go_cut [11] from 66 to 73 (fun p wF => ∃ b : Nat, p = pp b ∧ Hid (w6.heap.size ≤ b ∧ wF.heap[b]? = some (.cells #[.int .i64 0, .slice none 0 0, .int .i64 0, .int .i64 0, .int .i64 0, .int .i64 ee, .int .i64 ((m : Int) + 1)] 71 (0, 0)) ∧ Re wF q s ((m : Int) + 1) ∧ w6.grownBy wF (some q)))
          case first =>
            refine wp_region_held_drew (S := fun w'' => w''.cell? ⟨wr.heap.size, 0, none⟩ = some (.int .i64 3) ∧ w''.cell? ⟨wr.heap.size, 2, none⟩ = some (sv x.nm)) (by kernel_rfl) (ks) (fun hHeld => ?_)
            refine wpAnyH_take (i := 0) (oi := _) (v := ?_) rfl (by kernel_rfl) (by kernel_rfl) (by kernel_rfl) (fun _ _ _ h => h) (Or.inl ⟨by rfl, ?_⟩) (by assumption) ?_
            rotate_left 1
            · intro wq hSw; (try dsimp only at hSw); go_simp; try (with_reducible rfl)
            try simp only [Act.put, List.getElem_toArray, List.getElem_cons_zero, List.setIfInBounds_toArray, List.set_cons_zero, List.set_cons_succ]
            refine wpAnyH_take (i := 1) (oi := _) (v := ?_) rfl (by kernel_rfl) (by kernel_rfl) (by kernel_rfl) (fun _ _ _ h => h) (Or.inl ⟨by rfl, ?_⟩) (by assumption) ?_
            rotate_left 1
            · intro wq hSw; (try dsimp only at hSw); go_simp; try (with_reducible rfl)
            try simp only [Act.put, List.getElem_toArray, List.getElem_cons_succ, List.getElem_cons_zero, List.setIfInBounds_toArray, List.set_cons_zero, List.set_cons_succ]
            refine wpAnyH_take (i := 2) (oi := _) (v := ?_) rfl (by kernel_rfl) (by kernel_rfl) (by kernel_rfl) (fun _ _ _ h => h) (Or.inl ⟨by rfl, ?_⟩) (by assumption) ?_
            rotate_left 1
            · intro wq hSw; (try dsimp only at hSw); go_simp; try (with_reducible rfl)
            try simp only [Act.put, List.getElem_toArray, List.getElem_cons_succ, List.getElem_cons_zero, List.setIfInBounds_toArray, List.set_cons_zero, List.set_cons_succ]
            refine wpAnyH_take (i := 4) (oi := _) (v := ?_) rfl (by kernel_rfl) (by kernel_rfl) (by kernel_rfl) (fun _ _ _ h => h) (Or.inl ⟨by rfl, ?_⟩) (by assumption) ?_
            rotate_left 1
            · intro wq hSw; (try dsimp only at hSw); go_simp; try (with_reducible rfl)
            try simp only [Act.put, List.getElem_toArray, List.getElem_cons_succ, List.getElem_cons_zero, List.setIfInBounds_toArray, List.set_cons_zero, List.set_cons_succ]
            refine wpAnyH_take (i := 5) (oi := _) (v := ?_) rfl (by kernel_rfl) (by kernel_rfl) (by kernel_rfl) (fun _ _ _ h => h) (Or.inl ⟨by rfl, ?_⟩) (by assumption) ?_
            rotate_left 1
            · intro wq hSw; (try dsimp only at hSw); go_simp; try (with_reducible rfl)
            try simp only [Act.put, List.getElem_toArray, List.getElem_cons_succ, List.getElem_cons_zero, List.setIfInBounds_toArray, List.set_cons_zero, List.set_cons_succ]
            refine wpAnyH_ready (rs := [3, 8]) (by kernel_rfl) (by simp) ?_
            refine (AllReadyH.cons (o := _) rfl (fun K hK => ?_) (AllReadyH.cons (o := _) rfl (fun K hK => ?_) AllReadyH.nil))
            · skip
              go_simp
              refine (WD.out _).mono ?_; rintro e y1 ⟨rfl, hb1⟩; have HY1 := hidIt (ext_trans (Below.drew (Below.refl w6.heap.size w6)) hb1); clear hb1 ks; have ks := HS.out y1 (HY1.out.block _ hob); (try dsimp only)
              refine hK.out _ _ ?_ (fun hHeld => ?_)
              · (try simp only [World.cell?_drew]); exact ks
              clear hK K
              try simp only [Act.put, List.getElem_toArray, List.getElem_cons_succ, List.getElem_cons_zero, List.setIfInBounds_toArray, List.set_cons_zero, List.set_cons_succ]
              refine wpAnyH_take (i := 6) (oi := _) (v := ?_) rfl (by kernel_rfl) (by kernel_rfl) (by kernel_rfl) (fun _ _ _ h => h) (Or.inl ⟨by rfl, ?_⟩) (by assumption) ?_
              rotate_left 1
              · intro wq hSw; (try dsimp only at hSw); go_simp; try (with_reducible rfl)
              try simp only [Act.put, List.getElem_toArray, List.getElem_cons_succ, List.getElem_cons_zero, List.setIfInBounds_toArray, List.set_cons_zero, List.set_cons_succ]
              refine wpAnyH_ready (rs := [7, 8]) (by kernel_rfl) (by simp) ?_
              refine (AllReadyH.cons (o := _) rfl (fun K hK => ?_) (AllReadyH.cons (o := _) rfl (fun K hK => ?_) AllReadyH.nil))
              · skip
                go_simp
                refine (DOC.out y1 HY1.out).mono ?_; rintro e y2 ⟨rfl, hr2, hg2⟩; have HR2 := hidIt hr2; have HG2 := hidIt (gr_of HY1.out hg2); clear hr2 hg2 ks; have ks := HS.out y2 (HG2.out.block _ hob hoq); (try dsimp only)
                refine hK.out _ _ ?_ (fun hHeld => ?_)
                · (try simp only [World.cell?_drew]); exact ks
                clear hK K
                try simp only [Act.put, List.getElem_toArray, List.getElem_cons_succ, List.getElem_cons_zero, List.setIfInBounds_toArray, List.set_cons_zero, List.set_cons_succ]
                refine wpAnyH_ready (rs := [8]) (by kernel_rfl) (by simp) ?_
                refine AllReadyH.cons (o := _) rfl (fun K hK => ?_) AllReadyH.nil
                go_simp
                generalize hwA : World.alloc _ _ = yA; have HN : Hid (yA.heap[y2.heap.size]? = some (.cells #[.int .i64 0, .slice none 0 0, .int .i64 0, .int .i64 0, .int .i64 0, .int .i64 0, .int .i64 0] 71 (0, 0))) := by unfold Hid; rw [← hwA]; exact heap_alloc_new _ _
                have hbA : Below y2.heap.size y2 yA := by rw [← hwA]; exact ext_alloc (Below.refl _ _) _
                have HRY : Hid (Re yA q s ((m : Int) + 1)) := HR2.out.ext hbA
                have HGY : Hid (w6.grownBy yA (some q)) := gr_ext HG2.out hbA
                have hnb : w6.heap.size ≤ y2.heap.size := HG2.out.size
                clear hwA ks hbA; have ks := HS.out yA (HGY.out.block _ hob hoq)
                obtain ⟨a0, a1, a2, a3, a4, a5, a6, af⟩ := cells7 HN.out
                refine hK.out _ _ ?_ (fun hHeld => ?_)
                · (try simp only [World.cell?_drew]); exact ks
                clear hK K
                try simp only [Act.put, List.getElem_toArray, List.getElem_cons_succ, List.getElem_cons_zero, List.setIfInBounds_toArray, List.set_cons_zero, List.set_cons_succ]
                refine wpAnyH_ready (rs := [9]) (by kernel_rfl) (by simp) ?_
                refine AllReadyH.cons (o := _) rfl (fun K hK => ?_) AllReadyH.nil
                go_simp
                generalize hwS : World.setCell _ _ _ = yS
                obtain ⟨p1, p2⟩ := put7 HN.out (.int .i64 0) (.slice none 0 0) (.int .i64 0) (.int .i64 0) (.int .i64 0) (.int .i64 ee) (.int .i64 ((m : Int) + 1))
                rw [hwS] at p1 p2
                clear hwS a0 a1 a2 a3 a4 a5 a6 af
                have HPS := hidIt p1
                have HGS : Hid (w6.grownBy yS (some q)) := gr_new HGY.out hnb p2
                have HRS : Hid (Re yS q s ((m : Int) + 1)) := (p2.block q HRY.out.cs.1 (by intro e; have := Option.some.inj e; omega)).trans HRY.out
                clear p1 p2 ks
                have ks := HS.out yS (HGS.out.block _ hob hoq)
                refine hK.out _ _ ?_ (fun hHeld => ?_)
                · (try simp only [World.cell?_drew]); exact ks
                clear hK K
                try simp only [Act.put, List.getElem_toArray, List.getElem_cons_succ, List.getElem_cons_zero, List.setIfInBounds_toArray, List.set_cons_zero, List.set_cons_succ]
                refine wpAnyH_done (by kernel_rfl) ?_ _
                go_wp2_with fail
                go_meet
                exact ⟨_, rfl, hnb, by first | exact HPS.out | exact (World.heap_drew ▸ HPS.out), by first | exact HRS.out | exact HRS.out.ext (Below.drew (Below.refl _ _)), by first | exact HGS.out | exact gr_ext HGS.out (Below.drew (Below.refl _ _))⟩
              · skip
                go_simp
                generalize hwA : World.alloc _ _ = yA; have HN : Hid (yA.heap[y1.heap.size]? = some (.cells #[.int .i64 0, .slice none 0 0, .int .i64 0, .int .i64 0, .int .i64 0, .int .i64 0, .int .i64 0] 71 (0, 0))) := by unfold Hid; rw [← hwA]; exact heap_alloc_new _ _
                have HYA : Hid (Below w6.heap.size w6 yA) := by unfold Hid; rw [← hwA]; exact ext_trans HY1.out (ext_alloc (Below.refl _ _) _)
                have hnb : w6.heap.size ≤ y1.heap.size := HY1.out.size
                clear hwA ks; have ks := HS.out yA (HYA.out.block _ hob)
                refine hK.out _ _ ?_ (fun hHeld => ?_)
                · (try simp only [World.cell?_drew]); exact ks
                clear hK K
                try simp only [Act.put, List.getElem_toArray, List.getElem_cons_succ, List.getElem_cons_zero, List.setIfInBounds_toArray, List.set_cons_zero, List.set_cons_succ]
                refine wpAnyH_ready (rs := [7]) (by kernel_rfl) (by simp) ?_
                refine AllReadyH.cons (o := _) rfl (fun K hK => ?_) AllReadyH.nil
                go_simp
                refine (DOC.out yA HYA.out).mono ?_; rintro e y2 ⟨rfl, hr2, hg2⟩; replace HN := hidIt ((hg2.block y1.heap.size (Array.getElem?_eq_some_iff.1 HN.out).1 (by intro e; have := Option.some.inj e; have := hob; omega)).trans HN.out); have HR2 := hidIt hr2; have HG2 := hidIt (gr_of HYA.out hg2); clear hr2 hg2 ks; have ks := HS.out y2 (HG2.out.block _ hob hoq); (try dsimp only)
                have HRY := hidIt HR2.out
                have HGY := hidIt HG2.out
                obtain ⟨a0, a1, a2, a3, a4, a5, a6, af⟩ := cells7 HN.out
                refine hK.out _ _ ?_ (fun hHeld => ?_)
                · (try simp only [World.cell?_drew]); exact ks
                clear hK K
                try simp only [Act.put, List.getElem_toArray, List.getElem_cons_succ, List.getElem_cons_zero, List.setIfInBounds_toArray, List.set_cons_zero, List.set_cons_succ]
                refine wpAnyH_ready (rs := [9]) (by kernel_rfl) (by simp) ?_
                refine AllReadyH.cons (o := _) rfl (fun K hK => ?_) AllReadyH.nil
                go_simp
                generalize hwS : World.setCell _ _ _ = yS
                obtain ⟨p1, p2⟩ := put7 HN.out (.int .i64 0) (.slice none 0 0) (.int .i64 0) (.int .i64 0) (.int .i64 0) (.int .i64 ee) (.int .i64 ((m : Int) + 1))
                rw [hwS] at p1 p2
                clear hwS a0 a1 a2 a3 a4 a5 a6 af
                have HPS := hidIt p1
                have HGS : Hid (w6.grownBy yS (some q)) := gr_new HGY.out hnb p2
                have HRS : Hid (Re yS q s ((m : Int) + 1)) := (p2.block q HRY.out.cs.1 (by intro e; have := Option.some.inj e; omega)).trans HRY.out
                clear p1 p2 ks
                have ks := HS.out yS (HGS.out.block _ hob hoq)
                refine hK.out _ _ ?_ (fun hHeld => ?_)
                · (try simp only [World.cell?_drew]); exact ks
                clear hK K
                try simp only [Act.put, List.getElem_toArray, List.getElem_cons_succ, List.getElem_cons_zero, List.setIfInBounds_toArray, List.set_cons_zero, List.set_cons_succ]
                refine wpAnyH_done (by kernel_rfl) ?_ _
                go_wp2_with fail
                go_meet
                exact ⟨_, rfl, hnb, by first | exact HPS.out | exact (World.heap_drew ▸ HPS.out), by first | exact HRS.out | exact HRS.out.ext (Below.drew (Below.refl _ _)), by first | exact HGS.out | exact gr_ext HGS.out (Below.drew (Below.refl _ _))⟩
            · skip
              go_simp
              generalize hwA : World.alloc _ _ = yA; have HN : Hid (yA.heap[w6.heap.size]? = some (.cells #[.int .i64 0, .slice none 0 0, .int .i64 0, .int .i64 0, .int .i64 0, .int .i64 0, .int .i64 0] 71 (0, 0))) := by unfold Hid; rw [← hwA]; exact heap_alloc_new _ _
              have HYA : Hid (Below w6.heap.size w6 yA) := by unfold Hid; rw [← hwA]; exact ext_alloc (Below.refl _ _) _
              have hnb : w6.heap.size ≤ w6.heap.size := Nat.le_refl _
              clear hwA ks; have ks := HS.out yA (HYA.out.block _ hob)
              refine hK.out _ _ ?_ (fun hHeld => ?_)
              · (try simp only [World.cell?_drew]); exact ks
              clear hK K
              try simp only [Act.put, List.getElem_toArray, List.getElem_cons_succ, List.getElem_cons_zero, List.setIfInBounds_toArray, List.set_cons_zero, List.set_cons_succ]
              refine wpAnyH_ready (rs := [3]) (by kernel_rfl) (by simp) ?_
              refine AllReadyH.cons (o := _) rfl (fun K hK => ?_) AllReadyH.nil
              go_simp
              refine (WD.out _).mono ?_; rintro e y1 ⟨rfl, hb1⟩; replace HN := hidIt ((hb1.block w6.heap.size (Array.getElem?_eq_some_iff.1 HN.out).1).trans HN.out); have HY1 := hidIt (ext_trans (ext_trans HYA.out (Below.drew (Below.refl _ _))) hb1); clear hb1 ks; have ks := HS.out y1 (HY1.out.block _ hob); (try dsimp only)
              refine hK.out _ _ ?_ (fun hHeld => ?_)
              · (try simp only [World.cell?_drew]); exact ks
              clear hK K
              try simp only [Act.put, List.getElem_toArray, List.getElem_cons_succ, List.getElem_cons_zero, List.setIfInBounds_toArray, List.set_cons_zero, List.set_cons_succ]
              refine wpAnyH_take (i := 6) (oi := _) (v := ?_) rfl (by kernel_rfl) (by kernel_rfl) (by kernel_rfl) (fun _ _ _ h => h) (Or.inl ⟨by rfl, ?_⟩) (by assumption) ?_
              rotate_left 1
              · intro wq hSw; (try dsimp only at hSw); go_simp; try (with_reducible rfl)
              try simp only [Act.put, List.getElem_toArray, List.getElem_cons_succ, List.getElem_cons_zero, List.setIfInBounds_toArray, List.set_cons_zero, List.set_cons_succ]
              refine wpAnyH_ready (rs := [7]) (by kernel_rfl) (by simp) ?_
              refine AllReadyH.cons (o := _) rfl (fun K hK => ?_) AllReadyH.nil
              go_simp
              refine (DOC.out y1 HY1.out).mono ?_; rintro e y2 ⟨rfl, hr2, hg2⟩; replace HN := hidIt ((hg2.block w6.heap.size (Array.getElem?_eq_some_iff.1 HN.out).1 (by intro e; have := Option.some.inj e; have := hob; omega)).trans HN.out); have HR2 := hidIt hr2; have HG2 := hidIt (gr_of HY1.out hg2); clear hr2 hg2 ks; have ks := HS.out y2 (HG2.out.block _ hob hoq); (try dsimp only)
              have HRY := hidIt HR2.out
              have HGY := hidIt HG2.out
              obtain ⟨a0, a1, a2, a3, a4, a5, a6, af⟩ := cells7 HN.out
              refine hK.out _ _ ?_ (fun hHeld => ?_)
              · (try simp only [World.cell?_drew]); exact ks
              clear hK K
              try simp only [Act.put, List.getElem_toArray, List.getElem_cons_succ, List.getElem_cons_zero, List.setIfInBounds_toArray, List.set_cons_zero, List.set_cons_succ]
              refine wpAnyH_ready (rs := [9]) (by kernel_rfl) (by simp) ?_
              refine AllReadyH.cons (o := _) rfl (fun K hK => ?_) AllReadyH.nil
              go_simp
              generalize hwS : World.setCell _ _ _ = yS
              obtain ⟨p1, p2⟩ := put7 HN.out (.int .i64 0) (.slice none 0 0) (.int .i64 0) (.int .i64 0) (.int .i64 0) (.int .i64 ee) (.int .i64 ((m : Int) + 1))
              rw [hwS] at p1 p2
              clear hwS a0 a1 a2 a3 a4 a5 a6 af
              have HPS := hidIt p1
              have HGS : Hid (w6.grownBy yS (some q)) := gr_new HGY.out hnb p2
              have HRS : Hid (Re yS q s ((m : Int) + 1)) := (p2.block q HRY.out.cs.1 (by intro e; have := Option.some.inj e; omega)).trans HRY.out
              clear p1 p2 ks
              have ks := HS.out yS (HGS.out.block _ hob hoq)
              refine hK.out _ _ ?_ (fun hHeld => ?_)
              · (try simp only [World.cell?_drew]); exact ks
              clear hK K
              try simp only [Act.put, List.getElem_toArray, List.getElem_cons_succ, List.getElem_cons_zero, List.setIfInBounds_toArray, List.set_cons_zero, List.set_cons_succ]
              refine wpAnyH_done (by kernel_rfl) ?_ _
              go_wp2_with fail
              go_meet
              exact ⟨_, rfl, hnb, by first | exact HPS.out | exact (World.heap_drew ▸ HPS.out), by first | exact HRS.out | exact HRS.out.ext (Below.drew (Below.refl _ _)), by first | exact HGS.out | exact gr_ext HGS.out (Below.drew (Below.refl _ _))⟩
          
          case rest =>
            obtain ⟨b, rfl, HF⟩ := hcut
            have HC7 : Hid (wc.cell? ⟨qe, 3, none⟩ = some (.iface 77 (.int .i64 ee))) := by
              have e := HF.out.2.2.2.block qe hq2 (by intro e; have := Option.some.inj e; have := HB5.out.size; omega)
              have := HC6.out
              unfold World.cell? at this ⊢
              unfold Hid
              rw [e]
              exact this
            obtain ⟨r0, r1, r2, r3, r4, r5, r6, rf⟩ := cells7 HF.out.2.1
            have he0 : (ee == 0) = false := by rcases hee with rfl | rfl <;> decide
            have hez : ¬ ee = 0 := by omega
            have FIN : Hid (∃ (m' : Nat) (D' : Dk), m' ≤ k + 1 ∧ Emp D' ∧ Dsk F1 (3 + 3 * (k + 1)) wc d D' ∧ Re wc q s (m' : Int) ∧ Below W.heap.size W wc) := by
              refine ⟨m + 1, D.tick, by omega, HEM.out.tick, (HD6.out.kps (o := fun j => j = q) (Kps.grown HF.out.2.2.2 (fun j e _ => (Option.some.inj e).symm)) (fun i _ e => by rw [e]; exact hFq)).monoN (by omega) (by omega), by have := HF.out.2.2.1; rw [Int.natCast_add]; exact this, ?_⟩
              have g := HF.out.2.2.2
              exact HBW6.out.trans ⟨g.os, g.tape, g.output, g.size, fun j hj => g.block j (Nat.lt_of_lt_of_le hj HBW6.out.size) (by intro e; have := Option.some.inj e; omega)⟩
            clear HC6 r0 r1 r2 r3 r4 r6 rf HF SY WD DOC HS ks
            go_upto_region 17 with fail
            go_quiet (fail)
            generalize hwd : World.drewN _ _ = wd
            have hbd : Below wc.heap.size wc wd := by rw [← hwd]; exact ⟨rfl, rfl, rfl, Nat.le_refl _, fun _ _ => rfl⟩
            have q5 : wd.cell? ⟨b, 5, none⟩ = some (.int .i64 ee) := by rw [← hwd]; exact r5
            have HC8 : Hid (wd.cell? ⟨qe, 3, none⟩ = some (.iface 77 (.int .i64 ee))) := by unfold Hid; rw [← hwd]; exact HC7.out
            have IS : Hid (∀ kk : Int, Calls Try.prog 32 #[.iface 131 (pp qe), .iface 77 (.int .i64 kk)] wd fun x w' => x = .returned (.bool (kk == ee)) ∧ w' = wd) := fun kk => by
              have h := is_fail qe ee kk wd HC8.out
              rw [show (ee == kk) = (kk == ee) by rw [Bool.eq_iff_iff]; simp; exact ⟨fun h => h.symm, fun h => h.symm⟩] at h
              exact h
            obtain ⟨m2, D2, f1, f2, f3, f4, f5⟩ := FIN.out
            have FIN2 : Hid (∃ (m' : Nat) (D' : Dk), m' ≤ k + 1 ∧ Emp D' ∧ Dsk F1 (3 + 3 * (k + 1)) wd d D' ∧ Re wd q s (m' : Int) ∧ Below W.heap.size W wd) := ⟨m2, D2, f1, f2, f3.ext hbd, f4.ext hbd, f5.trans (hbd.mono f5.size)⟩
            clear r5 HC7 HC8 FIN f1 f2 f3 f4 f5 hwd hbd m2 D2
            go_wp2_with fail
            go_loopg [12] 6 (fun gk i wi => ∃ kk : Nat, kk + gk = 166 ∧ 160 ≤ kk ∧ i = .int .i64 kk ∧ Hid (wi = wd))
            case atStart => exact ⟨160, by omega, by omega, rfl, rfl⟩
            case round =>
              obtain ⟨kk, hgk, hk160, rfl, HWI⟩ := hrel
              have hwi := HWI.out
              subst hwi
              by_cases h66 : kk < 166
              · have h66' : (kk : Int) < 166 := by omega
                have IK := hidIt (IS.out kk)
                have HGK := hidIt hgk
                clear hgk
                generalize hbb : ((kk : Int) == ee) = bb at *
                go_wp2_with (go_at_call 32; refine IK.out.mono ?_; rintro e w9 ⟨rfl, rfl⟩)
                go_roundg (165 - kk)
                case rel => exact ⟨kk + 1, by omega, by omega, by go_num, rfl⟩
                case measure => have := HGK.out; omega
              · have hge : ¬ (kk : Int) < 166 := by omega
                obtain ⟨m2, D2, f1, f2, f3, f4, f5⟩ := FIN2.out
                go_wp2_with fail
                go_roundw
                case rel => exact ⟨k + 1, by omega, by go_num, m2, D2, f1, f2, f3, f4, f5⟩
                case measure => simp [RowKit.intOf]; omega
        · rw [hkk] at k0
          have SY := hidIt (sync_e CR HDK5.out HEM.out (by omega) x.nm hnl 6 (by decide) 29 rfl)
          have WD := hidIt (words_any 6 (by decide))
          have k2' := k2
          go_upto_region 16 with (go_at_call 29; refine SY.out.mono ?_; rintro e w6 ⟨qe, rfl, hq1, hq2, hc, hd, hk6⟩; have HC6 := hidIt hc; have HD6 := hidIt hd; have HK6 := hidIt hk6; clear hc hd hk6)
          have hoe : w6.heap[wr.heap.size]? = w5.heap[wr.heap.size]? := HK6.out.keep HK5.out (by decide)
          have HO6 := hidIt (hoe.trans HK5.out)
          clear hoe k0 k2 k2'
          have HRE6 : Hid (Re w6 q s (m : Int)) := (HK6.out.same q HRE5.out.cs.1 (fun e => e.1 hFq)).trans HRE5.out
          have HBW6 : Hid (Below W.heap.size W w6) := HBW5.out.trans (BW.out w5 w6 HBW5.out.size HK6.out)
          have hob : wr.heap.size < w6.heap.size := (Array.getElem?_eq_some_iff.1 HO6.out).1
          have hqr : q < wr.heap.size := HRE.out.cs.1
          have hoq : some wr.heap.size ≠ some q := fun e => by have := Option.some.inj e; omega
          have HS : Hid (∀ w' : World, w'.heap[wr.heap.size]? = w6.heap[wr.heap.size]? → w'.cell? ⟨wr.heap.size, 0, none⟩ = some (.int .i64 6) ∧ w'.cell? ⟨wr.heap.size, 2, none⟩ = some (sv x.nm)) := fun w' e => by
            have e1 := op_cell HO6.out e 0
            rw [hkk] at e1
            exact ⟨e1, op_cell HO6.out e 2⟩
          have DOC : Hid (∀ w', Below w6.heap.size w6 w' → Calls Try.prog 30 #[pp q, .agg #[.string (if (6 : Int) = 3 then ⟨#[115, 121, 110, 99]⟩ else ⟨#[114, 101, 109, 111, 118, 101]⟩), sv x.nm, .string ⟨#[]⟩, .slice none 0 0]] w' fun e w'' => e = .returned (.agg #[.int .i64 0, .slice none 0 0, .int .i64 0, .int .i64 0, .int .i64 0, .int .i64 (eE x.nm), .int .i64 ((m : Int) + 1)]) ∧ Re w'' q s ((m : Int) + 1) ∧ w'.grownBy w'' (some q)) := fun w' hb => rDo_none (HRE6.out.ext hb) (by omega) _ (by decide) x.nm hnl
          have hee := eE_ne x.nm
          generalize eE x.nm = ee at *
          have ks := HS.out w6 rfl
          go_cut [11] from 66 to 73 (fun p wF => ∃ b : Nat, p = pp b ∧ Hid (w6.heap.size ≤ b ∧ wF.heap[b]? = some (.cells #[.int .i64 0, .slice none 0 0, .int .i64 0, .int .i64 0, .int .i64 0, .int .i64 ee, .int .i64 ((m : Int) + 1)] 71 (0, 0)) ∧ Re wF q s ((m : Int) + 1) ∧ w6.grownBy wF (some q)))
          case first =>
            refine wp_region_held_drew (S := fun w'' => w''.cell? ⟨wr.heap.size, 0, none⟩ = some (.int .i64 6) ∧ w''.cell? ⟨wr.heap.size, 2, none⟩ = some (sv x.nm)) (by kernel_rfl) (ks) (fun hHeld => ?_)
            refine wpAnyH_take (i := 0) (oi := _) (v := ?_) rfl (by kernel_rfl) (by kernel_rfl) (by kernel_rfl) (fun _ _ _ h => h) (Or.inl ⟨by rfl, ?_⟩) (by assumption) ?_
            rotate_left 1
            · intro wq hSw; (try dsimp only at hSw); go_simp; try (with_reducible rfl)
            try simp only [Act.put, List.getElem_toArray, List.getElem_cons_zero, List.setIfInBounds_toArray, List.set_cons_zero, List.set_cons_succ]
            refine wpAnyH_take (i := 1) (oi := _) (v := ?_) rfl (by kernel_rfl) (by kernel_rfl) (by kernel_rfl) (fun _ _ _ h => h) (Or.inl ⟨by rfl, ?_⟩) (by assumption) ?_
            rotate_left 1
            · intro wq hSw; (try dsimp only at hSw); go_simp; try (with_reducible rfl)
            try simp only [Act.put, List.getElem_toArray, List.getElem_cons_succ, List.getElem_cons_zero, List.setIfInBounds_toArray, List.set_cons_zero, List.set_cons_succ]
            refine wpAnyH_take (i := 2) (oi := _) (v := ?_) rfl (by kernel_rfl) (by kernel_rfl) (by kernel_rfl) (fun _ _ _ h => h) (Or.inl ⟨by rfl, ?_⟩) (by assumption) ?_
            rotate_left 1
            · intro wq hSw; (try dsimp only at hSw); go_simp; try (with_reducible rfl)
            try simp only [Act.put, List.getElem_toArray, List.getElem_cons_succ, List.getElem_cons_zero, List.setIfInBounds_toArray, List.set_cons_zero, List.set_cons_succ]
            refine wpAnyH_take (i := 4) (oi := _) (v := ?_) rfl (by kernel_rfl) (by kernel_rfl) (by kernel_rfl) (fun _ _ _ h => h) (Or.inl ⟨by rfl, ?_⟩) (by assumption) ?_
            rotate_left 1
            · intro wq hSw; (try dsimp only at hSw); go_simp; try (with_reducible rfl)
            try simp only [Act.put, List.getElem_toArray, List.getElem_cons_succ, List.getElem_cons_zero, List.setIfInBounds_toArray, List.set_cons_zero, List.set_cons_succ]
            refine wpAnyH_take (i := 5) (oi := _) (v := ?_) rfl (by kernel_rfl) (by kernel_rfl) (by kernel_rfl) (fun _ _ _ h => h) (Or.inl ⟨by rfl, ?_⟩) (by assumption) ?_
            rotate_left 1
            · intro wq hSw; (try dsimp only at hSw); go_simp; try (with_reducible rfl)
            try simp only [Act.put, List.getElem_toArray, List.getElem_cons_succ, List.getElem_cons_zero, List.setIfInBounds_toArray, List.set_cons_zero, List.set_cons_succ]
            refine wpAnyH_ready (rs := [3, 8]) (by kernel_rfl) (by simp) ?_
            refine (AllReadyH.cons (o := _) rfl (fun K hK => ?_) (AllReadyH.cons (o := _) rfl (fun K hK => ?_) AllReadyH.nil))
            · skip
              go_simp
              refine (WD.out _).mono ?_; rintro e y1 ⟨rfl, hb1⟩; have HY1 := hidIt (ext_trans (Below.drew (Below.refl w6.heap.size w6)) hb1); clear hb1 ks; have ks := HS.out y1 (HY1.out.block _ hob); (try dsimp only)
              refine hK.out _ _ ?_ (fun hHeld => ?_)
              · (try simp only [World.cell?_drew]); exact ks
              clear hK K
              try simp only [Act.put, List.getElem_toArray, List.getElem_cons_succ, List.getElem_cons_zero, List.setIfInBounds_toArray, List.set_cons_zero, List.set_cons_succ]
              refine wpAnyH_take (i := 6) (oi := _) (v := ?_) rfl (by kernel_rfl) (by kernel_rfl) (by kernel_rfl) (fun _ _ _ h => h) (Or.inl ⟨by rfl, ?_⟩) (by assumption) ?_
              rotate_left 1
              · intro wq hSw; (try dsimp only at hSw); go_simp; try (with_reducible rfl)
              try simp only [Act.put, List.getElem_toArray, List.getElem_cons_succ, List.getElem_cons_zero, List.setIfInBounds_toArray, List.set_cons_zero, List.set_cons_succ]
              refine wpAnyH_ready (rs := [7, 8]) (by kernel_rfl) (by simp) ?_
              refine (AllReadyH.cons (o := _) rfl (fun K hK => ?_) (AllReadyH.cons (o := _) rfl (fun K hK => ?_) AllReadyH.nil))
              · skip
                go_simp
                refine (DOC.out y1 HY1.out).mono ?_; rintro e y2 ⟨rfl, hr2, hg2⟩; have HR2 := hidIt hr2; have HG2 := hidIt (gr_of HY1.out hg2); clear hr2 hg2 ks; have ks := HS.out y2 (HG2.out.block _ hob hoq); (try dsimp only)
                refine hK.out _ _ ?_ (fun hHeld => ?_)
                · (try simp only [World.cell?_drew]); exact ks
                clear hK K
                try simp only [Act.put, List.getElem_toArray, List.getElem_cons_succ, List.getElem_cons_zero, List.setIfInBounds_toArray, List.set_cons_zero, List.set_cons_succ]
                refine wpAnyH_ready (rs := [8]) (by kernel_rfl) (by simp) ?_
                refine AllReadyH.cons (o := _) rfl (fun K hK => ?_) AllReadyH.nil
                go_simp
                generalize hwA : World.alloc _ _ = yA; have HN : Hid (yA.heap[y2.heap.size]? = some (.cells #[.int .i64 0, .slice none 0 0, .int .i64 0, .int .i64 0, .int .i64 0, .int .i64 0, .int .i64 0] 71 (0, 0))) := by unfold Hid; rw [← hwA]; exact heap_alloc_new _ _
                have hbA : Below y2.heap.size y2 yA := by rw [← hwA]; exact ext_alloc (Below.refl _ _) _
                have HRY : Hid (Re yA q s ((m : Int) + 1)) := HR2.out.ext hbA
                have HGY : Hid (w6.grownBy yA (some q)) := gr_ext HG2.out hbA
                have hnb : w6.heap.size ≤ y2.heap.size := HG2.out.size
                clear hwA ks hbA; have ks := HS.out yA (HGY.out.block _ hob hoq)
                obtain ⟨a0, a1, a2, a3, a4, a5, a6, af⟩ := cells7 HN.out
                refine hK.out _ _ ?_ (fun hHeld => ?_)
                · (try simp only [World.cell?_drew]); exact ks
                clear hK K
                try simp only [Act.put, List.getElem_toArray, List.getElem_cons_succ, List.getElem_cons_zero, List.setIfInBounds_toArray, List.set_cons_zero, List.set_cons_succ]
                refine wpAnyH_ready (rs := [9]) (by kernel_rfl) (by simp) ?_
                refine AllReadyH.cons (o := _) rfl (fun K hK => ?_) AllReadyH.nil
                go_simp
                generalize hwS : World.setCell _ _ _ = yS
                obtain ⟨p1, p2⟩ := put7 HN.out (.int .i64 0) (.slice none 0 0) (.int .i64 0) (.int .i64 0) (.int .i64 0) (.int .i64 ee) (.int .i64 ((m : Int) + 1))
                rw [hwS] at p1 p2
                clear hwS a0 a1 a2 a3 a4 a5 a6 af
                have HPS := hidIt p1
                have HGS : Hid (w6.grownBy yS (some q)) := gr_new HGY.out hnb p2
                have HRS : Hid (Re yS q s ((m : Int) + 1)) := (p2.block q HRY.out.cs.1 (by intro e; have := Option.some.inj e; omega)).trans HRY.out
                clear p1 p2 ks
                have ks := HS.out yS (HGS.out.block _ hob hoq)
                refine hK.out _ _ ?_ (fun hHeld => ?_)
                · (try simp only [World.cell?_drew]); exact ks
                clear hK K
                try simp only [Act.put, List.getElem_toArray, List.getElem_cons_succ, List.getElem_cons_zero, List.setIfInBounds_toArray, List.set_cons_zero, List.set_cons_succ]
                refine wpAnyH_done (by kernel_rfl) ?_ _
                go_wp2_with fail
                go_meet
                exact ⟨_, rfl, hnb, by first | exact HPS.out | exact (World.heap_drew ▸ HPS.out), by first | exact HRS.out | exact HRS.out.ext (Below.drew (Below.refl _ _)), by first | exact HGS.out | exact gr_ext HGS.out (Below.drew (Below.refl _ _))⟩
              · skip
                go_simp
                generalize hwA : World.alloc _ _ = yA; have HN : Hid (yA.heap[y1.heap.size]? = some (.cells #[.int .i64 0, .slice none 0 0, .int .i64 0, .int .i64 0, .int .i64 0, .int .i64 0, .int .i64 0] 71 (0, 0))) := by unfold Hid; rw [← hwA]; exact heap_alloc_new _ _
                have HYA : Hid (Below w6.heap.size w6 yA) := by unfold Hid; rw [← hwA]; exact ext_trans HY1.out (ext_alloc (Below.refl _ _) _)
                have hnb : w6.heap.size ≤ y1.heap.size := HY1.out.size
                clear hwA ks; have ks := HS.out yA (HYA.out.block _ hob)
                refine hK.out _ _ ?_ (fun hHeld => ?_)
                · (try simp only [World.cell?_drew]); exact ks
                clear hK K
                try simp only [Act.put, List.getElem_toArray, List.getElem_cons_succ, List.getElem_cons_zero, List.setIfInBounds_toArray, List.set_cons_zero, List.set_cons_succ]
                refine wpAnyH_ready (rs := [7]) (by kernel_rfl) (by simp) ?_
                refine AllReadyH.cons (o := _) rfl (fun K hK => ?_) AllReadyH.nil
                go_simp
                refine (DOC.out yA HYA.out).mono ?_; rintro e y2 ⟨rfl, hr2, hg2⟩; replace HN := hidIt ((hg2.block y1.heap.size (Array.getElem?_eq_some_iff.1 HN.out).1 (by intro e; have := Option.some.inj e; have := hob; omega)).trans HN.out); have HR2 := hidIt hr2; have HG2 := hidIt (gr_of HYA.out hg2); clear hr2 hg2 ks; have ks := HS.out y2 (HG2.out.block _ hob hoq); (try dsimp only)
                have HRY := hidIt HR2.out
                have HGY := hidIt HG2.out
                obtain ⟨a0, a1, a2, a3, a4, a5, a6, af⟩ := cells7 HN.out
                refine hK.out _ _ ?_ (fun hHeld => ?_)
                · (try simp only [World.cell?_drew]); exact ks
                clear hK K
                try simp only [Act.put, List.getElem_toArray, List.getElem_cons_succ, List.getElem_cons_zero, List.setIfInBounds_toArray, List.set_cons_zero, List.set_cons_succ]
                refine wpAnyH_ready (rs := [9]) (by kernel_rfl) (by simp) ?_
                refine AllReadyH.cons (o := _) rfl (fun K hK => ?_) AllReadyH.nil
                go_simp
                generalize hwS : World.setCell _ _ _ = yS
                obtain ⟨p1, p2⟩ := put7 HN.out (.int .i64 0) (.slice none 0 0) (.int .i64 0) (.int .i64 0) (.int .i64 0) (.int .i64 ee) (.int .i64 ((m : Int) + 1))
                rw [hwS] at p1 p2
                clear hwS a0 a1 a2 a3 a4 a5 a6 af
                have HPS := hidIt p1
                have HGS : Hid (w6.grownBy yS (some q)) := gr_new HGY.out hnb p2
                have HRS : Hid (Re yS q s ((m : Int) + 1)) := (p2.block q HRY.out.cs.1 (by intro e; have := Option.some.inj e; omega)).trans HRY.out
                clear p1 p2 ks
                have ks := HS.out yS (HGS.out.block _ hob hoq)
                refine hK.out _ _ ?_ (fun hHeld => ?_)
                · (try simp only [World.cell?_drew]); exact ks
                clear hK K
                try simp only [Act.put, List.getElem_toArray, List.getElem_cons_succ, List.getElem_cons_zero, List.setIfInBounds_toArray, List.set_cons_zero, List.set_cons_succ]
                refine wpAnyH_done (by kernel_rfl) ?_ _
                go_wp2_with fail
                go_meet
                exact ⟨_, rfl, hnb, by first | exact HPS.out | exact (World.heap_drew ▸ HPS.out), by first | exact HRS.out | exact HRS.out.ext (Below.drew (Below.refl _ _)), by first | exact HGS.out | exact gr_ext HGS.out (Below.drew (Below.refl _ _))⟩
            · skip
              go_simp
              generalize hwA : World.alloc _ _ = yA; have HN : Hid (yA.heap[w6.heap.size]? = some (.cells #[.int .i64 0, .slice none 0 0, .int .i64 0, .int .i64 0, .int .i64 0, .int .i64 0, .int .i64 0] 71 (0, 0))) := by unfold Hid; rw [← hwA]; exact heap_alloc_new _ _
              have HYA : Hid (Below w6.heap.size w6 yA) := by unfold Hid; rw [← hwA]; exact ext_alloc (Below.refl _ _) _
              have hnb : w6.heap.size ≤ w6.heap.size := Nat.le_refl _
              clear hwA ks; have ks := HS.out yA (HYA.out.block _ hob)
              refine hK.out _ _ ?_ (fun hHeld => ?_)
              · (try simp only [World.cell?_drew]); exact ks
              clear hK K
              try simp only [Act.put, List.getElem_toArray, List.getElem_cons_succ, List.getElem_cons_zero, List.setIfInBounds_toArray, List.set_cons_zero, List.set_cons_succ]
              refine wpAnyH_ready (rs := [3]) (by kernel_rfl) (by simp) ?_
              refine AllReadyH.cons (o := _) rfl (fun K hK => ?_) AllReadyH.nil
              go_simp
              refine (WD.out _).mono ?_; rintro e y1 ⟨rfl, hb1⟩; replace HN := hidIt ((hb1.block w6.heap.size (Array.getElem?_eq_some_iff.1 HN.out).1).trans HN.out); have HY1 := hidIt (ext_trans (ext_trans HYA.out (Below.drew (Below.refl _ _))) hb1); clear hb1 ks; have ks := HS.out y1 (HY1.out.block _ hob); (try dsimp only)
              refine hK.out _ _ ?_ (fun hHeld => ?_)
              · (try simp only [World.cell?_drew]); exact ks
              clear hK K
              try simp only [Act.put, List.getElem_toArray, List.getElem_cons_succ, List.getElem_cons_zero, List.setIfInBounds_toArray, List.set_cons_zero, List.set_cons_succ]
              refine wpAnyH_take (i := 6) (oi := _) (v := ?_) rfl (by kernel_rfl) (by kernel_rfl) (by kernel_rfl) (fun _ _ _ h => h) (Or.inl ⟨by rfl, ?_⟩) (by assumption) ?_
              rotate_left 1
              · intro wq hSw; (try dsimp only at hSw); go_simp; try (with_reducible rfl)
              try simp only [Act.put, List.getElem_toArray, List.getElem_cons_succ, List.getElem_cons_zero, List.setIfInBounds_toArray, List.set_cons_zero, List.set_cons_succ]
              refine wpAnyH_ready (rs := [7]) (by kernel_rfl) (by simp) ?_
              refine AllReadyH.cons (o := _) rfl (fun K hK => ?_) AllReadyH.nil
              go_simp
              refine (DOC.out y1 HY1.out).mono ?_; rintro e y2 ⟨rfl, hr2, hg2⟩; replace HN := hidIt ((hg2.block w6.heap.size (Array.getElem?_eq_some_iff.1 HN.out).1 (by intro e; have := Option.some.inj e; have := hob; omega)).trans HN.out); have HR2 := hidIt hr2; have HG2 := hidIt (gr_of HY1.out hg2); clear hr2 hg2 ks; have ks := HS.out y2 (HG2.out.block _ hob hoq); (try dsimp only)
              have HRY := hidIt HR2.out
              have HGY := hidIt HG2.out
              obtain ⟨a0, a1, a2, a3, a4, a5, a6, af⟩ := cells7 HN.out
              refine hK.out _ _ ?_ (fun hHeld => ?_)
              · (try simp only [World.cell?_drew]); exact ks
              clear hK K
              try simp only [Act.put, List.getElem_toArray, List.getElem_cons_succ, List.getElem_cons_zero, List.setIfInBounds_toArray, List.set_cons_zero, List.set_cons_succ]
              refine wpAnyH_ready (rs := [9]) (by kernel_rfl) (by simp) ?_
              refine AllReadyH.cons (o := _) rfl (fun K hK => ?_) AllReadyH.nil
              go_simp
              generalize hwS : World.setCell _ _ _ = yS
              obtain ⟨p1, p2⟩ := put7 HN.out (.int .i64 0) (.slice none 0 0) (.int .i64 0) (.int .i64 0) (.int .i64 0) (.int .i64 ee) (.int .i64 ((m : Int) + 1))
              rw [hwS] at p1 p2
              clear hwS a0 a1 a2 a3 a4 a5 a6 af
              have HPS := hidIt p1
              have HGS : Hid (w6.grownBy yS (some q)) := gr_new HGY.out hnb p2
              have HRS : Hid (Re yS q s ((m : Int) + 1)) := (p2.block q HRY.out.cs.1 (by intro e; have := Option.some.inj e; omega)).trans HRY.out
              clear p1 p2 ks
              have ks := HS.out yS (HGS.out.block _ hob hoq)
              refine hK.out _ _ ?_ (fun hHeld => ?_)
              · (try simp only [World.cell?_drew]); exact ks
              clear hK K
              try simp only [Act.put, List.getElem_toArray, List.getElem_cons_succ, List.getElem_cons_zero, List.setIfInBounds_toArray, List.set_cons_zero, List.set_cons_succ]
              refine wpAnyH_done (by kernel_rfl) ?_ _
              go_wp2_with fail
              go_meet
              exact ⟨_, rfl, hnb, by first | exact HPS.out | exact (World.heap_drew ▸ HPS.out), by first | exact HRS.out | exact HRS.out.ext (Below.drew (Below.refl _ _)), by first | exact HGS.out | exact gr_ext HGS.out (Below.drew (Below.refl _ _))⟩
          
          case rest =>
            obtain ⟨b, rfl, HF⟩ := hcut
            have HC7 : Hid (wc.cell? ⟨qe, 3, none⟩ = some (.iface 77 (.int .i64 ee))) := by
              have e := HF.out.2.2.2.block qe hq2 (by intro e; have := Option.some.inj e; have := HB5.out.size; omega)
              have := HC6.out
              unfold World.cell? at this ⊢
              unfold Hid
              rw [e]
              exact this
            obtain ⟨r0, r1, r2, r3, r4, r5, r6, rf⟩ := cells7 HF.out.2.1
            have he0 : (ee == 0) = false := by rcases hee with rfl | rfl <;> decide
            have hez : ¬ ee = 0 := by omega
            have FIN : Hid (∃ (m' : Nat) (D' : Dk), m' ≤ k + 1 ∧ Emp D' ∧ Dsk F1 (3 + 3 * (k + 1)) wc d D' ∧ Re wc q s (m' : Int) ∧ Below W.heap.size W wc) := by
              refine ⟨m + 1, D.tick, by omega, HEM.out.tick, (HD6.out.kps (o := fun j => j = q) (Kps.grown HF.out.2.2.2 (fun j e _ => (Option.some.inj e).symm)) (fun i _ e => by rw [e]; exact hFq)).monoN (by omega) (by omega), by have := HF.out.2.2.1; rw [Int.natCast_add]; exact this, ?_⟩
              have g := HF.out.2.2.2
              exact HBW6.out.trans ⟨g.os, g.tape, g.output, g.size, fun j hj => g.block j (Nat.lt_of_lt_of_le hj HBW6.out.size) (by intro e; have := Option.some.inj e; omega)⟩
            clear HC6 r0 r1 r2 r3 r4 r6 rf HF SY WD DOC HS ks
            go_upto_region 17 with fail
            go_quiet (fail)
            generalize hwd : World.drewN _ _ = wd
            have hbd : Below wc.heap.size wc wd := by rw [← hwd]; exact ⟨rfl, rfl, rfl, Nat.le_refl _, fun _ _ => rfl⟩
            have q5 : wd.cell? ⟨b, 5, none⟩ = some (.int .i64 ee) := by rw [← hwd]; exact r5
            have HC8 : Hid (wd.cell? ⟨qe, 3, none⟩ = some (.iface 77 (.int .i64 ee))) := by unfold Hid; rw [← hwd]; exact HC7.out
            have IS : Hid (∀ kk : Int, Calls Try.prog 32 #[.iface 131 (pp qe), .iface 77 (.int .i64 kk)] wd fun x w' => x = .returned (.bool (kk == ee)) ∧ w' = wd) := fun kk => by
              have h := is_fail qe ee kk wd HC8.out
              rw [show (ee == kk) = (kk == ee) by rw [Bool.eq_iff_iff]; simp; exact ⟨fun h => h.symm, fun h => h.symm⟩] at h
              exact h
            obtain ⟨m2, D2, f1, f2, f3, f4, f5⟩ := FIN.out
            have FIN2 : Hid (∃ (m' : Nat) (D' : Dk), m' ≤ k + 1 ∧ Emp D' ∧ Dsk F1 (3 + 3 * (k + 1)) wd d D' ∧ Re wd q s (m' : Int) ∧ Below W.heap.size W wd) := ⟨m2, D2, f1, f2, f3.ext hbd, f4.ext hbd, f5.trans (hbd.mono f5.size)⟩
            clear r5 HC7 HC8 FIN f1 f2 f3 f4 f5 hwd hbd m2 D2
            go_wp2_with fail
            go_loopg [12] 6 (fun gk i wi => ∃ kk : Nat, kk + gk = 166 ∧ 160 ≤ kk ∧ i = .int .i64 kk ∧ Hid (wi = wd))
            case atStart => exact ⟨160, by omega, by omega, rfl, rfl⟩
            case round =>
              obtain ⟨kk, hgk, hk160, rfl, HWI⟩ := hrel
              have hwi := HWI.out
              subst hwi
              by_cases h66 : kk < 166
              · have h66' : (kk : Int) < 166 := by omega
                have IK := hidIt (IS.out kk)
                have HGK := hidIt hgk
                clear hgk
                generalize hbb : ((kk : Int) == ee) = bb at *
                go_wp2_with (go_at_call 32; refine IK.out.mono ?_; rintro e w9 ⟨rfl, rfl⟩)
                go_roundg (165 - kk)
                case rel => exact ⟨kk + 1, by omega, by omega, by go_num, rfl⟩
                case measure => have := HGK.out; omega
              · have hge : ¬ (kk : Int) < 166 := by omega
                obtain ⟨m2, D2, f1, f2, f3, f4, f5⟩ := FIN2.out
                go_wp2_with fail
                go_roundw
                case rel => exact ⟨k + 1, by omega, by go_num, m2, D2, f1, f2, f3, f4, f5⟩
                case measure => simp [RowKit.intOf]; omega
      · have hk3 : ¬ x.k = 3 := fun e => hkk (.inl e)
        have hk6 : ¬ x.k = 6 := fun e => hkk (.inr e)
        have hb3 : (x.k == 3) = false := by simp [hk3]
        have hb6 : (x.k == 6) = false := by simp [hk6]
        have hn3 : (x.k != 3) = true := by simp [hk3]
        have hn6 : (x.k != 6) = true := by simp [hk6]
        go_wp2_with fail
        go_roundw
        case rel => exact ⟨k + 1, by omega, by go_num, m, D, by omega, HEM.out, HDK5.out.monoN (by omega) (by omega), HRE5.out, HBW5.out⟩
        case measure => simp [RowKit.intOf]; omega
    · have ejk : xs.length = k := by omega
      subst ejk
      have hge : ¬ (xs.length : Int) < (xs.length : Int) := by omega
      go_wp2_with fail
      go_ret
      exact ⟨rfl, HBW.out⟩
end Go.Proofs.Ytaoaihjiieandaa
