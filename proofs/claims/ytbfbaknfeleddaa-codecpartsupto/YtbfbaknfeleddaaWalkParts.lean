/- CodecParts: the walk. -/
import Derived.Test.YtbfbaknfeleddaaClose
import Derived.Test.YtbfbaknfeleddaaWalkBack
namespace Go.Proofs.Ytbfbaknfeleddaa
open Go.RowKit

theorem i64_and7 (n : Int) : bits .and .i64 n 7 = n % 8 := by
  have h3 : (BitVec.ofInt 64 7).toNat = 2 ^ 3 - 1 := by decide
  have key : (BitVec.ofInt 64 n &&& BitVec.ofInt 64 7).toNat = (n % ((2 ^ 64 : Nat) : Int)).toNat % 2 ^ 3 := by
    rw [BitVec.toNat_and, BitVec.toNat_ofInt, h3, Nat.and_two_pow_sub_one_eq_mod]
  show IntKind.i64.wrap ((BitVec.ofInt 64 n &&& BitVec.ofInt 64 7).toNat : Nat) = n % 8
  rw [key, IntKind.wrap_i64]
  omega

theorem st_grown {w w' : World} {g : Nat} {enc : Int} {h : List Int} {base : Nat} {e : TypeId} {size n : Nat} {v : Value} {xs : List Value} (s : St w g enc h) (o : w.ownsRow base e size v n xs) (hg : w.grownBy w' v.ownBlock) (hb : g < base) : St w' g enc h := by
  have hl := s.lt
  obtain ⟨x, hx, h1, h2⟩ := s
  exact ⟨x, by rw [hg.block g hl (by intro e; have := (o.lt g e.symm).1; omega)]; exact hx, h1, h2⟩

/-- The bytes from a place to another. -/
theorem cut_mid {k : IntKind} {w : World} {b off len cap at' to' : Nat} {zs : List Int} (h : Rd k w (.slice (some ⟨b, off, none⟩) len cap) zs) (h1 : at' ≤ to') (h2 : to' ≤ zs.length) : Rd k w (.slice (some ⟨b, off + at', none⟩) (to' - at') (cap - at')) ((zs.drop at').take (to' - at')) := by
  obtain ⟨ao, c, hv, hl, hm, hc⟩ := h
  cases hv
  have hlen : ((zs.drop at').take (to' - at')).length = to' - at' := by rw [List.length_take, List.length_drop]; omega
  refine ⟨_, _, by rw [hlen], by rw [hlen]; omega, by unfold maxLen at *; omega, fun hn => ?_⟩
  have hne : zs ≠ [] := by intro h; subst h; simp at hn
  obtain ⟨b', off', ha, hb, hcell⟩ := hc hne
  cases ha
  refine ⟨b, off + at', rfl, hb, fun i hi => ?_⟩
  rw [hlen] at hi
  have := hcell (at' + i) (by omega)
  rw [← Nat.add_assoc] at this
  rw [this, List.getElem?_take, if_pos hi, List.getElem?_drop]
theorem cut_mid0 {k : IntKind} {w : World} {b off len cap at' to' : Nat} {zs : List Int} (h : Rd k w (.slice (some ⟨b, off, none⟩) len cap) zs) (h1 : at' ≤ to') (h2 : to' ≤ zs.length) (hc : cap = at') : Rd k w (.slice (some ⟨b, off, none⟩) (to' - at') (cap - at')) ((zs.drop at').take (to' - at')) := by
  obtain ⟨ao, c, hv, hl, hm, _⟩ := h
  cases hv
  have hz : to' - at' = 0 := by omega
  rw [hz]
  exact ⟨_, _, rfl, by simp, by unfold maxLen at *; omega, fun hn => absurd rfl hn⟩

theorem cut_map {k : IntKind} {w : World} {ao : Option Addr} {len cap at' to' : Nat} {zs : List Int} (h : Rd k w (.slice ao len cap) zs) (h1 : at' ≤ to') (h2 : to' ≤ zs.length) : Rd k w (.slice (Option.map (fun x => x.add at') ao) (to' - at') (cap - at')) ((zs.drop at').take (to' - at')) := by
  obtain ⟨ao', c, hv, hl, hm, hc⟩ := h
  cases hv
  have hlen : ((zs.drop at').take (to' - at')).length = to' - at' := by rw [List.length_take, List.length_drop]; omega
  refine ⟨_, _, by rw [hlen], by rw [hlen]; omega, by unfold maxLen at *; omega, fun hn => ?_⟩
  have hne : zs ≠ [] := by intro h; subst h; simp at hn
  obtain ⟨b, off, rfl, hb, hcell⟩ := hc hne
  refine ⟨b, off + at', by simp [Addr.add_lit], hb, fun i hi => ?_⟩
  rw [hlen] at hi
  have := hcell (at' + i) (by omega)
  rw [← Nat.add_assoc] at this
  rw [this, List.getElem?_take, if_pos hi, List.getElem?_drop]
theorem cut_none {k : IntKind} {w : World} {ao : Option Addr} {len at' to' : Nat} {zs : List Int} (h : Rd k w (.slice ao len at') zs) (h2 : to' ≤ zs.length) : Rd k w (.slice ao (to' - at') 0) ((zs.drop at').take (to' - at')) := by
  obtain ⟨ao', c, hv, hl, hm, hc⟩ := h
  cases hv
  have hz : to' - at' = 0 := by omega
  rw [hz]
  exact ⟨_, _, rfl, by simp, by unfold maxLen; omega, fun hn => absurd rfl hn⟩

theorem cut_empty {k : IntKind} {w : World} {ao : Option Addr} {at' to' n : Nat} {zs : List Int} (hn : n = 0) (h : to' - at' = 0) : Rd k w (.slice ao n 0) ((zs.drop at').take (to' - at')) := by
  rw [h, hn]
  exact ⟨_, _, rfl, by simp, by simp [maxLen], fun hn => absurd rfl hn⟩

theorem ext_below {w w' : World} (h : Below w.heap.size w w') {o : Obj} : Below w.heap.size w (w'.alloc o) := h.alloc h.size o

theorem parts_eq {k : Int} {z hh gl ds A h2 : List Int} {a to' : Nat} (h1 : a ≤ to') (hD : ds = gl ++ Cx.dec k (hh ++ z.drop a)) (hF : ∀ d, Cx.dec k (hh ++ (z.drop a).take (to' - a) ++ d) = A ++ Cx.dec k (h2 ++ d)) : ds = (gl ++ A) ++ Cx.dec k (h2 ++ z.drop to') := by
  have e : z.drop a = (z.drop a).take (to' - a) ++ z.drop to' := by
    have : z.drop to' = (z.drop a).drop (to' - a) := by rw [List.drop_drop]; congr 1; omega
    rw [this, List.take_append_drop]
  rw [hD, e, ← List.append_assoc hh, hF, List.append_assoc]

theorem Byt.app {x y : List Int} (h1 : Byt x) (h2 : Byt y) : Byt (x ++ y) := by
  intro z hz
  rcases List.mem_append.1 hz with h | h
  · exact h1 z h
  · exact h2 z h
theorem Byt.mid {z : List Int} (h : Byt z) (a n : Nat) : Byt ((z.drop a).take n) := fun x hx => h x (List.mem_of_mem_drop (List.mem_of_mem_take hx))

set_option maxRecDepth 100000 in
set_option maxHeartbeats 8000000 in
theorem law_parts (enc : Int) (v : Value) (z : List Int) (u : Value) (cs : List Int) (w : World) (h : Rd .u8 w v z) (hb : Byt z) (hu : Rd .i64 w u cs) (hzc : z.length ≤ 1048576 ∧ cs.length ≤ 1048576) :
    Calls Try.prog 6 #[.int .i64 enc, v, u] w fun e w' => e = .returned (.bool true) ∧ Below w.heap.size w w' := by
  obtain ⟨ao, cp, rfl, hcp, hcpm, hx1⟩ := id h
  obtain ⟨uo, up, rfl, hup, hupm, hx2⟩ := id hu
  obtain ⟨hz, hul⟩ := hzc
  have hcpm' : cp ≤ 9223372036854775807 := hcpm
  clear hx1 hx2 hcpm hupm hup
  have HR : Hid (Rd .u8 w (.slice ao z.length cp) z) := h
  have HU : Hid (Rd .i64 w (.slice uo cs.length up) cs) := hu
  have HB : Hid (Byt z) := hb
  clear h hb hu
  have he := whole_in enc
  obtain ⟨i0, hi, hz0', hz1', hz2'⟩ := info_parts Try.info_i64
  go_enter Try.func6, Try.ntmps6
  go_wp2_with fail
  refine (whole_any enc _).mono ?_
  rintro e w' ⟨rfl, hw'⟩
  subst hw'
  generalize enc % 4 + 1 = k at *
  have HK : Hid (k = 1 ∨ k = 2 ∨ k = 3 ∨ k = 4) := he
  clear he
  have hdl : (Cx.dec k z).length ≤ z.length := Cx.dec_len k _ z
  have HDP : Hid (z ≠ [] → 0 < (Cx.dec k z).length) := Cx.dec_pos k z
  go_wp2_with fail
  refine (copyBytes_any _ z _ HR.out (by omega)).mono ?_
  rintro e w1 ⟨v1, rfl, hv1, hb1⟩
  have HV1 : Hid (Rd .u8 w1 v1 z) := Rd.of_own hv1
  have HW1 : Hid (Below w'.heap.size w' w1) := hb1
  clear hv1 hb1
  go_wp2_with fail
  refine (Decode_any k _ z _ HV1.out HB.out (by omega)).mono ?_
  rintro e w2 ⟨l, rfl, hl2, hb2⟩
  rw [Cx.er_known k HK.out]
  rw [Cx.dd_known k z HK.out] at hl2
  obtain ⟨la, lc, rfl, hlc, hy1, hy2⟩ := Rd.of_own hl2
  clear hy1 hy2
  have HL2 : Hid (Rd .i64 w2 (.slice la (Cx.dec k z).length lc) (Cx.dec k z)) := Rd.of_own hl2
  have HW2 : Hid (Below w'.heap.size w' w2) := ext_trans HW1.out hb2
  clear hl2 hb2 HV1 HW1
  go_wp2_with fail
  refine (NewStream_any k ((Cx.known_iff k).2 HK.out) _).mono ?_
  rintro e w3 ⟨rfl, hst, hb3⟩
  have HR2 : Hid (Rd .u8 w2 (.slice ao z.length cp) z) := HR.out.ext HW2.out
  have HU2 : Hid (Rd .i64 w2 (.slice uo cs.length up) cs) := HU.out.ext HW2.out
  have HST : Hid (St w3 w2.heap.size k []) := hst
  have HB3 : Hid (Below w2.heap.size w2 w3) := hb3
  clear hst hb3 HR HU
  obtain ⟨ds, hds⟩ : ∃ ds, ds = Cx.dec k z := ⟨_, rfl⟩
  rw [← hds] at hdl HDP HL2 ⊢
  have HDS : Hid (ds = Cx.dec k z) := hds
  clear hds
  go_wp2_with fail
  refine (num_any _ _).mono ?_
  rintro e w4 ⟨rfl, hw4⟩
  obtain rfl : w3 = w4 := hw4.symm
  go_wp2_with fail
  refine (num_any _ _).mono ?_
  rintro e w4 ⟨rfl, hw4⟩
  obtain rfl : w3 = w4 := hw4.symm
  have HG0 : Hid (Below w2.heap.size w2 w3) := HB3.out
  have hg1 : w2.heap.size < w3.heap.size := HST.out.lt
  have HQ : Hid (Cx.dec k z = ds) := HDS.out.symm
  clear HDS HB3
  have hb2 : ((0 : Int) < (z.length : Int) ∧ ((ds.length : Int) == 0) = false) ∨ ¬ (0 : Int) < (z.length : Int) := by
    by_cases h : z = []
    · exact .inr (by rw [h]; simp)
    · have h1 := List.length_pos_iff.2 h
      have h2 := HDP.out h
      exact .inl ⟨by omega, by rw [beq_eq_false_iff_ne]; omega⟩
  clear HDP
  rcases hb2 with ⟨hzp, hdp⟩ | hzp
  · go_wp2_with fail
    go_loopw [12] (fun r wr => ∃ n : Nat, n ≤ 2 ∧ r = .int .i64 n ∧ St wr w2.heap.size k [] ∧ Below w2.heap.size w2 wr) (fun r _ => 2 - (intOf r).toNat)
    case atStart => exact ⟨0, by omega, rfl, HST.out, HG0.out⟩
    case round =>
      obtain ⟨n, hn, rfl, hst, hbr⟩ := hrel
      by_cases hn2 : n < 2
      · have HSTr : Hid (St wr w2.heap.size k []) := hst
        have HBr : Hid (Below w2.heap.size w2 wr) := hbr
        have hnd : decide ((n : Int) < 2) = true := by simp; omega
        clear hst hbr HST HG0
        go_wp2_with fail
        go_loopw [13, 14, 15] (fun o pa pi wr => ∃ (gl hh : List Int) (a i : Nat), a ≤ z.length ∧ i ≤ cs.length + 1 ∧ (i = cs.length + 1 → a = z.length) ∧ pa = .int .i64 a ∧ pi = .int .i64 i ∧ wr.ownsRow (w2.heap.size + 1) 3 1 o gl.length (gl.map (Value.int .i64)) ∧ Hid (ds = gl ++ Cx.dec k (hh ++ z.drop a)) ∧ hh.length ≤ a ∧ gl.length + hh.length ≤ a ∧ Hid (Byt hh) ∧ Hid (St wr w2.heap.size k hh) ∧ Hid (Below w2.heap.size w2 wr)) (fun _ _ i _ => cs.length + 1 - (intOf i).toNat)
        case atStart => exact ⟨[], [], 0, 0, by omega, by omega, by omega, rfl, rfl, World.ownsRow_nil _ _ _ _, HQ.out.symm, by simp, by simp, by intro x hx; simp at hx, HSTr.out, HBr.out⟩
        case round =>
          obtain ⟨gl, hh, a, i, ha, hi1, hi2, rfl, rfl, hown, HD, hha, hgh, HHB, HSx, HBx⟩ := hrel
          by_cases hil : i ≤ cs.length
          · by_cases hilt : i < cs.length
            · have hcne : cs ≠ [] := by intro h; rw [h] at hilt; simp at hilt
              obtain ⟨uo', up', hv', _, _, hcell⟩ := id HU2.out
              cases hv'
              obtain ⟨b, off, rfl, hbl, hcell⟩ := hcell hcne
              have hcx : wr.cell? ⟨b, off + i, none⟩ = some (.int .i64 (cs[i]?.getD 0)) := (HBx.out.cell (p := ⟨b, off + i, none⟩) hbl).trans (hcell i hilt)
              have hand := i64_and7 (cs[i]?.getD 0)
              have hm0 : 0 ≤ (cs[i]?.getD 0) % 8 ∧ (cs[i]?.getD 0) % 8 ≤ 7 := by omega
              clear hcell hcne
              generalize cs[i]?.getD 0 = q at *
              obtain ⟨m, hm⟩ : ∃ m : Nat, q % 8 = (m : Int) := ⟨(q % 8).toNat, by omega⟩
              rw [hm] at hand hm0
              clear hm
              obtain ⟨to', hto⟩ : ∃ to' : Nat, min (z.length : Int) ((a : Int) + (m : Int)) = (to' : Int) := ⟨(min (z.length : Int) ((a : Int) + (m : Int))).toNat, by omega⟩
              have hto1 : a ≤ to' := by omega
              have hto2 : to' ≤ z.length := by omega
              have hto3 : (a : Int) + (m : Int) ≤ 9223372036854775807 := by omega
              by_cases hca : a = cp
              all_goals
                first | (have hca' : ¬ cp = a := fun h => hca h.symm) | (have hto' : min (z.length : Int) ((cp : Int) + (m : Int)) = (to' : Int) := by rw [← hca]; exact hto)
                go_wp2_with fail
                refine (copyBytes_any _ ((z.drop a).take (to' - a)) _ ?_ ?_).mono ?_
                · first | exact cut_map (HR2.out.ext HBx.out) (by omega) (by omega) | exact cut_empty (by omega) (by omega)
                · rw [List.length_take]; omega
                rintro e w5 ⟨v5, rfl, own5, hb5⟩
                have HS5 : Hid (St w5 w2.heap.size k hh) := HSx.out.ext hb5
                have HB5 : Hid (Below w2.heap.size w2 w5) := HBx.out.trans (hb5.mono HBx.out.size)
                have hown5 := own_ext hown hb5
                have HO5 : Hid (Rd .u8 w5 v5 ((z.drop a).take (to' - a))) := Rd.of_own own5
                have HSl5 : Hid (Sl v5) := Sl.of_own own5
                have hpl : ((z.drop a).take (to' - a)).length = to' - a := by rw [List.length_take, List.length_drop]; omega
                have HPB : Hid (Byt (hh ++ (z.drop a).take (to' - a))) := HHB.out.app (HB.out.mid _ _)
                obtain ⟨fd1, fd2, fd3, ⟨fn, fd4⟩, fd5⟩ := Cx.fd_dec k _ (hh ++ (z.drop a).take (to' - a)) (Nat.le_refl _)
                rw [List.length_append, hpl] at fd3 fd5
                have HNB : Hid (Byt (Cx.fd k (hh ++ (z.drop a).take (to' - a))).2) := by unfold Hid; rw [fd4]; exact HPB.out.drop _
                have HD' : Hid (ds = (gl ++ (Cx.fd k (hh ++ (z.drop a).take (to' - a))).1) ++ Cx.dec k ((Cx.fd k (hh ++ (z.drop a).take (to' - a))).2 ++ z.drop to')) := parts_eq (by omega) HD.out fd1
                have HFE : Hid (∀ w g hh' v, hh' = hh → St w g k hh' → Rd .u8 w v ((z.drop a).take (to' - a)) → Sl v → Calls Try.prog 24 #[.pointer (some ⟨g, 0, none⟩), v] w fun e w' => ∃ v', e = .returned v' ∧ w'.ownsRow w.heap.size 3 1 v' (Cx.fd k (hh ++ (z.drop a).take (to' - a))).1.length ((Cx.fd k (hh ++ (z.drop a).take (to' - a))).1.map (Value.int .i64)) ∧ St w' g k (Cx.fd k (hh ++ (z.drop a).take (to' - a))).2 ∧ w.grownBy w' (some g)) := by
                  intro w g hh' v e s r sl
                  subst e
                  exact Feed_any k HK.out w g hh' _ v s r sl HPB.out (by rw [hpl]; omega)
                clear fd1 fd4 HD own5 hb5 hown hpl HPB HSx HBx
                generalize (Cx.fd k (hh ++ (z.drop a).take (to' - a))).1 = A at *
                generalize (Cx.fd k (hh ++ (z.drop a).take (to' - a))).2 = h2 at *
                go_wp2_with fail
                refine (HFE.out _ _ hh _ rfl HS5.out HO5.out HSl5.out).mono ?_
                rintro e w6 ⟨v6, rfl, own6, hst6, hg6⟩
                have HS6 : Hid (St w6 w2.heap.size k h2) := hst6
                have HB6 : Hid (Below w2.heap.size w2 w6) := HB5.out.grown hg6 HB5.out.size (fun k hk => by cases hk; exact Nat.le_refl _)
                have hown6 := own_grown hown5 hg6 (Nat.lt_succ_self _)
                have hsz6 : w2.heap.size + 1 ≤ w6.heap.size := HS6.out.lt
                have HA : Hid (gl.map (Value.int .i64) ++ A.map (Value.int .i64) = (gl ++ A).map (Value.int .i64)) := List.map_append.symm
                have hgA : (gl ++ A).length = gl.length + A.length := List.length_append
                clear hst6 hg6 hown5 HFE HS5 HO5 HSl5 HB5
                rcases own6.2 with ⟨rfl, hA0⟩ | ⟨g6, cap6, cur6, hv6, _, _, _, _, _, _⟩
                · have hAe : A = [] := List.length_eq_zero_iff.1 hA0
                  subst hAe
                  clear own6 hA0 HA
                  simp only [List.append_nil] at HD' hgA
                  go_wp2_with (at_builtin; refine wpList_append_own_none rfl _ _ 26 rfl (w2.heap.size + 1) 3 i0 1 Try.underlying26 hi _ _ _ rfl hown6 rfl ?_)
                  refine (Held_any _ _ k h2 HS6.out).mono ?_
                  rintro e w7 ⟨rfl, hw7⟩
                  obtain rfl : w6 = w7 := hw7.symm
                  go_wp2_with fail
                  go_roundw
                  case rel => exact ⟨gl, h2, to', i + 1, by omega, by omega, by omega, rfl, by go_num, hown6, HD'.out, by omega, by omega, HNB.out, HS6.out, HB6.out⟩
                  case measure => first | (simp [intOf]; done) | (simp [intOf]; omega)
                · subst hv6
                  have HR6 : Hid (Rd .i64 w6 (.slice (some ⟨g6, 0, none⟩) A.length cap6) A) := Rd.of_own own6
                  clear own6
                  go_wp2_with (at_builtin; refine wpList_append_own _ rfl _ _ 26 rfl (w2.heap.size + 1) 3 i0 (.int .i64 0) 1 8 Try.underlying26 hi hz0' hz1' hz2' rfl (by decide) _ gl.length (gl.map (Value.int .i64)) rfl hown6 ⟨g6, 0, none⟩ A.length cap6 (A.map (Value.int .i64)) rfl (by simp) (rd_cells HR6.out).2 (one_all _ _) (by unfold maxLen; omega) (by omega) hsz6 ?_; intro v8 w8 hown8 hg8 hx8)
                  have HS8 : Hid (St w8 w2.heap.size k h2) := st_grown HS6.out hown6 hg8 (Nat.lt_succ_self _)
                  have HB8 : Hid (Below w2.heap.size w2 w8) := HB6.out.grown hg8 HB6.out.size (fun k hk => Nat.le_of_succ_le (hown6.lt k hk).1)
                  have hown8' : w8.ownsRow (w2.heap.size + 1) 3 1 v8 (gl ++ A).length ((gl ++ A).map (Value.int .i64)) := by rw [hgA, ← HA.out]; exact hown8
                  clear hown8 hg8 hx8 hown6
                  refine (Held_any _ _ k h2 HS8.out).mono ?_
                  rintro e w9 ⟨rfl, hw9⟩
                  obtain rfl : w8 = w9 := hw9.symm
                  go_wp2_with fail
                  go_roundw
                  case rel => exact ⟨gl ++ A, h2, to', i + 1, by omega, by omega, by omega, rfl, by go_num, hown8', HD'.out, by omega, by omega, HNB.out, HS8.out, HB8.out⟩
                  case measure => first | (simp [intOf]; done) | (simp [intOf]; omega)
            · have hie : i = cs.length := by omega
              subst hie
              clear hilt hil
              by_cases hca : a = cp
              all_goals
                first | (have hca' : ¬ cp = a := fun h => hca h.symm) | skip
                go_wp2_with fail
                refine (copyBytes_any _ ((z.drop a).take (z.length - a)) _ ?_ ?_).mono ?_
                · first | exact cut_map (HR2.out.ext HBx.out) (by omega) (by omega) | exact cut_empty (by omega) (by omega)
                · rw [List.length_take]; omega
                rintro e w5 ⟨v5, rfl, own5, hb5⟩
                have HS5 : Hid (St w5 w2.heap.size k hh) := HSx.out.ext hb5
                have HB5 : Hid (Below w2.heap.size w2 w5) := HBx.out.trans (hb5.mono HBx.out.size)
                have hown5 := own_ext hown hb5
                have HO5 : Hid (Rd .u8 w5 v5 ((z.drop a).take (z.length - a))) := Rd.of_own own5
                have HSl5 : Hid (Sl v5) := Sl.of_own own5
                have hpl : ((z.drop a).take (z.length - a)).length = z.length - a := by rw [List.length_take, List.length_drop]; omega
                have HPB : Hid (Byt (hh ++ (z.drop a).take (z.length - a))) := HHB.out.app (HB.out.mid _ _)
                obtain ⟨fd1, fd2, fd3, ⟨fn, fd4⟩, fd5⟩ := Cx.fd_dec k _ (hh ++ (z.drop a).take (z.length - a)) (Nat.le_refl _)
                rw [List.length_append, hpl] at fd3 fd5
                have HNB : Hid (Byt (Cx.fd k (hh ++ (z.drop a).take (z.length - a))).2) := by unfold Hid; rw [fd4]; exact HPB.out.drop _
                have HD' : Hid (ds = (gl ++ (Cx.fd k (hh ++ (z.drop a).take (z.length - a))).1) ++ Cx.dec k ((Cx.fd k (hh ++ (z.drop a).take (z.length - a))).2 ++ z.drop z.length)) := parts_eq (by omega) HD.out fd1
                have HFE : Hid (∀ w g hh' v, hh' = hh → St w g k hh' → Rd .u8 w v ((z.drop a).take (z.length - a)) → Sl v → Calls Try.prog 24 #[.pointer (some ⟨g, 0, none⟩), v] w fun e w' => ∃ v', e = .returned v' ∧ w'.ownsRow w.heap.size 3 1 v' (Cx.fd k (hh ++ (z.drop a).take (z.length - a))).1.length ((Cx.fd k (hh ++ (z.drop a).take (z.length - a))).1.map (Value.int .i64)) ∧ St w' g k (Cx.fd k (hh ++ (z.drop a).take (z.length - a))).2 ∧ w.grownBy w' (some g)) := by
                  intro w g hh' v e s r sl
                  subst e
                  exact Feed_any k HK.out w g hh' _ v s r sl HPB.out (by rw [hpl]; omega)
                clear fd1 fd4 HD own5 hb5 hown hpl HPB HSx HBx
                generalize (Cx.fd k (hh ++ (z.drop a).take (z.length - a))).1 = A at *
                generalize (Cx.fd k (hh ++ (z.drop a).take (z.length - a))).2 = h2 at *
                go_wp2_with fail
                refine (HFE.out _ _ hh _ rfl HS5.out HO5.out HSl5.out).mono ?_
                rintro e w6 ⟨v6, rfl, own6, hst6, hg6⟩
                have HS6 : Hid (St w6 w2.heap.size k h2) := hst6
                have HB6 : Hid (Below w2.heap.size w2 w6) := HB5.out.grown hg6 HB5.out.size (fun k hk => by cases hk; exact Nat.le_refl _)
                have hown6 := own_grown hown5 hg6 (Nat.lt_succ_self _)
                have hsz6 : w2.heap.size + 1 ≤ w6.heap.size := HS6.out.lt
                have HA : Hid (gl.map (Value.int .i64) ++ A.map (Value.int .i64) = (gl ++ A).map (Value.int .i64)) := List.map_append.symm
                have hgA : (gl ++ A).length = gl.length + A.length := List.length_append
                clear hst6 hg6 hown5 HFE HS5 HO5 HSl5 HB5
                rcases own6.2 with ⟨rfl, hA0⟩ | ⟨g6, cap6, cur6, hv6, _, _, _, _, _, _⟩
                · have hAe : A = [] := List.length_eq_zero_iff.1 hA0
                  subst hAe
                  clear own6 hA0 HA
                  simp only [List.append_nil] at HD' hgA
                  go_wp2_with (at_builtin; refine wpList_append_own_none rfl _ _ 26 rfl (w2.heap.size + 1) 3 i0 1 Try.underlying26 hi _ _ _ rfl hown6 rfl ?_)
                  refine (Held_any _ _ k h2 HS6.out).mono ?_
                  rintro e w7 ⟨rfl, hw7⟩
                  obtain rfl : w6 = w7 := hw7.symm
                  go_wp2_with fail
                  go_roundw
                  case rel => exact ⟨gl, h2, z.length, cs.length + 1, by omega, by omega, by omega, rfl, by go_num, hown6, HD'.out, by omega, by omega, HNB.out, HS6.out, HB6.out⟩
                  case measure => first | (simp [intOf]; done) | (simp [intOf]; omega)
                · subst hv6
                  have HR6 : Hid (Rd .i64 w6 (.slice (some ⟨g6, 0, none⟩) A.length cap6) A) := Rd.of_own own6
                  clear own6
                  go_wp2_with (at_builtin; refine wpList_append_own _ rfl _ _ 26 rfl (w2.heap.size + 1) 3 i0 (.int .i64 0) 1 8 Try.underlying26 hi hz0' hz1' hz2' rfl (by decide) _ gl.length (gl.map (Value.int .i64)) rfl hown6 ⟨g6, 0, none⟩ A.length cap6 (A.map (Value.int .i64)) rfl (by simp) (rd_cells HR6.out).2 (one_all _ _) (by unfold maxLen; omega) (by omega) hsz6 ?_; intro v8 w8 hown8 hg8 hx8)
                  have HS8 : Hid (St w8 w2.heap.size k h2) := st_grown HS6.out hown6 hg8 (Nat.lt_succ_self _)
                  have HB8 : Hid (Below w2.heap.size w2 w8) := HB6.out.grown hg8 HB6.out.size (fun k hk => Nat.le_of_succ_le (hown6.lt k hk).1)
                  have hown8' : w8.ownsRow (w2.heap.size + 1) 3 1 v8 (gl ++ A).length ((gl ++ A).map (Value.int .i64)) := by rw [hgA, ← HA.out]; exact hown8
                  clear hown8 hg8 hx8 hown6
                  refine (Held_any _ _ k h2 HS8.out).mono ?_
                  rintro e w9 ⟨rfl, hw9⟩
                  obtain rfl : w8 = w9 := hw9.symm
                  go_wp2_with fail
                  go_roundw
                  case rel => exact ⟨gl ++ A, h2, z.length, cs.length + 1, by omega, by omega, by omega, rfl, by go_num, hown8', HD'.out, by omega, by omega, HNB.out, HS8.out, HB8.out⟩
                  case measure => first | (simp [intOf]; done) | (simp [intOf]; omega)
          · have hil' : ¬ (i : Int) ≤ (cs.length : Int) := by omega
            have HD0 : Hid (ds = gl ++ Cx.dec k hh) := by unfold Hid; rw [HD.out, hi2 (by omega), List.drop_length, List.append_nil]
            have hAl : (Cx.dec k hh).length ≤ hh.length := Cx.dec_len k _ hh
            have HCL : Hid (∀ w g hh', hh' = hh → St w g k hh' → Calls Try.prog 26 #[.pointer (some ⟨g, 0, none⟩)] w fun e w' => ∃ v', e = .returned v' ∧ w'.ownsRow w.heap.size 3 1 v' (Cx.dec k hh).length ((Cx.dec k hh).map (Value.int .i64)) ∧ St w' g k [] ∧ w.grownBy w' (some g)) := by
              intro w g hh' e s
              subst e
              exact Close_any k HK.out w g hh' s HHB.out
            clear HD hi2 hil
            generalize Cx.dec k hh = A at *
            go_wp2_with fail
            refine (HCL.out _ _ hh rfl HSx.out).mono ?_
            rintro e w6 ⟨v6, rfl, own6, hst6, hg6⟩
            have HS6 : Hid (St w6 w2.heap.size k []) := hst6
            have HB6 : Hid (Below w2.heap.size w2 w6) := HBx.out.grown hg6 HBx.out.size (fun k hk => by cases hk; exact Nat.le_refl _)
            have hown6 := own_grown hown hg6 (Nat.lt_succ_self _)
            have hsz6 : w2.heap.size + 1 ≤ w6.heap.size := HS6.out.lt
            have HA : Hid (gl.map (Value.int .i64) ++ A.map (Value.int .i64) = (gl ++ A).map (Value.int .i64)) := List.map_append.symm
            have hgA : (gl ++ A).length = gl.length + A.length := List.length_append
            clear hst6 hg6 hown HCL HSx HBx
            rcases own6.2 with ⟨rfl, hA0⟩ | ⟨g6, cap6, cur6, hv6, _, _, _, _, _, _⟩
            · have hAe : A = [] := List.length_eq_zero_iff.1 hA0
              subst hAe
              clear own6 hA0 HA
              simp only [List.append_nil] at HD0
              have hRg := Rd.of_own hown6
              rw [← HD0.out] at hRg
              have HRg : Hid (Rd .i64 w6 _ ds) := hRg
              clear hRg
              go_wp2_with (at_builtin; refine wpList_append_own_none rfl _ _ 26 rfl (w2.heap.size + 1) 3 i0 1 Try.underlying26 hi _ _ _ rfl hown6 rfl ?_)
              refine (Held_any _ _ k [] HS6.out).mono ?_
              rintro e w7 ⟨rfl, hw7⟩
              obtain rfl : w6 = w7 := hw7.symm
              simp only [List.length_nil]
              go_wp2_with fail
              refine (sameInts_any _ _ ds _ HRg.out (HL2.out.ext HB6.out)).mono ?_
              rintro e w9 ⟨rfl, hb9⟩
              have HS9 : Hid (St w9 w2.heap.size k []) := HS6.out.ext hb9
              have HB9 : Hid (Below w2.heap.size w2 w9) := HB6.out.trans (hb9.mono HB6.out.size)
              clear hb9
              go_wp2_with fail
              go_roundw
              case rel => exact ⟨n + 1, by omega, by go_num, HS9.out, HB9.out⟩
              case measure => first | (simp [intOf]; done) | (simp [intOf]; omega)
            · subst hv6
              have HR6 : Hid (Rd .i64 w6 (.slice (some ⟨g6, 0, none⟩) A.length cap6) A) := Rd.of_own own6
              clear own6
              go_wp2_with (at_builtin; refine wpList_append_own _ rfl _ _ 26 rfl (w2.heap.size + 1) 3 i0 (.int .i64 0) 1 8 Try.underlying26 hi hz0' hz1' hz2' rfl (by decide) _ gl.length (gl.map (Value.int .i64)) rfl hown6 ⟨g6, 0, none⟩ A.length cap6 (A.map (Value.int .i64)) rfl (by simp) (rd_cells HR6.out).2 (one_all _ _) (by unfold maxLen; omega) (by omega) hsz6 ?_; intro v8 w8 hown8 hg8 hx8)
              have HS8 : Hid (St w8 w2.heap.size k []) := st_grown HS6.out hown6 hg8 (Nat.lt_succ_self _)
              have HB8 : Hid (Below w2.heap.size w2 w8) := HB6.out.grown hg8 HB6.out.size (fun k hk => Nat.le_of_succ_le (hown6.lt k hk).1)
              have HRg : Hid (Rd .i64 w8 v8 ds) := by
                unfold Hid
                rw [HD0.out]
                have : w8.ownsRow (w2.heap.size + 1) 3 1 v8 (gl ++ A).length ((gl ++ A).map (Value.int .i64)) := by rw [hgA, ← HA.out]; exact hown8
                exact Rd.of_own this
              clear hown8 hg8 hx8 hown6
              refine (Held_any _ _ k [] HS8.out).mono ?_
              rintro e w7 ⟨rfl, hw7⟩
              obtain rfl : w8 = w7 := hw7.symm
              simp only [List.length_nil]
              go_wp2_with fail
              refine (sameInts_any _ _ ds _ HRg.out (HL2.out.ext HB8.out)).mono ?_
              rintro e w9 ⟨rfl, hb9⟩
              have HS9 : Hid (St w9 w2.heap.size k []) := HS8.out.ext hb9
              have HB9 : Hid (Below w2.heap.size w2 w9) := HB8.out.trans (hb9.mono HB8.out.size)
              clear hb9
              go_wp2_with fail
              go_roundw
              case rel => exact ⟨n + 1, by omega, by go_num, HS9.out, HB9.out⟩
              case measure => first | (simp [intOf]; done) | (simp [intOf]; omega)
      · have hnd : ¬ (n : Int) < 2 := by omega
        have HBr : Hid (Below w2.heap.size w2 wr) := hbr
        clear hst hbr HST HG0
        go_wp2_with fail
        refine (Decode_any k _ [65, 65] _ (Rd.lit .u8 wr 5 [65, 65] (by simp [maxLen])) (by intro x hx; simp at hx; omega) (by simp)).mono ?_
        rintro e w6 ⟨l, rfl, hl6, hb6⟩
        rw [Cx.er_known k HK.out]
        rw [Cx.dd_known k _ HK.out] at hl6
        have hpos : 0 < (Cx.dec k [65, 65]).length := Cx.dec_pos k _ (by simp)
        obtain ⟨la6, lc6, rfl, hlc6, hy6, hy7⟩ := Rd.of_own hl6
        have HB7 : Hid (Below w'.heap.size w' w6) := ext_trans (HW2.out.trans ((ext_below HBr.out).mono HW2.out.size)) hb6
        clear hl6 hb6 hy6 hy7
        generalize (Cx.dec k [65, 65]).length = dl at *
        go_wp2_with fail
        refine (num_any _ _).mono ?_
        rintro e w9 ⟨rfl, hw9⟩
        obtain rfl : w6 = w9 := hw9.symm
        go_wp2_with fail
        go_ret
        exact ⟨rfl, HB7.out⟩
  · go_wp2_with fail
    go_loopw [12] (fun r wr => ∃ n : Nat, n ≤ 2 ∧ r = .int .i64 n ∧ St wr w2.heap.size k [] ∧ Below w2.heap.size w2 wr) (fun r _ => 2 - (intOf r).toNat)
    case atStart => exact ⟨0, by omega, rfl, HST.out, HG0.out⟩
    case round =>
      obtain ⟨n, hn, rfl, hst, hbr⟩ := hrel
      by_cases hn2 : n < 2
      · have HSTr : Hid (St wr w2.heap.size k []) := hst
        have HBr : Hid (Below w2.heap.size w2 wr) := hbr
        have hnd : decide ((n : Int) < 2) = true := by simp; omega
        clear hst hbr HST HG0
        go_wp2_with fail
        go_loopw [13, 14, 15] (fun o pa pi wr => ∃ (gl hh : List Int) (a i : Nat), a ≤ z.length ∧ i ≤ cs.length + 1 ∧ (i = cs.length + 1 → a = z.length) ∧ pa = .int .i64 a ∧ pi = .int .i64 i ∧ wr.ownsRow (w2.heap.size + 1) 3 1 o gl.length (gl.map (Value.int .i64)) ∧ Hid (ds = gl ++ Cx.dec k (hh ++ z.drop a)) ∧ hh.length ≤ a ∧ gl.length + hh.length ≤ a ∧ Hid (Byt hh) ∧ Hid (St wr w2.heap.size k hh) ∧ Hid (Below w2.heap.size w2 wr)) (fun _ _ i _ => cs.length + 1 - (intOf i).toNat)
        case atStart => exact ⟨[], [], 0, 0, by omega, by omega, by omega, rfl, rfl, World.ownsRow_nil _ _ _ _, HQ.out.symm, by simp, by simp, by intro x hx; simp at hx, HSTr.out, HBr.out⟩
        case round =>
          obtain ⟨gl, hh, a, i, ha, hi1, hi2, rfl, rfl, hown, HD, hha, hgh, HHB, HSx, HBx⟩ := hrel
          by_cases hil : i ≤ cs.length
          · by_cases hilt : i < cs.length
            · have hcne : cs ≠ [] := by intro h; rw [h] at hilt; simp at hilt
              obtain ⟨uo', up', hv', _, _, hcell⟩ := id HU2.out
              cases hv'
              obtain ⟨b, off, rfl, hbl, hcell⟩ := hcell hcne
              have hcx : wr.cell? ⟨b, off + i, none⟩ = some (.int .i64 (cs[i]?.getD 0)) := (HBx.out.cell (p := ⟨b, off + i, none⟩) hbl).trans (hcell i hilt)
              have hand := i64_and7 (cs[i]?.getD 0)
              have hm0 : 0 ≤ (cs[i]?.getD 0) % 8 ∧ (cs[i]?.getD 0) % 8 ≤ 7 := by omega
              clear hcell hcne
              generalize cs[i]?.getD 0 = q at *
              obtain ⟨m, hm⟩ : ∃ m : Nat, q % 8 = (m : Int) := ⟨(q % 8).toNat, by omega⟩
              rw [hm] at hand hm0
              clear hm
              obtain ⟨to', hto⟩ : ∃ to' : Nat, min (z.length : Int) ((a : Int) + (m : Int)) = (to' : Int) := ⟨(min (z.length : Int) ((a : Int) + (m : Int))).toNat, by omega⟩
              have hto1 : a ≤ to' := by omega
              have hto2 : to' ≤ z.length := by omega
              have hto3 : (a : Int) + (m : Int) ≤ 9223372036854775807 := by omega
              by_cases hca : a = cp
              all_goals
                first | (have hca' : ¬ cp = a := fun h => hca h.symm) | (have hto' : min (z.length : Int) ((cp : Int) + (m : Int)) = (to' : Int) := by rw [← hca]; exact hto)
                go_wp2_with fail
                refine (copyBytes_any _ ((z.drop a).take (to' - a)) _ ?_ ?_).mono ?_
                · first | exact cut_map (HR2.out.ext HBx.out) (by omega) (by omega) | exact cut_empty (by omega) (by omega)
                · rw [List.length_take]; omega
                rintro e w5 ⟨v5, rfl, own5, hb5⟩
                have HS5 : Hid (St w5 w2.heap.size k hh) := HSx.out.ext hb5
                have HB5 : Hid (Below w2.heap.size w2 w5) := HBx.out.trans (hb5.mono HBx.out.size)
                have hown5 := own_ext hown hb5
                have HO5 : Hid (Rd .u8 w5 v5 ((z.drop a).take (to' - a))) := Rd.of_own own5
                have HSl5 : Hid (Sl v5) := Sl.of_own own5
                have hpl : ((z.drop a).take (to' - a)).length = to' - a := by rw [List.length_take, List.length_drop]; omega
                have HPB : Hid (Byt (hh ++ (z.drop a).take (to' - a))) := HHB.out.app (HB.out.mid _ _)
                obtain ⟨fd1, fd2, fd3, ⟨fn, fd4⟩, fd5⟩ := Cx.fd_dec k _ (hh ++ (z.drop a).take (to' - a)) (Nat.le_refl _)
                rw [List.length_append, hpl] at fd3 fd5
                have HNB : Hid (Byt (Cx.fd k (hh ++ (z.drop a).take (to' - a))).2) := by unfold Hid; rw [fd4]; exact HPB.out.drop _
                have HD' : Hid (ds = (gl ++ (Cx.fd k (hh ++ (z.drop a).take (to' - a))).1) ++ Cx.dec k ((Cx.fd k (hh ++ (z.drop a).take (to' - a))).2 ++ z.drop to')) := parts_eq (by omega) HD.out fd1
                have HFE : Hid (∀ w g hh' v, hh' = hh → St w g k hh' → Rd .u8 w v ((z.drop a).take (to' - a)) → Sl v → Calls Try.prog 24 #[.pointer (some ⟨g, 0, none⟩), v] w fun e w' => ∃ v', e = .returned v' ∧ w'.ownsRow w.heap.size 3 1 v' (Cx.fd k (hh ++ (z.drop a).take (to' - a))).1.length ((Cx.fd k (hh ++ (z.drop a).take (to' - a))).1.map (Value.int .i64)) ∧ St w' g k (Cx.fd k (hh ++ (z.drop a).take (to' - a))).2 ∧ w.grownBy w' (some g)) := by
                  intro w g hh' v e s r sl
                  subst e
                  exact Feed_any k HK.out w g hh' _ v s r sl HPB.out (by rw [hpl]; omega)
                clear fd1 fd4 HD own5 hb5 hown hpl HPB HSx HBx
                generalize (Cx.fd k (hh ++ (z.drop a).take (to' - a))).1 = A at *
                generalize (Cx.fd k (hh ++ (z.drop a).take (to' - a))).2 = h2 at *
                go_wp2_with fail
                refine (HFE.out _ _ hh _ rfl HS5.out HO5.out HSl5.out).mono ?_
                rintro e w6 ⟨v6, rfl, own6, hst6, hg6⟩
                have HS6 : Hid (St w6 w2.heap.size k h2) := hst6
                have HB6 : Hid (Below w2.heap.size w2 w6) := HB5.out.grown hg6 HB5.out.size (fun k hk => by cases hk; exact Nat.le_refl _)
                have hown6 := own_grown hown5 hg6 (Nat.lt_succ_self _)
                have hsz6 : w2.heap.size + 1 ≤ w6.heap.size := HS6.out.lt
                have HA : Hid (gl.map (Value.int .i64) ++ A.map (Value.int .i64) = (gl ++ A).map (Value.int .i64)) := List.map_append.symm
                have hgA : (gl ++ A).length = gl.length + A.length := List.length_append
                clear hst6 hg6 hown5 HFE HS5 HO5 HSl5 HB5
                rcases own6.2 with ⟨rfl, hA0⟩ | ⟨g6, cap6, cur6, hv6, _, _, _, _, _, _⟩
                · have hAe : A = [] := List.length_eq_zero_iff.1 hA0
                  subst hAe
                  clear own6 hA0 HA
                  simp only [List.append_nil] at HD' hgA
                  go_wp2_with (at_builtin; refine wpList_append_own_none rfl _ _ 26 rfl (w2.heap.size + 1) 3 i0 1 Try.underlying26 hi _ _ _ rfl hown6 rfl ?_)
                  refine (Held_any _ _ k h2 HS6.out).mono ?_
                  rintro e w7 ⟨rfl, hw7⟩
                  obtain rfl : w6 = w7 := hw7.symm
                  go_wp2_with fail
                  go_roundw
                  case rel => exact ⟨gl, h2, to', i + 1, by omega, by omega, by omega, rfl, by go_num, hown6, HD'.out, by omega, by omega, HNB.out, HS6.out, HB6.out⟩
                  case measure => first | (simp [intOf]; done) | (simp [intOf]; omega)
                · subst hv6
                  have HR6 : Hid (Rd .i64 w6 (.slice (some ⟨g6, 0, none⟩) A.length cap6) A) := Rd.of_own own6
                  clear own6
                  go_wp2_with (at_builtin; refine wpList_append_own _ rfl _ _ 26 rfl (w2.heap.size + 1) 3 i0 (.int .i64 0) 1 8 Try.underlying26 hi hz0' hz1' hz2' rfl (by decide) _ gl.length (gl.map (Value.int .i64)) rfl hown6 ⟨g6, 0, none⟩ A.length cap6 (A.map (Value.int .i64)) rfl (by simp) (rd_cells HR6.out).2 (one_all _ _) (by unfold maxLen; omega) (by omega) hsz6 ?_; intro v8 w8 hown8 hg8 hx8)
                  have HS8 : Hid (St w8 w2.heap.size k h2) := st_grown HS6.out hown6 hg8 (Nat.lt_succ_self _)
                  have HB8 : Hid (Below w2.heap.size w2 w8) := HB6.out.grown hg8 HB6.out.size (fun k hk => Nat.le_of_succ_le (hown6.lt k hk).1)
                  have hown8' : w8.ownsRow (w2.heap.size + 1) 3 1 v8 (gl ++ A).length ((gl ++ A).map (Value.int .i64)) := by rw [hgA, ← HA.out]; exact hown8
                  clear hown8 hg8 hx8 hown6
                  refine (Held_any _ _ k h2 HS8.out).mono ?_
                  rintro e w9 ⟨rfl, hw9⟩
                  obtain rfl : w8 = w9 := hw9.symm
                  go_wp2_with fail
                  go_roundw
                  case rel => exact ⟨gl ++ A, h2, to', i + 1, by omega, by omega, by omega, rfl, by go_num, hown8', HD'.out, by omega, by omega, HNB.out, HS8.out, HB8.out⟩
                  case measure => first | (simp [intOf]; done) | (simp [intOf]; omega)
            · have hie : i = cs.length := by omega
              subst hie
              clear hilt hil
              by_cases hca : a = cp
              all_goals
                first | (have hca' : ¬ cp = a := fun h => hca h.symm) | skip
                go_wp2_with fail
                refine (copyBytes_any _ ((z.drop a).take (z.length - a)) _ ?_ ?_).mono ?_
                · first | exact cut_map (HR2.out.ext HBx.out) (by omega) (by omega) | exact cut_empty (by omega) (by omega)
                · rw [List.length_take]; omega
                rintro e w5 ⟨v5, rfl, own5, hb5⟩
                have HS5 : Hid (St w5 w2.heap.size k hh) := HSx.out.ext hb5
                have HB5 : Hid (Below w2.heap.size w2 w5) := HBx.out.trans (hb5.mono HBx.out.size)
                have hown5 := own_ext hown hb5
                have HO5 : Hid (Rd .u8 w5 v5 ((z.drop a).take (z.length - a))) := Rd.of_own own5
                have HSl5 : Hid (Sl v5) := Sl.of_own own5
                have hpl : ((z.drop a).take (z.length - a)).length = z.length - a := by rw [List.length_take, List.length_drop]; omega
                have HPB : Hid (Byt (hh ++ (z.drop a).take (z.length - a))) := HHB.out.app (HB.out.mid _ _)
                obtain ⟨fd1, fd2, fd3, ⟨fn, fd4⟩, fd5⟩ := Cx.fd_dec k _ (hh ++ (z.drop a).take (z.length - a)) (Nat.le_refl _)
                rw [List.length_append, hpl] at fd3 fd5
                have HNB : Hid (Byt (Cx.fd k (hh ++ (z.drop a).take (z.length - a))).2) := by unfold Hid; rw [fd4]; exact HPB.out.drop _
                have HD' : Hid (ds = (gl ++ (Cx.fd k (hh ++ (z.drop a).take (z.length - a))).1) ++ Cx.dec k ((Cx.fd k (hh ++ (z.drop a).take (z.length - a))).2 ++ z.drop z.length)) := parts_eq (by omega) HD.out fd1
                have HFE : Hid (∀ w g hh' v, hh' = hh → St w g k hh' → Rd .u8 w v ((z.drop a).take (z.length - a)) → Sl v → Calls Try.prog 24 #[.pointer (some ⟨g, 0, none⟩), v] w fun e w' => ∃ v', e = .returned v' ∧ w'.ownsRow w.heap.size 3 1 v' (Cx.fd k (hh ++ (z.drop a).take (z.length - a))).1.length ((Cx.fd k (hh ++ (z.drop a).take (z.length - a))).1.map (Value.int .i64)) ∧ St w' g k (Cx.fd k (hh ++ (z.drop a).take (z.length - a))).2 ∧ w.grownBy w' (some g)) := by
                  intro w g hh' v e s r sl
                  subst e
                  exact Feed_any k HK.out w g hh' _ v s r sl HPB.out (by rw [hpl]; omega)
                clear fd1 fd4 HD own5 hb5 hown hpl HPB HSx HBx
                generalize (Cx.fd k (hh ++ (z.drop a).take (z.length - a))).1 = A at *
                generalize (Cx.fd k (hh ++ (z.drop a).take (z.length - a))).2 = h2 at *
                go_wp2_with fail
                refine (HFE.out _ _ hh _ rfl HS5.out HO5.out HSl5.out).mono ?_
                rintro e w6 ⟨v6, rfl, own6, hst6, hg6⟩
                have HS6 : Hid (St w6 w2.heap.size k h2) := hst6
                have HB6 : Hid (Below w2.heap.size w2 w6) := HB5.out.grown hg6 HB5.out.size (fun k hk => by cases hk; exact Nat.le_refl _)
                have hown6 := own_grown hown5 hg6 (Nat.lt_succ_self _)
                have hsz6 : w2.heap.size + 1 ≤ w6.heap.size := HS6.out.lt
                have HA : Hid (gl.map (Value.int .i64) ++ A.map (Value.int .i64) = (gl ++ A).map (Value.int .i64)) := List.map_append.symm
                have hgA : (gl ++ A).length = gl.length + A.length := List.length_append
                clear hst6 hg6 hown5 HFE HS5 HO5 HSl5 HB5
                rcases own6.2 with ⟨rfl, hA0⟩ | ⟨g6, cap6, cur6, hv6, _, _, _, _, _, _⟩
                · have hAe : A = [] := List.length_eq_zero_iff.1 hA0
                  subst hAe
                  clear own6 hA0 HA
                  simp only [List.append_nil] at HD' hgA
                  go_wp2_with (at_builtin; refine wpList_append_own_none rfl _ _ 26 rfl (w2.heap.size + 1) 3 i0 1 Try.underlying26 hi _ _ _ rfl hown6 rfl ?_)
                  refine (Held_any _ _ k h2 HS6.out).mono ?_
                  rintro e w7 ⟨rfl, hw7⟩
                  obtain rfl : w6 = w7 := hw7.symm
                  go_wp2_with fail
                  go_roundw
                  case rel => exact ⟨gl, h2, z.length, cs.length + 1, by omega, by omega, by omega, rfl, by go_num, hown6, HD'.out, by omega, by omega, HNB.out, HS6.out, HB6.out⟩
                  case measure => first | (simp [intOf]; done) | (simp [intOf]; omega)
                · subst hv6
                  have HR6 : Hid (Rd .i64 w6 (.slice (some ⟨g6, 0, none⟩) A.length cap6) A) := Rd.of_own own6
                  clear own6
                  go_wp2_with (at_builtin; refine wpList_append_own _ rfl _ _ 26 rfl (w2.heap.size + 1) 3 i0 (.int .i64 0) 1 8 Try.underlying26 hi hz0' hz1' hz2' rfl (by decide) _ gl.length (gl.map (Value.int .i64)) rfl hown6 ⟨g6, 0, none⟩ A.length cap6 (A.map (Value.int .i64)) rfl (by simp) (rd_cells HR6.out).2 (one_all _ _) (by unfold maxLen; omega) (by omega) hsz6 ?_; intro v8 w8 hown8 hg8 hx8)
                  have HS8 : Hid (St w8 w2.heap.size k h2) := st_grown HS6.out hown6 hg8 (Nat.lt_succ_self _)
                  have HB8 : Hid (Below w2.heap.size w2 w8) := HB6.out.grown hg8 HB6.out.size (fun k hk => Nat.le_of_succ_le (hown6.lt k hk).1)
                  have hown8' : w8.ownsRow (w2.heap.size + 1) 3 1 v8 (gl ++ A).length ((gl ++ A).map (Value.int .i64)) := by rw [hgA, ← HA.out]; exact hown8
                  clear hown8 hg8 hx8 hown6
                  refine (Held_any _ _ k h2 HS8.out).mono ?_
                  rintro e w9 ⟨rfl, hw9⟩
                  obtain rfl : w8 = w9 := hw9.symm
                  go_wp2_with fail
                  go_roundw
                  case rel => exact ⟨gl ++ A, h2, z.length, cs.length + 1, by omega, by omega, by omega, rfl, by go_num, hown8', HD'.out, by omega, by omega, HNB.out, HS8.out, HB8.out⟩
                  case measure => first | (simp [intOf]; done) | (simp [intOf]; omega)
          · have hil' : ¬ (i : Int) ≤ (cs.length : Int) := by omega
            have HD0 : Hid (ds = gl ++ Cx.dec k hh) := by unfold Hid; rw [HD.out, hi2 (by omega), List.drop_length, List.append_nil]
            have hAl : (Cx.dec k hh).length ≤ hh.length := Cx.dec_len k _ hh
            have HCL : Hid (∀ w g hh', hh' = hh → St w g k hh' → Calls Try.prog 26 #[.pointer (some ⟨g, 0, none⟩)] w fun e w' => ∃ v', e = .returned v' ∧ w'.ownsRow w.heap.size 3 1 v' (Cx.dec k hh).length ((Cx.dec k hh).map (Value.int .i64)) ∧ St w' g k [] ∧ w.grownBy w' (some g)) := by
              intro w g hh' e s
              subst e
              exact Close_any k HK.out w g hh' s HHB.out
            clear HD hi2 hil
            generalize Cx.dec k hh = A at *
            go_wp2_with fail
            refine (HCL.out _ _ hh rfl HSx.out).mono ?_
            rintro e w6 ⟨v6, rfl, own6, hst6, hg6⟩
            have HS6 : Hid (St w6 w2.heap.size k []) := hst6
            have HB6 : Hid (Below w2.heap.size w2 w6) := HBx.out.grown hg6 HBx.out.size (fun k hk => by cases hk; exact Nat.le_refl _)
            have hown6 := own_grown hown hg6 (Nat.lt_succ_self _)
            have hsz6 : w2.heap.size + 1 ≤ w6.heap.size := HS6.out.lt
            have HA : Hid (gl.map (Value.int .i64) ++ A.map (Value.int .i64) = (gl ++ A).map (Value.int .i64)) := List.map_append.symm
            have hgA : (gl ++ A).length = gl.length + A.length := List.length_append
            clear hst6 hg6 hown HCL HSx HBx
            rcases own6.2 with ⟨rfl, hA0⟩ | ⟨g6, cap6, cur6, hv6, _, _, _, _, _, _⟩
            · have hAe : A = [] := List.length_eq_zero_iff.1 hA0
              subst hAe
              clear own6 hA0 HA
              simp only [List.append_nil] at HD0
              have hRg := Rd.of_own hown6
              rw [← HD0.out] at hRg
              have HRg : Hid (Rd .i64 w6 _ ds) := hRg
              clear hRg
              go_wp2_with (at_builtin; refine wpList_append_own_none rfl _ _ 26 rfl (w2.heap.size + 1) 3 i0 1 Try.underlying26 hi _ _ _ rfl hown6 rfl ?_)
              refine (Held_any _ _ k [] HS6.out).mono ?_
              rintro e w7 ⟨rfl, hw7⟩
              obtain rfl : w6 = w7 := hw7.symm
              simp only [List.length_nil]
              go_wp2_with fail
              refine (sameInts_any _ _ ds _ HRg.out (HL2.out.ext HB6.out)).mono ?_
              rintro e w9 ⟨rfl, hb9⟩
              have HS9 : Hid (St w9 w2.heap.size k []) := HS6.out.ext hb9
              have HB9 : Hid (Below w2.heap.size w2 w9) := HB6.out.trans (hb9.mono HB6.out.size)
              clear hb9
              go_wp2_with fail
              go_roundw
              case rel => exact ⟨n + 1, by omega, by go_num, HS9.out, HB9.out⟩
              case measure => first | (simp [intOf]; done) | (simp [intOf]; omega)
            · subst hv6
              have HR6 : Hid (Rd .i64 w6 (.slice (some ⟨g6, 0, none⟩) A.length cap6) A) := Rd.of_own own6
              clear own6
              go_wp2_with (at_builtin; refine wpList_append_own _ rfl _ _ 26 rfl (w2.heap.size + 1) 3 i0 (.int .i64 0) 1 8 Try.underlying26 hi hz0' hz1' hz2' rfl (by decide) _ gl.length (gl.map (Value.int .i64)) rfl hown6 ⟨g6, 0, none⟩ A.length cap6 (A.map (Value.int .i64)) rfl (by simp) (rd_cells HR6.out).2 (one_all _ _) (by unfold maxLen; omega) (by omega) hsz6 ?_; intro v8 w8 hown8 hg8 hx8)
              have HS8 : Hid (St w8 w2.heap.size k []) := st_grown HS6.out hown6 hg8 (Nat.lt_succ_self _)
              have HB8 : Hid (Below w2.heap.size w2 w8) := HB6.out.grown hg8 HB6.out.size (fun k hk => Nat.le_of_succ_le (hown6.lt k hk).1)
              have HRg : Hid (Rd .i64 w8 v8 ds) := by
                unfold Hid
                rw [HD0.out]
                have : w8.ownsRow (w2.heap.size + 1) 3 1 v8 (gl ++ A).length ((gl ++ A).map (Value.int .i64)) := by rw [hgA, ← HA.out]; exact hown8
                exact Rd.of_own this
              clear hown8 hg8 hx8 hown6
              refine (Held_any _ _ k [] HS8.out).mono ?_
              rintro e w7 ⟨rfl, hw7⟩
              obtain rfl : w8 = w7 := hw7.symm
              simp only [List.length_nil]
              go_wp2_with fail
              refine (sameInts_any _ _ ds _ HRg.out (HL2.out.ext HB8.out)).mono ?_
              rintro e w9 ⟨rfl, hb9⟩
              have HS9 : Hid (St w9 w2.heap.size k []) := HS8.out.ext hb9
              have HB9 : Hid (Below w2.heap.size w2 w9) := HB8.out.trans (hb9.mono HB8.out.size)
              clear hb9
              go_wp2_with fail
              go_roundw
              case rel => exact ⟨n + 1, by omega, by go_num, HS9.out, HB9.out⟩
              case measure => first | (simp [intOf]; done) | (simp [intOf]; omega)
      · have hnd : ¬ (n : Int) < 2 := by omega
        have HBr : Hid (Below w2.heap.size w2 wr) := hbr
        clear hst hbr HST HG0
        go_wp2_with fail
        refine (Decode_any k _ [65, 65] _ (Rd.lit .u8 wr 5 [65, 65] (by simp [maxLen])) (by intro x hx; simp at hx; omega) (by simp)).mono ?_
        rintro e w6 ⟨l, rfl, hl6, hb6⟩
        rw [Cx.er_known k HK.out]
        rw [Cx.dd_known k _ HK.out] at hl6
        have hpos : 0 < (Cx.dec k [65, 65]).length := Cx.dec_pos k _ (by simp)
        obtain ⟨la6, lc6, rfl, hlc6, hy6, hy7⟩ := Rd.of_own hl6
        have HB7 : Hid (Below w'.heap.size w' w6) := ext_trans (HW2.out.trans ((ext_below HBr.out).mono HW2.out.size)) hb6
        clear hl6 hb6 hy6 hy7
        generalize (Cx.dec k [65, 65]).length = dl at *
        go_wp2_with fail
        refine (num_any _ _).mono ?_
        rintro e w9 ⟨rfl, hw9⟩
        obtain rfl : w6 = w9 := hw9.symm
        go_wp2_with fail
        go_ret
        exact ⟨rfl, HB7.out⟩
end Go.Proofs.Ytbfbaknfeleddaa
