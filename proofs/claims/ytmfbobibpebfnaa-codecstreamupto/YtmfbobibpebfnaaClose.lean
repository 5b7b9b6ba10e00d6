/- Close; Feed and Close of any encoding. -/
import Derived.Test.YtmfbobibpebfnaaFeed1
import Derived.Test.YtmfbobibpebfnaaFeed2
import Derived.Test.YtmfbobibpebfnaaFeed3
import Derived.Test.YtmfbobibpebfnaaFeed4
import Derived.Deep.RegionWith
namespace Go.Proofs.Ytmfbobibpebfnaa
open Go.RowKit Go.Lib

set_option maxRecDepth 100000 in
theorem close_1 (w : World) (g : Nat) (hh : List Int) (s : St w g 1 hh) (hB : Byt hh) :
    Calls Try.prog 22 #[.pointer (some ⟨g, 0, none⟩)] w fun e w' => ∃ v', e = .returned v' ∧ w'.ownsRow w.heap.size 3 1 v' (Cx.dec 1 hh).length ((Cx.dec 1 hh).map (Value.int .i64)) ∧ St w' g 1 [] ∧ w.grownBy w' (some g) := by
  have hgl := s.lt
  have HSt : Hid (St w g 1 hh) := s
  obtain ⟨x, hg, hx1, hx2⟩ := s
  have HG : Hid (w.heap[g]? = some (.cells (strow 1 x hh.length) 46 (0, 0))) := hg
  obtain ⟨r0, _, _, _, r4, _⟩ := row_facts hg
  have r0' : w.cell? ⟨g, 0, none⟩ = some (.iface 64 (.agg #[])) := r0
  have HB : Hid (Byt hh) := hB
  have hp3 : (hh.length : Int) ≤ 3 := by omega
  clear hg hx1 hB r0
  go_enter Try.func22, Try.ntmps22
  go_wp2_with fail
  first | go_region_with (go_at_call 29; refine (decodeAll_1 (.slice (some ⟨g, 1, none⟩) hh.length 3) hh _ ?_ HB.out ?_).mono ?_; exact (held_rd HSt.out).ext (by repeat (first | exact Below.refl _ _ | apply below_drewN | refine ext_alloc ?_ _ | apply Below.drew)); omega; rintro e w1 ⟨v1, rfl, own1, hb1⟩; have HB1 : Hid (Below w.heap.size w w1) := ext_trans (by repeat (first | exact Below.refl _ _ | apply below_drewN | refine ext_alloc ?_ _ | apply Below.drew)) hb1; have HG1 : Hid (w1.heap[g]? = some (.cells (strow 1 x hh.length) 46 (0, 0))) := (by unfold Hid; rw [HB1.out.block g hgl]; exact HG.out); have HO1 : Hid (w1.ownsRow w.heap.size 3 1 v1 (Cx.dec 1 hh).length ((Cx.dec 1 hh).map (Value.int .i64))) := own1; obtain ⟨_, _, _, _, c4, f4⟩ := row_facts HG1.out; clear own1 hb1) | fail
  all_goals
    go_wp2_with fail
    go_ret
    obtain ⟨hst, hgr⟩ := st_count (m := 0) HG1.out
    exact ⟨_, rfl, own_grown HO1.out hgr hgl, ⟨x, hst, rfl, by simp⟩, grown_trans (grown_below HB1.out) hgr⟩

set_option maxRecDepth 100000 in
theorem close_2 (w : World) (g : Nat) (hh : List Int) (s : St w g 2 hh) (hB : Byt hh) :
    Calls Try.prog 22 #[.pointer (some ⟨g, 0, none⟩)] w fun e w' => ∃ v', e = .returned v' ∧ w'.ownsRow w.heap.size 3 1 v' (Cx.dec 2 hh).length ((Cx.dec 2 hh).map (Value.int .i64)) ∧ St w' g 2 [] ∧ w.grownBy w' (some g) := by
  have hgl := s.lt
  have HSt : Hid (St w g 2 hh) := s
  obtain ⟨x, hg, hx1, hx2⟩ := s
  have HG : Hid (w.heap[g]? = some (.cells (strow 2 x hh.length) 46 (0, 0))) := hg
  obtain ⟨r0, _, _, _, r4, _⟩ := row_facts hg
  have r0' : w.cell? ⟨g, 0, none⟩ = some (.iface 66 (.agg #[.int .i64 0])) := r0
  have HB : Hid (Byt hh) := hB
  have hp3 : (hh.length : Int) ≤ 3 := by omega
  clear hg hx1 hB r0
  go_enter Try.func22, Try.ntmps22
  go_wp2_with fail
  first | go_region_with (go_at_call 29; refine (decodeAll_2 (.slice (some ⟨g, 1, none⟩) hh.length 3) hh _ ?_ HB.out ?_).mono ?_; exact (held_rd HSt.out).ext (by repeat (first | exact Below.refl _ _ | apply below_drewN | refine ext_alloc ?_ _ | apply Below.drew)); omega; rintro e w1 ⟨v1, rfl, own1, hb1⟩; have HB1 : Hid (Below w.heap.size w w1) := ext_trans (by repeat (first | exact Below.refl _ _ | apply below_drewN | refine ext_alloc ?_ _ | apply Below.drew)) hb1; have HG1 : Hid (w1.heap[g]? = some (.cells (strow 2 x hh.length) 46 (0, 0))) := (by unfold Hid; rw [HB1.out.block g hgl]; exact HG.out); have HO1 : Hid (w1.ownsRow w.heap.size 3 1 v1 (Cx.dec 2 hh).length ((Cx.dec 2 hh).map (Value.int .i64))) := own1; obtain ⟨_, _, _, _, c4, f4⟩ := row_facts HG1.out; clear own1 hb1) | fail
  all_goals
    go_wp2_with fail
    go_ret
    obtain ⟨hst, hgr⟩ := st_count (m := 0) HG1.out
    exact ⟨_, rfl, own_grown HO1.out hgr hgl, ⟨x, hst, rfl, by simp⟩, grown_trans (grown_below HB1.out) hgr⟩

set_option maxRecDepth 100000 in
theorem close_3 (w : World) (g : Nat) (hh : List Int) (s : St w g 3 hh) (hB : Byt hh) :
    Calls Try.prog 22 #[.pointer (some ⟨g, 0, none⟩)] w fun e w' => ∃ v', e = .returned v' ∧ w'.ownsRow w.heap.size 3 1 v' (Cx.dec 3 hh).length ((Cx.dec 3 hh).map (Value.int .i64)) ∧ St w' g 3 [] ∧ w.grownBy w' (some g) := by
  have hgl := s.lt
  have HSt : Hid (St w g 3 hh) := s
  obtain ⟨x, hg, hx1, hx2⟩ := s
  have HG : Hid (w.heap[g]? = some (.cells (strow 3 x hh.length) 46 (0, 0))) := hg
  obtain ⟨r0, _, _, _, r4, _⟩ := row_facts hg
  have r0' : w.cell? ⟨g, 0, none⟩ = some (.iface 66 (.agg #[.int .i64 1])) := r0
  have HB : Hid (Byt hh) := hB
  have hp3 : (hh.length : Int) ≤ 3 := by omega
  clear hg hx1 hB r0
  go_enter Try.func22, Try.ntmps22
  go_wp2_with fail
  first | go_region_with (go_at_call 29; refine (decodeAll_3 (.slice (some ⟨g, 1, none⟩) hh.length 3) hh _ ?_ HB.out ?_).mono ?_; exact (held_rd HSt.out).ext (by repeat (first | exact Below.refl _ _ | apply below_drewN | refine ext_alloc ?_ _ | apply Below.drew)); omega; rintro e w1 ⟨v1, rfl, own1, hb1⟩; have HB1 : Hid (Below w.heap.size w w1) := ext_trans (by repeat (first | exact Below.refl _ _ | apply below_drewN | refine ext_alloc ?_ _ | apply Below.drew)) hb1; have HG1 : Hid (w1.heap[g]? = some (.cells (strow 3 x hh.length) 46 (0, 0))) := (by unfold Hid; rw [HB1.out.block g hgl]; exact HG.out); have HO1 : Hid (w1.ownsRow w.heap.size 3 1 v1 (Cx.dec 3 hh).length ((Cx.dec 3 hh).map (Value.int .i64))) := own1; obtain ⟨_, _, _, _, c4, f4⟩ := row_facts HG1.out; clear own1 hb1) | fail
  all_goals
    go_wp2_with fail
    go_ret
    obtain ⟨hst, hgr⟩ := st_count (m := 0) HG1.out
    exact ⟨_, rfl, own_grown HO1.out hgr hgl, ⟨x, hst, rfl, by simp⟩, grown_trans (grown_below HB1.out) hgr⟩

set_option maxRecDepth 100000 in
theorem close_4 (w : World) (g : Nat) (hh : List Int) (s : St w g 4 hh) (hB : Byt hh) :
    Calls Try.prog 22 #[.pointer (some ⟨g, 0, none⟩)] w fun e w' => ∃ v', e = .returned v' ∧ w'.ownsRow w.heap.size 3 1 v' (Cx.dec 4 hh).length ((Cx.dec 4 hh).map (Value.int .i64)) ∧ St w' g 4 [] ∧ w.grownBy w' (some g) := by
  have hgl := s.lt
  have HSt : Hid (St w g 4 hh) := s
  obtain ⟨x, hg, hx1, hx2⟩ := s
  have HG : Hid (w.heap[g]? = some (.cells (strow 4 x hh.length) 46 (0, 0))) := hg
  obtain ⟨r0, _, _, _, r4, _⟩ := row_facts hg
  have r0' : w.cell? ⟨g, 0, none⟩ = some (.iface 67 (.agg #[])) := r0
  have HB : Hid (Byt hh) := hB
  have hp3 : (hh.length : Int) ≤ 3 := by omega
  clear hg hx1 hB r0
  go_enter Try.func22, Try.ntmps22
  go_wp2_with fail
  first | go_region_with (go_at_call 29; refine (decodeAll_4 (.slice (some ⟨g, 1, none⟩) hh.length 3) hh _ ?_ HB.out ?_).mono ?_; exact (held_rd HSt.out).ext (by repeat (first | exact Below.refl _ _ | apply below_drewN | refine ext_alloc ?_ _ | apply Below.drew)); omega; rintro e w1 ⟨v1, rfl, own1, hb1⟩; have HB1 : Hid (Below w.heap.size w w1) := ext_trans (by repeat (first | exact Below.refl _ _ | apply below_drewN | refine ext_alloc ?_ _ | apply Below.drew)) hb1; have HG1 : Hid (w1.heap[g]? = some (.cells (strow 4 x hh.length) 46 (0, 0))) := (by unfold Hid; rw [HB1.out.block g hgl]; exact HG.out); have HO1 : Hid (w1.ownsRow w.heap.size 3 1 v1 (Cx.dec 4 hh).length ((Cx.dec 4 hh).map (Value.int .i64))) := own1; obtain ⟨_, _, _, _, c4, f4⟩ := row_facts HG1.out; clear own1 hb1) | fail
  all_goals
    go_wp2_with fail
    go_ret
    obtain ⟨hst, hgr⟩ := st_count (m := 0) HG1.out
    exact ⟨_, rfl, own_grown HO1.out hgr hgl, ⟨x, hst, rfl, by simp⟩, grown_trans (grown_below HB1.out) hgr⟩

theorem Feed_any (enc : Int) (he : enc = 1 ∨ enc = 2 ∨ enc = 3 ∨ enc = 4) (w : World) (g : Nat) (hh b : List Int) (v : Value) (s : St w g enc hh) (hr : Rd .u8 w v b) (sl : Sl v) (hB : Byt (hh ++ b)) (hz : b.length ≤ 1048576) :
    Calls Try.prog 13 #[.pointer (some ⟨g, 0, none⟩), v] w fun e w' => ∃ v', e = .returned v' ∧ w'.ownsRow w.heap.size 3 1 v' (Cx.fd enc (hh ++ b)).1.length ((Cx.fd enc (hh ++ b)).1.map (Value.int .i64)) ∧ St w' g enc (Cx.fd enc (hh ++ b)).2 ∧ w.grownBy w' (some g) := by
  rcases he with rfl | rfl | rfl | rfl
  · exact feed_1 w g hh b v s hr sl hB hz
  · exact feed_2 w g hh b v s hr sl hB hz
  · exact feed_3 w g hh b v s hr sl hB hz
  · exact feed_4 w g hh b v s hr sl hB hz
theorem Close_any (enc : Int) (he : enc = 1 ∨ enc = 2 ∨ enc = 3 ∨ enc = 4) (w : World) (g : Nat) (hh : List Int) (s : St w g enc hh) (hB : Byt hh) :
    Calls Try.prog 22 #[.pointer (some ⟨g, 0, none⟩)] w fun e w' => ∃ v', e = .returned v' ∧ w'.ownsRow w.heap.size 3 1 v' (Cx.dec enc hh).length ((Cx.dec enc hh).map (Value.int .i64)) ∧ St w' g enc [] ∧ w.grownBy w' (some g) := by
  rcases he with rfl | rfl | rfl | rfl
  · exact close_1 w g hh s hB
  · exact close_2 w g hh s hB
  · exact close_3 w g hh s hB
  · exact close_4 w g hh s hB
end Go.Proofs.Ytmfbobibpebfnaa
