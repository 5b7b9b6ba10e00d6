/- The law's do. -/
import Derived.Test.YtaoaihjiieandaaDScr
namespace Go.Proofs.Ytaoaihjiieandaa
open Go.RowKit

/-- A step of a script, as a value. -/
def opV (x : So) : Value := .agg #[.int .i64 x.k, .int .i64 x.who, sv x.nm, sv x.tn, x.bv, .slice x.fa x.fn x.fc, .int .i64 x.cn, .slice x.ca x.cl x.cc]
/-- do has answered. -/
def DoneR (e : Ending) : Prop := ∃ r : Bool, e = .returned (.bool r)
/-- do has answered: an error or none. -/
def DoneE (x : Int) (e : Ending) : Prop := ∃ r : Bool, e = .returned (.bool r) ∧ (r = true ↔ x ≠ 0)
theorem DoneE.r {x : Int} {e : Ending} (h : DoneE x e) : DoneR e := by
  obtain ⟨r, h, _⟩ := h
  exact ⟨r, h⟩
set_option maxRecDepth 100000 in
set_option maxHeartbeats 2000000 in
theorem law_make (CR : CrashOk) {F : Nat → Prop} {M : Nat} {w : World} {d : Nat} {D : Dk} (h : Dsk F M w d D) (hM : M + 3 ≤ 1099511627776) (x : So) (hn : x.nm.length ≤ 9223372036854775807) (hk : x.k = 1) :
    Calls Try.prog 21 #[pp d, opV x] w fun e w' => DoneE (take (opMake x.nm) none D).e e ∧ Dsk F (M + 3) w' d (take (opMake x.nm) none D).d ∧ Kd F w w' := by
  unfold opV
  rw [hk]
  obtain ⟨w1, hw1, k1, hb1⟩ : ∃ w1, w1 = w.alloc (.cells #[.int .i64 1, .int .i64 x.who, sv x.nm, sv x.tn, x.bv, .slice x.fa x.fn x.fc, .int .i64 x.cn, .slice x.ca x.cl x.cc] 48) ∧ w1.heap[w.heap.size]? = some (.cells #[.int .i64 1, .int .i64 x.who, sv x.nm, sv x.tn, x.bv, .slice x.fa x.fn x.fc, .int .i64 x.cn, .slice x.ca x.cl x.cc] 48 (0, 0)) ∧ Below w.heap.size w w1 := ⟨_, rfl, heap_alloc_new _ _, ext_alloc (Below.refl _ _) _⟩
  have z0 : w1.cell? ⟨w.heap.size, 0, none⟩ = some (.int .i64 1) := by simp [World.cell?, k1]
  have z2 : w1.cell? ⟨w.heap.size, 2, none⟩ = some (sv x.nm) := by simp [World.cell?, k1]
  have z3 : w1.cell? ⟨w.heap.size, 3, none⟩ = some (sv x.tn) := by simp [World.cell?, k1]
  have MK := hidIt (Make_any CR (h.ext hb1) hM x.nm hn)
  have HB := hidIt hb1
  clear k1 hb1 h
  go_enter Try.func21, Try.ntmps21
  go_upto_region 1 with fail
  rw [← hw1]
  clear hw1
  go_upto_region 27 with (go_at_call 41; refine MK.out.mono ?_; rintro e w4 ⟨v, rfl, h1, h2, h3⟩; have H1 := hidIt h1; have H2 := hidIt h2; have H3 := hidIt h3; clear h1 h2 h3)
  have FI : Hid (Dsk F (M + 3) w4 d (take (opMake x.nm) none D).d ∧ Kd F w w4) := ⟨H2.out, (Kd.of HB.out).trans H3.out.kd⟩
  rcases H1.out with ⟨he, rfl⟩ | ⟨he, q, hq, rfl, hqc⟩
  · have HE := hidIt he
    clear he H1
    go_wp2_with fail
    go_ret
    exact ⟨⟨_, rfl, by rw [HE.out]; simp⟩, FI.out⟩
  · have HE := hidIt he
    clear he hq hqc H1
    go_wp2_with fail
    go_ret
    exact ⟨⟨_, rfl, fun _ => HE.out, fun _ => rfl⟩, FI.out⟩
set_option maxRecDepth 100000 in
set_option maxHeartbeats 2000000 in
theorem law_sync (CR : CrashOk) {F : Nat → Prop} {M : Nat} {w : World} {d : Nat} {D : Dk} (h : Dsk F M w d D) (hM : M + 3 ≤ 1099511627776) (x : So) (hn : x.nm.length ≤ 9223372036854775807) (hk : x.k = 3) :
    Calls Try.prog 21 #[pp d, opV x] w fun e w' => DoneE (take (opSync x.nm) none D).e e ∧ Dsk F (M + 3) w' d (take (opSync x.nm) none D).d ∧ Kd F w w' := by
  unfold opV
  rw [hk]
  obtain ⟨w1, hw1, k1, hb1⟩ : ∃ w1, w1 = w.alloc (.cells #[.int .i64 3, .int .i64 x.who, sv x.nm, sv x.tn, x.bv, .slice x.fa x.fn x.fc, .int .i64 x.cn, .slice x.ca x.cl x.cc] 48) ∧ w1.heap[w.heap.size]? = some (.cells #[.int .i64 3, .int .i64 x.who, sv x.nm, sv x.tn, x.bv, .slice x.fa x.fn x.fc, .int .i64 x.cn, .slice x.ca x.cl x.cc] 48 (0, 0)) ∧ Below w.heap.size w w1 := ⟨_, rfl, heap_alloc_new _ _, ext_alloc (Below.refl _ _) _⟩
  have z0 : w1.cell? ⟨w.heap.size, 0, none⟩ = some (.int .i64 3) := by simp [World.cell?, k1]
  have z2 : w1.cell? ⟨w.heap.size, 2, none⟩ = some (sv x.nm) := by simp [World.cell?, k1]
  have z3 : w1.cell? ⟨w.heap.size, 3, none⟩ = some (sv x.tn) := by simp [World.cell?, k1]
  have MK := hidIt (Sync_any CR (h.ext hb1) hM x.nm hn)
  have HB := hidIt hb1
  clear k1 hb1 h
  go_enter Try.func21, Try.ntmps21
  go_upto_region 1 with fail
  rw [← hw1]
  clear hw1
  go_upto_region 27 with (go_at_call 26; refine MK.out.mono ?_; rintro e w4 ⟨v, rfl, h1, h2, h3⟩; have H1 := hidIt h1; have H2 := hidIt h2; have H3 := hidIt h3; clear h1 h2 h3)
  have FI : Hid (Dsk F (M + 3) w4 d (take (opSync x.nm) none D).d ∧ Kd F w w4) := ⟨H2.out, (Kd.of HB.out).trans H3.out.kd⟩
  rcases H1.out with ⟨he, rfl⟩ | ⟨he, q, hq, rfl, hqc⟩
  · have HE := hidIt he
    clear he H1
    go_wp2_with fail
    go_ret
    exact ⟨⟨_, rfl, by rw [HE.out]; simp⟩, FI.out⟩
  · have HE := hidIt he
    clear he hq hqc H1
    go_wp2_with fail
    go_ret
    exact ⟨⟨_, rfl, fun _ => HE.out, fun _ => rfl⟩, FI.out⟩
set_option maxRecDepth 100000 in
set_option maxHeartbeats 2000000 in
theorem law_dir (CR : CrashOk) {F : Nat → Prop} {M : Nat} {w : World} {d : Nat} {D : Dk} (h : Dsk F M w d D) (hM : M + 3 ≤ 1099511627776) (x : So) (hk : x.k = 4) :
    Calls Try.prog 21 #[pp d, opV x] w fun e w' => DoneE (take (opSyncDir) none D).e e ∧ Dsk F (M + 3) w' d (take (opSyncDir) none D).d ∧ Kd F w w' := by
  unfold opV
  rw [hk]
  obtain ⟨w1, hw1, k1, hb1⟩ : ∃ w1, w1 = w.alloc (.cells #[.int .i64 4, .int .i64 x.who, sv x.nm, sv x.tn, x.bv, .slice x.fa x.fn x.fc, .int .i64 x.cn, .slice x.ca x.cl x.cc] 48) ∧ w1.heap[w.heap.size]? = some (.cells #[.int .i64 4, .int .i64 x.who, sv x.nm, sv x.tn, x.bv, .slice x.fa x.fn x.fc, .int .i64 x.cn, .slice x.ca x.cl x.cc] 48 (0, 0)) ∧ Below w.heap.size w w1 := ⟨_, rfl, heap_alloc_new _ _, ext_alloc (Below.refl _ _) _⟩
  have z0 : w1.cell? ⟨w.heap.size, 0, none⟩ = some (.int .i64 4) := by simp [World.cell?, k1]
  have z2 : w1.cell? ⟨w.heap.size, 2, none⟩ = some (sv x.nm) := by simp [World.cell?, k1]
  have z3 : w1.cell? ⟨w.heap.size, 3, none⟩ = some (sv x.tn) := by simp [World.cell?, k1]
  have MK := hidIt (SyncDir_any CR (h.ext hb1) hM )
  have HB := hidIt hb1
  clear k1 hb1 h
  go_enter Try.func21, Try.ntmps21
  go_upto_region 1 with fail
  rw [← hw1]
  clear hw1
  go_upto_region 27 with (go_at_call 27; refine MK.out.mono ?_; rintro e w4 ⟨v, rfl, h1, h2, h3⟩; have H1 := hidIt h1; have H2 := hidIt h2; have H3 := hidIt h3; clear h1 h2 h3)
  have FI : Hid (Dsk F (M + 3) w4 d (take (opSyncDir) none D).d ∧ Kd F w w4) := ⟨H2.out, (Kd.of HB.out).trans H3.out.kd⟩
  rcases H1.out with ⟨he, rfl⟩ | ⟨he, q, hq, rfl, hqc⟩
  · have HE := hidIt he
    clear he H1
    go_wp2_with fail
    go_ret
    exact ⟨⟨_, rfl, by rw [HE.out]; simp⟩, FI.out⟩
  · have HE := hidIt he
    clear he hq hqc H1
    go_wp2_with fail
    go_ret
    exact ⟨⟨_, rfl, fun _ => HE.out, fun _ => rfl⟩, FI.out⟩
set_option maxRecDepth 100000 in
set_option maxHeartbeats 2000000 in
theorem law_rename (CR : CrashOk) {F : Nat → Prop} {M : Nat} {w : World} {d : Nat} {D : Dk} (h : Dsk F M w d D) (hM : M + 3 ≤ 1099511627776) (x : So) (hn : x.nm.length ≤ 9223372036854775807) (ht : x.tn.length ≤ 9223372036854775807) (hk : x.k = 5) :
    Calls Try.prog 21 #[pp d, opV x] w fun e w' => DoneE (take (opRen x.nm x.tn) none D).e e ∧ Dsk F (M + 3) w' d (take (opRen x.nm x.tn) none D).d ∧ Kd F w w' := by
  unfold opV
  rw [hk]
  obtain ⟨w1, hw1, k1, hb1⟩ : ∃ w1, w1 = w.alloc (.cells #[.int .i64 5, .int .i64 x.who, sv x.nm, sv x.tn, x.bv, .slice x.fa x.fn x.fc, .int .i64 x.cn, .slice x.ca x.cl x.cc] 48) ∧ w1.heap[w.heap.size]? = some (.cells #[.int .i64 5, .int .i64 x.who, sv x.nm, sv x.tn, x.bv, .slice x.fa x.fn x.fc, .int .i64 x.cn, .slice x.ca x.cl x.cc] 48 (0, 0)) ∧ Below w.heap.size w w1 := ⟨_, rfl, heap_alloc_new _ _, ext_alloc (Below.refl _ _) _⟩
  have z0 : w1.cell? ⟨w.heap.size, 0, none⟩ = some (.int .i64 5) := by simp [World.cell?, k1]
  have z2 : w1.cell? ⟨w.heap.size, 2, none⟩ = some (sv x.nm) := by simp [World.cell?, k1]
  have z3 : w1.cell? ⟨w.heap.size, 3, none⟩ = some (sv x.tn) := by simp [World.cell?, k1]
  have MK := hidIt (Rename_any CR (h.ext hb1) hM x.nm x.tn hn ht)
  have HB := hidIt hb1
  clear k1 hb1 h
  go_enter Try.func21, Try.ntmps21
  go_upto_region 1 with fail
  rw [← hw1]
  clear hw1
  go_upto_region 27 with (go_at_call 42; refine MK.out.mono ?_; rintro e w4 ⟨v, rfl, h1, h2, h3⟩; have H1 := hidIt h1; have H2 := hidIt h2; have H3 := hidIt h3; clear h1 h2 h3)
  have FI : Hid (Dsk F (M + 3) w4 d (take (opRen x.nm x.tn) none D).d ∧ Kd F w w4) := ⟨H2.out, (Kd.of HB.out).trans H3.out.kd⟩
  rcases H1.out with ⟨he, rfl⟩ | ⟨he, q, hq, rfl, hqc⟩
  · have HE := hidIt he
    clear he H1
    go_wp2_with fail
    go_ret
    exact ⟨⟨_, rfl, by rw [HE.out]; simp⟩, FI.out⟩
  · have HE := hidIt he
    clear he hq hqc H1
    go_wp2_with fail
    go_ret
    exact ⟨⟨_, rfl, fun _ => HE.out, fun _ => rfl⟩, FI.out⟩
set_option maxRecDepth 100000 in
set_option maxHeartbeats 2000000 in
theorem law_remove (CR : CrashOk) {F : Nat → Prop} {M : Nat} {w : World} {d : Nat} {D : Dk} (h : Dsk F M w d D) (hM : M + 3 ≤ 1099511627776) (x : So) (hn : x.nm.length ≤ 9223372036854775807) (hk : x.k = 6) :
    Calls Try.prog 21 #[pp d, opV x] w fun e w' => DoneE (take (opRem x.nm) none D).e e ∧ Dsk F (M + 3) w' d (take (opRem x.nm) none D).d ∧ Kd F w w' := by
  unfold opV
  rw [hk]
  obtain ⟨w1, hw1, k1, hb1⟩ : ∃ w1, w1 = w.alloc (.cells #[.int .i64 6, .int .i64 x.who, sv x.nm, sv x.tn, x.bv, .slice x.fa x.fn x.fc, .int .i64 x.cn, .slice x.ca x.cl x.cc] 48) ∧ w1.heap[w.heap.size]? = some (.cells #[.int .i64 6, .int .i64 x.who, sv x.nm, sv x.tn, x.bv, .slice x.fa x.fn x.fc, .int .i64 x.cn, .slice x.ca x.cl x.cc] 48 (0, 0)) ∧ Below w.heap.size w w1 := ⟨_, rfl, heap_alloc_new _ _, ext_alloc (Below.refl _ _) _⟩
  have z0 : w1.cell? ⟨w.heap.size, 0, none⟩ = some (.int .i64 6) := by simp [World.cell?, k1]
  have z2 : w1.cell? ⟨w.heap.size, 2, none⟩ = some (sv x.nm) := by simp [World.cell?, k1]
  have z3 : w1.cell? ⟨w.heap.size, 3, none⟩ = some (sv x.tn) := by simp [World.cell?, k1]
  have MK := hidIt (Remove_any CR (h.ext hb1) hM x.nm hn)
  have HB := hidIt hb1
  clear k1 hb1 h
  go_enter Try.func21, Try.ntmps21
  go_upto_region 1 with fail
  rw [← hw1]
  clear hw1
  go_upto_region 27 with (go_at_call 29; refine MK.out.mono ?_; rintro e w4 ⟨v, rfl, h1, h2, h3⟩; have H1 := hidIt h1; have H2 := hidIt h2; have H3 := hidIt h3; clear h1 h2 h3)
  have FI : Hid (Dsk F (M + 3) w4 d (take (opRem x.nm) none D).d ∧ Kd F w w4) := ⟨H2.out, (Kd.of HB.out).trans H3.out.kd⟩
  rcases H1.out with ⟨he, rfl⟩ | ⟨he, q, hq, rfl, hqc⟩
  · have HE := hidIt he
    clear he H1
    go_wp2_with fail
    go_ret
    exact ⟨⟨_, rfl, by rw [HE.out]; simp⟩, FI.out⟩
  · have HE := hidIt he
    clear he hq hqc H1
    go_wp2_with fail
    go_ret
    exact ⟨⟨_, rfl, fun _ => HE.out, fun _ => rfl⟩, FI.out⟩
set_option maxRecDepth 100000 in
set_option maxHeartbeats 2000000 in
theorem law_read (CR : CrashOk) {F : Nat → Prop} {M : Nat} {w : World} {d : Nat} {D : Dk} (h : Dsk F M w d D) (hM : M + 3 ≤ 1099511627776) (x : So) (hn : x.nm.length ≤ 9223372036854775807) (hk : x.k = 7) :
    Calls Try.prog 21 #[pp d, opV x] w fun e w' => DoneE (take (opRead x.nm) none D).e e ∧ Dsk F (M + 3) w' d (take (opRead x.nm) none D).d ∧ Kd F w w' := by
  unfold opV
  rw [hk]
  obtain ⟨w1, hw1, k1, hb1⟩ : ∃ w1, w1 = w.alloc (.cells #[.int .i64 7, .int .i64 x.who, sv x.nm, sv x.tn, x.bv, .slice x.fa x.fn x.fc, .int .i64 x.cn, .slice x.ca x.cl x.cc] 48) ∧ w1.heap[w.heap.size]? = some (.cells #[.int .i64 7, .int .i64 x.who, sv x.nm, sv x.tn, x.bv, .slice x.fa x.fn x.fc, .int .i64 x.cn, .slice x.ca x.cl x.cc] 48 (0, 0)) ∧ Below w.heap.size w w1 := ⟨_, rfl, heap_alloc_new _ _, ext_alloc (Below.refl _ _) _⟩
  have z0 : w1.cell? ⟨w.heap.size, 0, none⟩ = some (.int .i64 7) := by simp [World.cell?, k1]
  have z2 : w1.cell? ⟨w.heap.size, 2, none⟩ = some (sv x.nm) := by simp [World.cell?, k1]
  have z3 : w1.cell? ⟨w.heap.size, 3, none⟩ = some (sv x.tn) := by simp [World.cell?, k1]
  have MK := hidIt (Read_any CR (h.ext hb1) hM x.nm hn)
  have HB := hidIt hb1
  clear k1 hb1 h
  go_enter Try.func21, Try.ntmps21
  go_upto_region 1 with fail
  rw [← hw1]
  clear hw1
  go_upto_region 27 with (go_at_call 17; refine MK.out.mono ?_; rintro e w4 ⟨u, v, rfl, ⟨h1, h2, h3⟩, _⟩; have H1 := hidIt h1; have H2 := hidIt h2; have H3 := hidIt h3; clear h1 h2 h3)
  have FI : Hid (Dsk F (M + 3) w4 d (take (opRead x.nm) none D).d ∧ Kd F w w4) := ⟨H2.out, (Kd.of HB.out).trans H3.out.kd⟩
  rcases H1.out with ⟨he, rfl⟩ | ⟨he, q, hq, rfl, hqc⟩
  · have HE := hidIt he
    clear he H1
    go_wp2_with fail
    go_ret
    exact ⟨⟨_, rfl, by rw [HE.out]; simp⟩, FI.out⟩
  · have HE := hidIt he
    clear he hq hqc H1
    go_wp2_with fail
    go_ret
    exact ⟨⟨_, rfl, fun _ => HE.out, fun _ => rfl⟩, FI.out⟩
set_option maxRecDepth 100000 in
set_option maxHeartbeats 2000000 in
theorem law_stamp (CR : CrashOk) {F : Nat → Prop} {M : Nat} {w : World} {d : Nat} {D : Dk} (h : Dsk F M w d D) (hM : M + 3 ≤ 1099511627776) (x : So) (hn : x.nm.length ≤ 9223372036854775807) (hk : x.k = 8) :
    Calls Try.prog 21 #[pp d, opV x] w fun e w' => DoneE (take (opStamp x.nm) none D).e e ∧ Dsk F (M + 3) w' d (take (opStamp x.nm) none D).d ∧ Kd F w w' := by
  unfold opV
  rw [hk]
  obtain ⟨w1, hw1, k1, hb1⟩ : ∃ w1, w1 = w.alloc (.cells #[.int .i64 8, .int .i64 x.who, sv x.nm, sv x.tn, x.bv, .slice x.fa x.fn x.fc, .int .i64 x.cn, .slice x.ca x.cl x.cc] 48) ∧ w1.heap[w.heap.size]? = some (.cells #[.int .i64 8, .int .i64 x.who, sv x.nm, sv x.tn, x.bv, .slice x.fa x.fn x.fc, .int .i64 x.cn, .slice x.ca x.cl x.cc] 48 (0, 0)) ∧ Below w.heap.size w w1 := ⟨_, rfl, heap_alloc_new _ _, ext_alloc (Below.refl _ _) _⟩
  have z0 : w1.cell? ⟨w.heap.size, 0, none⟩ = some (.int .i64 8) := by simp [World.cell?, k1]
  have z2 : w1.cell? ⟨w.heap.size, 2, none⟩ = some (sv x.nm) := by simp [World.cell?, k1]
  have z3 : w1.cell? ⟨w.heap.size, 3, none⟩ = some (sv x.tn) := by simp [World.cell?, k1]
  have MK := hidIt (Stamp_any CR (h.ext hb1) hM x.nm hn)
  have HB := hidIt hb1
  clear k1 hb1 h
  go_enter Try.func21, Try.ntmps21
  go_upto_region 1 with fail
  rw [← hw1]
  clear hw1
  go_upto_region 27 with (go_at_call 52; refine MK.out.mono ?_; rintro e w4 ⟨sa, sb, sc, v, rfl, ⟨h1, h2, h3⟩, _⟩; have H1 := hidIt h1; have H2 := hidIt h2; have H3 := hidIt h3; clear h1 h2 h3)
  have FI : Hid (Dsk F (M + 3) w4 d (take (opStamp x.nm) none D).d ∧ Kd F w w4) := ⟨H2.out, (Kd.of HB.out).trans H3.out.kd⟩
  rcases H1.out with ⟨he, rfl⟩ | ⟨he, q, hq, rfl, hqc⟩
  · have HE := hidIt he
    clear he H1
    go_wp2_with fail
    go_ret
    exact ⟨⟨_, rfl, by rw [HE.out]; simp⟩, FI.out⟩
  · have HE := hidIt he
    clear he hq hqc H1
    go_wp2_with fail
    go_ret
    exact ⟨⟨_, rfl, fun _ => HE.out, fun _ => rfl⟩, FI.out⟩
set_option maxRecDepth 100000 in
set_option maxHeartbeats 2000000 in
theorem law_restart {F : Nat → Prop} {M : Nat} {w : World} {d : Nat} {D : Dk} (h : Dsk F M w d D) (x : So) (hk : x.k = 12) :
    Calls Try.prog 21 #[pp d, opV x] w fun e w' => DoneE 0 e ∧ Dsk F M w' d D.restart ∧ Kd F w w' := by
  unfold opV
  rw [hk]
  obtain ⟨w1, hw1, k1, hb1⟩ : ∃ w1, w1 = w.alloc (.cells #[.int .i64 12, .int .i64 x.who, sv x.nm, sv x.tn, x.bv, .slice x.fa x.fn x.fc, .int .i64 x.cn, .slice x.ca x.cl x.cc] 48) ∧ w1.heap[w.heap.size]? = some (.cells #[.int .i64 12, .int .i64 x.who, sv x.nm, sv x.tn, x.bv, .slice x.fa x.fn x.fc, .int .i64 x.cn, .slice x.ca x.cl x.cc] 48 (0, 0)) ∧ Below w.heap.size w w1 := ⟨_, rfl, heap_alloc_new _ _, ext_alloc (Below.refl _ _) _⟩
  have z0 : w1.cell? ⟨w.heap.size, 0, none⟩ = some (.int .i64 12) := by simp [World.cell?, k1]
  have MK := hidIt (Restart_any (h.ext hb1))
  have HB := hidIt hb1
  clear k1 hb1 h
  go_enter Try.func21, Try.ntmps21
  go_upto_region 1 with fail
  rw [← hw1]
  clear hw1
  go_upto_region 27 with (go_at_call 16; refine MK.out.mono ?_; rintro e w4 ⟨rfl, h2, h3⟩; have H2 := hidIt h2; have H3 := hidIt h3; clear h2 h3)
  have FI : Hid (Dsk F M w4 d D.restart ∧ Kd F w w4) := ⟨H2.out, (Kd.of HB.out).trans H3.out⟩
  go_wp2_with fail
  go_ret
  exact ⟨⟨_, rfl, by simp⟩, FI.out⟩
set_option maxRecDepth 100000 in
set_option maxHeartbeats 2000000 in
theorem law_none {F : Nat → Prop} {M : Nat} {w : World} {d : Nat} {D : Dk} (h : Dsk F M w d D) (x : So) (hk : x.k < 1 ∨ 12 < x.k) :
    Calls Try.prog 21 #[pp d, opV x] w fun e w' => DoneE 0 e ∧ Dsk F M w' d D ∧ Kd F w w' := by
  unfold opV
  generalize x.k = k at *
  obtain ⟨w1, hw1, k1, hb1⟩ : ∃ w1, w1 = w.alloc (.cells #[.int .i64 k, .int .i64 x.who, sv x.nm, sv x.tn, x.bv, .slice x.fa x.fn x.fc, .int .i64 x.cn, .slice x.ca x.cl x.cc] 48) ∧ w1.heap[w.heap.size]? = some (.cells #[.int .i64 k, .int .i64 x.who, sv x.nm, sv x.tn, x.bv, .slice x.fa x.fn x.fc, .int .i64 x.cn, .slice x.ca x.cl x.cc] 48 (0, 0)) ∧ Below w.heap.size w w1 := ⟨_, rfl, heap_alloc_new _ _, ext_alloc (Below.refl _ _) _⟩
  have z0 : w1.cell? ⟨w.heap.size, 0, none⟩ = some (.int .i64 k) := by simp [World.cell?, k1]
  have FI : Hid (Dsk F M w1 d D ∧ Kd F w w1) := ⟨h.ext hb1, Kd.of hb1⟩
  have n1 : ¬ k = 1 := by omega
  have n2 : ¬ k = 2 := by omega
  have n3 : ¬ k = 3 := by omega
  have n4 : ¬ k = 4 := by omega
  have n5 : ¬ k = 5 := by omega
  have n6 : ¬ k = 6 := by omega
  have n7 : ¬ k = 7 := by omega
  have n8 : ¬ k = 8 := by omega
  have n9 : ¬ k = 9 := by omega
  have n10 : ¬ k = 10 := by omega
  have n11 : ¬ k = 11 := by omega
  have n12 : ¬ k = 12 := by omega
  clear k1 hb1 h hk
  go_enter Try.func21, Try.ntmps21
  go_upto_region 1 with fail
  rw [← hw1]
  clear hw1
  go_wp2_with fail
  go_ret
  exact ⟨⟨_, rfl, by simp⟩, FI.out⟩
end Go.Proofs.Ytaoaihjiieandaa
