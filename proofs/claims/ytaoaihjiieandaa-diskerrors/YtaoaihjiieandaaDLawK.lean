/- What the laws' walks share. -/
import Derived.Test.YtaoaihjiieandaaDDoC
import Derived.Lib.SlBytesConst
namespace Go.Proofs.Ytaoaihjiieandaa
open Go.RowKit

theorem calm0 (s : Nat) : Calm s (dk0 s) := ⟨rfl, fun _ => rfl, rfl, by simp [dk0, usd]⟩
theorem put_zz {s : Nat} (hs : 8 ≤ s) : (opPut [122, 122] [49, 50, 51, 52] (dk0 s)).e = 0 := by
  have h : putE [122, 122] 4 (dk0 s) = 0 := by
    have h1 : okN [122, 122] = true := by decide
    have h2 : ¬ s < 4 := by omega
    simp [putE, dk0, h1, Dir.get, Dk.full, usd, h2]
  unfold opPut
  rw [if_neg (by show ¬ putE _ 4 _ ≠ 0; rw [h]; simp)]
  rfl
theorem rd_zz (w : World) : RdU (w.alloc (.cells #[.int .u8 49, .int .u8 50, .int .u8 51, .int .u8 52] 5 (4, 5))) (.slice (some ⟨w.heap.size, 0, none⟩) 4 4) [49, 50, 51, 52] := by
  refine ⟨⟨some ⟨w.heap.size, 0, none⟩, 4, rfl, by simp, by decide, fun _ => ⟨w.heap.size, 0, rfl, by simp, fun i hi => ?_⟩⟩, .inr ⟨_, _, _, rfl⟩⟩
  rw [World.cell?_alloc_mark]
  match i, hi with
  | 0, _ => rfl
  | 1, _ => rfl
  | 2, _ => rfl
  | 3, _ => rfl
/-- The first file of the laws' disks. -/
theorem zz_any {s : Nat} (hs : 8 ≤ s) {F : Nat → Prop} {M : Nat} {w w4 : World} {d : Nat} (h : Dsk F M w d (dk0 s)) (hM : M + 3 ≤ 1099511627776) (hb : Below w.heap.size w w4) {v : Value} (ho : RdU w4 v [49, 50, 51, 52]) (hv : ∀ g, v.ownBlock = some g → w.heap.size ≤ g ∧ g < w4.heap.size) :
    Calls Try.prog 10 #[pp d, .string ⟨#[122, 122]⟩, v] w4 fun e w' => e = .returned .nilIface ∧ Dsk F (M + 3) w' d (opPut [122, 122] [49, 50, 51, 52] (dk0 s)).d ∧ Kd F w w' := by
  refine (Put_any (h.pen hb) hM [122, 122] (by simp) v [49, 50, 51, 52] ho (by simp) (by simp) (fun g hg => .inr (hv g hg))).mono ?_
  rintro e w' ⟨u, rfl, p1, p2, p3⟩
  rw [put_zz hs] at p1
  rcases p1 with ⟨_, rfl⟩ | ⟨h0, _⟩
  · exact ⟨rfl, p2.less (fun _ hq => .inl hq), (Kd.of hb).trans (p3.kd.less (fun _ hq => .inl hq))⟩
  · exact absurd rfl h0
theorem OpC.eight {w : World} {b o : Nat} {x : So} (h : OpC w b o x) : ∃ va vc, x.bv = .slice va x.b.length vc := by
  obtain ⟨va, vc, hv⟩ := h.rd.form
  exact ⟨va, vc, hv⟩
theorem cells8 {w : World} {b : Nat} {T : TypeId} {v0 v1 v2 v3 v4 v5 v6 v7 : Value} (h : w.heap[b]? = some (.cells #[v0, v1, v2, v3, v4, v5, v6, v7] T (0, 0))) : w.cell? ⟨b, 0, none⟩ = some v0 ∧ w.cell? ⟨b, 1, none⟩ = some v1 ∧ w.cell? ⟨b, 2, none⟩ = some v2 ∧ w.cell? ⟨b, 3, none⟩ = some v3 ∧ w.cell? ⟨b, 4, none⟩ = some v4 ∧ w.cell? ⟨b, 5, none⟩ = some v5 ∧ w.cell? ⟨b, 6, none⟩ = some v6 ∧ w.cell? ⟨b, 7, none⟩ = some v7 :=
  ⟨op_cell h rfl 0, op_cell h rfl 1, op_cell h rfl 2, op_cell h rfl 3, op_cell h rfl 4, op_cell h rfl 5, op_cell h rfl 6, op_cell h rfl 7⟩
theorem bulk_mem : ∀ {l : List So} {j : Nat} {x : So}, l[j]? = some x → x.b.length ≤ bulk l
  | [], _, _, h => by simp at h
  | p :: l, 0, x, h => by
    simp at h
    subst h
    unfold bulk
    simp only [List.map_cons, List.sum_cons]
    omega
  | p :: l, j + 1, x, h => by
    have h1 := bulk_mem (l := l) (j := j) (x := x) (by simpa using h)
    unfold bulk at h1 ⊢
    simp only [List.map_cons, List.sum_cons]
    omega
/-- A shot's box. -/
theorem shot_box (w : World) (a b c : Value) : ∃ w1, w.alloc (.cells #[a, b, c] 51) = w1 ∧ Below w.heap.size w w1 ∧ w1.cell? ⟨w.heap.size, 0, none⟩ = some a ∧ w1.cell? ⟨w.heap.size, 1, none⟩ = some b ∧ w1.cell? ⟨w.heap.size, 2, none⟩ = some c :=
  ⟨_, rfl, ext_alloc (Below.refl _ _) _, op_cell (heap_alloc_new _ _) rfl 0, op_cell (heap_alloc_new _ _) rfl 1, op_cell (heap_alloc_new _ _) rfl 2⟩
/-- The disk with the laws' first file. -/
def zzD (s : Nat) : Dk := (opPut [122, 122] [49, 50, 51, 52] (dk0 s)).d
theorem zz_two {s : Nat} (hs : 8 ≤ s) {F : Nat → Prop} {M : Nat} {w : World} {d : Nat} (h : Dsk F M w d (dk0 s)) (hM : M + 3 ≤ 1099511627776) {v : Value} (ho : RdU w v [49, 50, 51, 52]) (hv : ∀ g, v.ownBlock = some g → F g) :
    Calls Try.prog 10 #[pp d, .string ⟨#[122, 122]⟩, v] w fun x w' => ∃ D', (x = .returned .nilIface ∧ D' = zzD s) ∧ Dsk F (M + 3) w' d D' ∧ Ku True F w w' := by
  refine (Put_any h hM [122, 122] (by simp) v [49, 50, 51, 52] ho (by simp) (by simp) hv).mono ?_
  rintro e w' ⟨u, rfl, p1, p2, p3⟩
  rw [put_zz hs] at p1
  rcases p1 with ⟨_, rfl⟩ | ⟨h0, _⟩
  · exact ⟨_, ⟨rfl, rfl⟩, p2, p3.kd.ku _⟩
  · exact absurd rfl h0
set_option maxRecDepth 100000 in
theorem space_one (n : Int) : ∃ s : Nat, 8 ≤ s ∧ s < 1032 ∧ ∀ w : World, Calls Try.prog 20 #[.int .i64 n] w fun e w' => e = .returned (.int .i64 (s : Int)) ∧ w = w' := by
  obtain ⟨x, ex, lx⟩ := and1023 n
  refine ⟨8 + x, by omega, by omega, fun w => ?_⟩
  go_enter Try.func20, Try.ntmps20
  go_wp2_with fail
  go_ret
  exact ⟨by go_num, rfl⟩
/-- What taken answers of a disk that is up. -/
def TkP (L : Nat) (D : Dk) (x : Ending) (w' : World) (D' : Dk) : Prop := ∃ na nc da dc sa sc, x = .returned (.tuple #[.agg #[.slice na L nc, .slice da L dc, .slice sa L sc], .bool true]) ∧ Shot w' (.slice na L nc) (.slice da L dc) (.slice sa L sc) D ∧ Still D D'
theorem taken_p (CR : CrashOk) {F : Nat → Prop} {M : Nat} {w : World} {d : Nat} {D : Dk} (h : Dsk F M w d D) (hM : M + 200 ≤ 1099511627776) (hdn : D.dn = false) (hpl : ∀ k, D.pl k = none) {L : Nat} (hL : D.se.length = L) :
    Calls Try.prog 22 #[pp d] w fun x w' => ∃ D', TkP L D x w' D' ∧ Dsk F (M + 200) w' d D' ∧ Ku True F w w' := by
  subst hL
  refine (taken_any CR h hM hdn hpl).mono ?_
  rintro e w' ⟨vn, vd, vs, D', rfl, h1, h2, h3, h4⟩
  obtain ⟨na, nc, rfl⟩ := form_n h1.n
  obtain ⟨da, dc, rfl⟩ := form_n h1.d
  obtain ⟨sa, sc, rfl⟩ := form_n h1.s
  exact ⟨D', ⟨na, nc, da, dc, sa, sc, rfl, h1, h2⟩, h3, h4.ku _⟩
theorem Kd.below0 {n : Nat} {w w' : World} (h : Kd (fun q => q < n) w w') (hn : n ≤ w.heap.size) : Below n w w' := (h.ku False).below hn (fun _ h => h)
end Go.Proofs.Ytaoaihjiieandaa
