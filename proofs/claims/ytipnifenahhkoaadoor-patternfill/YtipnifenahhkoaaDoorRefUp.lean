/- The document's Upper, Lower, Turn. -/
import Derived.Test.YtipnifenahhkoaaDoorRefEq
namespace Go.Proofs.YtipnifenahhkoaaDoor
open Go.RowKit

theorem Gx.find_filter {T : List Gx.Row} (h : Gx.okT T = true) (p : Gx.Row → Bool) (h' : Gx.okT (T.filter p) = true) (a : Int) : Gx.find (T.filter p) a = (Gx.find T a).filter p := by
  cases hf : Gx.find T a with
  | some r =>
    obtain ⟨hm, l, u⟩ := Gx.find_mem hf
    cases hp : p r with
    | true =>
      rw [Gx.find_in _ h' r (List.mem_filter.2 ⟨hm, hp⟩) a l u]
      simp [Option.filter, hp]
    | false =>
      cases hg : Gx.find (T.filter p) a with
      | none => simp [Option.filter, hp]
      | some s =>
        obtain ⟨hs, l', u'⟩ := Gx.find_mem hg
        obtain ⟨hsT, hsp⟩ := List.mem_filter.1 hs
        rw [Gx.find_in _ h s hsT a l' u'] at hf
        cases hf
        rw [hp] at hsp
        cases hsp
  | none =>
    cases hg : Gx.find (T.filter p) a with
    | none => rfl
    | some s =>
      obtain ⟨hs, l', u'⟩ := Gx.find_mem hg
      obtain ⟨hsT, hsp⟩ := List.mem_filter.1 hs
      rw [Gx.find_in _ h s hsT a l' u'] at hf
      cases hf

/-- The same rows in another order find the same; the value by the row. -/
theorem Gx.flat_row (T : List Gx.Row) (h : Gx.okT T = true) (f : Gx.Row → Int) (L : List (Int × Int × Int))
    (s1 : (L.all fun i => T.any fun r => i == ((r.1 : Int), (r.2.1 : Int), f r)) = true) (s2 : (T.all fun r => L.any fun i => i == ((r.1 : Int), (r.2.1 : Int), f r)) = true)
    (x : Int) : (L.find? (Gx.inR x)).map (·.2.2) = (Gx.find T x).map f := by
  cases hl : L.find? (Gx.inR x) with
  | some i =>
    have hi := List.find?_some hl
    obtain ⟨r, hr, he⟩ := List.any_eq_true.1 (List.all_eq_true.1 s1 i (List.mem_of_find?_eq_some hl))
    have he' : i = ((r.1 : Int), (r.2.1 : Int), f r) := by simpa using he
    subst he'
    simp [Gx.inR] at hi
    rw [Gx.find_in T h r hr x hi.1 hi.2]
    rfl
  | none =>
    cases hf : Gx.find T x with
    | none => rfl
    | some r =>
      obtain ⟨hm, h1, h2⟩ := Gx.find_mem hf
      obtain ⟨i, hi, he⟩ := List.any_eq_true.1 (List.all_eq_true.1 s2 r hm)
      have he' : i = ((r.1 : Int), (r.2.1 : Int), f r) := by simpa using he
      subst he'
      have := List.find?_eq_none.1 hl _ hi
      simp [Gx.inR] at this
      omega

def Gx.dB (T : List Gx.Row) (a : Int) : Int := match Gx.find T a with | some r => if r.2.2 = 0 then 0 else Gx.ds r.2.2 | none => 0
def Gx.pr (T : List Gx.Row) (a : Int) : Int := match Gx.find T a with | some r => if r.2.2 = 0 then r.1 else -1 | none => -1

theorem Gx.by_rows (T : List Gx.Row) (h : Gx.okT T = true) (p : Gx.Row → Bool) (h' : Gx.okT (T.filter p) = true) (f : Gx.Row → Int) (kk : List (List (Int × Int) × Int))
    (s1 : ((Gx.flat kk).all fun i => (T.filter p).any fun r => i == ((r.1 : Int), (r.2.1 : Int), f r)) = true) (s2 : ((T.filter p).all fun r => (Gx.flat kk).any fun i => i == ((r.1 : Int), (r.2.1 : Int), f r)) = true) (d x : Int) :
    (Sw.pick (kk.map fun c => (c.1, Value.int .i64 c.2)) x).getD (.int .i64 d) = .int .i64 ((((Gx.find T x).filter p).map f).getD d) := by
  have hf := Gx.flat_row (T.filter p) h' f (Gx.flat kk) s1 s2 x
  rw [Gx.find_filter h p h'] at hf
  rw [Gx.pick_flat, ← hf]
  cases (Gx.flat kk).find? (Gx.inR x) <;> rfl

set_option maxRecDepth 100000 in
theorem rDistanceBack_any (a : Int) (w : World) : Calls Tryd.prog 42 #[.int .i64 a] w fun e w' => e = .returned (.int .i64 (Gx.dB Gx.smallRows a)) ∧ w' = w := by
  have h := r_distanceBack a w
  have e : Gx.k_distanceBack = Gx.n_distanceBack.map fun c => (c.1, Value.int .i64 c.2) := rfl
  rw [e, Gx.by_rows Gx.smallRows Gx.ok_small (fun r => r.2.2 != 0) (by decide +kernel) (fun r => Gx.ds r.2.2) Gx.n_distanceBack (by decide +kernel) (by decide +kernel)] at h
  have e2 : (((Gx.find Gx.smallRows a).filter (fun r => r.2.2 != 0)).map (fun r => Gx.ds r.2.2)).getD 0 = Gx.dB Gx.smallRows a := by
    unfold Gx.dB
    cases Gx.find Gx.smallRows a with
    | none => rfl
    | some r => by_cases hr : r.2.2 = 0 <;> simp [Option.filter, hr]
  rwa [e2] at h

set_option maxRecDepth 100000 in
theorem rDistance_any (a : Int) (w : World) : Calls Tryd.prog 44 #[.int .i64 a] w fun e w' => e = .returned (.int .i64 (Gx.dB Gx.greatRows a)) ∧ w' = w := by
  have h := r_distance a w
  have e : Gx.k_distance = Gx.n_distance.map fun c => (c.1, Value.int .i64 c.2) := rfl
  rw [e, Gx.by_rows Gx.greatRows Gx.ok_great (fun r => r.2.2 != 0) (by decide +kernel) (fun r => Gx.ds r.2.2) Gx.n_distance (by decide +kernel) (by decide +kernel)] at h
  have e2 : (((Gx.find Gx.greatRows a).filter (fun r => r.2.2 != 0)).map (fun r => Gx.ds r.2.2)).getD 0 = Gx.dB Gx.greatRows a := by
    unfold Gx.dB
    cases Gx.find Gx.greatRows a with
    | none => rfl
    | some r => by_cases hr : r.2.2 = 0 <;> simp [Option.filter, hr]
  rwa [e2] at h

theorem Gx.pr_form (T : List Gx.Row) (a : Int) : (((Gx.find T a).filter (fun r => r.2.2 == 0)).map (fun r => (r.1 : Int))).getD (-1) = Gx.pr T a := by
  unfold Gx.pr
  cases Gx.find T a with
  | none => rfl
  | some r => by_cases hr : r.2.2 = 0 <;> simp [Option.filter, hr]

set_option maxRecDepth 100000 in
theorem rPairS_any (a : Int) (w : World) : Calls Tryd.prog 43 #[.int .i64 a] w fun e w' => e = .returned (.int .i64 (Gx.pr Gx.smallRows a)) ∧ w' = w := by
  have h := r_pair a w
  have e : Gx.k_pair = Gx.n_pair.map fun c => (c.1, Value.int .i64 c.2) := rfl
  rw [e, Gx.by_rows Gx.smallRows Gx.ok_small (fun r => r.2.2 == 0) (by decide +kernel) (fun r => (r.1 : Int)) Gx.n_pair (by decide +kernel) (by decide +kernel)] at h
  rwa [Gx.pr_form] at h
set_option maxRecDepth 100000 in
theorem rPairG_any (a : Int) (w : World) : Calls Tryd.prog 43 #[.int .i64 a] w fun e w' => e = .returned (.int .i64 (Gx.pr Gx.greatRows a)) ∧ w' = w := by
  have h := r_pair a w
  have e : Gx.k_pair = Gx.n_pair.map fun c => (c.1, Value.int .i64 c.2) := rfl
  rw [e, Gx.by_rows Gx.greatRows Gx.ok_great (fun r => r.2.2 == 0) (by decide +kernel) (fun r => (r.1 : Int)) Gx.n_pair (by decide +kernel) (by decide +kernel)] at h
  rwa [Gx.pr_form] at h
end Go.Proofs.YtipnifenahhkoaaDoor
