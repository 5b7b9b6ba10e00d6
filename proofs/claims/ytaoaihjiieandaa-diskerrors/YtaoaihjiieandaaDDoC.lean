/- The law's do and taken on a calm disk. -/
import Derived.Test.YtaoaihjiieandaaDLDo3
import Derived.Test.YtaoaihjiieandaaDStill
namespace Go.Proofs.Ytaoaihjiieandaa
open Go.RowKit

theorem So.Ok.short {x : So} (h : x.Ok) : x.nm.length ≤ 9223372036854775807 ∧ x.tn.length ≤ 9223372036854775807 := ⟨by have := h.nm; omega, by have := h.tn; omega⟩
/-- What do leaves of a calm disk. -/
def DoC (s : Nat) (F : Nat → Prop) (M : Nat) (w : World) (d : Nat) (e : Ending) (w' : World) : Prop := DoneR e ∧ ∃ D', Calm s D' ∧ Dsk F M w' d D' ∧ Kd F w w'
theorem do_calm (CR : CrashOk) {s : Nat} {F : Nat → Prop} {M : Nat} {w : World} {d : Nat} {D : Dk} (h : Dsk F M w d D) (hc : Calm s D) (hM : M + 3 ≤ 1099511627776) (x : So) (hx : x.Ok) (hr : RdU w x.bv x.b) (hbl : x.b.length ≤ 1099511627776) (h2 : x.k ≠ 2) (h10 : x.k ≠ 10) (h11 : x.k ≠ 11) :
    Calls Try.prog 21 #[pp d, opV x] w (DoC s F (M + 3) w d) := by
  obtain ⟨hn, ht⟩ := hx.short
  have hw := h.wf
  by_cases k1 : x.k = 1
  · exact (law_make CR h hM x hn k1).mono fun e w' ⟨a, b, c⟩ => ⟨a.r, _, clm_make hc hw x.nm, b, c⟩
  by_cases k3 : x.k = 3
  · exact (law_sync CR h hM x hn k3).mono fun e w' ⟨a, b, c⟩ => ⟨a.r, _, clm_sync hc hw x.nm, b, c⟩
  by_cases k4 : x.k = 4
  · exact (law_dir CR h hM x k4).mono fun e w' ⟨a, b, c⟩ => ⟨a.r, _, clm_dir hc, b, c⟩
  by_cases k5 : x.k = 5
  · exact (law_rename CR h hM x hn ht k5).mono fun e w' ⟨a, b, c⟩ => ⟨a.r, _, clm_ren hc x.nm x.tn, b, c⟩
  by_cases k6 : x.k = 6
  · exact (law_remove CR h hM x hn k6).mono fun e w' ⟨a, b, c⟩ => ⟨a.r, _, clm_rem hc x.nm, b, c⟩
  by_cases k7 : x.k = 7
  · exact (law_read CR h hM x hn k7).mono fun e w' ⟨a, b, c⟩ => ⟨a.r, _, clm_read hc x.nm, b, c⟩
  by_cases k8 : x.k = 8
  · exact (law_stamp CR h hM x hn k8).mono fun e w' ⟨a, b, c⟩ => ⟨a.r, _, clm_stamp hc x.nm, b, c⟩
  by_cases k9 : x.k = 9
  · exact (law_put h hM x hn hr hbl hx.byt k9).mono fun e w' ⟨a, b, c⟩ => ⟨a.r, _, clm_put hc hw x.nm x.b, b, c⟩
  by_cases k12 : x.k = 12
  · exact (law_restart h x k12).mono fun e w' ⟨a, b, c⟩ => ⟨a.r, _, clm_restart hc, b.monoN (by omega) hM, c⟩
  exact (law_none h x (by omega)).mono fun e w' ⟨a, b, c⟩ => ⟨a.r, _, hc, b.monoN (by omega) hM, c⟩
theorem form_n {w : World} {e : TypeId} {size n : Nat} {v : Value} {xs : List Value} (h : w.ownsRow 0 e size v n xs) : ∃ ao c, v = .slice ao n c := by
  rcases h.2 with ⟨rfl, h0⟩ | ⟨g, cap, cur, rfl, _⟩
  · exact ⟨none, 0, by rw [h0]⟩
  · exact ⟨_, _, rfl⟩
/-- What taken leaves of a calm disk. -/
def LkP (s : Nat) (F : Nat → Prop) (M : Nat) (w : World) (d : Nat) (D : Dk) (na : Option Addr) (nc : Nat) (da : Option Addr) (dc : Nat) (sa : Option Addr) (sc : Nat) (w' : World) : Prop :=
  Shot w' (.slice na D.se.length nc) (.slice da D.se.length dc) (.slice sa D.se.length sc) D ∧ (∃ D', Calm s D' ∧ Still D D' ∧ Dsk F M w' d D') ∧ Kd F w w' ∧ (∀ w'', Below w'.heap.size w' w'' → Calls Try.prog 24 #[.agg #[.slice na D.se.length nc, .slice da D.se.length dc, .slice sa D.se.length sc]] w'' fun e w3 => e = .returned (.int .i64 (usd D.fi D.se : Int)) ∧ Below w''.heap.size w'' w3)
theorem looked_any (CR : CrashOk) {s : Nat} {F : Nat → Prop} {M : Nat} {w : World} {d : Nat} {D : Dk} (h : Dsk F M w d D) (hc : Calm s D) (hM : M + 200 ≤ 1099511627776) :
    Calls Try.prog 22 #[pp d] w fun e w' => ∃ na nc da dc sa sc, e = .returned (.tuple #[.agg #[.slice na D.se.length nc, .slice da D.se.length dc, .slice sa D.se.length sc], .bool true]) ∧ LkP s F (M + 200) w d D na nc da dc sa sc w' := by
  have hw := h.wf
  refine (taken_any CR h hM hc.dn hc.pl).mono ?_
  rintro e w' ⟨vn, vd, vs, D', rfl, h1, h2, h3, h4⟩
  obtain ⟨na, nc, rfl⟩ := form_n h1.n
  obtain ⟨da, dc, rfl⟩ := form_n h1.d
  obtain ⟨sa, sc, rfl⟩ := form_n h1.s
  refine ⟨na, nc, da, dc, sa, sc, rfl, h1, ⟨D', hc.still h2, h2, h3⟩, h4, fun w'' hb => ?_⟩
  exact shot_used_any (h1.kd (Kd.of (F := F) hb)) hw.seen.few (fun p hp => Nat.le_trans (hw.fi _ (fi_mem (hw.seen.ok p hp).2)).2.1 hw.sp)
end Go.Proofs.Ytaoaihjiieandaa
