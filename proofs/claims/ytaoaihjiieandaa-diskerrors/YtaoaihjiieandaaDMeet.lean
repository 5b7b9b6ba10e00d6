/- A step meets its fault. -/
import Derived.Test.YtaoaihjiieandaaDApp2
namespace Go.Proofs.Ytaoaihjiieandaa
open Go.RowKit

/-- A list that no call of a disk writes into. -/
def UOk (F : Nat → Prop) (w : World) (u : Value) : Prop := ∀ g, u.ownBlock = some g → F g ∨ ∃ cur, w.heap[g]? = some (.cells cur 3 (0, 0))
/-- What Crash does. -/
def CrashOk : Prop := ∀ (F : Nat → Prop) (M : Nat) (w : World) (d : Nat) (D : Dk) (c : Ct) (u : Value), Dsk F M w d D → RdS w u c.bs → UOk F w u → (∀ x ∈ c.bs, In64 x) → In64 c.nm →
  Calls Try.prog 14 #[pp d, .agg #[.int .i64 c.nm, u]] w fun e w' => e = .returned (.tuple #[]) ∧ Dsk F M w' d (D.crash c) ∧ Kd F w w'
theorem ErrV.mono {w : World} {base base' : Nat} {v : Value} {op nm : ByteArray} {st e : Int} (h : ErrV w base v op nm st e) (hb : base' ≤ base) : ErrV w base' v op nm st e := by
  rcases h with h | ⟨h1, q, h2, h3⟩
  · exact .inl h
  · exact .inr ⟨h1, q, Nat.le_trans hb h2, h3⟩
/-- A fault as a value. -/
def FtV (F : Nat → Prop) (w : World) (o : Option Ft) (v : Value) : Prop := match o with
  | none => v = .agg #[.int .i64 0, .int .i64 0, .int .i64 0, .int .i64 0, .slice none 0 0]
  | some f => ∃ st u, v = .agg #[.int .i64 st, .int .i64 f.kd, .int .i64 f.pt, .int .i64 f.cut.nm, u] ∧ (1 ≤ f.kd ∧ f.kd ≤ 5 ∧ In64 f.pt ∧ In64 f.cut.nm) ∧ (∀ x ∈ f.cut.bs, In64 x) ∧ OwnI w 0 u f.cut.bs ∧ ∀ g, u.ownBlock = some g → ¬ F g
/-- What is known of a step's box. -/
structure AxOk (F : Nat → Prop) (ob : Option Nat) (w : World) (Ax : Rs → World → Prop) : Prop where
  ob : ∀ k, ob = some k → F k
  zero : ∀ D e w1, Kd F w w1 → Ax (.err D e) w1
  bel : ∀ r w1, Ax r w1 → Ax (bel r) w1
  down : ∀ r D w1 w2, Ax r w1 → Kd F w1 w2 → Ax (.err D 165) w2
  ext : ∀ r w1 w2, Below w1.heap.size w1 w2 → Ax r w1 → Ax r w2
theorem own_int {w : World} {u : Value} {zs : List Int} (h : OwnI w 0 u zs) {g : Nat} (hg : u.ownBlock = some g) : ∃ cur, w.heap[g]? = some (.cells cur 3 (0, 0)) := own_lt h hg
theorem OwnI.kn {U : Prop} {F : Nat → Prop} {ob : Option Nat} {w w' : World} {u : Value} {zs : List Int} (h : OwnI w 0 u zs) (k : Kn U F ob w w') (hF : ∀ g, u.ownBlock = some g → ¬ F g) (hob : ∀ k, ob = some k → F k) : OwnI w' 0 u zs :=
  own_same h (fun g hg => by
    obtain ⟨cur, hc⟩ := own_int h hg
    exact k.keep hc (by decide) (fun e => hF g hg (hob g e)))
theorem OwnI.uok {F : Nat → Prop} {w : World} {u : Value} {zs : List Int} (h : OwnI w 0 u zs) : UOk F w u := fun _ hg => .inr (own_int h hg)
theorem cells4 {w : World} {g : Nat} {T : TypeId} {a b c d : Value} (h : w.heap[g]? = some (.cells #[a, b, c, d] T (0, 0))) : w.cell? ⟨g, 0, none⟩ = some a ∧ w.cell? ⟨g, 1, none⟩ = some b ∧ w.cell? ⟨g, 2, none⟩ = some c ∧ w.cell? ⟨g, 3, none⟩ = some d := by
  refine ⟨?_, ?_, ?_, ?_⟩ <;> simp [World.cell?, h]
theorem cells5 {w : World} {g : Nat} {T : TypeId} {a b c d e : Value} (h : w.heap[g]? = some (.cells #[a, b, c, d, e] T (0, 0))) : w.cell? ⟨g, 0, none⟩ = some a ∧ w.cell? ⟨g, 1, none⟩ = some b ∧ w.cell? ⟨g, 2, none⟩ = some c ∧ w.cell? ⟨g, 3, none⟩ = some d ∧ w.cell? ⟨g, 4, none⟩ = some e := by
  refine ⟨?_, ?_, ?_, ?_, ?_⟩ <;> simp [World.cell?, h]
theorem Dsk.drew {F : Nat → Prop} {N : Nat} {w : World} {d : Nat} {D : Dk} (h : Dsk F N w d D) : Dsk F N w.drew d D := h.ext (Below.refl _ w).drew
theorem OwnI.ext0 {w w' : World} {u : Value} {zs : List Int} (h : OwnI w 0 u zs) (hb : Below w.heap.size w w') : OwnI w' 0 u zs := own_ext h hb

def blE (e : Int) : Int := if e = 0 then 160 else e
theorem belied_bl (e : Int) (w : World) : Calls Try.prog 97 #[.int .i64 e] w fun x w' => x = .returned (.int .i64 (blE e)) ∧ w = w' := belied_any e w
theorem bel_e (r : Rs) : blE r.e = (bel r).e := by unfold bel blE; split <;> rfl
theorem bel_d (r : Rs) : (bel r).d = r.d := by unfold bel; split <;> rfl
end Go.Proofs.Ytaoaihjiieandaa
