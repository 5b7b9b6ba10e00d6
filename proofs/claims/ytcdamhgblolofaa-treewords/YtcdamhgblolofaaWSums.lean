/- Words: what they add up to, pure. -/
import Derived.Test.YtcdamhgblolofaaMem
import Derived.Test.YtcdamhgblolofaaPure
import Derived.Test.YtcdamhgblolofaaRef2
namespace Go.Proofs.Ytcdamhgblolofaa.W
open Go.RowKit

abbrev It := ByteArray
/-- What words add up to: their text, how many they are. -/
structure Ws where
  t : ByteArray
  n : Int
def Ws.zero : Ws := ⟨(ByteArray.mk #[]), 0⟩
def Ws.add (a b : Ws) : Ws := ⟨a.t ++ b.t, a.n + b.n⟩
def Ws.meas (x : It) : Ws := ⟨x, 1⟩
/-- The bytes of a kind, of eleven. -/
def cnt (k : Nat) (l : List UInt8) : Nat := (l.filter fun c => c.toNat % 11 = k).length
/-- A number from 0 to 10, of any int. -/
def kd (k : Int) : Nat := (k % 11).toNat
def Ws.key (a : Ws) (k : Int) : Int := if k = 0 then a.t.size else if k = 9 then a.n else if k = -1099511627776 ∨ k = 1099511627776 then a.t.size + 2 * a.n else cnt (kd k) a.t.data.toList
def Ws.Ok (a : Ws) : Prop := 0 ≤ a.n
theorem size_app (a b : ByteArray) : (a ++ b).size = a.size + b.size := ByteArray.size_append
def wA : Alg It Ws where
  zero := Ws.zero
  add := Ws.add
  meas := Ws.meas
  key := Ws.key
  Ok := Ws.Ok
  okz := by simp [Ws.Ok, Ws.zero]
  okm := fun x => by simp [Ws.Ok, Ws.meas]
  oka := fun a b ha hb => by simp only [Ws.Ok, Ws.add] at *; omega
  assoc := fun a b c _ _ _ => by
    simp only [Ws.add, Ws.mk.injEq]
    exact ⟨by apply ByteArray.ext; simp [ByteArray.data_append, Array.append_assoc], by omega⟩
  zadd := fun a _ => by
    obtain ⟨t, n⟩ := a
    simp only [Ws.add, Ws.zero, Ws.mk.injEq]
    exact ⟨by apply ByteArray.ext; simp, by omega⟩
  addz := fun a _ => by
    obtain ⟨t, n⟩ := a
    simp only [Ws.add, Ws.zero, Ws.mk.injEq]
    exact ⟨by apply ByteArray.ext; simp, by omega⟩
  mono := fun a b k ha hb => by
    simp only [Ws.Ok] at ha hb
    simp only [Ws.key, Ws.add, size_app]
    split
    · omega
    split
    · omega
    split
    · omega
    · simp only [cnt, ByteArray.data_append, Array.toList_append, List.filter_append, List.length_append]
      omega
  keyz := fun k => by simp [Ws.key, Ws.zero, cnt, show (ByteArray.mk #[]).size = 0 from rfl]

/-- How much a list of words weighs: one for each, and its letters. -/
def wt : List It → Nat
  | [] => 0
  | x :: l => 1 + x.size + wt l
theorem wt_nil : wt [] = 0 := rfl
theorem wt_cons (x : It) (l : List It) : wt (x :: l) = 1 + x.size + wt l := rfl
theorem wt_app (a b : List It) : wt (a ++ b) = wt a + wt b := by
  induction a with
  | nil => simp [wt]
  | cons x a ih => rw [List.cons_append, wt_cons, wt_cons, ih]; omega
theorem wt_len (l : List It) : l.length ≤ wt l := by
  induction l with
  | nil => simp
  | cons x l ih => rw [wt_cons, List.length_cons]; omega
/-- How great a sum of words is. -/
theorem Ws.bound (l : List It) : (wA.su l).n = l.length ∧ (wA.su l).t.size + l.length = wt l := by
  induction l with
  | nil => exact ⟨rfl, rfl⟩
  | cons x l ih =>
    rw [Alg.su_cons, wt_cons]
    have e1 : (wA.add (wA.meas x) (wA.su l)).n = 1 + (wA.su l).n := rfl
    have e2 : (wA.add (wA.meas x) (wA.su l)).t.size = x.size + (wA.su l).t.size := size_app _ _
    rw [e1, e2, List.length_cons]
    omega
end Go.Proofs.Ytcdamhgblolofaa.W
