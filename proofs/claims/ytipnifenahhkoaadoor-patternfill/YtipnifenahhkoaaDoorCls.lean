/- Class, Conjunct, Word, Width of the code. -/
import Derived.Test.YtipnifenahhkoaaDoorFind
namespace Go.Proofs.YtipnifenahhkoaaDoor
open Go.RowKit

def Gx.isLn (a : Int) : Bool := decide (55296 ≤ a) && decide (a ≤ 57343)
def Gx.isSc (a : Int) : Bool := decide (0 ≤ a) && (decide (a ≤ 1114111) && !Gx.isLn a)
def Gx.vD (o : Option Gx.Row) (d : Int) : Int := match o with | some r => r.2.2 | none => d
def Gx.cls (a : Int) : Int :=
  if 32 ≤ a ∧ a ≤ 126 then 0 else if Gx.isSc a = false then 3 else if a = 13 then 1 else if a = 10 then 2 else if a = 8205 then 5
  else if 44032 ≤ a ∧ a ≤ 55203 then (if (a - 44032) % 28 = 0 then 12 else 13) else Gx.vD (Gx.find Gx.classRows a) 0
def Gx.cnj (a : Int) : Int :=
  match Gx.find Gx.conjunctRows a with
  | some r => r.2.2
  | none => if a = 8204 then 0 else if Gx.cls a = 4 ∨ Gx.cls a = 5 then 2 else 0
def Gx.wrd (a : Int) : Int := Gx.vD (Gx.find Gx.wordRows a) 1
def Gx.wid (a : Int) : Int :=
  if -256 ≤ a ∧ a ≤ -1 then 4 else if Gx.isLn a then 6 else if Gx.isSc a = false ∨ a = 9 then 0
  else if Gx.cls a = 1 ∨ Gx.cls a = 2 ∨ Gx.cls a = 4 ∨ Gx.cls a = 5 ∨ Gx.cls a = 10 ∨ Gx.cls a = 11 then 0
  else if Gx.cls a = 3 then (if a ≤ 159 then 2 else 1) else Gx.vD (Gx.find Gx.wideRows a) 1

theorem Gx.ok_class : Gx.okT Gx.classRows = true := by kernel_rfl
theorem Gx.ok_conjunct : Gx.okT Gx.conjunctRows = true := by kernel_rfl
theorem Gx.ok_word : Gx.okT Gx.wordRows = true := by kernel_rfl
theorem Gx.ok_wide : Gx.okT Gx.wideRows = true := by kernel_rfl
end Go.Proofs.YtipnifenahhkoaaDoor
