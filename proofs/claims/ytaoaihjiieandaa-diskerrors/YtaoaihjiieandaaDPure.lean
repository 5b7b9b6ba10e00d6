/- The disk, pure: files, directories as lists of names that rise, acts, a plan, steps. -/
import Derived.Test.YtaoaihjiieandaaMem
import Derived.Sort.KeysCollected
namespace Go.Proofs.Ytaoaihjiieandaa
open Go.RowKit

abbrev Nm := List UInt8
structure Fi where
  bs : List Int
  sy : Nat
  ct : Nat
abbrev Dir := List (Nm × Nat)
/-- An act: a name is free, and a file has a name. -/
structure Ac where
  gone : Nm
  to : Nm
  fi : Option Nat
structure Ct where
  nm : Int
  bs : List Int
structure Ft where
  kd : Int
  pt : Int
  cut : Ct
structure Dk where
  sp : Nat
  fi : List Fi
  se : Dir
  la : Dir
  ac : List Ac
  pl : Int → Option Ft
  st : Nat
  dn : Bool

def okB (c : UInt8) : Bool := (decide (97 ≤ c.toNat) && decide (c.toNat ≤ 122)) || (decide (65 ≤ c.toNat) && decide (c.toNat ≤ 90)) || (decide (48 ≤ c.toNat) && decide (c.toNat ≤ 57)) || c.toNat == 46 || c.toNat == 95 || c.toNat == 45 || c.toNat == 126
def okN (n : Nm) : Bool := decide (1 ≤ n.length) && decide (n.length ≤ 32) && n.all okB

def Dir.del (n : Nm) (d : Dir) : Dir := d.filter (fun p => !(p.1 == n))
def Dir.ins (x : Nm × Nat) : Dir → Dir
  | [] => [x]
  | y :: r => if bytesBefore x.1 y.1 then x :: y :: r else y :: Dir.ins x r
def Dir.put (n : Nm) (i : Nat) (d : Dir) : Dir := Dir.ins (n, i) (Dir.del n d)
def Dir.get (n : Nm) (d : Dir) : Option Nat := (d.find? (fun p => p.1 == n)).map (·.2)
def Ac.on (a : Ac) (d : Dir) : Dir := match a.fi with
  | none => Dir.del a.gone d
  | some i => Dir.put a.to i (Dir.del a.gone d)
def acts (l : List Ac) (d : Dir) : Dir := l.foldl (fun d a => a.on d) d

def fiAt (fi : List Fi) (i : Nat) : Fi := fi[i]?.getD ⟨[], 0, 0⟩
def usd (fi : List Fi) (d : Dir) : Nat := (d.map (fun p => (fiAt fi p.2).bs.length)).sum

/-- What find answers. -/
def fndE (d : Dir) (n : Nm) : Int := if okN n = true then (match Dir.get n d with | none => 162 | some _ => 0) else 164
/-- What a step leaves and answers: the error, a number, bytes, a stamp. -/
structure Rs where
  d : Dk
  e : Int
  n : Nat
  b : List Int
  s : Int × Int × Int
def Rs.err (d : Dk) (e : Int) : Rs := ⟨d, e, 0, [], (0, 0, 0)⟩
def Dk.room (D : Dk) : Nat := D.sp - usd D.fi D.se
def Dk.full (D : Dk) : Bool := decide (16 ≤ D.se.length)
def Dk.act (D : Dk) (a : Ac) : Dk := { D with se := a.on D.se, ac := D.ac ++ [a] }
def Dk.settle (D : Dk) : Dk := { D with la := D.se, ac := [] }
def Dk.setF (D : Dk) (i : Nat) (f : Fi) : Dk := { D with fi := D.fi.set i f }
def Dk.fresh (D : Dk) : Dk := { D with fi := D.fi ++ [⟨[], 0, 0⟩] }
def clip (n : Int) (m : Nat) : Nat := min n.toNat m

def opMake (n : Nm) (D : Dk) : Rs :=
  if fndE D.se n = 0 then .err D 163 else if fndE D.se n ≠ 162 then .err D (fndE D.se n) else if D.full = true then .err D 161 else .err (D.fresh.act ⟨[], n, some D.fi.length⟩) 0
/-- A file and what is done with it. -/
def opWith (n : Nm) (f : Nat → Dk → Rs) (D : Dk) : Rs := if okN n = true then (match Dir.get n D.se with | none => .err D 162 | some i => f i D) else .err D 164
def wrF (f : Fi) (b : List Int) : Fi := if b = [] then f else ⟨f.bs ++ b, f.sy, f.ct + 1⟩
def opPart (n : Nm) (b : List Int) (most : Int) : Dk → Rs :=
  opWith n fun i D => let k := clip most (min b.length D.room); ⟨D.setF i (wrF (fiAt D.fi i) (b.take k)), 0, k, [], (0, 0, 0)⟩
def opApp (n : Nm) (b : List Int) (D : Dk) : Rs := let r := opPart n b b.length D; if r.e = 0 ∧ r.n < b.length then { r with e := 161 } else r
def opSync (n : Nm) : Dk → Rs := opWith n fun i D => .err (D.setF i ⟨(fiAt D.fi i).bs, (fiAt D.fi i).bs.length, (fiAt D.fi i).ct⟩) 0
def opSyncDir (D : Dk) : Rs := .err D.settle 0
def opRen (a b : Nm) (D : Dk) : Rs := if okN b = true then opWith a (fun i D => .err (if a = b then D else D.act ⟨a, b, some i⟩) 0) D else .err D 164
def opRem (n : Nm) : Dk → Rs := opWith n fun _ D => .err (D.act ⟨n, [], none⟩) 0
def opRead (n : Nm) : Dk → Rs := opWith n fun i D => ⟨D, 0, 0, (fiAt D.fi i).bs, (0, 0, 0)⟩
def opStamp (n : Nm) : Dk → Rs := opWith n fun i D => ⟨D, 0, 0, [], ((i : Int) + 1, ((fiAt D.fi i).bs.length : Int), ((fiAt D.fi i).ct : Int))⟩

def cutF (f : Fi) (more : Int) : Fi := let k := f.sy + clip more (f.bs.length - f.sy); ⟨f.bs.take k, k, f.ct⟩
def cutAll : Dir → List Int → List Fi → List Fi
  | [], _, fi => fi
  | p :: r, bs, fi => cutAll r bs.tail (fi.set p.2 (cutF (fiAt fi p.2) (bs.headD 0)))
def Dk.crash (D : Dk) (c : Ct) : Dk := if D.dn = true then D else
  let d := acts (D.ac.take (clip c.nm D.ac.length)) D.la
  { D with se := d, la := d, ac := [], fi := cutAll d c.bs D.fi, dn := true }
def Dk.restart (D : Dk) : Dk := if D.dn = true then { D with dn := false, pl := fun _ => none, st := 0 } else D

def bel (r : Rs) : Rs := if r.e = 0 then { r with e := 160 } else r
def meet (op : Dk → Rs) (part : Option (Int → Dk → Rs)) (D : Dk) : Option Ft → Rs
  | none => op D
  | some f => if f.kd = 1 then .err D 160 else if f.kd = 2 then (match part with | none => .err D 160 | some p => bel (p f.pt D)) else if f.kd = 3 then bel (op D) else if f.kd = 4 then .err (D.crash f.cut) 165 else .err ((op D).d.crash f.cut) 165
def Dk.tick (D : Dk) : Dk := { D with st := D.st + 1, pl := fun k => if k = (D.st + 1 : Nat) then none else D.pl k }
/-- A step. -/
def take (op : Dk → Rs) (part : Option (Int → Dk → Rs)) (D : Dk) : Rs := if D.dn = true then .err D 165 else meet op part D.tick (D.pl (D.st + 1 : Nat))
def stepNo (D : Dk) : Nat := if D.dn = true then 0 else D.st + 1
def putE (n : Nm) (k : Nat) (D : Dk) : Int :=
  if D.dn = true then 165 else if okN n = true then
    (match Dir.get n D.se with
    | none => if D.full = true ∨ D.sp < usd D.fi D.se + k then 161 else 0
    | some i => if D.sp < usd D.fi D.se - (fiAt D.fi i).bs.length + k then 161 else 0)
  else 164
def opPut (n : Nm) (b : List Int) (D : Dk) : Rs :=
  if putE n b.length D ≠ 0 then .err D (putE n b.length D) else
    match Dir.get n D.se with
    | none => .err ({ D.fresh with se := Dir.put n D.fi.length D.se, fi := D.fi ++ [⟨b, b.length, 1⟩] } : Dk).settle 0
    | some i => .err (D.setF i ⟨b, b.length, (fiAt D.fi i).ct + 1⟩).settle 0
end Go.Proofs.Ytaoaihjiieandaa
