import Derived.Test.YtdhciadajendnaaGreatRows
import Derived.WalkKit
import Derived.WalkSpells
import Derived.WalkLawsBesides
import Derived.StillTactics
import Derived.Deep.QuietTactic
import Derived.BigQuiet
import Derived.Outline
import Derived.LoopTactic
import Derived.Deep.RegionWith
import Derived.Laws.AppendOwnNone
import Derived.Deep.RegionHeld3
import Derived.OrdersHeld
set_option maxRecDepth 100000
namespace Go.Proofs.YtdhciadajendnaaGreat
theorem rdH {P : Program} {ops : Array Oper} {Q : Exit → Act → World → Prop} {md : Region.Mode} {S : World → Prop} (i : Nat) {o : Oper} {fuel : Nat} {listed : Array Bool} {a : Act} {w : World} (ho : ops[i]? = some o)
    (h : ∀ K' : Act → World → Prop, Shut (∀ a w, S w → (S w → wpAnyH P md ops Q S fuel (listed.setIfInBounds i true) a w) → K' a w) → if Region.wanted o (yielded ops a.tmps) = true then Oper.wp P o a w K' Q else K' (a.put o.dst undef) w)
    (hr : Region.ready md ops listed = [i] := by kernel_rfl) : wpAnyH P md ops Q S (fuel + 1) listed a w := wpAnyH_ready hr (by simp) (AllReadyH.cons ho h AllReadyH.nil)
theorem sA1 {α : Type _} {xs : List α} {i : Nat} (h : i < xs.toArray.size) : xs.toArray[i] = xs[i]'(by simpa using h) := List.getElem_toArray h
theorem sA2 {α : Type _} (a : α) (l : List α) (i : Nat) (h : i + 1 < (a :: l).length) : (a :: l)[i + 1] = l[i]'(by simpa using h) := rfl
theorem sA3 {α : Type _} (a : α) (l : List α) (h : 0 < (a :: l).length) : (a :: l)[0] = a := rfl
theorem sA4 {α : Type _} (l : List α) (i : Nat) (a : α) : l.toArray.setIfInBounds i a = (l.set i a).toArray := List.setIfInBounds_toArray l i a
theorem sA5 {α : Type _} {x : α} {xs : List α} {a : α} : (x :: xs).set 0 a = a :: xs := rfl
theorem sA6 {α : Type _} {x : α} {xs : List α} {i : Nat} {a : α} : (x :: xs).set (i + 1) a = x :: xs.set i a := rfl
theorem tS {α : Type} : (∀ (xs : List α) (i : Nat) (h : i < xs.toArray.size), xs.toArray[i] = xs[i]'(by simpa using h)) ∧ (∀ (a : α) (l : List α) (i : Nat) (h : i + 1 < (a :: l).length), (a :: l)[i + 1] = l[i]'(by simpa using h)) ∧ (∀ (a : α) (l : List α) (h : 0 < (a :: l).length), (a :: l)[0] = a) ∧ (∀ (l : List α) (i : Nat) (a : α), l.toArray.setIfInBounds i a = (l.set i a).toArray) ∧ (∀ (x : α) (xs : List α) (a : α), (x :: xs).set 0 a = a :: xs) ∧ (∀ (x : α) (xs : List α) (i : Nat) (a : α), (x :: xs).set (i + 1) a = x :: xs.set i a) :=
  ⟨fun _ _ h => List.getElem_toArray h, fun _ _ _ _ => rfl, fun _ _ _ => rfl, fun l i a => List.setIfInBounds_toArray l i a, fun _ _ _ => rfl, fun _ _ _ _ => rfl⟩
theorem tkH {P : Program} {ops : Array Oper} {Q : Exit → Act → World → Prop} {md : Region.Mode} {S : World → Prop} (i : Nat) {oi : Oper} {v : Value} {fuel : Nat} {listed : Array Bool} {a a' : Act} {w : World} (hi : ops[i]? = some oi)
    (h : wpAnyH P md ops Q S fuel (listed.setIfInBounds i true) a' w) (hv : ∀ w, S w → (execOp a.eval oi).run P w = .ok (.value v) w := by (intro wq hSw; (try dsimp only at hSw); go_simp; try (with_reducible rfl)))
    (ha : a.put oi.dst v = a' := by first | (simp only [Act.put, tS]; done) | (simp only [Act.put, tS]; rfl) | rfl)
    (hs : Region.noSelect ops = true := by kernel_rfl) (hf : Region.free md ops listed i = true := by kernel_rfl) (hr : (Region.ready md ops listed).contains i = true := by kernel_rfl)
    (hQ : ∀ c a w, Q (.panic c) (a.put oi.dst v) w → Q (.panic c) a w := by exact fun _ _ _ h => h) (hw : Region.wanted oi (yielded ops a.tmps) = true := by rfl) (hS : S w := by assumption) : wpAnyH P md ops Q S (fuel + 1) listed a w :=
  wpAnyH_take hi hs hf hr hQ (Or.inl ⟨hw, hv⟩) hS (by rw [ha]; exact h)
theorem dnH {P : Program} {md : Region.Mode} {ops : Array Oper} {Q : Exit → Act → World → Prop} {S : World → Prop} {listed : Array Bool} {a : Act} {w : World} {fuel : Nat} (h : Q .normal a w) (hr : Region.ready md ops listed = [] := by kernel_rfl) : wpAnyH P md ops Q S fuel listed a w := wpAnyH_done hr h _
theorem tuH {P : Program} {ops : Array Oper} {Q : Exit → Act → World → Prop} {md : Region.Mode} {S : World → Prop} (i : Nat) {oi : Oper} {fuel : Nat} {listed : Array Bool} {a a' : Act} {w : World} (hi : ops[i]? = some oi) (h : wpAnyH P md ops Q S fuel (listed.setIfInBounds i true) a' w)
    (ha : a.put oi.dst undef = a' := by first | (simp only [Act.put, tS]; done) | (simp only [Act.put, tS]; rfl) | rfl)
    (hs : Region.noSelect ops = true := by kernel_rfl) (hf : Region.free md ops listed i = true := by kernel_rfl) (hr : (Region.ready md ops listed).contains i = true := by kernel_rfl)
    (hQ : ∀ c a w, Q (.panic c) (a.put oi.dst undef) w → Q (.panic c) a w := by exact fun _ _ _ h => h) (hw : Region.wanted oi (yielded ops a.tmps) = false := by rfl) (hS : S w := by assumption) : wpAnyH P md ops Q S (fuel + 1) listed a w :=
  wpAnyH_take hi hs hf hr hQ (Or.inr ⟨hw, rfl⟩) hS (by rw [ha]; exact h)
end Go.Proofs.YtdhciadajendnaaGreat

namespace Go.Proofs.YtdhciadajendnaaGreat.P
structure Alg (α S:Type) where
 zero:S
 add:S→S→S
 meas:α→S
 key:S→Int→Int
 Ok:S→Prop
 okz:Ok zero
 okm:∀ x,Ok (meas x)
 oka:∀ a b,Ok a→Ok b→Ok (add a b)
 assoc:∀ a b c,Ok a→Ok b→Ok c→add (add a b) c=add a (add b c)
 zadd:∀ a,Ok a→add zero a=a
 addz:∀ a,Ok a→add a zero=a
 mono:∀ a b k,Ok a→Ok b→key a k≤key (add a b) k
 keyz:∀ k,key zero k=0
namespace Alg
variable {α S:Type} (A:Alg α S)
def su (l:List α):S:=l.foldl (fun s x=>A.add s (A.meas x)) A.zero
theorem fold_ok (l:List α):∀ s,A.Ok s→A.Ok (l.foldl (fun s x=>A.add s (A.meas x)) s):=by
 induction l with
 | nil=>intro s h;exact h
 | cons x l ih=>intro s h;exact ih _ (A.oka _ _ h (A.okm x))
theorem ok (l:List α):A.Ok (A.su l):=A.fold_ok l _ A.okz
theorem fold_su (l:List α):∀ s,A.Ok s→l.foldl (fun s x=>A.add s (A.meas x)) s=A.add s (A.su l):=by
 induction l with
 | nil=>intro s h;simp [su,A.addz s h]
 | cons x l ih =>
   intro s h
   rw [List.foldl_cons,ih _ (A.oka _ _ h (A.okm x))]
   have e:A.su (x :: l)=A.add (A.meas x) (A.su l):=by
    unfold su
    rw [List.foldl_cons,A.zadd _ (A.okm x)]
    exact ih _ (A.okm x)
   rw [e,A.assoc _ _ _ h (A.okm x) (A.ok l)]
theorem su_nil:A.su []=A.zero:=rfl
theorem su_cons (x:α) (l:List α):A.su (x :: l)=A.add (A.meas x) (A.su l):=by
 unfold su
 rw [List.foldl_cons,A.zadd _ (A.okm x)]
 exact A.fold_su l _ (A.okm x)
theorem su_app (a b:List α):A.su (a ++ b)=A.add (A.su a) (A.su b):=by
 rw [su,List.foldl_append]
 exact A.fold_su b _ (A.ok a)
theorem su_snoc (a:List α) (x:α):A.su (a ++ [x])=A.add (A.su a) (A.meas x):=by
 rw [su_app,su_cons,su_nil,A.addz _ (A.okm x)]
def fnd (k n:Int) (s:S):List α→Nat
 | []=>if n≤A.key s k then 0 else 1
 | x :: m=>if n≤A.key s k then 0 else fnd k n (A.add s (A.meas x)) m + 1
theorem fnd_here (k n:Int) (s:S) (l:List α) (h:n≤A.key s k):A.fnd k n s l=0:=by
 cases l <;> simp [fnd,h]
theorem fnd_left (k n:Int) (R:List α) (L:List α):∀ s,A.Ok s→n≤A.key (A.add s (A.su L)) k→A.fnd k n s (L ++ R)=A.fnd k n s L:=by
 induction L with
 | nil=>intro s h1 h;rw [su_nil,A.addz s h1] at h;rw [fnd_here _ _ _ _ _ h,fnd_here _ _ _ _ _ h]
 | cons x L ih =>
   intro s h1 h
   rw [List.cons_append,fnd,fnd]
   by_cases hk:n≤A.key s k
   ·simp [hk]
   ·rw [if_neg hk,if_neg hk,ih _ (A.oka _ _ h1 (A.okm x)) (by rw [A.assoc _ _ _ h1 (A.okm x) (A.ok L),← su_cons];exact h)]
theorem fnd_right (k n:Int) (R:List α) (L:List α):∀ s,A.Ok s→A.key (A.add s (A.su L)) k < n→A.fnd k n s (L ++ R)=L.length + A.fnd k n (A.add s (A.su L)) R:=by
 induction L with
 | nil=>intro s h1 h;rw [su_nil,A.addz s h1];simp
 | cons x L ih =>
   intro s h1 h
   have h2:=A.mono s (A.su (x :: L)) k h1 (A.ok _)
   rw [List.cons_append,fnd,if_neg (by omega)]
   have e:A.add (A.add s (A.meas x)) (A.su L)=A.add s (A.su (x :: L)):=by rw [A.assoc _ _ _ h1 (A.okm x) (A.ok L),← su_cons]
   rw [ih _ (A.oka _ _ h1 (A.okm x)) (by rw [e];exact h),e,List.length_cons]
   omega
theorem fnd_le (k n:Int) (l:List α):∀ s,A.fnd k n s l≤l.length + 1:=by
 induction l with
 | nil=>intro s;rw [fnd];split <;> simp
 | cons x l ih=>intro s;rw [fnd];have:=ih (A.add s (A.meas x));split <;> simp <;> omega
theorem fnd_hit (k n:Int) (l:List α):∀ s,A.Ok s→A.fnd k n s l≤l.length→n≤A.key (A.add s (A.su (l.take (A.fnd k n s l)))) k:=by
 induction l with
 | nil =>
   intro s h1 h
   rw [fnd] at h ⊢
   by_cases hk:n≤A.key s k
   ·rw [if_pos hk];simp only [List.take_nil];rw [su_nil,A.addz s h1];exact hk
   ·rw [if_neg hk] at h;simp at h
 | cons x l ih =>
   intro s h1 h
   rw [fnd] at h ⊢
   by_cases hk:n≤A.key s k
   ·rw [if_pos hk];simp only [List.take_zero];rw [su_nil,A.addz s h1];exact hk
   ·rw [if_neg hk] at h ⊢
    rw [List.length_cons] at h
    have:=ih _ (A.oka _ _ h1 (A.okm x)) (by omega)
    rw [List.take_succ_cons,su_cons,← A.assoc _ _ _ h1 (A.okm x) (A.ok _)]
    exact this
theorem fnd_less (k n:Int) (l:List α):∀ s i,A.Ok s→i < A.fnd k n s l→A.key (A.add s (A.su (l.take i))) k < n:=by
 induction l with
 | nil =>
   intro s i h1 h
   rw [fnd] at h
   by_cases hk:n≤A.key s k
   ·rw [if_pos hk] at h;omega
   ·simp only [List.take_nil];rw [su_nil,A.addz s h1];omega
 | cons x l ih =>
   intro s i h1 h
   rw [fnd] at h
   by_cases hk:n≤A.key s k
   ·rw [if_pos hk] at h;omega
   ·rw [if_neg hk] at h
    cases i with
    | zero=>simp only [List.take_zero];rw [su_nil,A.addz s h1];omega
    | succ i =>
      have:=ih _ i (A.oka _ _ h1 (A.okm x)) (by omega)
      rw [List.take_succ_cons,su_cons,← A.assoc _ _ _ h1 (A.okm x) (A.ok _)]
      exact this
end Alg
structure Rs where
 a:Int
 s:Int
 b:Int
 lf:Bool
 cr:Bool
namespace Rs
def zero:Rs:=⟨0,0,0,false,false⟩
def mlt (x y:Rs):Int:=if x.cr=true∧y.lf=true then 1 else 0
def add (x y:Rs):Rs:=if x.a=0 then y else if y.a=0 then x else ⟨x.a + y.a,x.s + y.s,x.b + y.b - mlt x y,x.lf,y.cr⟩
def key (x:Rs) (k:Int):Int:=if k=0 then x.a else if k=1 then x.b else 0
structure Ok (x:Rs):Prop where
 a0:0≤x.a
 s0:0≤x.s
 b0:0≤x.b
 l1:x.lf=true→1≤x.b
 z:x.a=0→x=zero
theorem mlt_range (x y:Rs):0≤mlt x y∧mlt x y≤1∧(y.lf=false→mlt x y=0):=by
 unfold mlt
 split
 ·rename_i h;exact ⟨by omega,by omega,fun e=>by rw [e] at h;simp at h⟩
 ·exact ⟨by omega,by omega,fun _=>rfl⟩
theorem ok_zero:Ok zero:=⟨by decide,by decide,by decide,by decide,fun _=>rfl⟩
theorem mlt_le {x y:Rs} (hy:Ok y):mlt x y≤y.b:=by
 obtain ⟨h1,h2,h3⟩:=mlt_range x y
 cases h:y.lf with
 | true=>have:=hy.l1 h;omega
 | false=>have:=h3 h;have:=hy.b0;omega
theorem ok_add {x y:Rs} (hx:Ok x) (hy:Ok y):Ok (add x y):=by
 unfold add
 by_cases h1:x.a=0
 ·rw [if_pos h1];exact hy
 ·rw [if_neg h1]
  by_cases h2:y.a=0
  ·rw [if_pos h2];exact hx
  ·rw [if_neg h2]
   have:=mlt_le (x:=x) hy
   have a1:=hx.a0
   have a2:=hy.a0
   have a3:=hx.s0
   have a4:=hy.s0
   have a5:=hx.b0
   refine ⟨?_,?_,?_,?_,?_⟩ <;> simp only
   ·omega
   ·omega
   ·omega
   ·intro h;have:=hx.l1 h;omega
   ·intro h;omega
theorem zadd (x:Rs):add zero x=x:=by unfold add;rw [if_pos (show zero.a=0 from rfl)]
theorem addz (x:Rs) (hx:Ok x):add x zero=x:=by
 unfold add
 by_cases h1:x.a=0
 ·rw [if_pos h1];exact (hx.z h1).symm
 ·rw [if_neg h1,if_pos (show zero.a=0 from rfl)]
theorem assoc (x y z:Rs) (hx:Ok x) (hy:Ok y) (hz:Ok z):add (add x y) z=add x (add y z):=by
 have a1:=hx.a0
 have a2:=hy.a0
 have a3:=hz.a0
 by_cases h1:x.a=0
 ·rw [hx.z h1,zadd,zadd]
 by_cases h2:y.a=0
 ·rw [hy.z h2,zadd,addz x hx]
 by_cases h3:z.a=0
 ·rw [hz.z h3,addz _ (ok_add hx hy),addz y hy]
 have e1:add x y=⟨x.a + y.a,x.s + y.s,x.b + y.b - mlt x y,x.lf,y.cr⟩:=by unfold add;rw [if_neg h1,if_neg h2]
 have e2:add y z=⟨y.a + z.a,y.s + z.s,y.b + z.b - mlt y z,y.lf,z.cr⟩:=by unfold add;rw [if_neg h2,if_neg h3]
 rw [e1,e2]
 unfold add
 simp only
 rw [if_neg (by omega),if_neg h3,if_neg h1,if_neg (by omega)]
 have m1:mlt ⟨x.a + y.a,x.s + y.s,x.b + y.b - mlt x y,x.lf,y.cr⟩ z=mlt y z:=rfl
 have m2:mlt x ⟨y.a + z.a,y.s + z.s,y.b + z.b - mlt y z,y.lf,z.cr⟩=mlt x y:=rfl
 rw [m1,m2]
 simp only [Rs.mk.injEq]
 refine ⟨by omega,by omega,by omega,by simp,by simp⟩
theorem mono (x y:Rs) (k:Int) (hx:Ok x) (hy:Ok y):key x k≤key (add x y) k:=by
 have a1:=hx.a0
 have a2:=hy.a0
 have a5:=hx.b0
 have a6:=hy.b0
 have:=mlt_le (x:=x) hy
 unfold add
 by_cases h1:x.a=0
 ·rw [if_pos h1,hx.z h1]
  unfold key zero
  simp only
  split
  ·omega
  ·split <;> omega
 rw [if_neg h1]
 by_cases h2:y.a=0
 ·rw [if_pos h2];exact Int.le_refl _
 rw [if_neg h2]
 unfold key
 simp only
 split
 ·omega
 ·split <;> omega
end Rs
structure It where
 p:Option Addr
 n:Nat
 c:Nat
 pl:Int
 sp:Rs
 ok:Rs.Ok sp
def It.zero:It:=⟨none,0,0,0,Rs.zero,Rs.ok_zero⟩
def Rs.meas (x:It):Rs:=x.sp
def rA:Alg It Rs where
 zero:=Rs.zero
 add:=Rs.add
 meas:=Rs.meas
 key:=Rs.key
 Ok:=Rs.Ok
 okz:=Rs.ok_zero
 okm:=fun x=>x.ok
 oka:=fun _ _ ha hb=>Rs.ok_add ha hb
 assoc:=Rs.assoc
 zadd:=fun a _=>Rs.zadd a
 addz:=Rs.addz
 mono:=Rs.mono
 keyz:=fun k=>by unfold Rs.key Rs.zero;simp
def wt:List It→Nat
 | []=>0
 | x :: l=>1 + x.sp.a.toNat + x.sp.s.toNat + x.sp.b.toNat + wt l
theorem wt_nil:wt []=0:=rfl
theorem wt_cons (x:It) (l:List It):wt (x :: l)=1 + x.sp.a.toNat + x.sp.s.toNat + x.sp.b.toNat + wt l:=rfl
theorem wt_app (a b:List It):wt (a ++ b)=wt a + wt b:=by
 induction a with
 | nil=>simp [wt]
 | cons x a ih=>rw [List.cons_append,wt_cons,wt_cons,ih];omega
theorem wt_len (l:List It):l.length≤wt l:=by
 induction l with
 | nil=>simp
 | cons x l ih=>rw [wt_cons,List.length_cons];omega
theorem Rs.bound (l:List It):(rA.su l).a + (rA.su l).s + (rA.su l).b + l.length≤wt l:=by
 induction l with
 | nil=>simp [Alg.su_nil,wt,rA,Rs.zero]
 | cons x l ih =>
   rw [Alg.su_cons,wt_cons,List.length_cons]
   have hx:=x.ok
   have hl:=rA.ok l
   have e:rA.add (rA.meas x) (rA.su l)=Rs.add x.sp (rA.su l):=rfl
   rw [e]
   generalize rA.su l=q at *
   have b1:=hx.a0
   have b2:=hx.s0
   have b3:=hx.b0
   have c1:0≤q.a:=hl.a0
   have c2:0≤q.s:=hl.s0
   have c3:0≤q.b:=hl.b0
   have m:=Rs.mlt_range x.sp q
   unfold Rs.add
   by_cases h1:x.sp.a=0
   ·rw [if_pos h1];omega
   ·rw [if_neg h1]
    by_cases h2:q.a=0
    ·rw [if_pos h2];omega
    ·rw [if_neg h2];simp only;omega
abbrev C7s (w:World) (b:Nat) (x:It):Prop:=w.cell? ⟨b,0,none⟩=some (.slice x.p x.n x.c)∧w.cell? ⟨b,1,none⟩=some (.int .i64 x.pl)∧w.cell? ⟨b,2,none⟩=some (.int .i64 x.sp.a)∧w.cell? ⟨b,3,none⟩=some (.int .i64 x.sp.s)∧w.cell? ⟨b,4,none⟩=some (.int .i64 x.sp.b)∧w.cell? ⟨b,5,none⟩=some (.bool x.sp.lf)∧w.cell? ⟨b,6,none⟩=some (.bool x.sp.cr)
end Go.Proofs.YtdhciadajendnaaGreat.P
namespace Go.Proofs.YtdhciadajendnaaGreat.P
structure Tr (α:Type) where
 kid:Option (Tr α × α × Tr α)
namespace Tr
variable {α:Type}
abbrev nil:Tr α:=⟨none⟩
abbrev node (l:Tr α) (x:α) (r:Tr α):Tr α:=⟨some (l,x,r)⟩
def list:Tr α→List α
 | ⟨none⟩=>[]
 | ⟨some (l,x,r)⟩=>l.list ++ x :: r.list
def ht:Tr α→Nat
 | ⟨none⟩=>0
 | ⟨some (l,_,r)⟩=>max l.ht r.ht + 1
def Bal:Tr α→Prop
 | ⟨none⟩=>True
 | ⟨some (l,_,r)⟩=>l.Bal∧r.Bal∧l.ht≤r.ht + 1∧r.ht≤l.ht + 1
theorem ind {motive:Tr α→Prop} (nil:motive .nil) (node:∀ l x r,motive l→motive r→motive (.node l x r)):∀ t,motive t
 | ⟨none⟩=>nil
 | ⟨some (l,x,r)⟩=>node l x r (ind nil node l) (ind nil node r)
theorem ht_le (t:Tr α):t.ht≤t.list.length:=by
 induction t using ind with
 | nil=>simp [ht]
 | node l x r hl hr=>simp [ht,list];omega
theorem ht_pos {t:Tr α} (h:0 < t.ht):∃ l x r,t=node l x r:=by
 cases t using ind with
 | nil=>simp [ht] at h
 | node l x r=>exact ⟨l,x,r,rfl⟩
end Tr
def dig (n:Nat):Nat:=if n=0 then 0 else Nat.log2 n + 1
theorem dig_zero:dig 0=0:=rfl
theorem dig_pos {n:Nat} (h:0 < n):dig n=dig (n / 2) + 1:=by
 unfold dig
 rw [if_neg (by omega),Nat.log2_def]
 by_cases h2:2≤n
 ·rw [if_pos h2,if_neg (by omega)]
 ·rw [if_neg h2,if_pos (by omega)]
theorem dig_mono {a b:Nat} (h:a≤b):dig a≤dig b:=by
 induction b using Nat.strongRecOn generalizing a with
 | _ b ih =>
   by_cases ha:a=0
   ·subst ha;simp [dig_zero]
   ·rw [dig_pos (by omega),dig_pos (n:=b) (by omega)]
    have:=ih (b / 2) (by omega) (a:=a / 2) (by omega)
    omega
theorem dig_step (n:Nat):dig (n + 1)≤dig n + 1:=by
 induction n using Nat.strongRecOn with
 | _ n ih =>
   by_cases h:n=0
   ·subst h;rw [dig_pos (by omega)];simp [dig_zero]
   ·rw [dig_pos (by omega),dig_pos (n:=n) (by omega)]
    by_cases he:(n + 1) / 2=n / 2
    ·rw [he];omega
    ·have:(n + 1) / 2=n / 2 + 1:=by omega
     rw [this]
     have:=ih (n / 2) (by omega)
     omega
structure Made {α:Type} (t:Tr α) (l:Tr α) (x:α) (r:Tr α):Prop where
 list:t.list=l.list ++ x :: r.list
 bal:l.Bal→r.Bal→l.ht≤r.ht + 2→r.ht≤l.ht + 2→t.Bal∧max l.ht r.ht≤t.ht∧t.ht≤max l.ht r.ht + 1∧(l.ht≤r.ht + 1→r.ht≤l.ht + 1→t.ht=max l.ht r.ht + 1)
theorem Made.branch {α:Type} {l r:Tr α} {x:α} (h1:l.ht≤r.ht + 1) (h2:r.ht≤l.ht + 1):Made (.node l x r) l x r :=
 ⟨rfl,fun hl hr _ _=>⟨⟨hl,hr,h1,h2⟩,by simp [Tr.ht]⟩⟩
theorem Made.right1 {α:Type} {ll lr r:Tr α} {y x:α} (h:r.ht + 1 < (Tr.node ll y lr).ht) (h1:lr.ht≤ll.ht):Made (.node ll y (.node lr x r)) (.node ll y lr) x r:=by
 refine ⟨by simp [Tr.list],fun ⟨bl,br,e1,e2⟩ hr h3 h4=>?_⟩
 simp only [Tr.ht,Tr.Bal] at *
 refine ⟨⟨bl,⟨br,hr,?_,?_⟩,?_,?_⟩,?_,?_,?_⟩ <;> omega
theorem Made.right2 {α:Type} {ll a b r:Tr α} {y z x:α} (h:r.ht + 1 < (Tr.node ll y (.node a z b)).ht) (h1:ll.ht < (Tr.node a z b).ht):Made (.node (.node ll y a) z (.node b x r)) (.node ll y (.node a z b)) x r:=by
 refine ⟨by simp [Tr.list],fun ⟨bl,⟨ba,bb,f1,f2⟩,e1,e2⟩ hr h3 h4=>?_⟩
 simp only [Tr.ht,Tr.Bal] at *
 refine ⟨⟨⟨bl,ba,?_,?_⟩,⟨bb,hr,?_,?_⟩,?_,?_⟩,?_,?_,?_⟩ <;> omega
theorem Made.left1 {α:Type} {l rl rr:Tr α} {y x:α} (h:l.ht + 1 < (Tr.node rl y rr).ht) (h1:rl.ht≤rr.ht):Made (.node (.node l x rl) y rr) l x (.node rl y rr):=by
 refine ⟨by simp [Tr.list],fun hl ⟨bl,br,e1,e2⟩ h3 h4=>?_⟩
 simp only [Tr.ht,Tr.Bal] at *
 refine ⟨⟨⟨hl,bl,?_,?_⟩,br,?_,?_⟩,?_,?_,?_⟩ <;> omega
theorem Made.left2 {α:Type} {l a b rr:Tr α} {y z x:α} (h:l.ht + 1 < (Tr.node (.node a z b) y rr).ht) (h1:rr.ht < (Tr.node a z b).ht):Made (.node (.node l x a) z (.node b y rr)) l x (.node (.node a z b) y rr):=by
 refine ⟨by simp [Tr.list],fun hl ⟨⟨ba,bb,f1,f2⟩,br,e1,e2⟩ h3 h4=>?_⟩
 simp only [Tr.ht,Tr.Bal] at *
 refine ⟨⟨⟨hl,ba,?_,?_⟩,⟨bb,br,?_,?_⟩,?_,?_⟩,?_,?_,?_⟩ <;> omega
structure Joined {α:Type} (t:Tr α) (l:Tr α) (x:α) (r:Tr α):Prop where
 list:t.list=l.list ++ x :: r.list
 bal:l.Bal→r.Bal→t.Bal∧max l.ht r.ht≤t.ht∧t.ht≤max l.ht r.ht + 1
theorem Joined.branch {α:Type} {l r:Tr α} {x:α} (h1:l.ht≤r.ht + 1) (h2:r.ht≤l.ht + 1):Joined (.node l x r) l x r :=
 ⟨rfl,fun hl hr=>⟨⟨hl,hr,h1,h2⟩,by simp [Tr.ht]⟩⟩
theorem Joined.downL {α:Type} {ll lr r j t:Tr α} {y x:α} (h:r.ht + 1 < (Tr.node ll y lr).ht) (hj:Joined j lr x r) (ht:Made t ll y j):Joined t (.node ll y lr) x r:=by
 refine ⟨by rw [ht.list,hj.list];simp [Tr.list],fun ⟨bl,br,e1,e2⟩ hr=>?_⟩
 obtain ⟨bj,j1,j2⟩:=hj.bal br hr
 simp only [Tr.ht] at h
 obtain ⟨bt,t1,t2,t3⟩:=ht.bal bl bj (by omega) (by omega)
 simp only [Tr.ht]
 refine ⟨bt,?_,?_⟩
 ·by_cases hh:j.ht≤ll.ht + 1∧ll.ht≤j.ht + 1
  ·have:=t3 hh.2 hh.1;omega
  ·omega
 ·omega
theorem Joined.downR {α:Type} {l rl rr j t:Tr α} {y x:α} (h:l.ht + 1 < (Tr.node rl y rr).ht) (hj:Joined j l x rl) (ht:Made t j y rr):Joined t l x (.node rl y rr):=by
 refine ⟨by rw [ht.list,hj.list];simp [Tr.list],fun hl ⟨bl,br,e1,e2⟩=>?_⟩
 obtain ⟨bj,j1,j2⟩:=hj.bal hl bl
 simp only [Tr.ht] at h
 obtain ⟨bt,t1,t2,t3⟩:=ht.bal bj br (by omega) (by omega)
 simp only [Tr.ht]
 refine ⟨bt,?_,?_⟩
 ·by_cases hh:j.ht≤rr.ht + 1∧rr.ht≤j.ht + 1
  ·have:=t3 hh.1 hh.2;omega
  ·omega
 ·omega
structure Rest {α:Type} (t:Tr α) (x:α) (n:Tr α):Prop where
 list:n.list=x :: t.list
 bal:n.Bal→t.Bal∧t.ht≤n.ht∧n.ht≤t.ht + 1
theorem Rest.here {α:Type} {r:Tr α} {x:α}:Rest r x (.node .nil x r) :=
 ⟨rfl,fun ⟨_,br,e1,e2⟩=>by simp only [Tr.ht] at *;exact ⟨br,by omega,by omega⟩⟩
theorem Rest.down {α:Type} {l r j t:Tr α} {y x:α} (hj:Rest j x l) (ht:Made t j y r):Rest t x (.node l y r):=by
 refine ⟨by rw [ht.list,Tr.list,hj.list];simp,fun ⟨bl,br,e1,e2⟩=>?_⟩
 obtain ⟨bj,j1,j2⟩:=hj.bal bl
 obtain ⟨bt,t1,t2,t3⟩:=ht.bal bj br (by omega) (by omega)
 simp only [Tr.ht]
 refine ⟨bt,?_,?_⟩
 ·by_cases hh:j.ht≤r.ht + 1∧r.ht≤j.ht + 1
  ·have:=t3 hh.1 hh.2;omega
  ·omega
 ·by_cases hh:j.ht≤r.ht + 1∧r.ht≤j.ht + 1
  ·have:=t3 hh.1 hh.2;omega
  ·omega
open Go.RowKit
def Hid (p:Prop):Prop:=p
theorem Hid.out {p:Prop} (h:Hid p):p:=h
theorem ret_int {k:IntKind} {a b:Int} (h:a=b):Ending.returned (.int k a)=.returned (.int k b):=by rw [h]
theorem ret_bool {a b:Bool} (h:a=b):Ending.returned (.bool a)=.returned (.bool b):=by rw [h]
theorem zxt {a b c:World} (h:Below a.heap.size a b) (k:Below b.heap.size b c):Below a.heap.size a c:=h.trans (k.mono h.size)
theorem zxa {a b:World} (h:Below a.heap.size a b) (o:Obj):Below a.heap.size a (b.alloc o):=h.alloc h.size o
theorem C7.ext {w w':World} (hb:Below w.heap.size w w') {b o:Nat} (hlt:b < w.heap.size) {x:It} (h:(w.cell? ⟨b,o,none⟩=some (.slice x.p x.n x.c)∧w.cell? ⟨b,o + 1,none⟩=some (.int .i64 x.pl)∧w.cell? ⟨b,o + 2,none⟩=some (.int .i64 x.sp.a)∧w.cell? ⟨b,o + 3,none⟩=some (.int .i64 x.sp.s)∧w.cell? ⟨b,o + 4,none⟩=some (.int .i64 x.sp.b)∧w.cell? ⟨b,o + 5,none⟩=some (.bool x.sp.lf)∧w.cell? ⟨b,o + 6,none⟩=some (.bool x.sp.cr))):(w'.cell? ⟨b,o,none⟩=some (.slice x.p x.n x.c)∧w'.cell? ⟨b,o + 1,none⟩=some (.int .i64 x.pl)∧w'.cell? ⟨b,o + 2,none⟩=some (.int .i64 x.sp.a)∧w'.cell? ⟨b,o + 3,none⟩=some (.int .i64 x.sp.s)∧w'.cell? ⟨b,o + 4,none⟩=some (.int .i64 x.sp.b)∧w'.cell? ⟨b,o + 5,none⟩=some (.bool x.sp.lf)∧w'.cell? ⟨b,o + 6,none⟩=some (.bool x.sp.cr)) :=
 ⟨(hb.cell (p:=⟨b,o,none⟩) hlt).trans h.1,(hb.cell (p:=⟨b,o + 1,none⟩) hlt).trans h.2.1,(hb.cell (p:=⟨b,o + 2,none⟩) hlt).trans h.2.2.1,(hb.cell (p:=⟨b,o + 3,none⟩) hlt).trans h.2.2.2.1,(hb.cell (p:=⟨b,o + 4,none⟩) hlt).trans h.2.2.2.2.1,(hb.cell (p:=⟨b,o + 5,none⟩) hlt).trans h.2.2.2.2.2.1,(hb.cell (p:=⟨b,o + 6,none⟩) hlt).trans h.2.2.2.2.2.2⟩
def RdR (w:World) (v:Value) (xs:List It):Prop :=
 ∃ ao cap,v=.slice ao xs.length cap∧xs.length≤cap∧cap≤maxLen∧(ao=none→cap=0) ∧
   (xs≠[]→∃ b off,ao=some ⟨b,off,none⟩∧b < w.heap.size∧∀ i,i < xs.length→(w.cell? ⟨b,off + i * 7,none⟩=some (.slice (xs[i]?.getD It.zero).p (xs[i]?.getD It.zero).n (xs[i]?.getD It.zero).c)∧w.cell? ⟨b,off + i * 7 + 1,none⟩=some (.int .i64 (xs[i]?.getD It.zero).pl)∧w.cell? ⟨b,off + i * 7 + 2,none⟩=some (.int .i64 (xs[i]?.getD It.zero).sp.a)∧w.cell? ⟨b,off + i * 7 + 3,none⟩=some (.int .i64 (xs[i]?.getD It.zero).sp.s)∧w.cell? ⟨b,off + i * 7 + 4,none⟩=some (.int .i64 (xs[i]?.getD It.zero).sp.b)∧w.cell? ⟨b,off + i * 7 + 5,none⟩=some (.bool (xs[i]?.getD It.zero).sp.lf)∧w.cell? ⟨b,off + i * 7 + 6,none⟩=some (.bool (xs[i]?.getD It.zero).sp.cr))∧True)
theorem RdR.ext {w w':World} {v:Value} {xs:List It} (h:RdR w v xs) (hb:Below w.heap.size w w'):RdR w' v xs:=by
 obtain ⟨ao,cap,hv,h1,h2,h0,h3⟩:=h
 refine ⟨ao,cap,hv,h1,h2,h0,fun hn=>?_⟩
 obtain ⟨b,off,ha,hlt,hc⟩:=h3 hn
 exact ⟨b,off,ha,Nat.lt_of_lt_of_le hlt hb.size,fun i hi=>⟨C7.ext hb hlt (hc i hi).1,trivial⟩⟩
theorem RdR.nil (w:World):RdR w (.slice none 0 0) []:=⟨none,0,rfl,Nat.le_refl _,by simp [maxLen],fun _=>rfl,fun h=>absurd rfl h⟩
def Blk (T:TypeId) (w:World) (g:Nat) (s:Rs):Prop:=w.heap[g]?=some (.cells #[.int .i64 s.a,.int .i64 s.s,.int .i64 s.b,.bool s.lf,.bool s.cr] T (0,0))
theorem Blk.lt {T:TypeId} {w:World} {g:Nat} {s:Rs} (h:Blk T w g s):g < w.heap.size:=(Array.getElem?_eq_some_iff.1 h).1
theorem Blk.ext {T:TypeId} {w w':World} {g:Nat} {s:Rs} (h:Blk T w g s) (hb:Below w.heap.size w w'):Blk T w' g s:=by unfold Blk;rw [hb.block g h.lt];exact h
theorem Blk.cells {T:TypeId} {w:World} {g:Nat} {s:Rs} (h:Blk T w g s):(w.cell? ⟨g,0,none⟩=some (.int .i64 s.a)∧w.cell? ⟨g,1,none⟩=some (.int .i64 s.s)∧w.cell? ⟨g,2,none⟩=some (.int .i64 s.b)∧w.cell? ⟨g,3,none⟩=some (.bool s.lf)∧w.cell? ⟨g,4,none⟩=some (.bool s.cr))∧True∧True∧True∧(∀ i,w.frozen? ⟨g,i,none⟩=false):=by
 refine ⟨?_,trivial,trivial,trivial,?_⟩
 ·refine ⟨?_,?_,?_,?_,?_⟩ <;> (rw [cell_of_row w g _ _ _ _ h];rfl)
 ·intro i;unfold Blk at h;simp [World.frozen?,h]
theorem Blk.new (T:TypeId) (w:World) (s:Rs):Blk T (w.alloc (.cells #[.int .i64 s.a,.int .i64 s.s,.int .i64 s.b,.bool s.lf,.bool s.cr] T)) w.heap.size s:=heap_alloc_new _ _
theorem set1 {T:TypeId} {w:World} {g:Nat} {cs:Array Value} (hg:w.heap[g]?=some (.cells cs T (0,0))) (i:Nat) (v:Value):(w.setCell ⟨g,i,none⟩ v).heap[g]?=some (.cells (cs.setIfInBounds i v) T (0,0))∧w.grownBy (w.setCell ⟨g,i,none⟩ v) (some g):=by
 rw [setCell_eq_setRow w g i _ _ _ _ hg]
 exact ⟨setRow_heap w g _ _ T (0,0) hg,⟨rfl,rfl,rfl,by simp [World.setRow],fun j _ hk=>setRow_other w g j _ (by intro e;subst e;exact hk rfl)⟩⟩
theorem zgt {a b c:World} {k:Nat} (h:a.grownBy b (some k)) (h':b.grownBy c (some k)):a.grownBy c (some k) :=
 ⟨h'.os.trans h.os,h'.tape.trans h.tape,h'.output.trans h.output,Nat.le_trans h.size h'.size,fun j hj hk=>(h'.block j (Nat.lt_of_lt_of_le hj h.size) hk).trans (h.block j hj hk)⟩
theorem zbp {B:Nat} {w wr w':World} {g:Nat} (hb:Below B w wr) (hB:B≤wr.heap.size) (hg:wr.grownBy w' (some g)) (hk:B≤g):Below B w w' :=
 hb.grown hg hB (fun k e=>by cases e;exact hk)
theorem Blk.put {T:TypeId} {w:World} {g:Nat} {s:Rs} (h:Blk T w g s) (q:Rs):Blk T (((((w.setCell ⟨g,0,none⟩ (.int .i64 q.a)).setCell ⟨g,1,none⟩ (.int .i64 q.s)).setCell ⟨g,2,none⟩ (.int .i64 q.b)).setCell ⟨g,3,none⟩ (.bool q.lf)).setCell ⟨g,4,none⟩ (.bool q.cr)) g q∧w.grownBy (((((w.setCell ⟨g,0,none⟩ (.int .i64 q.a)).setCell ⟨g,1,none⟩ (.int .i64 q.s)).setCell ⟨g,2,none⟩ (.int .i64 q.b)).setCell ⟨g,3,none⟩ (.bool q.lf)).setCell ⟨g,4,none⟩ (.bool q.cr)) (some g):=by
 obtain ⟨h1,g1⟩:=set1 h 0 (.int .i64 q.a)
 obtain ⟨h2,g2⟩:=set1 h1 1 (.int .i64 q.s)
 obtain ⟨h3,g3⟩:=set1 h2 2 (.int .i64 q.b)
 obtain ⟨h4,g4⟩:=set1 h3 3 (.bool q.lf)
 obtain ⟨h5,g5⟩:=set1 h4 4 (.bool q.cr)
 exact ⟨h5,zgt (zgt (zgt (zgt g1 g2) g3) g4) g5⟩
theorem Blk.other {T:TypeId} {w w':World} {g k:Nat} {s:Rs} (h:Blk T w g s) (hb:w.grownBy w' (some k)) (hk:g≠k):Blk T w' g s:=by unfold Blk;rw [hb.block g h.lt (by simpa using hk)];exact h
theorem zh {p:Prop} (h:p):Hid p:=h
open Go.RowKit
def pcs (x:It):List Value:=[.slice x.p x.n x.c,.int .i64 x.pl,.int .i64 x.sp.a,.int .i64 x.sp.s,.int .i64 x.sp.b,.bool x.sp.lf,.bool x.sp.cr]
def flat (xs:List It):List Value:=xs.flatMap pcs
theorem flat_cons (x:It) (xs:List It):flat (x :: xs)=pcs x ++ flat xs:=rfl
theorem flat_len (xs:List It):(flat xs).length=xs.length * 7:=by
 induction xs with
 | nil=>rfl
 | cons x xs ih=>rw [flat_cons,List.length_append,ih,List.length_cons];show 7 + _=_;omega
theorem flat_app (xs ys:List It):flat (xs ++ ys)=flat xs ++ flat ys:=by simp [flat]
theorem flat_one (xs:List It):∀ u ∈ flat xs,u.oneCell'=true:=by
 intro u hu
 simp only [flat,List.mem_flatMap,pcs,List.mem_cons,List.not_mem_nil,or_false] at hu
 obtain ⟨x,_,rfl | rfl | rfl | rfl | rfl | rfl | rfl⟩:=hu <;> rfl
theorem flat_at (xs:List It):∀ i,i < xs.length→∀ r,r < 7→(flat xs)[i * 7 + r]?=(pcs (xs[i]?.getD It.zero))[r]?:=by
 induction xs with
 | nil=>intro i h;simp at h
 | cons x xs ih =>
   intro i h r hr
   rw [flat_cons]
   cases i with
   | zero=>rw [List.getElem?_append_left (by show 0 * 7 + r < 7;omega)];simp
   | succ i =>
     rw [List.getElem?_append_right (by show 7≤_;omega),show (i + 1) * 7 + r - (pcs x).length=i * 7 + r by show _ - 7=_;omega,ih i (by simpa using h) r hr]
     simp
def OwnR (w:World) (base:Nat) (e:TypeId) (v:Value) (xs:List It):Prop:=w.ownsRow base e 7 v xs.length (flat xs)
theorem OwnR.rd {w:World} {base:Nat} {e:TypeId} {v:Value} {xs:List It} (h:OwnR w base e v xs):RdR w v xs:=by
 obtain ⟨h1,h2⟩:=h
 rcases h2 with ⟨rfl,hn⟩ | ⟨g,cap,cur,rfl,hb,hg,hn,hc,hs,ht⟩
 ·rw [List.length_eq_zero_iff] at hn;subst hn;exact RdR.nil w
 ·refine ⟨_,cap,rfl,hn,hc,(fun h=>by cases h),fun _=>⟨g,0,rfl,(Array.getElem?_eq_some_iff.1 hg).1,fun i hi=>?_⟩⟩
  have h4:∀ r,r < 7→w.cell? ⟨g,0 + i * 7 + r,none⟩=(pcs (xs[i]?.getD It.zero))[r]?:=by
   intro r hr
   have h3:=flat_at xs i hi r hr
   rw [← ht] at h3
   rw [List.getElem?_take,if_pos (by omega)] at h3
   rw [cell_of_row w g _ cur e (0,0) hg,Nat.zero_add]
   simpa using h3
  exact ⟨⟨h4 0 (by omega),h4 1 (by omega),h4 2 (by omega),h4 3 (by omega),h4 4 (by omega),h4 5 (by omega),h4 6 (by omega)⟩,trivial⟩
theorem OwnR.ext {w w':World} {base:Nat} {e:TypeId} {v:Value} {xs:List It} (h:OwnR w base e v xs) (hb:Below w.heap.size w w'):OwnR w' base e v xs :=
 World.ownsRow.kept (row:=none) h ⟨hb.os,hb.tape,hb.output,hb.size,fun k hk _=>hb.block k hk⟩ (by cases v.ownBlock <;> simp)
theorem OwnR.le {w:World} {base base':Nat} {e:TypeId} {v:Value} {xs:List It} (h:OwnR w base e v xs) (hb:base'≤base):OwnR w base' e v xs:=by
 obtain ⟨h1,h2⟩:=h
 refine ⟨h1,?_⟩
 rcases h2 with h2 | ⟨g,cap,cur,hv,hg,r⟩
 ·exact .inl h2
 ·exact .inr ⟨g,cap,cur,hv,Nat.le_trans hb hg,r⟩
theorem OwnR.nil (w:World) (base:Nat) (e:TypeId):OwnR w base e (.slice none 0 0) []:=World.ownsRow_nil _ _ _ _
theorem OwnR.form1 {w:World} {base:Nat} {e:TypeId} {v:Value} {xs:List It} (h:OwnR w base e v xs):∃ ao cap,v=.slice ao xs.length cap:=by
 obtain ⟨ao,cap,hv,_⟩:=h.rd
 exact ⟨ao,cap,hv⟩
section
variable {P:Program} {w:World}
end
theorem Tryz.info_piece:(Tryz.prog.info? 97).map (fun i=>(i.zero,i.size,i.bytes))=some (some (.agg #[.slice It.zero.p It.zero.n It.zero.c,.int .i64 It.zero.pl,.int .i64 It.zero.sp.a,.int .i64 It.zero.sp.s,.int .i64 It.zero.sp.b,.bool It.zero.sp.lf,.bool It.zero.sp.cr]),7,64):=by kernel_rfl
open Go.RowKit
theorem m_meas (p : Option Addr) (n c : Nat) (l a s b : Int) (f r : Bool) (w : World) : (method 323 97 (.agg #[.slice p n c, .int .i64 l, .int .i64 a, .int .i64 s, .int .i64 b, .bool f, .bool r]) "Measure").run Tryz.prog w = .ok (162, .agg #[.slice p n c, .int .i64 l, .int .i64 a, .int .i64 s, .int .i64 b, .bool f, .bool r]) w := by kernel_rfl
theorem m_add (a s b : Int) (f r : Bool) (w : World) : (method 323 94 (.agg #[.int .i64 a, .int .i64 s, .int .i64 b, .bool f, .bool r]) "Add").run Tryz.prog w = .ok (77, .agg #[.int .i64 a, .int .i64 s, .int .i64 b, .bool f, .bool r]) w := by kernel_rfl
theorem m_key (a s b : Int) (f r : Bool) (w : World) : (method 323 94 (.agg #[.int .i64 a, .int .i64 s, .int .i64 b, .bool f, .bool r]) "Key").run Tryz.prog w = .ok (161, .agg #[.int .i64 a, .int .i64 s, .int .i64 b, .bool f, .bool r]) w := by kernel_rfl
theorem n_meas (p : Option Addr) (n c : Nat) (l a s b : Int) (f r : Bool) (w : World) : (nilAhead 323 97 (.agg #[.slice p n c, .int .i64 l, .int .i64 a, .int .i64 s, .int .i64 b, .bool f, .bool r]) "Measure").run Tryz.prog w = .ok (some false) w := by kernel_rfl
theorem n_add (a s b : Int) (f r : Bool) (w : World) : (nilAhead 323 94 (.agg #[.int .i64 a, .int .i64 s, .int .i64 b, .bool f, .bool r]) "Add").run Tryz.prog w = .ok (some false) w := by kernel_rfl
theorem n_key (a s b : Int) (f r : Bool) (w : World) : (nilAhead 323 94 (.agg #[.int .i64 a, .int .i64 s, .int .i64 b, .bool f, .bool r]) "Key").run Tryz.prog w = .ok (some false) w := by kernel_rfl
theorem Measure_any (x:It) (w:World):Calls Tryz.prog 162 #[.agg #[.slice x.p x.n x.c,.int .i64 x.pl,.int .i64 x.sp.a,.int .i64 x.sp.s,.int .i64 x.sp.b,.bool x.sp.lf,.bool x.sp.cr]] w fun e w'=>∃ s,Hid (s=Rs.meas x)∧e=.returned (.agg #[.int .i64 s.a,.int .i64 s.s,.int .i64 s.b,.bool s.lf,.bool s.cr])∧Below w.heap.size w w':=by
 obtain ⟨p,n,c,pl,⟨a,s,b,f,r⟩,ok⟩:=x
 simp only
 have HE:Hid ((⟨a,s,b,f,r⟩:Rs)=Rs.meas ⟨p,n,c,pl,⟨a,s,b,f,r⟩,ok⟩):=rfl
 go_enter Tryz.func162,Tryz.ntmps162
 go_wp2_with fail
 exact bodyPost_ret (v:=.agg #[.int .i64 a,.int .i64 s,.int .i64 b,.bool f,.bool r]) (by simp [results,Tryz.results162,go_sem]) rfl ⟨_,HE,rfl,by repeat (first | exact Below.refl _ _ | refine zxa ?_ _)⟩
theorem melt_any (x y:Rs) (w:World):Calls Tryz.prog 112 #[.agg #[.int .i64 x.a,.int .i64 x.s,.int .i64 x.b,.bool x.lf,.bool x.cr],.agg #[.int .i64 y.a,.int .i64 y.s,.int .i64 y.b,.bool y.lf,.bool y.cr]] w fun e w'=>e=.returned (.bool (x.cr && y.lf))∧Below w.heap.size w w':=by
 obtain ⟨a1,s1,b1,f1,r1⟩:=x
 obtain ⟨a2,s2,b2,f2,r2⟩:=y
 simp only
 cases r1 <;> cases f2
 all_goals
  go_enter Tryz.func112,Tryz.ntmps112
  go_wp2_with fail
  go_ret
  exact ⟨rfl,by repeat (first | exact Below.refl _ _ | refine zxa ?_ _)⟩
theorem Add_any (x y:Rs) (w:World) (h0:0≤x.a) (h1:0≤y.a) (h2:0≤x.s) (h3:0≤y.s) (h4:0≤x.b) (h5:0≤y.b) (h6:x.a + y.a≤9223372036854775807) (h7:x.s + y.s≤9223372036854775807) (h8:x.b + y.b≤9223372036854775807) :
  Calls Tryz.prog 77 #[.agg #[.int .i64 x.a,.int .i64 x.s,.int .i64 x.b,.bool x.lf,.bool x.cr],.agg #[.int .i64 y.a,.int .i64 y.s,.int .i64 y.b,.bool y.lf,.bool y.cr]] w fun e w'=>∃ s,Hid (s=Rs.add x y)∧e=.returned (.agg #[.int .i64 s.a,.int .i64 s.s,.int .i64 s.b,.bool s.lf,.bool s.cr])∧Below w.heap.size w w':=by
 have MT:Hid (∀ w',Calls Tryz.prog 112 #[.agg #[.int .i64 x.a,.int .i64 x.s,.int .i64 x.b,.bool x.lf,.bool x.cr],.agg #[.int .i64 y.a,.int .i64 y.s,.int .i64 y.b,.bool y.lf,.bool y.cr]] w' fun e w''=>e=.returned (.bool (x.cr && y.lf))∧Below w'.heap.size w' w''):=fun w'=>melt_any x y w'
 obtain ⟨a1,s1,b1,f1,r1⟩:=x
 obtain ⟨a2,s2,b2,f2,r2⟩:=y
 simp only at *
 by_cases e1:a1=0
 ·have HE:Hid ((⟨a2,s2,b2,f2,r2⟩:Rs)=Rs.add ⟨a1,s1,b1,f1,r1⟩ ⟨a2,s2,b2,f2,r2⟩):=by simp [Hid,Rs.add,e1]
  clear MT
  go_enter Tryz.func77,Tryz.ntmps77
  go_wp2_with fail
  exact bodyPost_ret (v:=.agg #[.int .i64 a2,.int .i64 s2,.int .i64 b2,.bool f2,.bool r2]) (by simp [results,Tryz.results77,go_sem]) rfl ⟨_,HE,rfl,by repeat (first | exact Below.refl _ _ | refine zxa ?_ _)⟩
 by_cases e2:a2=0
 ·have HE:Hid ((⟨a1,s1,b1,f1,r1⟩:Rs)=Rs.add ⟨a1,s1,b1,f1,r1⟩ ⟨a2,s2,b2,f2,r2⟩):=by simp [Hid,Rs.add,e1,e2]
  clear MT
  go_enter Tryz.func77,Tryz.ntmps77
  go_wp2_with fail
  exact bodyPost_ret (v:=.agg #[.int .i64 a1,.int .i64 s1,.int .i64 b1,.bool f1,.bool r1]) (by simp [results,Tryz.results77,go_sem]) rfl ⟨_,HE,rfl,by repeat (first | exact Below.refl _ _ | refine zxa ?_ _)⟩
 obtain ⟨w4,hw4⟩:∃ w4,w4=(((w.alloc (.cells #[.int .i64 a1,.int .i64 s1,.int .i64 b1,.bool f1,.bool r1] 94)).alloc (.cells #[.int .i64 a2,.int .i64 s2,.int .i64 b2,.bool f2,.bool r2] 94)).alloc (.cells #[.int .i64 0,.int .i64 0,.int .i64 0,.bool false,.bool false] 94)).alloc (.cells #[.int .i64 (a1 + a2),.int .i64 (s1 + s2),.int .i64 (b1 + b2),.bool f1,.bool r2] 94):=⟨_,rfl⟩
 have HB4:Hid (Below w.heap.size w w4):=by unfold Hid;rw [hw4];repeat (first | exact Below.refl _ _ | refine zxa ?_ _)
 have K1:Hid (Blk 94 w4 (w.heap.size + 3) ⟨a1 + a2,s1 + s2,b1 + b2,f1,r2⟩):=by
  unfold Hid Blk
  rw [hw4]
  have e:w.heap.size + 3=(((w.alloc (.cells #[.int .i64 a1,.int .i64 s1,.int .i64 b1,.bool f1,.bool r1] 94)).alloc (.cells #[.int .i64 a2,.int .i64 s2,.int .i64 b2,.bool f2,.bool r2] 94)).alloc (.cells #[.int .i64 0,.int .i64 0,.int .i64 0,.bool false,.bool false] 94)).heap.size:=by simp
  rw [e];exact heap_alloc_new _ _
 have K2:Hid (Blk 94 w4 (w.heap.size + 2) Rs.zero):=by
  unfold Hid
  rw [hw4]
  have e:w.heap.size + 2=((w.alloc (.cells #[.int .i64 a1,.int .i64 s1,.int .i64 b1,.bool f1,.bool r1] 94)).alloc (.cells #[.int .i64 a2,.int .i64 s2,.int .i64 b2,.bool f2,.bool r2] 94)).heap.size:=by simp
  rw [e]
  exact (Blk.new 94 _ Rs.zero).ext (zxa (Below.refl _ _) _)
 have EA:Hid (∀ m:Int,(if r1=true∧f2=true then (1:Int) else 0)=m→(⟨a1 + a2,s1 + s2,b1 + b2 - m,f1,r2⟩:Rs)=Rs.add ⟨a1,s1,b1,f1,r1⟩ ⟨a2,s2,b2,f2,r2⟩):=fun m hm=>by unfold Rs.add Rs.mlt;simp only;rw [if_neg e1,if_neg e2,hm]
 go_enter Tryz.func77,Tryz.ntmps77
 go_wp2_with fail
 rw [← hw4]
 clear hw4
 refine (MT.out w4).mono ?_
 rintro e w5 ⟨rfl,hb5⟩
 have HB5:=zh (zxt HB4.out hb5)
 have G1:=zh (K1.out.ext hb5)
 have G2:=zh (K2.out.ext hb5)
 clear hb5 MT K1 K2 HB4
 obtain ⟨c0,_,_,_,cf⟩:=G1.out.cells
 obtain ⟨d0,_,_,_,df⟩:=G2.out.cells
 have l1:=G1.out.lt
 have l2:=G2.out.lt
 simp only at c0 d0
 cases hr:r1 <;> cases hf:f2
 all_goals
  subst hr
  subst hf
 case true.true =>
  have HE:=zh (EA.out 1 (by decide))
  clear EA
  go_wp2_with fail
  obtain ⟨n1,n2⟩:=set1 G1.out 2 (.int .i64 (b1 + b2 - 1))
  obtain ⟨p1,p2⟩:=(G2.out.other n2 (by omega)).put ⟨a1 + a2,s1 + s2,b1 + b2 - 1,f1,r2⟩
  have q1:(w5.setCell ⟨w.heap.size + 3,2,none⟩ (.int .i64 (b1 + b2 - 1))).heap.size=w5.heap.size:=by simp
  exact bodyPost_ret (v:=.agg #[.int .i64 (a1 + a2),.int .i64 (s1 + s2),.int .i64 (b1 + b2 - 1),.bool f1,.bool r2]) (by simp [results,Tryz.results77,go_sem,d0]) rfl ⟨_,HE,rfl,zbp (zbp HB5.out HB5.out.size n2 (by omega)) (by rw [q1];exact HB5.out.size) p2 (by omega)⟩
 all_goals
  have HE:=zh (EA.out 0 (by decide))
  rw [Int.sub_zero] at HE
  clear EA
  go_wp2_with fail
  obtain ⟨p1,p2⟩:=G2.out.put ⟨a1 + a2,s1 + s2,b1 + b2,f1,r2⟩
  exact bodyPost_ret (v:=.agg #[.int .i64 (a1 + a2),.int .i64 (s1 + s2),.int .i64 (b1 + b2),.bool f1,.bool r2]) (by simp [results,Tryz.results77,go_sem,d0]) rfl ⟨_,HE,rfl,zbp HB5.out HB5.out.size p2 (by omega)⟩
theorem Key_any (x:Rs) (k:Int) (w:World):Calls Tryz.prog 161 #[.agg #[.int .i64 x.a,.int .i64 x.s,.int .i64 x.b,.bool x.lf,.bool x.cr],.int .i64 k] w fun e w'=>e=.returned (.int .i64 (Rs.key x k))∧Below w.heap.size w w':=by
 obtain ⟨a1,a2,a3,a4,a5⟩:=x
 by_cases e1:k=0
 ·have HE:Hid (Rs.key ⟨a1,a2,a3,a4,a5⟩ k=a1):=by simp [Hid,Rs.key,e1]
  go_enter Tryz.func161,Tryz.ntmps161
  go_wp2_with fail
  go_ret
  exact ⟨ret_int HE.out.symm,zxa (Below.refl _ _) _⟩
 by_cases e2:k=1
 ·have HE:Hid (Rs.key ⟨a1,a2,a3,a4,a5⟩ k=a3):=by simp [Hid,Rs.key,e2]
  go_enter Tryz.func161,Tryz.ntmps161
  go_wp2_with fail
  go_ret
  exact ⟨ret_int HE.out.symm,zxa (Below.refl _ _) _⟩
 ·have HE:Hid (Rs.key ⟨a1,a2,a3,a4,a5⟩ k=0):=by simp [Hid,Rs.key,e1,e2]
  go_enter Tryz.func161,Tryz.ntmps161
  go_wp2_with fail
  go_ret
  exact ⟨ret_int HE.out.symm,zxa (Below.refl _ _) _⟩
theorem add_su (a b:List It) (s t:Rs) (w:World) (hs:Hid (s=rA.su a)) (ht:Hid (t=rA.su b)) (hw:wt (a ++ b)≤4611686018427387904) :
  Calls Tryz.prog 77 #[.agg #[.int .i64 s.a,.int .i64 s.s,.int .i64 s.b,.bool s.lf,.bool s.cr],.agg #[.int .i64 t.a,.int .i64 t.s,.int .i64 t.b,.bool t.lf,.bool t.cr]] w fun e w'=>∃ q,Hid (q=rA.su (a ++ b))∧e=.returned (.agg #[.int .i64 q.a,.int .i64 q.s,.int .i64 q.b,.bool q.lf,.bool q.cr])∧Below w.heap.size w w':=by
 have h1:=Rs.bound a
 have h2:=Rs.bound b
 have k1:Rs.Ok (rA.su a):=rA.ok a
 have k2:Rs.Ok (rA.su b):=rA.ok b
 rw [wt_app] at hw
 rw [← hs.out] at h1 k1
 rw [← ht.out] at h2 k2
 obtain ⟨m1,m2,m3,_,_⟩:=k1
 obtain ⟨n1,n2,n3,_,_⟩:=k2
 refine (Add_any s t w m1 n1 m2 n2 m3 n3 (by omega) (by omega) (by omega)).mono ?_
 rintro e w' ⟨q,hq,he,hb⟩
 refine ⟨q,?_,he,hb⟩
 unfold Hid
 rw [hq.out,hs.out,ht.out,Alg.su_app]
 rfl
theorem su_one (x:It):rA.su [x]=Rs.meas x:=by rw [Alg.su_cons,Alg.su_nil];exact rA.addz _ (rA.okm x)
end Go.Proofs.YtdhciadajendnaaGreat.P
